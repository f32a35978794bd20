import PyProof.Rows.All
import Wide.All
import OpenK.AllK
import Wide.FinOn
import Lean
import PyProof.EqAt
import PyProof.EqKinds
import PyProof.TupleCall
import PyProof.NeKinds
import KE.KDictSum
import PyProof.Rows.SetFrom
import KE.KSortTup
import KE.KLam
import KE.KMinKey
import PySem.Challenge.RW_rankgarth_k37_whole_papers_of_both_hands
set_option linter.all false
set_option Elab.async false
set_option maxRecDepth 100000
set_option maxHeartbeats 4000000
open Array renaming length_toList->bS,getD_eq_getD_getElem?->dD,getElem?_eq_getElem->dQ,getElem?_toList->eZ,perm_iff_toList_perm->nn,eq_empty_of_size_eq_zero->wF,append_assoc->Ks
open Array.Perm renaming refl->Ii
open Bool renaming false_ne_true->bg,and_eq_true->bR,eq_iff_iff->eM,and_eq_true_iff->gO,false_eq_true->iI,not_eq_true'->kP,or_eq_true->zk
open Classical renaming byContradiction->bB,choose_spec->Cc
open Except renaming ok->CJ,error->Wh
open False renaming elim->fF
open ForInStep renaming yield->gi
open Int renaming toNat_natCast->cv,le_refl->dz,emod_lt_of_pos->dM,emod_nonneg->eS,mul_le_mul_of_nonneg_left->iJ,mul_le_mul_of_nonneg_right->lT,toNat_of_nonneg->m4,neg_mul->oU,le_trans->qD,mul_nonneg->sr,zero_add->wM,one_mul->zl,pow_nonneg->CM,pow_succ->Io,pow_zero->Ip,add_mul->KC,mul_neg->KD,mul_one->KF,lt_or_eq_of_le->OO,le_antisymm->Wl
open List renaming getElem?_eq_some_iff->af,length_map->ag,getElem?_eq_getElem->ao,mem_of_getElem?->aq,mem_cons->aB,replicate->aD,mem_cons_self->aE,getElem?_map->aI,mem_cons_of_mem->aL,mem_map->aM,map_append->aN,length_append->aO,mem_singleton->aP,mem_append_right->aT,size_toArray->aV,take_length->aY,length_cons->bi,mem_append->bj,getElem?_eq_none->bo,filter_cons_of_pos->bq,range->br,take_add_one->bw,filter_cons_of_neg->bz,mem_filter->bF,lookup_cons->bP,length_pos_iff->bT,getElem?_append_right->bU,getElem?_append_left->bW,mem_append_left->bY,getElem?_of_mem->ce,getElem_mem->cq,length_take->cA,length_singleton->cC,map_cons->cG,Nodup->cO,getElem?_set_self->cS,pairwise_map->cT,filter_append->cV,ext_getElem?->c6,eq_nil_of_length_eq_zero->de,getElem?_set_ne->dg,nodup_cons->dt,getElem?_range->dy,length_filter_le->dA,length_replicate->dX,mem_range->d8,append_nil->d9,getElem?_replicate->er,lookup->eC,not_mem_nil->eE,nodup_append->eK,take_append_drop->fb,take_zero->fD,length_nil->fM,length_set->fN,nil_append->fO,filterMap_cons->fT,flatten_append->fU,replicate_succ->fV,all_eq_true->f9,getD_eq_getElem?_getD->gj,drop_eq_getElem_cons->gJ,find?_cons->gL,flatten_cons->gP,filter->iG,pairwise_lt_range->iK,range_succ->iO,getElem?_zipWith->iV,map_congr_left->jJ,forIn_cons->jT,getElem?_drop->kj,getElem?_take->km,mem_filterMap->kn,pairwise_cons->ko,length_eq_zero_iff->kA,append_assoc->kS,any_eq_true->lO,cons_append->lP,length->l9,take_append_of_le_length->md,append_of_mem->nN,nodup_nil->nO,take_succ->nQ,zip_cons_cons->nR,map_map->qm,take_of_length_le->qo,replicate_succ'->rY,length_zipWith->ud,take_succ_cons->ue,any_cons->uw,ne_nil_of_mem->u9,map_nil->vV,mem_flatten->xY,drop_append_of_le_length->yr,exists_mem_of_length_pos->yt,dropLast_concat_getLast->zn,of_mem_zip->zp,foldl->Cf,mem_of_find?_eq_some->CN,pairwise_iff_getElem->CO,getElem?_take_of_lt->Ep,length_erase_of_mem->Er,length_filterMap_le->Es,append_eq_nil_iff->Gn,length_pos_of_mem->Go,mem_erase_of_ne->J2,zip_nil_right->N8,getElem?_inj->OQ,length_range->OR,take_sublist->OS,zip_nil_left->OT,getElem_inj->RE,getElem_map->RF,length_drop->RG,mem_flatMap->RH,zipIdx_cons->RI,find?_some->Td,foldl_cons->Te,zipIdx_nil->Tf,filterMap->Wm,forIn_nil->Wn,all_cons->W7,map_set->aaI,toArray->aaJ,zipWith->aaK
open List.Pairwise renaming nil->Ce
open List.cons renaming injEq->oX
open Nat renaming le_refl->az,ne_of_lt->aK,zero_le->bv,ne_of_gt->bC,le_trans->b7,lt_of_lt_of_le->b8,lt_succ_of_lt->cn,lt_succ_self->cJ,lt_or_ge->cN,le_add_right->cP,lt_irrefl->fA,le_succ->gU,le_succ_of_le->jh,not_lt_zero->kr,le_of_not_lt->lU,succ_ne_self->lV,lt_trans->nv,sub_self->ny,le_of_lt->qE,pow_le_pow_right->su,add_comm->wO,le_of_eq->wP,add_sub_cancel_left->Gp,exists_eq_add_of_le->Gq,lt_add_of_pos_right->Gr,lt_of_le_of_lt->OU,not_lt->OV,lt_add_right->Th,succ_mul->acm
open Ne renaming symm->dG
open Option renaming map_eq_some_iff->dP,none->Gs,getD_none->N9
open Option.some renaming inj->ck
open Or renaming inl->aW,inr->oo
open Prod.mk renaming injEq->RJ,inj->Wo
open PyProof.Rows renaming IntsAre->cL,boot_isinstance->db,callWith_type1->dk,boot_list->ek,seqObj->gM,boot_sorted->ji,boot_max->jU,envOfC->mV,kindOf->n4,boot_int->ot,boot_min->ou,AllBare->qi,callWith_builtin1->rZ,callWith_kw->vW,boot_bool->x6,boot_dict->x8,boot_zip->yu,kmk_tree->yx,Constant_none->Kz,listUpdate_at->LZ,subscriptTail->Nv,subscriptTail_builtinR->Q4,Call_->SU,seqEpoch_at->VF,Subscript_->Xb,IsTup->aaG,lt'->ae2,sortedAll->afA
open PyProof.Rows.F renaming plain_set_update_loop->qC,entry_set_update_loop->J0
open PyProof.Rows.IntsAre renaming int_at->Oa
open PySem renaming Value->ae,wpAny_bind->ah,Shared->ai,Addr->ak,wpAny_pure->aH,sizeLine->aJ,Program->aS,Str->bc,boot_len->be,mainGlobals->bf,model->bn,Around->bA,starEach->bD,World->bN,Expr->b6,Heap->cj,Stmt->cK,wpAny_mono->dc,wpAny_holding->dj,Scope->dv,Paired->dE,compareOp->dF,Obj->dR,mem_of_lookup->dU,eval->eO,wpAny_truthy_bool->e8,codeAny_builtin->fu,FuncData->fP,foldedSetIterable->fZ,wpAny_pyIter_list->f6,backTo->gx,wpAny_tryCatch->gN,Pos->hW,keywordEach->ie,wpAny_letGo->iq,cLine->iD,NameKind->iN,Builtin->iX,wpAny_Call_Name_kw->jd,wpAny_passesOwn->jq,Arguments->jr,behindInMarks->js,wpAny_seqItems->jS,holding->j5,intKind->kW,builtinsNs->k6,wpAny_setField_rec->lC,wpAny_field->lD,SetTable->lW,backToKw->lY,codeAny_mono->lZ,wpAny_pyNext_list_item->l8,wpAny_pyNext_list_end->mU,updateSeq->mX,sliceBounds->nJ,wpAny_updateSeq->oh,IsZip->oj,bootBuiltins->oE,bindArgs->o5,sysModules->o8,Env->qk,attributeBase->qJ,rawInt->qQ,wpAny_comprehension_free->qU,binaryOp->rE,call->rF,scanBound->rR,wpAny_pyIter_zip->rW,assignEach->sL,call_meets->sO,pyNext->tJ,step->tR,wpAny_nextOf_list_item->ua,letOwnedTupleGo->uk,wpAny_execs_nil->um,wpAny_loadPart'->uo,newFunctionEnv->vL,seqItems?->wp,swapsWith->ww,plainId_quiet->yf,wpAny_newList->yg,wpAny_onRaise->yh,wpAny_standAt->yi,Result->yB,assign->yC,wpAny_rule->zi,callerA->Bh,getItem->Bn,relayAll->BJ,valueAt->B9,wpAny_assign_Name->Ca,treeTable->Ef,wpAny_call_entry->Ek,wpAny_eqBool_int->Em,wpAny_execs_cons->En,richCompare->EB,seqIndex_of->EF,subscripted->EG,Within->EW,importedModules->Fy,standAt->HN,GenState->Im,Model->Ir,compEnvC->IK,defaultsOf->IN,wpAny_call->JS,wpAny_letOwnedTupleGo_zip->Kl,CmpOp->N6,bindC->Oi,bindL->Oj,getMethod->On,tupleKind->OF,wpAny_callSpecial?_slot->OG,wpAny_list_append_plain->OH,BindsTo->OL,Params->OX,codeAny_compStart_list->Pa,isTrue->PV,pyIter->QE,relabel->QL,richCompare_meets_room->QM,rule->QP,seqIndex_neg->QT,Tok->RL,wpAny_isTrue_Compare1->SL,Operator->Ti,getD_mem->To,mem_getD->Tp,Sem->Tr,atKey->TB,numAt_eq->Vf,sizeLine_eq->VG,wpAny_alloc->V7,wpAny_loadName_local->V8,wpAny_newFunctionEnv->V9,wpAny_loadName_cell->WS,getattributeRaised->Xr,typeIs_int->aak,typeLookup->aal,wpAny_Name->aap,Keyword->aaH,fits_of_scanBound->aaW,slot_list_getitem->abV,wpAny_newObj_type->ab7,wpAny_pyIter_enum->ab8,wpAny_storeSet_of->ab9,call->acw,cellsFrom->acL,checkBuiltinCall->acM,storeName->afD,wpAny_forIn_list->afY
open PySem.Around renaming under_plainId->je,under->o9,frames_deeper->Gg,in1->aay
open PySem.AutoSeq1 renaming sub_tuple_tuple->zj
open PySem.Builtin.Builtins renaming bindParams->kE
open PySem.Builtin.Dict renaming updateFrom->wG
open PySem.Builtin.Frozenset renaming newClass->SR,updateFrom->SS
open PySem.Builtin.List renaming listTooLong->jf
open PySem.Builtin.Range renaming rangeSize->vT
open PySem.Builtin.SmallTypes renaming ownedTupleIsFree->fe,nextOf->ir,ownedTupleHandOut->nM
open PySem.Builtin.Tuple renaming tupleCompareSizes->qW
open PySem.Calls renaming Name_function_global->AH,callWith_builtin->EN,evalArgs_plain->Ij,Constant_str->Ku,spliced_cons->Kv,spliced_nil->N5
open PySem.Challenge renaming pw_rankgarth_k37_whole_papers_of_both_hands->aU,rw_rankgarth_k37_whole_papers_of_both_hands->eF
open PySem.CmpOp renaming NotIn->aaA
open PySem.Code renaming builtin->mY,isFrame->qj,envs->Rw,frames->ace
open PySem.Data renaming cell->Rx,dict->Ry
open PySem.EqMixed renaming eq_bool_str->acn,eq_int_str->aco,eq_str_bool->acp,eq_str_int->acq,ne_bool_str->acr,ne_int_str->acs,ne_str_bool->act,ne_str_int->acu
open PySem.F renaming plainAttrs_list->bx,slot_list_append->bH,type_list_append->bI,called_set->jR,slot_list_getattribute->pq,slot_zip_next->rX,excBase_ValueError->yy,entry_max_loop->CQ,entry_min_loop->CS,args_zip_next_1->Wi,entry_zip_next->WX,plain_set_new->aaD,slot_int_rmul->aaE
open PySem.Heap renaming get?_push_of_some->al,lt_size->aF,get?_push_size->aQ,size_push->cR,get?_update_self->iU,SameBut->jz,size_update->xX,get?_update_other->Gm,IsList->J1,get?_update_ne->KB,get?_push_ne->ON,MadeExcOf->Wj
open PySem.Heap.IsList renaming push->sj
open PySem.Heap.IsSliceOf renaming new->aaF
open PySem.Heap.SameBut renaming update->fz
open PySem.NameKind renaming free->aZ,cell->bG
open PySem.Obj renaming mapSeq->cF,putSet->CP
open PySem.Paired renaming length->Ch
open PySem.PassesOwn renaming never->bh,leaving->sH
open PySem.SeqAt renaming EqAt->iH,RcNeAt->EY,RcAt->KL
open PySem.SeqAt.EqAt renaming same->vc,int_int->Et,int_str->Eu,str_int->Ev
open PySem.SeqAt.RcAt renaming tuples->EX,lists->Gv
open PySem.SeqAt.RcNeAt renaming tuples->AY,lists->Cj
open PySem.SetTable renaming below->cD,grown->iW,has->uf,sizeAbove->Gw
open PySem.SetTable.below renaming go->lX
open PySem.SetTable.probe renaming go->qp
open PySem.Shared renaming heap->Gx
open PySem.Str renaming empty->Gy,ofString->acz
open PySem.Value renaming ref->bO,int->gK,type->jV,none->nz,bool->pB,str->wU,builtin->CY,float->Iy,isInt->Iz,notImplemented->IA,isInt_shape->Oh,isStrOf->Wq,bytes->aaU
open PySem.W renaming Frag->aj,findIn->dJ,kia_one->dY,emptyDict->eI,kitOne->fw,instObj->gF,keepIn->i4,hideAll->jK,kla_fn->kC,fnOf->mz,excIn->nT,plainGet->oB,lookIn->qG,plainGet_of->rB,mg_of->sd,callWith_K->sJ,hasDictIn->uy,methodObj->uz,nsIn->uA,takerIn->wR,codeIn->yz,mroIn->AX,cellsFrom_some->CT,isFn->CU,hideAll_get->Gu,boot_drawn->Iv,of_hideAll->Iw,boot_heap->J4,boot_toks->J5,kitx_dict->J6,kitx_list->J7,plainOver->J8,specialIn->J9,handedIn->KI,kat_cons->KJ,kat_yes->Ob,kla_obj->Oc,makesIn->Od,takesIn->Oe,exmOne->OZ,kat_go->O0,tabObj->O1
open PySem.W.Looks renaming here->acv
open Sum renaming inl->kx,inr->wT
open True renaming intro->kz
namespace L2
open PySem PySem.Spec PyProof.Rows
abbrev Key:=Sum Int bc
def zO:Key->ae->Bool
 | .inl k,v=>Iz k v
 | .inr x,v=>Wq x v
def aeV (w:bN):Key->Int
 | .inl k=>hashInt k
 | .inr x=>hashStr w x
theorem gz:∀ {k:Key} {v:ae},zO k v=true->(∃ i t,k=kx i/\v=gK i t)\/(∃ x t,k=wT x/\v=wU x t)
 | .inl i,v,h=>by
  obtain⟨t,e⟩:=Oh (k:=i) (v:=v) h;exact .inl ⟨i,t,rfl,e⟩
 | .inr x,v,h=>by
  obtain⟨t,e⟩:=Value.isStrOf_shape (x:=x) (v:=v) h;exact .inr ⟨x,t,rfl,e⟩
theorem Jg (i:Int) (t:RL):zO (.inl i) (.int i t)=true:=by simp[zO,Iz]
theorem Jh (x:bc) (t:RL):zO (.inr x) (.str x t)=true:=by simp[zO,Wq]
theorem U1 (a b:Int):decide ((kx a:Key)=kx b)=(a == b):=by
 by_cases e:a=b
 ·subst e;simp
 ·have h:¬ (kx a:Key)=kx b:=λq=>e (Sum.inl.inj q);rw[decide_eq_false h];exact (beq_eq_false_iff_ne.mpr e).symm
theorem U4 (a b:bc):decide ((wT a:Key)=wT b)=decide (a=b):=by
 by_cases e:a=b
 ·subst e;simp
 ·have h:¬ (wT a:Key)=wT b:=λq=>e (Sum.inr.inj q);rw[decide_eq_false h,decide_eq_false e]
theorem U2 (a:Int) (b:bc):decide ((kx a:Key)=wT b)=false:=decide_eq_false (λq=>nomatch q)
theorem U3 (a:bc) (b:Int):decide ((wT a:Key)=kx b)=false:=decide_eq_false (λq=>nomatch q)
def gA (prog:aS) (w:bN):PySem.KeyKind prog w Key where
 is:=zO
 hash:=aeV w
 inj := λv a b ha hb=>by
  rcases gz ha with ⟨i,t,rfl,rfl⟩ | ⟨x,t,rfl,rfl⟩
  ·rcases gz hb with ⟨j,u,rfl,e⟩ | ⟨y,u,rfl,e⟩
   ·injection e with e1 _;rw[e1]
   ·exact nomatch e
  ·rcases gz hb with ⟨j,u,rfl,e⟩ | ⟨y,u,rfl,e⟩
   ·exact nomatch e
   ·injection e with e1 _;rw[e1]
 byValue:=λk v h=>by
  rcases gz h with ⟨i,t,rfl,rfl⟩ | ⟨x,t,rfl,rfl⟩ <;> rfl
 pyHash:=λhv h=>by
  rcases gz hv with ⟨i,t,rfl,rfl⟩ | ⟨x,t,rfl,rfl⟩
  ·exact wpAny_pyHash_int h
  ·exact wpAny_pyHash_str h
 eqBool:=λhu hv h=>by
  rcases gz hu with ⟨i,t,rfl,rfl⟩ | ⟨x,t,rfl,rfl⟩
  ·rcases gz hv with ⟨j,u,rfl,rfl⟩ | ⟨y,u,rfl,rfl⟩
   ·rw[U1] at h;exact Em h
   ·rw[U2] at h;exact Eu i t y u _ _ _ _ h
  ·rcases gz hv with ⟨j,u,rfl,rfl⟩ | ⟨y,u,rfl,rfl⟩
   ·rw[U3] at h;exact Ev x t j u _ _ _ _ h
   ·rw[U4] at h;exact wpAny_eqBool_str h
 «strs»:=λk x t v h=>by
  rcases gz h with ⟨i,u,rfl,e⟩ | ⟨y,u,rfl,e⟩
  ·exact nomatch e
  ·injection e with e1 _;subst e1;cases v <;> rfl
theorem DF (prog:aS) (w:bN) (i:Int) (t:RL):(gA prog w).is (.inl i) (.int i t)=true:=Jg i t
theorem DG (prog:aS) (w:bN) (x:bc) (t:RL):(gA prog w).is (.inr x) (.str x t)=true:=Jh x t
inductive V where
 | fj | bl (b:Bool) | int (i:Int) | str (x:bc) | Fd (b:Array UInt8) | RQ (b:UInt64) | ref (a:ak) | ty (n:String)
 deriving DecidableEq
def RelV:V->ae->Prop
 | .fj,u=>u=nz
 | .bl b,u=>u=pB b
 | .int i,u=>∃ t,u=gK i t
 | .str x,u=>∃ t,u=wU x t
 | .Fd b,u=>∃ t,u=aaU b t
 | .RQ b,u=>∃ t,u=Iy b t
 | .ref a,u=>u=bO a
 | .ty n,u=>u=jV n
abbrev Vals:List V->List ae->Prop:=dE RelV
theorem Vals.length {xs:List V} {us:List ae} (r:Vals xs us):xs.length=us.length:=Ch r
theorem Vals.get:∀ {xs:List V} {us:List ae} {i:Nat} {x:V},Vals xs us->xs[i]?=some x->∃ u,us[i]?=some u/\RelV x u
 | _,_,_,_,.nil,e=>by simp at e
 | _,_,0,_,.cons r _,e=>by simp at e;subst e;exact⟨_,rfl,r⟩
 | _,_,i+1,x,.cons _ t,e=>by
  obtain⟨u,h1,h2⟩:=Vals.get (i:=i) (x:=x) t (by simpa using e);exact⟨u,by simpa using h1,h2⟩
theorem Vals.set {x:V} {u:ae} (r:RelV x u):∀ {xs:List V} {us:List ae} (i:Nat),Vals xs us->Vals (xs.set i x) (us.set i u)
 | _,_,_,.nil=>.nil
 | _,_,0,.cons _ t=>.cons r t
 | _,_,i+1,.cons q t=>.cons q (Vals.set r i t)
theorem Vals.append:∀ {xs ys:List V} {us ws:List ae},Vals xs us->Vals ys ws->Vals (xs++ys) (us++ws)
 | _,_,_,_,.nil,s=>s
 | _,_,_,_,.cons r t,s=>.cons r (Vals.append t s)
theorem Vals.take:∀ {xs:List V} {us:List ae} (n:Nat),Vals xs us->Vals (xs.take n) (us.take n)
 | _,_,0,_=>.nil
 | _,_,_+1,.nil=>.nil
 | _,_,n+1,.cons r t=>.cons r (Vals.take n t)
theorem Vals.drop:∀ {xs:List V} {us:List ae} (n:Nat),Vals xs us->Vals (xs.drop n) (us.drop n)
 | _,_,0,r=>r
 | _,_,_+1,.nil=>.nil
 | _,_,n+1,.cons _ t=>Vals.drop n t
def sK:Option V->Option ae->Prop
 | some v,some u=>RelV v u
 | none,none=>True
 | _,_=>False
def KV {κ:Type}:List (κ × V)->List (κ × ae)->Prop:=dE λ(p:κ × V) (q:κ × ae)=>p.1=q.1/\RelV p.2 q.2
def kV:Key->V
 | .inl i=>.int i
 | .inr x=>.str x
inductive HO where
  | lst (xs:List V)
  | tup (xs:List V)
  | dK (fE:List (Key × V)) | dT (fE:List (List Key × V))
  | set (S:Int->Bool) (n:Nat)
  | ins (C dx:ak) (fs:List (bc × V))
  | own (x:ak)
  | xd (fs:List (bc × V))
  | met (f x:ak)
  | ow (lo hi:Int)
  | Bm (o:dR) (u:HO)
  | vQ (ps:Array ae)
  | ext (φ:cj->Prop)
abbrev Hp:=ak->Option HO
def upd (H:Hp) (a:ak) (o:HO):Hp:=λb=>if b=a then some o else H b
theorem au {H:Hp} {a:ak} {o:HO}:upd H a o a=some o:=by unfold upd;rw[if_pos rfl]
theorem bK {H:Hp} {a b:ak} {o:HO} (h:b≠a):upd H a o b=H b:=by unfold upd;rw[if_neg h]
theorem HX {H:Hp} {a:ak} {o u:HO}:upd (upd H a o) a u=upd H a u:=by
 funext b;unfold upd;split <;> rfl
theorem cQ {H:Hp} {a b:ak} {o:HO} (h:H a=some o) (h':H b=none):a≠b:=by
 intro e;subst e;rw[h] at h';cases h'
section
variable (P:aS) (w:bN)
def gu (H:Hp) (h:cj) (a:ak):HO->Prop
 | .lst xs=>xs.length<=aJ/\∃ (cw:List ae) (n:Nat),Vals xs cw/\h.get? a=some { cls:=.type "list",data:=.seq cw.toArray n }
 | .tup xs=>xs.length<=aJ/\∃ cw:List ae,Vals xs cw/\aaG h a cw.toArray
 | .dK fE=>fE.length<=aJ/\(a == o8)=false/\∃ vs,KV fE vs/\h.DictOf (gA P w) a vs
 | .dT fE=>fE.length<=aJ/\(a == o8)=false/\∃ xs:List (List Key × ak × ae),
   dE (λ(p:List Key × V) (q:List Key × ak × ae)=>p.1=q.1/\H q.2.1=some (.tup (p.1.map kV))/\RelV p.2 q.2.2) fE xs /\
   ∃ o es ep,h.get? a=some o/\o.ExactDict/\o.data=.dict es ep/\es.toList=xs.map (entryOfKey (OF (gA P w)))/\(xs.map (·.1)).Nodup
 | .set S n=>h.SetOf (kW P w) a S n
 | .ins C dx fs=>H dx=some (.own a)/\fs.length<=1000/\dx≠a/\h.get? a=some (gF C dx) /\
   ∃ mA,h.Ns1 dx mA/\(∀ f,sK (fs.lookup f) (mA f))/\EW mA (fs.map (·.1))
 | .own _=>∃ o,h.get? a=some o
 | .xd fs=>∃ mA,h.Ns1 a mA/\∀ f,sK (fs.lookup f) (mA f)
 | .ow lo hi=>∃ t u v,h.get? a=some { cls:=.type "range",data:=.fields #[.int lo t,.int hi u,.int 1 v] }
 | .Bm o u=>h.get? a=some o/\gu H h a u
 | .vQ ps=>h.get? a=some { cls:=.none,data:=.fields ps }
 | .met f x=>h.get? a=some (uz (.ref f) (.ref x))
 | .ext φ=>φ h/\(∃ o,h.get? a=some o)/\∀ h1 h2:cj,φ h1->(∀ o,h1.get? a=some o->h2.get? a=some o)->φ h2
def pz (H:Hp) (h:cj):Prop:=∀ a o,H a=some o->gu P w H h a o
end
section
variable {P:aS} {w:bN} {H H':Hp} {h h':cj} {a:ak} {o:HO}
theorem gu.lt (x:gu P w H h a o):a<h.objs.size:=by
 cases o with
 | lst xs=>obtain⟨_,_,_,_,e⟩:=x;exact aF e
 | tup xs=>obtain⟨_,_,_,p⟩:=x;exact p.lt
 | dK fE=>obtain⟨_,_,_,_,o,_,_,e,_⟩:=x;exact aF e
 | dT fE=>obtain⟨_,_,_,_,o,_,_,e,_⟩:=x;exact aF e
 | set S n=>obtain⟨o,_,_,_,e,_⟩:=x;exact aF e
 | ins C dx fs=>obtain⟨_,_,_,e,_⟩:=x;exact aF e
 | own y=>obtain⟨_,e⟩:=x;exact aF e
 | xd fs=>obtain⟨_,⟨_,_,_,e,_⟩,_⟩:=x;exact aF e
 | ow lo hi=>obtain⟨_,_,_,e⟩:=x;exact aF e
 | Bm ob u=>obtain⟨e,_⟩:=x;exact aF e
 | vQ ps=>exact aF (show h.get? a=some _ from x)
 | met f y=>exact aF (show h.get? a=some _ from x)
 | ext φ=>obtain⟨_,⟨_,e⟩,_⟩:=x;exact aF e
theorem Paired.U9 {α β:Type} {F G:α->β->Prop}:∀ {l₁:List α} {l₂:List β},dE F l₁ l₂->(∀ a b,F a b->G a b)->dE G l₁ l₂
 | _,_,.nil,_=>.nil
 | _,_,.cons r t,f=>.cons (f _ _ r) (Paired.U9 t f)
theorem gu.B4 (x:gu P w H h a o) (k:∀ b u,(b=a\/H b=some (.own a))->h.get? b=some u->h'.get? b=some u)
  (ho:∀ b,H b=some (.own a)->H' b=some (.own a)) (ht:∀ b xs,H b=some (.tup xs)->H' b=some (.tup xs)):gu P w H' h' a o:=by
 induction o with
 | lst xs=>obtain⟨z,cw,n,r,e⟩:=x;exact⟨z,cw,n,r,k _ _ (.inl rfl) e⟩
 | tup xs=>obtain⟨z,cw,r,ob,e,c⟩:=x;exact⟨z,cw,r,ob,k _ _ (.inl rfl) e,c⟩
 | dK fE=>obtain⟨z,y,vs,r,ob,es,ep,e,c⟩:=x;exact⟨z,y,vs,r,ob,es,ep,k _ _ (.inl rfl) e,c⟩
 | dT fE =>
  obtain⟨z,y,xs,r,ob,es,ep,e,c⟩:=x;exact⟨z,y,xs,Paired.U9 r λp q z=>⟨z.1,ht _ _ z.2.1,z.2.2⟩,ob,es,ep,k _ _ (.inl rfl) e,c⟩
 | set S n=>obtain⟨ob,es,ep,t,e,c⟩:=x;exact⟨ob,es,ep,t,k _ _ (.inl rfl) e,c⟩
 | ins C dx fs =>
  obtain⟨d,z,ne,e,mA,⟨od,es,ep,e2,c⟩,r⟩:=x;exact⟨ho _ d,z,ne,k _ _ (.inl rfl) e,mA,⟨od,es,ep,k _ _ (.inr d) e2,c⟩,r⟩
 | own y=>obtain⟨ob,e⟩:=x;exact⟨ob,k _ _ (.inl rfl) e⟩
 | xd fs=>obtain⟨mA,⟨od,es,ep,e,c⟩,r⟩:=x;exact⟨mA,⟨od,es,ep,k _ _ (.inl rfl) e,c⟩,r⟩
 | ow lo hi=>obtain⟨t,u,v,e⟩:=x;exact⟨t,u,v,k _ _ (.inl rfl) e⟩
 | Bm ob u ih=>obtain⟨e,q⟩:=x;exact⟨k _ _ (.inl rfl) e,ih q⟩
 | vQ ps =>
  have e:h.get? a=some { cls:=.none,data:=.fields ps }:=x;show h'.get? a=some { cls:=.none,data:=.fields ps };exact k a _ (.inl rfl) e
 | met f y =>
  have e:h.get? a=some (uz (.ref f) (.ref y)):=x;show h'.get? a=some (uz (.ref f) (.ref y));exact k a _ (.inl rfl) e
 | ext φ=>obtain⟨p,⟨o,e⟩,st⟩:=x;exact⟨st _ _ p λo q=>k _ _ (.inl rfl) q,⟨o,k _ _ (.inl rfl) e⟩,st⟩
theorem pz.lt (x:pz P w H h) (e:H a=some o):a<h.objs.size:=(x a o e).lt
theorem pz.fresh (x:pz P w H h) (e:h.objs.size<=a):H a=none:=by
 cases q:H a with
 | none=>rfl
 | some u=>exact absurd (b8 (x.lt q) e) (fA _)
theorem pz.kept (x:pz P w H h) (k:∀ b u,h.get? b=some u->h'.get? b=some u):pz P w H h':=λa o e =>
 (x a o e).B4 (λb u _ q=>k b u q) (λ_ q=>q) λ_ _ q=>q
theorem pz.laid (x:pz P w H h) (k:∀ b u,h.get? b=some u->h'.get? b=some u) (hp:h.objs.size<=a) (new:gu P w (upd H a o) h' a o):pz P w (upd H a o) h':=λb u e=>by
 have hn:=x.fresh hp
 by_cases hb:b=a
 ·subst hb;rw[au] at e;cases e;exact new
 ·rw[bK hb] at e;exact (x b u e).B4 (λc v _ q=>k c v q) (λc q=>by rw[bK (cQ q hn)];exact q) λc xs q=>by rw[bK (cQ q hn)];exact q
end
def Rd (H:Hp) (a:ak) (u:HO):Prop:=H a=some u\/∃ o,H a=some (.Bm o u)
theorem Rd.ok {P:aS} {w:bN} {H:Hp} {h:cj} {a:ak} {u:HO} (r:Rd H a u) (x:pz P w H h):gu P w H h a u:=by
 rcases r with r | ⟨o,r⟩
 ·exact x a u r
 ·obtain⟨_,q⟩:=x a _ r;exact q
def Mut:Option HO->Prop
 | some (.lst _)=>True
 | some (.dK _)=>True
 | some (.dT _)=>True
 | some (.set _ _)=>True
 | some (.ins _ _ _)=>True
 | some (.ext _)=>True
 | _=>False
section
variable {P:aS} {w:bN} {H:Hp} {h h':cj} {x e:ak} {o':HO}
theorem pz.write (ok:pz P w H h) (mu:Mut (H x)) (he:e=x\/H e=some (.own x)) (k:∀ b u,b≠e->h.get? b=some u->h'.get? b=some u) (Wu:∃ u,h'.get? e=some u)
  (new:gu P w (upd H x o') h' x o'):pz P w (upd H x o') h':=λb u q=>by
 have Y8:∀ c y,H c=some (.own y)->c≠x:=λc y r z=>by subst z;rw[r] at mu;exact mu
 have afa:∀ c xs,H c=some (.tup xs)->c≠x:=λc xs r z=>by subst z;rw[r] at mu;exact mu
 by_cases hb:b=x
 ·subst hb;rw[au] at q;cases q;exact new
 ·rw[bK hb] at q
  by_cases Oo:b=e
  ·have q':H b=some (.own x):=by
    rcases he with z | z
    ·exact absurd (Oo.trans z) hb
    ·rw[Oo];exact z
   rw[q] at q';cases q';obtain⟨v,hv⟩:=Wu;exact⟨v,by rw[Oo];exact hv⟩
  ·refine (ok b u q).B4 (λc v hc r=>k c v ?_ r) (λc r=>by rw[bK (Y8 c b r)];exact r) λc xs r=>by rw[bK (afa c xs r)];exact r
   rcases hc with rfl | hc
   ·exact Oo
   ·rintro rfl;rcases he with z | z
    ·exact Y8 c b hc z
    ·rw[hc] at z;cases z;exact hb rfl
end
structure Un (fs ex:List ak) (H H':Hp) (h h':cj):Prop where
 keep:∀ b o,h.get? b=some o->H b=none->b ∉ fs->b ∉ ex->h'.get? b=some o
 slot:∀ b o,h.get? b=some o->H b=none->b∈fs->b ∉ ex->∃ sl,h'.get? b=some { o with slots:=sl }
 free:∀ b o,h.get? b=some o->H b=none->b ∉ ex->H' b=none
 there:∀ b o,h.get? b=some o->b ∉ ex->∃ o',h'.get? b=some o'
 u6:∀ b xs,H b=some (.tup xs)->H' b=some (.tup xs)
 sW:∀ b o u,H b=some (.Bm o u)->H' b=some (.Bm o u)
 tY:∀ b ps,H b=some (.vQ ps)->∃ more,H' b=some (.vQ (ps++more))
section
variable {fs fs' ex ex':List ak} {H H1 H2:Hp} {h h1 h2 h':cj} {a x e:ak} {o:HO}
theorem Un.any (u:Un fs ex H H1 h h1) {b:ak} {ob:dR} (q:h.get? b=some ob) (n:H b=none) (hx:b ∉ ex):∃ sl,h1.get? b=some { ob with slots:=sl }:=by
 by_cases hb:b∈fs
 ·exact u.slot b ob q n hb hx
 ·exact⟨ob.slots,u.keep b ob q n hb hx⟩
theorem Un.kept (k:∀ b u,h.get? b=some u->h'.get? b=some u):Un fs ex H H h h' :=
 ⟨λb ob q _ _ _=>k b ob q,λb ob q _ _ _=>⟨ob.slots,k b ob q⟩,λ_ _ _ n _=>n,λb ob q _=>⟨ob,k b ob q⟩,λ_ _ q=>q,λ_ _ _ q=>q,λ_ ps q=>⟨#[],by rw[q];simp⟩⟩
theorem Un.refl:Un fs ex H H h h:=Un.kept λ_ _ q=>q
theorem Un.laid (k:∀ b u,h.get? b=some u->h'.get? b=some u) (hp:h.objs.size<=a) (hn:H a=none):Un fs ex H (upd H a o) h h' where
 keep:=λb u q _ _ _=>k b u q
 slot:=λb u q _ _ _=>⟨u.slots,k b u q⟩
 free:=λb u q n _=>by rw[bK (aK (b8 (aF q) hp))];exact n
 there:=λb u q _=>⟨u,k b u q⟩
 u6:=λb xs q=>by rw[bK (cQ q hn)];exact q
 sW:=λb u xs q=>by rw[bK (cQ q hn)];exact q
 tY:=λb ps q=>⟨#[],by rw[bK (cQ q hn),q];simp⟩
theorem Un.write (mu:Mut (H x)) (he:e=x\/H e=some (.own x)) (k:∀ b u,b≠e->h.get? b=some u->h'.get? b=some u) (Wu:∃ u,h'.get? e=some u):Un fs ex H (upd H x o) h h':=by
 have hx:∀ b,H b=none->b≠x:=λb n z=>by subst z;rw[n] at mu;exact mu
 have hb:∀ b,H b=none->b≠e:=λb n z=>by
  subst z;rcases he with r | r
  ·exact hx b n r
  ·rw[n] at r;cases r
 have hm:∀ b u,H b=some u->¬ Mut (some u)->b≠x:=λb u q nm z=>by subst z;rw[q] at mu;exact nm mu
 refine⟨λb u q n _ _=>k b u (hb b n) q,λb u q n _ _=>⟨u.slots,k b u (hb b n) q⟩,λb u q n _=>by rw[bK (hx b n)];exact n,λb u q _=>?_,
  λb xs q=>by rw[bK (hm b _ q λz=>z)];exact q,λb u xs q=>by rw[bK (hm b _ q λz=>z)];exact q,λb ps q=>⟨#[],by rw[bK (hm b _ q λz=>z),q];simp⟩⟩
 by_cases Oo:b=e
 ·subst Oo;exact Wu
 ·exact⟨u,k b u Oo q⟩
end
def V3 (h:cj) (H:Hp):List ak:=(br h.objs.size).filter λa=>(H a).isSome
def Bp (h:cj) (H:Hp):cj:=jK h (V3 h H)
theorem IV (h:cj) (H:Hp):(Bp h H).objs.size=h.objs.size:=PySem.W.hideAll_size _ _
theorem Lv {h:cj} {H:Hp} {b:ak} {o:dR} (e:h.get? b=some o) (n:H b=none):(Bp h H).get? b=some o :=
 Gu _ e λhm=>by
  have q:(H b).isSome=true:=(bF.mp hm).2;rw[n] at q;simp at q
theorem P8 {h:cj} {H:Hp} {b:ak} {o:dR} (e:(Bp h H).get? b=some o):h.get? b=some o/\H b=none:=by
 have e':h.get? b=some o:=Iw (V3 h H) e;refine⟨e',?_⟩;cases q:H b with
 | none=>rfl
 | some x =>
  have hm:b∈V3 h H:=bF.mpr ⟨d8.mpr (aF e'),by simp[q]⟩;have z:(Bp h H).get? b=none:=PySem.W.hideAll_none (V3 h H) hm;rw[z] at e;cases e
structure Mod (K:aj) (mg:bc->Option ae) (base:cj):Prop where
 PY:K.In base
 glob:base.Ns bf mg
 blt:∃ mb,base.Ns k6 mb/\∀ x:bc,x ≠ "__name__" -> mb x=oE x
 nolimit:base.NoLimit
structure Cx where
 prog:aS
 w:bN
 K:aj
 mg:bc->Option ae
 base:cj
 A:bA
 N:List bc
 s₀:ai
 H₀:Hp
 env:qk
 outer:List qk
 stack:List qk
 ex:List ak
 fn:bc->Bool
 calm:Bool
 pn:List (ak × dR)
 xe:ae->ai->Prop
def rK (l:List qk):List ak:=l.filterMap (·.frame)
abbrev Cx.fs (X:Cx):List ak:=rK X.outer
def Vis (sc:dv) (x:bc):Prop:=sc.names.lookup x=some .local\/sc.names.lookup x=some .cell\/sc.names.lookup x=some .free
def Loc (sc:dv) (x:bc):Prop:=sc.names.lookup x=some .local\/sc.names.lookup x=some .cell
def a0H (env:qk) (h:cj) (m:bc->Option ae) (x:bc) (u:ae):Prop :=
 (env.kindOf x=some .local/\m x=some u)\/((env.kindOf x=some .cell\/env.kindOf x=some .free)/\∃ c,env.cells.lookup x=some c/\h.IsCell c (some u))
structure Cx.Ok (X:Cx):Prop where
 mod:Mod X.K X.mg X.base
 kind:X.env.scope.kind=.function
 glob:X.env.globals=bf
 blt:X.env.builtins=k6
 above:X.s₀.heap.objs.size<=X.env.locals
 inj:∀ x y c,X.env.cells.lookup x=some c->X.env.cells.lookup y=some c->x=y
 has:∀ x,(X.env.kindOf x=some .cell\/X.env.kindOf x=some .free)->∃ c,X.env.cells.lookup x=some c
 Xk:∀ x c,X.fn x=true->X.env.cells.lookup x=some c->X.s₀.heap.objs.size<=c
 hd:X.calm=true->X.A.handled=none
 frames:X.A.frames=some X.stack
 ZY:X.stack=X.outer\/(X.stack=X.env::X.outer/\X.env.frame=some X.env.locals)
 exf:∀ b∈X.ex,b≠X.env.locals/\∀ x c,X.env.cells.lookup x=some c->c≠b
 bs:∀ b o,X.base.get? b=some o->X.s₀.heap.get? b=some o/\X.H₀ b=none
 KU:X.base.objs.size<=X.s₀.heap.objs.size
 nH:∀ b o,X.base.get? b=some o->b ∉ X.ex
 Ph:∀ b∈X.ex,b ∉ X.fs
 rL:X.s₀.heap.FunFrames X.base X.outer
 Pj:∀ b∈X.fs,X.H₀ b=none
structure Inv (X:Cx) (pins:List (ak × dR)) (σ:List (Option V)) (H:Hp) (s:ai):Prop where
 ok:X.Ok
 os:s.os=X.s₀.os
 bare:qi s.gens
 base:Un X.fs X.ex X.H₀ H X.s₀.heap s.heap
 loc:∃ m,s.heap.Ns X.env.locals m/\∀ (i:Nat) (x:bc) (v:V),X.N[i]?=some x->σ[i]?=some (some v)->Vis X.env.scope x->∃ u,RelV v u/\a0H X.env s.heap m x u
 cell:∀ x c,X.env.cells.lookup x=some c->∃ v,s.heap.IsCell c v
 free:H X.env.locals=none
 nW:∀ x c,X.env.cells.lookup x=some c->H c=none
 pin:∀ p∈X.pn++pins,s.heap.get? p.1=some p.2/\H p.1=none/\p.1≠X.env.locals/\p.1 ∉ X.fs/\∀ v,p.2.data≠.cell v
 cZ:pz X.prog X.w H s.heap
 len:σ.length=X.N.length
section
variable {X:Cx} {pins:List (ak × dR)} {σ:List (Option V)} {H H':Hp} {s:ai} {h':cj}
theorem Cx.Ok.ae6 (ok:X.Ok) {b:ak} {o:dR} (e:X.base.get? b=some o):b ∉ X.fs:=λhb=>by
 have:=(ok.rL.mem hb).1;rw[e] at this;cases this
theorem Inv.bs (I:Inv X pins σ H s):∀ b o,X.base.get? b=some o->s.heap.get? b=some o/\H b=none:=λb o e =>
 ⟨I.base.keep b o (I.ok.bs b o e).1 (I.ok.bs b o e).2 (I.ok.ae6 e) (I.ok.nH b o e),I.base.free b o (I.ok.bs b o e).1 (I.ok.bs b o e).2 (I.ok.nH b o e)⟩
theorem Inv.bk (I:Inv X pins σ H s):∀ b o,X.base.get? b=some o->s.heap.get? b=some o:=λb o e=>(I.bs b o e).1
theorem Inv.mod (I:Inv X pins σ H s):Mod X.K X.mg X.base:=I.ok.mod
theorem Inv.v5 (I:Inv X pins σ H s):X.K.In s.heap:=I.ok.mod.PY.keeps I.bk
theorem Inv.lt (I:Inv X pins σ H s):X.env.locals<s.heap.objs.size:=let ⟨_,hn,_⟩:=I.loc;hn.lt
theorem Inv.sz (I:Inv X pins σ H s):X.s₀.heap.objs.size<=s.heap.objs.size:=b7 I.ok.above (qE I.lt)
theorem Inv.FI (I:Inv X pins σ H s) {a:ak} (h:s.heap.objs.size<=a):a ∉ X.fs:=λhb=>by
 obtain⟨_,o,ho,_⟩:=I.ok.rL.mem hb;exact absurd (b8 (aF ho) (b7 I.sz h)) (fA _)
theorem Inv.TH (I:Inv X pins σ H s):∀ x c,X.env.cells.lookup x=some c->c≠X.env.locals:=λx c e z=>by
 obtain⟨v,o,ho,hd⟩:=I.cell x c e;obtain⟨m,⟨o',es,ep,xo,XH,_⟩,_⟩:=I.loc;rw[z,xo] at ho;cases ho;rw[XH] at hd;cases hd
theorem Inv.rL (I:Inv X pins σ H s):s.heap.FunFrames X.base X.outer:=by
 have all:∀ (l:List qk),(∀ b∈rK l,b∈X.fs)->X.s₀.heap.FunFrames X.base l->s.heap.FunFrames X.base l:=by
  intro l
  induction l with
  | nil=>intro _ _;trivial
  | cons env r ih =>
   intro hs hl;obtain⟨hk,⟨L,o,hf,hn,ho,hd⟩,hr⟩:=hl;have hL:L∈X.fs:=hs L (by unfold rK;rw[fT,hf];exact aE);obtain⟨sl,e⟩:=I.base.slot L o ho (I.ok.Pj L hL) hL λz=>I.ok.Ph L z hL;exact⟨hk,⟨L,_,hf,hn,e,hd⟩,ih (λb hb=>hs b (by unfold rK;rw[fT,hf];exact aL _ hb)) hr⟩
 exact all X.outer (λ_ hb=>hb) I.ok.rL
theorem Inv.stack (I:Inv X pins σ H s):s.heap.FunFrames X.base X.stack:=by
 rcases I.ok.ZY with e | ⟨e,hf⟩
 ·rw[e];exact I.rL
 ·rw[e];obtain⟨m,hn,_⟩:=I.loc;refine .cons (by rw[I.ok.kind];decide) hf hn ?_ I.rL;exact Heap.get?_none_of_le (b7 I.ok.KU I.ok.above)
theorem Inv.rT (I:Inv X pins σ H s):∀ b∈rK X.stack,b∈X.env.locals::X.fs:=λb hb=>by
 rcases I.ok.ZY with e | ⟨e,hf⟩
 ·rw[e] at hb;exact aL _ hb
 ·rw[e] at hb;unfold rK at hb;rw[fT,hf] at hb;exact hb
theorem Inv.wv (I:Inv X pins σ H s):∀ b∈rK X.stack,H b=none:=λb hb=>by
 rcases aB.mp (I.rT b hb) with e | hb
 ·rw[e];exact I.free
 ·obtain⟨_,o,ho,_⟩:=I.ok.rL.mem hb;exact I.base.free b o ho (I.ok.Pj b hb) λz=>I.ok.Ph b z hb
theorem Inv.step {g':Array Im} {t':Nat} {d':Drawn} {ch:List ak} (I:Inv X pins σ H s)
  (Oq:∀ b∈ch,(b∈X.ex\/X.s₀.heap.objs.size<=b)/\b≠X.env.locals/\(∀ x c,X.env.cells.lookup x=some c->c≠b)/\∀ p∈X.pn++pins,p.1≠b)
  (keep:∀ b o,b≠X.env.locals->b ∉ X.fs->b ∉ ch->s.heap.get? b=some o->H b=none->h'.get? b=some o)
  (slot:∀ b o,b≠X.env.locals->b∈X.fs->b ∉ ch->s.heap.get? b=some o->H b=none->∃ sl,h'.get? b=some { o with slots:=sl }) (free:∀ b o,b ∉ ch->s.heap.get? b=some o->H b=none->H' b=none)
  (there:∀ b o,b ∉ ch->s.heap.get? b=some o->∃ o',h'.get? b=some o')
  (u6:∀ b xs,H b=some (.tup xs)->H' b=some (.tup xs)) (sW:∀ b o u,H b=some (.Bm o u)->H' b=some (.Bm o u)) (tY:∀ b ps,H b=some (.vQ ps)->∃ more,H' b=some (.vQ (ps++more)))
  (ns:∀ m,s.heap.Ns X.env.locals m->h'.Ns X.env.locals m) (cZ:pz X.prog X.w H' h') (hg:qi g') :
  Inv X pins σ H' { s with heap:=h',gens:=g',drawn:=d',toks:=t' }:=by
 have neL:∀ b o,X.s₀.heap.get? b=some o->b≠X.env.locals:=λb o e=>aK (b8 (aF e) I.ok.above);have neC:∀ b o,X.s₀.heap.get? b=some o->b ∉ X.ex->b ∉ ch:=λb o e hx hb=>by
  rcases (Oq b hb).1 with z | z
  ·exact hx z
  ·exact absurd (b8 (aF e) z) (fA _)
 have cellK:∀ x c,X.env.cells.lookup x=some c->∀ v,s.heap.IsCell c v->h'.IsCell c v:=λx c e v ⟨o,ho,hd⟩=>by
  have Y2:c ∉ ch:=λz=>(Oq c z).2.2.1 x c e rfl
  by_cases hc:c∈X.fs
  ·obtain⟨sl,q⟩:=slot c o (I.TH x c e) hc Y2 ho (I.nW x c e);exact⟨_,q,hd⟩
  ·exact⟨o,keep c o (I.TH x c e) hc Y2 ho (I.nW x c e),hd⟩
 refine⟨I.ok,I.os,hg,⟨λb o e n hb hx=>?_,λb o e n hb hx=>?_,λb o e n hx=>?_,λb o e hx=>?_,λb xs e=>u6 b xs (I.base.u6 b xs e),λb o xs e=>sW b o xs (I.base.sW b o xs e),λb ps e=>?_⟩,?_,λx c e=>?_,?_,λx c e=>?_,λp hp=>?_,cZ,I.len⟩
 ·exact keep b o (neL b o e) hb (neC b o e hx) (I.base.keep b o e n hb hx) (I.base.free b o e n hx)
 ·obtain⟨sl,e1⟩:=I.base.slot b o e n hb hx;obtain⟨sl',e2⟩:=slot b _ (neL b o e) hb (neC b o e hx) e1 (I.base.free b o e n hx);exact⟨sl',e2⟩
 ·obtain⟨o',e1⟩:=I.base.there b o e hx;exact free b o' (neC b o e hx) e1 (I.base.free b o e n hx)
 ·obtain⟨o',e1⟩:=I.base.there b o e hx;exact there b o' (neC b o e hx) e1
 ·obtain⟨m1,e1⟩:=I.base.tY b ps e;obtain⟨m2,e2⟩:=tY b _ e1;exact⟨m1++m2,by rw[e2,Ks]⟩
 ·obtain⟨m,hn,hl⟩:=I.loc;refine⟨m,ns m hn,λi x v e1 e2 e3=>?_⟩;obtain⟨u,r,l⟩:=hl i x v e1 e2 e3;refine⟨u,r,?_⟩;rcases l with l | ⟨k,c,e,z⟩
  ·exact .inl l
  ·exact .inr ⟨k,c,e,cellK x c e _ z⟩
 ·obtain⟨v,z⟩:=I.cell x c e;exact⟨v,cellK x c e v z⟩
 ·obtain⟨m,⟨o,_,_,ho,_⟩,_⟩:=I.loc;exact free _ o (λz=>(Oq _ z).2.1 rfl) ho I.free
 ·obtain⟨v,o,ho,hd⟩:=I.cell x c e;exact free c o (λz=>(Oq c z).2.2.1 x c e rfl) ho (I.nW x c e)
 ·obtain⟨e,n,ne,nf,d⟩:=I.pin p hp;have Y2:p.1 ∉ ch:=λz=>(Oq p.1 z).2.2.2 p hp rfl;exact⟨keep p.1 p.2 ne nf Y2 e n,free p.1 p.2 Y2 e n,ne,nf,d⟩
theorem Inv.un {t':Nat} (I:Inv X pins σ H s) (u:Un X.fs [] H H' s.heap h') (cZ:pz X.prog X.w H' h'):Inv X pins σ H' { s with heap:=h',toks:=t' }:=by
 obtain⟨m,⟨o,es,ep,ho,r⟩,_⟩:=id I.loc;obtain⟨sl,hL⟩:=u.any ho I.free (by simp);exact I.step (g':=s.gens) (d':=s.drawn) (ch:=[]) (λ_ z=>nomatch z) (λb o _ hb _ e n=>u.keep b o e n hb (by simp)) (λb o _ hb _ e n=>u.slot b o e n hb (by simp)) (λb o _ e n=>u.free b o e n (by simp)) (λb o _ e=>u.there b o e (by simp)) u.u6 u.sW u.tY (λm' hm=>by
  obtain⟨o',es',ep',xo,r'⟩:=hm;rw[ho] at xo;cases xo;exact⟨_,es',ep',hL,r'⟩) cZ I.bare
theorem Inv.call {g':Array Im} {t':Nat} {d':Drawn} {ch:List ak} (I:Inv X pins σ H s) (u:Un (rK X.stack) ch H H' s.heap h') (cZ:pz X.prog X.w H' h') (hg:qi g')
  (Oq:∀ b∈ch,(b∈X.ex\/X.s₀.heap.objs.size<=b)/\b≠X.env.locals/\(∀ x c,X.env.cells.lookup x=some c->c≠b)/\∀ p∈X.pn++pins,p.1≠b) :
  Inv X pins σ H' { s with heap:=h',gens:=g',drawn:=d',toks:=t' }:=by
 obtain⟨m,⟨o,es,ep,ho,r⟩,_⟩:=id I.loc;obtain⟨sl,hL⟩:=u.any ho I.free λz=>(Oq _ z).2.1 rfl;exact I.step (ch:=ch) Oq (λb o hL hb hc e n=>u.keep b o e n (λz=>(aB.mp (I.rT b z)).elim hL hb) hc) (λb o _ _ hc e n=>u.any e n hc) (λb o hc e n=>u.free b o e n hc) (λb o hc e=>u.there b o e hc) u.u6 u.sW u.tY (λm' hm=>by
  obtain⟨o',es',ep',xo,r'⟩:=hm;rw[ho] at xo;cases xo;exact⟨_,es',ep',hL,r'⟩) cZ hg
theorem Inv.turned {t':Nat} {it:ak} (I:Inv X pins σ H s) (k:∀ b o,b≠it->s.heap.get? b=some o->h'.get? b=some o) (hn:H it=none) (hL:it≠X.env.locals)
  (h1:it∈X.ex\/X.s₀.heap.objs.size<=it) (h2:∀ x c,X.env.cells.lookup x=some c->c≠it) (h3:∀ p∈X.pn++pins,p.1≠it):Inv X pins σ H { s with heap:=h',toks:=t' }:=by
 have Y3:∀ b u,H b=some u->b≠it:=λb u e z=>by rw[z,hn] at e;cases e
 refine I.step (g':=s.gens) (d':=s.drawn) (ch:=[it]) (λb hb=>?_) (λb o _ _ hc e _=>k b o (λz=>hc (by simp[z])) e) (λb o _ _ hc e _=>⟨o.slots,k b o (λz=>hc (by simp[z])) e⟩) (λ_ _ _ _ n=>n)
  (λb o hc e=>⟨o,k b o (λz=>hc (by simp[z])) e⟩) (λ_ _ e=>e) (λ_ _ _ e=>e) (λb ps e=>⟨#[],by rw[e];simp⟩) (λm hm=>?_) (λb u e=>?_) I.bare
 ·have e:b=it:=by simpa using hb
  subst e;exact⟨h1,hL,h2,h3⟩
 ·obtain⟨o,es,ep,ho,r⟩:=hm;exact⟨o,es,ep,k _ o (dG hL) ho,r⟩
 ·refine (I.cZ b u e).B4 (λc v hc q=>k c v ?_ q) (λ_ q=>q) λ_ _ q=>q;rcases hc with z | z
  ·rw[z];exact Y3 b u e
  ·exact Y3 c _ z
theorem Inv.tok (I:Inv X pins σ H s) (t:Nat):Inv X pins σ H { s with toks:=t }:=I.un (h':=s.heap) (t':=t) Un.refl I.cZ
theorem Inv.kept {t':Nat} (I:Inv X pins σ H s) (k:∀ b u,s.heap.get? b=some u->h'.get? b=some u):Inv X pins σ H { s with heap:=h',toks:=t' }:=I.un (Un.kept k) (I.cZ.kept k)
theorem Inv.laid {a:ak} {o:HO} {t':Nat} (I:Inv X pins σ H s) (k:∀ b u,s.heap.get? b=some u->h'.get? b=some u) (hp:s.heap.objs.size<=a) (new:gu X.prog X.w (upd H a o) h' a o) :
  Inv X pins σ (upd H a o) { s with heap:=h',toks:=t' }:=I.un (Un.laid k hp (I.cZ.fresh hp)) (I.cZ.laid k hp new)
theorem Inv.write {x e:ak} {o:HO} {t':Nat} (I:Inv X pins σ H s) (mu:Mut (H x)) (he:e=x\/H e=some (.own x)) (k:∀ b u,b≠e->s.heap.get? b=some u->h'.get? b=some u) (Wu:∃ u,h'.get? e=some u)
  (new:gu X.prog X.w (upd H x o) h' x o):Inv X pins σ (upd H x o) { s with heap:=h',toks:=t' }:=I.un (Un.write mu he k Wu) (I.cZ.write mu he k Wu new)
theorem Inv.weak {σ':List (Option V)} (I:Inv X pins σ H s) (hl:σ'.length=σ.length) (w:∀ (i:Nat) v,σ'[i]?=some (some v)->σ[i]?=some (some v)):Inv X pins σ' H s :=
 ⟨I.ok,I.os,I.bare,I.base,let ⟨m,hn,Um⟩:=I.loc;⟨m,hn,λi x v e1 e2 e3=>Um i x v e1 (w i v e2) e3⟩,I.cell,I.free,I.nW,I.pin,I.cZ,hl.trans I.len⟩
theorem Inv.kY {lS:List (ak × dR)} (I:Inv X pins σ H s) (h:∀ p∈lS,s.heap.get? p.1=some p.2/\H p.1=none/\p.1≠X.env.locals/\p.1 ∉ X.fs/\∀ v,p.2.data≠.cell v):Inv X lS σ H s :=
 ⟨I.ok,I.os,I.bare,I.base,I.loc,I.cell,I.free,I.nW,λp hp=>(bj.mp hp).elim (λz=>I.pin p (bY _ z)) (h p),I.cZ,I.len⟩
theorem DJ {N:List bc} (hN:N.Nodup) {i j:Nat} {x:bc} (a:N[i]?=some x) (b:N[j]?=some x):i=j:=by
 obtain⟨h1,e1⟩:=af.mp a;obtain⟨h2,e2⟩:=af.mp b;exact (RE hN).mp (e1.trans e2.symm)
theorem Ag {M:Ir} {A:bA} {E:ae->ai->Prop} {i:Nat} {x:bc} {v:V} {u:ae} {Q:Unit->ai->Prop} (I:Inv X pins σ H s) (hN:X.N.Nodup) (hi:X.N[i]?=some x) (hx:Loc X.env.scope x) (r:RelV v u)
  (h:∀ s',Inv X pins (σ.set i (some v)) H s'->(∃ a,jz a s.heap s'.heap/\(a=X.env.locals\/X.env.cells.lookup x=some a))->Q () s') (hf:X.fn x=true\/X.env.scope.names.lookup x=some .local:=by first | exact .inl rfl | exact .inr rfl | assumption):wpAny M A (afD X.env x u) Q E s:=by
 obtain⟨m,hn,hl⟩:=id I.loc;have adm:(X.env.scope.kind == .class || (X.env.scope.kind == .module && X.env.locals != X.env.globals))=false:=by rw[I.ok.kind];rfl
 have hiσ:i<σ.length:=by rw[I.len];exact (af.mp hi).1
 have TH:=I.TH;have tracked:∀ {a:ak} {h':cj},(∃ o,s.heap.get? a=some o/\H a=none)->jz a s.heap h'->pz X.prog X.w H h':=λ{a h'} ha hs b ob e=>by
  obtain⟨_,_,xk⟩:=ha;refine (I.cZ b ob e).B4 (λc w' hc q=>(hs.2 c ?_).trans q) (λ_ q=>q) λ_ _ q=>q;rintro rfl;rcases hc with rfl | hc
  ·rw[xk] at e;cases e
  ·rw[xk] at hc;cases hc
 rcases hx with hk | hk
 ·refine wpAny_storeName_local hk hn (λh' hn' hs=>?_) adm;obtain⟨oL,_,_,hoL,_⟩:=id hn;refine h _ ⟨I.ok,I.os,I.bare,⟨λb o e n hb hx=>?_,λb o e n hb hx=>?_,I.base.free,λb o e hx=>?_,I.base.u6,I.base.sW,I.base.tY⟩,⟨_,hn',λj y v' e1 e2 e3=>?_⟩,λy c e=>?_,I.free,I.nW,λp hp=>?_,tracked ⟨oL,hoL,I.free⟩ hs,by simpa using I.len⟩ ⟨_,hs,.inl rfl⟩
  ·exact (hs.2 b (aK (b8 (aF e) I.ok.above))).trans (I.base.keep b o e n hb hx)
  ·obtain⟨sl,e1⟩:=I.base.slot b o e n hb hx;exact⟨sl,(hs.2 b (aK (b8 (aF e) I.ok.above))).trans e1⟩
  ·obtain⟨o',e1⟩:=I.base.there b o e hx;exact⟨o',(hs.2 b (aK (b8 (aF e) I.ok.above))).trans e1⟩
  ·by_cases hj:j=i
   ·subst hj;rw[hi] at e1;cases e1;rw[cS hiσ] at e2;cases e2;exact⟨u,r,.inl ⟨hk,by simp⟩⟩
   ·rw[dg (dG hj)] at e2;obtain⟨u',r',q⟩:=hl j y v' e1 e2 e3;refine⟨u',r',?_⟩;rcases q with ⟨k,e⟩ | ⟨k,c,e,z⟩
    ·refine .inl ⟨k,?_⟩;have:y≠x:=λe=>hj (DJ hN e1 (e ▸ hi));simp[this,e]
    ·exact .inr ⟨k,c,e,z.sameBut hs (TH y c e)⟩
  ·obtain⟨w',z⟩:=I.cell y c e;exact⟨w',z.sameBut hs (TH y c e)⟩
  ·obtain⟨e,n,ne,nf,d⟩:=I.pin p hp;exact⟨(hs.2 p.1 ne).trans e,n,ne,nf,d⟩
 ·have Ua:X.fn x=true:=by
   rcases hf with z | z
   ·exact z
   ·rw[z] at hk;cases hk
  obtain⟨c,hc⟩:=I.ok.has x (.inl hk);obtain⟨w',z⟩:=I.cell x c hc;refine wpAny_storeName_cell I.ok.kind hk hc z (λh' RX hs=>?_);obtain⟨oc,hoc,ad0⟩:=id z;refine h { s with heap:=h' } ⟨I.ok,I.os,I.bare,⟨λb o e n hb hx=>?_,λb o e n hb hx=>?_,I.base.free,λb o e hx=>?_,I.base.u6,I.base.sW,I.base.tY⟩,⟨m,hn.sameBut hs (dG (TH x c hc)),λj y v' e1 e2 e3=>?_⟩,λy c' e=>?_,I.free,I.nW,λp hp=>?_,tracked ⟨oc,hoc,I.nW x c hc⟩ hs,by simpa using I.len⟩ ⟨c,hs,.inr hc⟩
  ·exact (hs.2 b (aK (b8 (aF e) (I.ok.Xk x c Ua hc)))).trans (I.base.keep b o e n hb hx)
  ·obtain⟨sl,e1⟩:=I.base.slot b o e n hb hx;exact⟨sl,(hs.2 b (aK (b8 (aF e) (I.ok.Xk x c Ua hc)))).trans e1⟩
  ·obtain⟨o',e1⟩:=I.base.there b o e hx;exact⟨o',(hs.2 b (aK (b8 (aF e) (I.ok.Xk x c Ua hc)))).trans e1⟩
  ·by_cases hj:j=i
   ·subst hj;rw[hi] at e1;cases e1;rw[cS hiσ] at e2;cases e2;exact⟨u,r,.inr ⟨.inl hk,c,hc,RX⟩⟩
   ·rw[dg (dG hj)] at e2;obtain⟨u',r',q⟩:=hl j y v' e1 e2 e3;refine⟨u',r',?_⟩;rcases q with q | ⟨k,c',e,z'⟩
    ·exact .inl q
    ·refine .inr ⟨k,c',e,z'.sameBut hs ?_⟩;rintro rfl;exact hj (DJ hN e1 (I.ok.inj _ _ _ e hc ▸ hi))
  ·by_cases Op:c'=c
   ·subst Op;exact⟨_,RX⟩
   ·obtain⟨w2,z2⟩:=I.cell y c' e;exact⟨w2,z2.sameBut hs Op⟩
  ·obtain⟨e,n,ne,nf,d⟩:=I.pin p hp;refine⟨(hs.2 p.1 ?_).trans e,n,ne,nf,d⟩;intro q;rw[q,hoc] at e;have q':oc=p.2:=ck e;exact d w' (by rw[← q'];exact ad0)
theorem tT {M:Ir} {A:bA} {E:ae->ai->Prop} {i:Nat} {x:bc} {v:V} {u:ae} {Q:Unit->ai->Prop} (I:Inv X pins σ H s) (hN:X.N.Nodup) (hi:X.N[i]?=some x) (hx:Loc X.env.scope x) (r:RelV v u)
  (h:∀ s',Inv X pins (σ.set i (some v)) H s'->Q () s') (hf:X.fn x=true\/X.env.scope.names.lookup x=some .local:=by first | exact .inl rfl | exact .inr rfl | assumption):wpAny M A (afD X.env x u) Q E s :=
 Ag I hN hi hx r (λs' I' _=>h s' I') hf
theorem Inv.RM {s':ai} {ch:List ak} (I:Inv X pins σ H s) (ho:s'.os=s.os) (u:Un (rK X.stack) ch H H' s.heap s'.heap) (cZ:pz X.prog X.w H' s'.heap) (hg:qi s'.gens)
  (Oq:∀ b∈ch,(b∈X.ex\/X.s₀.heap.objs.size<=b)/\b≠X.env.locals/\(∀ x c,X.env.cells.lookup x=some c->c≠b)/\∀ p∈X.pn++pins,p.1≠b):Inv X pins σ H' s':=by
 obtain⟨h',g',d',t',o'⟩:=s';have e:o'=s.os:=ho;subst e;exact I.call (g':=g') (t':=t') (d':=d') u cZ hg Oq
end
abbrev XK:=ae->Option ak->Hp->Prop
abbrev St:=List (Option V)
abbrev VK:=V->Hp->Prop
abbrev TE:=St->Hp->VK->Prop
abbrev TT:=St->Hp->(Bool->Hp->Prop)->Prop
abbrev TA:=St->Hp->(List V->Hp->Prop)->Prop
structure Ends where
 nx:St->Hp->Prop
 rt:VK
 bk:St->Hp->Prop:=λ_ _=>False
 ct:St->Hp->Prop:=λ_ _=>False
abbrev TS:=Ends->St->Hp->Prop
def EP (X:Cx) (pins:List (ak × dR)) (σ:St) (Q:VK) (u:ae) (s':ai):Prop:=∃ v H',Inv X pins σ H' s'/\RelV v u/\Q v H'
def TP (X:Cx) (pins:List (ak × dR)) (σ:St) (Q:Bool->Hp->Prop) (b:Bool) (s':ai):Prop:=∃ H',Inv X pins σ H' s'/\Q b H'
def AP (X:Cx) (pins:List (ak × dR)) (σ:St) (Q:List V->Hp->Prop) (us:List ae) (s':ai):Prop:=∃ vs H',Inv X pins σ H' s'/\Vals vs us/\Q vs H'
def SP (X:Cx) (pins:List (ak × dR)) (D:Ends) (f:Flow) (s':ai):Prop :=
 match f with
 | .next=>∃ σ' H',Inv X pins σ' H' s'/\D.nx σ' H'
 | .brk=>∃ σ' H',Inv X pins σ' H' s'/\D.bk σ' H'
 | .cont=>∃ σ' H',Inv X pins σ' H' s'/\D.ct σ' H'
 | .ret u=>∃ v σ' H',Inv X pins σ' H' s'/\RelV v u/\D.rt v H'
def PE (X:Cx) (e:b6) (t:TE):Prop :=
 ∀ (pins:List (ak × dR)) (s:ai) (σ:St) (H:Hp) (Q:VK),Inv X pins σ H s->t σ H Q->wpAny (bn X.prog X.w) X.A (eO e X.env) (EP X pins σ Q) X.xe s
def PT (X:Cx) (e:b6) (t:TT):Prop :=
 ∀ (pins:List (ak × dR)) (s:ai) (σ:St) (H:Hp) (Q:Bool->Hp->Prop),Inv X pins σ H s->t σ H Q->wpAny (bn X.prog X.w) X.A (PV e X.env (eO e X.env)) (TP X pins σ Q) X.xe s
def PW (X:Cx) (e:b6) (t:TT):Prop :=
 ∀ (whole:Tr ae) (pins:List (ak × dR)) (s:ai) (σ:St) (H:Hp) (Q:Bool->Hp->Prop),Inv X pins σ H s->t σ H Q->wpAny (bn X.prog X.w) X.A (PV e X.env whole) (TP X pins σ Q) X.xe s
theorem PW.pt {X:Cx} {e:b6} {t:TT} (h:PW X e t):PT X e t:=h _
def PA (X:Cx) (es:List b6) (t:TA):Prop :=
 ∀ (pos:hW) (pins:List (ak × dR)) (s:ai) (σ:St) (H:Hp) (Q:List V->Hp->Prop),Inv X pins σ H s->t σ H Q->wpAny (bn X.prog X.w) X.A (spliced (gx pos (bD es X.env))) (AP X pins σ Q) X.xe s
def PS (X:Cx) (st:cK) (t:TS):Prop :=
 ∀ (pins:List (ak × dR)) (s:ai) (σ:St) (H:Hp) (D:Ends),Inv X pins σ H s->t D σ H->wpAny (bn X.prog X.w) X.A (exec st X.env) (SP X pins D) X.xe s
def xZ (X:Cx) (st:List cK) (t:TS):Prop :=
 ∀ (pins:List (ak × dR)) (s:ai) (σ:St) (H:Hp) (D:Ends),Inv X pins σ H s->t D σ H->wpAny (bn X.prog X.w) X.A (execs st X.env) (SP X pins D) X.xe s
theorem eY {α:Type} {t:Tr α} {Q Q':α->ai->Prop} {M:Ir} {A:bA} {E:ae->ai->Prop} {s:ai} (h:wpAny M A t Q E s) (hQ:∀ a s,Q a s->Q' a s):wpAny M A t Q' E s:=dc h hQ λ_ _ x=>x
section
variable {X:Cx}
def aaf (i:Nat):TE:=λσ H Q=>∃ v,σ[i]?=some (some v)/\Q v H
def tC (v:V):TE:=λ_ H Q=>Q v H
theorem Vu {i:Nat} {x:bc} {pos:hW} (hN:X.N[i]?=some x) (hv:Vis X.env.scope x) (hd:(x == ("__debug__" : bc))=false:=by decide) (Ck:(x == ("__classdict__" : bc))=false:=by decide):PE X (.Name x pos) (aaf i):=by
 intro pins s σ H Q I h;obtain⟨v,e,h⟩:=h;obtain⟨m,hn,hl⟩:=I.loc;obtain⟨u,r,l⟩:=hl i x v hN e hv;have fin:EP X pins σ Q u s:=⟨v,H,I,r,h⟩
 rcases l with ⟨hk,hm⟩ | ⟨hk,c,hc,nX⟩
 ·exact aap (V8 I.ok.kind hk hn hm fin) hd
 ·rcases hk with hk | hk
  ·exact aap (WS I.ok.kind hk hc nX fin) hd
  ·exact aap (wpAny_loadName_free I.ok.kind hk hc nX fin Ck) hd
theorem aA {i j pos}:PE X (.Constant (.int i) j pos) (tC (.int i)):=λ_ _ _ H _ I h=>wpAny_Constant_int ⟨.int i,H,I.tok _,⟨_,rfl⟩,h⟩
theorem lf {b j pos}:PE X (.Constant (.bool b) j pos) (tC (.bl b)):=λ_ _ _ H _ I h=>Constant_bool ⟨.bl b,H,I,rfl,h⟩
theorem oM {j pos}:PE X (.Constant .none j pos) (tC .fj):=λ_ _ _ H _ I h=>Kz ⟨.fj,H,I,rfl,h⟩
theorem xG {x j pos}:PE X (.Constant (.str x) j pos) (tC (.str x)):=λ_ _ _ H _ I h=>Ku ⟨.str x,H,I.tok _,⟨_,rfl⟩,h⟩
def Gl (X:Cx) (x:bc):Prop:=X.env.kindOf x=some .globalImplicit
theorem tq {E:ae->ai->Prop} {pins:List (ak × dR)} {s:ai} {σ:St} {H:Hp} {x:bc} {u:ae} {pos:hW} {Q:ae->ai->Prop} (I:Inv X pins σ H s) (hg:Gl X x) (hm:X.mg x=some u) (h:Q u s)
  (hd:(x == ("__debug__" : bc))=false:=by decide):wpAny (bn X.prog X.w) X.A (eO (.Name x pos) X.env) Q E s :=
 AH I.ok.kind hg (Calls.loadGlobal_global (by rw[I.ok.glob];exact I.mod.glob.keeps I.bk) hm h) hd
theorem lI {E:ae->ai->Prop} {pins:List (ak × dR)} {s:ai} {σ:St} {H:Hp} {x:bc} {u:ae} {pos:hW} {Q:ae->ai->Prop} (I:Inv X pins σ H s) (hg:Gl X x) (hm:X.mg x=none) (hv:oE x=some u) (h:Q u s)
  (hn:x ≠ "__name__" := by decide) (hd:(x == ("__debug__" : bc))=false:=by decide):wpAny (bn X.prog X.w) X.A (eO (.Name x pos) X.env) Q E s:=by
 obtain⟨mb,h1,h2⟩:=I.mod.blt;exact AH I.ok.kind hg (Calls.loadGlobal_builtin (by rw[I.ok.glob];exact I.mod.glob.keeps I.bk) hm (by rw[I.ok.blt];exact h1.keeps I.bk) ((h2 x hn).trans hv) h) hd
theorem Qt {x:bc} {v:V} {u:ae} {pos:hW} (hg:Gl X x) (hm:X.mg x=some u) (r:RelV v u) (hd:(x == ("__debug__" : bc))=false:=by decide):PE X (.Name x pos) (tC v) :=
 λ_ _ _ H _ I h=>tq I hg hm ⟨v,H,I,r,h⟩ hd
theorem oJ {x:bc} {v:V} {u:ae} {pos:hW} (hg:Gl X x) (hm:X.mg x=none) (hv:oE x=some u) (r:RelV v u) (hn:x ≠ "__name__" := by decide) (hd:(x == ("__debug__" : bc))=false:=by decide):PE X (.Name x pos) (tC v) :=
 λ_ _ _ H _ I h=>lI I hg hm hv ⟨v,H,I,r,h⟩ hn hd
variable {a b:b6} {ta tb:TE} {pos:hW}
def PC (X:Cx) (op:N6) (a b:b6) (t:TE):Prop :=
 ∀ (pins:List (ak × dR)) (s:ai) (σ:St) (H:Hp) (Q:VK),Inv X pins σ H s->t σ H Q ->
  wpAny (bn X.prog X.w) X.A (eO a X.env) (λv s₁=>wpAny (bn X.prog X.w) X.A (eO b X.env) (λu s₂=>wpAny (bn X.prog X.w) X.A (dF op v u) (EP X pins σ Q) X.xe s₂) X.xe s₁) X.xe s
theorem DI (b:b6) {op:N6} (h:op≠.In) (h2:op≠.NotIn):js op b=false:=by
 have e1:(op == CmpOp.In)=false:=by cases op <;> first | rfl | exact absurd rfl h
 have e2:(op == aaA)=false:=by cases op <;> first | rfl | exact absurd rfl h2
 cases b <;> simp[js,e1,e2]
def afL (ta:TE):TE:=λσ H Q=>ta σ H λx H1=>Q (.bl (decide (x=.fj))) H1
def Z9 (ta:TE):TE:=λσ H Q=>ta σ H λx H1=>Q (.bl (!decide (x=.fj))) H1
theorem RelV.DL {x:V} {v:ae} (r:RelV x v):(v == nz)=decide (x=.fj):=by
 cases x with
 | fj=>cases r;rfl
 | bl _=>cases r;rfl
 | int _=>obtain⟨t,rfl⟩:=r;rfl
 | str _=>obtain⟨t,rfl⟩:=r;rfl
 | Fd _=>obtain⟨t,rfl⟩:=r;rfl
 | RQ _=>obtain⟨t,rfl⟩:=r;rfl
 | ref _=>cases r;rfl
 | ty _=>cases r;rfl
theorem mJ {j pos'} (ha:PE X a ta):PC X .Is a (.Constant .none j pos') (afL ta):=by
 intro pins s σ H Q I h;refine eY (ha pins s σ H _ I h) λv s1 cW=>?_;obtain⟨x,H1,I1,r1,q1⟩:=cW;exact Kz (is_none_gen ⟨.bl _,H1,I1,by rw[r1.DL];rfl,q1⟩)
theorem wb {j pos'} (ha:PE X a ta):PC X .IsNot a (.Constant .none j pos') (Z9 ta):=by
 intro pins s σ H Q I h;refine eY (ha pins s σ H _ I h) λv s1 cW=>?_;obtain⟨x,H1,I1,r1,q1⟩:=cW;exact Kz (isnot_none_gen ⟨.bl _,H1,I1,by rw[r1.DL];rfl,q1⟩)
def tB (t:TE):TT:=λσ H Q=>t σ H λx H1=>∃ c,x=.bl c/\Q c H1
theorem FS {op:N6} {t:TE} (h:PC X op a b t) (h1:js op b=false:=by first | exact DI _ (by decide) (by decide) | rfl):PE X (.Compare a [op] [b] pos) t:=λpins s σ H Q I hw=>wpAny_Compare1 (h pins s σ H Q I hw) h1
theorem lL {op:N6} {t:TE} (h:PC X op a b t) (h1:js op b=false:=by first | exact DI _ (by decide) (by decide) | rfl):PT X (.Compare a [op] [b] pos) (tB t):=by
 intro pins s σ H Q I hw;refine SL (eY (h pins s σ H _ I hw) λv s1 h1=>eY h1 λu s2 h2=>eY h2 λc s3 cW=>?_) h1;obtain⟨x,H1,I1,r1,q1⟩:=cW;obtain⟨d,rfl,q⟩:=q1;cases r1;exact e8 ⟨H1,I1,q⟩
theorem fC {e:b6} {t:TE} (h:PE X e t) (he:∀ whole,PV e X.env whole=(do let v ← whole;HN e.pos;j5 [v] (truthy v)):=by intro _;rfl):PT X e (tB t):=by
 intro pins s σ H Q I hw;refine isTrue_plain (eY (h pins s σ H _ I hw) λv s1 cW=>?_) (he _);obtain⟨x,H1,I1,r1,q1⟩:=cW;obtain⟨d,rfl,q⟩:=q1;cases r1;exact e8 ⟨H1,I1,q⟩
variable {tA tB':TT} {rest:List b6}
def afG (t u:TT):TT:=λσ H Q=>t σ H λc H1=>if c=true then u σ H1 Q else Q false H1
def tOr (t u:TT):TT:=λσ H Q=>t σ H λc H1=>if c=true then Q true H1 else u σ H1 Q
def afN (t:TT):TT:=λσ H Q=>t σ H λc H1=>Q (!c) H1
theorem a0g (ha:PT X a tA):PW X (.BoolOp .And [a] pos) tA:=by
 intro wh pins s σ H Q I h;refine isTrue_and (eY (ha pins s σ H Q I h) λc s1 e=>?_);cases c with
 | true=>exact isTrue_and_nil e
 | false=>exact e
theorem a0f (ha:PT X a tA):PW X (.BoolOp .Or [a] pos) tA:=by
 intro wh pins s σ H Q I h;refine isTrue_or (eY (ha pins s σ H Q I h) λc s1 e=>?_);cases c with
 | false=>exact isTrue_or_nil e
 | true=>exact e
theorem a0j (ha:PT X a tA) (hb:PW X (.BoolOp .And (b::rest) pos) tB'):PW X (.BoolOp .And (a::b::rest) pos) (afG tA tB'):=by
 intro wh pins s σ H Q I h;refine isTrue_and (eY (ha pins s σ H _ I h) λc s1 cW=>?_);obtain⟨H1,I1,q1⟩:=cW;cases c with
 | true=>exact hb wh pins s1 σ H1 Q I1 q1
 | false=>exact⟨H1,I1,q1⟩
theorem a0h (ha:PT X a tA) (hb:PW X (.BoolOp .Or (b::rest) pos) tB'):PW X (.BoolOp .Or (a::b::rest) pos) (tOr tA tB'):=by
 intro wh pins s σ H Q I h;refine isTrue_or (eY (ha pins s σ H _ I h) λc s1 cW=>?_);obtain⟨H1,I1,q1⟩:=cW;cases c with
 | true=>exact⟨H1,I1,q1⟩
 | false=>exact hb wh pins s1 σ H1 Q I1 q1
theorem jm (ha:PT X a tA):PT X (.UnaryOp .Not a pos) (afN tA):=by
 intro pins s σ H Q I h;exact isTrue_not (ha pins s σ H (λc H1=>Q (!c) H1) I h)
def Z1 (ta tb:TE):TE:=λσ H Q=>ta σ H λx H1=>∃ c,x=.bl c/\if c=true then tb σ H1 Q else Q (.bl false) H1
def aaa (ta:TE):TE:=λσ H Q=>ta σ H λx H1=>∃ c,x=.bl c/\Q (.bl (!c)) H1
theorem BH {op} {t:TE} (h:PE X a t):PE X (.BoolOp op [a] pos) t:=λpins s σ H Q I hw=>BoolOp_one (h pins s σ H Q I hw)
theorem BG (ha:PE X a ta) (hb:PE X (.BoolOp .And (b::rest) pos) tb):PE X (.BoolOp .And (a::b::rest) pos) (Z1 ta tb):=by
 intro pins s σ H Q I h;refine BoolOp_and (eY (ha pins s σ H _ I h) λv s1 cW=>?_);obtain⟨x,H1,I1,r1,q1⟩:=cW;obtain⟨c,rfl,q1⟩:=q1;cases r1;refine e8 ?_;cases c with
 | true=>exact hb pins s1 σ H1 Q I1 q1
 | false=>exact⟨.bl false,H1,I1,rfl,q1⟩
theorem MG (ha:PE X a ta):PE X (.UnaryOp .Not a pos) (aaa ta):=by
 intro pins s σ H Q I h;refine UnaryOp_ (eY (ha pins s σ H _ I h) λv s1 cW=>?_);obtain⟨x,H1,I1,r1,q1⟩:=cW;obtain⟨c,rfl,q1⟩:=q1;cases r1;exact not_of (e8 ⟨.bl (!c),H1,I1,rfl,q1⟩)
def tIf (t:TT) (ta tb:TE):TE:=λσ H Q=>t σ H λc H1=>if c=true then ta σ H1 Q else tb σ H1 Q
theorem lm {c:b6} (hc:PT X c tA) (ha:PE X a ta) (hb:PE X b tb):PE X (.IfExp c a b pos) (tIf tA ta tb):=by
 intro pins s σ H Q I h;refine wpAny_IfExp (eY (hc pins s σ H _ I h) λd s1 cW=>?_);obtain⟨H1,I1,q1⟩:=cW;cases d with
 | true=>exact ha pins s1 σ H1 Q I1 q1
 | false=>exact hb pins s1 σ H1 Q I1 q1
end
def bQ (K:aj) (H:Hp) (a:ak) (xs:List V):Prop :=
 Rd H a (.lst xs) \/
  ∃ (o:dR) (cw:Array ae) (n:Nat),K.lookup a=some o/\o.cls=.type "list" /\ o.dict=none/\o.data=.seq cw n/\cw.size<=aJ/\Vals xs cw.toList
def eU (K:aj) (H:Hp) (a:ak) (xs:List V):Prop :=
 Rd H a (.tup xs) \/
  ∃ (o:dR) (cw:Array ae) (n:Nat),K.lookup a=some o/\o.cls=.type "tuple" /\ o.data=.seq cw n/\cw.size<=aJ/\Vals xs cw.toList
def acF:ae->Option V
 | .none=>some .fj
 | .bool b=>some (.bl b)
 | .int i _=>some (.int i)
 | .str x _=>some (.str x)
 | .bytes b _=>some (.Fd b)
 | .float b _=>some (.RQ b)
 | .ref a=>some (.ref a)
 | .type n=>some (.ty n)
 | _=>none
theorem RelV.abs {x:V} {u:ae} (r:RelV x u):acF u=some x:=by
 cases x with
 | fj=>cases r;rfl
 | bl _=>cases r;rfl
 | int _=>obtain⟨t,rfl⟩:=r;rfl
 | str _=>obtain⟨t,rfl⟩:=r;rfl
 | Fd _=>obtain⟨t,rfl⟩:=r;rfl
 | RQ _=>obtain⟨t,rfl⟩:=r;rfl
 | ref _=>cases r;rfl
 | ty _=>cases r;rfl
theorem RelV.inj {x y:V} {u:ae} (r:RelV x u) (q:RelV y u):x=y:=ck (r.abs.symm.trans q.abs)
theorem Vals.inj:∀ {xs ys:List V} {us:List ae},Vals xs us->Vals ys us->xs=ys
 | _,_,_,.nil,.nil=>rfl
 | _,_,_,.cons r t,.cons r' t'=>by rw[r.inj r',Vals.inj t t']
section
variable {X:Cx} {pins:List (ak × dR)} {σ:St} {H:Hp} {s:ai} {a:ak} {xs ys:List V}
theorem bQ.of {K:aj} (h:H a=some (.lst xs)):bQ K H a xs:=.inl (.inl h)
theorem eU.of {K:aj} (h:H a=some (.tup xs)):eU K H a xs:=.inl (.inl h)
theorem Inv.list (I:Inv X pins σ H s) (h:bQ X.K H a xs):∃ cw:List ae,Vals xs cw/\PlainL s.heap a cw.toArray/\xs.length<=aJ:=by
 rcases h with h | ⟨o,cw,n,hk,hc,hd,hs,hz,r⟩
 ·obtain⟨z,cw,n,r,e⟩:=h.ok I.cZ;exact⟨cw,r,⟨_,n,e,rfl,rfl,rfl⟩,z⟩
 ·refine⟨cw.toList,r,⟨o,n,I.v5 a o hk,hc,hd,by simpa using hs⟩,?_⟩;have e:=r.length;simp only [bS] at e;omega
theorem Inv.tuple (I:Inv X pins σ H s) (h:eU X.K H a xs):∃ cw:List ae,Vals xs cw/\aaG s.heap a cw.toArray/\xs.length<=aJ:=by
 rcases h with h | ⟨o,cw,n,hk,hc,hs,hz,r⟩
 ·obtain⟨z,cw,r,p⟩:=h.ok I.cZ;exact⟨cw,r,p,z⟩
 ·refine⟨cw.toList,r,⟨o,I.v5 a o hk,hc,n,by simpa using hs⟩,?_⟩;have e:=r.length;simp only [bS] at e;omega
theorem Inv.mH (I:Inv X pins σ H s) (h:bQ X.K H a xs) (h':bQ X.K H a ys):xs=ys:=by
 obtain⟨cw,r,⟨o,n,e,_,_,d⟩,_⟩:=I.list h;obtain⟨its',r',⟨o',n',e',_,_,d'⟩,_⟩:=I.list h';rw[e] at e';cases e';rw[d] at d';injection d' with d1 _;have:cw=its':=by simpa using congrArg Array.toList d1
 subst this;exact r.inj r'
end
abbrev Cx.vS (X:Cx) (E:ae->ai->Prop):Cx:={ X with xe:=E }
abbrev Cx.Jp (X:Cx):Cx:=X.vS λ_ _=>False
theorem Cx.Ok.vS {X:Cx} (ok:X.Ok) (E:ae->ai->Prop):(X.vS E).Ok :=
 ⟨ok.mod,ok.kind,ok.glob,ok.blt,ok.above,ok.inj,ok.has,ok.Xk,ok.hd,ok.frames,ok.ZY,ok.exf,ok.bs,ok.KU,ok.nH,ok.Ph,ok.rL,ok.Pj⟩
theorem Cx.Ok.qh {X:Cx} {E:ae->ai->Prop} (ok:(X.vS E).Ok):X.Ok :=
 ⟨ok.mod,ok.kind,ok.glob,ok.blt,ok.above,ok.inj,ok.has,ok.Xk,ok.hd,ok.frames,ok.ZY,ok.exf,ok.bs,ok.KU,ok.nH,ok.Ph,ok.rL,ok.Pj⟩
section
variable {X:Cx} {pins:List (ak × dR)} {σ:St} {H:Hp} {s:ai} {E:ae->ai->Prop}
theorem Inv.vS (I:Inv X pins σ H s) (E:ae->ai->Prop):Inv (X.vS E) pins σ H s:=⟨I.ok.vS E,I.os,I.bare,I.base,I.loc,I.cell,I.free,I.nW,I.pin,I.cZ,I.len⟩
theorem Inv.qh (I:Inv (X.vS E) pins σ H s):Inv X pins σ H s:=⟨I.ok.qh,I.os,I.bare,I.base,I.loc,I.cell,I.free,I.nW,I.pin,I.cZ,I.len⟩
theorem SP.qh {D:Ends} {f:Flow} {s':ai} (h:SP (X.vS E) pins D f s'):SP X pins D f s':=by
 cases f with
 | next=>obtain⟨σ',H',I,q⟩:=h;exact⟨σ',H',I.qh,q⟩
 | brk=>obtain⟨σ',H',I,q⟩:=h;exact⟨σ',H',I.qh,q⟩
 | cont=>obtain⟨σ',H',I,q⟩:=h;exact⟨σ',H',I.qh,q⟩
 | ret u=>obtain⟨v,σ',H',I,r,q⟩:=h;exact⟨v,σ',H',I.qh,r,q⟩
theorem xZ.Jp {st:List cK} {t:TS} (h:xZ X.Jp st t):xZ X st t:=λpins s σ H D I hw =>
 dc (h pins s σ H D (I.vS _) hw) (λ_ _ q=>q.qh) λ_ _ z=>fF z
end
section
variable {X:Cx} {st:cK} {rest:List cK} {t u:TS} {e:b6} {te:TE} {pos:hW}
def Z8:TS:=λD σ H=>D.nx σ H
def aac (t u:TS):TS:=λD σ H=>t { D with nx:=u D } σ H
theorem cr:xZ X [] Z8:=λ_ _ σ H _ I h=>um ⟨σ,H,I,h⟩
theorem av (h1:PS X st t) (h2:xZ X rest u):xZ X (st::rest) (aac t u):=by
 intro pins s σ H D I h;refine En (eY (h1 pins s σ H { D with nx:=u D } I h) λf s1 q=>?_);cases f with
 | next =>
  obtain⟨σ',H',I',q⟩:=q;exact h2 pins s1 σ' H' D I' q
 | ret v=>exact q
 | brk=>exact q
 | cont=>exact q
theorem aC (h1:PS X st t):xZ X [st] t:=by
 intro pins s σ H D I h;refine En (eY (h1 pins s σ H D I h) λf s1 q=>?_);cases f with
 | next=>exact um q
 | ret v=>exact q
 | brk=>exact q
 | cont=>exact q
def VN:TS:=λD σ H=>D.bk σ H
def Z3:TS:=λD σ H=>D.ct σ H
theorem MN:PS X (.Break pos) VN:=λ_ _ σ H _ I h=>wpAny_Break ⟨σ,H,I,h⟩
theorem vm:PS X (.Continue pos) Z3:=λ_ _ σ H _ I h=>wpAny_Continue ⟨σ,H,I,h⟩
theorem Inv.quiet {pins:List (ak × dR)} {σ:St} {H:Hp} {s:ai} (I:Inv X pins σ H s):interactive X.env=false:=by simp[interactive,I.ok.kind]
def Z5 (te:TE):TS:=λD σ H=>te σ H λ_ H1=>D.nx σ H1
theorem da (he:PE X e te) (hs:ww e none pos.line X.env=pure false:=by rfl):PS X (.Expr e pos) (Z5 te):=by
 intro pins s σ H D I h;refine wpAny_Expr_any (eY (he pins s σ H _ I h) λv s1 cW=>?_) I.quiet hs;obtain⟨x,H1,I1,r1,q1⟩:=cW;exact⟨σ,H1,I1,q1⟩
def afO (te:TE):TS:=λD σ H=>te σ H D.rt
theorem cf (he:PE X e te):PS X (.Return (some e) pos) (afO te):=by
 intro pins s σ H D I h;refine wpAny_Return_some (eY (he pins s σ H _ I h) λv s1 cW=>?_);obtain⟨x,H1,I1,r1,q1⟩:=cW;exact⟨x,σ,H1,I1,r1,q1⟩
def afK (c:TT) (t u:TS):TS:=λD σ H=>c σ H λb H1=>if b=true then t D σ H1 else u D σ H1
theorem dC {c:b6} {a b:List cK} {tc:TT} (hc:PT X c tc) (ha:xZ X a t) (hb:xZ X b u):PS X (.If c a b pos) (afK tc t u):=by
 intro pins s σ H D I h;refine wpAny_If (eY (hc pins s σ H _ I h) λd s1 cW=>?_);obtain⟨H1,I1,q1⟩:=cW;cases d with
 | true=>exact ha pins s1 σ H1 D I1 q1
 | false=>exact hb pins s1 σ H1 D I1 q1
def VQ:TS:=λ_ _ _=>False
theorem tH:PS X st VQ:=λ_ _ _ _ _ _ h=>h.elim
end
abbrev TG:=V->St->Hp->(St->Hp->Prop)->Prop
abbrev Ts:=List V->St->Hp->(St->Hp->Prop)->Prop
def PG (X:Cx) (target:b6) (t:TG):Prop :=
 ∀ (pins:List (ak × dR)) (s:ai) (σ:St) (H:Hp) (v:V) (u:ae) (Q:St->Hp->Prop),Inv X pins σ H s->RelV v u->t v σ H Q ->
  wpAny (bn X.prog X.w) X.A (yC target X.env u) (λ_ s'=>∃ σ' H',Inv X pins σ' H' s'/\Q σ' H') X.xe s
def Tj (X:Cx) (ts:List b6) (t:Ts):Prop :=
 ∀ (pins:List (ak × dR)) (s:ai) (σ:St) (H:Hp) (vs:List V) (us:List ae) (Q:St->Hp->Prop),Inv X pins σ H s->Vals vs us->t vs σ H Q ->
  wpAny (bn X.prog X.w) X.A (assignInOrder ((sL ts X.env).map (·.2)) us) (λ_ s'=>∃ σ' H',Inv X pins σ' H' s'/\Q σ' H') X.xe s
abbrev KM:=V->V->V->Hp->(Hp->Prop)->Prop
def Tl (X:Cx) (t:KM):Prop :=
 ∀ (pins:List (ak × dR)) (s:ai) (σ:St) (H:Hp) (o i v:V) (ov iv u:ae) (Q:Hp->Prop),Inv X pins σ H s->RelV o ov->RelV i iv->RelV v u->t o i v H Q ->
  wpAny (bn X.prog X.w) X.A (setItem ov iv u) (λ_ s'=>∃ H',Inv X pins σ H' s'/\Q H') X.xe s
abbrev Tu:=V->V->Hp->VK->Prop
def PIp (X:Cx) (op:Ti) (t:Tu):Prop :=
 ∀ (pins:List (ak × dR)) (s:ai) (σ:St) (H:Hp) (x y:V) (v u:ae) (Q:VK),Inv X pins σ H s->RelV x v->RelV y u->t x y H Q ->
  wpAny (bn X.prog X.w) X.A (inplaceOp op v u) (EP X pins σ Q) X.xe s
section
variable {X:Cx} {pos:hW}
def eW (i:Nat):TG:=λv σ H Q=>Q (σ.set i (some v)) H
theorem bZ {i:Nat} {x:bc} (hN:X.N.Nodup) (hi:X.N[i]?=some x) (hx:Loc X.env.scope x) (hf:X.fn x=true\/X.env.scope.names.lookup x=some .local:=by first | exact .inl rfl | exact .inr rfl | assumption):PG X (.Name x pos) (eW i):=by
 intro pins s σ H v u Q I r h;exact Ca (tT I hN hi hx r (λs' I'=>⟨_,H,I',h⟩) hf)
def yE:Ts:=λvs σ H Q=>vs=[]/\Q σ H
def iy (t:TG) (u:Ts):Ts:=λvs σ H Q=>∃ v r,vs=v::r/\t v σ H λσ' H'=>u r σ' H' Q
theorem iL:Tj X [] yE:=by
 intro pins s σ H vs us Q I r h;obtain⟨e,h⟩:=h;subst e;cases r;exact assignInOrder_nil ⟨σ,H,I,h⟩
theorem cH {e:b6} {es:List b6} {t:TG} {u:Ts} (h1:PG X e t) (h2:Tj X es u)
  (hs:(sL (e::es) X.env).map (·.2)=yC e X.env::(sL es X.env).map (·.2):=by rfl):Tj X (e::es) (iy t u):=by
 intro pins s σ H vs us Q I r h;obtain⟨v,vr,e1,h⟩:=h;subst e1;cases r with
 | cons r rr =>
  rw[hs];refine assignInOrder_cons (eY (h1 pins s σ H _ _ _ I r h) λ_ s1 cW=>?_);obtain⟨σ1,H1,I1,q1⟩:=cW;exact h2 pins s1 σ1 H1 _ _ Q I1 rr q1
def Fj (K:aj) (n:Nat) (t:Ts):TG:=λv σ H Q=>∃ a xs,v=.ref a/\eU K H a xs/\xs.length=n/\t xs σ H Q
theorem j7 {es:List b6} {k:Nat} {t:Ts} {n:Nat} (hc:X.calm=true) (h:Tj X es t)
  (hn:(sL es X.env).length=n:=by rfl) (Bt:(sL es X.env).findIdx? (·.1)=none:=by rfl):PG X (.Tuple es k pos) (Fj X.K n t):=by
 intro pins s σ H v u Q I r hw;obtain⟨a,xs,e1,hq,hl,hw⟩:=hw;subst e1;cases r;obtain⟨cw,rv,ht,hz⟩:=I.tuple hq;refine assign_Tuple_tuple (I.ok.hd hc) ht (by simp[hn,← hl,rv.length]) Bt λh' hx=>?_;have I1:Inv X pins σ H { s with heap:=h' }:=I.kept (t':=s.toks) λb o e=>hx b o (aK (aF e)) e;exact h pins _ σ H xs _ Q I1 (by simpa using rv) hw
def acW (to ti:TE) (t:KM):TG:=λv σ H Q=>to σ H λo H1=>ti σ H1 λi H2=>t o i v H2 λH3=>Q σ H3
theorem oN {o i:b6} {to ti:TE} {t:KM} (ho:PE X o to) (hi:PE X i ti) (hs:Tl X t)
  (ha:∀ v,yC (.Subscript o i pos) X.env v=(do
   let ov ← j5 [v] (eO o X.env)
   let iv ← j5 [v,ov] (eO i X.env)
   HN pos
   j5 [v,ov,iv] (setItem ov iv v)
   release [v,ov,iv] []):=by intro _;rfl):PG X (.Subscript o i pos) (acW to ti t):=by
 intro pins s σ H v u Q I r h;rw[ha];refine ah (dj (eY (ho pins s σ H _ I h) λov s1 cW=>?_));obtain⟨x,H1,I1,r1,q1⟩:=cW;refine ah (dj (eY (hi pins s1 σ H1 _ I1 q1) λiv s2 cW=>?_));obtain⟨y,H2,I2,r2,q2⟩:=cW;refine ah (yi (ah (dj (eY (hs pins s2 σ H2 x y v ov iv u _ I2 r1 r2 r q2) λ_ s3 cW=>?_))));obtain⟨H3,I3,q3⟩:=cW;exact wpAny_release ⟨σ,H3,I3,q3⟩
def Q5 (te:TE) (g:TG):TS:=λD σ H=>te σ H λx H1=>g x σ H1 D.nx
theorem oO {tg e:b6} {te:TE} {g:TG} (he:PE X e te) (hg:PG X tg g) (hs:swapsWithSole [tg] e pos.line X.env=pure false:=by rfl) (hw:swappedStores [tg] e X.env=pure none:=by rfl)
  (h1:(sL [tg] X.env).map (·.2)=[yC tg X.env]:=by rfl):PS X (.Assign [tg] e pos) (Q5 te g):=by
 intro pins s σ H D I h;refine wpAny_Assign_stores (eY (he pins s σ H _ I h) λv s1 cW=>?_) hs hw;obtain⟨x,H1,I1,r1,q1⟩:=cW;rw[h1];exact eY (hg pins s1 σ H1 x v _ I1 r1 q1) λ_ s2 q=>q
theorem bJ {i:Nat} {x:bc} {e:b6} {te:TE} {pos':hW} (hN:X.N.Nodup) (hi:X.N[i]?=some x) (hx:Loc X.env.scope x) (he:PE X e te) (hs:ww e (some (.Name x pos')) pos.line X.env=pure false:=by rfl) (hf:X.fn x=true\/X.env.scope.names.lookup x=some .local:=by first | exact .inl rfl | exact .inr rfl | assumption) :
  PS X (.Assign [.Name x pos'] e pos) (Q5 te (eW i)):=by
 intro pins s σ H D I h;refine wpAny_Assign_Name (eY (he pins s σ H _ I h) λv s1 cW=>?_) hs;obtain⟨y,H1,I1,r1,q1⟩:=cW;exact tT I1 hN hi hx r1 (λs2 I2=>⟨_,H1,I2,q1⟩) hf
def afH (i:Nat) (te:TE) (ti:Tu):TS:=λD σ H=>∃ x,σ[i]?=some (some x)/\te σ H λy H1=>ti x y H1 λz H2=>D.nx (σ.set i (some z)) H2
theorem Vx {i:Nat} {x:bc} {e:b6} {te:TE} {op:Ti} {ti:Tu} {pos':hW} (hN:X.N.Nodup) (hi:X.N[i]?=some x) (hx:Loc X.env.scope x) (he:PE X e te) (ho:PIp X op ti) (hf:X.fn x=true\/X.env.scope.names.lookup x=some .local:=by first | exact .inl rfl | exact .inr rfl | assumption) :
  PS X (.AugAssign (.Name x pos') op e pos) (afH i te ti):=by
 intro pins s σ H D I h;obtain⟨v,e1,h⟩:=h;obtain⟨m,hn,hl⟩:=I.loc;have vis:Vis X.env.scope x:=by rcases hx with k | k;exact .inl k;exact .inr (.inl k)
 obtain⟨u,r,l⟩:=hl i x v hi e1 vis;refine wpAny_AugAssign_Name ?_;have go:wpAny (bn X.prog X.w) X.A (eO e X.env) (λw s₂=>wpAny (bn X.prog X.w) X.A (inplaceOp op u w) (λr s₃=>wpAny (bn X.prog X.w) X.A (afD X.env x r) (λ_=>SP X pins D .next) X.xe s₃) X.xe s₂) X.xe s:=by
  refine eY (he pins s σ H _ I h) λw s1 cW=>?_;obtain⟨y,H1,I1,r1,q1⟩:=cW;refine eY (ho pins s1 σ H1 v y u w _ I1 r r1 q1) λz s2 cW=>?_;obtain⟨zv,H2,I2,r2,q2⟩:=cW;exact tT I2 hN hi hx r2 (λs3 I3=>⟨_,H2,I3,q2⟩) hf
 rcases l with ⟨hk,hm⟩ | ⟨hk,c,hc,nX⟩
 ·exact V8 I.ok.kind hk hn hm go
 ·rcases hk with hk | hk
  ·exact WS I.ok.kind hk hc nX go
  ·rcases hx with k | k
   ·have:X.env.scope.names.lookup x=some .free:=hk;rw[k] at this;cases this
   ·have:X.env.scope.names.lookup x=some .free:=hk;rw[k] at this;cases this
def Z2 (to ti te:TE) (Rc:V->V->Hp->VK->Prop) (tip:Tu) (Re:KM):TS:=λD σ H=>to σ H λo H1=>ti σ H1 λi H2=>Rc o i H2 λx H3=>te σ H3 λy H4=>tip x y H4 λz H5=>Re o i z H5 λH6=>D.nx σ H6
def W9 (X:Cx) (t:V->V->Hp->VK->Prop):Prop :=
 ∀ (pins:List (ak × dR)) (s:ai) (σ:St) (H:Hp) (o i:V) (ov iv:ae) (Q:VK),Inv X pins σ H s->RelV o ov->RelV i iv->t o i H Q ->
  wpAny (bn X.prog X.w) X.A (Bn ov iv) (EP X pins σ Q) X.xe s
theorem QA {o i e:b6} {to ti te:TE} {Rc:V->V->Hp->VK->Prop} {tip:Tu} {Re:KM} {op:Ti} {ze:hW} (ho:PE X o to) (hi:PE X i ti) (hg:W9 X Rc) (he:PE X e te) (hp:PIp X op tip) (hs:Tl X Re)
  (ha:∀ ov iv new,augStore i ov iv new=(do j5 [new,ov,iv] (setItem ov iv new);release [new,ov,iv] [];pure .next):=by intros;rfl):PS X (.AugAssign (.Subscript o i ze) op e pos) (Z2 to ti te Rc tip Re):=by
 intro pins s σ H D I h;refine wpAny_AugAssign_SubscriptAny (eY (ho pins s σ H _ I h) λov s1 cW=>?_) ha;obtain⟨x1,H1,I1,r1,q1⟩:=cW;refine eY (hi pins s1 σ H1 _ I1 q1) λiv s2 cW=>?_;obtain⟨x2,H2,I2,r2,q2⟩:=cW;refine eY (hg pins s2 σ H2 x1 x2 ov iv _ I2 r1 r2 q2) λold s3 cW=>?_;obtain⟨x3,H3,I3,r3,q3⟩:=cW;refine eY (he pins s3 σ H3 _ I3 q3) λv s4 cW=>?_;obtain⟨x4,H4,I4,r4,q4⟩:=cW;refine eY (hp pins s4 σ H4 x3 x4 old v _ I4 r3 r4 q4) λnew s5 cW=>?_;obtain⟨x5,H5,I5,r5,q5⟩:=cW;refine eY (hs pins s5 σ H5 x1 x2 x5 ov iv new _ I5 r1 r2 r5 q5) λ_ s6 cW=>?_;obtain⟨H6,I6,q6⟩:=cW;exact⟨σ,H6,I6,q6⟩
def ipI (f:Int->Int->Int):Tu:=λx y H Q=>∃ i j,x=.int i/\y=.int j/\Q (.int (f i j)) H
theorem UY:PIp X .Sub (ipI λi j=>i-j):=by
 intro pins s σ H x y v u Q I r1 r2 h;obtain⟨i,j,e1,e2,q⟩:=h;subst e1;subst e2;obtain⟨t,rfl⟩:=r1;obtain⟨t',rfl⟩:=r2;exact isub_int ⟨.int _,H,I.tok _,⟨_,rfl⟩,q⟩
end
section
variable {X:Cx} {pos:hW}
def VT (c:TT) (tb:TS):TS:=λD σ H=>∃ W:Nat->St->Hp->Prop,(∃ m,W m σ H)/\∀ m σ H,W m σ H ->
 c σ H λb H1=>if b=true then ∃ N:St->Hp->Prop,(∀ σ' H',N σ' H'->∃ m',m'<m/\W m' σ' H')/\tb { D with nx:=N,ct:=N,bk:=D.nx } σ H1 else D.nx σ H1
theorem xK {c:b6} {body:List cK} {tc:TT} {tb:TS} (hp:PassesOwn (bn X.prog X.w) X.A X.env X.xe) (hc:PT X c tc) (hb:xZ X body tb):PS X (.While c body [] pos) (VT tc tb):=by
 intro pins s σ H D I h;obtain⟨W,⟨m0,w0⟩,turn⟩:=h;refine wpAny_While (codeAny_whileLoop (λn s'=>∃ σ' H',Inv X pins σ' H' s'/\W n σ' H') ?_ m0 ⟨σ,H,I,w0⟩);rintro n s1 ⟨σ1,H1,I1,w1⟩;refine jq hp (eY (hc pins s1 σ1 H1 _ I1 (turn n σ1 H1 w1)) λb s2 cW=>?_);obtain⟨H2,I2,q2⟩:=cW;cases b with
 | true =>
  obtain⟨N,hN,q2⟩:=q2;rw[if_pos rfl];refine jq hp (eY (hb pins s2 σ1 H2 _ I2 q2) λf s3 q3=>?_);cases f with
  | next =>
   obtain⟨σ3,H3,I3,n3⟩:=q3;obtain⟨m',hm,w3⟩:=hN σ3 H3 n3;exact⟨m',hm,σ3,H3,I3,w3⟩
  | cont =>
   obtain⟨σ3,H3,I3,n3⟩:=q3;obtain⟨m',hm,w3⟩:=hN σ3 H3 n3;exact⟨m',hm,σ3,H3,I3,w3⟩
  | brk=>exact q3
  | ret v=>exact q3
 | false =>
  rw[if_neg bg];exact um ⟨σ1,H2,I2,q2⟩
end
structure It where
 go:Nat->Hp->Prop
 Eo:Nat->Hp->V->Hp->Prop
 stop:Nat->Hp->Prop
def mv (X:Cx) (pins:List (ak × dR)) (H:Hp) (b:ak):Prop :=
 H b=none/\b≠X.env.locals/\b ∉ X.fs/\(b∈X.ex\/X.s₀.heap.objs.size<=b)/\(∀ x c,X.env.cells.lookup x=some c->c≠b)/\∀ p∈X.pn++pins,p.1≠b
theorem Inv.vF {X:Cx} {pins:List (ak × dR)} {σ:St} {H H':Hp} {s:ai} {b:ak} (I:Inv X pins σ H s) (hb:s.heap.objs.size<=b) (hn:H' b=none):mv X pins H' b:=by
 refine⟨hn,bC (b8 I.lt hb),I.FI hb,.inr (b7 I.sz hb),λx c e z=>?_,λp hp z=>?_⟩
 ·obtain⟨v,q⟩:=I.cell x c e;exact absurd (b8 q.lt (by rw[z];exact hb)) (fA _)
 ·exact absurd (b8 (aF (I.pin p hp).1) (by rw[z];exact hb)) (fA _)
structure Turn (P:aS) (w:bN) (K:aj) (tg:b6) (J:It) (fp:List ak) (it:ak) (tn:Nat->cj->Prop):Prop where
 mem:it∈fp
 obj:∀ i h,tn i h->∀ b∈fp,∃ o,h.get? b=some o/\∀ v,o.data≠.cell v
 keep:∀ i h h',tn i h->(∀ b∈fp,∀ o,h.get? b=some o->h'.get? b=some o)->tn i h'
 item:∀ (X:Cx),X.prog=P->X.w=w->X.K=K->X.calm=true->∀ (i:Nat) (pins:List (ak × dR)) (s:ai) (σ:St) (H:Hp) (E:ae->ai->Prop),Inv X pins σ H s->(∀ b∈fp,mv X pins H b)->tn i s.heap->J.go i H ->
  wpAny (bn P w) X.A (tJ (.ref it)) (λr s1=>∃ u,r=some u /\
   wpAny (bn P w) X.A (uk tg (.ref it) u) (λ_ s2=>∃ x H',Inv X pins σ H' s2/\RelV x u/\J.Eo i H x H'/\tn (i+1) s2.heap/\∀ b∈fp,H' b=none) E s1) E s
 done:∀ (X:Cx),X.prog=P->X.w=w->X.K=K->X.calm=true->∀ (i:Nat) (pins:List (ak × dR)) (s:ai) (σ:St) (H:Hp) (E:ae->ai->Prop),Inv X pins σ H s->(∀ b∈fp,mv X pins H b)->tn i s.heap->J.stop i H ->
  wpAny (bn P w) X.A (tJ (.ref it)) (λr s1=>r=none/\Inv X pins σ H s1) E s
 self:∀ (A:bA) (i:Nat) (s:ai) (Q:ae->ai->Prop) (E:ae->ai->Prop),tn i s.heap->Q (.ref it) s->wpAny (bn P w) A (QE (.ref it)) Q E s
abbrev TI:=St->Hp->(It->Hp->Prop)->Prop
def Xa (X:Cx) (pins:List (ak × dR)) (σ:St) (tg:b6) (R:It->Hp->Prop) (itv:ae) (s2:ai):Prop :=
 ∃ (it:ak) (fp:List ak) (tn:Nat->cj->Prop) (J:It) (H':Hp),itv=.ref it/\Inv X pins σ H' s2/\Turn X.prog X.w X.K tg J fp it tn/\tn 0 s2.heap/\(∀ b∈fp,mv X pins H' b)/\R J H'
def PI (X:Cx) (tg iter:b6) (wi:TI):Prop :=
 ∀ (pins:List (ak × dR)) (s:ai) (σ:St) (H:Hp) (R:It->Hp->Prop),Inv X pins σ H s->wi σ H R ->
  wpAny (bn X.prog X.w) X.A (eO iter X.env) (λv s1=>wpAny (bn X.prog X.w) X.A (QE v) (Xa X pins σ tg R) X.xe s1) X.xe s
theorem RU {M:Ir} {A:bA} {E:ae->ai->Prop} {s:ai} {tg:b6} {it:ak} {u:ae} {o:dR} {n:String} {vs:Array ae} {Q:Unit->ai->Prop} (ho:s.heap.get? it=some o) (hc:o.cls=.type n) (hd:o.data=.fields vs)
  (hn:["enumerate","zip","dict_itemiterator","dict_reverseitemiterator","odict_iterator","itertools.zip_longest","itertools.pairwise"].contains n=false) (hQ:Q () s):wpAny M A (uk tg (.ref it) u) Q E s:=by
 unfold uk;cases tg <;> first
  | exact aH hQ
  | (cases u <;> first
    | exact aH hQ
    | (refine ah (wpAny_load ho ?_)
       rw[hc,hd];show wpAny M A (if (["enumerate","zip","dict_itemiterator","dict_reverseitemiterator","odict_iterator","itertools.zip_longest","itertools.pairwise"].contains n && vs[0]? == some (qQ _))=true then _ else _) Q E s;rw[if_neg (by intro h;rw[hn,Bool.false_and] at h;cases h)];exact aH hQ))
def zm (K:aj) (a:ak):It :=
 ⟨λi H=>∃ xs x,bQ K H a xs/\xs[i]?=some x,λi H x H'=>H'=H/\∀ xs,bQ K H a xs->xs[i]?=some x,λi H=>∃ xs,bQ K H a xs/\xs.length<=i⟩
def OP (lo:Int) (n:Nat):It:=⟨λi _=>i<n,λi H x H'=>H'=H/\x=.int (lo+i),λi _=>n<=i⟩
theorem JM {P:aS} {w:bN} {K:aj} {tg:b6} (a it:ak):Turn P w K tg (zm K a) [it] it (λi h=>h.IsListIter it a i) where
 mem:=by simp
 obj:=λi h st b hb=>by
  have e:b=it:=by simpa using hb
  subst e;obtain⟨o,e,c,d⟩:=st;exact⟨o,e,λv z=>by rw[d] at z;cases z⟩
 keep:=λi h h' st k=>st.at λo e=>k it (by simp) o e
 item:=by
  intro X hP hw hK hc i pins s σ H E I hf st hg;subst hP hw hK;obtain⟨xs,x,hq,hx⟩:=hg;obtain⟨cw,rv,p,hz⟩:=I.list hq;obtain⟨u,hu,ru⟩:=rv.get hx;obtain⟨f0,f1,f2,f3,f4,f5⟩:=hf it (by simp);refine l8 st p.isList (x:=u) (by simpa using hu) λh' Gb sb=>?_;have I1:Inv X pins σ H { s with heap:=h' }:=I.turned (t':=s.toks) (λb o hb e=>(sb.2 b hb).trans e) f0 f1 f3 f4 f5;obtain⟨o,e,c,d⟩:=id Gb;exact⟨u,rfl,RU (s:={ s with heap:=h' }) e c d (by decide) ⟨x,H,I1,ru,⟨rfl,λys hy=>by rw[I.mH hy hq];exact hx⟩,Gb,λb hb=>(hf b hb).1⟩⟩
 done:=by
  intro X hP hw hK hc i pins s σ H E I hf st hg;subst hP hw hK;obtain⟨xs,hq,hx⟩:=hg;obtain⟨cw,rv,p,hz⟩:=I.list hq;obtain⟨f0,f1,f2,f3,f4,f5⟩:=hf it (by simp);have hl:=rv.length;exact mU (I.ok.hd hc) st p.isList (by simp;omega) λh' eb=>⟨rfl,I.turned (t':=s.toks) (λb o hb e=>eb b o hb e) f0 f1 f3 f4 f5⟩
 self:=λ_ _ _ _ _ st h=>wpAny_pyIter_listiter st h
theorem Gd {P:aS} {w:bN} {K:aj} {tg:b6} (it:ak) (lo:Int) (n:Nat):Turn P w K tg (OP lo n) [it] it (λi h=>IsRangeIter h it (lo+(i:Nat)*1) ((n:Int)-(i:Nat)) 1) where
 mem:=by simp
 obj := λi h st b hb=>by
  have e:b=it:=by simpa using hb
  subst e;exact⟨_,st,λv z=>by
   have z':Data.fields _=Rx v:=z;cases z'⟩
 keep:=λi h h' st k=>k it (by simp) _ st
 item:=by
  intro X hP hw hK hc i pins s σ H E I hf st hg;subst hP hw hK;obtain⟨f0,f1,f2,f3,f4,f5⟩:=hf it (by simp);have W:=Walks.range (prog:=X.prog) (w:=X.w) (I.ok.hd hc) it lo 1 n;refine W.item i s _ _ hg st λv h' tk hv Gb kk=>?_;obtain⟨t,rfl⟩:=hv;have I1:Inv X pins σ H { s with heap:=h',toks:=tk }:=I.turned (λb o hb e=>kk b o (by simpa using hb) e) f0 f1 f3 f4 f5;refine⟨_,rfl,RU (s:={ s with heap:=h',toks:=tk }) (n := "range_iterator") Gb rfl rfl (by decide) ⟨.int (lo+i),H,I1,⟨t,?_⟩,⟨rfl,rfl⟩,Gb,λb hb=>(hf b hb).1⟩⟩;rw[KF]
 done:=by
  intro X hP hw hK hc i pins s σ H E I hf st hg;subst hP hw hK;obtain⟨f0,f1,f2,f3,f4,f5⟩:=hf it (by simp);exact wpAny_pyNext_range_end (I.ok.hd hc) st (by have:n<=i:=hg;omega) λh' eb=>⟨rfl,I.turned (t':=s.toks) (λb o hb e=>eb b o hb e) f0 f1 f3 f4 f5⟩
 self:=λ_ _ _ _ _ st h=>wpAny_pyIter_rangeiter st h
section
variable {X:Cx} {tg:b6}
def Sa (K:aj) (tl:TE):TI:=λσ H R=>tl σ H λx H1=>∃ a,x=.ref a/\(∃ xs,bQ K H1 a xs)/\R (zm K a) H1
theorem c8 {l:b6} {tl:TE} (hl:PE X l tl):PI X tg l (Sa X.K tl):=by
 intro pins s σ H R I h;refine eY (hl pins s σ H _ I h) λv s1 cW=>?_;obtain⟨x,H1,I1,r1,q1⟩:=cW;obtain⟨a,e,⟨xs,hq⟩,q⟩:=q1;subst e;cases r1;obtain⟨cw,rv,p,hz⟩:=I1.list hq;refine f6 p.isList ?_;refine⟨s1.heap.objs.size,[s1.heap.objs.size],_,_,H1,rfl,I1.kept (t':=s1.toks) λb o e=>al _ e,JM a _,⟨_,aQ _ rfl,rfl,rfl⟩,λb hb=>?_,q⟩;have e:b=s1.heap.objs.size:=by simpa using hb
 subst e;exact I1.vF (az _) (I1.cZ.fresh (az _))
theorem MR {pins:List (ak × dR)} {σ:St} {H:Hp} {s:ai} {R:It->Hp->Prop} {E:ae->ai->Prop} {lo hi:Int} {t u v:RL} {tk:Nat} (I:Inv X pins σ H s) (h1:-(2 ^ 62)<=lo) (h2:lo<2 ^ 62) (h3:-(2 ^ 62)<=hi) (h4:hi<2 ^ 62)
  (q:R (OP lo (hi-lo).toNat) H):wpAny (bn X.prog X.w) X.A (QE (.ref s.heap.objs.size)) (Xa X pins σ tg R) E { s with heap:=s.heap.push { cls:=.type "range",data:=.fields #[.int lo t,.int hi u,.int 1 v] },toks:=tk }:=by
 refine wpAny_pyIter_range (IsRange.new ..) (small_one h1 h2 h3 h4) ?_;have I1:Inv X pins σ H { s with heap:=s.heap.push { cls:=.type "range",data:=.fields #[.int lo t,.int hi u,.int 1 v] },toks:=tk }:=I.kept λb o e=>al _ e;refine⟨(s.heap.push { cls:=.type "range",data:=.fields #[.int lo t,.int hi u,.int 1 v] }).objs.size,[(s.heap.push { cls:=.type "range",data:=.fields #[.int lo t,.int hi u,.int 1 v] }).objs.size],_,_,H,rfl,
  I1.kept (t':=tk) λb o e=>al _ e,Gd _ lo (hi-lo).toNat,?_,λb hb=>?_,q⟩
 ·have e1:lo+((0:Nat):Int)*1=lo:=by simp
  have e2:(((hi-lo).toNat:Nat):Int)-((0:Nat):Int)=vT lo hi 1:=by rw[rangeSize_one];split <;> omega
  show IsRangeIter _ _ (lo+((0:Nat):Int)*1) ((((hi-lo).toNat:Nat):Int)-((0:Nat):Int)) 1;rw[e1,e2];exact aQ _ rfl
 ·have e:b=(s.heap.push { cls:=.type "range",data:=.fields #[.int lo t,.int hi u,.int 1 v] }).objs.size:=by simpa using hb
  subst e;exact I1.vF (az _) (I1.cZ.fresh (az _))
def YQ (ta:TA):TI:=λσ H R=>ta σ H λvs H1=>∃ j:Int,vs=[.int j]/\-(2 ^ 62)<=j/\j<2 ^ 62/\R (OP 0 j.toNat) H1
theorem iE {a:b6} {ta:TA} {p pos:hW} (hg:Gl X "range") (hm:X.mg "range" = none) (ha:PA X [a] ta) (hs:bD [a] X.env=[(false,eO a X.env)]:=by rfl):PI X tg (.Call (.Name "range" p) [a] [] pos) (YQ ta):=by
 intro pins s σ H R I h;refine SU (lI I hg hm boot_range (dk (eY (ha pos pins s σ H _ I h) λus s1 cW=>?_) hs rfl));obtain⟨vs,H1,I1,r1,q1⟩:=cW;obtain⟨j,e,q1,q2,q⟩:=q1;subst e;cases r1 with
 | cons r rr =>
  cases rr;obtain⟨t,rfl⟩:=r;exact call_range_1 (MR I1 (by omega) (by omega) q1 q2 (by simpa using q))
def afJ (wi:TI) (g:TG) (tb:TS):TS:=λD σ H=>wi σ H λJ H1=>∃ W:Nat->Nat->St->Hp->Prop,(∃ m,W 0 m σ H1)/\∀ i m σ H,W i m σ H ->
 (J.stop i H/\D.nx σ H)\/(J.go i H/\∃ N:St->Hp->Prop,(∀ σ' H',N σ' H'->∃ m',m'<m/\W (i+1) m' σ' H')/\∀ x H',J.Eo i H x H'->g x σ H' λσ2 H2=>tb { D with nx:=N,ct:=N,bk:=D.nx } σ2 H2)
def uT (fp:List ak) (h:cj):List (ak × dR):=fp.filterMap λb=>(h.get? b).map λo=>(b,o)
theorem kN {fp:List ak} {h:cj} {b:ak} {o:dR} (hb:b∈fp) (e:h.get? b=some o):(b,o)∈uT fp h:=kn.mpr ⟨b,hb,by rw[e];rfl⟩
theorem Jq {fp:List ak} {h:cj} {p:ak × dR} (hp:p∈uT fp h):p.1∈fp/\h.get? p.1=some p.2:=by
 obtain⟨b,hb,e⟩:=kn.mp hp;cases q:h.get? b with
 | none=>rw[q] at e;cases e
 | some o =>
  rw[q] at e;have e':(b,o)=p:=ck e;subst e';exact⟨hb,q⟩
theorem Inv.pinned {pins:List (ak × dR)} {σ:St} {H:Hp} {s:ai} {fp:List ak} (I:Inv X pins σ H s) (hf:∀ b∈fp,mv X pins H b) (ho:∀ b∈fp,∃ o,s.heap.get? b=some o/\∀ v,o.data≠.cell v):Inv X (pins++uT fp s.heap) σ H s :=
 I.kY λp hp=>(bj.mp hp).elim (λz=>I.pin p (aT _ z)) λz=>by
  obtain⟨hb,e⟩:=Jq z;obtain⟨f0,f1,f2,_⟩:=hf p.1 hb;obtain⟨o,e',d⟩:=ho p.1 hb;rw[e] at e';cases e';exact⟨e,f0,f1,f2,d⟩
theorem Inv.qg {pins pl:List (ak × dR)} {σ:St} {H:Hp} {s:ai} (I:Inv X (pins++pl) σ H s):Inv X pins σ H s:=I.kY λp hp=>I.pin p (aT _ (bY _ hp))
theorem dW {iter:b6} {body:List cK} {wi:TI} {g:TG} {tb:TS} {pos:hW} (hp:PassesOwn (bn X.prog X.w) X.A X.env X.xe) (hc:X.calm=true) (hi:PI X tg iter wi) (hg:PG X tg g) (hb:xZ X body tb)
  (hs:∀ x,fZ iter X.env x=pure x:=by intro _;rfl):PS X (.For tg iter body [] pos) (afJ wi g tb):=by
 intro pins s σ H D I h;refine wpAny_For (eY (hi pins s σ H _ I h) λv s1 h1=>eY h1 λitv s2 h2=>?_) hs;obtain⟨it,fp,tn,J,H2,e,I2,T,HM,f2,W,⟨m0,w0⟩,turn⟩:=h2;subst e;have VI:∀ {H':Hp},(∀ b∈fp,H' b=none)->∀ b∈fp,mv X pins H' b:=λhn b hb=>⟨hn b hb,(f2 b hb).2⟩
 refine codeAny_forLoop_any (λn s'=>∃ i σ' H',Inv X pins σ' H' s'/\tn i s'.heap/\(∀ b∈fp,H' b=none)/\W i n σ' H') ?_ m0 ⟨0,σ,H2,I2,HM,λb hb=>(f2 b hb).1,w0⟩;rintro n s3 ⟨i,σ3,H3,I3,Sw,RS,w3⟩;rcases turn i n σ3 H3 w3 with ⟨stop,qn⟩ | ⟨go,N,hN,tR⟩
 ·refine jq hp (eY (T.done X rfl rfl rfl hc i pins s3 σ3 H3 X.xe I3 (VI RS) Sw stop) λr s4 cW=>?_);obtain⟨hr,I4⟩:=cW;subst hr;exact um ⟨σ3,H3,I4,qn⟩
 ·refine jq hp (eY (T.item X rfl rfl rfl hc i pins s3 σ3 H3 X.xe I3 (VI RS) Sw go) λr s4 cW=>?_);obtain⟨u,hr,h4⟩:=cW;subst hr;refine jq hp (eY h4 λ_ s5 cW=>?_);obtain⟨x,H5,I5,r5,y5,Nq,Xo⟩:=cW;have W3:=I5.pinned (VI Xo) (T.obj _ _ Nq);refine jq hp (eY (hg _ s5 σ3 H5 x u _ W3 r5 (tR x H5 y5)) λ_ s6 cW=>?_);obtain⟨σ6,H6,I6,q6⟩:=cW;refine jq hp (eY (hb _ s6 σ6 H6 _ I6 q6) λf s7 q7=>?_);have again:∀ {σ7:St} {H7:Hp},Inv X (pins++uT fp s5.heap) σ7 H7 s7->N σ7 H7->∃ m,m<n/\∃ i σ' H',Inv X pins σ' H' s7/\tn i s7.heap/\(∀ b∈fp,H' b=none)/\W i m σ' H':=λ{σ7 H7} I7 n7=>by
   obtain⟨m',hm,w7⟩:=hN σ7 H7 n7;refine⟨m',hm,i+1,σ7,H7,I7.qg,T.keep _ _ _ Nq λb hb o e=>(I7.pin (b,o) (aT _ (aT _ (kN hb e)))).1,λb hb=>?_,w7⟩;obtain⟨o,e,d⟩:=T.obj _ _ Nq b hb;exact (I7.pin (b,o) (aT _ (aT _ (kN hb e)))).2.1
  cases f with
  | next=>obtain⟨σ7,H7,I7,n7⟩:=q7;exact again I7 n7
  | cont=>obtain⟨σ7,H7,I7,n7⟩:=q7;exact again I7 n7
  | brk=>obtain⟨σ7,H7,I7,q7⟩:=q7;exact⟨σ7,H7,I7.qg,q7⟩
  | ret v=>obtain⟨x7,σ7,H7,I7,r7,q7⟩:=q7;exact⟨x7,σ7,H7,I7.qg,r7,q7⟩
end
theorem gy {K:aj} {a:ak} {xs:List V} {g:TG} {tb:TS} {D:Ends} {σ:St} {H:Hp} (Pv:Nat->St->Hp->Prop) (h0:Pv 0 σ H) (hl:∀ i σ H,i<=xs.length->Pv i σ H->bQ K H a xs)
  (hs:∀ i x σ H,xs[i]?=some x->Pv i σ H->g x σ H λσ2 H2=>tb { D with nx:=Pv (i+1),ct:=Pv (i+1),bk:=D.nx } σ2 H2) (hd:∀ σ H,Pv xs.length σ H->D.nx σ H) :
  ∃ W:Nat->Nat->St->Hp->Prop,(∃ m,W 0 m σ H)/\∀ i m σ H,W i m σ H ->
   ((zm K a).stop i H/\D.nx σ H)\/((zm K a).go i H/\∃ N:St->Hp->Prop,(∀ σ' H',N σ' H'->∃ m',m'<m/\W (i+1) m' σ' H')/\∀ x H',(zm K a).Eo i H x H'->g x σ H' λσ2 H2=>tb { D with nx:=N,ct:=N,bk:=D.nx } σ2 H2):=by
 refine⟨λi m σ H=>m=xs.length-i/\i<=xs.length/\Pv i σ H,⟨xs.length,by simp,bv _,h0⟩,?_⟩;rintro i m σ H ⟨rfl,hi,p⟩;have q:=hl i σ H hi p
 by_cases iz:i<xs.length
 ·refine .inr ⟨⟨xs,xs[i],q,by simp[iz]⟩,Pv (i+1),λσ' H' p'=>⟨xs.length-(i+1),by omega,rfl,iz,p'⟩,λx H' y=>?_⟩;obtain⟨e,y⟩:=y;subst e;exact hs i x σ _ (y xs q) p
 ·have e:i=xs.length:=by omega
  subst e;exact .inl ⟨⟨xs,q,az _⟩,hd σ H p⟩
theorem jL {lo:Int} {n:Nat} {g:TG} {tb:TS} {D:Ends} {σ:St} {H:Hp} (Pv:Nat->St->Hp->Prop) (h0:Pv 0 σ H)
  (hs:∀ i σ H,i<n->Pv i σ H->g (.int (lo+i)) σ H λσ2 H2=>tb { D with nx:=Pv (i+1),ct:=Pv (i+1),bk:=D.nx } σ2 H2) (hd:∀ σ H,Pv n σ H->D.nx σ H) :
  ∃ W:Nat->Nat->St->Hp->Prop,(∃ m,W 0 m σ H)/\∀ i m σ H,W i m σ H ->
   ((OP lo n).stop i H/\D.nx σ H)\/((OP lo n).go i H/\∃ N:St->Hp->Prop,(∀ σ' H',N σ' H'->∃ m',m'<m/\W (i+1) m' σ' H')/\∀ x H',(OP lo n).Eo i H x H'->g x σ H' λσ2 H2=>tb { D with nx:=N,ct:=N,bk:=D.nx } σ2 H2):=by
 refine⟨λi m σ H=>m=n-i/\i<=n/\Pv i σ H,⟨n,by simp,bv _,h0⟩,?_⟩;rintro i m σ H ⟨rfl,hi,p⟩
 by_cases iz:i<n
 ·refine .inr ⟨iz,Pv (i+1),λσ' H' p'=>⟨n-(i+1),by omega,rfl,iz,p'⟩,λx H' y=>?_⟩;obtain⟨e,y⟩:=y;subst e y;exact hs i σ _ iz p
 ·have e:i=n:=by omega
  subst e;exact .inl ⟨az _,hd σ H p⟩
abbrev R2:=V->V->Hp->VK->Prop
def ux (X:Cx) (f:ae->ae->Tr ae) (r:R2):Prop :=
 ∀ (pins:List (ak × dR)) (s:ai) (σ:St) (H:Hp) (x y:V) (v u:ae) (Q:VK),Inv X pins σ H s->RelV x v->RelV y u->r x y H Q ->
  wpAny (bn X.prog X.w) X.A (f v u) (EP X pins σ Q) X.xe s
def UnR (X:Cx) (f:ae->Tr ae) (r:V->Hp->VK->Prop):Prop :=
 ∀ (pins:List (ak × dR)) (s:ai) (σ:St) (H:Hp) (x:V) (v:ae) (Q:VK),Inv X pins σ H s->RelV x v->r x H Q ->
  wpAny (bn X.prog X.w) X.A (f v) (EP X pins σ Q) X.xe s
def kF (X:Cx) (f:ae) (r:List V->Hp->VK->Prop):Prop :=
 ∀ (pins:List (ak × dR)) (s:ai) (σ:St) (H:Hp) (xs:List V) (us:List ae) (Q:VK),Inv X pins σ H s->Vals xs us->r xs H Q ->
  wpAny (bn X.prog X.w) X.A (rF f us) (EP X pins σ Q) X.xe s
def acB (X:Cx) (r:V->Hp->(Bool->Hp->Prop)->Prop):Prop :=
 ∀ (pins:List (ak × dR)) (s:ai) (σ:St) (H:Hp) (x:V) (v:ae) (Q:Bool->Hp->Prop),Inv X pins σ H s->RelV x v->r x H Q ->
  wpAny (bn X.prog X.w) X.A (truthy v) (TP X pins σ Q) X.xe s
def tOp (r:R2) (ta tb:TE):TE:=λσ H Q=>ta σ H λx H1=>tb σ H1 λy H2=>r x y H2 Q
def tUn (r:V->Hp->VK->Prop) (ta:TE):TE:=λσ H Q=>ta σ H λx H1=>r x H1 Q
def rI (C:Int->Int->Prop) (g:Int->Int->V):R2:=λx y H Q=>∃ i j,x=.int i/\y=.int j/\C i j/\Q (g i j) H
def Si (g:Int->Int->V):R2:=λx y H Q=>∃ i j,x=.int i/\y=.int j/\Q (g i j) H
def rU (g:Int->V):V->Hp->VK->Prop:=λx H Q=>∃ i,x=.int i/\Q (g i) H
section
variable {X:Cx} {a b c:b6} {ta tb tc:TE} {pos:hW}
theorem TD (ha:PE X a ta) (hb:PE X b tb) {pins:List (ak × dR)} {s:ai} {σ:St} {H:Hp} {R:V->V->Hp->Prop} (I:Inv X pins σ H s)
  (h:ta σ H λx H1=>tb σ H1 λy H2=>R x y H2) {Q:ae->ai->Prop} {f:ae->ae->Tr ae}
  (hf:∀ v u s2 x y H2,Inv X pins σ H2 s2->RelV x v->RelV y u->R x y H2->wpAny (bn X.prog X.w) X.A (f v u) Q X.xe s2) :
  wpAny (bn X.prog X.w) X.A (eO a X.env) (λv s₁=>wpAny (bn X.prog X.w) X.A (eO b X.env) (λu s₂=>wpAny (bn X.prog X.w) X.A (f v u) Q X.xe s₂) X.xe s₁) X.xe s:=by
 refine eY (ha pins s σ H _ I h) λv s1 cW=>?_;obtain⟨x,H1,I1,r1,q1⟩:=cW;refine eY (hb pins s1 σ H1 _ I1 q1) λu s2 cW=>?_;obtain⟨y,H2,I2,r2,q2⟩:=cW;exact hf v u s2 x y H2 I2 r1 r2 q2
theorem bV {op:Ti} {r:R2} (ho:ux X (rE op) r) (ha:PE X a ta) (hb:PE X b tb):PE X (.BinOp a op b pos) (tOp r ta tb):=by
 intro pins s σ H Q I h;exact wpAny_BinOp (TD ha hb I h λv u s2 x y H2 I2 rx ry q=>ho pins s2 σ H2 x y v u Q I2 rx ry q)
theorem Hg {op:UnaryOp} {r:V->Hp->VK->Prop} (ho:UnR X (unaryOp op) r) (ha:PE X a ta):PE X (.UnaryOp op a pos) (tUn r ta):=by
 intro pins s σ H Q I h;refine UnaryOp_ (eY (ha pins s σ H _ I h) λv s1 cW=>?_);obtain⟨x,H1,I1,r1,q1⟩:=cW;exact ho pins s1 σ H1 x v Q I1 r1 q1
theorem opI {f:ae->ae->Tr ae} {C:Int->Int->Prop} {g:Int->Int->Int}
  (QP:∀ (i j:Int) (t u:RL) (s:ai) (Q:ae->ai->Prop) (E:ae->ai->Prop),C i j->Q (.int (g i j) s.toks) { s with toks:=s.toks+1 }->wpAny (bn X.prog X.w) X.A (f (.int i t) (.int j u)) Q E s) :
  ux X f (rI C λi j=>.int (g i j)):=by
 intro pins s σ H x y v u Q I rx ry h;obtain⟨i,j,rfl,rfl,hc,q⟩:=h;obtain⟨t,rfl⟩:=rx;obtain⟨t',rfl⟩:=ry;exact QP i j t t' s _ _ hc ⟨.int (g i j),H,I.tok _,⟨_,rfl⟩,q⟩
theorem Zn {f:ae->ae->Tr ae} {g:Int->Int->Int}
  (QP:∀ (i j:Int) (t u:RL) (s:ai) (Q:ae->ai->Prop) (E:ae->ai->Prop),Q (.int (g i j) s.toks) { s with toks:=s.toks+1 }->wpAny (bn X.prog X.w) X.A (f (.int i t) (.int j u)) Q E s) :
  ux X f (Si λi j=>.int (g i j)):=by
 intro pins s σ H x y v u Q I rx ry h;obtain⟨i,j,rfl,rfl,q⟩:=h;obtain⟨t,rfl⟩:=rx;obtain⟨t',rfl⟩:=ry;exact QP i j t t' s _ _ ⟨.int (g i j),H,I.tok _,⟨_,rfl⟩,q⟩
theorem Qp {f:ae->ae->Tr ae} {g:Int->Int->Bool}
  (QP:∀ (i j:Int) (t u:RL) (s:ai) (Q:ae->ai->Prop) (E:ae->ai->Prop),Q (.bool (g i j)) s->wpAny (bn X.prog X.w) X.A (f (.int i t) (.int j u)) Q E s) :
  ux X f (Si λi j=>.bl (g i j)):=by
 intro pins s σ H x y v u Q I rx ry h;obtain⟨i,j,rfl,rfl,q⟩:=h;obtain⟨t,rfl⟩:=rx;obtain⟨t',rfl⟩:=ry;exact QP i j t t' s _ _ ⟨.bl (g i j),H,I,rfl,q⟩
def acb (i j:Int):Prop:=0<j/\j<1073741824
def acd (i j:Int):Prop:=0<=j/\j<=1000000/\i.natAbs<2 ^ 64
def OM (i j:Int):Prop:=(-(2 ^ 64)<i/\i<2 ^ 64)\/(-(2 ^ 64)<j/\j<2 ^ 64)
theorem OM.ok {i j:Int} (h:OM i j):IntMulOk i j:=by
 rcases h with ⟨h1,h2⟩ | ⟨h1,h2⟩
 ·exact .of_left (intBits_le_64 h1 h2)
 ·exact .of_right (intBits_le_64 h1 h2)
theorem gY:ux X (rE .Add) (Si λi j=>.int (i+j)):=Zn λ_ _ _ _ _ _ _ q=>add_int q
theorem lK:ux X (rE .Sub) (Si λi j=>.int (i-j)):=Zn λ_ _ _ _ _ _ _ q=>sub_int q
theorem lJ:ux X (rE .Mult) (rI OM λi j=>.int (i*j)):=opI λ_ _ _ _ _ _ _ hc q=>mul_int q hc.ok
theorem ii:ux X (rE .FloorDiv) (rI acb λi j=>.int (i / j)):=opI λi j _ _ _ _ _ hc q=>by
 have h1:(0:Int)<j:=hc.1;have h2:j<1073741824:=hc.2;exact floordiv_int (by omega) (by rw[Int.fdiv_eq_ediv_of_nonneg i (by omega)];exact q) (.inl (PyProof.noPylong_small (by omega)))
theorem fm:ux X (rE .Mod) (rI (λ_ j=>0<j) λi j=>.int (i % j)):=opI λi j _ _ _ _ _ hc q=>by
 have h1:(0:Int)<j:=hc;exact mod_int' (by omega) (by rw[Int.fmod_eq_emod_of_nonneg i (by omega)];exact q)
theorem Vo:ux X (rE .Pow) (rI acd λi j=>.int (i ^ j.toNat)):=opI λ_ _ _ _ _ _ _ hc q=>pow_int_small hc.1 hc.2.1 hc.2.2 q
theorem unI {f:ae->Tr ae} {g:Int->Int}
  (QP:∀ (i:Int) (t:RL) (s:ai) (Q:ae->ai->Prop) (E:ae->ai->Prop),Q (.int (g i) s.toks) { s with toks:=s.toks+1 }->wpAny (bn X.prog X.w) X.A (f (.int i t)) Q E s) :
  UnR X f (rU λi=>.int (g i)):=by
 intro pins s σ H x v Q I rx h;obtain⟨i,rfl,q⟩:=h;obtain⟨t,rfl⟩:=rx;exact QP i t s _ _ ⟨.int (g i),H,I.tok _,⟨_,rfl⟩,q⟩
theorem B7:UnR X (unaryOp .USub) (rU λi=>.int (-i)):=unI λ_ _ _ _ _ q=>neg_int q
end
def ZM:V->V->Bool
 | .fj,.fj=>true | .fj,.int _=>true | .int _,.fj=>true | .fj,.bl _=>true | .bl _,.fj=>true | .fj,.str _=>true | .str _,.fj=>true
 | .int _,.int _=>true | .bl _,.bl _=>true | .str _,.str _=>true | .Fd _,.Fd _=>true
 | .int _,.str _=>true | .str _,.int _=>true | .bl _,.str _=>true | .str _,.bl _=>true
 | _,_=>false
def rEq:R2:=λx y H Q=>ZM x y=true/\Q (.bl (decide (x=y))) H
def rNe:R2:=λx y H Q=>ZM x y=true/\Q (.bl (!decide (x=y))) H
theorem GH {i j:Int}:decide (V.int i=V.int j)=(i == j):=by
 rw[eM];simp
theorem K5 {i j:Bool}:decide (V.bl i=V.bl j)=(i == j):=by
 rw[eM];simp
theorem GI {i j:bc}:decide (V.str i=V.str j)=(i == j):=by
 rw[eM];simp
theorem GG {i j:Array UInt8}:decide (V.Fd i=V.Fd j)=(i.toList == j.toList):=by
 rw[eM];cases i;cases j;simp
section
variable {X:Cx} {a b c:b6} {ta tb tc:TE} {pos:hW}
theorem ef {pins:List (ak × dR)} {σ:St} {H:Hp} {s:ai} {Q:VK} {k k':Bool} (I:Inv X pins σ H s) (q:Q (.bl k) H) (e:k=k'):EP X pins σ Q (.bool k') s:=by
 subst e;exact⟨.bl k,H,I,rfl,q⟩
theorem iR:ux X (dF .Eq) rEq:=by
 intro pins s σ H x y v u Q I rx ry h;obtain⟨hs,q⟩:=h;cases x with
 | fj =>
  cases rx;cases y with
  | fj=>cases ry;exact PySem.EqNone.eq_none_none (ef I q (by simp))
  | bl j=>cases ry;exact PySem.EqNone.eq_none_bool (ef I q (by simp))
  | int j=>obtain⟨t',rfl⟩:=ry;exact PySem.EqNone.eq_none_int (ef I q (by simp))
  | str j=>obtain⟨t',rfl⟩:=ry;exact PySem.EqNone.eq_none_str (ef I q (by simp))
  | _=>exact absurd (show false=true from hs) bg
 | bl i =>
  cases rx;cases y with
  | fj=>cases ry;exact PySem.EqNone.eq_bool_none (ef I q (by simp))
  | bl j=>cases ry;exact eq_bool (ef I q K5)
  | str j=>obtain⟨t',rfl⟩:=ry;exact acn (ef I q (by simp))
  | _=>exact absurd (show false=true from hs) bg
 | int i =>
  obtain⟨t,rfl⟩:=rx;cases y with
  | fj=>cases ry;exact PySem.EqNone.eq_int_none (ef I q (by simp))
  | int j=>obtain⟨t',rfl⟩:=ry;exact eq_int (ef I q GH)
  | str j=>obtain⟨t',rfl⟩:=ry;exact aco (ef I q (by simp))
  | _=>exact absurd (show false=true from hs) bg
 | str i =>
  obtain⟨t,rfl⟩:=rx;cases y with
  | fj=>cases ry;exact PySem.EqNone.eq_str_none (ef I q (by simp))
  | bl j=>cases ry;exact acp (ef I q (by simp))
  | int j=>obtain⟨t',rfl⟩:=ry;exact acq (ef I q (by simp))
  | str j=>obtain⟨t',rfl⟩:=ry;exact eq_str (ef I q GI)
  | _=>exact absurd (show false=true from hs) bg
 | Fd i =>
  obtain⟨t,rfl⟩:=rx;cases y with
  | Fd j=>obtain⟨t',rfl⟩:=ry;exact PySem.W.eq_bytes (ef I q GG)
  | _=>exact absurd (show false=true from hs) bg
 | _=>cases y <;> exact absurd (show false=true from hs) bg
theorem vk:ux X (dF .NotEq) rNe:=by
 intro pins s σ H x y v u Q I rx ry h;obtain⟨hs,q⟩:=h;cases x with
 | fj =>
  cases rx;cases y with
  | fj=>cases ry;exact PySem.EqNone.ne_none_none (ef I q (by simp))
  | bl j=>cases ry;exact PySem.EqNone.ne_none_bool (ef I q (by simp))
  | int j=>obtain⟨t',rfl⟩:=ry;exact PySem.EqNone.ne_none_int (ef I q (by simp))
  | str j=>obtain⟨t',rfl⟩:=ry;exact PySem.EqNone.ne_none_str (ef I q (by simp))
  | _=>exact absurd (show false=true from hs) bg
 | bl i =>
  cases rx;cases y with
  | fj=>cases ry;exact PySem.EqNone.ne_bool_none (ef I q (by simp))
  | bl j=>cases ry;exact ne_bool (ef I q (congrArg not K5))
  | str j=>obtain⟨t',rfl⟩:=ry;exact acr (ef I q (by simp))
  | _=>exact absurd (show false=true from hs) bg
 | int i =>
  obtain⟨t,rfl⟩:=rx;cases y with
  | fj=>cases ry;exact PySem.EqNone.ne_int_none (ef I q (by simp))
  | int j=>obtain⟨t',rfl⟩:=ry;exact ne_int (ef I q (congrArg not GH))
  | str j=>obtain⟨t',rfl⟩:=ry;exact acs (ef I q (by simp))
  | _=>exact absurd (show false=true from hs) bg
 | str i =>
  obtain⟨t,rfl⟩:=rx;cases y with
  | fj=>cases ry;exact PySem.EqNone.ne_str_none (ef I q (by simp))
  | bl j=>cases ry;exact act (ef I q (by simp))
  | int j=>obtain⟨t',rfl⟩:=ry;exact acu (ef I q (by simp))
  | str j=>obtain⟨t',rfl⟩:=ry;exact ne_str (ef I q (congrArg not GI))
  | _=>exact absurd (show false=true from hs) bg
 | Fd i =>
  obtain⟨t,rfl⟩:=rx;cases y with
  | Fd j=>obtain⟨t',rfl⟩:=ry;exact PySem.W.ne_bytes (ef I q (congrArg not GG))
  | _=>exact absurd (show false=true from hs) bg
 | _=>cases y <;> exact absurd (show false=true from hs) bg
theorem Hb:ux X (dF .Lt) (Si λi j=>.bl (decide (i<j))):=Qp λ_ _ _ _ _ _ _ q=>lt_int q
theorem Zo:ux X (dF .LtE) (Si λi j=>.bl (decide (i<=j))):=Qp λ_ _ _ _ _ _ _ q=>le_int q
theorem Ha:ux X (dF .Gt) (Si λi j=>.bl (decide (j<i))):=Qp λ_ _ _ _ _ _ _ q=>gt_int q
theorem Mw:ux X (dF .GtE) (Si λi j=>.bl (decide (j<=i))):=Qp λ_ _ _ _ _ _ _ q=>ge_int q
theorem cE (b:b6) {op:N6} (h:op≠.In:=by decide) (h2:op≠.NotIn:=by decide):js op b=false:=by
 have e1:(op == CmpOp.In)=false:=by cases op <;> first | rfl | exact absurd rfl h
 have e2:(op == aaA)=false:=by cases op <;> first | rfl | exact absurd rfl h2
 cases b <;> simp[js,e1,e2]
theorem wc {op:N6} {r:R2} (ho:ux X (dF op) r) (ha:PE X a ta) (hb:PE X b tb) (hm:js op b=false):PE X (.Compare a [op] [b] pos) (tOp r ta tb):=by
 intro pins s σ H Q I h;exact wpAny_Compare1 (TD ha hb I h λv u s2 x y H2 I2 rx ry q=>ho pins s2 σ H2 x y v u Q I2 rx ry q) hm
def aae (t:TE):TT:=λσ H Q=>t σ H λx H'=>∃ k,x=.bl k/\Q k H'
theorem cg {op:N6} {r:R2} (ho:ux X (dF op) r) (ha:PE X a ta) (hb:PE X b tb) (hm:js op b=false):PT X (.Compare a [op] [b] pos) (aae (tOp r ta tb)):=by
 intro pins s σ H Q I h;refine SL (eY (ha pins s σ H _ I h) λv s1 ⟨x,H1,I1,r1,q1⟩=>eY (hb pins s1 σ H1 _ I1 q1) λu s2 ⟨y,H2,I2,r2,q2⟩ =>
  eY (ho pins s2 σ H2 x y v u _ I2 r1 r2 q2) λc s3 ⟨z,H3,I3,r3,k,e,q3⟩=>?_) hm
 subst e;cases r3;exact e8 ⟨H3,I3,q3⟩
def VO (r r':R2) (ta tb tc:TE):TE:=λσ H Q=>ta σ H λx H1=>tb σ H1 λy H2=>r x y H2 λz H3=>∃ k,z=.bl k /\
 (if k=true then tc σ H3 λw' H4=>r' y w' H4 Q else Q (.bl false) H3)
theorem MC {op op':N6} {r r':R2} (ho:ux X (dF op) r) (xo:ux X (dF op') r') (ha:PE X a ta) (hb:PE X b tb) (hc:PE X c tc)
  (hm:lastMarks [op,op'] [b,c]=false:=by with_unfolding_all rfl):PE X (.Compare a [op,op'] [b,c] pos) (VO r r' ta tb tc):=by
 intro pins s σ H Q I h;refine Compare_chain (eY (ha pins s σ H _ I h) λv s1 ⟨x,H1,I1,r1,q1⟩=>chain_link (eY (hb pins s1 σ H1 _ I1 q1) λu s2 ⟨y,H2,I2,r2,q2⟩ =>
  eY (ho pins s2 σ H2 x y v u _ I2 r1 r2 q2) λd s3 ⟨z,H3,I3,r3,k,e,q3⟩=>?_)) hm
 subst e;cases r3;refine e8 ?_;cases k with
 | false=>exact ite_ff ⟨.bl false,H3,I3,rfl,q3⟩
 | true=>exact ite_tt (chain_last (eY (hc pins s3 σ H3 _ I3 q3) λw' s4 ⟨z',H4,I4,r4,q4⟩=>xo pins s4 σ H4 y z' u w' Q I4 r2 r4 q4))
def Xc (K:aj) (x:V) (H:Hp) (k:Bool):Prop :=
 match x with
 | .fj=>k=false
 | .bl b=>k=b
 | .int i=>k=(i != 0)
 | .str y=>y.length<=aJ/\k=((y.length:Int) != 0)
 | .Fd y=>y.size<=aJ/\k=((y.size:Int) != 0)
 | .ref p=>(∃ xs,bQ K H p xs/\k=!xs.isEmpty)\/(∃ xs,eU K H p xs/\k=!xs.isEmpty)\/∃ fE,H p=some (.dK fE)/\k=!fE.isEmpty
 | _=>False
theorem Fz {κ:Type} {fE:List (κ × V)} {vs:List (κ × ae)} (r:KV fE vs):(!vs.isEmpty)=!fE.isEmpty:=by
 cases r <;> rfl
theorem xr {xs:List V} {cw:List ae} (r:Vals xs cw):(!cw.toArray.isEmpty)=!xs.isEmpty:=by
 cases r <;> simp
theorem uM:(aJ:Nat)<2 ^ 63:=by rw[VG];decide
theorem V4:acB X (λx H Q=>∃ k,Xc X.K x H k/\Q k H):=by
 intro pins s σ H x v Q I rx h;obtain⟨k,e,q⟩:=h;have hl:=uM;have hs:aJ=16777216:=VG;cases x with
 | fj =>
  cases rx;have e':k=false:=e;subst e';exact truthy_none ⟨H,I,q⟩
 | bl b =>
  cases rx;have e':k=b:=e;subst e';exact e8 ⟨H,I,q⟩
 | int i =>
  obtain⟨t,rfl⟩:=rx;have e':k=(i != 0):=e;subst e';exact PySem.P.truthy_int ⟨H,I,q⟩
 | str y =>
  obtain⟨t,rfl⟩:=rx;obtain⟨hy,e'⟩:y.length<=aJ/\k=((y.length:Int) != 0):=e;subst e';exact PySem.P.truthy_str (by omega) ⟨H,I.tok _,q⟩
 | Fd y =>
  obtain⟨t,rfl⟩:=rx;obtain⟨hy,e'⟩:y.size<=aJ/\k=((y.size:Int) != 0):=e;subst e';exact PySem.W.truthy_bytes (by omega) ⟨H,I.tok _,q⟩
 | ref p =>
  cases rx;have e':(∃ xs,bQ X.K H p xs/\k=!xs.isEmpty)\/(∃ xs,eU X.K H p xs/\k=!xs.isEmpty)\/∃ fE,H p=some (.dK fE)/\k=!fE.isEmpty:=e;rcases e' with ⟨xs,hx,e'⟩ | ⟨xs,hx,e'⟩ | ⟨fE,hx,e'⟩
  ·subst e';obtain⟨cw,r,pl,hz⟩:=I.list hx;have hlen:=r.length;exact wpAny_truthy_list pl.isList (by simp only [aV];omega) ⟨H,I.tok _,by rw[xr r];exact q⟩
  ·subst e';obtain⟨cw,r,pl,hz⟩:=I.tuple hx;have hlen:=r.length;exact truthy_tuple pl (by simp only [aV];omega) ⟨H,I.tok _,by rw[xr r];exact q⟩
  ·subst e';obtain⟨hz,hS,vs,r,m⟩:fE.length<=aJ/\(p == o8)=false/\∃ vs,KV fE vs/\s.heap.DictOf (gA X.prog X.w) p vs:=I.cZ p _ hx;have hlen:fE.length=vs.length:=Ch r;exact wpAny_truthy_dict hS m (by omega) ⟨H,I.tok _,by rw[Fz r];exact q⟩
 | _=>exact (show False from e).elim
theorem tI (ha:PE X a ta) (he:∀ whole,PV a X.env whole=(do let v ← whole;HN a.pos;j5 [v] (truthy v))) :
  PT X a (λσ H Q=>ta σ H λx H'=>∃ k,Xc X.K x H' k/\Q k H'):=by
 intro pins s σ H Q I h;refine isTrue_plain (eY (ha pins s σ H _ I h) λv s1 cW=>?_) (he _);obtain⟨x,H1,I1,r1,q1⟩:=cW;exact V4 pins s1 σ H1 x v Q I1 r1 q1
theorem a0e {x:V} {us:List ae} (r:Vals [x] us):∃ u,us=[u]/\RelV x u:=by
 cases r with
 | cons r1 r2=>cases r2;exact⟨_,rfl,r1⟩
theorem a0z {x y:V} {us:List ae} (r:Vals [x,y] us):∃ u w',us=[u,w']/\RelV x u/\RelV y w':=by
 cases r with
 | cons r1 r2 =>
  cases r2 with
  | cons r3 r4=>cases r4;exact⟨_,_,rfl,r1,r3⟩
theorem zx (hc:X.calm=true):kF X (.builtin "max") (λxs H Q=>∃ i j,xs=[.int i,.int j]/\Q (.int (if j > i then j else i)) H):=by
 intro pins s σ H xs us Q I r h;obtain⟨i,j,rfl,q⟩:=h;obtain⟨u,w',rfl,⟨t,rfl⟩,⟨t',rfl⟩⟩:=a0z r;refine max_two_ints (I.ok.hd hc) λh' tk k=>⟨_,H,I.kept k,?_,q⟩
 by_cases hj:j > i
 ·rw[if_pos hj,if_pos hj];exact⟨_,rfl⟩
 ·rw[if_neg hj,if_neg hj];exact⟨_,rfl⟩
theorem II (hc:X.calm=true):kF X (.builtin "min") (λxs H Q=>∃ i j,xs=[.int i,.int j]/\Q (.int (if j<i then j else i)) H):=by
 intro pins s σ H xs us Q I r h;obtain⟨i,j,rfl,q⟩:=h;obtain⟨u,w',rfl,⟨t,rfl⟩,⟨t',rfl⟩⟩:=a0z r;refine min_two_ints (I.ok.hd hc) λh' tk k=>⟨_,H,I.kept k,?_,q⟩
 by_cases hj:j<i
 ·rw[if_pos hj,if_pos hj];exact⟨_,rfl⟩
 ·rw[if_neg hj,if_neg hj];exact⟨_,rfl⟩
theorem IH:kF X (.type "int") (λxs H Q=>(∃ i,xs=[.int i]/\Q (.int i) H)\/∃ k,xs=[.bl k]/\Q (.int (if k then 1 else 0)) H):=by
 intro pins s σ H xs us Q I r h;rcases h with ⟨i,rfl,q⟩ | ⟨k,rfl,q⟩
 ·obtain⟨u,rfl,t,rfl⟩:=a0e r;exact call_int_int ⟨.int i,H,I,⟨_,rfl⟩,q⟩
 ·obtain⟨u,rfl,r1⟩:=a0e r;cases r1;exact call_int_bool ⟨.int (if k then 1 else 0),H,I.tok _,⟨_,rfl⟩,q⟩
end
structure EV (h:cj) (x dx C:ak) (mA:bc->Option ae):Prop where
 obj:h.get? x=some (gF C dx)
 ns:h.Ns1 dx mA
 ne:dx≠x
theorem Jl {h:cj} {dx:ak} {mA:bc->Option ae} (n:h.Ns1 dx mA):∃ od,h.get? dx=some od/\∀ name,qG name od=some (mA name):=by
 obtain⟨o,es,ep,ho,hd,hk,_,hm⟩:=n;refine⟨o,ho,λname=>?_⟩;have e:=hm name;unfold nsFind findBy at e;rw[← Array.find?_toList] at e;unfold qG;rw[hd];dsimp only;split
 ·rename_i y q;rw[q] at e;exact congrArg some e
 ·rename_i q;rw[q] at e;have a:es.toList.any (·.refKey)=false:=by
   rw[List.any_eq_false];intro y hy;obtain⟨z,t,Pu⟩:=hk y (Array.mem_toList_iff.mp hy);simp[DictEntry.refKey,Pu]
  have a':¬ es.toList.any (·.refKey)=true:=by rw[a];exact bg
  rw[if_neg a'];exact congrArg some e
theorem EV.look {h:cj} {x dx C:ak} {mA:bc->Option ae} (I:EV h x dx C mA):∃ od,PySem.W.InstAt h x (gF C dx) C (some od)/\∀ name,qG name od=some (mA name) :=
 let ⟨od,ho,hl⟩:=Jl I.ns
 ⟨od,⟨I.obj,rfl,rfl,ho⟩,hl⟩
section
variable {prog:aS} {w:bN} {A:bA} {E:ae->ai->Prop} {s:ai} {K:aj} {x dx C f:ak} {mA:bc->Option ae} {name:bc} {v:ae}
theorem a0D {expr:Bool} {Q:ae->ai->Prop} (X:K.In s.heap) (I:EV s.heap x dx C mA) (hg:oB K C name=true) (hh:uy K C=true)
  (ha:dJ K (.ref C) name=some none) (hv:mA name=some v) (hv':KI v=true) (h:Q v { s with toks:=s.toks+1 }) :
  wpAny (bn prog w) A (getAttr (.ref x) name expr) Q E s:=by
 obtain⟨od,J,hl⟩:=I.look;exact PySem.W.get_value X J (rB hg).1 (PySem.W.findObj_own hh ha rfl (by rw[hl,hv])) hv' h
theorem Lg {pl:Tr Bool} {Q:ae × List ae->ai->Prop} (X:K.In s.heap) (I:EV s.heap x dx C mA) (hg:oB K C name=true)
  (hf:dJ K (.ref C) name=some (some (.ref f))) (ht:CU K (.ref f)=true) (hv:mA name=none) (h:Q (.ref f,[.ref x]) s) :
  wpAny (bn prog w) A (On (.ref x) name pl) Q E s:=by
 obtain⟨od,J,hl⟩:=I.look;exact PySem.W.method_fn X J (rB hg).1 (rB hg).2 hf (beq_iff_eq.mp ht) (by show (qG name od).map (·.isSome)=some false;rw[hl,hv];rfl) h
theorem QV {ns:List bc} {Q:Unit->ai->Prop} (X:K.In s.heap) (I:EV s.heap x dx C mA)
  (hs:dJ K (.ref C) "__setattr__" = some (some (.builtin "object.__setattr__"))) (hp:J8 K C=true) (ht:wR K C name=some none) (hh:uy K C=true)
  (hw:EW mA ns) (hsz:ns.length<=aJ)
  (h:∀ h',EV h' x dx C (λy=>if y=name then some v else mA y)->jz dx s.heap h'->Q () { s with heap:=h',toks:=s.toks+2 }) :
  wpAny (bn prog w) A (setAttr (.ref x) name v) Q E s:=by
 obtain⟨od,J,hl⟩:=I.look;refine PySem.W.set_plain X J hs (PySem.W.osa_open (s:={ s with toks:=s.toks+1 }) (r:=none) X J hp ht λb=>?_);obtain⟨cd,hc,XH⟩:=PySem.W.any_some hh;have hx:s.heap.get? x=some ⟨.ref C,some dx,.plain,#[]⟩:=I.obj;refine ah (aH (ah (ah (wpAny_loadPart hx (ah (acv (s:={ s with toks:=s.toks+1 }) (PySem.W.looks_clsIn X hc) ?_))))));rw[XH];refine aH (a:=some dx) (ah (aH (ah ?_)));refine wpAny_nsSet1 (s:={ s with toks:=s.toks+1 }) I.ns λh' LC WC=>?_;obtain⟨oD,esD,epD,hoD,hdD,hcD⟩:=LC.count (PySem.Within.cons name v hw);refine ah (wpAny_lookBehind hoD (by rw[hdD];exact pastItsLine_dict (b7 hcD (by rw[bi];omega))) ?_);exact aH (h _ ⟨(WC.2 _ (dG I.ne)).trans I.obj,LC,I.ne⟩ WC)
theorem L5 {R:yB->ai->Prop} {vs:List ae} {kw:List (bc × ae)} (X:K.In s.heap) (hm:Od K C=true)
  (hi:dJ K (.ref C) "__init__" = some (some (.ref f))) (hf:PySem.W.typeIn K (.ref f)=some (.type "function"))
  (h:codeAny (bn prog w) (A.under (.builtin "type.__call__" ⟨.ref C::vs,kw⟩)) (.call (.ref f) ⟨.ref (s.heap.objs.size+1)::vs,kw⟩) (PySem.W.InitBack (s.heap.objs.size+1) R)
   { s with heap:=(s.heap.push eI).push (gF C s.heap.objs.size) }) :
  codeAny (bn prog w) A (.call (.ref C) ⟨vs,kw⟩) R s:=by
 obtain⟨hh,g,d,t,os⟩:=s;exact PySem.W.make_core (PySem.W.makes_of X hm) (PySem.W.looks_findIn X hi) (λself=>PySem.W.bind_fn X self hf) (.inl rfl) h
end
def fK (f:bc) (v:V):List (bc × V)->List (bc × V)
 | []=>[(f,v)]
 | (g,x)::r=>if g=f then (g,v)::r else (g,x)::fK f v r
theorem dm (f g:bc) (v:V):∀ fs:List (bc × V),(fK f v fs).lookup g=if g=f then some v else fs.lookup g
 | []=>by
  show eC g [(f,v)]=_
  by_cases h:g=f
  ·have hb:(g == f)=true:=beq_iff_eq.mpr h;simp only [eC,hb,if_pos h]
  ·have hb:(g == f)=false:=beq_eq_false_iff_ne.mpr h;simp only [eC,hb,if_neg h]
 | (k, x)::r=>by
  have ih:=dm f g v r;rw[show fK f v ((k,x)::r)=(if k=f then (k,v)::r else (k,x)::fK f v r) from rfl]
  by_cases hk:k=f
  ·rw[if_pos hk]
   by_cases h:g=k
   ·have hb:(g == k)=true:=beq_iff_eq.mpr h;simp only [eC,hb,if_pos (h.trans hk)]
   ·have hb:(g == k)=false:=beq_eq_false_iff_ne.mpr h;simp only [eC,hb,if_neg (λe:g=f=>h (e.trans hk.symm))]
  ·rw[if_neg hk]
   by_cases h:g=k
   ·have hb:(g == k)=true:=beq_iff_eq.mpr h;simp only [eC,hb,if_neg (λe:g=f=>hk (h.symm.trans e))]
   ·have hb:(g == k)=false:=beq_eq_false_iff_ne.mpr h;simp only [eC,hb];exact ih
theorem uK (f:bc) (v:V):∀ fs:List (bc × V),f∈(fK f v fs).map (·.1)/\∀ g,g∈fs.map (·.1)->g∈(fK f v fs).map (·.1)
 | []=>⟨by simp[fK],λg h=>by simp at h⟩
 | (k, x)::r=>by
  obtain⟨i1,i2⟩:=uK f v r;rw[show fK f v ((k,x)::r)=(if k=f then (k,v)::r else (k,x)::fK f v r) from rfl]
  by_cases hk:k=f
  ·rw[if_pos hk];subst hk;exact⟨by simp,λg h=>by simpa using h⟩
  ·rw[if_neg hk];refine⟨?_,λg h=>?_⟩
   ·rw[cG];exact aL _ i1
   ·rw[cG] at h ⊢;rcases aB.mp h with e | e
    ·exact aB.mpr (.inl e)
    ·exact aL _ (i2 g e)
theorem vj (f:bc) (v:V):∀ fs:List (bc × V),(fK f v fs).length<=fs.length+1
 | []=>by simp[fK]
 | (k,x)::r=>by
  have ih:=vj f v r;rw[show fK f v ((k,x)::r)=(if k=f then (k,v)::r else (k,x)::fK f v r) from rfl]
  by_cases hk:k=f
  ·rw[if_pos hk,bi,bi];omega
  ·rw[if_neg hk,bi,bi];omega
theorem sK.some_of {v:V} {o:Option ae} (r:sK (some v) o):∃ u,o=some u/\RelV v u:=by
 cases o with
 | none=>exact (show False from r).elim
 | some u=>exact⟨u,rfl,r⟩
theorem sK.none_of {o:Option ae} (r:sK none o):o=none:=by
 cases o with
 | none=>rfl
 | some u=>exact (show False from r).elim
theorem IQ {v:V} {u:ae} (r:RelV v u):KI u=true:=by
 cases v with
 | fj=>cases (show u=nz from r);rfl
 | bl b=>cases (show u=pB b from r);rfl
 | int i=>obtain⟨t,e⟩:=(show ∃ t,u=gK i t from r);cases e;rfl
 | str x=>obtain⟨t,e⟩:=(show ∃ t,u=wU x t from r);cases e;rfl
 | Fd b=>obtain⟨t,e⟩:=(show ∃ t,u=aaU b t from r);cases e;rfl
 | RQ b=>obtain⟨t,e⟩:=(show ∃ t,u=Iy b t from r);cases e;rfl
 | ref a=>cases (show u=bO a from r);rfl
 | ty n=>cases (show u=jV n from r);rfl
section
variable {P:aS} {w:bN} {H H':Hp} {h h':cj} {a C dx:ak} {fs fs':List (bc × V)}
theorem v4 (cZ:pz P w H h) (e:H a=some (.ins C dx fs)):∃ mA,EV h a dx C mA/\(∀ f,sK (fs.lookup f) (mA f))/\EW mA (fs.map (·.1))/\fs.length<=1000/\H dx=some (.own a):=by
 obtain⟨d,z,ne,ob,mA,n,r,q⟩:=(show gu P w H h a (.ins C dx fs) from cZ a _ e)
 exact⟨mA,⟨ob,n,ne⟩,r,q,z,d⟩
end
structure Kw (K:aj) (C:ak):Prop where
 pg:oB K C Gy=true
 hd:uy K C=true
 po:J8 K C=true
 sa:dJ K (.ref C) "__setattr__" = some (some (.builtin "object.__setattr__"))
theorem Kw.get {K:aj} {C:ak} (c:Kw K C) (f:bc):oB K C f=true:=c.pg
def rA (K:aj) (C:ak) (f:bc):Prop:=dJ K (.ref C) f=some none
theorem rA.aag {K:aj} {C:ak} {f:bc} (n:rA K C f):wR K C f=some none:=by
 unfold wR;rw[show dJ K (.ref C) f=some none from n];rfl
structure Meth (K:aj) (C:ak) (m:bc) (f:ak):Prop where
 at_:dJ K (.ref C) m=some (some (.ref f))
 fn:CU K (.ref f)=true
 kp:i4 K (.ref f)=true
section
variable {X:Cx} {pins:List (ak × dR)} {σ:St} {H:Hp} {s:ai} {a C dx:ak} {fs:List (bc × V)} {f:bc} {v:V} {A:bA} {E:ae->ai->Prop}
theorem Fk {b:Bool} {Q:ae->ai->Prop} (I:Inv X pins σ H s) (e:H a=some (.ins C dx fs)) (c:Kw X.K C) (n:rA X.K C f) (l:fs.lookup f=some v)
  (h:∀ u s',Inv X pins σ H s'->RelV v u->Q u s'):wpAny (bn X.prog X.w) A (getAttr (.ref a) f b) Q E s:=by
 obtain⟨mA,O,r,_,_,_⟩:=v4 I.cZ e;obtain⟨u,hu,ru⟩:=sK.some_of (v:=v) (o:=mA f) (by rw[← l];exact r f);exact a0D I.v5 O (c.get f) c.hd n hu (IQ ru) (h u _ (I.tok _) ru)
theorem Fl {m:bc} {g:ak} {pl:Tr Bool} {Q:ae × List ae->ai->Prop} (I:Inv X pins σ H s) (e:H a=some (.ins C dx fs)) (c:Kw X.K C) (k:Meth X.K C m g) (l:fs.lookup m=none)
  (h:Q (.ref g,[.ref a]) s):wpAny (bn X.prog X.w) A (On (.ref a) m pl) Q E s:=by
 obtain⟨mA,O,r,_,_,_⟩:=v4 I.cZ e;have hn:mA m=none:=sK.none_of (by rw[← l];exact r m);exact Lg I.v5 O (c.get m) k.at_ k.fn hn h
theorem F2 {y:V} {u:ae} {Q:Unit->ai->Prop} (I:Inv X pins σ H s) (e:H a=some (.ins C dx fs)) (c:Kw X.K C) (n:rA X.K C f) (hl:fs.length<1000) (ry:RelV y u)
  (h:∀ s',Inv X pins σ (upd H a (.ins C dx (fK f y fs))) s'->Q () s'):wpAny (bn X.prog X.w) A (setAttr (.ref a) f u) Q E s:=by
 obtain⟨mA,O,r,wi,_,ho⟩:=v4 I.cZ e;have hz:(fs.map (·.1)).length<=aJ:=by rw[ag,VG];omega
 refine QV I.v5 O c.sa c.po n.aag c.hd wi hz λh' O' sb=>h _ ?_;have hd:∃ o,h'.get? dx=some o:=let ⟨o,_,_,e',_⟩:=O'.ns;⟨o,e'⟩;refine I.write (x:=a) (e:=dx) (by rw[e];exact kz) (.inr ho) (λb q hb z=>(sb.2 b hb).trans z) hd ?_;refine⟨by rw[bK O.ne];exact ho,?_,O.ne,O'.obj,_,O'.ns,λg=>?_,λg hg=>?_⟩
 ·have:=vj f y fs;omega
 ·show sK ((fK f y fs).lookup g) (if g=f then some u else mA g);rw[dm]
  by_cases q:g=f
  ·rw[if_pos q,if_pos q];exact ry
  ·rw[if_neg q,if_neg q];exact r g
 ·by_cases q:g=f
  ·rw[q];exact (uK f y fs).1
  ·refine (uK f y fs).2 g (wi g λz=>hg ?_);show (if g=f then some u else mA g)=none;rw[if_neg q];exact z
theorem Inv.made (I:Inv X pins σ H s):Inv X pins σ (upd (upd H s.heap.objs.size (.own (s.heap.objs.size+1))) (s.heap.objs.size+1) (.ins C s.heap.objs.size []))
  { s with heap:=(s.heap.push eI).push (gF C s.heap.objs.size) }:=by
 have e1:(s.heap.push eI).get? s.heap.objs.size=some eI:=aQ s.heap rfl;have e2:((s.heap.push eI).push (gF C s.heap.objs.size)).get? (s.heap.objs.size+1)=some (gF C s.heap.objs.size):=by
  have:=aQ (s.heap.push eI) (o:=gF C s.heap.objs.size) rfl;rwa [cR] at this
 have e3:(s.heap.push eI).Ns s.heap.objs.size (λ_=>none):=⟨eI,#[],_,e1,rfl,(λe he=>absurd he (by simp)),λ_=>rfl⟩
 have I1:=I.laid (a:=s.heap.objs.size) (o:=.own (s.heap.objs.size+1)) (h':=s.heap.push eI) (t':=s.toks) (λb u q=>al _ q) (az _) ⟨_,e1⟩;refine I1.laid (a:=s.heap.objs.size+1) (o:=.ins C s.heap.objs.size []) (t':=s.toks) (λb u q=>al _ q) (wP (cR _ _)) ?_;have ne:s.heap.objs.size≠s.heap.objs.size+1:=aK (cJ _);refine⟨by rw[bK ne,au],bv _,ne,e2,λ_=>none,(Heap.Ns1.of_empty e3).at λo q=>al _ q,λ_=>kz,λy hy=>absurd rfl hy⟩
theorem O6 {prog:aS} {w:bN} {env:qk} {e:b6} {f:bc} {pos:hW} {s:ai} {Q:ae->ai->Prop} (hb:qJ e f env (eO e env)=eO e env)
  (h:wpAny (bn prog w) A (eO e env) (λo s₁=>wpAny (bn prog w) A (getAttr o f true) Q E s₁) E s):wpAny (bn prog w) A (eO (.Attribute e f pos) env) Q E s :=
 Attribute_any_ h (by rw[arm_eval_Attribute,hb])
end
def Z6 (K:aj) (ta:TE) (f:bc):TE:=λσ H Q=>ta σ H λx H1=>∃ a C dx fs v,x=.ref a/\H1 a=some (.ins C dx fs)/\Kw K C/\rA K C f/\fs.lookup f=some v/\Q v H1
def ZJ (K:aj) (ta tv:TE) (f:bc):TS:=λD σ H=>tv σ H λy H1=>ta σ H1 λx H2=>∃ a C dx fs,x=.ref a/\H2 a=some (.ins C dx fs)/\Kw K C/\rA K C f/\fs.length<1000 /\
 D.nx σ (upd H2 a (.ins C dx (fK f y fs)))
section
variable {X:Cx} {o e value:b6} {f:bc} {pos pos' ze:hW} {ta tv:TE}
theorem Vs (he:PE X e ta) (hb:qJ e f X.env (eO e X.env)=eO e X.env):PE X (.Attribute e f pos) (Z6 X.K ta f):=by
 intro pins s σ H Q I h;refine O6 hb (eY (he pins s σ H _ I h) λu s1 cW=>?_);obtain⟨x,H1,I1,rx,a,C,dx,fs,v,ex,ea,c,n,l,q⟩:=cW;subst ex;obtain rfl:u=bO a:=rx;exact Fk I1 ea c n l λu' s2 I2 ru=>⟨v,H1,I2,ru,q⟩
theorem Vy (ha:PE X o ta) (hv:PE X value tv) (hs:ww value (some (.Attribute o f pos')) pos.line X.env=pure false):PS X (.Assign [.Attribute o f pos'] value pos) (ZJ X.K ta tv f):=by
 intro pins s σ H D I h;refine plainObj_wpAny_Assign_Attribute (eY (hv pins s σ H _ I h) λu s1 cW=>?_) hs;obtain⟨y,H1,I1,ry,q⟩:=cW;refine eY (ha pins s1 σ H1 _ I1 q) λov s2 Lz=>?_;obtain⟨x,H2,I2,rx,a,C,dx,fs,ex,ea,c,n,l,q2⟩:=Lz;subst ex;obtain rfl:ov=bO a:=rx;exact F2 I2 ea c n l ry λs3 I3=>⟨σ,_,I3,q2⟩
end
section
variable {X:Cx} {pins:List (ak × dR)} {σ:St} {H:Hp} {s:ai} {A:bA} {E:ae->ai->Prop} {Q:ae->ai->Prop} {c:ae} {b:Bool}
inductive uB (K:aj) (H:Hp):V->ae->Prop where
 | fj:uB K H .fj (.type "NoneType")
 | bl (x:Bool):uB K H (.bl x) (.type "bool")
 | int (i:Int):uB K H (.int i) (.type "int")
 | str (x:bc):uB K H (.str x) (.type "str")
 | RQ (x:UInt64):uB K H (.RQ x) (.type "float")
 | lst {a:ak} {xs:List V} (e:H a=some (.lst xs)):uB K H (.ref a) (.type "list")
 | Bm {a:ak} {o:dR} {xs:List V} (e:H a=some (.Bm o (.lst xs))):uB K H (.ref a) (.type "list")
 | tup {a:ak} {xs:List V} (e:H a=some (.tup xs)):uB K H (.ref a) (.type "tuple")
 | dK {a:ak} {fE:List (Key × V)} (e:H a=some (.dK fE)):uB K H (.ref a) (.type "dict")
 | dT {a:ak} {fE:List (List Key × V)} (e:H a=some (.dT fE)):uB K H (.ref a) (.type "dict")
 | ins {a C dx:ak} {fs:List (bc × V)} (e:H a=some (.ins C dx fs)) (cl:Kw K C) (ha:dJ K (.ref C) "__class__" = some (some (.builtin "object.__class__")))
   (hn:J9 K (.builtin "object.__class__") "__get__" = some (some (.builtin "getset_descriptor.__get__"))) (WH:Oe K (.builtin "object.__class__")=some true)
   (hm:AX K C (.type "object")=some true):uB K H (.ref a) (.ref C)
theorem Jf {x:V} {u t:ae} (I:Inv X pins σ H s) (rx:RelV x u) (ty:uB X.K H x t) (e:fw X.K t c=some b) (h:∀ tk,Q (.bool b) { s with toks:=tk }) :
  wpAny (bn X.prog X.w) A (rF (.builtin "isinstance") [u,c]) Q E s:=by
 cases ty with
 | fj=>cases (show u=nz from rx);exact dY PySem.W.kitx_none I.v5 kz e (λz=>nomatch z) h
 | bl y=>cases (show u=pB y from rx);exact dY PySem.W.kitx_bool I.v5 kz e (λz=>nomatch z) h
 | int i=>obtain⟨t,q⟩:=(show ∃ t,u=gK i t from rx);cases q;exact dY PySem.W.kitx_int I.v5 kz e (λz=>nomatch z) h
 | str y=>obtain⟨t,q⟩:=(show ∃ t,u=wU y t from rx);cases q;exact dY PySem.W.kitx_str I.v5 kz e (λz=>nomatch z) h
 | RQ y=>obtain⟨t,q⟩:=(show ∃ t,u=Iy y t from rx);cases q;exact dY PySem.W.kitx_float I.v5 kz e (λz=>nomatch z) h
 | @lst a xs ea =>
  cases (show u=bO a from rx);obtain⟨_,_,n,_,h1⟩:=(show gu X.prog X.w H s.heap a (.lst xs) from I.cZ a _ ea)
  exact dY J7 I.v5 ⟨_,h1,rfl⟩ e (λz=>nomatch z) h
 | @Bm a ob xs ea =>
  cases (show u=bO a from rx);obtain⟨_,_,_,n,_,h1⟩:=(show gu X.prog X.w H s.heap a (.Bm ob (.lst xs)) from I.cZ a _ ea)
  exact dY J7 I.v5 ⟨_,h1,rfl⟩ e (λz=>nomatch z) h
 | @tup a xs ea =>
  cases (show u=bO a from rx);obtain⟨_,_,_,p⟩:=(show gu X.prog X.w H s.heap a (.tup xs) from I.cZ a _ ea)
  obtain⟨o,h1,h2,_⟩:=p;exact dY PySem.W.kitx_tuple I.v5 ⟨o,h1,h2⟩ e (λz=>nomatch z) h
 | @dK a fE ea =>
  cases (show u=bO a from rx);obtain⟨_,_,vs,_,p⟩:=(show gu X.prog X.w H s.heap a (.dK fE) from I.cZ a _ ea)
  obtain⟨o,es,ep,h1,h2,_⟩:=p;exact dY J6 I.v5 ⟨o,h1,h2.1⟩ e (λz=>nomatch z) h
 | @dT a fE ea =>
  cases (show u=bO a from rx);obtain⟨_,_,xs,_,o,es,ep,h1,h2,_⟩:=(show gu X.prog X.w H s.heap a (.dT fE) from I.cZ a _ ea)
  exact dY J6 I.v5 ⟨o,h1,h2.1⟩ e (λz=>nomatch z) h
 | @ins a C dx fs ea cl ha hn WH hm =>
  cases (show u=bO a from rx);obtain⟨mA,O,_⟩:=v4 I.cZ ea;obtain⟨od,J,_⟩:=O.look;exact dY (PySem.W.kitx_own (cl.get _) cl.hd ha hn WH hm) I.v5 J e (λz=>nomatch z) h
end
structure fG (k:Nat) (A:bA):Prop where
 hd:A.handled=none
 dp:A.depth+3*k+5<recursionLimit
 un:A.units+16*k+200<iD
theorem fG.mono {j k:Nat} {A:bA} (r:fG k A) (h:j<=k):fG j A:=⟨r.hd,by have:=r.dp;omega,by have:=r.un;omega⟩
theorem fG.deeper {k:Nat} {A:bA} (r:fG (k+1) A) (env:qk):fG k (A.deeper env) :=
 ⟨r.hd,by have:=r.dp;show A.depth+1+3*k+5<_;omega,by have:=r.un;show A.units+3+16*k+200<_;omega⟩
theorem fG.in1 {k:Nat} {A:bA} (r:fG (k+1) A):fG k A.in1 :=
 ⟨r.hd,by have:=r.dp;show A.depth+3*k+5<_;omega,by have:=r.un;show A.units+1+16*k+200<_;omega⟩
theorem FD {A:bA} {C:ak} {us:List ae} {kw:List (bc × ae)}:(A.under (.builtin "type.__call__" ⟨.ref C::us,kw⟩)).depth=A.depth+1:=by
 first | rfl | simp[o9,Code.weight,Code.isCreation,Code.isGuard,Code.isCaller,ace,qj,guardIds]
theorem FE {A:bA} {C:ak} {us:List ae} {kw:List (bc × ae)}:(A.under (.builtin "type.__call__" ⟨.ref C::us,kw⟩)).units=A.units+1:=by
 first | rfl | simp[o9,Code.cUnits,ace,qj]
theorem fG.make {k:Nat} {A:bA} (r:fG (k+1) A) (C:ak) (us:List ae) (kw:List (bc × ae)):fG k (A.under (.builtin "type.__call__" ⟨.ref C::us,kw⟩)) :=
 ⟨r.hd,by have:=r.dp;rw[FD];omega,by have:=r.un;rw[FE];omega⟩
theorem fG.depth {k:Nat} {A:bA} (r:fG k A):A.depth<recursionLimit:=by have:=r.dp;omega
theorem fG.units {k:Nat} {A:bA} (r:fG k A):A.units+64<iD:=by have:=r.un;omega
def Q6:TA:=λ_ H Q=>Q [] H
def HQ (ta:TE) (tr:TA):TA:=λσ H Q=>ta σ H λx H1=>tr σ H1 λxs H2=>Q (x::xs) H2
section
variable {X:Cx} {e:b6} {es:List b6} {te:TE} {t:TA} {pos:hW}
theorem ar:PA X [] Q6:=λ_ _ _ _ H Q I h=>N5 ⟨[],H,I,.nil,h⟩
theorem aa (ha:PE X e te) (hr:PA X es t) (hs:bD (e::es) X.env=(false,eO e X.env)::bD es X.env:=by rfl):PA X (e::es) (HQ te t):=by
 intro pos pins s σ H Q I h;rw[hs];show wpAny _ _ (spliced ((false,eO e X.env)::gx pos (bD es X.env))) _ _ s;refine Kv (eY (ha pins s σ H _ I h) λu s1 cW=>?_);obtain⟨x,H1,I1,r1,q1⟩:=cW;refine eY (hr pos pins s1 σ H1 _ I1 q1) λus s2 cW=>?_;obtain⟨xs,H2,I2,r2,q2⟩:=cW;exact⟨x::xs,H2,I2,.cons r1 r2,q2⟩
def afP (t:TA):TE:=λσ H Q=>t σ H λxs H1=>xs.length<=aJ/\∀ p,H1 p=none->Q (.ref p) (upd H1 p (.tup xs))
def afM (t:TA):TE:=λσ H Q=>t σ H λxs H1=>xs.length<=aJ/\∀ p,H1 p=none->Q (.ref p) (upd H1 p (.lst xs))
theorem gh {x1} (h:PA X es t):PE X (.Tuple es x1 pos) (afP t):=by
 intro pins s σ H Q I hq;refine wpAny_Tuple_spliced (eY (h pos pins s σ H _ I hq) λus s1 cW=>?_);obtain⟨xs,H1,I1,r,z,q⟩:=cW;refine⟨by rw[← r.length];exact z,?_⟩;have hf:H1 s1.heap.objs.size=none:=I1.cZ.fresh (az _);refine⟨.ref s1.heap.objs.size,upd H1 s1.heap.objs.size (.tup xs),I1.laid (t':=s1.toks) (λb u e=>al _ e) (az _) ?_,rfl,q _ hf⟩;exact⟨z,us,r,⟨_,aQ _ rfl,rfl,_,rfl⟩⟩
theorem eP (h:PA X es t):PE X (.List es pos) (afM t):=by
 intro pins s σ H Q I hq;refine wpAny_List_spliced (eY (h pos pins s σ H _ I hq) λus s1 cW=>?_);obtain⟨xs,H1,I1,r,z,q⟩:=cW;refine⟨by rw[← r.length];exact z,?_⟩;have hf:H1 s1.heap.objs.size=none:=I1.cZ.fresh (az _);refine⟨.ref s1.heap.objs.size,upd H1 s1.heap.objs.size (.lst xs),I1.laid (t':=s1.toks) (λb u e=>al _ e) (az _) ?_,rfl,q _ hf⟩;exact⟨z,us,0,r,aQ _ rfl⟩
end
abbrev Sp:=List V->Hp->VK->XK->Prop
abbrev Kt:=List qk->Hp->ai->XK->ae->ai->Prop
structure wK (P:aS) (w:bN) (K:aj) (mg:bc->Option ae) (base:cj) (A:bA) (outer:List qk) (s:ai) (H:Hp):Prop where
 frames:A.frames=some outer
 mod:Mod K mg base
 bs:∀ b o,base.get? b=some o->s.heap.get? b=some o/\H b=none
 KU:base.objs.size<=s.heap.objs.size
 rL:s.heap.FunFrames base outer
 Pj:∀ b∈rK outer,H b=none
 cZ:pz P w H s.heap
 bare:qi s.gens
def CE (outer:List qk) (P:aS) (w:bN) (H:Hp) (s:ai) (Q:VK) (u:ae) (s':ai):Prop :=
 ∃ v H',s'.os=s.os/\qi s'.gens/\Un (rK outer) [] H H' s.heap s'.heap/\pz P w H' s'.heap/\RelV v u/\Q v H'
def CR (CX:Kt) (outer:List qk) (P:aS) (w:bN) (H:Hp) (s:ai) (Q:VK) (E:XK) (r:yB) (s':ai):Prop :=
 match r with
 | .ok (.ret u)=>CE outer P w H s Q u s'
 | .ok _=>False
 | .error e=>CX outer H s E e s'
structure px (P:aS) (w:bN) (K:aj) (mg:bc->Option ae) (base:cj) (CX:Kt) (k:Nat) (f:ak) (fd:fP) (ps:List bc) (sp:Sp):Prop where
 len:∀ vs H Q E,sp vs H Q E->vs.length=ps.length
 run:∀ (A:bA) (outer:List qk) (s:ai) (H:Hp) (args:Args) (us:List ae) (vs:List V) (Q:VK) (E:XK),fG k A->wK P w K mg base A outer s H->OL s fd args (ps.zip us)->Vals vs us->sp vs H Q E ->
  codeAny (bn P w) A (.call (.ref f) args) (CR CX outer P w H s Q E) s
theorem wK.make {P:aS} {w:bN} {K:aj} {mg:bc->Option ae} {base:cj} {A:bA} {outer:List qk} {s:ai} {H:Hp} (e:wK P w K mg base A outer s H) (C:ak) (us:List ae) (kw:List (bc × ae)) :
  wK P w K mg base (A.under (.builtin "type.__call__" ⟨.ref C::us,kw⟩)) outer s H:=⟨by first | exact e.frames | (simpa [o9,Rw,qj,pushEnvs] using e.frames),e.mod,e.bs,e.KU,e.rL,e.Pj,e.cZ,e.bare⟩
theorem wK.in1 {P:aS} {w:bN} {K:aj} {mg:bc->Option ae} {base:cj} {A:bA} {outer:List qk} {s:ai} {H:Hp} (e:wK P w K mg base A outer s H) :
  wK P w K mg base A.in1 outer s H:=⟨e.frames,e.mod,e.bs,e.KU,e.rL,e.Pj,e.cZ,e.bare⟩
section
variable {X:Cx} {pins:List (ak × dR)} {σ:St} {H:Hp} {s s':ai}
theorem Inv.K7 (I:Inv X pins σ H s):wK X.prog X.w X.K X.mg X.base X.A X.stack s H :=
 ⟨I.ok.frames,I.ok.mod,I.bs,b7 I.ok.KU I.sz,I.stack,I.wv,I.cZ,I.bare⟩
theorem Inv.after {Q:VK} {u:ae} (I:Inv X pins σ H s) (h:CE X.stack X.prog X.w H s Q u s'):EP X pins σ Q u s':=by
 obtain⟨v,H',os,bare,un,cZ,r,q⟩:=h;obtain⟨hh,g,d,t,os'⟩:=s';obtain rfl:os'=s.os:=os;exact⟨v,H',I.call (h':=hh) (g':=g) (d':=d) (t':=t) (ch:=[]) un cZ bare (λb z=>absurd z (by simp)),r,q⟩
end
def Ny (sp:Sp) (Bl:List V) (E:XK) (t:TA):TE:=λσ H Q=>t σ H λvs H1=>sp (vs++Bl) H1 Q E
def Sy (C:ak) (m:bc) (sp:Sp) (Bl:List V) (E:XK) (ta:TE) (t:TA):TE:=λσ H Q=>ta σ H λx H1=>∃ a dx fs,x=.ref a/\H1 a=some (.ins C dx fs)/\fs.lookup m=none /\
 t σ H1 λvs H2=>sp (x::(vs++Bl)) H2 Q E
def Sx (C:ak) (sp:Sp) (Bl:List V) (E:XK) (t:TA):TE:=λσ H Q=>t σ H λvs H1=>∀ x dx,H1 x=none->H1 dx=none->dx≠x ->
 sp (.ref x::(vs++Bl)) (upd (upd H1 dx (.own x)) x (.ins C dx [])) (λv H2=>v=.fj/\Q (.ref x) H2) E
def Binds (K:aj) (fd:fP) (ps:List bc) (ds:List ae):Prop :=
 ∀ (s:ai) (us:List ae),K.In s.heap->(us++ds).length=ps.length->OL s fd ⟨us,[]⟩ (ps.zip (us++ds))
theorem Binds.all {K:aj} {fd:fP} {ps:List bc} (h:∀ us:List ae,us.length=ps.length->o5 fd ⟨us,[]⟩=pure (ps.zip us)):Binds K fd ps []:=λs us _ hl=>by
 rw[d9] at hl ⊢;exact .of_eq (h us hl)
def a0i (CX:Kt) (X:Cx) (E:XK):Prop:=∀ (pins:List (ak × dR)) (σ:St) (H:Hp) (s:ai) (e:ae) (s':ai),Inv X pins σ H s->CX X.stack H s E e s'->X.xe e s'
section
variable {X:Cx} {CX:Kt} {k:Nat} {f C:ak} {fd:fP} {ps:List bc} {sp:Sp} {Bl:List V} {ds:List ae} {E:XK} {x m:bc} {p pos apos:hW} {e o:b6} {es:List b6} {ta:TE} {t:TA}
theorem MY {pins:List (ak × dR)} {σ:St} {H:Hp} {s:ai} {Q:VK} {us:List ae} {vs:List V} (F:px X.prog X.w X.K X.mg X.base CX k f fd ps sp) (hr:fG k X.A) (hb:Binds X.K fd ps ds) (hd:Vals Bl ds) (hx:a0i CX X E)
  (I:Inv X pins σ H s) (r:Vals vs us) (h:sp (vs++Bl) H Q E):wpAny (bn X.prog X.w) X.A (rF (.ref f) us) (EP X pins σ Q) X.xe s:=by
 have r2:Vals (vs++Bl) (us++ds):=r.append hd;have hl:(us++ds).length=ps.length:=by rw[← r2.length];exact F.len _ _ _ _ h
 refine JS (lZ (F.run X.A X.stack s H ⟨us,[]⟩ (us++ds) (vs++Bl) Q E hr I.K7 (hb s us I.v5 hl) r2 h) λr s' hq=>?_);cases r with
 | error e=>exact hx pins σ H s e s' I hq
 | ok fl =>
  cases fl with
  | ret u=>exact I.after hq
  | next=>exact fF hq
  | brk=>exact fF hq
  | cont=>exact fF hq
theorem Hd (F:px X.prog X.w X.K X.mg X.base CX k f fd ps sp) (hr:fG k X.A) (hg:Gl X x) (hm:X.mg x=some (.ref f)) (hk:i4 X.K (.ref f)=true) (hb:Binds X.K fd ps ds) (hd:Vals Bl ds) (hx:a0i CX X E)
  (ha:PA X (e::es) t) (Fm:(x == ("__debug__" : bc))=false:=by decide) (he:bD (e::es) X.env=(false,eO e X.env)::bD es X.env:=by rfl) (vJ:(gx pos (bD es X.env)).any (·.1)=false:=by rfl) :
  PE X (.Call (.Name x p) (e::es) [] pos) (Ny sp Bl E t):=by
 intro pins s σ H Q I h;refine jd (tq I hg hm ?_ Fm);refine sJ (h₀:=X.base) I.ok.mod.PY hk (eY (ha pos pins s σ H _ I h) λus s1 cW=>?_) he vJ;obtain⟨vs,H1,I1,r,q⟩:=cW;refine⟨I1.v5,?_⟩;exact MY F hr hb hd hx I1 r q
theorem Qx {pl:Tr Bool} (he:PE X o ta) (c:Kw X.K C) (hm:Meth X.K C m f) (F:px X.prog X.w X.K X.mg X.base CX k f fd ps sp) (hr:fG k X.A) (hb:Binds X.K fd ps ds) (hd:Vals Bl ds) (hx:a0i CX X E) (ha:PA X (e::es) t)
  (Bt:bD (e::es) X.env=(false,eO e X.env)::bD es X.env:=by rfl) (vJ:(gx pos (bD es X.env)).any (·.1)=false:=by rfl)
  (ht:eO (.Call (.Attribute o m apos) (e::es) [] pos) X.env=(do
   let ov ← eO o X.env
   HN apos.atName
   let (f,first) ← j5 [ov] (On ov m pl)
   callWith pos f first (gx pos (bD (e::es) X.env)) (lY pos (ie [] X.env))):=by rfl) :
  PE X (.Call (.Attribute o m apos) (e::es) [] pos) (Sy C m sp Bl E ta t):=by
 intro pins s σ H Q I h;refine PySem.W.methodCall_KW (pl:=pl) (eY (he pins s σ H _ I h) λu s1 cW=>?_) ht;obtain⟨x,H1,I1,rx,a,dx,fs,ex,ea,l,q⟩:=cW;subst ex;obtain rfl:u=bO a:=rx;refine Fl I1 ea c hm l ?_;refine sJ (first:=[.ref a]) (h₀:=X.base) I.ok.mod.PY hm.kp (eY (ha pos pins s1 σ H1 _ I1 q) λus s2 cW=>?_) Bt vJ;obtain⟨vs,H2,I2,r,q2⟩:=cW;refine⟨I2.v5,?_⟩;exact MY (us:=.ref a::us) (vs:=.ref a::vs) F hr hb hd hx I2 (.cons rfl r) q2
structure Mk (K:aj) (C f:ak):Prop where
 makes:Od K C=true
 init:dJ K (.ref C) "__init__" = some (some (.ref f))
 fn:CU K (.ref f)=true
 kp:i4 K (.ref C)=true
theorem MZ {pins:List (ak × dR)} {σ:St} {H:Hp} {s:ai} {Q:VK} {us:List ae} {vs:List V} (M:Mk X.K C f) (F:px X.prog X.w X.K X.mg X.base CX k f fd ps sp) (hr:fG (k+1) X.A) (hb:Binds X.K fd ps ds) (hd:Vals Bl ds)
  (hx:a0i CX X E) (I:Inv X pins σ H s) (r:Vals vs us)
  (h:∀ x dx,H x=none->H dx=none->dx≠x->sp (.ref x::(vs++Bl)) (upd (upd H dx (.own x)) x (.ins C dx [])) (λv H2=>v=.fj/\Q (.ref x) H2) E) :
  wpAny (bn X.prog X.w) X.A (rF (.ref C) us) (EP X pins σ Q) X.xe s:=by
 have hq:=h (s.heap.objs.size+1) s.heap.objs.size (I.cZ.fresh (gU _)) (I.cZ.fresh (az _)) (aK (cJ _));have I2:=Inv.made (C:=C) I;have r2:Vals (V.ref (s.heap.objs.size+1)::(vs++Bl)) (bO (s.heap.objs.size+1)::(us++ds)):=.cons rfl (r.append hd);have hl:(bO (s.heap.objs.size+1)::us++ds).length=ps.length:=by
  have e:=r2.length;rw[F.len _ _ _ _ hq] at e;exact e.symm
 refine JS (L5 (f:=f) I.v5 M.makes M.init (beq_iff_eq.mp M.fn) (lZ (F.run _ X.stack _ _ ⟨bO (s.heap.objs.size+1)::us,[]⟩ (bO (s.heap.objs.size+1)::(us++ds)) _ _ E (hr.make C us [])
  (I2.K7.make C us []) (hb _ (bO (s.heap.objs.size+1)::us) I2.v5 hl) r2 hq) λr s' Yk=>?_))
 cases r with
 | error e=>exact hx pins σ _ _ e s' I2 Yk
 | ok fl =>
  cases fl with
  | ret u =>
   obtain⟨v,H',I3,rv,ev,q3⟩:=I2.after Yk;subst ev;exact⟨rv,⟨V.ref (s.heap.objs.size+1),H',I3,rfl,q3⟩⟩
  | next=>exact fF Yk
  | brk=>exact fF Yk
  | cont=>exact fF Yk
theorem Qv (M:Mk X.K C f) (F:px X.prog X.w X.K X.mg X.base CX k f fd ps sp) (hr:fG (k+1) X.A) (hg:Gl X x) (hm:X.mg x=some (.ref C)) (hb:Binds X.K fd ps ds) (hd:Vals Bl ds) (hx:a0i CX X E)
  (ha:PA X (e::es) t) (Fm:(x == ("__debug__" : bc))=false:=by decide) (he:bD (e::es) X.env=(false,eO e X.env)::bD es X.env:=by rfl) (vJ:(gx pos (bD es X.env)).any (·.1)=false:=by rfl) :
  PE X (.Call (.Name x p) (e::es) [] pos) (Sx C sp Bl E t):=by
 intro pins s σ H Q I h;refine jd (tq I hg hm ?_ Fm);refine sJ (h₀:=X.base) I.ok.mod.PY M.kp (eY (ha pos pins s σ H _ I h) λus s1 cW=>?_) he vJ;obtain⟨vs,H1,I1,r,q⟩:=cW;refine⟨I1.v5,?_⟩;exact MZ M F hr hb hd hx I1 r q
end
def PK (X:Cx) (YU:List aaH) (t:TA):Prop :=
 ∀ (pos:hW) (pins:List (ak × dR)) (s:ai) (σ:St) (H:Hp) (Q:List V->Hp->Prop),Inv X pins σ H s->t σ H Q->wpAny (bn X.prog X.w) X.A (evalAll ((lY pos (ie YU X.env)).map (·.2))) (AP X pins σ Q) X.xe s
section
variable {X:Cx} {CX:Kt} {k:Nat} {f C:ak} {fd:fP} {ps ks:List bc} {sp:Sp} {E:XK} {x m:bc} {p pos apos uL:hW} {e o:b6} {es:List b6} {YU:List aaH} {te ta:TE} {t tk:TA} {nm:Option bc}
theorem MJ:PK X [] Q6:=λ_ _ _ _ H Q I h=>wpAny_evalAll_nil ⟨[],H,I,.nil,h⟩
theorem Hh (ha:PE X e te) (hr:PK X YU t):PK X (⟨nm,e,uL⟩::YU) (HQ te t):=by
 intro pos pins s σ H Q I h;show wpAny _ _ (evalAll ((do let v ← eO e X.env;HN pos;pure v)::(lY pos (ie YU X.env)).map (·.2))) _ _ s;refine wpAny_evalAll_cons (ah (eY (ha pins s σ H _ I h) λu s1 cW=>?_));obtain⟨x,H1,I1,r1,q1⟩:=cW;refine ah (yi (aH ?_));refine eY (hr pos pins s1 σ H1 _ I1 q1) λus s2 cW=>?_;obtain⟨xs,H2,I2,r2,q2⟩:=cW;exact⟨x::xs,H2,I2,.cons r1 r2,q2⟩
variable {g:List ae->List ae->List ae} {gV:List V->List V->List V}
end
structure bM (N P:List bc) (sc:dv):Prop where
 kind:sc.kind=.function
 co:sc.isCoroutine=false
 gen:sc.isGenerator=false
 nd:N.Nodup
 pre:N.take P.length=P
 par:∀ x∈P,sc.names.lookup x=some .local\/sc.names.lookup x=some .cell
 Ve:∀ y∈sc.names,y.2≠.free
theorem zu {n4:bc->Option iN} {x:bc}:∀ {binds:List (bc × ae)} {m:bc->Option ae},(∀ v,(x,v) ∉ binds)->Oj n4 binds m x=m x
 | [],_,_=>rfl
 | (n,v)::r,m,h=>by
  unfold Oj;rw[zu λw hw=>h w (aL _ hw)];split
  ·have:x≠n:=by rintro rfl;exact h v aE
   simp[this]
  ·rfl
theorem zr {n4:bc->Option iN} {x:bc}:∀ {binds:List (bc × ae)} {m:bc->Option ae},(∀ v,(x,v) ∉ binds)->Oi n4 binds m x=m x
 | [],_,_=>rfl
 | (n,v)::r,m,h=>by
  unfold Oi;rw[zr λw hw=>h w (aL _ hw)];split
  ·rfl
  ·have:x≠n:=by rintro rfl;exact h v aE
   simp[this]
theorem zt {n4:bc->Option iN} {x:bc} {v:ae}:∀ {P:List bc} {vs:List ae} {i:Nat} {m:bc->Option ae},P.Nodup->P[i]?=some x->vs[i]?=some v->n4 x=some .local ->
  Oj n4 (P.zip vs) m x=some v
 | [],_,_,_,_,h,_,_=>by simp at h
 | _::_,[],_,_,_,_,h,_=>by simp at h
 | p::P,w::vs,0,m,nd,h1,h2,hk=>by
  simp at h1 h2;subst h1;subst h2;show Oj n4 ((p,w)::P.zip vs) m p=_;unfold Oj;rw[zu λv hv=>(dt.mp nd).1 (zp hv).1,if_pos hk];simp
 | p::P,w::vs,i+1,m,nd,h1,h2,hk=>by
  show Oj n4 ((p,w)::P.zip vs) m x=_;unfold Oj;exact zt (i:=i) (dt.mp nd).2 (by simpa using h1) (by simpa using h2) hk
theorem zq {n4:bc->Option iN} {x:bc} {v:ae}:∀ {P:List bc} {vs:List ae} {i:Nat} {m:bc->Option ae},P.Nodup->P[i]?=some x->vs[i]?=some v->n4 x≠some .local ->
  Oi n4 (P.zip vs) m x=some v
 | [],_,_,_,_,h,_,_=>by simp at h
 | _::_,[],_,_,_,_,h,_=>by simp at h
 | p::P,w::vs,0,m,nd,h1,h2,hk=>by
  simp at h1 h2;subst h1;subst h2;show Oi n4 ((p,w)::P.zip vs) m p=_;unfold Oi;rw[zr λv hv=>(dt.mp nd).1 (zp hv).1,if_neg hk];simp
 | p::P,w::vs,i+1,m,nd,h1,h2,hk=>by
  show Oi n4 ((p,w)::P.zip vs) m x=_;unfold Oi;exact zq (i:=i) (dt.mp nd).2 (by simpa using h1) (by simpa using h2) hk
def start (N:List bc) (vs:List V):St:=vs.map some++aD (N.length-vs.length) none
def rG (CX:Kt) (P:aS) (w:bN) (K:aj) (mg:bc->Option ae) (base:cj) (N:List bc) (qual:bc) (scope:dv) (f:ak) (cd:ae) (A:bA) (outer:List qk) (s:ai) (H:Hp) (E:XK):Cx where
 prog:=P
 w:=w
 K:=K
 mg:=mg
 base:=base
 A:=A.deeper (mV qual scope s.heap.objs.size f cd)
 N:=N
 s₀:=s
 H₀:=H
 env:=mV qual scope s.heap.objs.size f cd
 outer:=outer
 stack:=mV qual scope s.heap.objs.size f cd::outer
 ex:=[]
 calm:=true
 fn:=λ_=>true
 pn:=[]
 xe:=λe s'=>wpAny (bn P w) (A.deeper (mV qual scope s.heap.objs.size f cd)) (leaving (mV qual scope s.heap.objs.size f cd) e) (λ_ VD=>CX outer H s E e VD) (λe' VD=>CX outer H s E e' VD) s'
theorem C8 {sc:dv} {n:Nat} {x:bc} (h:sc.names.lookup x=some .cell):∃ c,(acL n sc.names []).lookup x=some c:=by
 have q:=CT sc.names n [] (.inl h);exact Option.isSome_iff_exists.mp q
theorem Je {CX:Kt} {P:aS} {w:bN} {K:aj} {mg:bc->Option ae} {base:cj} {N ps:List bc} {qual:bc} {scope:dv} {f:ak} {cd:ae} {A:bA} {outer:List qk} {s s1:ai} {H:Hp} {E:XK} {us:List ae} {vs:List V}
  (S:bM N ps scope) (hd:A.handled=none) (e0:wK P w K mg base A outer s H) (hl:vs.length=ps.length) (r:Vals vs us)
  (x:InCallC s s.heap.objs.size (Oj (mV qual scope s.heap.objs.size f cd).kindOf (ps.zip us) λ_=>none) (acL (s.heap.objs.size+1) scope.names []) (Oi (mV qual scope s.heap.objs.size f cd).kindOf (ps.zip us) λ_=>none) s1) :
  Inv (rG CX P w K mg base N qual scope f cd A outer s H E) [] (start N vs) H s1:=by
 have vJ:ps.length<=N.length:=by have:=congrArg l9 S.pre;rw[cA] at this;omega
 obtain⟨h1,tk,rfl,hk⟩:=x.done;have Y7:∀ b:ak,b ∉ (rG CX P w K mg base N qual scope f cd A outer s H E).ex:=λb z=>absurd (show b∈([]:List ak) from z) (by simp);refine⟨⟨e0.mod,S.kind,rfl,rfl,az _,λy z c h1 h2=>?_,λy hy=>?_,λy c _ h=>?_,λ_=>hd,Gg e0.frames,.inr ⟨rfl,rfl⟩,λb z=>absurd z (Y7 b),e0.bs,e0.KU,λb _ _=>Y7 b,λb z=>absurd z (Y7 b),e0.rL,e0.Pj⟩,
  rfl,e0.bare,Un.kept hk,⟨_,x.toInCall.ns,λi y v h1 h2 h3=>?_⟩,λy c h=>⟨_,x.cell y c h⟩,e0.cZ.fresh (az _),λy c h=>?_,λp hp=>absurd (show p∈([]:List (ak × dR)) from hp) (by simp),e0.cZ.kept hk,?_⟩
 ·exact name_of_addr x.apart (dU h1) (dU h2)
 ·have hy:scope.names.lookup y=some .cell\/scope.names.lookup y=some .free:=hy;rcases hy with hy | hy
  ·exact C8 hy
  ·exact absurd rfl (S.Ve _ (dU hy))
 ·exact qE (x.above y c (dU h))
 ·have hi:i<vs.length:=by
   unfold start at h2
   by_cases hi:i<vs.length
   ·exact hi
   ·rw[bU (by simpa using hi)] at h2;rw[er] at h2;split at h2 <;> cases h2
  have ha:vs[i]?=some v:=by
   unfold start at h2;rw[bW (by simpa using hi),aI] at h2;cases e:vs[i]? with
   | none=>rw[e] at h2;cases h2
   | some a=>rw[e] at h2;cases h2;rfl
  obtain⟨u,hu,rv⟩:=r.get ha;have hp:ps[i]?=some y:=by
   rw[← S.pre,Ep (by omega)];exact h1
  have ndP:ps.Nodup:=by rw[← S.pre];exact S.nd.sublist (OS _ _)
  refine⟨u,rv,?_⟩;rcases S.par y (aq hp) with k | k
  ·exact .inl ⟨k,zt ndP hp hu k⟩
  ·obtain⟨c,e⟩:=C8 (n:=s.heap.objs.size+1) k;refine .inr ⟨.inl k,c,e,?_⟩;have q:=x.cell y c e;rw[zq ndP hp hu (by show scope.names.lookup y≠_;rw[k];decide)] at q;exact q
 ·exact e0.cZ.fresh (qE (x.above y c (dU h)))
 ·unfold start;show _=N.length;rw[aO,ag,dX];omega
theorem La {CX:Kt} {P:aS} {w:bN} {K:aj} {mg:bc->Option ae} {base:cj} {k:Nat} {f:ak} {name qual:bc} {params:jr} {body:List cK} {scope:dv} {dV kV doc pm di ct oc:ae} {an od:Option ak}
  {OB:Array (Option ae)} {N ps:List bc} {sp:Sp} (lk:K.lookup f=some ⟨oc,od,.func (mz name qual params body scope dV kV doc pm an di ct),OB⟩) (Ck:yz K di qual=true) (S:bM N ps scope)
  (len:∀ vs H Q E,sp vs H Q E->vs.length=ps.length)
  (mD:∀ (A:bA) (outer:List qk) (s:ai) (H:Hp) (vs:List V) (Q:VK) (E:XK),fG k (A.deeper (mV qual scope s.heap.objs.size f di))->sp vs H Q E ->
   ∃ t,xZ (rG CX P w K mg base N qual scope f di A outer s H E) body t/\t { nx:=λ_ H'=>Q .fj H',rt:=Q } (start N vs) H) :
  px P w K mg base CX (k+1) f (mz name qual params body scope dV kV doc pm an di ct) ps sp:=by
 refine⟨len,λA outer s H args us vs Q E hr e0 hb r EA=>?_⟩;have hl:=len _ _ _ _ EA;have KX:K.In s.heap:=e0.mod.PY.keeps λb o e=>(e0.bs b o e).1;have lim:s.heap.NoLimit:=e0.mod.nolimit.keeps λb o e=>(e0.bs b o e).1;have X4:∀ y∈ps.zip us,scope.names.lookup y.1=some .local\/(scope.names.lookup y.1=some .cell/\((acL (s.heap.objs.size+1) scope.names []).lookup y.1).isSome=true):=λ⟨n,v⟩ hy=>by
  rcases S.par n (zp hy).1 with q | q
  ·exact .inl q
  ·exact .inr ⟨q,CT _ _ _ (.inl q)⟩
 refine codeAny_call_function hr.depth (KX _ _ lk) rfl S.co S.gen rfl (PySem.W.codeRec_of KX Ck) (hb _ _ _ _ ?_);refine wpAny_newFunctionEnv_cells S.kind X4 λenv he s1 x=>?_;subst he;refine⟨lim.keeps x.toInCall.keep,codeAny_func ?_⟩;obtain⟨t,ht,hq⟩:=mD A outer s H vs Q E (hr.deeper _) EA;have I:Inv (rG CX P w K mg base N qual scope f di A outer s H E) [] (start N vs) H s1:=Je S hr.hd e0 hl r x;refine dc (ht [] s1 (start N vs) H _ I hq) (λfl s' hs=>?_) λe s' hs=>hs;have fin:∀ {σ':St} {H':Hp} {v:V} {u:ae},Inv (rG CX P w K mg base N qual scope f di A outer s H E) [] σ' H' s'->RelV v u->Q v H'->CE outer P w H s Q u s' :=
  λ{σ' H' v u} J rv q=>⟨v,H',J.os,J.bare,J.base,J.cZ,rv,q⟩
 cases fl with
 | ret u =>
  obtain⟨v,σ',H',J,rv,q⟩:=hs;exact fin J rv q
 | next =>
  obtain⟨σ',H',J,q⟩:=hs;exact fin (v:=V.fj) (u:=nz) J rfl q
 | brk =>
  obtain⟨_,_,_,q⟩:=hs;exact fF q
 | cont =>
  obtain⟨_,_,_,q⟩:=hs;exact fF q
section
variable {X:Cx} {x:bc} {p pos:hW} {e:b6} {es:List b6} {t:TA} {id T:String} {r:List V->Hp->VK->Prop}
def tCB (r:List V->Hp->VK->Prop) (t:TA):TE:=λσ H Q=>t σ H λvs H1=>r vs H1 Q
theorem bE (hc:kF X (.builtin id) r) (hg:Gl X x) (hm:X.mg x=none) (hv:oE x=some (.builtin id)) (ha:PA X (e::es) t) (hn:x ≠ "__name__" := by decide) (Fm:(x == ("__debug__" : bc))=false:=by decide)
  (he:bD (e::es) X.env=(false,eO e X.env)::bD es X.env:=by rfl) (vJ:(gx pos (bD es X.env)).any (·.1)=false:=by rfl):PE X (.Call (.Name x p) (e::es) [] pos) (tCB r t):=by
 intro pins s σ H Q I h;refine jd (lI I hg hm hv ?_ hn Fm);refine rZ (eY (ha pos pins s σ H _ I h) λus s1 cW=>?_) he vJ;obtain⟨vs,H1,I1,r1,q1⟩:=cW;exact hc pins s1 σ H1 vs us Q I1 r1 q1
theorem jO (hc:kF X (.type T) r) (hg:Gl X x) (hm:X.mg x=none) (hv:oE x=some (.type T)) (ha:PA X (e::es) t) (hn:x ≠ "__name__" := by decide) (Fm:(x == ("__debug__" : bc))=false:=by decide)
  (he:bD (e::es) X.env=(false,eO e X.env)::bD es X.env:=by rfl) (vJ:(gx pos (bD es X.env)).any (·.1)=false:=by rfl):PE X (.Call (.Name x p) (e::es) [] pos) (tCB r t):=by
 intro pins s σ H Q I h;refine jd (lI I hg hm hv ?_ hn Fm);refine dk (eY (ha pos pins s σ H _ I h) λus s1 cW=>?_) he vJ;obtain⟨vs,H1,I1,r1,q1⟩:=cW;exact hc pins s1 σ H1 vs us Q I1 r1 q1
end
end L2
namespace HT
open PySem PyProof.Rows
def lexLt:List Int->List Int->Bool
 | [],[]=>false
 | [],_::_=>true
 | _::_,[]=>false
 | x::xs,y::ys=>if x=y then lexLt xs ys else decide (x<y)
theorem oH (x y:Int) (xs ys:List Int):lexLt (x::xs) (y::ys)=if x=y then lexLt xs ys else decide (x<y):=rfl
theorem nF:lexLt [] []=false:=rfl
theorem pO (y:Int) (ys:List Int):lexLt [] (y::ys)=true:=rfl
theorem pN (x:Int) (xs:List Int):lexLt (x::xs) []=false:=rfl
theorem Dg (A:bA) (s:ai) (a:Int) (t:RL) (c:Int) (u:RL):∃ e,iH A s (.int a t) (.int c u) e/\(e=true↔a=c) :=
 ⟨(a == c),Et a t c u,by simp⟩
theorem MT (A:bA) (s:ai) (a:Int) (t:RL) (c:Int) (u:RL) (prog:aS) (w:bN) (E:ae->ai->Prop) (Q:ae->ai->Prop) (h:Q (.bool (decide (a<c))) s) :
  wpAny (bn prog w) A (EB .Lt (.int a t) (.int c u)) Q E s :=
 (PyProof.Rows.lt_int h:wpAny (bn prog w) A (dF .Lt (.int a t) (.int c u)) Q E s)
section
open PySem.SeqAt
open PySem.AutoSeq1 (wpAny_loadPart')
open PySem.MeetsSeq PySem.MeetsSeq2 PySem.MeetsSeq3
theorem zg (l b:ak) (items gH:Array ae) (n n2:Nat) (dd TK:Option ak) (sl JK:Array (Option ae)) (ns ms:List Int) (hi:cL items.toList ns) (hj:cL gH.toList ms) :
  Meets (iX.«tuple.__lt__» ⟨[.ref l,.ref b],[]⟩)
   (λ_ R s=>s.heap.get? l=some { cls:=.type "tuple",dict:=dd,data:=.seq items n,slots:=sl }/\s.heap.get? b=some { cls:=.type "tuple",dict:=TK,data:=.seq gH n2,slots:=JK } /\
    R (.ok (.ret (.bool (lexLt ns ms)))) s) :=
 .of_wp λprog w A R s h=>by
  obtain⟨hp,g,d,tk,os⟩:=s;obtain⟨hl,hb,h⟩:=h;have f2:=zj;have z1:items.size=ns.length:=by rw[← hi.length];simp
  have z2:gH.size=ms.length:=by rw[← hj.length];simp
  wp_walk using uo hl,uo hb,afY _ (λrest b s'=>b.1=none/\s'=⟨hp,g,d,tk,os⟩/\∃ (vs ws:List ae) (vM Jn:List Int),rest=vs.zip ws /\
   cL vs vM/\cL ws Jn/\vM.length+gH.size=Jn.length+items.size/\R (.ok (.ret (.bool (lexLt vM Jn)))) ⟨hp,g,d,tk,os⟩) _
  case turn =>
   rintro⟨y,x⟩ rest b s' ⟨IR,rfl,vs,ws,vM,Jn,hz,UM,PF,hlen,hR⟩;cases UM with
   | nil=>rw[OT] at hz;cases hz
   | cons a t UN =>
    cases PF with
    | nil=>rw[N8] at hz;cases hz
    | cons c u UQ =>
     rw[nR] at hz;injection hz with hyx sZ;injection hyx with hy hx;subst hy hx;rw[oH] at hR;simp only [bi] at hlen;obtain⟨e,he,Lw⟩:=Dg A.in1 ⟨hp,g,d,tk,os⟩ a t c u;refine ah (he prog w _ _ ?_);cases e with
     | true =>
      rw[if_pos (Lw.mp rfl)] at hR
      wp_walk
      exact⟨rfl,rfl,_,_,_,_,sZ,UN,UQ,by omega,hR⟩
     | false =>
      rw[if_neg (λq=>absurd (Lw.mpr q) bg)] at hR;have hri:=MT A.in1 ⟨hp,g,d,tk,os⟩ a t c u prog w
      wp_walk using hri
      exact⟨_,rfl,by simpa using hR⟩
  case fin =>
   rintro⟨b1,b2⟩ s' ⟨IR,rfl,vs,ws,vM,Jn,hz,UM,PF,hlen,hR⟩;simp only at IR;subst IR;have hv:lexLt vM Jn=decide (items.size<gH.size):=by
    cases UM with
    | nil =>
     cases PF with
     | nil =>
      simp only [fM] at hlen;rw[nF];exact (decide_eq_false (by omega)).symm
     | cons c u hw =>
      simp only [fM,bi] at hlen;rw[pO];exact (decide_eq_true (by omega)).symm
    | cons a t hv =>
     cases PF with
     | nil =>
      simp only [fM,bi] at hlen;rw[pN];exact (decide_eq_false (by omega)).symm
     | cons c u hw =>
      rw[nR] at hz;cases hz
   rw[hv] at hR
   wp_walk
   exact⟨_,rfl,by simpa [qW] using hR⟩
  case h =>
   exact⟨rfl,rfl,items.toList,gH.toList,ns,ms,rfl,hi,hj,by omega,h⟩
end
section
variable {prog:aS} {w:bN} {A:bA} {E:ae->ai->Prop} {s:ai}
theorem FC {l b:ak} {items gH:Array ae} {ns ms:List Int} {Q:ae->ai->Prop} (hl:aaG s.heap l items) (hb:aaG s.heap b gH) (hi:cL items.toList ns) (hj:cL gH.toList ms)
  (hu:A.units<iD) (h:Q (.bool (lexLt ns ms)) s):wpAny (bn prog w) A (dF .Lt (.ref l) (.ref b)) Q E s:=by
 obtain⟨⟨cls,dd,data,sl⟩,ho,hc,n,hd⟩:=id hl;obtain⟨⟨acN,TK,data2,JK⟩,Ow,Ez,n2,hd2⟩:=id hb;simp only at hc hd Ez hd2;subst hc hd Ez hd2;exact QM (op:=.Lt) ⟨_,ho,rfl⟩ ⟨_,Ow,rfl⟩ PySem.F.slot_tuple_lt PySem.F.entry_tuple_lt (PySem.F.args_tuple_lt_2 _ _) (zg l b items gH n n2 dd TK sl JK ns ms hi hj)
  ⟨ho,Ow,show pB (lexLt ns ms)≠IA/\Q (.bool (lexLt ns ms)) s from ⟨(λx=>nomatch x),h⟩⟩ hu
def Cr (n d:Nat):Option Int->Nat
 | none=>d
 | some v=>if v<0 then (v+(n:Int)).toNat else min v.toNat n
theorem M1 (n d:Nat):Cr n d none=d:=rfl
theorem QS (n d k:Nat):Cr n d (some (k:Int))=min k n:=by
 show (if (k:Int)<0 then ((k:Int)+(n:Int)).toNat else min (k:Int).toNat n)=min k n;rw[if_neg (by omega),cv]
end
end HT
namespace L2
open PySem PySem.Spec PyProof.Rows
abbrev TO:=St->Hp->(Option Int->Hp->Prop)->Prop
def PO (X:Cx) (e:Option b6) (t:TO):Prop :=
 ∀ (pins:List (ak × dR)) (s:ai) (σ:St) (H:Hp) (Q:Option Int->Hp->Prop),Inv X pins σ H s->t σ H Q ->
  wpAny (bn X.prog X.w) X.A (evalPart e X.env) (λu s'=>∃ o H',Inv X pins σ H' s'/\IsPart u o/\Q o H') X.xe s
def Q7:TO:=λ_ H Q=>Q none H
def aab (t:TE):TO:=λσ H Q=>t σ H λx H1=>∃ i,x=.int i/\Q (some i) H1
theorem a0c {ns:List Int}:∀ {us:List ae},Vals (ns.map V.int) us->cL us ns:=by
 induction ns with
 | nil=>intro us r;rw[vV] at r;cases r;exact .nil
 | cons n ns ih =>
  intro us r;rw[cG] at r;cases r with
  | cons r1 r2 =>
   obtain⟨t,e⟩:=r1;subst e;exact .cons n t (ih r2)
section
variable {X:Cx} {e:b6} {te:TE} {lo hi:Option b6} {tl th:TO} {pos p2:hW}
theorem Hj:PO X none Q7:=by
 intro pins s σ H Q I h;rw[evalPart_none];exact aH ⟨none,H,I,.none,h⟩
theorem Hk (h:PE X e te):PO X (some e) (aab te):=by
 intro pins s σ H Q I hw;rw[evalPart_some];refine eY (h pins s σ H _ I hw) λu s1 cW=>?_;obtain⟨x,H1,I1,r1,q1⟩:=cW;obtain⟨i,rfl,q⟩:=q1;obtain⟨t,rfl⟩:=r1;exact⟨some i,H1,I1,.int i t,q⟩
def SlR (X:Cx) (r:V->Option Int->Option Int->Hp->VK->Prop):Prop :=
 ∀ (pins:List (ak × dR)) (s:ai) (σ:St) (H:Hp) (x:V) (v vl vu:ae) (lo hi:Option Int) (sl:ak) (Q:VK),Inv X pins σ H s->RelV x v->s.heap.IsSliceOf sl vl vu .none->IsPart vl lo->IsPart vu hi->r x lo hi H Q ->
  ∃ T id,aal (.type T) "__getitem__" = pure (some (.builtin id))/\s.TypeIs v T/\wpAny (bn X.prog X.w) X.A (Bn v (.ref sl)) (EP X pins σ Q) X.xe s
def tSl (r:V->Option Int->Option Int->Hp->VK->Prop) (te:TE) (tl th:TO):TE:=λσ H Q=>te σ H λx H1=>tl σ H1 λl H2=>th σ H2 λu H3=>r x l u H3 Q
theorem DW {r:V->Option Int->Option Int->Hp->VK->Prop} (hr:SlR X r) (he:PE X e te) (hl:PO X lo tl) (hu:PO X hi th):PE X (.Subscript e (.Slice lo hi none p2) pos) (tSl r te tl th):=by
 intro pins s σ H Q I h;refine Xb (eY (he pins s σ H _ I h) λv s1 cW=>?_);obtain⟨x,H1,I1,r1,q1⟩:=cW;refine wpAny_Slice (eY (hl pins s1 σ H1 _ I1 q1) λvl s2 cW=>?_);obtain⟨l,H2,I2,pl,q2⟩:=cW;refine eY (hu pins s2 σ H2 _ I2 q2) λvu s3 Lz=>?_;obtain⟨u,H3,I3,pu,q3⟩:=Lz;rw[evalPart_none];refine aH ?_;have I4:Inv X pins σ H3 { s3 with heap:=s3.heap.push { cls:=.type "slice",data:=.fields #[vl,vu,.none] } }:=I3.kept (t':=s3.toks) λb ob q=>al _ q;obtain⟨T,id,hT,ht,hg⟩:=hr pins { s3 with heap:=s3.heap.push { cls:=.type "slice",data:=.fields #[vl,vu,.none] } } σ H3 x v vl vu l u s3.heap.objs.size Q I4 r1 (aaF ..) pl pu q3;show wpAny (bn X.prog X.w) X.A (Nv e (.Slice lo hi none p2) v (.ref s3.heap.objs.size)) (EP X pins σ Q) X.xe { s3 with heap:=s3.heap.push { cls:=.type "slice",data:=.fields #[vl,vu,.none] } };exact tail_any (ops:=[.ref s3.heap.objs.size,v]) ht hT hg (by with_unfolding_all rfl)
def IL (xs:List V) (lo hi:Option Int):List V:=(xs.drop (HT.Cr xs.length 0 lo)).take (HT.Cr xs.length xs.length hi-HT.Cr xs.length 0 lo)
theorem Dc (xs:List V) (lo hi:Option Int):(IL xs lo hi).length<=xs.length:=by
 unfold IL;rw[cA,RG];omega
end
def yI (n:Nat) (i:Int):Option Nat:=if 0<=i then (if i<n then some i.toNat else none) else if -(n:Int)<=i then some (i+n).toNat else none
def vX {α:Type} (xs:List α) (i:Int):Option α:=(yI xs.length i).bind λj=>xs[j]?
theorem GS {n:Nat} {i:Int} {j:Nat} (h:yI n i=some j):seqIndex? i n=some j/\j<n/\-(n:Int)<=i/\i<n:=by
 unfold yI at h
 by_cases h0:0<=i
 ·rw[if_pos h0] at h
  by_cases h1:i<n
  ·rw[if_pos h1] at h;have e:i.toNat=j:=ck h;exact⟨by rw[EF h0 h1,e],by omega,by omega,h1⟩
  ·rw[if_neg h1] at h;cases h
 ·rw[if_neg h0] at h
  by_cases h1:-(n:Int)<=i
  ·rw[if_pos h1] at h;have e:(i+n).toNat=j:=ck h;exact⟨by rw[QT (by omega) h1,e],by omega,h1,by omega⟩
  ·rw[if_neg h1] at h;cases h
theorem Ba {α:Type} {xs:List α} {i:Int} {v:α} (h:vX xs i=some v):∃ j,seqIndex? i xs.length=some j/\xs[j]?=some v/\j<xs.length/\-(xs.length:Int)<=i/\i<xs.length:=by
 unfold vX at h;cases e:yI xs.length i with
 | none=>rw[e] at h;cases h
 | some j =>
  rw[e] at h;obtain⟨h1,h2,h3,h4⟩:=GS e;exact⟨j,h1,h,h2,h3,h4⟩
theorem bu {α:Type} {xs:List α} {j:Nat} {v:α} (h:xs[j]?=some v):vX xs (j:Int)=some v:=by
 have hj:j<xs.length:=(af.mp h).1;have e:yI xs.length (j:Int)=some j:=by
  unfold yI;rw[if_pos (by omega),if_pos (by omega)];simp
 unfold vX;rw[e];exact h
theorem KO {α:Type} (xs:List α) (v:α):vX (xs++[v]) (-1)=some v:=by
 have hl:(xs++[v]).length=xs.length+1:=by simp
 have e:yI (xs++[v]).length (-1)=some xs.length:=by
  unfold yI;rw[hl,if_neg (by decide),if_pos (by omega)];congr 1;omega
 unfold vX;rw[e];show (xs++[v])[xs.length]?=some v;simp
def OY (b:b6):Prop:=∀ o i,EG b false o i=operate [o,i] (Bn o i)
def W5 (X:Cx) (r:R2):Prop :=
 ∀ (value slice:b6) (pins:List (ak × dR)) (s:ai) (σ:St) (H:Hp) (x y:V) (v u:ae) (Q:VK),Inv X pins σ H s->RelV x v->RelV y u->r x y H Q ->
  EG slice false v u=operate [v,u] (Bn v u)->wpAny (bn X.prog X.w) X.A (Nv value slice v u) (EP X pins σ Q) X.xe s
def MtR (X:Cx) (id:String) (r:V->List V->Hp->VK->Prop):Prop :=
 ∀ (pins:List (ak × dR)) (s:ai) (σ:St) (H:Hp) (x:V) (xs:List V) (v:ae) (us:List ae) (Q:VK),Inv X pins σ H s->RelV x v->Vals xs us->r x xs H Q ->
  wpAny (bn X.prog X.w) X.A (rF (.builtin id) (v::us)) (EP X pins σ Q) X.xe s
section
variable {X:Cx} {a b:b6} {ta tb:TE} {pos:hW}
theorem bL {r:R2} (hr:W5 X r) (ha:PE X a ta) (hb:PE X b tb) (hs:OY b):PE X (.Subscript a b pos) (tOp r ta tb):=by
 intro pins s σ H Q I h;exact Xb (TD ha hb I h λv u s2 x y H2 I2 rx ry q=>hr a b pins s2 σ H2 x y v u Q I2 rx ry q (hs _ _))
def Zz (K:aj):R2:=λx y H Q=>∃ p xs i v,x=.ref p/\y=.int i/\bQ K H p xs/\vX xs i=some v/\Q v H
def ZA (K:aj):R2:=λx y H Q=>∃ p xs i v,x=.ref p/\y=.int i/\eU K H p xs/\vX xs i=some v/\Q v H
theorem PX:W5 X (Zz X.K):=by
 intro value slice pins s σ H x y v u Q I rx ry h hs;obtain⟨p,xs,i,z,rfl,rfl,hq,he,q⟩:=h;cases rx;obtain⟨t,rfl⟩:=ry;obtain⟨cw,r,pl,hz⟩:=I.list hq;obtain⟨j,h1,h2,h3,h4,h5⟩:=Ba he;obtain⟨w,ew,JE⟩:=r.get h2;have hl:=r.length;have hn:=uM;have fin:EP X pins σ Q w s:=⟨z,H,I,JE,q⟩
 by_cases h0:0<=i
 ·have hj:i.toNat=j:=by
   rw[EF h0 h5] at h1;exact ck h1
  exact item_listR pl.isList h0 (by omega) (by rw[hj];simpa using ew) fin hs
 ·have hj:(i+(cw.toArray.size:Int)).toNat=j:=by
   rw[QT (by omega) h4] at h1;rw[aV,← hl];exact ck h1
  exact Q4 (x:=w) pl.isList.typeIs abV.lookup
   (wpAny_getItem_list_neg (Q:=λr s'=>r=w/\EP X pins σ Q r s') pl.isList (by omega) (by rw[aV] <;> omega) (by omega) (by rw[hj];simpa using ew) ⟨rfl,fin⟩) hs
theorem U0:W5 X (ZA X.K):=by
 intro value slice pins s σ H x y v u Q I rx ry h hs;obtain⟨p,xs,i,z,rfl,rfl,hq,he,q⟩:=h;cases rx;obtain⟨t,rfl⟩:=ry;obtain⟨cw,r,pl,hz⟩:=I.tuple hq;obtain⟨j,h1,h2,h3,h4,h5⟩:=Ba he;obtain⟨w,ew,JE⟩:=r.get h2;have hl:=r.length;have hn:=uM;have fin:EP X pins σ Q w s:=⟨z,H,I,JE,q⟩
 exact Q4 (x:=w) pl.typeIs slot_tuple_getitem.lookup
  (getItem_tuple (j:=j) (Q:=λr s'=>r=w/\EP X pins σ Q r s') pl (by omega) (by omega) (by rw[aV,← hl];exact h1) (by simpa using ew) ⟨rfl,fin⟩) hs
theorem FF (cw:List ae) (n j:Nat) (u:ae):cF (·.setIfInBounds j u) { cls:=.type "list",data:=.seq cw.toArray n }={ cls:=.type "list",data:=.seq (cw.set j u).toArray n }:=by
 simp[cF]
theorem Inv.lst {pins:List (ak × dR)} {σ:St} {H:Hp} {s:ai} {p:ak} {xs:List V} (I:Inv X pins σ H s) (h:H p=some (.lst xs)) :
  ∃ (cw:List ae) (n:Nat),Vals xs cw/\s.heap.get? p=some { cls:=.type "list",data:=.seq cw.toArray n }/\xs.length<=aJ:=by
 obtain⟨z,cw,n,r,e⟩:=I.cZ p _ h;exact⟨cw,n,r,e,z⟩
theorem Inv.U8 {pins:List (ak × dR)} {σ:St} {H:Hp} {s:ai} {p:ak} {xs ys:List V} {cw its':List ae} {n n':Nat} {f:dR->dR} (I:Inv X pins σ H s) (h:H p=some (.lst xs))
  (ho:s.heap.get? p=some { cls:=.type "list",data:=.seq cw.toArray n }) (hf:f { cls:=.type "list",data:=.seq cw.toArray n }={ cls:=.type "list",data:=.seq its'.toArray n' }) (r:Vals ys its') (hz:ys.length<=aJ) (t:Nat) :
  Inv X pins σ (upd H p (.lst ys)) { s with heap:=s.heap.update p f,toks:=t }:=by
 have e:(s.heap.update p f).get? p=some { cls:=.type "list",data:=.seq its'.toArray n' }:=by
  rw[iU f ho (by rw[hf] <;> rfl),hf]
 refine I.write (x:=p) (e:=p) (by rw[h];trivial) (.inl rfl) (λb u hb q=>(Gm _ _ (dG hb)).trans q) ⟨_,e⟩ ?_;exact⟨hz,its',n',r,e⟩
def ZB:V->V->V->Hp->(Hp->Prop)->Prop:=λo i v H Q=>∃ p xs k j,o=.ref p/\i=.int k/\H p=some (.lst xs)/\yI xs.length k=some j/\Q (upd H p (.lst (xs.set j v)))
theorem a0d:Tl X ZB:=by
 intro pins s σ H o i v ov iv u Q I ro ri rv h;obtain⟨p,xs,k,j,rfl,rfl,hp,hj,q⟩:=h;cases ro;obtain⟨t,rfl⟩:=ri;obtain⟨cw,n,r,ho,hz⟩:=I.lst hp;obtain⟨h1,h2,h3,h4⟩:=GS hj;have hl:=r.length;have hn:=uM;have I':Inv X pins σ (upd H p (.lst (xs.set j v))) { s with heap:=s.heap.update p (cF (·.setIfInBounds j u)) } :=
  I.U8 hp ho (FF cw n j u) (r.set rv j) (by rw[fN];exact hz) s.toks
 by_cases h0:0<=k
 ·have hk:k.toNat=j:=by
   rw[EF h0 h4] at h1;exact ck h1
  exact PySem.W.ki_setAt ho h0 (by omega) (by rw[aV,← hl];exact h4) (by rw[hk];exact⟨_,I',q⟩)
 ·have hk:(k+(cw.toArray.size:Int)).toNat=j:=by
   rw[QT (by omega) h3] at h1;rw[aV,← hl];exact ck h1
  exact PySem.W.ki_setBack ho (by omega) (by rw[aV,← hl];exact h3) (by omega) (by rw[hk];exact⟨_,I',q⟩)
theorem BW (lo hi:Option Int) (n:Nat):(nJ lo hi none n).1=((HT.Cr n 0 lo:Nat):Int)/\(nJ lo hi none n).2.1=((HT.Cr n n hi:Nat):Int)/\(nJ lo hi none n).2.2=1:=by
 refine⟨?_,?_,rfl⟩
 ·cases lo with
  | none=>simp[nJ,HT.Cr]
  | some i =>
   simp only [nJ,HT.Cr,N9,show (1:Int) > 0 by decide,if_true]
   by_cases h:i<0
   ·simp only [h,if_true] <;> omega
   ·simp only [h,if_false] <;> omega
 ·cases hi with
  | none=>simp[nJ,HT.Cr]
  | some i =>
   simp only [nJ,HT.Cr,N9,show (1:Int) > 0 by decide,if_true]
   by_cases h:i<0
   ·simp only [h,if_true] <;> omega
   ·simp only [h,if_false] <;> omega
theorem zd (cw:List ae) (lo hi:Option Int):slicePick cw.toArray lo hi none=((cw.drop (HT.Cr cw.length 0 lo)).take (HT.Cr cw.length cw.length hi-HT.Cr cw.length 0 lo)).toArray:=by
 obtain⟨h1,h2,h3⟩:=BW lo hi cw.toArray.size;unfold slicePick;rw[h1,h2,h3];simp only [sliceRange_one,pick_run,aV] <;> rfl
def ZC (K:aj):V->Option Int->Option Int->Hp->VK->Prop:=λx lo hi H Q=>∃ a xs,x=.ref a/\bQ K H a xs/\∀ p,H p=none->Q (.ref p) (upd H p (.lst (IL xs lo hi)))
theorem QX:SlR X (ZC X.K):=by
 intro pins s σ H x v vl vu lo hi sl Q I rx hs pl pu h;obtain⟨a,xs,rfl,hx,q⟩:=h;cases rx;obtain⟨cw,r,ht,hz⟩:=I.list hx;have hlen:=r.length;refine⟨"list",_,abV.lookup,ht.isList.typeIs,?_⟩;refine wpAny_getItem_list_slice ht.isList hs pl pu .none (by simp) ?_ (by rw[aV] <;> omega);rw[zd,← hlen];refine⟨.ref s.heap.objs.size,_,I.laid (t':=s.toks) (o:=.lst (IL xs lo hi)) (λb ob q=>al _ q) (az _) ?_,rfl,q _ (I.cZ.fresh (az _))⟩;exact⟨b7 (Dc xs lo hi) hz,_,0,(r.drop (HT.Cr xs.length 0 lo)).take (HT.Cr xs.length xs.length hi-HT.Cr xs.length 0 lo),aQ _ rfl⟩
def sU:V->Bool
 | .fj=>true
 | .bl _=>true
 | .int _=>true
 | .str _=>true
 | _=>false
def Fi:V->V->Bool
 | .fj,.fj=>true
 | .bl a,.bl b=>a == b
 | .bl a,.int b=>(if a then 1 else 0) == b
 | .int a,.bl b=>a == (if b then 1 else 0)
 | .int a,.int b=>a == b
 | .str a,.str b=>a == b
 | _,_=>false
theorem uF {A:bA} {s:ai} {y x:V} {u v:ae} (ry:RelV y u) (rx:RelV x v) (fy:sU y=true) (fx:sU x=true):iH A s u v (Fi y x):=by
 cases y with
 | fj =>
  cases ry;cases x with
  | fj=>cases rx;exact vc _
  | bl b=>cases rx;exact SeqAt.EqAt.none_bool b
  | int b=>obtain⟨t,rfl⟩:=rx;exact SeqAt.EqAt.none_int b t
  | str b=>obtain⟨t,rfl⟩:=rx;exact SeqAt.EqAt.none_str b t
  | _=>exact absurd (show false=true from fx) bg
 | bl a =>
  cases ry;cases x with
  | fj=>cases rx;exact SeqAt.EqAt.bool_none a
  | bl b=>cases rx;exact SeqAt.EqAt.bool_bool a b
  | int b=>obtain⟨t,rfl⟩:=rx;exact SeqAt.EqAt.bool_int a b t
  | str b=>obtain⟨t,rfl⟩:=rx;exact SeqAt.EqAt.bool_str a b t
  | _=>exact absurd (show false=true from fx) bg
 | int a =>
  obtain⟨t',rfl⟩:=ry;cases x with
  | fj=>cases rx;exact SeqAt.EqAt.int_none a t'
  | bl b=>cases rx;exact SeqAt.EqAt.int_bool a t' b
  | int b=>obtain⟨t,rfl⟩:=rx;exact Et a t' b t
  | str b=>obtain⟨t,rfl⟩:=rx;exact Eu a t' b t
  | _=>exact absurd (show false=true from fx) bg
 | str a =>
  obtain⟨t',rfl⟩:=ry;cases x with
  | fj=>cases rx;exact SeqAt.EqAt.str_none a t'
  | bl b=>cases rx;exact SeqAt.EqAt.str_bool a t' b
  | int b=>obtain⟨t,rfl⟩:=rx;exact Ev a t' b t
  | str b=>obtain⟨t,rfl⟩:=rx;exact SeqAt.EqAt.str_str a t' b t
  | _=>exact absurd (show false=true from fx) bg
 | _=>exact absurd (show false=true from fy) bg
def Pe (x:V) (u:ae):Bool:=match u with
 | .none=>Fi .fj x
 | .bool b=>Fi (.bl b) x
 | .int i _=>Fi (.int i) x
 | .str z _=>Fi (.str z) x
 | _=>false
theorem K8 {x y:V} {u:ae} (r:RelV y u) (f:sU y=true):Pe x u=Fi y x:=by
 cases y with
 | fj=>cases r;rfl
 | bl b=>cases r;rfl
 | int i=>obtain⟨t,rfl⟩:=r;rfl
 | str z=>obtain⟨t,rfl⟩:=r;rfl
 | _=>exact absurd (show false=true from f) bg
theorem AZ {x:V}:∀ {xs:List V} {us:List ae},Vals xs us->xs.all sU=true->us.any (Pe x)=xs.any λy=>Fi y x
 | _,_,.nil,_=>rfl
 | y::xs,u::us,.cons r t,f=>by
  rw[W7,bR] at f;rw[uw,uw,K8 r f.1,AZ t f.2]
theorem xx {A:bA} {s:ai} {x:V} {v:ae} (rx:RelV x v) (fx:sU x=true):∀ {xs:List V} {us:List ae},Vals xs us->xs.all sU=true->∀ u∈us,iH A s u v (Pe x u)
 | _,_,.nil,_=>λu hu=>by cases hu
 | y::xs,u::us,.cons r t,f=>λu' hu=>by
  rw[W7,bR] at f;rcases aB.mp hu with rfl | hu
  ·rw[K8 r f.1];exact uF r rx f.1 fx
  ·exact xx rx fx t f.2 u' hu
def WM (x:V) (xs:List V):Bool:=xs.any λy=>Fi y x
def rIn (K:aj) (neg:Bool):R2:=λx y H Q=>∃ p xs,y=.ref p/\(bQ K H p xs\/eU K H p xs)/\sU x=true/\xs.all sU=true/\Q (.bl (if neg then !WM x xs else WM x xs)) H
theorem BC:ux X (dF .NotIn) (rIn X.K true):=by
 intro pins s σ H x y v u Q I rx ry h;obtain⟨p,xs,rfl,hq,fx,fs,q⟩:=h;cases ry;rcases hq with hq | hq
 ·obtain⟨cw,r,pl,hz⟩:=I.list hq;refine SeqAt.notIn_listAt (Pe x) pl.isList (λw hw=>xx rx fx r fs w (by simpa using hw)) ⟨.bl _,H,I,rfl,?_⟩;rw[show cw.toArray.any (Pe x)=cw.any (Pe x) by simp,AZ r fs];exact q
 ·obtain⟨cw,r,pl,hz⟩:=I.tuple hq;refine SeqAt.notIn_tupleAt (Pe x) pl (λw hw=>xx rx fx r fs w (by simpa using hw)) ⟨.bl _,H,I,rfl,?_⟩;rw[show cw.toArray.any (Pe x)=cw.any (Pe x) by simp,AZ r fs];exact q
theorem Be:kF X (.builtin "len") (λxs H Q=>∃ p ys,xs=[.ref p]/\(bQ X.K H p ys\/eU X.K H p ys)/\Q (.int ys.length) H):=by
 intro pins s σ H xs us Q I r h;obtain⟨p,ys,rfl,hq,q⟩:=h;obtain⟨u,rfl,rx⟩:=a0e r;cases rx;have hn:=uM;rcases hq with hq | hq
 ·obtain⟨cw,r',pl,hz⟩:=I.list hq;have hlen:=r'.length;exact Calls.call_len_list pl.isList (by simp only [aV] <;> omega) ⟨.int ys.length,H,I.tok _,⟨s.toks+1,by rw[aV,hlen]⟩,q⟩
 ·obtain⟨cw,r',pl,hz⟩:=I.tuple hq;have hlen:=r'.length;exact len_tuple pl (by simp only [aV] <;> omega) ⟨.int ys.length,H,I.tok _,⟨s.toks+1,by rw[aV,hlen]⟩,q⟩
theorem Bf:kF X (.type "list") (λxs H Q=>∃ p ys,xs=[.ref p]/\(bQ X.K H p ys\/eU X.K H p ys)/\∀ l,H l=none->Q (.ref l) (upd H l (.lst ys))):=by
 intro pins s σ H xs us Q I r h;obtain⟨p,ys,rfl,hq,q⟩:=h;obtain⟨u,rfl,rx⟩:=a0e r;cases rx;have fin:∀ (cw:List ae),Vals ys cw->ys.length<=aJ->∀ (h':cj) (c':Nat),(∀ b o',s.heap.get? b=some o'->h'.get? b=some o') ->
   h'.get? s.heap.objs.size=some { cls:=.type "list",dict:=none,data:=.seq cw.toArray c',slots:=#[] }->EP X pins σ Q (.ref s.heap.objs.size) { s with heap:=h' }:=λcw r' hz h' c' kp e =>
  ⟨.ref s.heap.objs.size,_,I.laid (t':=s.toks) kp (az _) (show gu X.prog X.w _ h' _ (.lst ys) from ⟨hz,cw,c',r',e⟩),rfl,q _ (I.cZ.fresh (az _))⟩
 rcases hq with hq | hq
 ·obtain⟨cw,r',pl,hz⟩:=I.list hq;have hlen:=r'.length;obtain⟨o,ho,hc,n,hd⟩:=pl.isList;exact call_list_seq p (.inl rfl) ho hc hd (λh' c' kp e=>fin cw r' hz h' c' kp e) (by simp only [aV] <;> omega)
 ·obtain⟨cw,r',pl,hz⟩:=I.tuple hq;have hlen:=r'.length;obtain⟨o,ho,hc,n,hd⟩:=pl;exact call_list_seq p (.inr rfl) ho hc hd (λh' c' kp e=>fin cw r' hz h' c' kp e) (by simp only [aV] <;> omega)
def tyV (K:aj) (T:String) (x:V) (H:Hp):Prop:=match x with
 | .str _=>T = "str"
 | .int _=>T = "int"
 | .ref p=>(T = "list" /\ ∃ xs,bQ K H p xs)\/(T = "tuple" /\ ∃ o,K.lookup p=some o/\o.cls=.type "tuple" /\ o.dict=none) \/
   (T = "dict" /\ ((∃ fE,H p=some (.dK fE))\/∃ fE,H p=some (.dT fE)))\/(T = "set" /\ ∃ S n,H p=some (.set S n))
 | _=>False
theorem NK {pins:List (ak × dR)} {σ:St} {H:Hp} {s:ai} {T:String} {x:V} {v:ae} (I:Inv X pins σ H s) (r:RelV x v) (ty:tyV X.K T x H) :
  s.TypeIs v T/\∀ a,v=.ref a->∃ ob,s.heap.get? a=some ob/\ob.dict=none:=by
 cases x with
 | str z =>
  obtain⟨t,rfl⟩:=r;cases (show T = "str" from ty);exact⟨typeIs_str s z t,λ_ e=>nomatch e⟩
 | int i =>
  obtain⟨t,rfl⟩:=r;cases (show T = "int" from ty);exact⟨aak s i t,λ_ e=>nomatch e⟩
 | ref p =>
  cases r;rcases ty with ⟨rfl,xs,hq⟩ | ⟨rfl,o,hk,hc,hd⟩ | ⟨rfl,hk⟩ | ⟨rfl,S,n,hk⟩
  ·obtain⟨cw,_,pl,_⟩:=I.list hq;refine⟨pl.isList.typeIs,λa e=>?_⟩;cases e;obtain⟨o,n,e,c,hd,_⟩:=pl;exact⟨o,e,hd⟩
  ·refine⟨⟨o,I.v5 p o hk,hc⟩,λa e=>?_⟩;cases e;exact⟨o,I.v5 _ o hk,hd⟩
  ·have z:∃ o,s.heap.get? p=some o/\o.ExactDict:=by
    rcases hk with ⟨fE,hk⟩ | ⟨fE,hk⟩
    ·obtain⟨_,_,_,_,o,_,_,e,ex,_⟩:=I.cZ p _ hk;exact⟨o,e,ex⟩
    ·obtain⟨_,_,_,_,o,_,_,e,ex,_⟩:=I.cZ p _ hk;exact⟨o,e,ex⟩
   obtain⟨o,e,ex⟩:=z;refine⟨⟨o,e,ex.1⟩,λa e2=>?_⟩;cases e2;exact⟨o,e,ex.2.1⟩
  ·obtain⟨o,_,_,_,e,ex,_⟩:=I.cZ p _ hk;refine⟨⟨o,e,ex.1⟩,λa e2=>?_⟩;cases e2;exact⟨o,e,ex.2.1⟩
 | _=>exact fF ty
def afI (K:aj) (T:String) (r:V->List V->Hp->VK->Prop) (to:TE):TE:=λσ H Q=>to σ H λx H1=>tyV K T x H1/\r x [] H1 Q
def tBM (K:aj) (T:String) (r:V->List V->Hp->VK->Prop) (to:TE) (t:TA):TE:=λσ H Q=>to σ H λx H1=>tyV K T x H1/\t σ H1 λxs H2=>r x xs H2 Q
variable {o e:b6} {es:List b6} {to:TE} {t:TA} {name:bc} {apos qK:hW} {T id:String} {r:V->List V->Hp->VK->Prop}
theorem Vq (pa:PlainAttrs T) (slot:Slot T name id) (hty:typeOf (.builtin id)=pure (.type "method_descriptor")) (hm:MtR X id r) (ho:PE X o to)
  (Ln:qJ o name X.env (eO o X.env)=eO o X.env:=by rfl) (Lx:(apos.endLine == qK.line)=true:=by rfl):PE X (.Call (.Attribute o name apos) [] [] qK) (afI X.K T r to):=by
 intro pins s σ H Q I h;refine wpAny_Call_method0_late Ln Lx (eY (ho pins s σ H _ I h) λv s1 cW=>?_);obtain⟨x,H1,I1,r1,ty,q1⟩:=cW;obtain⟨h1,h2⟩:=NK I1 r1 ty;exact⟨T,id,pa,slot,hty,h1,h2,EN rfl (PySem.evalArgs_none (hm pins s1 σ H1 x [] v [] Q I1 r1 .nil q1))⟩
theorem lj (pa:PlainAttrs T) (slot:Slot T name id) (hty:typeOf (.builtin id)=pure (.type "method_descriptor")) (hm:MtR X id r) (ho:PE X o to) (ha:PA X (e::es) t)
  (Ln:qJ o name X.env (eO o X.env)=eO o X.env:=by rfl)
  (ads:((gx qK (bD (e::es) X.env)).all (λx=>!x.1) && (lY qK (ie [] X.env)).all (λx=>x.1.isSome)
   && decide ((e::es).length+([]:List aaH).length+(if ([]:List aaH).isEmpty then 0 else 1)<30))=true:=by rfl)
  (Lx:(apos.endLine == qK.line)=true:=by rfl) (hs:bD (e::es) X.env=(false,eO e X.env)::bD es X.env:=by rfl) (UC:(gx qK (bD es X.env)).any (·.1)=false:=by rfl) :
  PE X (.Call (.Attribute o name apos) (e::es) [] qK) (tBM X.K T r to t):=by
 intro pins s σ H Q I h;refine wpAny_Call_method_late Ln ads Lx rfl (eY (ho pins s σ H _ I h) λv s1 cW=>?_);obtain⟨x,H1,I1,r1,ty,q1⟩:=cW;obtain⟨h1,h2⟩:=NK I1 r1 ty;refine⟨T,id,pa,slot,hty,h1,h2,?_⟩;have hA:=ha qK pins s1 σ H1 _ I1 q1;rw[hs] at hA ⊢;refine EN (by show (false || (gx qK (bD es X.env)).any (·.1))=false;rw[UC] <;> rfl) (Ij ?_);refine eY hA λus s2 cW=>?_;obtain⟨vs,H2,I2,r2,q2⟩:=cW;exact hm pins s2 σ H2 x vs v us Q I2 r1 r2 q2
/- xs.append(e),list.index on a Y0 tuple .. are MtR facts of 06m -/
end
def MtM (X:Cx) (id:String) (r:V->List V->Hp->VK->Prop):Prop :=
 ∀ (pins:List (ak × dR)) (s:ai) (σ:St) (H:Hp) (x:V) (xs:List V) (v:ae) (us:List ae) (Q:VK),Inv X pins σ H s->RelV x v->Vals xs us->r x xs H Q ->
  wpAny (bn X.prog X.w) X.A (rF (.builtin id) (v::us)) (EP X pins σ Q) X.xe s
theorem Vals.one {x:V} {us:List ae} (h:Vals [x] us):∃ u,us=[u]/\RelV x u:=by
 cases h with
 | cons r e=>cases e;exact⟨_,rfl,r⟩
theorem Vals.two {x y:V} {us:List ae} (h:Vals [x,y] us):∃ u v,us=[u,v]/\RelV x u/\RelV y v:=by
 cases h with
 | cons r e =>
  obtain⟨v,e1,q⟩:=Vals.one e;subst e1;exact⟨_,_,rfl,r,q⟩
theorem Vals.zero:∀ {us:List ae},Vals [] us->us=[]
 | _,.nil=>rfl
theorem Vals.rep {xs:List V} {us:List ae} (h:Vals xs us):∀ k:Nat,Vals (aD k xs).flatten (aD k us).flatten
 | 0=>.nil
 | k+1=>by
  rw[fV,fV,gP,gP];exact Vals.append h (Vals.rep h k)
theorem a0t (cw:List ae):∀ (k:Nat) (acc:List ae),
  Cf (λx1 x2=>x1++x2) acc.toArray (aD k cw.toArray)=(acc++(aD k cw).flatten).toArray
 | 0,acc=>by simp
 | k + 1,acc=>by
  have e:acc.toArray++cw.toArray=(acc++cw).toArray:=by simp
  have e2:(acc++cw)++(aD k cw).flatten=acc++(aD (k+1) cw).flatten:=by
   rw[fV,gP,kS]
  rw[← e2,← a0t cw k (acc++cw),← e,fV,Te]
section
variable {X:Cx} {pins:List (ak × dR)} {σ:St} {H:Hp} {s:ai} {l b:ak} {xs ys zs:List V}
theorem Inv.U7 {cw its':List ae} {n:Nat} {f:Array ae->Array ae} {t':Nat} (I:Inv X pins σ H s) (hH:H l=some (.lst xs))
  (e:s.heap.get? l=some { cls:=.type "list",data:=.seq cw.toArray n }) (hf:f cw.toArray=its'.toArray) (hv:Vals ys its') (hz:ys.length<=aJ) :
  Inv X pins σ (upd H l (.lst ys)) { s with heap:=s.heap.update l (cF f),toks:=t' }:=by
 have q:=PySem.IsL.update e f;rw[hf] at q;refine I.write (x:=l) (e:=l) (by rw[hH];exact trivial) (.inl rfl) (λb' u hb hu=>(Gm s.heap (cF f) (dG hb)).trans hu) ⟨_,q⟩ ?_;exact⟨hz,its',_,hv,q⟩
theorem Inv.ae1 {cw:List ae} {t':Nat} (I:Inv X pins σ H s) (hv:Vals ys cw) (hz:ys.length<=aJ) :
  Inv X pins σ (upd H s.heap.objs.size (.lst ys)) { s with heap:=s.heap.push { cls:=.type "list",data:=.seq cw.toArray },toks:=t' } :=
 I.laid (λ_ _ q=>al _ q) (az _) ⟨hz,cw,0,hv,aQ _ rfl⟩
theorem Inv.fresh (I:Inv X pins σ H s):H s.heap.objs.size=none:=I.cZ.fresh (az _)
theorem Inv.L1 (I:Inv X pins σ H s) (hH:H l=some (.lst xs)):xs.length<=aJ/\∃ (cw:List ae) (n:Nat),Vals xs cw/\xs.length=cw.length/\s.heap.get? l=some { cls:=.type "list",data:=.seq cw.toArray n }:=by
 obtain⟨z,cw,n,r,e⟩:=I.cZ l _ hH;exact⟨z,cw,n,r,r.length,e⟩
theorem DM {n:Nat} (h:n<=aJ):jf n=false:=by
 unfold jf;exact decide_eq_false (by omega)
end
section
variable {X:Cx}
def QF:V->List V->Hp->VK->Prop:=λx vs H Q=>∃ l xs y,x=.ref l/\vs=[y]/\H l=some (.lst xs)/\xs.length<aJ/\Q .fj (upd H l (.lst (xs++[y])))
theorem eH:MtM X "list.append" QF:=by
 intro pins s σ H x vs v us Q I rx rv h;obtain⟨l,xs,y,rfl,rfl,hH,hz,q⟩:=h;cases rx;obtain⟨u,rfl,ru⟩:=rv.one;obtain⟨z,cw,n,r,hl,e⟩:=I.L1 hH;refine sO F.slot_list_append ⟨_,e,rfl⟩ F.entry_list_append (F.args_list_append_2 _ _) (PySem.list_append l cw.toArray n u (by rw[aV];omega)) ⟨e,?_⟩;refine⟨.fj,_,I.U7 (its':=cw++[u]) hH e (by simp) (r.append (.cons ru .nil)) ?_,rfl,q⟩;rw[aO,cC];omega
def QG:V->List V->Hp->VK->Prop:=λx vs H Q=>∃ l b xs zs,x=.ref l/\vs=[.ref b]/\H l=some (.lst xs)/\H b=some (.lst zs)/\xs.length+zs.length<=aJ/\Q .fj (upd H l (.lst (xs++zs)))
theorem Jo:MtM X "list.extend" QG:=by
 intro pins s σ H x vs v us Q I rx rv h;obtain⟨l,b,xs,zs,rfl,rfl,hH,hB,hz,q⟩:=h;cases rx;obtain⟨u,rfl,ru⟩:=rv.one;cases ru;obtain⟨z,cw,n,r,hl,e⟩:=I.L1 hH;obtain⟨z2,lH,n2,r2,o6,e2⟩:=I.L1 hB;have hsz:cw.toArray.size+lH.toArray.size<=aJ:=by rw[aV,aV];omega
 have Ly:¬ (!cw.toArray.isEmpty && jf (cw.toArray.size+lH.toArray.size))=true:=by
  rw[DM hsz,Bool.and_false];exact bg
 refine sO F.slot_list_extend ⟨_,e,rfl⟩ F.entry_list_extend (F.args_list_extend_2 _ _)
  (AutoSeq1.list_extend_list_list_0 l cw.toArray n b lH.toArray n2 Ly (by rw[aV];omega) (by omega)) ⟨e,e2,?_⟩
 refine⟨.fj,_,I.U7 (its':=cw++lH) hH e (by simp) (r.append r2) ?_,rfl,q⟩;rw[aO];omega
def Vz:V->List V->Hp->VK->Prop:=λx vs H Q=>∃ l xs,x=.ref l/\vs=[]/\H l=some (.lst xs)/\Q .fj (upd H l (.lst []))
theorem Md:MtM X "list.clear" Vz:=by
 intro pins s σ H x vs v us Q I rx rv h;obtain⟨l,xs,rfl,rfl,hH,q⟩:=h;cases rx;have hus:=rv.zero;subst hus;obtain⟨z,cw,n,r,hl,e⟩:=I.L1 hH;refine sO F.slot_list_clear ⟨_,e,rfl⟩ F.entry_list_clear (F.args_list_clear_1 _) (AutoSeq1.list_clear_list_0 l cw.toArray n (by rw[aV];omega)) ⟨e,?_⟩;exact⟨.fj,_,I.U7 (its':=[]) (ys:=[]) hH e rfl .nil (bv _),rfl,q⟩
def afm:R2:=λx y H Q=>∃ l k xs,x=.ref l/\y=.int k/\H l=some (.lst xs)/\-(2 ^ 63)<=k/\k<2 ^ 63/\xs.length*k.toNat<=aJ /\
 ∀ p,H p=none->Q (.ref p) (upd H p (.lst (aD k.toNat xs).flatten))
theorem a0E {α:Type} (xs:List α) (k:Nat):(aD k xs).flatten.length=k*xs.length:=by
 induction k with
 | zero=>simp
 | succ k ih=>rw[fV,gP,aO,ih,acm,wO]
theorem uR:ux X (rE .Mult) afm:=by
 intro pins s σ H x y v u Q I rx ry h;obtain⟨l,k,xs,rfl,rfl,hH,h1,h2,hz,q⟩:=h;cases rx;obtain⟨t,rfl⟩:=ry;obtain⟨z,cw,n,r,hl,e⟩:=I.L1 hH;have hlen:cw.toArray.size*k.toNat<=aJ:=by rw[aV,← hl];exact hz
 have adl:¬ cw.toArray.size*k.toNat > (2 ^ 63-1) / 8:=by
  have:(aJ:Nat)<=(2 ^ 63-1) / 8:=by decide
  omega
 have adu:¬ (!Builtin.List.listFitsIndex k)=true:=by
  rw[fitsIndex_both h1 h2];exact bg
 have Ly:¬ jf (cw.toArray.size*k.toNat)=true:=by
  rw[DM hlen];exact bg
 have Dq:Cf (λx1 x2=>x1++x2) #[] (aD (if cw.toArray.isEmpty=true then 0 else k.toNat) cw.toArray)=(aD k.toNat cw).flatten.toArray:=by
  have f0:∀ m:Nat,Cf (λx1 x2=>x1++x2) #[] (aD m cw.toArray)=(aD m cw).flatten.toArray:=λm=>by
   have:=a0t cw m [];rw[fO] at this;exact this
  rw[f0];cases cw with
  | nil=>simp
  | cons a r'=>rw[if_neg (by simp)]
 refine wpAny_binaryOp_repeat_ref (T := "list") (U := "int") (by decide) ⟨_,e,rfl⟩ (λs'=>aak s' k t) noFill_list_mul F.fills_int_mul aaE repeat_list F.slot_int_index.lookup
  (sO aaE (aak s k t) F.entry_int_rmul (F.args_int_rmul_2 _ _) (int___rmul___int_list k t l cw.toArray n)
   ⟨e,rfl,⟨_,e,rfl⟩,sO F.slot_list_mul ⟨_,e,rfl⟩ F.entry_list_mul (F.args_list_mul_2 _ _) (AutoListH.list___mul___list_int_3 l cw.toArray n k t adu adl Ly) ⟨e,?_⟩⟩)
 rw[Dq];exact⟨.ref _,_,I.ae1 (t':=s.toks) (r.rep k.toNat) (by rw[a0E,Nat.mul_comm];exact hz),rfl,q _ I.fresh⟩
end
section
variable {prog:aS} {w:bN} {A:bA} {E:ae->ai->Prop} {s:ai}
set_option maxRecDepth 100000 in
end
section
variable {X:Cx}
end
section
variable {κ:Type} [DecidableEq κ]
def vR (fE:List (κ × V)) (k:κ):Option V:=(fE.find? λkv=>decide (kv.1=k)).map (·.2)
def a0q (fE:List (κ × V)) (k:κ) (v:V):List (κ × V) :=
 if (fE.any λkv=>decide (kv.1=k))=true then fE.map (λkv=>if kv.1=k then (kv.1,v) else kv) else fE++[(k,v)]
theorem Eh {p:κ × V} {r:List (κ × V)} {k:κ} (e:p.1=k):vR (p::r) k=some p.2:=by simp[vR,gL,e]
theorem Eg {p:κ × V} {r:List (κ × V)} {k:κ} (e:¬ p.1=k):vR (p::r) k=vR r k:=by simp[vR,gL,e]
theorem DC (fE:List (κ × V)) (k:κ) (v:V):(a0q fE k v).length<=fE.length+1:=by
 unfold a0q;split
 ·rw[ag];omega
 ·rw[aO,bi,fM];omega
theorem KV.val {fE:List (κ × V)} {vs:List (κ × ae)} (r:KV fE vs) (k:κ):sK (vR fE k) (B9 vs k):=by
 unfold KV at r
 induction r with
 | nil=>exact kz
 | @cons p q ps qs h t ih =>
  obtain⟨h1,h2⟩:=h
  by_cases e:p.1=k
  ·have e':q.1=k:=h1.symm.trans e;have b:B9 (q::qs) k=some q.2:=by simp[B9,gL,e']
   rw[Eh e,b];exact h2
  ·have e':¬ q.1=k:=λz=>e (h1.trans z);have b:B9 (q::qs) k=B9 qs k:=by simp[B9,gL,e']
   rw[Eg e,b];exact ih
theorem KV.any {fE:List (κ × V)} {vs:List (κ × ae)} (r:KV fE vs) (k:κ):(fE.any λkv=>decide (kv.1=k))=vs.any λkv=>decide (kv.1=k):=by
 unfold KV at r
 induction r with
 | nil=>rfl
 | cons h t ih=>rw[uw,uw,ih,h.1]
theorem KV.afr {fE:List (κ × V)} {vs:List (κ × ae)} (r:KV fE vs) (k:κ) {y:V} {u:ae} (ry:RelV y u) :
  KV (fE.map λkv=>if kv.1=k then (kv.1,y) else kv) (vs.map λkv=>if kv.1=k then (kv.1,u) else kv):=by
 unfold KV at r ⊢
 induction r with
 | nil=>exact .nil
 | @cons p q ps qs h t ih =>
  rw[cG,cG];refine .cons ?_ ih;obtain⟨h1,h2⟩:=h
  by_cases e:p.1=k
  ·rw[if_pos e,if_pos (h1.symm.trans e)];exact⟨h1,ry⟩
  ·rw[if_neg e,if_neg (λz=>e (h1.trans z))];exact⟨h1,h2⟩
theorem KV.put {fE:List (κ × V)} {vs:List (κ × ae)} (r:KV fE vs) (k:κ) {y:V} {u:ae} (ry:RelV y u):KV (a0q fE k y) (stored vs k u):=by
 unfold a0q stored;rw[r.any k]
 by_cases e:(vs.any λkv=>decide (kv.1=k))=true
 ·rw[if_pos e,if_pos e];exact r.afr k ry
 ·rw[if_neg e,if_neg e];exact Paired.snoc r ⟨rfl,ry⟩
theorem KV.length {fE:List (κ × V)} {vs:List (κ × ae)} (r:KV fE vs):fE.length=vs.length:=Ch r
end
theorem LS {P:aS} {w:bN} {k:Key} {u:ae} (r:RelV (kV k) u):(gA P w).is k u=true:=by
 cases k with
 | inl i=>obtain⟨t,e⟩:=(show ∃ t,u=gK i t from r);subst e;exact DF P w i t
 | inr x=>obtain⟨t,e⟩:=(show ∃ t,u=wU x t from r);subst e;exact DG P w x t
theorem zN {P:aS} {w:bN}:∀ {ks:List Key} {us:List ae},Vals (ks.map kV) us->ItemsAre (gA P w) ks us
 | [],_,r=>by rw[vV] at r;cases r;exact .nil
 | k::ks,_,r=>by
  rw[cG] at r;cases r with
  | cons h t=>exact .cons (LS h) (zN t)
abbrev KT (H:Hp):List (List Key × V)->List (List Key × ak × ae)->Prop:=dE λp q=>p.1=q.1/\H q.2.1=some (.tup (p.1.map kV))/\RelV p.2 q.2.2
theorem KT.val {H:Hp} {fE:List (List Key × V)} {xs:List (List Key × ak × ae)} (r:KT H fE xs) (k:List Key):sK (vR fE k) ((TB xs k).map (·.2)):=by
 induction r with
 | nil=>exact kz
 | @cons p q ps qs h t ih =>
  obtain⟨h1,_,h2⟩:=h
  by_cases e:p.1=k
  ·have e':q.1=k:=h1.symm.trans e;have b:TB (q::qs) k=some q.2:=by simp[TB,gL,e']
   rw[Eh e,b];exact h2
  ·have e':¬ q.1=k:=λz=>e (h1.trans z);have b:TB (q::qs) k=TB qs k:=by simp[TB,gL,e']
   rw[Eg e,b];exact ih
section
variable {P:aS} {w:bN} {H:Hp} {h:cj} {a:ak}
theorem Sk {u:HO} (ok:pz P w H h) (e:Rd H a u):gu P w H h a u:=e.ok ok
theorem RN {fE:List (Key × V)} (ok:pz P w H h) (e:Rd H a (.dK fE)):fE.length<=aJ/\(a == o8)=false/\∃ vs,KV fE vs/\h.DictOf (gA P w) a vs :=
 show gu P w H h a (.dK fE) from Sk ok e
theorem LU {ks:List Key} (ok:pz P w H h) (e:H a=some (.tup (ks.map kV))):(OF (gA P w)).is h ks a:=by
 obtain⟨_,cw,r,o,h1,h2,n,h3⟩:=(show gu P w H h a (.tup (ks.map kV)) from ok a _ e)
 exact⟨o,cw.toArray,n,h1,h2,h3,by simpa using zN r⟩
theorem RO {fE:List (List Key × V)} (ok:pz P w H h) (e:Rd H a (.dT fE)):fE.length<=aJ/\(a == o8)=false /\
  ∃ xs,KT H fE xs/\h.DictOfH (OF (gA P w)) a xs:=by
 obtain⟨z,y,xs,r,o,es,ep,h1,h2,h3,h4,h5⟩:=(show gu P w H h a (.dT fE) from Sk ok e)
 refine⟨z,y,xs,r,o,es,ep,h1,h2,h3,h4,λx hx=>?_,h5⟩;have all:∀ {l:List (List Key × V)} {m:List (List Key × ak × ae)},KT H l m->∀ x∈m,(OF (gA P w)).is h x.1 x.2.1:=by
  intro l m q
  induction q with
  | nil=>intro x hx;exact nomatch hx
  | @cons p q ps qs hq t ih =>
   intro x hx;rcases aB.mp hx with e | hx
   ·subst e;exact LU ok (by rw[← hq.1];exact hq.2.1)
   ·exact ih x hx
 exact all r x hx
end
def EO (H:Hp) (a:ak) (y:V) (r:Option V):Prop :=
 (∃ fE k,Rd H a (.dK fE)/\y=kV k/\r=vR fE k)\/∃ fE k b,Rd H a (.dT fE)/\y=.ref b/\H b=some (.tup (k.map kV))/\r=vR fE k
theorem EO.k {H:Hp} {a:ak} {fE:List (Key × V)} {k:Key} (e:H a=some (.dK fE)):EO H a (kV k) (vR fE k):=.inl ⟨fE,k,.inl e,rfl,rfl⟩
section
variable {X:Cx} {pins:List (ak × dR)} {σ:St} {H:Hp} {s:ai} {a:ak} {y v:V} {u r:ae} {o:Option V} {A:bA} {E:ae->ai->Prop}
theorem Inv.big (I:Inv X pins σ H s):o8<s.heap.objs.size:=by
 have h:bf<s.heap.objs.size:=(I.mod.glob.keeps I.bk).lt;exact nv (by decide) h
theorem IM {Q:ae->ai->Prop} (hu:A.units+1<iD) (I:Inv X pins σ H s) (g:EO H a y (some v)) (ry:RelV y u) (h:∀ w' s',Inv X pins σ H s'->RelV v w'->Q w' s') :
  wpAny (bn X.prog X.w) A (Bn (.ref a) u) Q E s:=by
 rcases g with ⟨fE,k,e,ey,l⟩ | ⟨fE,k,b,e,ey,eb,l⟩
 ·subst ey;obtain⟨z,hd,vs,rel,dd⟩:=RN I.cZ e;obtain⟨w',hw,JE⟩:=sK.some_of (v:=v) (o:=B9 vs k) (by rw[l];exact rel.val k);exact wpAny_getItem_of (LS ry) dd.mapOf hw (h w' _ (I.tok _) JE)
 ·subst ey;cases (show u=bO b from ry);obtain⟨z,hd,xs,rel,dd⟩:=RO I.cZ e;obtain⟨w',hw,JE⟩:=sK.some_of (v:=v) (o:=(TB xs k).map (·.2)) (by rw[l];exact rel.val k);obtain⟨p,hp,LK⟩:=dP.mp hw;refine wpAny_getItem_heap (tupleKind_room_in1 hu) (LU I.cZ eb) dd hp ?_;rw[LK];exact h w' _ (I.tok _) JE
theorem TL {P:aS} {w:bN} {H':Hp} {h':cj} {fE:List (Key × V)} {vs:List (Key × ae)} (z:fE.length<=aJ) (hd:(a == o8)=false) (rel:KV fE vs) (dd:h'.DictOf (gA P w) a vs) :
  gu P w H' h' a (.dK fE):=⟨z,hd,vs,rel,dd⟩
end
section
variable {X:Cx} {pins:List (ak × dR)} {σ:St} {H:Hp} {s:ai} {a:ak} {fE:List (Key × V)} {k:Key} {u:ae} {A:bA} {E:ae->ai->Prop}
end
def W8 (i:b6):Prop:=∀ ov iv,EG i false ov iv=operate [ov,iv] (Bn ov iv)
theorem Q3 {prog:aS} {w:bN} {A:bA} {E:ae->ai->Prop} {s:ai} {env:qk} {value slice:b6} {pos:hW} {T id:String} {Q:ae->ai->Prop}
  (hl:aal (.type T) "__getitem__" = pure (some (.builtin id))) (hs:W8 slice)
  (h:wpAny (bn prog w) A (eO value env) (λo s₁=>wpAny (bn prog w) A (eO slice env) (λi s₂=>s₂.TypeIs o T/\wpAny (bn prog w) A (Bn o i) Q E s₂) E s₁) E s) :
  wpAny (bn prog w) A (eO (.Subscript value slice pos) env) Q E s:=by
 refine Xb (dc h (λo s₁ h₁=>dc h₁ (λi s₂ h₂=>?_) λ_ _ x=>x) λ_ _ x=>x);obtain⟨hT,h₂⟩:=h₂;unfold Nv;refine ah ?_;rw[getitemInPython_of_ne hT.not_modules];refine ah (wpAny_specialOf hT hl ?_);have fin:wpAny (bn prog w) A (EG slice false o i) (λr s₃=>wpAny (bn prog w) A (letTemporaryGo value o r >>= λ_=>pure r) Q E s₃) E s₂:=by
  rw[hs o i];exact wpAny_operating (dc h₂ (λr s₃ h₃=>ah (wpAny_letTemporaryGo (aH h₃))) λ_ _ x=>x)
 first
  | exact aH (ah fin)
  | exact ah (aH (ah fin))
  | exact ah fin
theorem De {X:Cx} {pins:List (ak × dR)} {σ:St} {H:Hp} {s:ai} {a:ak} {y:V} {o:Option V} (I:Inv X pins σ H s) (g:EO H a y o):s.TypeIs (.ref a) "dict" := by
 rcases g with ⟨fE,k,e,_,_⟩ | ⟨fE,k,b,e,_,_,_⟩
 ·obtain⟨_,_,vs,_,dd⟩:=RN I.cZ e;exact dd.typeIs
 ·obtain⟨_,_,xs,_,dd⟩:=RO I.cZ e;exact dd.typeIs
def Z4 (td ty:TE):TE:=λσ H Q=>td σ H λx H1=>ty σ H1 λy H2=>∃ a v,x=.ref a/\EO H2 a y (some v)/\Q v H2
section
variable {X:Cx} {o i e value:b6} {pos pos' ze:hW} {td ty tv:TE}
theorem Hf (hu:X.A.units+1<iD) (ho:PE X o td) (hi:PE X i ty) (hs:W8 i):PE X (.Subscript o i pos) (Z4 td ty):=by
 intro pins s σ H Q I h;refine Q3 PySem.F.slot_dict_getitem.lookup hs (eY (ho pins s σ H _ I h) λu s1 cW=>?_);obtain⟨x,H1,I1,rx,q1⟩:=cW;refine eY (hi pins s1 σ H1 _ I1 q1) λiv s2 Lz=>?_;obtain⟨y,H2,I2,ry,a,v,ex,g,q2⟩:=Lz;subst ex;obtain rfl:u=bO a:=rx;exact⟨De I2 g,IM hu I2 g ry λw' s3 I3 JE=>⟨v,H2,I3,JE,q2⟩⟩
end
section
variable {X:Cx} {pos:hW}
end
section
variable {X:Cx} {pins:List (ak × dR)} {σ:St} {H:Hp} {s:ai} {a:ak} {y d:V} {u r:ae} {o:Option V} {A:bA} {E:ae->ai->Prop}
end
section
variable {X:Cx} {o e f:b6} {apos qK:hW} {td ty tx:TE}
end
section
variable {X:Cx} {pins:List (ak × dR)} {σ:St} {H:Hp} {s:ai} {a:ak} {fE:List (Key × V)} {A:bA} {E:ae->ai->Prop}
end
section
variable {X:Cx} {pins:List (ak × dR)} {σ:St} {H:Hp} {s:ai} {a:ak} {y:V} {u:ae} {A:bA} {E:ae->ai->Prop}
end
end L2
namespace Att
open PySem PySem.W PySem.Calls PyProof.Rows
theorem vK {P:OX} {h:cj}:∀ (ns:List Int) (vs:List ae),WellAll P h vs (ns.map WData.int)->cL vs ns:=by
 intro ns
 induction ns with
 | nil =>
  intro vs w;rw[vV] at w;cases w;exact .nil
 | cons n ns ih =>
  intro vs w;rw[cG] at w;cases w with
  | cons a b =>
   cases a;exact .cons _ _ (ih _ b)
theorem JI {l:OpenLaw} {n:Nat} (hn:l.most=some n) {P:OX} {h:cj} {args:List WData} {vals:List ae}
  (Py:l.row.toRowW.claim.pre args=true) (uj:WellAll P h vals args) :
  ∃ a vs ns,vals=[bO a]/\args=[WData.list (ns.map WData.int)]/\h.get? a=some { cls:=.type "list",data:=.seq vs.toArray }/\cL vs ns/\ns.length<=n:=by
 have hsh:WShape.hasAll [] args [.list .int]=true:=(pre_splitW Py).1;have hc:l.pre.holds [] { args:=args }=true:=(pre_splitW Py).2;obtain⟨d,r,rfl,h1,h2⟩:=hasAllW_cons hsh;obtain rfl:=hasAllW_nil h2;obtain⟨xs,rfl,h3⟩:=hasW_list h1;obtain⟨ns,rfl⟩:=items_int h3;have hlen:ns.length<=n:=by
  unfold OpenLaw.pre at hc;have h4:(WTm.not (.lt (.lit (.int (n:Int))) (.len (.arg 0)))).holds [] { args:=[.list (ns.map .int)] }=true:=by
   have h4:=(holds_andW hc).1;rw[hn] at h4;exact h4
  have h5:=condW_of h4 (w_not (w_lt w_lit (w_len_list (w_arg rfl))));rw[ag] at h5;refine lU λq=>?_;have q':(n:Int)<((ns.length:Nat):Int):=by omega
  first
   | (rw[decide_eq_true q'] at h5;exact absurd h5 (by decide))
   | (simp at h5;omega)
 cases uj with
 | cons w1 w2 =>
  cases w2;cases w1 with
  | list ho adh=>exact⟨_,_,ns,rfl,rfl,ho,vK ns _ adh,hlen⟩
theorem Jz (l:OpenLaw) (args:List WData):l.row.toRowW.claim.post args (.bool true) args=true :=
 postW_of (r:=l.row.toRowW) (X:=(true == true))
  (show WShape.has [] (.bool true) .bool=true by first | rfl | decide | simp[WShape.has,WShape.arms,WShape.armsAll])
  (show (WTm.eq .res (.lit (.bool true))).value [] { args:=args,res:=some (.bool true),after:=args }=some (.bool (true == true)) from w_eq_bool (w_res rfl) w_lit) rfl
theorem C3 {l:OpenLaw} {n:Nat} {q:aS} {loose:List bc} {XP:(bc->Option ae)->cj->Prop} {YP:bN->cj->Prop} {d:DefRec}
  (hn:l.most=some n) (hdf:d.params.defaults=[])
  (rF:∀ (w:bN) (s₀ s₁:ai) (mg mb:bc->Option ae) (fa:ak) (o:dR) (pm cd doc:ae) (a:ak) (vs:List ae) (ns:List Int),
   Ground q loose [] XP w s₀ mg mb s₁.heap->YP w s₁.heap ->
   s₁.heap.get? fa=some o->o.data=.func (docDef d.name d.params d.body d.scope pm cd doc)->s₁.heap.CodeRec cd d.name->mg d.name=some (.ref fa) ->
   s₁.heap.get? a=some { cls:=.type "list",data:=.seq vs.toArray }->cL vs ns->ns.length<=n->s₁.gens=#[] ->
   codeAny (bn l.prog w) Bh (.call (.ref fa) ⟨[.ref a],[]⟩) (λr s'=>r=.ok (.ret (.bool true))/\OldK s₁.heap s'.heap/\s'.os=s₁.os/\qi s'.gens) s₁) :
  WalkO q loose XP YP l.row.toRowW d [] (λf vs=>acw f vs):=by
 intro w s₀ s₁ mg mb G Y fa o pm cd doc dV kV ho hd Ck hD Wz hg args vals as Py aj5 hrd uj hlo;obtain rfl:dV=.none:=Dflts.none hD hdf;obtain rfl:kV=.none:=Dflts.noKw hD;obtain⟨a,vs,ns,rfl,rfl,Uy,hints,hlen⟩:=JI hn Py uj;refine enter_call (lZ (rF w s₀ s₁ mg mb fa o pm cd doc a vs ns G Y ho (fd_plain hd) Ck Wz Uy hints hlen hg) λr s' hq=>?_);obtain⟨rfl,h2,h3,h4⟩:=hq;exact⟨.inl ⟨.bool true,.bool true,[],rfl,λ_=>rfl,.bool true,Jz l _,λ_=>⟨Ce,λ_ hm=>(nomatch hm)⟩⟩,h2,h3,h4⟩
section
variable {prog:aS} {w:bN} {A:bA} {E:ae->ai->Prop} {s:ai} {K:Frag}
end
end Att
namespace L2
open PySem PySem.Spec PyProof.Rows
theorem Al:∀ {vs:List ae} {ns:List Int},cL vs ns->Vals (ns.map V.int) vs
 | _,_,.nil=>.nil
 | _,_,.cons n t h=>.cons ⟨t,rfl⟩ (Al h)
end L2
/- THE aiR aaP (shape;LID,My.* are aic):
   My.Adr: a structure of V1 addresses alW al6 ahp names (classes,Wr);My.Txt K t: a structure (Prop) of V1 equations over K;
   My.V5:{K} {implicit addresses ..} (e1:nsIn K bf "law" = some (some (.ref f))) (e2:K.lookup f=some ⟨oc,od,.func (fnOf "law" "law" params body scope dV kV doc pm an di ct),sl⟩) (e3:codeIn K di "law" = true) ..:∃ t,My.Txt K t
set_option maxRecDepth 100000 in
set_option maxHeartbeats 0 in
theorem PySem.Challenge.cw_LID_holds : PySem.Challenge.rw_LID.Holds := by
 w_on;o_law;k_head;(case hw=>w_witness2)
 k_fill
 refine L2.ab5 (l:=PySem.Challenge.rw_LID) (n:=63) (k:=40) (x := "script") (CX:=λw=>..) (sp:=λ_=>My.afC) rfl (by decide) rfl ⟨rfl,by decide,by decide⟩ (λw h Y=>PySem.W.kIn_of Y) ?F ?S ?C
 case F =>
  intro w mg fa h KX G Wz;have T:∃ t,My.Txt (L2.KOf KX) t:=by
   dsimp only [L2.KOf]                          -- K ak2 ahU as «<heap const> w.params» for k_is;refine' My.V5 ?e1 ?e2 ?e3 ..
   (case e1=>PySem.W.k_is)                    -- in V1 order: a name -> cw address -> cw object -> cw parts
   (case e2=>PySem.W.k_is)
   ..
  obtain⟨t,T⟩:=T;have e0:=Wz.symm.trans (sd KX G T.law);cases e0                                       -- fa is V1 aho own address;exact⟨_,λs u=>.of_eq rfl,λbase kb nb=>My.U6 T kb nb⟩     -- if «.of_eq rfl» comes too early: refine' ⟨_,?b,λbase kb nb=>My.U6 T kb nb⟩;exact λs u=>.of_eq rfl
 case S=>exact λw H a ns hl hO hS=>..
 case C=>exact ..
(V1 tactic k_is has no namespace: write k_is) -/
namespace L2
open PySem PySem.Spec PyProof.Rows
def a0k (s:cK) (j:Nat):cK:=match s with
 | .ClassDef _ _ _ body _ _ _ _ _ _ _=>body.getD j (.Pass ⟨0,0,0,0⟩)
 | _=>.Pass ⟨0,0,0,0⟩
def jZ (s:cK):jr:=match s with
 | .FunctionDef _ a _ _ _ _ _ _ _ _=>a
 | _=>{ posonlyargs:=[],args:=[],vararg:=none,kwonlyargs:=[],kw_defaults:=[],kwarg:=none,defaults:=[] }
def fH (s:cK):List cK:=match s with
 | .FunctionDef _ _ b _ _ _ _ _ _ _=>b
 | _=>[]
def aG (s:cK):dv:=match s with
 | .FunctionDef _ _ _ _ _ _ sc _ _ _=>sc
 | _=>{ kind:=.function,names:=[],isGenerator:=false,isCoroutine:=false }
abbrev yq:Kt:=λ_ _ _ _ _ _=>False
abbrev E0:XK:=λ_ _ _=>False
theorem MB {X:Cx}:a0i yq X E0:=λ_ _ _ _ _ _ _ h=>h.elim
structure Gk (K:aj) (x qual:bc) (st:cK) (f:ak) (fd:fP):Prop where
 ex:∃ (oc:ae) (od:Option ak) (kV doc pm:ae) (an:Option ak) (di ct:ae) (OB:Array (Option ae)),
  fd=mz x qual (jZ st) (fH st) (aG st) .none kV doc pm an di ct/\K.lookup f=some ⟨oc,od,.func fd,OB⟩/\yz K di qual=true
 kp:i4 K (.ref f)=true
section
variable {P:aS} {w:bN} {K:aj} {mg:bc->Option ae} {base:cj}
theorem Gk.ok {x qual:bc} {st:cK} {f:ak} {fd:fP} {N ps:List bc} {k:Nat} {sp:Sp} (F:Gk K x qual st f fd) (S:bM N ps (aG st)) (len:∀ vs H Q E,sp vs H Q E->vs.length=ps.length)
  (mD:∀ (di:ae) (A:bA) (outer:List qk) (s:ai) (H:Hp) (vs:List V) (Q:VK) (E:XK),fG k (A.deeper (mV qual (aG st) s.heap.objs.size f di))->sp vs H Q E ->
   ∃ t,xZ (rG yq P w K mg base N qual (aG st) f di A outer s H E).Jp (fH st) t/\t { nx:=λ_ H'=>Q .fj H',rt:=Q } (start N vs) H):px P w K mg base yq (k+1) f fd ps sp:=by
 obtain⟨oc,od,kV,doc,pm,an,di,ct,OB,rfl,lk,Ck⟩:=F.ex;refine La lk Ck S len λA outer s H vs Q E hr EA=>?_;obtain⟨t,h,q⟩:=mD di A outer s H vs Q E hr EA;exact⟨t,h.Jp,q⟩
theorem Gk.binds {x qual:bc} {st:cK} {f:ak} {fd:fP} {ps:List bc} (F:Gk K x qual st f fd)
  (h:∀ (kV doc pm:ae) (an:Option ak) (di ct:ae) (us:List ae),us.length=ps.length->o5 (mz x qual (jZ st) (fH st) (aG st) .none kV doc pm an di ct) ⟨us,[]⟩=pure (ps.zip us)):Binds K fd ps []:=by
 obtain⟨oc,od,kV,doc,pm,an,di,ct,OB,rfl,lk,Ck⟩:=F.ex;exact .all (h kV doc pm an di ct)
theorem Ld {x qual:bc} {st:cK} {f:ak} {oc:ae} {od an:Option ak} {OB:Array (Option ae)} {kV doc pm di ct:ae} (l:K.lookup f=some ⟨oc,od,.func (mz x qual (jZ st) (fH st) (aG st) .none kV doc pm an di ct),OB⟩)
  (c:yz K di qual=true) (k:i4 K (.ref f)=true):Gk K x qual st f (mz x qual (jZ st) (fH st) (aG st) .none kV doc pm an di ct):=⟨⟨oc,od,kV,doc,pm,an,di,ct,OB,rfl,l,c⟩,k⟩
end
section
variable {X:Cx}
theorem pv (i:Nat) {x:bc} {pos:hW} (hN:X.N[i]?=some x:=by rfl) (hv:Vis X.env.scope x:=by first | exact aW rfl | exact oo (aW rfl) | exact oo (oo rfl)) (hd:(x == ("__debug__" : bc))=false:=by decide)
  (Ck:(x == ("__classdict__" : bc))=false:=by decide):PE X (.Name x pos) (aaf i):=Vu hN hv hd Ck
end
theorem fW {A B:Prop} (h:B):if false=true then A else B:=by
 rw[if_neg bg];exact h
theorem mF {A B:Prop} (h:A):if true=true then A else B:=by
 rw[if_pos rfl];exact h
theorem fB {c A B:Prop} [Decidable c] (h1:c->A) (h2:¬ c->B):if c then A else B:=by
 by_cases h:c
 ·rw[if_pos h];exact h1 h
 ·rw[if_neg h];exact h2 h
def bp (H H':Hp):Prop:=∀ b o,H b=some o->H' b=some o
theorem bp.refl (H:Hp):bp H H:=λ_ _ h=>h
theorem bp.trans {H H1 H2:Hp} (a:bp H H1) (b:bp H1 H2):bp H H2:=λc o h=>b c o (a c o h)
theorem bp.free {H H':Hp} (e:bp H H') {l:ak} (h:H' l=Gs):H l=Gs:=by
 cases q:H l with
 | none=>rfl
 | some o =>
  rw[e l o q] at h;cases h
theorem bp.seq {K:aj} {H H':Hp} {a:ak} {xs:List V} (e:bp H H') (h:bQ K H a xs):bQ K H' a xs:=by
 rcases h with (h | ⟨o,h⟩) | h
 ·exact .inl (.inl (e _ _ h))
 ·exact .inl (.inr ⟨o,e _ _ h⟩)
 ·exact .inr h
section
variable {κ:Type} [DecidableEq κ]
end
theorem xb {env:qk}:∀ (names:List (bc × iN)) (cs:List (bc × ak)),(∀ x∈names,x.2=.free->∃ c,env.cells.lookup x.1=some c)->(∀ x c,cs.lookup x=some c->env.cells.lookup x=some c) ->
  ∃ cl:List (bc × ak),(forIn names cs λx r=>if (x.snd == aZ)=true then (do let a ← cellOf env x.fst;pure (gi ((x.fst,a)::r)):Tr (ForInStep (List (bc × ak)))) else pure (gi r))=pure cl /\
   (∀ x c,cl.lookup x=some c->env.cells.lookup x=some c)/\∀ x,((x,aZ)∈names\/∃ c,cs.lookup x=some c)->∃ c,cl.lookup x=some c
 | [],cs,_,h2=>⟨cs,rfl,h2,λx hx=>hx.elim (λz=>nomatch z) id⟩
 | (n, k)::r,cs,h1,h2=>by
  rw[jT]
  by_cases hk:k=.free
  ·subst hk;obtain⟨c,hc⟩:=h1 (n,.free) aE rfl;obtain⟨cl,e,q1,q2⟩:=xb r ((n,c)::cs) (λx hx=>h1 x (aL _ hx)) (λx d hd=>by
    rw[bP] at hd;split at hd
    ·rename_i hx;cases hd;have:x=n:=by simpa using hx
     subst this;exact hc
    ·exact h2 x d hd)
   refine⟨cl,?_,q1,λx hx=>q2 x ?_⟩
   ·simp only [beq_self_eq_true,if_true];rw[show cellOf env n=pure c by unfold cellOf;rw[hc]];simp only [pure_bind];exact e
   ·rcases hx with hx | ⟨d,hd⟩
    ·rcases aB.mp hx with z | z
     ·cases z;exact .inr ⟨c,by rw[bP];simp⟩
     ·exact .inl z
    ·refine .inr ?_;rw[bP];split
     ·exact⟨_,rfl⟩
     ·exact⟨d,hd⟩
  ·obtain⟨cl,e,q1,q2⟩:=xb r cs (λx hx=>h1 x (aL _ hx)) h2;have hb:(k == aZ)=false:=by simpa using hk
   refine⟨cl,?_,q1,λx hx=>q2 x ?_⟩
   ·simp only [hb,iI,if_false,pure_bind];exact e
   ·rcases hx with hx | hx
    ·rcases aB.mp hx with z | z
     ·cases z;exact absurd rfl hk
     ·exact .inl z
    ·exact .inr hx
theorem vZ {env:qk} {scope:dv} (h:∀ x∈scope.names,x.2=.free->∃ c,env.cells.lookup x.1=some c) :
  ∃ cl:List (bc × ak),closureFor scope env=pure cl/\(∀ x c,cl.lookup x=some c->env.cells.lookup x=some c)/\∀ x,(x,aZ)∈scope.names->∃ c,cl.lookup x=some c:=by
 obtain⟨cl,e,q1,q2⟩:=xb scope.names [] h (λx c z=>by simp at z);refine⟨cl,?_,q1,λx hx=>q2 x (.inl hx)⟩;simp only [closureFor];rw[e];rfl
theorem zE {prog:aS} {w:bN} {A:bA} {R:yB->ai->Prop} {s:ai} {elt target iter:b6} {ifs:List b6} {scope:dv} {pos:hW} {it acc:ae} {env:qk} (I:Nat->ai->Prop)
  (turn : ∀ n s,I n s->wpAny (bn prog w) A (tJ it) (λr s₁=>match r with
   | none=>R (.ok .next) s₁
   | some v=>wpAny (bn prog w) A (uk target it v) (λ_ s₁'=>wpAny (bn prog w) A (yC target env v) (λ_ s₂ =>
     wpAny (bn prog w) A (forIn ifs true λc r=>if r=true then do let ok ← PV c env (eO c env);pure (gi ok) else pure (gi r)) (λok s₃ =>
      if ok=true then wpAny (bn prog w) A (eO elt env) (λx s₄ =>
       wpAny (bn prog w) A (rF (.builtin "list.append") [acc,x]) (λ_ s₅=>∃ m,m<n/\I m s₅) (λ_ _=>False) s₄) (λ_ _=>False) s₃
      else ∃ m,m<n/\I m s₃) (λ_ _=>False) s₂) (λ_ _=>False) s₁') (λ_ _=>False) s₁) (λ_ _=>False) s)
  (n:Nat) (h:I n s) :
  codeAny (bn prog w) A (.compLoop (.ListComp elt [⟨target,iter,ifs,0⟩] scope pos) 0 it acc env) R s:=by
 refine codeAny_loop rfl I (λn s hI=>?_) n h;show wpAny _ A ((compTurn (.ListComp elt [⟨target,iter,ifs,0⟩] scope pos) 0 it acc env).onRaise (λx=>do noteFrame x env;theTreesLotGoes x)) _ _ s;refine wpAny_noted ?_;rw[compTurn_list];refine ah (yi (ah (dc (turn n s hI) (λr s₁ h₁=>?_) λ_ _ h'=>h'.elim)));cases r with
 | none=>exact aH h₁
 | some v =>
  refine ah (dc h₁ (λ_ s₁' h₁'=>?_) λ_ _ h'=>h'.elim);refine ah (dc h₁' (λ_ s₂ h₂=>ah (dc h₂ (λok s₃ h₃=>?_) λ_ _ h'=>h'.elim)) λ_ _ h'=>h'.elim);cases ok with
  | false=>exact aH ⟨rfl,h₃⟩
  | true =>
   exact ah (ah (dc h₃ (λx s₄ h₄=>ah (dc h₄ (λ_ s₅ h₅=>aH (aH ⟨rfl,h₅⟩)) λ_ _ h'=>h'.elim)) λ_ _ h'=>h'.elim))
abbrev gG (X:Cx) (scope:dv) (N:List bc) (cl:List (bc × ak)) (C:ak) (s:ai) (H:Hp) (ex:List ak) (pn:List (ak × dR)):Cx where
 prog:=X.prog
 w:=X.w
 K:=X.K
 mg:=X.mg
 base:=X.base
 A:=X.A
 N:=N
 s₀:=s
 H₀:=H
 env:=IK scope cl C X.env
 outer:=X.stack
 stack:=X.stack
 ex:=ex
 calm:=X.calm
 fn:=λ_=>false
 pn:=pn
 xe:=λ_ _=>False
def Iu (X:Cx) (ifs:List b6) (t:TT):Prop :=
 ∀ (pins:List (ak × dR)) (s:ai) (σ:St) (H:Hp) (Q:Bool->Hp->Prop),Inv X pins σ H s->t σ H Q ->
  wpAny (bn X.prog X.w) X.A (forIn ifs true λc r=>if r=true then do let ok ← PV c X.env (eO c X.env);pure (gi ok) else pure (gi r)) (TP X pins σ Q) X.xe s
def VU:TT:=λ_ H Q=>Q true H
theorem iM {X:Cx}:Iu X [] VU:=λ_ _ _ H _ I h=>wpAny_tests_nil ⟨H,I,h⟩
theorem ng {X:Cx} {c:b6} {t:TT} (h:PT X c t):Iu X [c] t:=λpins s σ H Q I hq=>wpAny_tests_one (h pins s σ H Q I hq)
abbrev CW:=V->Hp->(List V->Prop)->Prop
def Cg (X:Cx) (k:Nat) (tg:b6) (tt:CW):Prop :=
 ∀ (pins:List (ak × dR)) (s:ai) (σ:St) (H:Hp) (v:V) (u:ae) (Q:List V->Prop),Inv X pins σ H s->k<=σ.length->RelV v u->tt v H Q ->
  wpAny (bn X.prog X.w) X.A (yC tg X.env u) (λ_ s'=>∃ ws,ws.length=k/\Q ws/\Inv X pins (ws.map some++σ.drop k) H s') X.xe s
def NI:CW:=λv _ Q=>Q [v]
theorem gB {X:Cx} {x:bc} {pos:hW} (hN:X.N.Nodup) (hi:X.N[0]?=some x) (hx:X.env.scope.names.lookup x=some .local):Cg X 1 (.Name x pos) NI:=by
 intro pins s σ H v u Q I hl r h;refine Ca (tT I hN hi (.inl hx) r (λs' I'=>⟨[v],rfl,h,?_⟩) (.inr hx));cases σ with
 | nil=>simp at hl
 | cons a t=>exact I'
def xT (K:aj) (n:Nat):CW:=λv H Q=>∃ a xs,v=.ref a/\eU K H a xs/\xs.length=n/\Q xs
theorem QW {α:Type} (a b:α):∀ (σ:List α),2<=σ.length->(σ.set 0 a).set 1 b=[a,b]++σ.drop 2
 | _::_::_,_=>rfl
theorem Ae {α:Type} (a b c:α):∀ (σ:List α),3<=σ.length->((σ.set 0 a).set 1 b).set 2 c=[a,b,c]++σ.drop 3
 | _::_::_::_,_=>rfl
theorem P3 {α:Type}:∀ (xs:List α),xs.length=2->∃ a b,xs=[a,b]
 | [a,b],_=>⟨a,b,rfl⟩
theorem zT {α:Type}:∀ (xs:List α),xs.length=3->∃ a b c,xs=[a,b,c]
 | [a,b,c],_=>⟨a,b,c,rfl⟩
theorem MO {X:Cx} {x y:bc} {p1 p2 pos:hW} {k:Nat} (hc:X.calm=true) (hN:X.N.Nodup) (h0:X.N[0]?=some x) (h1:X.N[1]?=some y) (hx:X.env.scope.names.lookup x=some .local) (hy:X.env.scope.names.lookup y=some .local) :
  Cg X 2 (.Tuple [.Name x p1,.Name y p2] k pos) (xT X.K 2):=by
 have g:PG X (.Tuple [.Name x p1,.Name y p2] k pos) (Fj X.K 2 (iy (eW 0) (iy (eW 1) yE))):=by
  have a1:PG X (.Name x p1) (eW 0):=bZ hN h0 (.inl hx) (.inr hx);have a2:PG X (.Name y p2) (eW 1):=bZ hN h1 (.inl hy) (.inr hy);have a3:Tj X [.Name x p1,.Name y p2] (iy (eW 0) (iy (eW 1) yE)):=cH a1 (cH a2 iL);exact j7 hc a3
 intro pins s σ H v u Q I hl r h;obtain⟨a,xs,rfl,hq,hlen,q⟩:=h;obtain⟨x0,x1,e⟩:=P3 xs hlen;subst e;have w:Fj X.K 2 (iy (eW 0) (iy (eW 1) yE)) (.ref a) σ H (λσ' H'=>σ'=(σ.set 0 (some x0)).set 1 (some x1)/\H'=H):=⟨a,[x0,x1],rfl,hq,rfl,x0,[x1],rfl,x1,[],rfl,rfl,rfl,rfl⟩
 refine eY (g pins s σ H _ _ _ I r w) ?_;intro _ s' z;obtain⟨σ',H',I',e1,e2⟩:=z;subst e2;rw[QW _ _ _ hl] at e1;subst e1;exact⟨[x0,x1],rfl,q,I'⟩
theorem MP {X:Cx} {x y z:bc} {p1 p2 p3 pos:hW} {k:Nat} (hc:X.calm=true) (hN:X.N.Nodup) (h0:X.N[0]?=some x) (h1:X.N[1]?=some y) (h2:X.N[2]?=some z) (hx:X.env.scope.names.lookup x=some .local) (hy:X.env.scope.names.lookup y=some .local)
  (hz:X.env.scope.names.lookup z=some .local):Cg X 3 (.Tuple [.Name x p1,.Name y p2,.Name z p3] k pos) (xT X.K 3):=by
 have g:PG X (.Tuple [.Name x p1,.Name y p2,.Name z p3] k pos) (Fj X.K 3 (iy (eW 0) (iy (eW 1) (iy (eW 2) yE)))):=by
  have a1:PG X (.Name x p1) (eW 0):=bZ hN h0 (.inl hx) (.inr hx);have a2:PG X (.Name y p2) (eW 1):=bZ hN h1 (.inl hy) (.inr hy);have a4:PG X (.Name z p3) (eW 2):=bZ hN h2 (.inl hz) (.inr hz);have a3:Tj X [.Name x p1,.Name y p2,.Name z p3] (iy (eW 0) (iy (eW 1) (iy (eW 2) yE))):=cH a1 (cH a2 (cH a4 iL));exact j7 hc a3
 intro pins s σ H v u Q I hl r h;obtain⟨a,xs,rfl,hq,hlen,q⟩:=h;obtain⟨x0,x1,x2,e⟩:=zT xs hlen;subst e;have w:Fj X.K 3 (iy (eW 0) (iy (eW 1) (iy (eW 2) yE))) (.ref a) σ H (λσ' H'=>σ'=((σ.set 0 (some x0)).set 1 (some x1)).set 2 (some x2)/\H'=H):=⟨a,[x0,x1,x2],rfl,hq,rfl,x0,[x1,x2],rfl,x1,[x2],rfl,x2,[],rfl,rfl,rfl,rfl⟩
 refine eY (g pins s σ H _ _ _ I r w) ?_;intro _ s' z;obtain⟨σ',H',I',e1,e2⟩:=z;subst e2;rw[Ae _ _ _ _ hl] at e1;subst e1;exact⟨[x0,x1,x2],rfl,q,I'⟩
theorem pz.adopt {P:aS} {w:bN} {H:Hp} {h:cj} {a:ak} {o:HO} (x:pz P w H h) (hn:H a=none) (new:gu P w (upd H a o) h a o):pz P w (upd H a o) h:=λb u e=>by
 by_cases hb:b=a
 ·subst hb;rw[au] at e;cases e;exact new
 ·rw[bK hb] at e;exact (x b u e).B4 (λc v _ q=>q) (λc q=>by rw[bK (cQ q hn)];exact q) λc xs q=>by rw[bK (cQ q hn)];exact q
theorem l7 {env:qk} {x:bc}:∀ {names:List (bc × iN)},names.lookup x=some .free ->
  (names.map λ(n,k)=>if (k == aZ && env.scope.kind == .function && env.kindOf n == some .cell) then (n,bG) else (n,k)).lookup x=some .cell \/
  (names.map λ(n,k)=>if (k == aZ && env.scope.kind == .function && env.kindOf n == some .cell) then (n,bG) else (n,k)).lookup x=some .free
 | [],h=>by simp at h
 | (n,k)::r,h=>by
  have ih:=@l7 env x r;show (eC x ((if (k == aZ && env.scope.kind == .function && env.kindOf n == some .cell)=true then (n,bG) else (n,k))::_)=_)\/(eC x ((if (k == aZ && env.scope.kind == .function && env.kindOf n == some .cell)=true then (n,bG) else (n,k))::_)=_);cases hx:x == n with
  | true =>
   simp only [bP,hx] at h;cases h;split
   ·left;simp[bP,hx]
   ·right;simp[bP,hx]
  | false =>
   simp only [bP,hx] at h;split
   ·simp only [bP,hx];exact ih h
   ·simp only [bP,hx];exact ih h
theorem oP {env:qk} {x:bc}:∀ {names:List (bc × iN)},(∀ y∈names,y.2≠.cell) ->
  ((names.map λ(n,k)=>if (k == aZ && env.scope.kind == .function && env.kindOf n == some .cell) then (n,bG) else (n,k)).lookup x=some .cell \/
  (names.map λ(n,k)=>if (k == aZ && env.scope.kind == .function && env.kindOf n == some .cell) then (n,bG) else (n,k)).lookup x=some .free)->(x,aZ)∈names
 | [],_,h=>by simp at h
 | (n, k)::r,hc,h=>by
  have ih:=@oP env x r (λy hy=>hc y (aL _ hy));have hk:k≠.cell:=hc (n,k) aE;have h':(eC x ((if (k == aZ && env.scope.kind == .function && env.kindOf n == some .cell)=true then (n,bG) else (n,k))::_)=_)\/(eC x ((if (k == aZ && env.scope.kind == .function && env.kindOf n == some .cell)=true then (n,bG) else (n,k))::_)=_):=h;cases hx:x == n with
  | true =>
   have e:x=n:=by simpa using hx
   subst e
   by_cases Ez:(k == aZ && env.scope.kind == .function && env.kindOf x == some .cell)=true
   ·have:k=.free:=by
     have:=(gO.mp (gO.mp Ez).1).1;simpa using this
    subst this;exact aE
   ·rw[if_neg Ez] at h';simp only [bP,hx] at h';rcases h' with h' | h'
    ·exact absurd (ck h') hk
    ·cases h';exact aE
  | false =>
   refine aL _ (ih ?_);split at h' <;> (simp only [bP,hx] at h';exact h')
structure pf (scope pe:dv) (N PN:List bc) (k:Nat) (cap:List Nat):Prop where
 kind:scope.kind=.function
 len:N.length=k+cap.length
 cell:∀ y∈scope.names,y.2≠.cell
 loc:∀ y∈scope.names,y.2=.local->scope.names.lookup y.1=some .local
 free:∀ y∈scope.names,y.2=.free->pe.names.lookup y.1=some .cell\/pe.names.lookup y.1=some .free
 cap:∀ j∈br cap.length,∃ x i,N[k+j]?=some x/\cap[j]?=some i/\PN[i]?=some x/\scope.names.lookup x=some .free
 RT:∀ y∈scope.names,y.2=.free->scope.names.lookup y.1=some .free
def ix (σ:St) (cap:List Nat):St:=cap.map λj=>(σ[j]?).join
def tU (wi:TI) (tt:CW) (tc:TT) (te:TE) (cap:List Nat):TE:=λσ H Q=>wi σ H λJ H1 =>
 ∃ W : Nat->Nat->List V->Hp->Prop,(∃ m,W 0 m [] H1)/\∀ i m ys H2,W i m ys H2 ->
  (J.stop i H2/\ys.length<=aJ/\∀ p,H2 p=none->Q (.ref p) (upd H2 p (.lst ys))) \/
  (J.go i H2/\∃ N:List V->Hp->Prop,(∀ Cu H',N Cu H'->Cu.length<=aJ/\∃ m',m'<m/\W (i+1) m' Cu H') /\
   ∀ x H3,J.Eo i H2 x H3->tt x H3 λws=>tc (ws.map some++ix σ cap) H3 λb H4 =>
    if b=true then te (ws.map some++ix σ cap) H4 λy H5=>N (ys++[y]) H5 else N ys H4)
structure Blk (X:Cx) (pins:List (ak × dR)) (H:Hp) (s:ai) (C:ak):Prop where
 ns:∃ m,s.heap.Ns C m
 un:H C=none
 ne:C≠X.env.locals
 new:X.s₀.heap.objs.size<=C
 cells:∀ x c,X.env.cells.lookup x=some c->c≠C
 pins:∀ p∈X.pn++pins,p.1≠C
theorem Blk.turn {X:Cx} {pins:List (ak × dR)} {H:Hp} {σ:St} {s:ai} {C:ak} {h':cj} (B:Blk X pins H s C) (I:Inv X pins σ H s) (hs:jz C s.heap h'):Inv X pins σ H { s with heap:=h' } :=
 I.turned (t':=s.toks) (λb o hb e=>hs.extBut b o hb e) B.un B.ne (.inr B.new) B.cells B.pins
theorem Fh {X:Cx} {pins:List (ak × dR)} {σ:St} {H:Hp} {s:ai} {scope:dv} {N:List bc} {k:Nat} {cap:List Nat} {cl:List (bc × ak)} {h₁:cj} {fp:List ak} {tk:Nat} (I:Inv X pins σ H s) (S:pf scope X.env.scope N X.N k cap)
  (mE:∀ x c,cl.lookup x=some c->X.env.cells.lookup x=some c) (rM:∀ x,(x,aZ)∈scope.names->∃ c,cl.lookup x=some c)
  (hf:∀ b∈fp,mv X pins H b) (ho:∀ b∈fp,∃ o,s.heap.get? b=some o)
  {m:bc->Option ae} (yd:h₁.Ns (s.heap.objs.size+1) m)
  (Cn:∀ b o,(s.heap.push { cls:=.type "list",data:=.seq #[] }).get? b=some o->h₁.get? b=some o) :
  Inv (gG X scope N cl (s.heap.objs.size+1) { s with heap:=s.heap.push { cls:=.type "list",data:=.seq #[] } } H (s.heap.objs.size::fp) (X.pn++pins))
   [(s.heap.objs.size,{ cls:=.type "list",data:=.seq #[] })] (aD k none++ix σ cap) H { s with heap:=h₁,toks:=tk }:=by
 have Ik:Inv X pins σ H { s with heap:=s.heap.push { cls:=.type "list",data:=.seq #[] } }:=I.kept (t':=s.toks) λb o e=>al _ e;have hold:∀ b o,s.heap.get? b=some o->h₁.get? b=some o:=λb o e=>Cn b o (al _ e);have YX:∀ {b o},s.heap.get? b=some o->b<s.heap.objs.size:=λe=>aF e;have Af:(s.heap.push { cls:=.type "list",data:=.seq #[] }).objs.size=s.heap.objs.size+1:=cR ..;have nD:H s.heap.objs.size=none:=I.fresh;have nC:H (s.heap.objs.size+1)=none:=I.cZ.fresh (gU _);have kK:∀ x c,X.env.cells.lookup x=some c->c<s.heap.objs.size:=λx c e=>by
  obtain⟨v,q⟩:=I.cell x c e;exact q.lt
 have mS:∀ b,b≠X.env.locals->b ∉ X.fs->b ∉ rK X.stack:=λb h1 h2 hb=>(aB.mp (I.rT b hb)).elim h1 h2;have uH:∀ b∈fp,b<s.heap.objs.size:=λb hb=>by obtain⟨o,e⟩:=ho b hb;exact aF e
 have Ua:∀ {x:bc},scope.names.lookup x=some .free->(x,aZ)∈scope.names:=λe=>dU e;refine⟨⟨I.ok.mod,S.kind,I.ok.glob,I.ok.blt,?_,λx y c h1 h2=>I.ok.inj x y c (mE x c h1) (mE y c h2),λx hx=>rM x (oP S.cell hx),λx c z=>(by cases z),I.ok.hd,I.ok.frames,.inl rfl,?_,?_,?_,?_,?_,Ik.stack,I.wv⟩,
  rfl,I.bare,Un.kept Cn,?_,?_,nC,λx c e=>I.nW x c (mE x c e),?_,I.cZ.kept hold,?_⟩
 ·exact wP Af
 ·intro b hb;rcases aB.mp hb with rfl | hb
  ·exact⟨aK (cJ _),λx c e=>aK (kK x c (mE x c e))⟩
  ·exact⟨aK (cn (uH b hb)),λx c e=>(hf b hb).2.2.2.2.1 x c (mE x c e)⟩
 ·intro b o e;obtain⟨e1,e2⟩:=I.bs b o e;exact⟨al _ e1,e2⟩
 ·show X.base.objs.size<=(s.heap.push _).objs.size;rw[Af];exact jh (b7 I.ok.KU I.sz)
 ·intro b o e hb;obtain⟨e1,e2⟩:=I.bs b o e;rcases aB.mp hb with rfl | hb
  ·exact absurd (YX e1) (fA _)
  ·rcases (hf b hb).2.2.2.1 with z | z
   ·exact I.ok.nH b o e z
   ·exact absurd (b8 (aF (I.ok.bs b o e).1) z) (fA _)
 ·intro b hb;rcases aB.mp hb with rfl | hb
  ·exact mS _ (bC I.lt) (I.FI (az _))
  ·exact mS b (hf b hb).2.1 (hf b hb).2.2.1
 ·refine⟨m,yd,λi x v h1 h2 h3=>?_⟩;have Ps:k<=i:=by
   refine lU λiz=>?_;rw[bW (by simpa using iz),er] at h2;split at h2 <;> cases h2
  obtain⟨j,rfl⟩:=Gq Ps;rw[bU (by simp),dX,Gp] at h2;have hj:j<cap.length:=by
   have:=(af.mp h2).1;simpa [ix] using this
  obtain⟨x',i,e1,e2,e3,e4⟩:=S.cap j (d8.mpr hj);rw[show N[k+j]?=some x from h1] at e1;cases e1;have Ey:σ[i]?=some (some v):=by
   unfold ix at h2;rw[aI,e2] at h2;have Ey:(σ[i]?).join=some v:=ck h2;cases q:σ[i]? with
   | none=>rw[q] at Ey;cases Ey
   | some z=>rw[q] at Ey;exact congrArg some Ey
  have XQ:=Ua e4;have pk:=S.free _ XQ rfl;obtain⟨m0,_,hl⟩:=I.loc;obtain⟨u,r,lk⟩:=hl i x v e3 Ey (pk.elim (λz=>.inr (.inl z)) λz=>.inr (.inr z));refine⟨u,r,?_⟩;rcases lk with ⟨kl,_⟩ | ⟨_,c,e,ic⟩
  ·rcases pk with z | z
   ·have:X.env.scope.names.lookup x=some .local:=kl;rw[z] at this;cases this
   ·have:X.env.scope.names.lookup x=some .local:=kl;rw[z] at this;cases this
  ·obtain⟨c',ec⟩:=rM x XQ;have:=mE x c' ec;rw[e] at this;cases this;refine .inr ⟨?_,c,ec,?_⟩
   ·exact l7 e4
   ·obtain⟨ob,h3,h4⟩:=ic;exact⟨ob,hold _ _ h3,h4⟩
 ·intro x c e;obtain⟨v,ob,h3,h4⟩:=I.cell x c (mE x c e);exact⟨v,ob,hold _ _ h3,h4⟩
 ·intro p hp;rcases bj.mp hp with hp | hp
  ·obtain⟨e,n,ne,nf,d⟩:=I.pin p hp;exact⟨hold _ _ e,n,aK (cn (YX e)),mS _ ne nf,d⟩
  ·have:p=(s.heap.objs.size,{ cls:=.type "list",data:=.seq #[] }):=by simpa using hp
   subst this;refine⟨Cn _ _ (aQ _ rfl),nD,aK (cJ _),mS _ (bC I.lt) (I.FI (az _)),λv z=>by cases z⟩
 ·show _=N.length;rw[S.len];simp[ix]
theorem zD {X:Cx} {elt tg iter:b6} {ifs:List b6} {scope:dv} {pos:hW} {N:List bc} {k:Nat} {cap:List Nat} {wi:TI} {tt:CW} {tc:TT} {te:TE} {cl:List (bc × ak)}
  (hc:X.calm=true) (hi:PI X tg iter wi) (hg:∀ cl C s H ex pn,Cg (gG X scope N cl C s H ex pn) k tg tt) (ht:∀ cl C s H ex pn,Iu (gG X scope N cl C s H ex pn) ifs tc)
  (he:∀ cl C s H ex pn,PE (gG X scope N cl C s H ex pn) elt te) (S:pf scope X.env.scope N X.N k cap)
  (mE:∀ x c,cl.lookup x=some c->X.env.cells.lookup x=some c) (rM:∀ x,(x,aZ)∈scope.names->∃ c,cl.lookup x=some c)
  {pins:List (ak × dR)} {s:ai} {σ:St} {H:Hp} {Q:VK} (I:Inv X pins σ H s) (h:tU wi tt tc te cap σ H Q) {RR:ae->ak->yB->ai->Prop}
  (hRR:∀ D C s1 H',Inv X pins σ H' s1->Blk X pins H' s1 C->Q (.ref D) H'->RR (.ref D) C (.ok .next) s1) :
  wpAny (bn X.prog X.w) X.A (eO iter X.env) (λx s₁=>wpAny (bn X.prog X.w) X.A (QE x) (λit s₂=>wpAny (bn X.prog X.w) X.A (newList []) (λacc s₃ =>
   wpAny (bn X.prog X.w) X.A (vL scope X.env.globals cl [] X.env.qual none .none (some X.env)) (λKY s₄ =>
    codeAny (bn X.prog X.w) X.A (.compStart (.ListComp elt [⟨tg,iter,ifs,0⟩] scope pos) 0 it acc { KY with scope:=QL scope X.env }) (RR acc KY.locals) s₄) X.xe s₃) X.xe s₂) X.xe s₁) X.xe s:=by
 refine eY (hi pins s σ H _ I h) λv s1 h1=>eY h1 λitv s2 h2=>?_;obtain⟨it,fp,tn,J,H2,e,I2,T,HM,f2,W,⟨m0,w0⟩,turn⟩:=h2;subst e;refine ab7 (V9 S.cell (by intro y hy;simp at hy) (λh₁ Fq Pz=>?_) S.kind);dsimp only at Fq Pz ⊢;have hP:s2.heap.push { cls:=.type "list",dict:=none,data:=.seq ([]:List ae).toArray }=s2.heap.push { cls:=.type "list",data:=.seq #[] }:=rfl;rw[hP] at Fq Pz ⊢;have hC:(s2.heap.push { cls:=.type "list",data:=.seq #[] }).objs.size=s2.heap.objs.size+1:=cR ..;rw[hC] at Fq Pz ⊢;have Cn:∀ b o,(s2.heap.push { cls:=.type "list",data:=.seq #[] }).get? b=some o->h₁.get? b=some o:=λb o e =>
  Pz.extBut b o (by have:=aF e;rw[hC] at this;exact aK this) (al _ e)
 have Yg:∀ b∈fp,∃ o,s2.heap.get? b=some o:=λb hb=>by obtain⟨o,e,_⟩:=T.obj _ _ HM b hb;exact⟨o,e⟩
 have IY:=Fh (N:=N) (k:=k) (cap:=cap) (tk:=s2.toks+([]:List (bc × ae)).length) I2 S mE rM f2 Yg Fq Cn;generalize hY:gG X scope N cl (s2.heap.objs.size+1) { s2 with heap:=s2.heap.push { cls:=.type "list",data:=.seq #[] } } H2 (s2.heap.objs.size::fp) (X.pn++pins)=Y at IY;have yp:Y.prog=X.prog:=by rw[← hY]
 have yw:Y.w=X.w:=by rw[← hY]
 have yK:Y.K=X.K:=by rw[← hY]
 have yA:Y.A=X.A:=by rw[← hY]
 have yc:Y.calm=true:=by rw[← hY];exact hc
 have yl:Y.env.locals=s2.heap.objs.size+1:=by rw[← hY];rfl
 have Gf:Y.env=IK scope cl (s2.heap.objs.size+1) X.env:=by rw[← hY]
 have Wb:Y.ex=s2.heap.objs.size::fp:=by rw[← hY]
 have Wc:Y.fs=rK X.stack:=by rw[← hY]
 have ypn:Y.pn=X.pn++pins:=by rw[← hY]
 have ycl:Y.env.cells=cl:=by rw[← hY];rfl
 have Wd:Y.xe=λ_ _=>False:=by rw[← hY]
 have gT:Cg Y k tg tt:=by rw[← hY];exact hg _ _ _ _ _ _
 have gC:Iu Y ifs tc:=by rw[← hY];exact ht _ _ _ _ _ _
 have gE:PE Y elt te:=by rw[← hY];exact he _ _ _ _ _ _
 have yH:Y.H₀=H2:=by rw[← hY]
 have ys0:Y.s₀={ s2 with heap:=s2.heap.push { cls:=.type "list",data:=.seq #[] } }:=by rw[← hY]
 have uH:∀ b∈fp,b<s2.heap.objs.size:=λb hb=>by obtain⟨o,e⟩:=Yg b hb;exact aF e
 have xH:∀ p∈X.pn++pins,p.1<s2.heap.objs.size:=λp hp=>aF (I2.pin p hp).1;have kK:∀ x c,X.env.cells.lookup x=some c->c<s2.heap.objs.size:=λx c e=>by
  obtain⟨v,q⟩:=I2.cell x c e;exact q.lt
 have mS:∀ b,b≠X.env.locals->b ∉ X.fs->b ∉ rK X.stack:=λb h1 h2 hb=>(aB.mp (I2.rT b hb)).elim h1 h2;have TR:∀ {H':Hp} {pl:List (ak × dR)},(∀ b∈fp,H' b=none)->(∀ p∈pl,p.1=s2.heap.objs.size)->∀ b∈fp,mv Y pl H' b:=λ{H' pl} hn vJ b hb=>by
  refine⟨hn b hb,?_,?_,.inl ?_,λx c e=>?_,λp hp=>?_⟩
  ·rw[yl];exact aK (cn (uH b hb))
  ·rw[Wc];exact mS b (f2 b hb).2.1 (f2 b hb).2.2.1
  ·rw[Wb];exact aL _ hb
  ·rw[ycl] at e;exact (f2 b hb).2.2.2.2.1 x c (mE x c e)
  ·rcases bj.mp hp with hp | hp
   ·rw[ypn] at hp;exact (f2 b hb).2.2.2.2.2 p hp
   ·rw[vJ p hp];exact bC (uH b hb)
 have loop:∀ s₃:ai,s₃={ s2 with heap:=h₁,toks:=s2.toks+([]:List (bc × ae)).length } ->
   codeAny (bn X.prog X.w) X.A (.compLoop (.ListComp elt [⟨tg,iter,ifs,0⟩] scope pos) 0 (.ref it) (.ref s2.heap.objs.size) (IK scope cl (s2.heap.objs.size+1) X.env)) (RR (.ref s2.heap.objs.size) (s2.heap.objs.size+1)) s₃:=by
  rintro s₃ rfl;refine zE (λn s'=>∃ i ys cw H' c,Inv Y [(s2.heap.objs.size,{ cls:=.type "list",data:=.seq (aaJ cw) c })] (aD k none++ix σ cap) H' s'/\tn i s'.heap/\(∀ b∈fp,H' b=none)/\Vals ys cw/\W i n ys H') ?_ m0
   ⟨0,[],[],H2,_,IY,T.keep _ _ _ HM λb hb o e=>Cn b o (al _ e),λb hb=>(f2 b hb).1,.nil,w0⟩
  rintro n s3 ⟨i,ys,cw,H3,c3,I3,Sw,RS,Kj,w3⟩;have xA:∀ p∈[(s2.heap.objs.size,({ cls:=.type "list",data:=.seq cw.toArray c3 }:dR))],p.1=s2.heap.objs.size:=λp hp=>by
   have:p=(s2.heap.objs.size,{ cls:=.type "list",data:=.seq cw.toArray c3 }):=by simpa using hp
   rw[this]
  have MH:∀ {pl:List (ak × dR)} {σ':St} {H':Hp} {s':ai},Inv Y ([(s2.heap.objs.size,({ cls:=.type "list",data:=.seq cw.toArray c3 }:dR))]++pl) σ' H' s'->s'.heap.get? s2.heap.objs.size=some { cls:=.type "list",data:=.seq cw.toArray c3 }/\H' s2.heap.objs.size=none:=λI'=>by
   obtain⟨e,n,_⟩:=I'.pin (s2.heap.objs.size,{ cls:=.type "list",data:=.seq cw.toArray c3 }) (aT _ (bY _ (by simp)));exact⟨e,n⟩
  rcases turn i n ys H3 w3 with ⟨stop,hz,qn⟩ | ⟨go,Nx,Xz,tR⟩
  ·have hd:=T.done Y yp yw yK yc i _ s3 _ H3 (λ_ _=>False) I3 (TR RS xA) Sw stop;rw[yA] at hd;refine eY hd λr s4 cW=>?_;obtain⟨hr,I4⟩:=cW;subst hr;obtain⟨eD,nD⟩:=MH (pl:=[]) (by simpa using I4);have nC:H3 (s2.heap.objs.size+1)=none:=by have:=I4.free;rw[yl] at this;exact this
   obtain⟨mC,Y9,_⟩:=I4.loc;rw[yl] at Y9;have U:=I4.base;rw[Wc,Wb,yH,ys0] at U;have old:∀ {b o},s2.heap.get? b=some o->b<s2.heap.objs.size:=λe=>aF e;have Un2:Un (rK X.stack) (s2.heap.objs.size::fp) H2 (upd H3 s2.heap.objs.size (.lst ys)) s2.heap s4.heap :=
    ⟨λb o e n hb hx=>U.keep b o (al _ e) n hb hx,λb o e n hb hx=>U.slot b o (al _ e) n hb hx,
     λb o e n hx=>by rw[bK (aK (old e))];exact U.free b o (al _ e) n hx,λb o e hx=>U.there b o (al _ e) hx,
     λb xs e=>by have q:=U.u6 b xs e;rw[bK (cQ q nD)];exact q,λb o u e=>by have q:=U.sW b o u e;rw[bK (cQ q nD)];exact q,
     λb ps e=>by obtain⟨mo,q⟩:=U.tY b ps e;exact⟨mo,by rw[bK (cQ q nD)];exact q⟩⟩
   have LH:=I4.cZ;rw[yp,yw] at LH;have IX:Inv X pins σ (upd H3 s2.heap.objs.size (.lst ys)) s4:=by
    refine I2.RM (ch:=s2.heap.objs.size::fp) ?_ Un2 (LH.adopt nD ⟨hz,cw,c3,Kj,eD⟩) I4.bare λb hb=>?_
    ·have:=I4.os;rw[ys0] at this;exact this
    ·rcases aB.mp hb with rfl | hb
     ·exact⟨.inr I2.sz,bC I2.lt,λx c e=>aK (kK x c e),λp hp=>aK (xH p hp)⟩
     ·exact⟨(f2 b hb).2.2.2.1,(f2 b hb).2.1,(f2 b hb).2.2.2.2.1,(f2 b hb).2.2.2.2.2⟩
   refine hRR _ _ s4 _ IX ⟨⟨mC,Y9⟩,?_,?_,jh I2.sz,λx c e=>aK (cn (kK x c e)),λp hp=>aK (cn (xH p hp))⟩ (qn _ nD)
   ·rw[bK (lV _)];exact nC
   ·exact bC (cn I2.lt)
  ·have hd := T.item Y yp yw yK yc i _ s3 _ H3 (λ_ _=>False) I3 (TR RS xA) Sw go;rw[yA] at hd;refine eY hd λr s4 cW=>?_;obtain⟨u,hr,h4⟩:=cW;subst hr;refine eY h4 λ_ s5 cW=>?_;obtain⟨x,H5,I5,r5,y5,Nq,Xo⟩:=cW;have W3:=I5.pinned (TR Xo xA) (T.obj _ _ Nq);have a5:=gT _ s5 _ H5 x u _ W3 (by simp) r5 (tR x H5 y5);rw[yp,yw,yA,Wd,Gf] at a5;refine eY a5 λ_ s6 cW=>?_;obtain⟨ws,Uv,q6,I6⟩:=cW;have dr:(aD k (none:Option V)++ix σ cap).drop k=ix σ cap:=by
    rw[yr (by simp)];simp
   rw[dr] at I6;have a6:=gC _ s6 _ H5 _ I6 q6;rw[yp,yw,yA,Wd,Gf] at a6;refine eY a6 λok s7 cW=>?_;obtain⟨H7,I7,q7⟩:=cW;have wk:∀ (j:Nat) v,(aD k (none:Option V)++ix σ cap)[j]?=some (some v)->(ws.map some++ix σ cap)[j]?=some (some v):=λj v e=>by
    have Ps:k<=j:=by
     refine lU λiz=>?_;rw[bW (by simpa using iz),er] at e;split at e <;> cases e
    rw[bU (by simpa using Ps),dX] at e;rw[bU (by simpa [Uv] using Ps),ag,Uv];exact e
   have wl:(aD k (none:Option V)++ix σ cap).length=(ws.map some++ix σ cap).length:=by simp[Uv]
   have ZZ:∀ {H':Hp} {s':ai},Inv Y ([(s2.heap.objs.size,({ cls:=.type "list",data:=.seq cw.toArray c3 }:dR))]++uT fp s5.heap) (ws.map some++ix σ cap) H' s'->tn (i+1) s'.heap/\∀ b∈fp,H' b=none:=λ{H' s'} I'=>by
    refine⟨T.keep _ _ _ Nq λb hb o e=>(I'.pin (b,o) (aT _ (aT _ (kN hb e)))).1,λb hb=>?_⟩;obtain⟨o,e,d⟩:=T.obj _ _ Nq b hb;exact (I'.pin (b,o) (aT _ (aT _ (kN hb e)))).2.1
   cases ok with
   | false =>
    obtain⟨_,m',hm,w'⟩:=Xz _ _ q7;obtain⟨t7,f7⟩:=ZZ I7;exact⟨m',hm,i+1,ys,cw,H7,c3,(I7.weak wl wk).qg,t7,f7,Kj,w'⟩
   | true =>
    have a7:=gE _ s7 _ H7 _ I7 q7;rw[yp,yw,yA,Wd,Gf] at a7;rw[if_pos rfl];refine eY a7 λyv s8 cW=>?_;obtain⟨y,H8,I8,r8,q8⟩:=cW;obtain⟨hz8,m',hm,w'⟩:=Xz _ _ q8;rw[aO,cC] at hz8;obtain⟨eD,nD⟩:=MH I8;obtain⟨t8,f8⟩:=ZZ I8;refine OH (hsz:=by rw[aV,← Kj.length];omega) ⟨c3,eD⟩ λh9 pl9 ZL=>?_;obtain⟨c9,e9⟩:=pl9;have I8':Inv Y [] (aD k none++ix σ cap) H8 s8:=(I8.weak wl wk).kY λp hp=>by cases hp
    have I9:Inv Y [] (aD k none++ix σ cap) H8 { s8 with heap:=h9 } :=
     I8'.turned (t':=s8.toks) (it:=s2.heap.objs.size) (λb o hb e=>ZL.extBut b o hb e) nD (by rw[yl];exact aK (cJ _)) (.inl (by rw[Wb];exact aE)) (λx c e=>by rw[ycl] at e;exact aK (kK x c (mE x c e)))
      λp hp=>by
       rw[d9,ypn] at hp;exact aK (xH p hp)
    have e9':h9.get? s2.heap.objs.size=some { cls:=.type "list",data:=.seq (cw++[yv]).toArray c9 }:=by rw[e9];simp
    refine⟨m',hm,i+1,ys++[y],cw++[yv],H8,c9,I9.kY λp hp=>?_,T.keep _ _ _ t8 λb hb o e=>ZL.extBut b o (aK (uH b hb)) e,f8,Kj.append (.cons r8 .nil),w'⟩;have:p=(s2.heap.objs.size,{ cls:=.type "list",data:=.seq (cw++[yv]).toArray c9 }):=by simpa using hp
    subst this;refine⟨e9',nD,?_,?_,λv z=>by cases z⟩
    ·rw[yl];exact aK (cJ _)
    ·rw[Wc];exact mS _ (bC I2.lt) (I2.FI (az _))
 exact Pa (loop _ rfl) (T.self _ 0 _ _ _ (T.keep _ _ _ HM λb hb o e=>Cn b o (al _ e)) (loop _ rfl))
section
variable {X:Cx} {elt tg iter:b6} {ifs:List b6} {scope:dv} {pos:hW} {N:List bc} {k:Nat} {cap:List Nat} {wi:TI} {tt:CW} {tc:TT} {te:TE}
theorem He (hc:X.calm=true) (S:pf scope X.env.scope N X.N k cap) (hi:PI X tg iter wi) (hg:∀ cl C s H ex pn,Cg (gG X scope N cl C s H ex pn) k tg tt) (ht:∀ cl C s H ex pn,Iu (gG X scope N cl C s H ex pn) ifs tc)
  (he:∀ cl C s H ex pn,PE (gG X scope N cl C s H ex pn) elt te) (hs:∀ x,fZ iter X.env x=pure x:=by intro _;rfl) :
  PE X (.ListComp elt [⟨tg,iter,ifs,0⟩] scope pos) (tU wi tt tc te cap):=by
 intro pins s σ H Q I h;obtain⟨cl,Dm,mE,rM⟩:=vZ (scope:=scope) (env:=X.env) λy hy hf=>I.ok.has y.1 (S.free y hy hf);rw[eval_ListComp];refine qU (use:=none) rfl hs Dm S.kind S.loc ?_;refine zD hc hi hg ht he S mE rM I h λD C s1 H' I1 B q=>?_;obtain⟨m,hm⟩:=B.ns;exact⟨m,hm,λh' sb=>⟨.ref D,H',B.turn I1 sb,rfl,q⟩⟩
theorem QB {i:Nat} {y:bc} {py Np:hW} (hc:X.calm=true) (S:pf scope X.env.scope N X.N k cap) (hN:X.N.Nodup) (hiy:X.N[i]?=some y) (hy:X.env.scope.names.lookup y=some .local) (hi:PI X tg iter wi)
  (hg:∀ cl C s H ex pn,Cg (gG X scope N cl C s H ex pn) k tg tt) (ht:∀ cl C s H ex pn,Iu (gG X scope N cl C s H ex pn) ifs tc)
  (he:∀ cl C s H ex pn,PE (gG X scope N cl C s H ex pn) elt te)
  (hsw:ww (.ListComp elt [⟨tg,iter,ifs,0⟩] scope pos) (some (.Name y py)) Np.line X.env=pure true:=by rfl) (hs:∀ x,fZ iter X.env x=pure x:=by intro _;rfl) :
  PS X (.Assign [.Name y py] (.ListComp elt [⟨tg,iter,ifs,0⟩] scope pos) Np) (Q5 (tU wi tt tc te cap) (eW i)):=by
 intro pins s σ H D I h;obtain⟨cl,Dm,mE,rM⟩:=vZ (scope:=scope) (env:=X.env) λy hy hf=>I.ok.has y.1 (S.free y hy hf);rw[exec_Assign_Name_used _ _ _ _ hsw];refine ah (yi (ah ?_));show wpAny _ X.A (do let _ ← comprehension (.ListComp elt [⟨tg,iter,ifs,0⟩] scope pos) scope X.env _ (newList []) false (eO iter X.env) (some (yC (.Name y py) X.env))) _ _ s;refine ah (dc (qU (use:=some (yC (.Name y py) X.env)) (Q:=λ_ s'=>SP X pins D .next s') rfl hs Dm S.kind S.loc ?_) (λ_ s' hq=>aH (aH hq)) λ_ _ e=>e);refine zD hc hi hg ht he S mE rM I h λDa C s1 H' I1 B q=>?_;show wpAny _ X.A (yC (.Name y py) X.env (.ref Da)) _ _ _;refine Ca (Ag (v:=.ref Da) I1 hN hiy (.inl hy) rfl (λs' I' z=>?_) (.inr hy));obtain⟨a,Cn,ha⟩:=z;have hCa:C≠a:=by
  rcases ha with rfl | ha
  ·exact B.ne
  ·exact λe=>B.cells _ _ ha e.symm
 obtain⟨m,hm⟩:=B.ns;refine⟨m,hm.sameBut Cn hCa,λh' sb=>?_⟩;exact⟨_,H',I'.turned (t':=s'.toks) (λb o hb e=>sb.extBut b o hb e) B.un B.ne (.inr B.new) B.cells B.pins,q⟩
end
abbrev Rel (α:Type):=Hp->α->V->Prop
def iA:Rel Int:=λ_ i v=>v=.int i
def MQ {α:Type} (R:Rel α):Rel (Option α):=λH o v=>match o with
 | none=>v=.fj
 | some x=>R H x v
def hU {α:Type} (R:Rel α):Rel (List α):=λH xs v=>∃ a vs,v=.ref a/\H a=some (.lst vs)/\dE (R H) xs vs
def QI {α β:Type} (R:Rel α) (S:Rel β):Rel (α × β):=λH p v=>∃ a x y,v=.ref a/\H a=some (.tup [x,y])/\R H p.1 x/\S H p.2 y
def rT3 {α β γ:Type} (R:Rel α) (S:Rel β) (T:Rel γ):Rel (α × β × γ):=λH p v=>∃ a x y z,v=.ref a/\H a=some (.tup [x,y,z])/\R H p.1 x/\S H p.2.1 y/\T H p.2.2 z
structure hV {α:Type} (R:Rel α):Prop where
 go:∀ (H H':Hp) (x:α) (v:V),bp H H'->R H x v->R H' x v
theorem hV.up {α:Type} {R:Rel α} (m:hV R) {H H':Hp} {x:α} {v:V} (s:bp H H') (h:R H x v):R H' x v:=m.go H H' x v s h
theorem fg:hV iA:=⟨λ_ _ _ _ _ h=>h⟩
theorem dq {α:Type} {R:Rel α} (m:hV R) {H H':Hp} (s:bp H H') {xs:List α} {vs:List V} (p:dE (R H) xs vs):dE (R H') xs vs:=Paired.U9 p λ_ _ q=>m.up s q
theorem dO {α:Type} {R:Rel α} (m:hV R):hV (hU R):=⟨λH H' x v s h=>by
 obtain⟨a,vs,e,h1,p⟩:=h;exact⟨a,vs,e,s _ _ h1,dq m s p⟩⟩
theorem v6 {α β:Type} {R:Rel α} {S:Rel β} (m:hV R) (n:hV S):hV (QI R S):=⟨λH H' x v s h=>by
 obtain⟨a,x,y,e,h1,p,q⟩:=h;exact⟨a,x,y,e,s _ _ h1,m.up s p,n.up s q⟩⟩
theorem P4 {α β γ:Type} {R:Rel α} {S:Rel β} {T:Rel γ} (m:hV R) (n:hV S) (o:hV T):hV (rT3 R S T):=⟨λH H' x v s h=>by
 obtain⟨a,x,y,z,e,h1,p,q,r⟩:=h;exact⟨a,x,y,z,e,s _ _ h1,m.up s p,n.up s q,o.up s r⟩⟩
theorem xD {α β:Type} {F:α->β->Prop} {f:α->β} (h:∀ a,F a (f a)):∀ xs:List α,dE F xs (xs.map f)
 | []=>.nil
 | a::r=>.cons (h a) (xD h r)
theorem a0n {H:Hp}:∀ {xs:List Int} {vs:List V},dE (iA H) xs vs->vs=xs.map V.int
 | _,_,.nil=>rfl
 | _,_,.cons h t=>by rw[cG,← a0n t];exact congrArg (·::_) h
theorem Dt {H:Hp} (xs:List Int):dE (iA H) xs (xs.map V.int):=xD (F:=iA H) (f:=V.int) (λ_=>rfl) xs
theorem mi {H:Hp} {xs:List Int} {v:V}:hU iA H xs v↔∃ a,v=.ref a/\H a=some (.lst (xs.map V.int)):=by
 constructor
 ·rintro⟨a,vs,rfl,h,p⟩;rw[a0n p] at h;exact⟨a,rfl,h⟩
 ·rintro⟨a,rfl,h⟩;exact⟨a,_,rfl,h,Dt xs⟩
theorem Paired.at {α β:Type} {F:α->β->Prop}:∀ {xs:List α} {ys:List β} {i:Nat} {x:α},dE F xs ys->xs[i]?=some x->∃ y,ys[i]?=some y/\F x y
 | _,_,_,_,.nil,e=>by simp at e
 | _,_,0,_,.cons r _,e=>by simp at e;subst e;exact⟨_,rfl,r⟩
 | _,_,i+1,x,.cons _ t,e=>by
  obtain⟨u,h1,h2⟩:=Paired.at (i:=i) (x:=x) t (by simpa using e);exact⟨u,by simpa using h1,h2⟩
theorem Paired.ta {α β:Type} {F:α->β->Prop}:∀ {xs:List α} {ys:List β} {i:Nat} {y:β},dE F xs ys->ys[i]?=some y->∃ x,xs[i]?=some x/\F x y
 | _,_,_,_,.nil,e=>by simp at e
 | _,_,0,_,.cons r _,e=>by simp at e;subst e;exact⟨_,rfl,r⟩
 | _,_,i+1,x,.cons _ t,e=>by
  obtain⟨u,h1,h2⟩:=Paired.ta (i:=i) (y:=x) t (by simpa using e);exact⟨u,by simpa using h1,h2⟩
theorem Paired.app {α β:Type} {F:α->β->Prop}:∀ {xs xs':List α} {ys Cu:List β},dE F xs ys->dE F xs' Cu->dE F (xs++xs') (ys++Cu)
 | _,_,_,_,.nil,s=>s
 | _,_,_,_,.cons r t,s=>.cons r (Paired.app t s)
structure mr {α:Type} (n:Nat) (R:Rel α):Prop where
 go:∀ (X:Cx) (pins:List (ak × dR)) (σ:St) (H:Hp) (s:ai) (A:bA) (x:α) (v w:V) (u1 u2:ae),
  Inv X pins σ H s->A.units+n<iD->R H x v->R H x w->RelV v u1->RelV w u2->iH A s u1 u2 true
theorem mr.at {α:Type} {n:Nat} {R:Rel α} (h:mr n R) {X:Cx} {pins:List (ak × dR)} {σ:St} {H:Hp} {s:ai} {A:bA} {x:α} {v w:V} {u1 u2:ae} (I:Inv X pins σ H s) (hu:A.units+n<iD) (h1:R H x v) (h2:R H x w) (r1:RelV v u1) (r2:RelV w u2):iH A s u1 u2 true :=
 h.go X pins σ H s A x v w u1 u2 I hu h1 h2 r1 r2
structure CV {α:Type} (n:Nat) (R:Rel α):Prop where
 go:∀ (X:Cx) (pins:List (ak × dR)) (σ:St) (H:Hp) (s:ai) (A:bA) (x:α) (v w:V) (u1 u2:ae),
  Inv X pins σ H s->A.units+n<iD->R H x v->R H x w->RelV v u1->RelV w u2->KL A s u1 u2 true/\EY A s u1 u2 false
theorem CV.at {α:Type} {n:Nat} {R:Rel α} (h:CV n R) {X:Cx} {pins:List (ak × dR)} {σ:St} {H:Hp} {s:ai} {A:bA} {x:α} {v w:V} {u1 u2:ae} (I:Inv X pins σ H s) (hu:A.units+n<iD) (h1:R H x v) (h2:R H x w) (r1:RelV v u1) (r2:RelV w u2):KL A s u1 u2 true/\EY A s u1 u2 false :=
 h.go X pins σ H s A x v w u1 u2 I hu h1 h2 r1 r2
theorem mr.up {α:Type} {m n:Nat} {R:Rel α} (h:mr m R) (hm:m<=n):mr n R:=⟨λX pins σ H s A x v w u1 u2 I hu=>h.go X pins σ H s A x v w u1 u2 I (by omega)⟩
theorem j4:mr 0 iA:=by
 refine⟨λX pins σ H s A x v w u1 u2 I hu h1 h2 r1 r2=>?_⟩;have e1:v=.int x:=h1;have e2:w=.int x:=h2;subst e1;subst e2;have:=uF (A:=A) (s:=s) r1 r2 rfl rfl;simpa [Fi] using this
theorem nV {α:Type} {n:Nat} {R:Rel α} (h:mr n R):mr n (MQ R):=by
 refine⟨λX pins σ H s A x v w u1 u2 I hu h1 h2 r1 r2=>?_⟩;cases x with
 | none =>
  have e1:v=.fj:=h1;have e2:w=.fj:=h2;subst e1;subst e2;cases r1;cases r2;exact vc _
 | some y=>exact h.at I hu h1 h2 r1 r2
theorem a0o (n:Nat):(br n).all (λ_=>true)=true:=by simp
theorem NM {α:Type} {R:Rel α} {H:Hp} {xs:List α} {vs ws:List V} {Rh SC:List ae} (p1:dE (R H) xs vs) (p2:dE (R H) xs ws) (r1:Vals vs Rh) (r2:Vals ws SC) :
  Rh.length=SC.length/\∀ (j:Nat) (a b:ae),Rh[j]?=some a->SC[j]?=some b->∃ x v w,R H x v/\R H x w/\RelV v a/\RelV w b:=by
 induction p1 generalizing ws Rh SC with
 | nil =>
  cases p2;cases r1;cases r2;exact⟨rfl,λj a b e=>by simp at e⟩
 | cons h t ih =>
  cases p2 with
  | cons h' t' =>
   cases r1 with
   | cons q1 s1 =>
    cases r2 with
    | cons q2 s2 =>
     obtain⟨e,f⟩:=ih t' s1 s2;refine⟨by simp[e],λj a b ea eb=>?_⟩;cases j with
     | zero=>simp at ea eb;subst ea;subst eb;exact⟨_,_,_,h,h',q1,q2⟩
     | succ j=>exact f j a b (by simpa using ea) (by simpa using eb)
theorem tL {α:Type} {n:Nat} {R:Rel α} (h:mr n R):CV (n+1) (hU R):=by
 refine⟨λX pins σ H s A xs v w u1 u2 I hu h1 h2 r1 r2=>?_⟩;obtain⟨a,vs,e1,ha,p1⟩:=h1;obtain⟨b,ws,e2,hb,p2⟩:=h2;subst e1;subst e2;cases r1;cases r2;obtain⟨cw,n1,QR,o1,z1⟩:=I.lst ha;obtain⟨lH,n2,BN,o2,z2⟩:=I.lst hb;obtain⟨el,f⟩:=NM p1 p2 QR BN;have qX:s.heap.IsList a cw.toArray:=⟨_,o1,rfl,n1,rfl⟩
 have o6:s.heap.IsList b lH.toArray:=⟨_,o2,rfl,n2,rfl⟩
 have he:∀ j (h1:j<cw.toArray.size) (h2:j<lH.toArray.size),iH A.in1 s cw.toArray[j] lH.toArray[j] ((λ_=>true) j):=λj h1 h2=>by
  obtain⟨x,v,w,q1,q2,q3,q4⟩:=f j (cw.toArray[j]) (lH.toArray[j]) (by simp) (by simp);exact h.at I (by show A.units+1+n<iD;omega) q1 q2 q3 q4
 have A1:=Gv qX o6 (by simpa using el) (by omega) he;have A2:=Cj qX o6 (by simpa using el) (by omega) he;rw[a0o] at A1 A2;exact⟨A1,A2⟩
theorem GJ {α:Type} {n:Nat} {R:Rel α} (h:CV n R) (Yn:∀ {H:Hp} {x:α} {v:V},R H x v->∃ a,v=.ref a):mr n R:=by
 refine⟨λX pins σ H s A x v w u1 u2 I hu h1 h2 r1 r2=>?_⟩;obtain⟨a,rfl⟩:=Yn h1;obtain⟨b,rfl⟩:=Yn h2;have q:=(h.at I hu h1 h2 r1 r2).1;cases r1;cases r2
 by_cases e:a=b
 ·subst e;exact vc _
 ·exact SeqAt.EqAt.of_refs e q
theorem pE {α:Type} {n:Nat} {R:Rel α} (h:mr n R):mr (n+1) (hU R):=GJ (tL h) λz=>by obtain⟨a,_,e,_⟩:=z;exact⟨a,e⟩
theorem Hn {α β:Type} {n:Nat} {R:Rel α} {S:Rel β} (h:mr n R) (g:mr n S):CV (n+1) (QI R S):=by
 refine⟨λX pins σ H s A xs v w u1 u2 I hu h1 h2 r1 r2=>?_⟩;obtain⟨a,x1,y1,e1,ha,p1,q1⟩:=h1;obtain⟨b,x2,y2,e2,hb,p2,q2⟩:=h2;subst e1;subst e2;cases r1;cases r2;obtain⟨z1,cw,QR,t1⟩:=I.cZ a _ ha;obtain⟨z2,lH,BN,t2⟩:=I.cZ b _ hb;obtain⟨c1,c2,rfl,rc1,rc2⟩:=QR.two;obtain⟨d1,d2,rfl,rd1,rd2⟩:=BN.two;have he:∀ j (h1:j<[c1,c2].toArray.size) (h2:j<[d1,d2].toArray.size),iH A.in1 s [c1,c2].toArray[j] [d1,d2].toArray[j] ((λ_=>true) j):=λj h1 h2=>by
  have hj:j=0\/j=1:=by have:j<2:=h1;(clear hu z1 z2 h1 h2;omega)
  rcases hj with rfl | rfl
  ·exact h.at I (by show A.units+1+n<iD;omega) p1 p2 rc1 rd1
  ·exact g.at I (by show A.units+1+n<iD;omega) q1 q2 rc2 rd2
 have A1:=EX t1 t2 (by omega) he;have A2:=AY t1 t2 (by omega) he;simpa [a0o] using And.intro A1 A2
theorem QK {α β γ:Type} {n:Nat} {R:Rel α} {S:Rel β} {T:Rel γ} (h:mr n R) (g:mr n S) (k:mr n T):CV (n+1) (rT3 R S T):=by
 refine⟨λX pins σ H s A xs v w u1 u2 I hu h1 h2 r1 r2=>?_⟩;obtain⟨a,x1,y1,w1,e1,ha,p1,q1,m1⟩:=h1;obtain⟨b,x2,y2,w2,e2,hb,p2,q2,m2⟩:=h2;subst e1;subst e2;cases r1;cases r2;obtain⟨z1,cw,QR,t1⟩:=I.cZ a _ ha;obtain⟨z2,lH,BN,t2⟩:=I.cZ b _ hb;cases QR with
 | cons rc1 QR =>
  obtain⟨c2,c3,rfl,rc2,rc3⟩:=Vals.two QR;cases BN with
  | cons rd1 BN =>
   obtain⟨d2,d3,rfl,rd2,rd3⟩:=Vals.two BN;rename_i c1 d1;have he:∀ j (h1:j<[c1,c2,c3].toArray.size) (h2:j<[d1,d2,d3].toArray.size),iH A.in1 s [c1,c2,c3].toArray[j] [d1,d2,d3].toArray[j] ((λ_=>true) j):=λj h1 h2=>by
    have hj:j=0\/j=1\/j=2:=by have:j<3:=h1;(clear hu z1 z2 h1 h2;omega)
    rcases hj with rfl | rfl | rfl
    ·exact h.at I (by show A.units+1+n<iD;omega) p1 p2 rc1 rd1
    ·exact g.at I (by show A.units+1+n<iD;omega) q1 q2 rc2 rd2
    ·exact k.at I (by show A.units+1+n<iD;omega) m1 m2 rc3 rd3
   have A1:=EX t1 t2 (by omega) he;have A2:=AY t1 t2 (by omega) he;simpa [a0o] using And.intro A1 A2
theorem Pf {α β γ:Type} {n:Nat} {R:Rel α} {S:Rel β} {T:Rel γ} (h:mr n R) (g:mr n S) (k:mr n T):mr (n+1) (rT3 R S T):=GJ (QK h g k) λz=>by obtain⟨a,_,_,_,e,_⟩:=z;exact⟨a,e⟩
section
variable {X:Cx}
theorem Mv {α:Type} {n:Nat} {R:Rel α} (ok:CV n R) (hu:X.A.units+n<iD):ux X (dF .Eq) (λv w H Q=>∃ x,R H x v/\R H x w/\Q (.bl true) H):=by
 intro pins s σ H v w u1 u2 Q I r1 r2 h;obtain⟨x,h1,h2,q⟩:=h;exact (ok.at I hu h1 h2 r1 r2).1 _ _ _ _ ⟨.bl true,H,I,rfl,q⟩
theorem FQ {α:Type} {n:Nat} {R:Rel α} (ok:CV n R) (hu:X.A.units+n<iD):ux X (dF .NotEq) (λv w H Q=>∃ x,R H x v/\R H x w/\Q (.bl false) H):=by
 intro pins s σ H v w u1 u2 Q I r1 r2 h;obtain⟨x,h1,h2,q⟩:=h;exact (ok.at I hu h1 h2 r1 r2).2 _ _ _ _ ⟨.bl false,H,I,rfl,q⟩
def GW (H:Hp):V->String->Prop
 | .fj,T=>T = "NoneType"
 | .bl _,T=>T = "bool"
 | .int _,T=>T = "int"
 | .str _,T=>T = "str"
 | .ref a,T=>(T = "list" /\ ((∃ xs,H a=some (.lst xs))\/∃ o xs,H a=some (.Bm o (.lst xs))))\/(T = "tuple" /\ ∃ xs,H a=some (.tup xs))\/(T = "dict" /\ ∃ fE,H a=some (.dK fE))
 | _,_=>False
theorem GW.ty {K:aj} {H:Hp} {x:V} {T:String} (h:GW H x T):uB K H x (.type T):=by
 cases x with
 | fj=>cases (show T = "NoneType" from h);exact .fj
 | bl b=>cases (show T = "bool" from h);exact .bl b
 | int i=>cases (show T = "int" from h);exact .int i
 | str z=>cases (show T = "str" from h);exact .str z
 | ref a =>
  rcases h with ⟨rfl,⟨xs,e⟩ | ⟨o,xs,e⟩⟩ | ⟨rfl,xs,e⟩ | ⟨rfl,fE,e⟩
  ·exact .lst e
  ·exact .Bm e
  ·exact .tup e
  ·exact .dK e
 | _=>exact fF h
theorem KW {T:String}:kF X (.builtin "isinstance") (λxs H Q=>∃ x S b,xs=[x,.ty T]/\GW H x S/\fw X.K (.type S) (.type T)=some b/\Q (.bl b) H):=by
 intro pins s σ H xs us Q I r h;obtain⟨x,S,b,rfl,hk,e,q⟩:=h;obtain⟨u,c,rfl,ru,rc⟩:=r.two;cases (show c=jV T from rc);exact Jf I ru hk.ty e λtk=>⟨.bl b,H,I.tok _,rfl,q⟩
theorem pJ {K:aj} (T:String):fw K (.type T) (.type T)=some true:=by
 unfold fw;rw[if_pos (by simp)]
theorem tj {K:aj}:fw K (.type "int") (.type "bool")=some false:=rfl
end
def sP (scope pe:dv) (N PN:List bc) (k:Nat) (cap:List Nat):Bool :=
 (scope.kind == .function) && (N.length == k+cap.length) &&
 (scope.names.all λy=>(y.2 != .cell) && (y.2 != .local || scope.names.lookup y.1 == some .local) &&
  (y.2 != .free || (scope.names.lookup y.1 == some .free && (pe.names.lookup y.1 == some .cell || pe.names.lookup y.1 == some .free)))) &&
 ((br cap.length).all λj=>match N[k+j]?,cap[j]? with
  | some x,some i=>PN[i]? == some x && scope.names.lookup x == some .free
  | _,_=>false)
theorem uD {scope pe:dv} {N PN:List bc} {k:Nat} {cap:List Nat} (h:sP scope pe N PN k cap=true):pf scope pe N PN k cap:=by
 unfold sP at h;simp only [bR] at h;obtain⟨⟨⟨h1,h2⟩,h3⟩,h4⟩:=h;rw[f9] at h3 h4;have q:∀ y∈scope.names,y.2≠.cell/\(y.2=.local->scope.names.lookup y.1=some .local)/\(y.2=.free->scope.names.lookup y.1=some .free/\(pe.names.lookup y.1=some .cell\/pe.names.lookup y.1=some .free)):=λy hy=>by
  have:=h3 y hy;simp only [bR,zk,bne_iff_ne,beq_iff_eq] at this;obtain⟨⟨a,b⟩,c⟩:=this;exact⟨a,λe=>b.elim (λz=>absurd e z) id,λe=>c.elim (λz=>absurd e z) id⟩
 refine⟨by simpa using h1,by simpa using h2,λy hy=>(q y hy).1,λy hy=>(q y hy).2.1,λy hy e=>((q y hy).2.2 e).2,λj hj=>?_,λy hy e=>((q y hy).2.2 e).1⟩;have:=h4 j hj;split at this
 ·rename_i x i e1 e2;simp only [bR,beq_iff_eq] at this;exact⟨x,i,e1,e2,this.1,this.2⟩
 ·cases this
section
variable {X:Cx} {elt tg iter:b6} {ifs:List b6} {scope:dv} {pos:hW} {wi:TI} {tt:CW} {tc:TT} {te:TE}
theorem tE (pe:dv) (PN N:List bc) (k:Nat) (cap:List Nat) (hi:PI X tg iter wi) (hg:∀ cl C s H ex pn,Cg (gG X scope N cl C s H ex pn) k tg tt) (ht:∀ cl C s H ex pn,Iu (gG X scope N cl C s H ex pn) ifs tc)
  (he:∀ cl C s H ex pn,PE (gG X scope N cl C s H ex pn) elt te) (hc:X.calm=true:=by rfl) (h1:X.env.scope=pe:=by rfl) (h2:X.N=PN:=by rfl) (S:sP scope pe N PN k cap=true:=by decide +kernel)
  (hs:∀ x,fZ iter X.env x=pure x:=by intro _;rfl) :
  PE X (.ListComp elt [⟨tg,iter,ifs,0⟩] scope pos) (tU wi tt tc te cap):=He hc (by rw[h1,h2];exact uD S) hi hg ht he hs
theorem vn {i:Nat} {y:bc} {py Np:hW} (pe:dv) (PN N:List bc) (k:Nat) (cap:List Nat) (hN:X.N.Nodup) (hiy:X.N[i]?=some y) (hy:X.env.scope.names.lookup y=some .local) (hi:PI X tg iter wi)
  (hg:∀ cl C s H ex pn,Cg (gG X scope N cl C s H ex pn) k tg tt) (ht:∀ cl C s H ex pn,Iu (gG X scope N cl C s H ex pn) ifs tc)
  (he:∀ cl C s H ex pn,PE (gG X scope N cl C s H ex pn) elt te) (hc:X.calm=true:=by rfl) (h1:X.env.scope=pe:=by rfl) (h2:X.N=PN:=by rfl) (S:sP scope pe N PN k cap=true:=by decide +kernel)
  (hsw:ww (.ListComp elt [⟨tg,iter,ifs,0⟩] scope pos) (some (.Name y py)) Np.line X.env=pure true:=by rfl) (hs:∀ x,fZ iter X.env x=pure x:=by intro _;rfl) :
  PS X (.Assign [.Name y py] (.ListComp elt [⟨tg,iter,ifs,0⟩] scope pos) Np) (Q5 (tU wi tt tc te cap) (eW i)):=QB hc (by rw[h1,h2];exact uD S) hN hiy hy hi hg ht he hsw hs
end
structure Dn (P:aS) (w:bN) (K:aj) (mg:bc->Option ae) (base:cj) (x:bc) (n:Nat) (ps:List bc) (sp:Sp):Prop where
 ex:∃ f fd,px P w K mg base yq n f fd ps sp/\mg x=some (.ref f)/\i4 K (.ref f)=true/\Binds K fd ps []
structure aX (K:aj) (mg:bc->Option ae) (x:bc) (st:cK) (ps:List bc):Prop where
 ex:∃ f fd,Gk K x x st f fd/\mg x=some (.ref f)/\Binds K fd ps []
section
variable {P:aS} {w:bN} {K:aj} {mg:bc->Option ae} {base:cj}
theorem aX.ok {x:bc} {st:cK} {N ps:List bc} {k:Nat} {sp:Sp} (F:aX K mg x st ps) (S:bM N ps (aG st)) (len:∀ vs H Q E,sp vs H Q E->vs.length=ps.length)
  (mD:∀ (f:ak) (di:ae) (A:bA) (outer:List qk) (s:ai) (H:Hp) (vs:List V) (Q:VK) (E:XK),fG k (A.deeper (mV x (aG st) s.heap.objs.size f di))->sp vs H Q E ->
   ∃ t,xZ (rG yq P w K mg base N x (aG st) f di A outer s H E).Jp (fH st) t/\t { nx:=λ_ H'=>Q .fj H',rt:=Q } (start N vs) H):Dn P w K mg base x (k+1) ps sp:=by
 obtain⟨f,fd,F,hm,hb⟩:=F.ex;exact⟨f,fd,F.ok S len λdi A outer s H vs Q E=>mD f di A outer s H vs Q E,hm,F.kp,hb⟩
end
theorem cx {X:Cx} {x:bc} {n k:Nat} {ps:List bc} {sp:Sp} {e:b6} {es:List b6} {t:TA} {p pos:hW} (D:Dn X.prog X.w X.K X.mg X.base x n ps sp) (hr:fG k X.A) (ha:PA X (e::es) t) (hk:n<=k:=by decide) (hg:Gl X x:=by rfl)
  (Fm:(x == ("__debug__" : bc))=false:=by decide) (he:bD (e::es) X.env=(false,eO e X.env)::bD es X.env:=by rfl) (vJ:(gx pos (bD es X.env)).any (·.1)=false:=by rfl) :
  PE X (.Call (.Name x p) (e::es) [] pos) (Ny sp [] E0 t):=by
 obtain⟨f,fd,F,hm,kp,hb⟩:=D.ex;exact Hd F (hr.mono hk) hg hm kp hb .nil MB ha Fm he vJ
theorem xp {A:bA} {k:Nat} (hr:fG k A) (n:Nat) (h:n<=64:=by decide):A.units+n<iD:=OU (Nat.add_le_add_left h _) hr.units
def aad (t u:TS):TS:=λD σ H=>∃ M:St->Hp->Prop,t { D with nx:=M } σ H/\∀ σ' H',M σ' H'->u D σ' H'
theorem nc {X:Cx} {st:cK} {rest:List cK} {t u:TS} (h1:PS X st t) (h2:xZ X rest u):xZ X (st::rest) (aad t u):=by
 intro pins s σ H D I h;obtain⟨M,h,k⟩:=h;refine En (eY (h1 pins s σ H { D with nx:=M } I h) λf s1 q=>?_);cases f with
 | next =>
  obtain⟨σ',H',I',q⟩:=q;exact h2 pins s1 σ' H' D I' (k σ' H' q)
 | ret v=>exact q
 | brk=>exact q
 | cont=>exact q
def kO (H H':Hp):Hp:=λb=>match H b with
 | none=>H' b
 | some _=>none
theorem mh (H H':Hp):bp (kO H H') H':=λb o e=>by
 unfold kO at e;cases q:H b with
 | none=>rw[q] at e;exact e
 | some u=>rw[q] at e;cases e
theorem uP {H H':Hp} {b:ak} {o:HO} (h:H b=some o):kO H H' b=none:=by unfold kO;rw[h]
theorem i5 {H H':Hp} {b:ak} (h:H b=none):kO H H' b=H' b:=by unfold kO;rw[h]
theorem n5 {H H1 H' H2:Hp} (a:bp H H1) (b:bp H' H2):bp (kO H1 H') (kO H H2):=λc o e=>by
 cases q:H1 c with
 | some u=>rw[uP q] at e;cases e
 | none =>
  rw[i5 q] at e;rw[i5 (a.free q)];exact b c o e
theorem ay {H:Hp} {p:ak} (h:H p=none) (o:HO):bp H (upd H p o):=λb u q=>by rw[bK (cQ q h)];exact q
theorem bp.put {Hs H:Hp} {p:ak} (s:bp Hs H) (h:Hs p=none) (o:HO):bp Hs (upd H p o):=λb u q=>by
 rw[bK (cQ q h)];exact s b u q
theorem a0b {n m:Nat} (h:n<=m) (hm:m<=1000000:=by decide):n<=aJ:=b7 h (b7 hm (by decide))
theorem mB {x:V} {H:Hp} {f:List V->St} {A B:List V->Hp->Prop} (h:A [x] H):NI x H λws=>VU (f ws) H λb H4=>if b=true then A ws H4 else B ws H4:=by
 show if true=true then A [x] H else B [x] H;rw[if_pos rfl];exact h
theorem kL {K:aj} {n:Nat} {a:ak} {xs:List V} {H:Hp} {f:List V->St} {A B:List V->Hp->Prop} (hq:eU K H a xs) (hn:xs.length=n) (h:A xs H):xT K n (.ref a) H λws=>VU (f ws) H λb H4=>if b=true then A ws H4 else B ws H4:=by
 refine⟨a,xs,rfl,hq,hn,?_⟩;show if true=true then A xs H else B xs H;rw[if_pos rfl];exact h
theorem a0x:∀ (vs:List ae),(∀ v∈vs,∃ k t,v=gK k t)->∃ ns,cL vs ns
 | [],_=>⟨[],.nil⟩
 | v::r,h=>by
  obtain⟨k,t,rfl⟩:=h v aE;obtain⟨ns,q⟩:=a0x r λu hu=>h u (aL _ hu);exact⟨k::ns,.cons k t q⟩
theorem B8:∀ {vs:List ae} {ns:List Int},cL vs ns->Vals (ns.map V.int) vs
 | _,_,.nil=>.nil
 | _,_,.cons _ t r=>.cons ⟨t,rfl⟩ (B8 r)
section
variable {prog:aS} {w:bN} {A:bA} {E:ae->ai->Prop} {s:ai} {T:String} {r d:ak} {n:Nat} {P:Nat->ae->Prop} {OK:cj->Prop} {Q:ae->ai->Prop}
end
section
variable {X:Cx}
theorem oF:kF X (.builtin "sorted") (λxs H Q=>∃ (a:ak) (ks:List Int),xs=[.ref a]/\bQ X.K H a (ks.map V.int)/\ks.length<64 /\
  ∀ (p:ak) (ns:List Int),H p=none->ns.Perm ks->ns.Pairwise (·<=·)->Q (.ref p) (upd H p (.lst (ns.map V.int)))):=by
 intro pins s σ H xs us Q I r h;obtain⟨a,ks,rfl,ha,h64,q⟩:=h;obtain⟨u,rfl,ru⟩:=a0e r;cases ru;obtain⟨cw,rv,pl,hz⟩:=I.list ha;have hi:cL cw ks:=a0c rv;refine sorted_ints pl.isList hi (by rw[hi.length];exact h64) λout vM i2 pm pw=>?_;obtain⟨e,he⟩:=sortedAll_at s.heap cw out;have hz:(vM.map V.int).length<=aJ:=by rw[ag,pm.length_eq];exact a0b (m:=64) (qE h64)
 have k0:∀ b o,s.heap.get? b=some o->(afA s.heap cw out).get? b=some o:=λb o=>sortedAll_old;have I1:Inv X pins σ H { s with heap:=afA s.heap cw out }:=I.kept (t':=s.toks) k0;have f1:H (s.heap.objs.size+1)=none:=I.cZ.fresh (gU _);refine⟨.ref (s.heap.objs.size+1),_,I.laid (t':=s.toks) (o:=.lst (vM.map V.int)) k0 (gU _) ⟨hz,out.toList,e,B8 i2,by simpa using he⟩,rfl,q _ vM f1 pm pw⟩
def VS (ta:TA):TE:=λσ H Q=>ta σ H λvs H1=>∃ j:Int,vs=[.int j]/\∀ p,H1 p=none->Q (.ref p) (upd H1 p (.ow 0 j))
theorem Jx {a:b6} {ta:TA} {p pos:hW} (hg:Gl X "range") (hm:X.mg "range" = none) (ha:PA X [a] ta) (hs:bD [a] X.env=[(false,eO a X.env)]:=by rfl):PE X (.Call (.Name "range" p) [a] [] pos) (VS ta):=by
 intro pins s σ H Q I h;refine SU (lI I hg hm boot_range (dk (eY (ha pos pins s σ H _ I h) λus s1 cW=>?_) hs rfl));obtain⟨vs,H1,I1,r1,q1⟩:=cW;obtain⟨j,e,q⟩:=q1;subst e;cases r1 with
 | cons r rr =>
  cases rr;obtain⟨t,rfl⟩:=r;refine call_range_1 ⟨.ref s1.heap.objs.size,_,I1.laid (o:=.ow 0 j) (λb o e=>al _ e) (az _) ⟨_,_,_,aQ _ rfl⟩,rfl,q _ I1.fresh⟩
theorem yD (hc:X.calm=true):kF X (.type "list") (λxs H Q=>∃ (a:ak) (j:Int),xs=[.ref a]/\H a=some (.ow 0 j)/\j<=100000/\-100000<=j /\
  ∀ p,H p=none->Q (.ref p) (upd H p (.lst (((br j.toNat).map λ(i:Nat)=>(i:Int)).map V.int)))):=by
 intro pins s σ H xs us Q I r h;obtain⟨a,j,rfl,ha,hj,IW,q⟩:=h;obtain⟨u,rfl,ru⟩:=a0e r;cases ru;obtain⟨t,u,v,ho⟩:=I.cZ a _ ha;have hn:vT 0 j 1=((j.toNat:Nat):Int):=by rw[rangeSize_one];split <;> omega
 refine call_list_range (n:=j.toNat) (I.ok.hd hc) ho (small_one (by decide) (by decide) (by omega) (by omega)) hn (by omega) λh' tk acc c' k xo T6=>?_;have hI:cL acc.toList ((br j.toNat).map λ(i:Nat)=>(i:Int)):=by
  obtain⟨ns,yd⟩:=a0x acc.toList λv hv=>by
   obtain⟨i,hi⟩:=ce hv;obtain⟨t,e⟩:=T6.2 i v (by rw[← eZ];exact hi);exact⟨_,t,e⟩
  have e:ns=(br j.toNat).map λ(i:Nat)=>(i:Int):=by
   have hl:=yd.length;have hs:acc.toList.length=j.toNat:=by rw[bS];exact T6.1
   refine c6 λi=>?_
   by_cases hi:i<acc.toList.length
   ·obtain⟨w',hw⟩:∃ w',acc.toList[i]?=some w':=⟨acc.toList[i],by simp⟩
    obtain⟨t,e1⟩:=T6.2 i w' (by rw[← eZ];exact hw);obtain⟨t',e2⟩:=IntsAre.int_at yd i _ hw;rw[e1] at e2;injection e2 with e2 _;have h1:i<ns.length:=by (clear hc hj IW q hn e2 k hs;omega)
    have h2:i<j.toNat:=by (clear hc hj IW q hn k e2 h1 hl;omega)
    have h3:ns.getD i 0=(i:Int):=by rw[← e2];(clear hc hj IW q hn k hl hs hi e2 h1 h2;omega)
    simp[List.getD,h1] at h3;simp[h1,h2,h3]
   ·rw[bo (by (clear hc hj IW q hn k hs;omega)),bo (by simp;(clear hc hj IW q hn k hl;omega))]
  rw[← e];exact yd
 have hz:(((br j.toNat).map λ(i:Nat)=>(i:Int)).map V.int).length<=aJ:=by simp only [ag,OR];exact a0b (m:=100000) (by omega)
 refine⟨.ref s.heap.objs.size,_,I.laid (t':=tk) (o:=.lst _) k (az _) ⟨hz,acc.toList,c',B8 hI,by simpa using xo⟩,rfl,q _ I.fresh⟩
theorem zy (hc:X.calm=true):kF X (.builtin "max") (λxs H Q=>∃ (a:ak) (ks:List Int),xs=[.ref a]/\bQ X.K H a (ks.map V.int)/\ks≠[]/\∀ M,M∈ks->(∀ k∈ks,k<=M)->Q (.int M) H):=by
 intro pins s σ H xs us Q I r h;obtain⟨a,ks,rfl,ha,kU,q⟩:=h;obtain⟨u,rfl,ru⟩:=a0e r;cases ru;obtain⟨cw,rv,pl,hz⟩:=I.list ha;have hi:cL cw ks:=a0c rv;obtain⟨xs,e⟩:=hi.allInts.items;have yd:ks=xs.toList.map (·.1):=by rw[← hi.numsOf,← nums_intItems,← e]
 have hsz:0<xs.size:=by
  have h3:0<ks.length:=bT.mpr kU;rw[yd,ag,bS] at h3;exact h3
 have hl:=pl.isList;rw[e] at hl;refine max_intList (I.ok.hd hc) hl hsz λv h' tk hv hk=>?_;obtain⟨t,rfl⟩:=intItems_at hv;obtain⟨h1,h2⟩:=argBest_gt (numAt xs) (xs.size-1);refine⟨.int _,H,I.kept (t':=tk) hk,⟨t,rfl⟩,q _ ?_ λk hk=>?_⟩
 ·rw[yd,Vf];exact To (by rw[ag,bS];(clear hc kU q hz hk h2;omega))
 ·rw[yd] at hk;obtain⟨j,hj,rfl⟩:=Tp hk;rw[ag,bS] at hj;rw[← Vf];exact h2 j (by (clear hc kU q hz hsz h1 h2;omega))
end
def Of (xs:List Nat):Prop:=xs.Pairwise (·<·)
theorem Of.lt {xs:List Nat} (h:Of xs) {i j a b:Nat} (oZ:i<j) (ha:xs[i]?=some a) (hb:xs[j]?=some b):a<b:=by
 obtain⟨h1,e1⟩:=af.mp ha;obtain⟨h2,e2⟩:=af.mp hb;have:=CO.mp h i j h1 h2 oZ;rw[e1,e2] at this;exact this
theorem wX (xs:Array Nat) (hr:Of xs.toList) (j:Nat):∀ (fuel lo hi:Nat),hi-lo<=fuel->lo<=hi->hi<=xs.size->(∀ (i v:Nat),i<lo->xs.toList[i]?=some v->v<j)->(∀ (i v:Nat),hi<=i->xs.toList[i]?=some v->j<=v) ->
  lX xs j fuel lo hi<=xs.size/\(∀ (i v:Nat),i<lX xs j fuel lo hi->xs.toList[i]?=some v->v<j)/\∀ (i v:Nat),lX xs j fuel lo hi<=i->xs.toList[i]?=some v->j<=v
 | 0,lo,hi,h1,h2,h3,h4,h5=>by
  have e:lo=hi:=by omega
  subst e;exact⟨h3,h4,h5⟩
 | fuel+1,lo,hi,h1,h2,h3,h4,h5=>by
  rw[lX]
  by_cases hl:lo<hi
  ·rw[if_pos hl];have hm:(lo+hi) / 2<xs.size:=by (clear h1 h2 h4 h5;omega)
   have hg:xs.toList[(lo+hi) / 2]?=some (xs.getD ((lo+hi) / 2) j):=by
    rw[eZ,dQ hm];simp[Array.getD,hm]
   dsimp only
   by_cases hc:xs.getD ((lo+hi) / 2) j<j
   ·rw[if_pos hc];refine wX xs hr j fuel _ _ (by (clear h5 hl hm hc h3 h4 h2;omega)) (by (clear h1 h2 h3 h4 hm hc h5;omega)) h3 (λi v R3 hv=>?_) h5
    by_cases e:i=(lo+hi) / 2
    ·subst e;rw[hg] at hv;cases hv;exact hc
    ·exact nv (hr.lt (by (clear h1 h2 h3 h4 h5 hl hm hc;omega)) hv hg) hc
   ·rw[if_neg hc];refine wX xs hr j fuel _ _ (by (clear h5 hl hm hc h3 h4 h2;omega)) (by (clear h1 h2 h3 h4 hm hc h5;omega)) (by (clear h1 h2 h3 h4 h5 hl hc;omega)) h4 (λi v R3 hv=>?_)
    by_cases e:i=(lo+hi) / 2
    ·subst e;rw[hg] at hv;cases hv;(clear h1 h2 h3 h4 h5 R3 hl hm;omega)
    ·have:=hr.lt (by (clear h1 h2 h3 h4 h5 hl hm hc;omega):(lo+hi) / 2<i) hg hv;(clear h1 h2 h3 h4 h5 hl R3 e hm;omega)
  ·rw[if_neg hl];have e:lo=hi:=by (clear h3 h4 h1 h5;omega)
   subst e;exact⟨h3,h4,h5⟩
theorem Fb (xs:Array Nat) (hr:Of xs.toList) (j:Nat):cD xs j<=xs.size/\(∀ (i v:Nat),i<cD xs j->xs.toList[i]?=some v->v<j)/\∀ (i v:Nat),cD xs j<=i->xs.toList[i]?=some v->j<=v :=
 wX xs hr j xs.size 0 xs.size (by omega) (bv _) (az _) (λi v h=>by omega) (λi v h e=>by
  have:=(af.mp e).1;rw[bS] at this;omega)
theorem FV {xs:Array Nat} (hr:Of xs.toList) {j:Nat} (hn:xs[cD xs j]?≠some j):Of (SetTable.insertAt xs (cD xs j) j).toList:=by
 obtain⟨h1,h2,h3⟩:=Fb xs hr j;rw[SetTable.toList_insertAt];have iz:∀ a∈xs.toList.take (cD xs j),a<j:=λa ha=>by
  obtain⟨i,hi⟩:=ce ha;have R3:i<cD xs j:=by
   have:=(af.mp hi).1;rw[cA] at this;omega
  rw[Ep R3] at hi;exact h2 i a R3 hi
 have hgt:∀ b∈xs.toList.drop (cD xs j),j<b:=λb hb=>by
  obtain⟨i,hi⟩:=ce hb;rw[kj] at hi;have hle:=h3 _ b (cP _ i) hi;rcases Nat.lt_or_eq_of_le hle with z | z
  ·exact z
  ·subst z;exfalso;cases i with
   | zero=>rw[Nat.add_zero,eZ] at hi;exact hn hi
   | succ i =>
    obtain⟨u,hu⟩:∃ u,xs.toList[cD xs j]?=some u:=by
     have hs:=(af.mp hi).1;have:cD xs j<xs.toList.length:=by (clear hn h1 h2 h3 iz hle;omega)
     exact⟨xs.toList[cD xs j],by simp⟩
    have a:=h3 _ u (az _) hu;have b:=hr.lt (by omega:cD xs j<cD xs j+(i+1)) hu hi;omega
 refine List.pairwise_append.mpr ⟨hr.sublist (OS _ _),ko.mpr ⟨hgt,hr.sublist (List.drop_sublist _ _)⟩,λa ha b hb=>?_⟩;rcases aB.mp hb with rfl | hb
 ·exact iz a ha
 ·exact nv (iz a ha) (hgt b hb)
structure Tab (led:Bool) (t:lW):Prop where
 led:t.led=led
 dum:t.dummies=#[]
 ris:Of t.place.toList
theorem Tab.standIn {led:Bool} {t:lW} (h:Tab led t) (n:Nat):Tab led (t.standIn n):=⟨h.led,rfl,by
 show Of (Array.range n).toList;rw[Array.toList_range];exact iK⟩
theorem GO (j:Nat):uf #[] j=false:=by
 unfold uf;simp
theorem Hv (t:lW) (j:Nat):t.slot j=if (t.place[cD t.place j]? == some j)=true then .live (cD t.place j) else if uf t.dummies j=true then .dummy else .empty:=rfl
theorem xI {t:lW} (hd:t.dummies=#[]) (f:Nat->Int) (h:Int):∀ (fuel:Nat) (p:SetTable.Probe) (j:Nat) (d:Option Nat),p.dummy=none->qp t f h fuel p=some (.empty j d)->d=none/\t.place[cD t.place j]?≠some j
 | 0,p,j,d,_,e=>by rw[qp] at e;cases e
 | fuel+1,p,j,d,hp,e=>by
  rw[qp] at e;have adg:(t.advance p).dummy=none:=by
   unfold SetTable.advance;split
   ·exact hp
   ·exact hp
  split at e
  ·rename_i hs;cases e;refine⟨hp,λhc=>?_⟩;rw[Hv,hc] at hs;simp at hs
  ·rename_i hs;rw[Hv,hd,GO] at hs;exfalso
   by_cases hb:(t.place[cD t.place p.j]? == some p.j)=true
   ·rw[if_pos hb] at hs;cases hs
   ·rw[if_neg hb] at hs;simp at hs
  ·split at e
   ·cases e
   ·exact xI hd f h fuel _ j d adg e
theorem Tab.layNew {led:Bool} {t:lW} (T:Tab led t) (es:Array (Int × ae)) (h:Int) (x:ae):Tab led (layNew t es h x).2.1:=by
 unfold PySem.layNew;cases e:t.freeSlot h with
 | none=>exact T.standIn _
 | some sw =>
  obtain⟨slot,wd⟩:=sw;dsimp only;have key:Tab led (t.put slot).1:=by
   have kU:t.place[cD t.place slot]?≠some slot:=by
    unfold SetTable.freeSlot at e;split at e
    ·rename_i j d hp;cases e;unfold SetTable.probe at hp;obtain⟨e1,e2⟩:=xI T.dum _ _ _ _ _ _ rfl hp;subst e1;exact e2
    ·cases e
   refine⟨T.led,?_,FV T.ris kU⟩;show (if uf t.dummies slot then _ else t.dummies)=#[];rw[T.dum,GO];rfl
  unfold SetTable.orStandIn;split
  ·exact key
  ·exact key.standIn _
theorem qP (f:Nat->Option Nat) (n:Nat):Of (((br n).filterMap λj=>(f j).map λk=>(j,k)).map (·.1)):=by
 have:Of (((br n).filterMap λj=>(f j).map λk=>(j,k)).map (·.1)):=by
  have e:((br n).filterMap λj=>(f j).map λk=>(j,k)).map (·.1)=(br n).filter λj=>(f j).isSome:=by
   induction (br n) with
   | nil=>rfl
   | cons a r ih =>
    cases h:f a with
    | none=>simp[fT,h,ih]
    | some k=>simp[fT,h,ih]
  rw[e];exact iK.sublist List.filter_sublist
 exact this
theorem Tab.ZD {led:Bool} {t:lW} (T:Tab led t) (es:Array (Int × ae)) (wanted:Nat):Tab led (BJ t es wanted).2.1:=by
 unfold BJ;cases e:t.relaid (es.map (·.1)) wanted with
 | none=>exact T.standIn _
 | some q =>
  obtain⟨t',order⟩:=q;dsimp only;split
  ·unfold SetTable.relaid SetTable.laid at e;cases e2:SetTable.layClean (Gw wanted-1) (es.map (·.1)) with
   | none=>rw[e2] at e;cases e
   | some owner =>
    rw[e2] at e;cases e;refine⟨T.led,rfl,?_⟩;have:=qP (λj=>owner.getD j none) (Gw wanted-1+1);simpa using this
  ·exact T.standIn _
def qH (P:aS) (w:bN) (h:cj) (a:ak) (led:Bool) (ks:List Int):Prop :=
 ∃ (o:dR) (es:Array (Int × ae)) (ep:Nat) (t:lW) (ns:List Int),h.get? a=some o/\o.ExactSet/\o.data=.set es ep t/\ElemsOf (kW P w) es.toList/\cL (es.toList.map (·.2)) ns/\ns.Nodup/\(∀ k,k∈ns↔k∈ks) /\
  es.size<rR/\t.fits es.size=true/\Tab led t
theorem qH.keep {P:aS} {w:bN} {h h':cj} {a:ak} {led:Bool} {ks:List Int} (S:qH P w h a led ks) (k:∀ o,h.get? a=some o->h'.get? a=some o):qH P w h' a led ks:=by
 obtain⟨o,es,ep,t,ns,e,r⟩:=S;exact⟨o,es,ep,t,ns,k o e,r⟩
theorem Jd:∀ {l l':List ae} {ns:List Int},l'.Perm l->cL l ns->∃ vM,cL l' vM/\vM.Perm ns:=by
 intro l l' ns hp
 induction hp generalizing ns with
 | nil=>intro h;exact⟨ns,h,.refl _⟩
 | cons x _ ih =>
  intro h;cases h with
  | cons n t r =>
   obtain⟨vM,h1,h2⟩:=ih r;exact⟨n::vM,.cons n t h1,h2.cons n⟩
 | swap x y l =>
  intro h;cases h with
  | cons n t r =>
   cases r with
   | cons m u r=>exact⟨m::n::_,.cons m u (.cons n t r),.swap n m _⟩
 | trans _ _ ih1 ih2 =>
  intro h;obtain⟨n1,a1,a2⟩:=ih2 h;obtain⟨n2,b1,b2⟩:=ih1 a1;exact⟨n2,b1,b2.trans a2⟩
theorem qY {l l':List (Int × ae)} {ns:List Int} (hp:l'.Perm l) (h:cL (l.map (·.2)) ns):∃ vM,cL (l'.map (·.2)) vM/\vM.Perm ns:=Jd (hp.map _) h
theorem gX:∀ (l1 l2:List Int),l1.Nodup->(∀ x∈l1,x∈l2)->l1.length<=l2.length
 | [],_,_,_=>bv _
 | x::l1,l2,hn,hs=>by
  have hx:x∈l2:=hs x aE;have UT:=(dt.mp hn).1;have:=gX l1 (l2.erase x) (dt.mp hn).2 λy hy=>(J2 (λe=>by subst e;exact UT hy)).mpr (hs y (aL _ hy));rw[Er hx] at this;have hp:0<l2.length:=Go hx;rw[bi];omega
theorem a0s {k:Int} {t:RL}:∀ {vs:List ae} {ns:List Int},cL vs ns->cL (vs++[.int k t]) (ns++[k])
 | _,_,.nil=>.cons k t .nil
 | _,_,.cons n u r=>.cons n u (a0s r)
theorem uJ {P:aS} {w:bN} {k:Int}:∀ {l:List (Int × ae)} {ns:List Int},cL (l.map (·.2)) ns->((∃ e∈l,(kW P w).is k e.2=true)↔k∈ns)
 | [],_,h=>by cases h;simp
 | (hh,v)::l,_,h=>by
  cases h with
  | cons n t r =>
   have ih:=uJ (P:=P) (w:=w) (k:=k) r;rw[aB,← ih];constructor
   ·rintro⟨e,he,q⟩;rcases aB.mp he with rfl | he
    ·obtain⟨u,z⟩:=Oh (k:=k) (v:=gK n t) q;injection z with z _;exact .inl z.symm
    ·exact .inr ⟨e,he,q⟩
   ·rintro (rfl | ⟨e,he,q⟩)
    ·exact⟨_,aE,by simp[kW,Iz]⟩
    ·exact⟨e,aL _ he,q⟩
theorem stored {h:cj} {a:ak} {ob:dR} {es:Array (Int × ae)} {ep:Nat} {t:lW} (ho:h.get? a=some ob) (hd:ob.data=.set es ep t) (Om:Array (Int × ae)) (t2:lW) :
  (h.update a (CP Om t2)).get? a=some { ob with data:=.set Om (ep+1) t2 }:=by
 have z:=iU (CP Om t2) ho (by rw[putSet_of Om t2 hd];rfl);rwa [putSet_of Om t2 hd] at z
section
variable {P:aS} {w:bN} {A:bA} {E:ae->ai->Prop}
theorem CZ {s:ai} {g:Bool->Tr Unit} (hg:∀ (b:Bool) (s1:ai) (Q1:Unit->ai->Prop),Q1 () s1->wpAny (bn P w) A (g b) Q1 E s1) {a:ak} {ob:dR} {es:Array (Int × ae)} {ep:Nat} {t:lW}
  (ho:s.heap.get? a=some ob) (hex:ob.ExactSet) (hd:ob.data=.set es ep t) {led:Bool} {ks:List Int} {uh:Array (Int × ae)} {t2:lW} {ns:List Int} (Po:ElemsOf (kW P w) uh.toList)
  (hi:cL (uh.toList.map (·.2)) ns) (nd:ns.Nodup) (hm:∀ k,k∈ns↔k∈ks) (hb:uh.size<rR) (hf:t2.fits uh.size=true) (hT:Tab led t2) {wd:Bool} {R:Option Bool->ai->Prop}
  (h:∀ h',jz a s.heap h'->qH P w h' a led ks->R (some true) { s with heap:=h' }) :
  wpAny (bn P w) A (storeSet a uh t2 >>= λ_=>if (!wd && t2.tooFull)=true then (g (BJ t2 uh (iW uh.size)).2.2 >>= λ_ =>
   storeSet a (BJ t2 uh (iW uh.size)).1 (BJ t2 uh (iW uh.size)).2.1 >>= λ_=>pure (some true)) else pure (some true)) R E s:=by
 refine ah (ab9 ho hd ?_ (aaW hb));have g1:=stored ho hd uh t2;have sb:=fz s.heap a (CP uh t2);have S1:qH P w (s.heap.update a (CP uh t2)) a led ks:=⟨_,uh,ep+1,t2,ns,g1,hex,rfl,Po,hi,nd,hm,hb,hf,hT⟩
 by_cases hc:(!wd && t2.tooFull)=true
 ·rw[if_pos hc];have pm:=relayAll_perm t2 uh (iW uh.size);have ft:=relayAll_fits t2 uh (iW uh.size);have T3:=hT.ZD uh (iW uh.size);generalize BJ t2 uh (iW uh.size)=q at pm ft T3 ⊢;obtain⟨Om,t3,gv⟩:=q;dsimp only at pm ft T3 ⊢;obtain⟨ns2,i2,p2⟩:=qY pm hi;have sz:Om.size=uh.size:=by rw[← bS,pm.length_eq,bS]
  have Pm:Om.size<rR:=by omega
  refine ah (hg _ _ _ (ah (ab9 g1 rfl ?_ (aaW Pm))));have g2:=stored g1 rfl Om t3;refine aH (h _ (sb.trans (fz _ a _)) ⟨_,Om,ep+1+1,t3,ns2,g2,hex,rfl,Po.perm pm,i2,p2.symm.nodup nd,λk=>(p2.mem_iff).trans (hm k),Pm,ft,T3⟩)
 ·rw[if_neg hc];exact aH (h _ sb S1)
theorem QU {s:ai} {a:ak} {led:Bool} {ks:List Int} {k:Int} {tk:RL} {Q:Bool->ai->Prop} (S:qH P w s.heap a led ks) (ag6:ks.length+1<rR)
  (h:∀ b h',jz a s.heap h'->qH P w h' a led (ks++[k])->Q b { s with heap:=h' }) :
  wpAny (bn P w) A (setAddHashed a (.int k tk) ((kW P w).hash k)) Q E s:=by
 obtain⟨ob,es,ep,t,ns,ho,hex,hd,Po,hi,nd,hm,hb,hf,hT⟩:=S;have Pu:(kW P w).is k (.int k tk)=true:=intKind_is _ _ _ _;have hsc:(gK k tk).scannable=true:=rfl;have tf:ns.length<=ks.length:=gX ns ks nd λx hx=>(hm x).mp hx;have hes:es.size=ns.length:=by
  have:=hi.length;rw[ag,bS] at this;exact this
 unfold setAddHashed setAddHashedIn;refine dj (ah (wpAny_setState_of ho hd hf ?_));dsimp only;rw[byScan_of hsc hb Po];simp only [↓reduceIte];unfold setAddByScan;refine ah (ah (zi (ah (wpAny_setScan_of Pu ho hd hf Po ?_))));cases hr:List.findIdx? (λe=>(kW P w).is k e.2) es.toList with
 | some j =>
  dsimp only;obtain⟨hj,hpj,_⟩:=List.findIdx?_eq_some_iff_getElem.mp hr;have lG:k∈ns:=(uJ (P:=P) (w:=w) hi).mp ⟨es.toList[j],cq hj,hpj⟩;refine aH (aH ?_);have z:=h false s.heap (Heap.SameBut.refl a s.heap) ⟨ob,es,ep,t,ns,ho,hex,hd,Po,hi,nd,λx=>?_,hb,hf,hT⟩
  ·exact z
  ·rw[bj,aP,hm x];exact⟨.inl,λq=>q.elim id λe=>by subst e;exact (hm _).mp lG⟩
 | none =>
  dsimp only;have adY:k ∉ ns:=λhk=>by
   obtain⟨e,he,q⟩:=(uJ (P:=P) (w:=w) hi).mpr hk;have:=List.findIdx?_eq_none_iff.mp hr e he;rw[q] at this;cases this
  have hgw:∀ (b:Bool) (s1:ai) (Q1:Unit->ai->Prop),Q1 () s1->wpAny (bn P w) A (match b with | true=>QP "set.scan.the-table-gave-way" | false=>pure ()) Q1 E s1:=λb s1 Q1 hq=>by
   cases b
   ·exact aH hq
   ·exact zi hq
  have pm:=layNew_perm t es ((kW P w).hash k) (.int k tk);have ft:=layNew_fits t es ((kW P w).hash k) (.int k tk);have T1:=hT.layNew es ((kW P w).hash k) (.int k tk);generalize layNew t es ((kW P w).hash k) (.int k tk)=q at pm ft T1 ⊢;obtain⟨uh,t1,wd,gv⟩:=q;dsimp only at pm ft T1 ⊢;rw[Array.toList_push] at pm;have XO:ElemsOf (kW P w) uh.toList:=(Po.push Pu hsc).perm pm;obtain⟨ns1,i1,p1⟩:=qY pm (ns:=ns++[k]) (by rw[aN];exact a0s hi);have nd1:ns1.Nodup:=p1.symm.nodup (eK.mpr ⟨nd,by simp,λx hx y hy=>by
   have:y=k:=by simpa using hy
   subst this;exact λe=>adY (e ▸ hx)⟩)
  have Lz:∀ x,x∈ns1↔x∈ks++[k]:=λx=>by rw[p1.mem_iff,bj,bj,hm x]
  have VM:uh.size=es.size+1:=by rw[← bS,pm.length_eq,aO,bS];rfl
  have Pl:uh.size<rR:=by omega
  refine ah (hgw _ _ _ ?_);have fin:∀ h',jz a s.heap h'->qH P w h' a led (ks++[k])->Q true { s with heap:=h' }:=λh' sb S'=>h true h' sb S';split
  ·refine ah ?_;rw[hashByValue_scannable 8 hsc];refine aH ?_;have e1:plainKind (gK k tk)=true:=rfl;rw[e1];refine CZ (g:=λb=>match b with | true=>QP "set.scan.the-table-gave-way" | false=>pure ()) hgw ho hex hd XO i1 nd1 Lz Pl ft T1 λh' sb S'=>?_;exact aH (fin h' sb S')
  ·refine ah (aH ?_);refine CZ (g:=λb=>match b with | true=>QP "set.scan.the-table-gave-way" | false=>pure ()) hgw ho hex hd XO i1 nd1 Lz Pl ft T1 λh' sb S'=>?_;exact aH (fin h' sb S')
end
end L2
namespace PySem
section
variable {prog:aS} {w:bN} {A:bA} {E:ae->ai->Prop} {s:ai}
theorem DV (v:ae) {Qn:ae->ai->Prop}
  (h:Qn (.ref s.heap.objs.size) { s with heap:=s.heap.push { cls:=.type "set",dict:=none,data:=.set #[] 0 (.fresh 0 0 (!w.params.followText "set-order")) } }) :
  codeAny (bn prog w) A (.call (.builtin "set.__new__") ⟨[.type "set",v],[]⟩) (wants Qn E) s:=by
 refine codeAny_of_tree ?_;show wpAny _ A.in1 (acM "set.__new__" ⟨[.type "set",v],[]⟩ >>= λ_=>again (.builtin "set.__new__" ⟨[.type "set",v],[]⟩)) _ _ s;refine ah (wpAny_of_eq (F.newCall_set_1 v) (aH ⟨yf aaD _,fu F.entry_set_new ?_⟩));rw[je aaD _];unfold iX.«set.__new__» SR;have tf:=sub_set_self;obtain⟨hp,g,d,tk,os⟩:=s;dsimp only
 wp_walk
 refine wpAny_askSetting (aH ?_);dsimp only;simp only [newObj];refine ah (V7 (aH ?_));exact aH h
end
end PySem
namespace L2
open PySem PySem.Spec PyProof.Rows
section
variable {P:aS} {w:bN} {A:bA} {R:yB->ai->Prop} {I:ak} {fp wr:List ak} {G:Array Im->Array Im->Prop} {n:Nat} {Pv:Nat->ae->Prop} {St:Nat->ai->Prop}
theorem M5 (W:WalksS P w A.in1 I fp wr G n Pv St) (a:ak) (hSf:a ∉ fp) (led:Bool) (val:Nat->Int) (UJ:∀ i v,Pv i v->∃ t,v=.int (val i) t) (hb:n+1<rR) :
  ∀ (k i:Nat) (s:ai),n-i=k->i<=n->St i s->qH P w s.heap a led ((br i).map val) ->
   (∀ s',Moved (a::wr) G s s'->qH P w s'.heap a led ((br n).map val)->R (.ok (.ret .none)) s') ->
   codeAny (bn P w) A (.builtin "set.update.loop" ⟨[.ref a,.ref I],[]⟩) R s:=by
 have hSw:a ∉ wr:=λh=>hSf (W.sub _ h);have tf:∀ b∈wr,b∈a::wr:=λb hb=>aL _ hb;intro k
 induction k with
 | zero =>
  intro i s hk hi Bt hS hR;obtain rfl:i=n:=by omega
  refine fu J0 ?_;rw[je qC _];show wpAny _ A.in1 (tJ (.ref I) >>= _) _ _ s;refine ah (W.done s _ _ Bt λs' hm=>?_);show wpAny _ A.in1 (ret nz) _ _ s';exact aH (hR s' (hm.mono tf) (hS.keep λo e=>hm.heap a o hSw e))
 | succ k ih =>
  intro i s hk hi Bt hS hR;have iz:i<n:=by omega
  refine fu J0 ?_;rw[je qC _];show wpAny _ A.in1 (tJ (.ref I) >>= _) _ _ s;refine ah (W.item i s _ _ iz Bt λv s1 hP aed hm=>?_);obtain⟨t,rfl⟩:=UJ i v hP;have S1:qH P w s1.heap a led ((br i).map val):=hS.keep λo e=>hm.heap a o hSw e;show wpAny _ A.in1 (j5 [gK (val i) t] (setAdd a (.int (val i) t)) >>= _) _ _ s1;refine ah (dj ?_);unfold setAdd;refine dj (ah ((kW P w).pyHash (k:=val i) (intKind_is _ _ _ _) ?_));refine QU (s:={ s1 with toks:=s1.toks+1 }) S1 (by rw[ag,OR];omega) λb h2 sb S2=>?_;have S3:qH P w h2 a led ((br (i+1)).map val):=by
   rw[iO,aN];exact S2
  refine aH ⟨yf qC _,ih (i+1) _ (by omega) iz (W.frame _ s1 _ _ aed (gU _) λc hc o e=>?_) S3 λs2 hm2 S4=>?_⟩
  ·rw[sb.2 c (λz:c=a=>hSf (by rw[← z];exact hc))];exact e
  ·refine hR s2 (Moved.trans W.gtrans ((hm.mono tf).then_heap (gU _) λc o hc e=>?_) hm2) S4;rw[sb.2 c (λz:c=a=>hc (by rw[z];exact aE))];exact e
end
theorem M4 {P:aS} {w:bN} {h:cj} {a:ak} {led:Bool} (e:h.get? a=some { cls:=.type "set",dict:=none,data:=.set #[] 0 (.fresh 0 0 led) }):qH P w h a led [] :=
 ⟨_,#[],0,.fresh 0 0 led,[],e,⟨rfl,rfl,rfl⟩,rfl,λe he=>by simp at he,.nil,nO,λk=>Iff.rfl,by decide,rfl,⟨rfl,rfl,Ce⟩⟩
end L2
namespace PySem
open L2
section
variable {prog:aS} {w:bN} {A:bA} {E:ae->ai->Prop} {s:ai}
theorem BD {l:ak} {items:Array ae} {ns:List Int} {Q:ae->ai->Prop} (hh:A.handled=none) (hl:s.heap.IsList l items) (hi:PyProof.Rows.IntsAre items.toList ns) (hb:items.size+1<rR)
  (h:∀ (h':cj) (tk:Nat),qH prog w h' s.heap.objs.size (!w.params.followText "set-order") ((br items.size).map λi=>ns.getD i 0)->(∀ b o,s.heap.get? b=some o->h'.get? b=some o)->Q (.ref s.heap.objs.size) { s with heap:=h',toks:=tk }) :
  wpAny (bn prog w) A (rF (.type "set") [.ref l]) Q E s:=by
 obtain⟨cc,tl,aj9⟩:=jR.mro;have agR:=jR.made;have tf:=jR.sub;refine JS (codeAny_of_tree ?_);show wpAny _ _ (callAny (.type "set") _) _ _ _;refine aH ⟨Code.quiet_builtin _ (by decide +kernel),fu F.entry_type_call ?_⟩;rw[Around.under_plain (weight_type_call_type "set" [.ref l] []) rfl];have hnt:=jR.notType;have Op:=jR.canCreate;have hct:=F.typeCall_set_1 (.ref l)
 repeat (any_goals (first | assumption | wp_step))
 refine lZ (DV (.ref l) (E:=E) (Qn:=λob s1=>ob=.ref s.heap.objs.size/\s1={ s with heap:=s.heap.push { cls:=.type "set",dict:=none,data:=.set #[] 0 (.fresh 0 0 (!w.params.followText "set-order")) } }) ⟨rfl,rfl⟩) λr s1 hr=>?_;generalize aj7:(!w.params.followText "set-order")=led at hr h;cases r with
 | error e=>exact hr
 | ok fl =>
  cases fl with
  | ret ob =>
   obtain⟨rfl,rfl⟩:=hr;have hS:(s.heap.push { cls:=.type "set",dict:=none,data:=.set #[] 0 (.fresh 0 0 led) }).get? s.heap.objs.size=some { cls:=.type "set",dict:=none,data:=.set #[] 0 (.fresh 0 0 led) }:=aQ _ rfl;have hT:Shared.TypeIs { s with heap:=s.heap.push { cls:=.type "set",dict:=none,data:=.set #[] 0 (.fresh 0 0 led) } } (.ref s.heap.objs.size) "set" := ⟨_,hS,rfl⟩
   have hli:=jR.init.lookup;have hbi:=jR.init.bind (.ref s.heap.objs.size)
   repeat (any_goals (first | assumption | wp_step))
   refine lZ (codeAny_call_builtin (R:=wants (λr s2=>r=.none/\∃ h' tk,s2={ s with heap:=h',toks:=tk }/\qH prog w h' s.heap.objs.size led ((br items.size).map λi=>ns.getD i 0) /\
     (∀ b o,s.heap.get? b=some o->h'.get? b=some o)) E) jR.init.plain F.entry_set_init (check_set_init_1 hT ?_)) λr2 s2 hr2=>?_
   ·obtain⟨ol,hol,Os,nl,Pn⟩:=hl;obtain⟨als,Zc,ahD,Vp⟩:=ol;simp only at Os Pn;subst Os;subst Pn;have ad2:(s.heap.push { cls:=.type "set",dict:=none,data:=.set #[] 0 (.fresh 0 0 led) }).get? l=some { cls:=.type "list",dict:=Zc,data:=.seq items nl,slots:=Vp }:=al _ hol;have akv:=F.sub_list_set;have aku:=F.sub_list_frozenset;have Dp:(jV "list" == jV "dict")=false:=by decide
    have qX:(s.heap.push { cls:=.type "set",dict:=none,data:=.set #[] 0 (.fresh 0 0 led) }).IsList l items:=⟨_,ad2,rfl,nl,rfl⟩
    unfold iX.«set.__init__» noKeywords SS;generalize hPI:QE=PI
    wp_walk
    subst hPI;refine f6 qX ?_;refine ah (wpAny_runValue ?_);have hlS:l<s.heap.objs.size:=aF hol;have IU:A.in1.in1.in1.handled=none:=by simp[hh]
    have hsz:(s.heap.push { cls:=.type "set",dict:=none,data:=.set #[] 0 (.fresh 0 0 led) }).objs.size=s.heap.objs.size+1:=cR ..;have adW:l≠(s.heap.push { cls:=.type "set",dict:=none,data:=.set #[] 0 (.fresh 0 0 led) }).objs.size:=by rw[hsz];exact aK (cn hlS)
    have hSf:s.heap.objs.size ∉ [(s.heap.push { cls:=.type "set",dict:=none,data:=.set #[] 0 (.fresh 0 0 led) }).objs.size,l]:=by
     rw[hsz];intro z;rcases aB.mp z with z | z
     ·exact absurd z (aK (cJ _))
     ·exact absurd (aP.mp z) (bC hlS)
    have UJ:∀ (i:Nat) (v:ae),items[i]?=some v->∃ t,v=.int ((λi=>ns.getD i 0) i) t:=λi v hv=>Oa hi i v (by rw[eZ];exact hv);refine M5 ((Walks.list IU _ l adW items).toS) s.heap.objs.size hSf led (λi=>ns.getD i 0) UJ hb (items.size-0) 0 _ (by omega) (bv _) ⟨⟨_,aQ _ rfl,rfl,rfl⟩,qX.push _⟩ ?hS0 ?hR
    case hS0=>exact M4 (al _ hS)
    case hR =>
     intro s' hm hS';obtain⟨h',g',d',NH,os'⟩:=s';have eg:g'=s.gens:=hm.gens;have ed:d'=s.drawn:=hm.drawn;have eo:os'=s.os:=hm.os;subst eg;subst ed;subst eo;show wpAny _ _ _ _ _ _;refine aH ?_;show wpAny _ _ (ret nz) _ _ _;refine aH ⟨rfl,h',NH,rfl,hS',λb o e=>hm.heap b o (λz=>?_) (al _ (al _ e))⟩;have iz:=aF e;rcases aB.mp z with z | z
     ·exact absurd z (aK iz)
     ·have z':=aP.mp z;rw[hsz] at z';exact absurd z' (aK (cn iz))
   ·cases r2 with
    | error e=>exact hr2
    | ok fl2 =>
     cases fl2 with
     | ret r =>
      obtain⟨rfl,h',tk,rfl,hS',hk'⟩:=hr2
      repeat (any_goals (first | assumption | wp_step))
      exact h _ _ hS' hk'
     | _=>exact hr2.elim
  | _=>exact hr.elim
end
end PySem
namespace PySem.F
end PySem.F
namespace L2
open PySem PySem.Spec PyProof.Rows
section
variable {P:aS} {w:bN} {A:bA} {E:ae->ai->Prop} {s:ai}
end
section
variable {P:aS} {w:bN} {A:bA} {E:ae->ai->Prop} {s:ai}
end
section
variable {P:aS} {w:bN} {A:bA} {E:ae->ai->Prop} {s:ai}
theorem a0y {α:Type} (d:α) (L:List α):(br L.length).map (λp=>L.getD p d)=L:=by
 refine c6 λi=>?_
 by_cases h:i<L.length
 ·simp[List.getD,h]
 ·rw[bo (by simp;omega),bo (by omega)]
end
section
variable {P:aS} {w:bN} {A:bA} {E:ae->ai->Prop} {s:ai}
end
theorem QN {ns:List Int} (h:ns.Pairwise (·<=·)) (d:ns.Nodup):ns.Pairwise (·<·):=by
 refine (h.and d).imp λcW=>?_;obtain⟨a,b⟩:=cW;omega
theorem zI (ns:List Int):(ns.map V.int).all sU=true:=by rw[f9];intro v hv;obtain⟨i,_,rfl⟩:=aM.mp hv;rfl
theorem xq (x:Int) (ns:List Int):WM (.int x) (ns.map V.int)=decide (x∈ns):=by
 unfold WM;rw[List.any_map,eM,decide_eq_true_iff,lO];constructor
 ·rintro⟨y,hy,e⟩;have:y=x:=by simpa [Fi] using e
  exact this ▸ hy
 ·intro h;exact⟨x,h,by simp[Fi]⟩
theorem eG {ns:List Int} {i:Nat} {x:V} (h:(ns.map V.int)[i]?=some x):∃ z,ns[i]?=some z/\x=.int z:=by
 rw[aI] at h;cases e:ns[i]? with
 | none=>rw[e] at h;cases h
 | some z=>rw[e] at h;exact⟨z,rfl,(ck h).symm⟩
theorem oR {n m:Nat} (h:n<=m) (hm:m+1<=1000000:=by decide):n<aJ:=a0b (n:=n+1) (m:=m+1) (Nat.succ_le_succ h) hm
theorem cz {xs:List Int} {i:Nat} {z:Int} (h:xs[i]?=some z) {x:Int}:x∈xs.take (i+1)↔x∈xs.take i\/x=z:=by
 rw[bw,h];simp
def del (H:Hp) (g:ak):Hp:=λb=>if b=g then none else H b
theorem gc {H:Hp} {g b:ak} (h:b≠g):del H g b=H b:=if_neg h
theorem Bk {H:Hp} {g:ak} {o:HO}:del (upd H g o) g=del H g:=by
 funext b
 by_cases e:b=g
 ·unfold del;rw[if_pos e,if_pos e]
 ·rw[gc e,gc e,bK e]
theorem sQ (H:Hp) (g:ak):bp (del H g) H:=λb o e=>by
 by_cases q:b=g
 ·unfold del at e;rw[if_pos q] at e;cases e
 ·rw[gc q] at e;exact e
theorem Dd {H H':Hp} (s:bp H H') (g:ak):bp (del H g) (del H' g):=λb o e=>by
 by_cases q:b=g
 ·unfold del at e;rw[if_pos q] at e;cases e
 ·rw[gc q] at e;rw[gc q];exact s b o e
def LJ (H H2:Hp) (g:ak):Hp:=kO H (del H2 g)
structure Gh {α:Type} (R:Rel α) (H H2:Hp) (g:ak) (xs:List α):Prop where
 g0:H g=none
 s:bp H H2
 ex:∃ vs,H2 g=some (.lst vs)/\dE (R (LJ H H2 g)) xs vs
section
variable {α:Type} {R:Rel α} {H H1 H2 H3:Hp} {g:ak} {xs:List α}
theorem Gh.start (s:bp H H1) (h:H1 g=none):Gh R H (upd H1 g (.lst [])) g []:=⟨s.free h,s.trans (ay h _),[],au,.nil⟩
theorem Gh.go (m:hV R) (b:Gh R H H2 g xs) (s:bp H2 H3):Gh R H H3 g xs:=by
 obtain⟨g0,s0,vs,h,p⟩:=b;exact⟨g0,s0.trans s,vs,s _ _ h,dq m (n5 (bp.refl _) (Dd s g)) p⟩
theorem Gh.push (m:hV R) (b:Gh R H H2 g xs) (s:bp H2 H3) {x:α} {v:V} (r:R (kO H2 H3) x v):∃ vs,H3 g=some (.lst vs)/\vs.length=xs.length/\Gh R H (upd H3 g (.lst (vs++[v]))) g (xs++[x]):=by
 have b3:=b.go m s;obtain⟨g0,s0,vs,h,p⟩:=b3;refine⟨vs,h,p.length.symm,g0,s0.put g0 _,vs++[v],au,?_⟩;have e:LJ H (upd H3 g (.lst (vs++[v]))) g=LJ H H3 g:=by unfold LJ;rw[Bk]
 rw[e];refine Paired.app p (.cons (m.up (λc o q=>?_) r) .nil);have Ez:H2 c=none:=by
  cases z:H2 c with
  | none=>rfl
  | some u=>rw[uP z] at q;cases q
 rw[i5 Ez] at q;have hcg:c≠g:=λz=>by subst z;rw[b.ex.choose_spec.1] at Ez;cases Ez
 unfold LJ;rw[i5 (b.s.free Ez),gc hcg];exact q
theorem Gh.done (m:hV R) (b:Gh R H H2 g xs):hU R (kO H H2) xs (.ref g):=by
 obtain⟨g0,s0,vs,h,p⟩:=b;exact⟨g,vs,rfl,by rw[i5 g0];exact h,dq m (n5 (bp.refl _) (sQ _ _)) p⟩
theorem Gh.sq (b:Gh R H H2 g xs):∃ vs,H2 g=some (.lst vs)/\vs.length=xs.length:=by
 obtain⟨vs,h,p⟩:=b.ex;exact⟨vs,h,p.length.symm⟩
end
theorem v7 {H H1 H2:Hp} (s:bp H1 H2):bp (kO H H1) (kO H H2):=n5 (bp.refl _) s
theorem P6 {H H1 H2:Hp} (s:bp H H1):bp (kO H1 H2) (kO H H2):=n5 s (bp.refl _)
theorem DH {H H':Hp} {p:ak} {ns:List Int} (h:H p=none) (h':H' p=some (.lst (ns.map V.int))):hU iA (kO H H') ns (.ref p):=mi.mpr ⟨p,rfl,by rw[i5 h];exact h'⟩
abbrev Row:=Int × Int × List Int
abbrev JC:Rel Row:=rT3 iA iA (hU iA)
abbrev jj:Rel (List Row):=hU JC
theorem pV:hV JC:=P4 fg fg (dO fg)
theorem dB:hV jj:=dO pV
theorem JD {H:Hp} {r:Row} {v:V} (h:JC H r v):∃ t wa,v=.ref t/\H t=some (.tup [.int r.1,.int r.2.1,.ref wa])/\H wa=some (.lst (r.2.2.map V.int)):=by
 obtain⟨t,x,y,z,rfl,h1,h2,h3,h4⟩:=h;obtain⟨wa,rfl,h5⟩:=mi.mp h4;cases h2;cases h3;exact⟨t,wa,rfl,h1,h5⟩
theorem Hr {H H1:Hp} {h r:Int} {ws:List Int} {wa t:ak} (s:bp H H1) (h1:H wa=none) (h2:H1 wa=some (.lst (ws.map V.int))) (ht:H1 t=none):JC (kO H (upd H1 t (.tup [.int h,.int r,.ref wa]))) (h,r,ws) (.ref t):=by
 refine⟨t,_,_,_,rfl,?_,rfl,rfl,DH h1 ?_⟩
 ·rw[i5 (s.free ht),au]
 ·rw[bK (cQ h2 ht)];exact h2
theorem dZ {H:Hp} {G:List Row} {v:V} (h:jj H G v):∃ g vs,v=.ref g/\H g=some (.lst vs)/\vs.length=G.length /\
  ∀ (i:Nat) (r:Row),G[i]?=some r->∃ t wa,vs[i]?=some (.ref t)/\H t=some (.tup [.int r.1,.int r.2.1,.ref wa])/\H wa=some (.lst (r.2.2.map V.int)):=by
 obtain⟨g,vs,rfl,h1,p⟩:=h;refine⟨g,vs,rfl,h1,p.length.symm,λi r hr=>?_⟩;obtain⟨y,hy,ry⟩:=Paired.at p hr;obtain⟨t,wa,rfl,h2,h3⟩:=JD ry;exact⟨t,wa,hy,h2,h3⟩
theorem acX {α:Type} {xs:List α} {z:Int} (h0:0<=z) (h1:z<xs.length):∃ x,xs[z.toNat]?=some x:=⟨xs[z.toNat]'(by omega),by simp⟩
theorem lQ {vs:List V} {z:Int} {v:V} (h0:0<=z) (h:vs[z.toNat]?=some v):vX vs z=some v:=by
 have:=bu h;rwa [m4 h0] at this
section
variable {X:Cx} {K:aj} (hK:X.K=K)
include hK
theorem m5:W5 X (Zz K):=by subst hK;exact PX
theorem jM:W5 X (ZA K):=by subst hK;exact U0
theorem slL:SlR X (ZC K):=by subst hK;exact QX
theorem FJ:ux X (dF .NotIn) (rIn K true):=by subst hK;exact BC
theorem eV:kF X (.builtin "len") (λxs H Q=>∃ p ys,xs=[.ref p]/\(bQ K H p ys\/eU K H p ys)/\Q (.int ys.length) H):=by subst hK;exact Be
theorem Bi:kF X (.type "list") (λxs H Q=>∃ p ys,xs=[.ref p]/\(bQ K H p ys\/eU K H p ys)/\∀ l,H l=none->Q (.ref l) (upd H l (.lst ys))):=by subst hK;exact Bf
theorem wZ {T:String}:kF X (.builtin "isinstance") (λxs H Q=>∃ x S b,xs=[x,.ty T]/\GW H x S/\fw K (.type S) (.type T)=some b/\Q (.bl b) H):=by subst hK;exact KW
theorem afi {x y z:bc} {p1 p2 p3 pos:hW} {k:Nat} (hc:X.calm=true) (hN:X.N.Nodup) (h0:X.N[0]?=some x) (h1:X.N[1]?=some y) (h2:X.N[2]?=some z) (hx:X.env.scope.names.lookup x=some .local) (hy:X.env.scope.names.lookup y=some .local)
  (hz:X.env.scope.names.lookup z=some .local):Cg X 3 (.Tuple [.Name x p1,.Name y p2,.Name z p3] k pos) (xT K 3):=by subst hK;exact MP hc hN h0 h1 h2 hx hy hz
theorem JA {x y:bc} {p1 p2 pos:hW} {k:Nat} (hc:X.calm=true) (hN:X.N.Nodup) (h0:X.N[0]?=some x) (h1:X.N[1]?=some y) (hx:X.env.scope.names.lookup x=some .local) (hy:X.env.scope.names.lookup y=some .local) :
  Cg X 2 (.Tuple [.Name x p1,.Name y p2] k pos) (xT K 2):=by subst hK;exact MO hc hN h0 h1 hx hy
end
theorem cY {K:aj} {a:ak} {xs:List V} {tt:CW} {tc:TT} {te:TE} {cap:List Nat} {σ:St} {H:Hp} {D:ak->List V->Hp->Prop} (Pv:Nat->List V->Hp->Prop) (h0:Pv 0 [] H) (hz:xs.length<=aJ) (hl:∀ i ys H,i<=xs.length->Pv i ys H->bQ K H a xs/\ys.length<=i)
  (hs:∀ i x ys H,xs[i]?=some x->Pv i ys H->tt x H λws=>tc (ws.map some++ix σ cap) H λb H4=>if b=true then te (ws.map some++ix σ cap) H4 λy H5=>Pv (i+1) (ys++[y]) H5 else Pv (i+1) ys H4)
  (hd:∀ ys H,Pv xs.length ys H->∀ p,H p=none->D p ys H) :
  ∃ W:Nat->Nat->List V->Hp->Prop,(∃ m,W 0 m [] H)/\∀ i m ys H2,W i m ys H2 ->
  ((zm K a).stop i H2/\ys.length<=aJ/\∀ p,H2 p=none->D p ys H2) \/
  ((zm K a).go i H2/\∃ N:List V->Hp->Prop,(∀ Cu H',N Cu H'->Cu.length<=aJ/\∃ m',m'<m/\W (i+1) m' Cu H') /\
   ∀ x H3,(zm K a).Eo i H2 x H3->tt x H3 λws=>tc (ws.map some++ix σ cap) H3 λb H4 =>
    if b=true then te (ws.map some++ix σ cap) H4 λy H5=>N (ys++[y]) H5 else N ys H4):=by
 refine⟨λi m ys H=>m=xs.length-i/\i<=xs.length/\Pv i ys H,⟨xs.length,by simp,bv _,h0⟩,?_⟩;rintro i m ys H2 ⟨rfl,hi,p⟩;obtain⟨q,hy⟩:=hl i ys H2 hi p
 by_cases iz:i<xs.length
 ·refine .inr ⟨⟨xs,xs[i],q,by simp[iz]⟩,Pv (i+1),λCu H' r=>?_,λx H3 y=>?_⟩
  ·obtain⟨_,h2⟩:=hl (i+1) Cu H' iz r;exact⟨by omega,xs.length-(i+1),by omega,rfl,iz,r⟩
  ·obtain⟨e,y⟩:=y;subst e;exact hs i x ys _ (y xs q) p
 ·have e:i=xs.length:=by omega
  subst e;exact .inl ⟨⟨xs,q,az _⟩,by omega,hd ys H2 p⟩
theorem ve {lo:Int} {n:Nat} {tt:CW} {tc:TT} {te:TE} {cap:List Nat} {σ:St} {H:Hp} {D:ak->List V->Hp->Prop} (Pv:Nat->List V->Hp->Prop) (h0:Pv 0 [] H) (hz:n<=aJ) (hl:∀ i ys H,i<=n->Pv i ys H->ys.length<=i)
  (hs:∀ i ys H,i<n->Pv i ys H->tt (.int (lo+i)) H λws=>tc (ws.map some++ix σ cap) H λb H4=>if b=true then te (ws.map some++ix σ cap) H4 λy H5=>Pv (i+1) (ys++[y]) H5 else Pv (i+1) ys H4)
  (hd:∀ ys H,Pv n ys H->∀ p,H p=none->D p ys H) :
  ∃ W:Nat->Nat->List V->Hp->Prop,(∃ m,W 0 m [] H)/\∀ i m ys H2,W i m ys H2 ->
  ((OP lo n).stop i H2/\ys.length<=aJ/\∀ p,H2 p=none->D p ys H2) \/
  ((OP lo n).go i H2/\∃ N:List V->Hp->Prop,(∀ Cu H',N Cu H'->Cu.length<=aJ/\∃ m',m'<m/\W (i+1) m' Cu H') /\
   ∀ x H3,(OP lo n).Eo i H2 x H3->tt x H3 λws=>tc (ws.map some++ix σ cap) H3 λb H4 =>
    if b=true then te (ws.map some++ix σ cap) H4 λy H5=>N (ys++[y]) H5 else N ys H4):=by
 refine⟨λi m ys H=>m=n-i/\i<=n/\Pv i ys H,⟨n,by simp,bv _,h0⟩,?_⟩;rintro i m ys H2 ⟨rfl,hi,p⟩;have hy:=hl i ys H2 hi p
 by_cases iz:i<n
 ·refine .inr ⟨iz,Pv (i+1),λCu H' r=>?_,λx H3 y=>?_⟩
  ·have h2:=hl (i+1) Cu H' iz r;exact⟨by omega,n-(i+1),by omega,rfl,iz,r⟩
  ·obtain⟨e,y⟩:=y;subst e;subst y;exact hs i ys _ iz p
 ·have e:i=n:=by omega
  subst e;exact .inl ⟨az _,by omega,hd ys H2 p⟩
theorem Inv.qB {X:Cx} {pins:List (ak × dR)} {σ:St} {H:Hp} {s:ai} {h':cj} {t':Nat} {ch:List ak} (I:Inv X pins σ H s) (hf:∀ b∈ch,mv X pins H b) (k:∀ b o,b ∉ ch->s.heap.get? b=some o->h'.get? b=some o) :
  Inv X pins σ H { s with heap:=h',toks:=t' }:=by
 have Y3:∀ b u,H b=some u->b ∉ ch:=λb u e z=>by rw[(hf b z).1] at e;cases e
 refine I.step (g':=s.gens) (d':=s.drawn) (ch:=ch) (λb hb=>?_) (λb o _ _ hc e _=>k b o hc e) (λb o _ _ hc e _=>⟨o.slots,k b o hc e⟩) (λ_ _ _ _ n=>n)
  (λb o hc e=>⟨o,k b o hc e⟩) (λ_ _ e=>e) (λ_ _ _ e=>e) (λb ps e=>⟨#[],by rw[e];simp⟩) (λm hm=>?_) (λb u e=>?_) I.bare
 ·obtain⟨_,h1,_,h3,h4,h5⟩:=hf b hb;exact⟨h3,h1,h4,h5⟩
 ·obtain⟨o,es,ep,ho,r⟩:=hm;exact⟨o,es,ep,k _ o (λz=>(hf _ z).2.1 rfl) ho,r⟩
 ·refine (I.cZ b u e).B4 (λc v hc q=>k c v ?_ q) (λ_ q=>q) λ_ _ q=>q;rcases hc with z | z
  ·rw[z];exact Y3 b u e
  ·exact Y3 c _ z
theorem Inv.adopt {X:Cx} {pins:List (ak × dR)} {σ:St} {H:Hp} {s:ai} {T:ak} {o:HO} (I:Inv X pins σ H s) (hf:mv X pins H T) (new:gu X.prog X.w (upd H T o) s.heap T o):Inv X pins σ (upd H T o) s:=by
 obtain⟨h0,h1,h2,h3,h4,h5⟩:=hf;refine I.step (h':=s.heap) (g':=s.gens) (d':=s.drawn) (t':=s.toks) (ch:=[T]) (λb hb=>?_) (λb u _ _ _ e _=>e) (λb u _ _ _ e _=>⟨u.slots,e⟩) (λb u hc e n=>?_)
  (λb u _ e=>⟨u,e⟩) (λb xs e=>?_) (λb u v e=>?_) (λb ps e=>⟨#[],?_⟩) (λm hm=>hm) (I.cZ.adopt h0 new) I.bare
 ·have e:b=T:=by simpa using hb
  subst e;exact⟨h3,h1,h4,h5⟩
 ·rw[bK (λz=>hc (by simp[z]))];exact n
 ·rw[bK (cQ e h0)];exact e
 ·rw[bK (cQ e h0)];exact e
 ·rw[bK (cQ e h0),e];simp
def W4 (K:aj) (a:ak):It :=
 ⟨λi H=>∃ xs x,bQ K H a xs/\xs[i]?=some x,λi H v H'=>∃ T x,v=.ref T/\H T=none/\(∀ xs,bQ K H a xs->xs[i]?=some x)/\H'=upd H T (.tup [.int (i:Nat),x]),λi H=>∃ xs,bQ K H a xs/\xs.length<=i⟩
theorem JL {P:aS} {w:bN} {K:aj} {elts:List b6} {k:Nat} {pos:hW} (a e it:ak) (kU:e≠it):Turn P w K (.Tuple elts k pos) (W4 K a) [e,it] e (λi h=>(∃ old,IsEnum h e it (i:Nat) old)/\h.IsListIter it a i) where
 mem:=by simp
 obj := λi h st b hb=>by
  obtain⟨⟨old,s1⟩,o,e1,c,d⟩:=st;rcases aB.mp hb with z | z
  ·subst z;exact⟨_,s1,λv z=>by cases z⟩
  ·have z:b=it:=by simpa using z
   subst z;exact⟨o,e1,λv z=>by rw[d] at z;cases z⟩
 keep:=λi h h' st k=>⟨by obtain⟨⟨old,s1⟩,_⟩:=st;exact⟨old,k e (by simp) _ s1⟩,st.2.at λo q=>k it (by simp) o q⟩
 item:=by
  intro X hP hw hK hc i pins s σ H E I hf st hg;subst hP hw hK;obtain⟨xs,x,hq,hx⟩:=hg;obtain⟨cw,rv,p,hz⟩:=I.list hq;obtain⟨u,hu,ru⟩:=rv.get hx;obtain⟨⟨old,s1⟩,s2⟩:=st;have le:e<s.heap.objs.size:=aF s1;refine wpAny_pyNext_enum_item s1 s2 p.isList (x:=u) (by simpa using hu) kU λh' ho R3 ht hsz kp=>?_;refine⟨_,rfl,wpAny_letOwnedTupleGo_enum ho λh2 he2 sb=>?_⟩;have I1:Inv X pins σ H { s with heap:=h2,toks:=s.toks+1 }:=I.qB (t':=s.toks+1) (ch:=[e,it]) hf λb o hb q=>by
   have Oo:b≠e:=λz=>hb (by simp[z]);have hbi:b≠it:=λz=>hb (by simp[z]);exact (sb.2 b Oo).trans (kp b o Oo hbi q)
  have hT:h2.get? s.heap.objs.size=some { cls:=.type "tuple",data:=.seq #[gK (i:Nat) s.toks,u] }:=(sb.2 _ (bC le)).trans ht;have RY:H s.heap.objs.size=none:=I.cZ.fresh (az _);have vs2:Vals [V.int (i:Nat),x] [gK (i:Nat) s.toks,u]:=.cons ⟨s.toks,rfl⟩ (.cons ru .nil);have I2:=I1.adopt (o:=.tup [.int (i:Nat),x]) (I.vF (az _) RY) ⟨(by show 2<=aJ;decide),[gK (i:Nat) s.toks,u],vs2,⟨_,hT,rfl,_,rfl⟩⟩;have en:IsEnum h2 e it ((i+1:Nat):Int) u:=by
   have e1:((i+1:Nat):Int)=((i:Nat):Int)+1:=by omega
   rw[e1];exact he2
  refine⟨.ref s.heap.objs.size,_,I2,rfl,⟨_,x,rfl,RY,λys hy=>by rw[I.mH hy hq];exact hx,rfl⟩,⟨⟨u,en⟩,R3.at λo q=>(sb.2 it (dG kU)).trans q⟩,λb hb=>?_⟩;rw[bK (λz=>?_)]
  ·exact (hf b hb).1
  ·subst z;rcases aB.mp hb with z | z
   ·exact absurd z (bC le)
   ·have z:s.heap.objs.size=it:=by simpa using z
    obtain⟨o,q,_⟩:=s2;exact absurd z (bC (aF q))
 done:=by
  intro X hP hw hK hc i pins s σ H E I hf st hg;subst hP hw hK;obtain⟨xs,hq,hx⟩:=hg;obtain⟨cw,rv,p,hz⟩:=I.list hq;obtain⟨⟨old,s1⟩,s2⟩:=st;have hl:=rv.length;refine wpAny_pyNext_enum_end (I.ok.hd hc) s1 s2 p.isList (by simp;omega) λh' eb=>⟨rfl,?_⟩
  exact I.qB (t':=s.toks) (ch:=[it]) (λb hb=>hf b (aL _ hb)) λb o hb q=>eb b o (λz=>hb (by simp[z])) q
 self:=λ_ _ _ _ _ st h=>ab8 st.1.choose_spec h
def YO (K:aj) (ta:TA):TI:=λσ H R=>ta σ H λvs H1=>∃ a,vs=[.ref a]/\(∃ xs,bQ K H1 a xs)/\R (W4 K a) H1
theorem BI {X:Cx} {K:aj} {elts:List b6} {k:Nat} {ze:hW} {l:b6} {ta:TA} {p pos:hW} (hK:X.K=K) (hg:Gl X "enumerate") (hm:X.mg "enumerate" = none) (ha:PA X [l] ta) (hs:bD [l] X.env=[(false,eO l X.env)]:=by rfl) :
  PI X (.Tuple elts k ze) (.Call (.Name "enumerate" p) [l] [] pos) (YO K ta):=by
 subst hK;intro pins s σ H R I h;refine SU (lI I hg hm PyProof.Rows.boot_enumerate (dk (eY (ha pos pins s σ H _ I h) λus s1 cW=>?_) hs rfl));obtain⟨vs,H1,I1,r1,q1⟩:=cW;obtain⟨a,rfl,⟨xs,hq⟩,q⟩:=q1;obtain⟨u,rfl,ru⟩:=a0e r1;cases ru;obtain⟨cw,rv,p,hz⟩:=I1.list hq;refine call_enumerate_list p.isList λh' he hi hsz kp=>?_;refine ab8 he ?_;refine⟨s1.heap.objs.size+1,[s1.heap.objs.size+1,s1.heap.objs.size],_,_,H1,rfl,I1.kept (t':=s1.toks) kp,JL a _ _ (lV _),⟨⟨_,he⟩,hi⟩,λb hb=>?_,q⟩;have IR:s1.heap.objs.size<=b:=by
  rcases aB.mp hb with z | z
  ·rw[z];exact gU _
  ·have z:b=s1.heap.objs.size:=by simpa using z
   rw[z];exact az _
 exact I1.vF IR (I1.cZ.fresh IR)
theorem xh {K:aj} {a:ak} {xs:List V} {g:TG} {tb:TS} {D:Ends} {σ:St} {H:Hp} (Pv:Nat->St->Hp->Prop) (h0:Pv 0 σ H) (hl:∀ i σ H,i<=xs.length->Pv i σ H->bQ K H a xs)
  (hs:∀ i x σ H T,xs[i]?=some x->Pv i σ H->H T=none->g (.ref T) σ (upd H T (.tup [.int (i:Nat),x])) λσ2 H2=>tb { D with nx:=Pv (i+1),ct:=Pv (i+1),bk:=D.nx } σ2 H2) (hd:∀ σ H,Pv xs.length σ H->D.nx σ H) :
  ∃ W:Nat->Nat->St->Hp->Prop,(∃ m,W 0 m σ H)/\∀ i m σ H,W i m σ H ->
   ((W4 K a).stop i H/\D.nx σ H)\/((W4 K a).go i H/\∃ N:St->Hp->Prop,(∀ σ' H',N σ' H'->∃ m',m'<m/\W (i+1) m' σ' H')/\∀ x H',(W4 K a).Eo i H x H'->g x σ H' λσ2 H2=>tb { D with nx:=N,ct:=N,bk:=D.nx } σ2 H2):=by
 refine⟨λi m σ H=>m=xs.length-i/\i<=xs.length/\Pv i σ H,⟨xs.length,by simp,bv _,h0⟩,?_⟩;rintro i m σ H ⟨rfl,hi,p⟩;have q:=hl i σ H hi p
 by_cases iz:i<xs.length
 ·refine .inr ⟨⟨xs,xs[i],q,by simp[iz]⟩,Pv (i+1),λσ' H' p'=>⟨xs.length-(i+1),by omega,rfl,iz,p'⟩,λx H' y=>?_⟩;obtain⟨T,z,rfl,hT,y,rfl⟩:=y;exact hs i z σ _ T (y xs q) p hT
 ·have e:i=xs.length:=by omega
  subst e;exact .inl ⟨⟨xs,q,az _⟩,hd σ H p⟩
end L2
namespace L2
open PySem
theorem zY {α β:Type} {F:α->β->Prop}:∀ {xs:List α} {ys:List β},xs.length=ys.length->(∀ (i:Nat) x y,xs[i]?=some x->ys[i]?=some y->F x y)->dE F xs ys
 | [],[],_,_=>.nil
 | x::xs,y::ys,hl,h=>.cons (h 0 x y rfl rfl) (zY (by simpa using hl) λi a b ha hb=>h (i+1) a b (by simpa using ha) (by simpa using hb))
 | [],_::_,hl,_=>by cases hl
 | _::_,[],hl,_=>by cases hl
structure Cells (H:Hp) (r:ak) (as:List ak) (Ls:List (List Int)):Prop where
 hd:H r=some (.lst (as.map V.ref))
 nd:as.Nodup
 rn:r ∉ as
 len:as.length=Ls.length
 cell:∀ (i:Nat) a,as[i]?=some a->∃ L,Ls[i]?=some L/\H a=some (.lst (L.map V.int))
theorem qw {α:Type} {as:List α} (h:as.Nodup) {i j:Nat} {a:α} (h1:as[i]?=some a) (h2:as[j]?=some a):i=j:=by
 obtain⟨l1,e1⟩:=af.mp h1;obtain⟨l2,e2⟩:=af.mp h2;exact (RE h).mp (e1.trans e2.symm)
section
variable {H H':Hp} {r:ak} {as:List ak} {Ls:List (List Int)}
theorem Cells.up (c:Cells H r as Ls) (s:bp H H'):Cells H' r as Ls:=⟨s _ _ c.hd,c.nd,c.rn,c.len,λi a h=>by
 obtain⟨L,h1,h2⟩:=c.cell i a h;exact⟨L,h1,s _ _ h2⟩⟩
theorem Cells.put (c:Cells H r as Ls) {i:Nat} {a:ak} (h:as[i]?=some a) (L:List Int):Cells (upd H a (.lst (L.map V.int))) r as (Ls.set i L):=by
 refine⟨?_,c.nd,c.rn,by rw[fN];exact c.len,λj b hb=>?_⟩
 ·rw[bK (λz=>c.rn (by rw[z];exact aq h))];exact c.hd
 ·by_cases e:j=i
  ·subst e;rw[h] at hb;cases hb;refine⟨L,?_,au⟩;have:=(af.mp h).1;rw[cS (by rw[← c.len];exact this)]
  ·obtain⟨L',h1,h2⟩:=c.cell j b hb;refine⟨L',by rw[dg (dG e)];exact h1,?_⟩;rw[bK (λz=>e (qw c.nd (a:=a) (by rw[← z];exact hb) h))];exact h2
theorem Cells.at (c:Cells H r as Ls) {z:Int} (h0:0<=z) (h1:z<Ls.length):∃ a L,as[z.toNat]?=some a/\Ls[z.toNat]?=some L/\vX (as.map V.ref) z=some (.ref a)/\H a=some (.lst (L.map V.int)):=by
 obtain⟨a,ha⟩:=acX (xs:=as) h0 (by rw[c.len];exact h1);obtain⟨L,h2,h3⟩:=c.cell _ a ha;exact⟨a,L,ha,h2,lQ h0 (by rw[aI,ha];rfl),h3⟩
end
end L2
namespace L2
open PySem PySem.Spec PyProof.Rows
section
variable {X:Cx}
theorem Qs {x:bc} {n:Int} {pos:hW} (hm:∃ t,X.mg x=some (.int n t)) (hg:Gl X x:=by rfl) (hd:(x == ("__debug__" : bc))=false:=by decide):PE X (.Name x pos) (tC (.int n)):=by
 obtain⟨t,hm⟩:=hm;exact Qt hg hm ⟨t,rfl⟩ hd
end
theorem L3:∀ {xs ys:List Int},xs.Pairwise (·<·)->ys.Pairwise (·<·)->(∀ k,k∈xs↔k∈ys)->xs=ys
 | [],[],_,_,_=>rfl
 | [],y::ys,_,_,h=>by have:=(h y).mpr aE;cases this
 | x::xs,[],_,_,h=>by have:=(h x).mp aE;cases this
 | x :: xs,y::ys,hx,hy,h=>by
  obtain⟨a1,a2⟩:=ko.mp hx;obtain⟨b1,b2⟩:=ko.mp hy;have e:x=y:=by
   rcases aB.mp ((h x).mp aE) with z | z
   ·exact z
   ·rcases aB.mp ((h y).mpr aE) with z2 | z2
    ·exact z2.symm
    ·have:=b1 x z;have:=a1 y z2;omega
  subst e;have:xs=ys:=L3 a2 b2 λk=>by
   constructor
   ·intro hk;rcases aB.mp ((h k).mp (aL _ hk)) with z | z
    ·subst z;have:=a1 _ hk;omega
    ·exact z
   ·intro hk;rcases aB.mp ((h k).mpr (aL _ hk)) with z | z
    ·subst z;have:=b1 _ hk;omega
    ·exact z
  rw[this]
section
variable {X:Cx}
theorem zA (hc:X.calm=true):kF X (.builtin "min") (λxs H Q=>∃ (a:ak) (ks:List Int),xs=[.ref a]/\bQ X.K H a (ks.map V.int)/\ks≠[]/\∀ M,M∈ks->(∀ k∈ks,M<=k)->Q (.int M) H):=by
 intro pins s σ H xs us Q I r h;obtain⟨a,ks,rfl,ha,kU,q⟩:=h;obtain⟨u,rfl,ru⟩:=a0e r;cases ru;obtain⟨cw,rv,pl,hz⟩:=I.list ha;have hi:cL cw ks:=a0c rv;obtain⟨xs,e⟩:=hi.allInts.items;have yd:ks=xs.toList.map (·.1):=by rw[← hi.numsOf,← nums_intItems,← e]
 have hsz:0<xs.size:=by
  have h3:0<ks.length:=bT.mpr kU;rw[yd,ag,bS] at h3;exact h3
 have hl:=pl.isList;rw[e] at hl;refine min_intList (I.ok.hd hc) hl hsz λv h' tk hv hk=>?_;obtain⟨t,rfl⟩:=intItems_at hv;obtain⟨h1,h2⟩:=argBest_lt (numAt xs) (xs.size-1);refine⟨.int _,H,I.kept (t':=tk) hk,⟨t,rfl⟩,q _ ?_ λk hk=>?_⟩
 ·rw[yd,Vf];exact To (by rw[ag,bS];omega)
 ·rw[yd] at hk;obtain⟨j,hj,rfl⟩:=Tp hk;rw[ag,bS] at hj;rw[← Vf];exact h2 j (by omega)
end
def RC (K:aj) (a b:ak):It :=
 ⟨λi H=>∃ xs ys x y,bQ K H a xs/\bQ K H b ys/\xs[i]?=some x/\ys[i]?=some y,
  λi H v H'=>∃ T x y,v=.ref T/\H T=none/\(∀ xs,bQ K H a xs->xs[i]?=some x)/\(∀ ys,bQ K H b ys->ys[i]?=some y)/\H'=upd H T (.tup [x,y]),
  λi H=>∃ xs ys,bQ K H a xs/\bQ K H b ys/\(xs.length<=i\/ys.length<=i)⟩
structure Xd (a b z TI TO i1 i2:ak) (i:Nat) (h:cj):Prop where
 zz:oj h z TI TO .none
 ti:IsPair h TI (.ref i1) (.ref i2)
 to:∃ p q,IsPair h TO p q
 s1:h.IsListIter i1 a i
 s2:h.IsListIter i2 b i
theorem NJ {P:aS} {w:bN} {K:aj} {elts:List b6} {k:Nat} {pos:hW} (a b z TI TO i1 i2:ak) (ap:ZipApart z TI TO i1 i2 a b):Turn P w K (.Tuple elts k pos) (RC K a b) [z,TI,TO,i1,i2] z (Xd a b z TI TO i1 i2) where
 mem:=by simp
 obj:=λi h st c hc=>by
  obtain⟨zz,ti,⟨p,q,to⟩,⟨o1,e1,c1,d1⟩,⟨o2,e2,c2,d2⟩⟩:=st;simp only [aB,eE,or_false] at hc;rcases hc with rfl | rfl | rfl | rfl | rfl
  ·exact⟨_,zz,λv z=>by cases z⟩
  ·exact⟨_,ti,λv z=>by cases z⟩
  ·exact⟨_,to,λv z=>by cases z⟩
  ·exact⟨o1,e1,λv z=>by rw[d1] at z;cases z⟩
  ·exact⟨o2,e2,λv z=>by rw[d2] at z;cases z⟩
 keep:=λi h h' st k=>by
  obtain⟨zz,ti,⟨p,q,to⟩,s1,s2⟩:=st;exact⟨k z (by simp) _ zz,k TI (by simp) _ ti,⟨p,q,k TO (by simp) _ to⟩,s1.at λo q=>k i1 (by simp) o q,s2.at λo q=>k i2 (by simp) o q⟩
 item:=by
  intro X hP hw hK hc i pins s σ H E I hf st hg;subst hP hw hK;obtain⟨xs,ys,x,y,hq,LM,hx,hy⟩:=hg;obtain⟨cw,rv,p,hz⟩:=I.list hq;obtain⟨lH,BN,p2,Kg⟩:=I.list LM;obtain⟨u,hu,ru⟩:=rv.get hx;obtain⟨u2,Co,VC⟩:=BN.get hy;obtain⟨zz,ti,⟨pp,qq,to⟩,s1,s2⟩:=st;have lz:z<s.heap.objs.size:=aF zz;refine wpAny_pyNext_zip_item ap zz ti to s1 s2 p.isList p2.isList (x:=u) (y:=u2) (by simpa using hu) (by simpa using Co) λh' zo to' s1' s2' ht hsz kp=>?_;refine⟨_,rfl,Kl zo λh2 zz2 sb=>?_⟩;have I1:Inv X pins σ H { s with heap:=h2 }:=I.qB (t':=s.toks) (ch:=[z,TI,TO,i1,i2]) hf λc o hc q=>by
   simp only [aB,eE,or_false,not_or] at hc;exact (sb.2 c hc.1).trans (kp c o hc.1 hc.2.2.1 hc.2.2.2.1 hc.2.2.2.2 q)
  have hT:h2.get? s.heap.objs.size=some { cls:=.type "tuple",data:=.seq #[u,u2] }:=(sb.2 _ (bC lz)).trans ht;have RY:H s.heap.objs.size=none:=I.cZ.fresh (az _);have I2:=I1.adopt (o:=.tup [x,y]) (I.vF (az _) RY) ⟨(by show 2<=aJ;decide),[u,u2],.cons ru (.cons VC .nil),⟨_,hT,rfl,_,rfl⟩⟩;have hti:IsPair h2 TI (.ref i1) (.ref i2):=(sb.2 TI ap.TIz).trans (kp TI _ ap.TIz ap.TITO ap.TIi1 ap.TIi2 ti);refine⟨.ref s.heap.objs.size,_,I2,rfl,⟨_,x,y,rfl,RY,(λzs PP=>by rw[I.mH PP hq];exact hx),(λzs PP=>by rw[I.mH PP LM];exact hy),rfl⟩,
   ⟨zz2,hti,⟨u,u2,(sb.2 TO ap.TOz).trans to'⟩,s1'.at λo q=>(sb.2 i1 ap.i1z).trans q,s2'.at λo q=>(sb.2 i2 ap.i2z).trans q⟩,λc hc=>?_⟩
  rw[bK (λe=>?_)]
  ·exact (hf c hc).1
  ·subst e;obtain⟨o1,e1,_⟩:=s1;obtain⟨o2,e2,_⟩:=s2;simp only [aB,eE,or_false] at hc;rcases hc with h | h | h | h | h
   ·exact absurd h (bC lz)
   ·exact absurd h (bC (aF ti))
   ·exact absurd h (bC (aF to))
   ·exact absurd h (bC (aF e1))
   ·exact absurd h (bC (aF e2))
 done:=by
  intro X hP hw hK hc i pins s σ H E I hf st hg;subst hP hw hK;obtain⟨xs,ys,hq,LM,hx⟩:=hg;obtain⟨cw,rv,p,hz⟩:=I.list hq;obtain⟨lH,BN,p2,Kg⟩:=I.list LM;have hl:=rv.length;have o6:=BN.length;obtain⟨zz,ti,⟨pp,qq,to⟩,s1,s2⟩:=st;refine wpAny_pyNext_zip_end (I.ok.hd hc) ap zz ti to s1 s2 p.isList p2.isList ?_ λh' kp=>⟨rfl,?_⟩
  ·rcases hx with h | h
   ·exact .inl (by simp;(clear hc hf hz Kg o6;omega))
   ·exact .inr (by simp;(clear hc hf hz Kg hl;omega))
  ·exact I.qB (t':=s.toks) (ch:=[z,TI,TO,i1,i2]) hf λc o hc q=>by
    simp only [aB,eE,or_false,not_or] at hc;exact kp c o hc.1 hc.2.2.1 hc.2.2.2.1 hc.2.2.2.2 q
 self:=λ_ _ _ _ _ st h=>rW st.zz h
theorem JY (n a b:Nat) (la:a<n) (lb:b<n):ZipApart (n+4) (n+2) (n+3) n (n+1) a b:=by
 constructor
 all_goals (intro h;have h':(_:Nat)=_:=h;omega)
def aeT (K:aj) (ta:TA):TI:=λσ H R=>ta σ H λvs H1=>∃ a b,vs=[.ref a,.ref b]/\(∃ xs,bQ K H1 a xs)/\(∃ ys,bQ K H1 b ys)/\R (RC K a b) H1
theorem uS {X:Cx} {K:aj} {elts:List b6} {k:Nat} {ze:hW} {l l2:b6} {ta:TA} {p pos:hW} (hK:X.K=K) (hg:Gl X "zip") (hm:X.mg "zip" = none) (ha:PA X [l,l2] ta) (hs:bD [l,l2] X.env=(false,eO l X.env)::bD [l2] X.env:=by rfl)
  (WC:(gx pos (bD [l2] X.env)).any (·.1)=false:=by rfl) :
  PI X (.Tuple elts k ze) (.Call (.Name "zip" p) [l,l2] [] pos) (aeT K ta):=by
 subst hK;intro pins s σ H R I h;refine SU (lI I hg hm yu (dk (eY (ha pos pins s σ H _ I h) λus s1 cW=>?_) hs WC));obtain⟨vs,H1,I1,r1,q1⟩:=cW;obtain⟨a,b,rfl,⟨xs,hq⟩,⟨ys,LM⟩,q⟩:=q1;cases r1 with
 | cons ra rr =>
  cases ra;obtain⟨u,rfl,ru⟩:=a0e rr;cases ru;obtain⟨cw,rv,p,hz⟩:=I1.list hq;obtain⟨lH,BN,p2,Kg⟩:=I1.list LM;have la:a<s1.heap.objs.size:=by obtain⟨o,e,_⟩:=p.isList;exact aF e
  have lb:b<s1.heap.objs.size:=by obtain⟨o,e,_⟩:=p2.isList;exact aF e
  refine call_zip_2 p.isList p2.isList λh' zz ti to i1 i2 hsz kp=>?_;refine rW zz ?_;refine⟨s1.heap.objs.size+4,[s1.heap.objs.size+4,s1.heap.objs.size+2,s1.heap.objs.size+3,s1.heap.objs.size,s1.heap.objs.size+1],_,_,H1,rfl,I1.kept (t':=s1.toks) kp,NJ a b _ _ _ _ _ (JY _ a b la lb),⟨zz,ti,⟨_,_,to⟩,i1,i2⟩,λc hc=>?_,q⟩;have RX:s1.heap.objs.size<=c:=by
   simp only [aB,eE,or_false] at hc;rcases hc with rfl | rfl | rfl | rfl | rfl
   ·exact cP _ _
   ·exact cP _ _
   ·exact cP _ _
   ·exact az _
   ·exact cP _ _
  exact I1.vF RX (I1.cZ.fresh RX)
theorem sV {K:aj} {a b:ak} {xs ys:List V} {g:TG} {tb:TS} {D:Ends} {σ:St} {H:Hp} (hlen:xs.length=ys.length) (Pv:Nat->St->Hp->Prop) (h0:Pv 0 σ H) (hl:∀ i σ H,i<=xs.length->Pv i σ H->bQ K H a xs/\bQ K H b ys)
  (hs:∀ i x y σ H T,xs[i]?=some x->ys[i]?=some y->Pv i σ H->H T=none->g (.ref T) σ (upd H T (.tup [x,y])) λσ2 H2=>tb { D with nx:=Pv (i+1),ct:=Pv (i+1),bk:=D.nx } σ2 H2) (hd:∀ σ H,Pv xs.length σ H->D.nx σ H) :
  ∃ W:Nat->Nat->St->Hp->Prop,(∃ m,W 0 m σ H)/\∀ i m σ H,W i m σ H ->
   ((RC K a b).stop i H/\D.nx σ H)\/((RC K a b).go i H/\∃ N:St->Hp->Prop,(∀ σ' H',N σ' H'->∃ m',m'<m/\W (i+1) m' σ' H')/\∀ x H',(RC K a b).Eo i H x H'->g x σ H' λσ2 H2=>tb { D with nx:=N,ct:=N,bk:=D.nx } σ2 H2):=by
 refine⟨λi m σ H=>m=xs.length-i/\i<=xs.length/\Pv i σ H,⟨xs.length,by simp,bv _,h0⟩,?_⟩;rintro i m σ H ⟨rfl,hi,p⟩;obtain⟨q,q2⟩:=hl i σ H hi p
 by_cases iz:i<xs.length
 ·refine .inr ⟨⟨xs,ys,xs[i],ys[i]'(by omega),q,q2,by simp[iz],by simp⟩,Pv (i+1),λσ' H' p'=>⟨xs.length-(i+1),by (clear hlen hl hs hd hi;omega),rfl,iz,p'⟩,λx H' y=>?_⟩;obtain⟨T,u,v,rfl,hT,e1,e2,rfl⟩:=y;exact hs i u v σ _ T (e1 xs q) (e2 ys q2) p hT
 ·have e:i=xs.length:=by (clear hlen hl hs hd;omega)
  subst e;exact .inl ⟨⟨xs,ys,q,q2,.inl (az _)⟩,hd σ H p⟩
section
variable {X:Cx}
end
section
variable {P:aS} {w:bN} {A:bA} {E:ae->ai->Prop} {s:ai}
end
end L2
namespace L2
open PySem PySem.Spec PySem.W PyProof.Rows PySem.Builtin PySem.Builtin.ObjectAttr PySem.Builtin.Getset_descriptor
structure XcK (K:Frag) (C:ak):Prop where
 ga:findIn K (.ref C) "__getattribute__" = some (some (.builtin "BaseException.__getattribute__"))
 gn:findIn K (.ref C) "__getattr__" = some none
 cl:findIn K (.ref C) "__class__" = some (some (.builtin "object.__class__"))
 sp:specialIn K (.builtin "object.__class__") "__get__" = some (some (.builtin "getset_descriptor.__get__"))
 tk:takesIn K (.builtin "object.__class__")=some true
 mo:mroIn K C (.type "object")=some true
 me:mroIn K C (.type "BaseException")=some true
 ci:(clsIn K C).isSome=true
section
variable {prog:aS} {w:bN} {A:bA} {E:ae->ai->Prop} {s:ai} {K:Frag} {x C:ak}
end
end L2
namespace L2
open PySem PySem.Spec PyProof.Rows
theorem gu.got {P:aS} {w:bN} {H:Hp} {h:cj} {a:ak} {o:HO} (x:gu P w H h a o):∃ ob,h.get? a=some ob:=by
 cases o with
 | lst xs=>obtain⟨_,_,_,_,e⟩:=x;exact⟨_,e⟩
 | tup xs=>obtain⟨_,_,_,_,e,_⟩:=x;exact⟨_,e⟩
 | dK fE=>obtain⟨_,_,_,_,_,_,_,e,_⟩:=x;exact⟨_,e⟩
 | dT fE=>obtain⟨_,_,_,_,_,_,_,e,_⟩:=x;exact⟨_,e⟩
 | set S n=>obtain⟨_,_,_,_,e,_⟩:=x;exact⟨_,e⟩
 | ins C dx fs=>obtain⟨_,_,_,e,_⟩:=x;exact⟨_,e⟩
 | own y=>exact x
 | xd fs=>obtain⟨_,⟨_,_,_,e,_⟩,_⟩:=x;exact⟨_,e⟩
 | ow lo hi=>obtain⟨_,_,_,e⟩:=x;exact⟨_,e⟩
 | Bm ob u=>exact⟨_,x.1⟩
 | vQ ps=>exact⟨_,x⟩
 | met f y=>exact⟨_,x⟩
 | ext φ=>exact x.2.1
theorem pz.by {P:aS} {w:bN} {H:Hp} {h h' B:cj} (x:pz P w H h) (hB:∀ b u,H b=some u->∃ o,B.get? b=some o) (k1:∀ b o,B.get? b=some o->h.get? b=some o) (k2:∀ b o,B.get? b=some o->h'.get? b=some o):pz P w H h':=λa o e =>
 (x a o e).B4 (λb u hb q=>by
  have ht:∃ v,H b=some v:=by
   rcases hb with rfl | hb
   ·exact⟨_,e⟩
   ·exact⟨_,hb⟩
  obtain⟨v,hv⟩:=ht;obtain⟨ob,ho⟩:=hB b v hv;have:=k1 b ob ho;rw[q] at this;cases this;exact k2 b _ ho) (λ_ q=>q) λ_ _ q=>q
def Rv (P:aS) (w:bN):Kt:=λouter H s E e s'=>∃ (ea C t:ak) (H':Hp) (B:cj),e=.ref ea/\s'.os=s.os/\qi s'.gens/\Un (rK outer) [] H H' s.heap s'.heap/\pz P w H' s'.heap /\
 Heap.FlyingW B outer ea (.ref C) (.ref t) s'.heap/\(∀ b o,s.heap.get? b=some o->b ∉ rK outer->∃ o',B.get? b=some o')/\(∀ b u,H' b=some u->∃ o,B.get? b=some o)/\E (.ref C) none H'
theorem xF {P:aS} {w:bN} {X:Cx}:a0i (Rv P w) X E0:=λ_ _ _ _ _ _ _ ⟨_,_,_,_,_,_,_,_,_,_,_,_,_,h⟩=>h.elim
section
variable {X:Cx} {pins:List (ak × dR)} {σ:St} {H:Hp} {s:ai}
theorem Inv.BA (I:Inv X pins σ H s) {b:ak} {o:dR} (e:X.s₀.heap.get? b=some o) (h:b ∉ X.fs):b ∉ rK X.stack:=λz=>by
 rcases aB.mp (I.rT b z) with q | q
 ·exact absurd q (aK (b8 (aF e) I.ok.above))
 ·exact h q
theorem Inv.Nt (I:Inv X pins σ H s) {b:ak} (h:b∈X.fs):b∈rK X.stack:=by
 rcases I.ok.ZY with e | ⟨e,hf⟩
 ·rw[e];exact h
 ·rw[e];unfold rK;rw[fT,hf];exact aL _ h
theorem DA {M:Ir} {E2:ae->ai->Prop} {h':cj} {e C:ak} {us:List ae} {E:XK} (I:Inv X pins σ H s) (Bt:X.stack=X.env::X.outer) (hf:X.env.frame=some X.env.locals) (hex:X.ex=[])
  (hm:Wj s.heap h' e (.ref C) us) (hE:E (.ref C) none H):wpAny M X.A (leaving X.env (.ref e)) (λ_ VD=>Rv X.prog X.w X.outer X.H₀ X.s₀ E (.ref e) VD) E2 { s with heap:=h' }:=by
 have adv:=I.stack;have lG:∀ env∈X.stack,∀ a,env.frame=some a->a∈rK X.stack:=λenv he a ha=>kn.mpr ⟨env,he,ha⟩;have hB1:∀ b o,s.heap.get? b=some o->b ∉ rK X.stack->(jK s.heap (rK X.stack)).get? b=some o:=λb o q n=>Gu _ q n;have hB0:∀ b o,(jK s.heap (rK X.stack)).get? b=some o->s.heap.get? b=some o:=λb o q=>Iw _ q;have RZ:=PySem.W.funFrames_hide adv lG;have nH:∀ b,b ∉ X.ex:=λb z=>by rw[hex] at z;cases z
 rw[Bt] at RZ;have V3:∀ b u,H b=some u->∃ o,(jK s.heap (rK X.stack)).get? b=some o:=λb u q=>by
  obtain⟨o,ho⟩:=(I.cZ b u q).got;exact⟨o,hB1 b o ho λz=>by rw[I.wv b z] at q;cases q⟩
 have old:∀ b o,X.s₀.heap.get? b=some o->b ∉ X.fs->∃ o',(jK s.heap (rK X.stack)).get? b=some o':=λb o q n=>by
  obtain⟨o',ho⟩:=I.base.there b o q (nH b);exact⟨o',hB1 b o' ho (I.BA q n)⟩
 refine wpAny_leaves_madeW (base:=jK s.heap (rK X.stack)) (Bt ▸ I.ok.frames) hf hB0 (Bt ▸ RZ) hm λh2 t x1 x2 x3 x4=>?_;have fr:∀ b o,s.heap.get? b=some o->b∈X.fs->∃ sl,h2.get? b=some { o with slots:=sl }:=λb o q hb=>by
  obtain⟨_,o',xo,hd⟩:=I.rL.mem hb;rw[q] at xo;cases xo;exact x4 b o (hm.keeps b o q) hd
 refine⟨e,C,t,H,_,rfl,I.os,I.bare,⟨λb o q n hb _=>?_,λb o q n hb _=>?_,λb o q n _=>I.base.free b o q n (nH b),λb o q _=>?_,I.base.u6,I.base.sW,I.base.tY⟩,I.cZ.by V3 hB0 x1.1,x1,old,V3,hE⟩
 ·exact x1.1 b o (hB1 b o (I.base.keep b o q n hb (nH b)) (I.BA q hb))
 ·obtain⟨sl,e1⟩:=I.base.slot b o q n hb (nH b);obtain⟨JK,e2⟩:=fr b _ e1 hb;exact⟨JK,e2⟩
 ·by_cases hb:b∈X.fs
  ·obtain⟨o',e1⟩:=I.base.there b o q (nH b);obtain⟨JK,e2⟩:=fr b _ e1 hb;exact⟨_,e2⟩
  ·obtain⟨o',e1⟩:=old b o q hb;exact⟨_,x1.1 b o' e1⟩
theorem Jj {M:Ir} {E2:ae->ai->Prop} {e:ae} {s':ai} {E:XK} (I:Inv X pins σ H s) (Bt:X.stack=X.env::X.outer) (hf:X.env.frame=some X.env.locals) (hex:X.ex=[])
  (h:Rv X.prog X.w X.stack H s E e s'):wpAny M X.A (leaving X.env e) (λ_ VD=>Rv X.prog X.w X.outer X.H₀ X.s₀ E e VD) E2 s':=by
 obtain⟨ea,C,t,H',B,rfl,os,bare,un,cZ,fl,b1,b2,hE⟩:=h;have nH:∀ b,b ∉ X.ex:=λb z=>by rw[hex] at z;cases z
 have fl0:=fl;rw[Bt] at fl0;refine wpAny_leaves_onW (Bt ▸ I.ok.frames) hf fl0 λh2 x1 x2=>?_;have nex:∀ b:ak,b ∉ ([]:List ak):=λb z=>by cases z
 have old:∀ b o,X.s₀.heap.get? b=some o->b ∉ X.fs->∃ o',B.get? b=some o':=λb o q n=>by
  obtain⟨o',ho⟩:=I.base.there b o q (nH b);exact b1 b o' ho (I.BA q n)
 have fr:∀ b o,s'.heap.get? b=some o->b∈X.fs->∃ sl,h2.get? b=some { o with slots:=sl }:=λb o q hb=>by
  obtain⟨_,o',xo,hd⟩:=fl.2.2.1.mem (I.Nt hb);rw[q] at xo;cases xo;exact x2 b o q hd
 refine⟨ea,C,t,H',B,rfl,os.trans I.os,bare,⟨λb o q n hb _=>?_,λb o q n hb _=>?_,λb o q n _=>?_,λb o q _=>?_,λb xs q=>un.u6 b xs (I.base.u6 b xs q),λb o u q=>un.sW b o u (I.base.sW b o u q),λb ps q=>?_⟩,cZ.by b2 fl.1 x1.1,x1,old,b2,hE⟩
 ·have e1:=I.base.keep b o q n hb (nH b);have e2:=un.keep b o e1 (I.base.free b o q n (nH b)) (I.BA q hb) (nex b);obtain⟨o',e3⟩:=old b o q hb;have e4:=fl.1 b o' e3;rw[e2] at e4;cases e4;exact x1.1 b _ e3
 ·obtain⟨sl,e1⟩:=I.base.slot b o q n hb (nH b);obtain⟨sl1,e2⟩:=un.slot b _ e1 (I.base.free b o q n (nH b)) (I.Nt hb) (nex b);obtain⟨JK,e3⟩:=fr b _ e2 hb;exact⟨JK,e3⟩
 ·obtain⟨o',e1⟩:=I.base.there b o q (nH b);exact un.free b o' e1 (I.base.free b o q n (nH b)) (nex b)
 ·by_cases hb:b∈X.fs
  ·obtain⟨o',e1⟩:=I.base.there b o q (nH b);obtain⟨o2,e2⟩:=un.there b o' e1 (nex b);obtain⟨JK,e3⟩:=fr b _ e2 hb;exact⟨_,e3⟩
  ·obtain⟨o',e1⟩:=old b o q hb;exact⟨_,x1.1 b o' e1⟩
 ·obtain⟨m1,e1⟩:=I.base.tY b ps q;obtain⟨m2,e2⟩:=un.tY b _ e1;exact⟨m1++m2,by rw[e2,Ks]⟩
end
abbrev bmV:List ae:=[.type "ValueError",.type "Exception",.type "BaseException",.type "object"]
theorem TM {K:aj} {h:cj} {C:ak} {bmB:List ae} {newId:String} (X:K.In h) (q:nT K C bmB newId=true) :
  ∃ bm N nm qn bs hdct sn sub ab col dd k0 k1 k2 k3 k5 mN,h.get? C=some (excClassObj nm qn C N bs bm hdct sn sub ab col dd k0 k1 k2 k3 k5 newId)/\h.Ns N mN/\mN "__init__" = none/\OwnTail h bmB bm:=by
 unfold nT at q;split at q
 case h_2=>cases q
 case h_1 dd cd sl ho =>
  split at q
  case h_2=>cases q
  case h_1 C' bm k0 k1 k2 k3 n k5 hm hs =>
   simp only [bR,beq_iff_eq,kP] at q;obtain⟨⟨⟨⟨⟨z1,z2⟩,z3⟩,z4⟩,z5⟩,z6⟩:=q;cases z1;cases z2;obtain⟨nm,bs,mro,ns,qn,hd,sn,sub,ab,col,del⟩:=cd;cases hm;cases z3;have es:sl=#[k0,k1,k2,k3,some (.builtin newId),k5]:=by
    cases sl with
    | mk l=>simp only at hs;rw[hs]
   cases es;exact⟨bm,ns,nm,qn,bs,hd,sn,sub,ab,col,dd,k0,k1,k2,k3,k5,_,X _ _ ho,Heap.Ns.of_isNs (PySem.W.isNs_of_in X z5),PySem.W.nsMap_none_of_in X z5 z6,PySem.W.tail_of_in X z4⟩
def a0A (X:Cx) (E:XK):Prop:=∀ (pins:List (ak × dR)) (σ:St) (H:Hp) (s:ai) (h':cj) (e C:ak) (us:List ae),Inv X pins σ H s->Wj s.heap h' e (.ref C) us->E (.ref C) none H->X.xe (.ref e) { s with heap:=h' }
def VR (t:TA) (C:ak) (E:XK):TS:=λ_ σ H=>t σ H λvs H1=>vs.length<=aJ/\E (.ref C) none H1
section
variable {X:Cx}
theorem n6 {E:XK} {x:bc} {C:ak} {e0:b6} {rest:List b6} {t:TA} {np qK pos:hW} (hr:a0A X E) (hm:X.mg x=some (.ref C)) (q:nT X.K C bmV "ValueError.__new__" = true) (ha:PA X (e0::rest) t) (hc:X.calm=true:=by rfl) (hg:Gl X x:=by rfl)
  (Fm:(x == ("__debug__" : bc))=false:=by decide) (he:bD (e0::rest) X.env=(false,eO e0 X.env)::bD rest X.env:=by rfl) (vJ:(gx qK (bD rest X.env)).any (·.1)=false:=by rfl) :
  PS X (.Raise (some (.Call (.Name x np) (e0::rest) [] qK)) none pos) (VR t C E):=by
 intro pins s σ H D I h;obtain⟨tl,N,nm,qn,bs,hdct,sn,sub,ab,col,dd,k0,k1,k2,k3,k5,mN,hC,hN,hni,T⟩:=TM I.mod.PY q;refine wpAny_Raise_call_subT (C:=C) (nm:=nm) (q:=qn) (N:=N) (bs:=bs) (bm:=tl) (hdct:=hdct) (sn:=sn) (sub:=sub) (ab:=ab) (col:=col) (dd:=dd) (k0:=k0) (k1:=k1) (k2:=k2) (k3:=k3) (k5:=k5)
  yy (mN:=mN) (T.hasType yy.hasBase) (I.ok.hd hc) ?_ hni (tq I hg hm ⟨rfl,?_⟩ Fm)
 ·rw[he];show (false || (gx qK (bD rest X.env)).any (·.1))=false;rw[vJ];rfl
 have h2:=ha qK pins s σ H _ I h;rw[he] at h2 ⊢;refine Ij (eY h2 λus s2 cW=>?_);obtain⟨vs,H1,I1,r1,q1,q2⟩:=cW;exact⟨rfl,by rw[← r1.length];exact q1,I1.bk _ _ hC,hN.keeps I1.bk,T.keeps I1.bk,λh' e hm=>hr pins σ H1 s2 h' e C us I1 hm q2⟩
end
section
variable {P:aS} {w:bN} {K:aj} {mg:bc->Option ae} {base:cj}
abbrev Xl (P:aS) (w:bN) (K:aj) (mg:bc->Option ae) (base:cj) (N:List bc) (qual:bc) (scope:dv) (f:ak) (cd:ae) (A:bA) (outer:List qk) (s:ai) (H:Hp) (E:XK):Cx:=rG (Rv P w) P w K mg base N qual scope f cd A outer s H E
theorem qz {N:List bc} {qual:bc} {scope:dv} {f:ak} {cd:ae} {A:bA} {outer:List qk} {s:ai} {H:Hp} {E:XK}:a0A (Xl P w K mg base N qual scope f cd A outer s H E) E :=
 λpins σ H1 s1 h' e C us I hm hE=>DA (X:=Xl P w K mg base N qual scope f cd A outer s H E) I rfl rfl rfl hm hE
theorem pX {N:List bc} {qual:bc} {scope:dv} {f:ak} {cd:ae} {A:bA} {outer:List qk} {s:ai} {H:Hp} {E:XK}:a0i (Rv P w) (Xl P w K mg base N qual scope f cd A outer s H E) E :=
 λpins σ H1 s1 e s' I h=>Jj (X:=Xl P w K mg base N qual scope f cd A outer s H E) I rfl rfl rfl h
structure vB (P:aS) (w:bN) (K:aj) (mg:bc->Option ae) (base:cj) (x:bc) (n:Nat) (ps:List bc) (sp:Sp):Prop where
 ex:∃ f fd,px P w K mg base (Rv P w) n f fd ps sp/\mg x=some (.ref f)/\i4 K (.ref f)=true/\Binds K fd ps []
theorem aX.OA {x:bc} {st:cK} {N ps:List bc} {k:Nat} {sp:Sp} (F:aX K mg x st ps) (S:bM N ps (aG st)) (len:∀ vs H Q E,sp vs H Q E->vs.length=ps.length)
  (mD:∀ (f:ak) (di:ae) (A:bA) (outer:List qk) (s:ai) (H:Hp) (vs:List V) (Q:VK) (E:XK),fG k (A.deeper (mV x (aG st) s.heap.objs.size f di))->sp vs H Q E ->
   ∃ t,xZ (Xl P w K mg base N x (aG st) f di A outer s H E) (fH st) t/\t { nx:=λ_ H'=>Q .fj H',rt:=Q } (start N vs) H):vB P w K mg base x (k+1) ps sp:=by
 obtain⟨f,fd,F,hm,hb⟩:=F.ex;have kp:=F.kp;obtain⟨oc,od,kV,doc,pm,an,di,ct,OB,rfl,lk,Ck⟩:=F.ex;exact⟨f,_,La lk Ck S len λA outer s H vs Q E hr EA=>mD f di A outer s H vs Q E hr EA,hm,kp,hb⟩
end
theorem jk {X:Cx} {E:XK} {x:bc} {n k:Nat} {ps:List bc} {sp:Sp} {e:b6} {es:List b6} {t:TA} {p pos:hW} (hx:a0i (Rv X.prog X.w) X E) (D:vB X.prog X.w X.K X.mg X.base x n ps sp) (hr:fG k X.A) (ha:PA X (e::es) t) (hk:n<=k:=by decide) (hg:Gl X x:=by rfl)
  (Fm:(x == ("__debug__" : bc))=false:=by decide) (he:bD (e::es) X.env=(false,eO e X.env)::bD es X.env:=by rfl) (vJ:(gx pos (bD es X.env)).any (·.1)=false:=by rfl) :
  PE X (.Call (.Name x p) (e::es) [] pos) (Ny sp [] E t):=by
 obtain⟨f,fd,F,hm,kp,hb⟩:=D.ex;exact Hd F (hr.mono hk) hg hm kp hb .nil hx ha Fm he vJ
section
variable {X:Cx} {pins:List (ak × dR)} {σ:St} {H:Hp} {s:ai}
end
section
variable {X:Cx} {CX:Kt} {k:Nat} {f:ak} {fd:fP} {ps:List bc} {sp:Sp} {E:XK} {x:bc} {p pos:hW} {e:b6} {es:List b6} {t:TA} {pins:List (ak × dR)} {σ:St} {H:Hp} {s:ai} {Q:VK} {EE:ae->ai->Prop}
end
section
variable {X:Cx} {x y g n:bc} {i j m k:Nat} {ps:List bc} {sp:Sp} {p py pos ai6 np yG ze:hW} {e:b6} {es:List b6} {t:TA} {th:TS} {G:ak} {b0:cK} {ahV:List cK}
end
def xa (K:aj) (x:bc):ak:=match uA K bf x with
 | some (some (.ref C))=>C
 | _=>0
def xcB (K:aj) (C:ak):Bool :=
 dJ K (.ref C) "__getattribute__" == some (some (.builtin "BaseException.__getattribute__")) && dJ K (.ref C) "__getattr__" == some none &&
 dJ K (.ref C) "__class__" == some (some (.builtin "object.__class__")) && J9 K (.builtin "object.__class__") "__get__" == some (some (.builtin "getset_descriptor.__get__")) &&
 Oe K (.builtin "object.__class__") == some true && AX K C (.type "object") == some true && AX K C (.type "BaseException") == some true && (PySem.W.clsIn K C).isSome
def Cb (K:aj) (top:bc) (rs ns:List bc):Bool :=
 (uA K bf top == some (some (.ref (xa K top)))) &&
 (ns.all λy=>uA K bf y == some (some (.ref (xa K y)))) &&
 rs.all λx=>(uA K bf x == some (some (.ref (xa K x)))) && xcB K (xa K x) && nT K (xa K x) bmV "ValueError.__new__" &&
  (OZ K (.ref (xa K x)) (.ref (xa K top)) == some true) && (fw K (.ref (xa K x)) (.type "ValueError") == some true) &&
  ns.all λy=>fw K (.ref (xa K x)) (.ref (xa K y)) == some (decide (x=y))
structure XT (K:aj) (mg:bc->Option ae) (top:bc) (rs ns:List bc):Prop where
 m:∀ x,(x=top\/x∈rs\/x∈ns)->mg x=some (.ref (xa K x))
 exc:∀ x∈rs,nT K (xa K x) bmV "ValueError.__new__" = true
 k:∀ x∈rs,XcK K (xa K x)
 hit:∀ x∈rs,OZ K (.ref (xa K x)) (.ref (xa K top))=some true
 val:∀ x∈rs,fw K (.ref (xa K x)) (.type "ValueError")=some true
 one:∀ x∈rs,∀ y∈ns,fw K (.ref (xa K x)) (.ref (xa K y))=some (decide (x=y))
theorem aas {K:aj} {h:cj} {mg:bc->Option ae} {top:bc} {rs ns:List bc} (X:K.In h) (G:h.Ns bf mg) (e:Cb K top rs ns=true):XT K mg top rs ns:=by
 unfold Cb at e;simp only [bR,f9,beq_iff_eq] at e;obtain⟨⟨e1,e2⟩,e3⟩:=e;refine⟨λx hx=>?_,λx hx=>(e3 x hx).1.1.1.2,λx hx=>?_,λx hx=>(e3 x hx).1.1.2,λx hx=>(e3 x hx).1.2,λx hx y hy=>(e3 x hx).2 y hy⟩
 ·rcases hx with rfl | hx | hx
  ·exact sd X G e1
  ·exact sd X G (e3 x hx).1.1.1.1.1
  ·exact sd X G (e2 x hx)
 ·have z:=(e3 x hx).1.1.1.1.2;unfold xcB at z;simp only [bR,beq_iff_eq] at z;obtain⟨⟨⟨⟨⟨⟨⟨z1,z2⟩,z3⟩,z4⟩,z5⟩,z6⟩,z7⟩,z8⟩:=z;exact⟨z1,z2,z3,z4,z5,z6,z7,z8⟩
section
variable {X:Cx}
end
section
variable {X:Cx}
end
section
variable {X:Cx}
def PJ (X:Cx) (es:List b6) (n:Nat):Prop:=∀ (out:bc) (pins:List (ak × dR)) (s:ai) (σ:St) (H:Hp) (Q:VK),Inv X pins σ H s->out.length+n<=aJ->(∀ x,Q (.str x) H) ->
 wpAny (bn X.prog X.w) X.A (joinParts out (evalEach es X.env)) (EP X pins σ Q) X.xe s
theorem Vw:PJ X [] 0:=λout pins s σ H Q I hz q=>joinParts_nil ⟨.str out,H,I.tok _,⟨_,rfl⟩,q _⟩ (by omega)
theorem MI {x:bc} {j pos} {rest:List b6} {n:Nat} (h:PJ X rest n):PJ X (.Constant (.str x) j pos::rest) (x.length+n):=λout pins s σ H Q I hz q=>by
 have e:(out++x).length=out.length+x.length:=strLen_append ..;refine joinParts_cons (Ku ⟨by omega,h _ pins _ σ H Q (I.tok _) (by omega) q⟩)
theorem Vv {g:bc} {v:Int} {p p2:hW} {rest:List b6} {n:Nat} (hm:∃ t,X.mg g=some (.int v t)) (h:PJ X rest n) (hg:Gl X g:=by rfl) (hd:(g == ("__debug__" : bc))=false:=by decide) (hv:v.natAbs.log2<1920:=by decide +kernel) :
  PJ X (.FormattedValue (.Name g p) (-1) none p2::rest) ((toString v:bc).length+n):=λout pins s σ H Q I hz q=>by
 obtain⟨t,hm⟩:=hm;have e:(out++(toString v:bc)).length=out.length+(toString v:bc).length:=strLen_append ..;refine joinParts_cons (FormattedValue_plain (tq I hg hm (formatField_int_small hv ⟨by omega,h _ pins _ σ H Q (I.tok _) (by omega) q⟩) hd))
def Nz:TE:=λ_ H Q=>∀ x,Q (.str x) H
theorem Qu {v1 v2:b6} {rest:List b6} {pos:hW} {n:Nat} (h:PJ X (v1::v2::rest) n) (hn:n<=aJ:=by decide +kernel):PE X (.JoinedStr (v1::v2::rest) pos) Nz:=λpins s σ H Q I q =>
 JoinedStr_many (h Gy pins s σ H Q I (by rw[show Gy.length=0 from rfl];omega) q)
end
section
variable {X:Cx}
end
section
variable {X:Cx} {pins:List (ak × dR)} {σ:St} {H:Hp} {s:ai}
end
def Z7 (K:aj) (ta:TA):TE:=λσ H Q=>ta σ H λvs H1=>∃ (a:ak) (ks:List Int),vs=[.ref a]/\bQ K H1 a (ks.map V.int)/\ks.length+1<4096 /\
 ∀ ns:List Int,ns.Nodup->(∀ k,k∈ns↔k∈ks)->Q (.int ns.length) H1
theorem FT {X:Cx} {K:aj} {e:b6} {ta:TA} {p1 p2 afg MK:hW} (hK:X.K=K) (hc:X.calm=true) (hg:Gl X "len") (hm:X.mg "len" = none) (Kc:Gl X "set") (hm2:X.mg "set" = none) (he:PA X [e] ta)
  (h1:bD [e] X.env=[(false,eO e X.env)]:=by rfl) (h2:bD [.Call (.Name "set" p2) [e] [] MK] X.env=[(false,eO (.Call (.Name "set" p2) [e] [] MK) X.env)]:=by rfl) :
  PE X (.Call (.Name "len" p1) [.Call (.Name "set" p2) [e] [] MK] [] afg) (Z7 K ta):=by
 subst hK;intro pins s σ H Q I h;have inner:wpAny (bn X.prog X.w) X.A (eO (.Call (.Name "set" p2) [e] [] MK) X.env) (λv s1=>∃ (S:ak) (H1:Hp) (ks:List Int),v=.ref S/\Inv X pins σ H1 s1/\qH X.prog X.w s1.heap S (!X.w.params.followText "set-order") ks/\ks.length+1<4096 /\
   ∀ ns:List Int,ns.Nodup->(∀ k,k∈ns↔k∈ks)->Q (.int ns.length) H1) X.xe s:=by
  refine SU (lI I Kc hm2 PyProof.Rows.boot_set (dk (eY (he MK pins s σ H _ I h) λus s1 cW=>?_) h1 rfl));obtain⟨vs,H1,I1,r,q⟩:=cW;obtain⟨a,ks,rfl,ha,hz,q⟩:=q;obtain⟨u,rfl,ru⟩:=a0e r;cases ru;obtain⟨cw,rv,pl,_⟩:=I1.list ha;have hi:cL cw ks:=a0c rv;have hs:cw.toArray.size=ks.length:=by rw[aV];exact hi.length
  refine PySem.BD (I1.ok.hd hc) pl.isList (by simpa using hi) (by rw[hs];exact hz) λh' tk sI k=>?_;rw[hs,a0y] at sI;exact⟨_,H1,ks,rfl,I1.kept (t':=tk) k,sI,hz,q⟩
 refine SU (lI I hg hm be (rZ (by
  rw[h2];refine Kv (eY inner λv s1 x=>N5 ?_);obtain⟨S,H1,ks,rfl,I1,sI,hz,q⟩:=x;obtain⟨o,es,ep,t,ns,ho,hex,hd,_,hI,nd,mem,hsz,hf,_⟩:=sI;have hn:es.size=ns.length:=by have:=hI.length;simpa using this
  have hsm:ns.length<=ks.length:=gX ns ks nd λx hx=>(mem x).mp hx;refine PySem.call_len_set ho hex hd hf (by omega) ?_;have q2:=q ns nd mem;rw[← hn] at q2;exact⟨.int ((es.size:Nat):Int),H1,I1.kept (t':=s1.toks+1+1) λ_ _ z=>z,⟨_,rfl⟩,q2⟩) h2 rfl))
end L2
namespace L2
open PySem PyProof.Rows
section
variable {prog:aS} {w:bN} {A:bA} {E:ae->ai->Prop} {s:ai}
end
section
variable {prog:aS} {w:bN} {A:bA} {E:ae->ai->Prop} {s:ai}
end
section
variable {prog:aS} {w:bN} {A:bA} {E:ae->ai->Prop} {s:ai}
end
section
variable {a₀:Array Keyed} {pd:Array (Nat × Nat × Nat)} {st:SortSt}
variable {prog:aS} {w:bN} {A:bA} {E:ae->ai->Prop} {s:ai}
end
section
variable {prog:aS} {w:bN} {A:bA} {E:ae->ai->Prop} {s:ai} {a₀:Array Keyed} {pd:Array (Nat × Nat × Nat)} {st:SortSt}
end
section
variable {prog:aS} {w:bN} {A:bA} {E:ae->ai->Prop} {s:ai} {a₀:Array Keyed} {st:SortSt}
end
end L2
namespace L2
open PySem PySem.Spec PyProof.Rows
section
variable {prog:aS} {w:bN} {A:bA} {E:ae->ai->Prop} {s:ai}
end
section
variable {X:Cx}
end
section
variable {P:aS} {w:bN} {K:aj} {mg:bc->Option ae} {base:cj}
end
def Zy (K:aj):V->V->Hp->VK->Prop:=λx y H Q=>∃ p xs i v,x=.ref p/\y=.int i/\bQ K H p xs/\0<=i/\vX xs i=some v/\Q v H
theorem Le {X:Cx} {K:aj} (hK:X.K=K):W9 X (Zy K):=by
 subst hK;intro pins s σ H x y v u Q I rx ry h;obtain⟨p,xs,i,z,rfl,rfl,hq,h0,he,q⟩:=h;cases rx;obtain⟨t,rfl⟩:=ry;obtain⟨cw,r,pl,hz⟩:=I.list hq;obtain⟨j,h1,h2,h3,h4,h5⟩:=Ba he;obtain⟨w,ew,JE⟩:=r.get h2;have hl:=r.length;have hn:=uM;have hj:i.toNat=j:=by
  rw[EF h0 h5] at h1;exact ck h1
 exact wpAny_getItem_list pl.isList h0 (by omega) (by rw[hj];simpa using ew) ⟨z,H,I,JE,q⟩
def bm (n:Nat) (f:Int->Bool):List V:=(br n).map λp=>V.bl (f ((p:Nat):Int))
theorem Bc (n:Nat) (f:Int->Bool):(bm n f).length=n:=by unfold bm;simp
theorem C7 {n:Nat} {f g:Int->Bool} (h:∀ p:Int,0<=p->p<n->f p=g p):bm n f=bm n g:=by
 unfold bm;refine jJ λp hp=>?_;rw[h _ (by omega) (by have:=d8.mp hp;omega)]
theorem vd {n:Nat} {f:Int->Bool} {z:Int} (h0:0<=z) (h1:z<n):(bm n f)[z.toNat]?=some (.bl (f z)):=by
 unfold bm;rw[aI,dy (by omega)];show some (V.bl (f ((z.toNat:Nat):Int)))=_;rw[m4 h0]
theorem TF {n:Nat} {f:Int->Bool} {z:Int} (h0:0<=z) (h1:z<n):(bm n f).set z.toNat (.bl true)=bm n λx=>f x || decide (x=z):=by
 apply c6;intro p
 by_cases hp:p<n
 ·by_cases e:p=z.toNat
  ·subst e;rw[cS (by rw[Bc];exact hp),vd h0 h1];simp
  ·rw[dg (dG e)];have kU:¬ ((p:Nat):Int)=z:=by omega
   unfold bm;rw[aI,aI,dy hp];simp[kU]
 ·rw[bo (by rw[fN,Bc];omega),bo (by rw[Bc];omega)]
theorem KS (n:Nat) (b:Bool):(aD n [V.bl b]).flatten=bm n λ_=>b:=by
 unfold bm
 induction n with
 | zero=>rfl
 | succ n ih=>rw[rY,fU,ih,iO,aN];rfl
def im (n:Nat) (f:Int->Int):List Int:=(br n).map λp=>f ((p:Nat):Int)
theorem nB (n:Nat) (f:Int->Int):(im n f).length=n:=by unfold im;simp
theorem Ds {n:Nat} {f:Int->Int} {z:Int} (h0:0<=z) (h1:z<n):(im n f)[z.toNat]?=some (f z):=by
 unfold im;rw[aI,dy (by omega)];show some (f ((z.toNat:Nat):Int))=_;rw[m4 h0]
theorem Fx {n:Nat} {f:Int->Int} {z v:Int} (h0:0<=z) (h1:z<n):(im n f).set z.toNat v=im n λx=>if x=z then v else f x:=by
 apply c6;intro p
 by_cases hp:p<n
 ·by_cases e:p=z.toNat
  ·subst e;rw[cS (by rw[nB];exact hp),Ds h0 h1,if_pos rfl]
  ·rw[dg (dG e)];have kU:¬ ((p:Nat):Int)=z:=by omega
   unfold im;rw[aI,aI,dy hp];simp[kU]
 ·rw[bo (by rw[fN,nB];omega),bo (by rw[nB];omega)]
theorem pH {n:Nat} {f g:Int->Int} (h:∀ p:Int,0<=p->p<n->f p=g p):im n f=im n g:=by
 unfold im;refine jJ λp hp=>?_;rw[h _ (by omega) (by have:=d8.mp hp;omega)]
theorem PQ (n:Nat) (f:Int->Int):im (n+1) f=im n f++[f ((n:Nat):Int)]:=by unfold im;rw[iO,aN];rfl
theorem pR (l:List Int) (k:Nat) (v:Int):(l.map V.int).set k (.int v)=(l.set k v).map V.int:=by rw[aaI]
end L2
namespace Law
open PySem L2
def jp (G:List Row) (k:Nat):List Int:=((G[k]?).getD (0,0,[])).2.2
theorem JR {G:List Row} {k:Nat} {r:Row} (h:G[k]?=some r):jp G k=r.2.2:=by unfold jp;rw[h];rfl
def YS (G:List Row) (p k:Nat):Bool:=decide ((p:Int)∈jp G k)
def col (G:List Row) (i p:Nat):List Int:=((br i).filter (YS G p)).map λ(k:Nat)=>(k:Int)
def wi (G:List Row) (i:Nat):List (List Int):=(br G.length).map (col G i)
def HZ (G:List Row) (i j:Nat):List (List Int):=(br G.length).map λp=>col G i p++if (p:Int)∈(jp G i).take j then [(i:Int)] else []
theorem NP (G:List Row) (i:Nat):(wi G i).length=G.length:=by simp[wi]
theorem Ia (G:List Row) (i j:Nat):(HZ G i j).length=G.length:=by simp[HZ]
theorem Rn (G:List Row):wi G 0=aD G.length []:=by
 apply c6;intro p
 by_cases h:p<G.length
 ·simp[wi,h];rfl
 ·simp[wi,h]
theorem NO (G:List Row) (i:Nat):HZ G i 0=wi G i:=by simp[HZ,wi]
theorem Rk (G:List Row) (i:Nat):HZ G i (jp G i).length=wi G (i+1):=by
 unfold HZ wi;refine jJ λp _=>?_;rw[aY];unfold col;rw[iO,cV,aN];congr 1
 by_cases h:(p:Int)∈jp G i
 ·simp[h,YS]
 ·simp[h,YS]
theorem V6 {G:List Row} {i j:Nat} {z:Int} (h:(jp G i)[j]?=some z) (hn:(jp G i).Nodup) (h0:0<=z) (h1:z<G.length):(HZ G i j)[z.toNat]?=some (col G i z.toNat):=by
 have hz:z.toNat<G.length:=by omega
 have e:((z.toNat:Nat):Int)=z:=by omega
 have hni:z ∉ (jp G i).take j:=λhm=>by
  obtain⟨k,hk⟩:=ce hm;rw[km] at hk;split at hk
  ·have:=qw hn hk h;omega
  ·cases hk
 simp[HZ,hz,e,hni]
theorem Rm {G:List Row} {i j:Nat} {z:Int} (h:(jp G i)[j]?=some z) (h0:0<=z) (h1:z<G.length):(HZ G i j).set z.toNat (col G i z.toNat++[(i:Int)])=HZ G i (j+1):=by
 have hz:z.toNat<G.length:=by omega
 have e:((z.toNat:Nat):Int)=z:=by omega
 apply c6;intro p
 by_cases hp:p=z.toNat
 ·subst hp;rw[cS (by rw[Ia];exact hz)];have:z∈(jp G i).take (j+1):=(cz h).mpr (.inr rfl);simp[HZ,hz,e,this]
 ·rw[dg (dG hp)]
  by_cases hl:p<G.length
  ·have kU:(p:Int)≠z:=by omega
   have:(p:Int)∈(jp G i).take (j+1)↔(p:Int)∈(jp G i).take j:=by rw[cz h];simp[kU]
   simp[HZ,hl,this]
  ·simp[HZ,hl]
def wy (G:List Row) (p:Int):List Int:=((G[p.toNat]?).getD (0,0,[])).2.2
def hd (G:List Row) (p:Int):Int:=((G[p.toNat]?).getD (0,0,[])).1
theorem xW {G:List Row} {p:Int} {r:Row} (h:G[p.toNat]?=some r):wy G p=r.2.2:=by unfold wy;rw[h];rfl
theorem vg {G:List Row} {p:Int} {r:Row} (h:G[p.toNat]?=some r):hd G p=r.1:=by unfold hd;rw[h];rfl
def ow (n:Nat):List Int:=(br n).map λ(i:Nat)=>(i:Int)
theorem gQ {n:Nat} {p:Int}:p∈ow n↔0<=p/\p<n:=by
 unfold ow;rw[aM];constructor
 ·rintro⟨i,hi,rfl⟩;have:=d8.mp hi;omega
 ·rintro⟨h0,h1⟩;exact⟨p.toNat,d8.mpr (by omega),by (clear h1;omega)⟩
theorem BM (n:Nat):(ow n).Pairwise (·<·):=by
 unfold ow;rw[cT];exact iK.imp λh=>by omega
theorem MW (n:Nat):ow (n+1)=ow n++[(n:Int)]:=by unfold ow;rw[iO,aN];rfl
def IB (G:List Row):Prop:=∀ row∈G,row.2.2.Pairwise (·<·)/\∀ x∈row.2.2,0<=x/\x<G.length
theorem NU {G:List Row} (h:IB G) (p:Int):(wy G p).Nodup:=by
 unfold wy;cases e:G[p.toNat]? with
 | none=>exact nO
 | some r=>exact (h r (aq e)).1.imp λh=>by omega
theorem aaq {G:List Row} (h:IB G) {p w:Int} (hw:w∈wy G p):0<=w/\w<G.length:=by
 unfold wy at hw;cases e:G[p.toNat]? with
 | none=>rw[e] at hw;cases hw
 | some r=>rw[e] at hw;exact (h r (aq e)).2 w hw
section
variable (G:List Row) (hand:Int) (ins:Int->Bool)
def chr (S:List Int) (p:Int):Bool:=ins p && decide (p ∉ S) && (if hd G p=hand then (wy G p).any (λw=>decide (w∈S)) else (wy G p).any ins && (wy G p).all λw=>!ins w || decide (w∈S))
def FK (S:List Int):List Int:=(ow G.length).filter (chr G hand ins S)
def run:Nat->List (List Int)->List Int->List (List Int)
 | 0,Ls,_=>Ls
 | k+1,Ls,L=>if L=[] then Ls else run k (Ls++[L]) (FK G hand ins (Ls.flatten++L))
def a0r (want:Int->Bool):List Int:=(ow G.length).filter λp=>ins p && want p
def kM (want:Int->Bool):List (List Int):=run G hand ins (G.length+1) [] (a0r G ins want)
end
section
variable {G:List Row} {hand:Int} {ins:Int->Bool}
theorem qy {S:List Int} {p:Int}:p∈FK G hand ins S↔(0<=p/\p<G.length)/\chr G hand ins S p=true:=by
 unfold FK;rw[bF,gQ]
theorem FM (S:List Int):(FK G hand ins S).Pairwise (·<·):=(BM _).filter _
theorem G8 {S:List Int} {p:Int} (h:p∈FK G hand ins S):p ∉ S/\ins p=true:=by
 have:=(qy.mp h).2;unfold chr at this;simp only [bR,decide_eq_true_eq] at this;exact⟨this.1.2,this.1.1⟩
structure LI (G:List Row) (hand:Int) (ins:Int->Bool) (Ls:List (List Int)) (L:List Int):Prop where
 nd:(Ls.flatten++L).Nodup
 rg:∀ p∈Ls.flatten++L,0<=p/\p<G.length
 Cq:∀ p∈Ls.flatten++L,ins p=true
theorem pQ {l:List Int} (h:l.Pairwise (·<·)):l.Nodup:=h.imp λh=>by omega
theorem LI.start (want:Int->Bool):LI G hand ins [] (a0r G ins want):=by
 refine⟨?_,λp hp=>?_,λp hp=>?_⟩
 ·exact pQ ((BM _).filter _)
 ·exact gQ.mp (bF.mp hp).1
 ·have:=(bF.mp hp).2;simp only [bR] at this;exact this.1
theorem LI.next {Ls:List (List Int)} {L:List Int} (h:LI G hand ins Ls L):LI G hand ins (Ls++[L]) (FK G hand ins (Ls.flatten++L)):=by
 have e:(Ls++[L]).flatten=Ls.flatten++L:=by simp
 refine⟨?_,λp hp=>?_,λp hp=>?_⟩
 ·rw[eK];exact⟨by rw[e];exact h.nd,pQ (FM _),λa ha b hb z=>(G8 hb).1 (by rw[← z];rw[e] at ha;exact ha)⟩
 ·rcases bj.mp hp with hp | hp
  ·rw[e] at hp;exact h.rg p hp
  ·exact (qy.mp hp).1
 ·rcases bj.mp hp with hp | hp
  ·rw[e] at hp;exact h.Cq p hp
  ·exact (G8 hp).2
theorem LI.len {Ls:List (List Int)} {L:List Int} (h:LI G hand ins Ls L):Ls.flatten.length+L.length<=G.length:=by
 have:=gX (Ls.flatten++L) (ow G.length) h.nd λx hx=>gQ.mpr (h.rg x hx);rw[aO] at this;unfold ow at this;simpa using this
end
section
variable (G:List Row) (hand:Int) (ins want:Int->Bool)
def cnt (S:List Int) (p:Int):Nat:=((wy G p).filter λw=>decide (w∈S)).length
def ff (p:Int):Nat:=if ins p=false\/want p=true then 0 else if hd G p=hand then 1 else ((wy G p).filter ins).length
end
section
variable {G:List Row} {hand:Int} {ins want:Int->Bool}
theorem xg {l:List Int} {p q:Int->Bool} (h:∀ x,p x=true->q x=true):(l.filter p).length<=(l.filter q).length:=by
 induction l with
 | nil=>simp
 | cons a l ih =>
  cases e1:p a with
  | true=>rw[bq e1,bq (h a e1)];simpa using ih
  | false =>
   rw[bz (by simp[e1])];cases e2:q a with
   | true=>rw[bq e2,bi];omega
   | false=>rw[bz (by simp[e2])];exact ih
theorem C9 {S T:List Int} (h:∀ x∈S,x∈T) (p:Int):cnt G S p<=cnt G T p:=by
 unfold cnt;exact xg λw hw=>by simp only [decide_eq_true_eq] at hw ⊢;exact h w hw
theorem vE {l:List Int} (nd:l.Nodup) {S:List Int} {x:Int} (hx:x ∉ S):(l.filter λw=>decide (w∈S++[x])).length=(l.filter λw=>decide (w∈S)).length+if x∈l then 1 else 0:=by
 induction l with
 | nil=>simp
 | cons a l ih =>
  obtain⟨na,nl⟩:=dt.mp nd;have ih:=ih nl
  by_cases e:a=x
  ·subst e;rw[bq (by simp),bz (by simpa using hx),bi,ih,if_neg na,if_pos (by simp)]
  ·have h1:(x∈a::l)↔x∈l:=by rw[aB];exact⟨λz=>z.resolve_left λz=>e z.symm,.inr⟩
   by_cases c:a∈S
   ·rw[bq (by simp[c]),bq (by simp[c]),bi,bi,ih];simp only [h1];(clear hx na ih e h1;omega)
   ·rw[bz (by simp[c,e]),bz (by simpa using c),ih];simp only [h1]
theorem KZ (h:IB G) {S:List Int} {x:Int} (hx:x ∉ S) (p:Int):cnt G (S++[x]) p=cnt G S p+if x∈wy G p then 1 else 0:=vE (NU h p) hx
def Seen (G:List Row) (hand:Int) (ins want:Int->Bool) (S0 S:List Int):Prop:=∀ p:Int,0<=p/\p<G.length->(p∈S↔(ins p=true/\want p=true)\/(1<=ff G hand ins want p/\ff G hand ins want p<=cnt G S0 p))
theorem Fa {l:List Int} {p q:Int->Bool} (hpq:∀ x,q x=true->p x=true):((l.filter p).length<=(l.filter q).length↔∀ x∈l,p x=true->q x=true):=by
 induction l with
 | nil=>simp
 | cons a l ih =>
  have hle:(l.filter q).length<=(l.filter p).length:=xg λx hx=>hpq x hx;cases e1:p a with
  | true =>
   cases e2:q a with
   | true=>rw[bq e1,bq e2];simp[ih,e2]
   | false =>
    rw[bq e1,bz (by simp[e2]),bi];constructor
    ·intro h;omega
    ·intro h;have:=h a (by simp) e1;rw[e2] at this;cases this
  | false =>
   have e2:q a=false:=by
    cases z:q a with
    | false=>rfl
    | true=>rw[hpq a z] at e1;cases e1
   rw[bz (by simp[e1]),bz (by simp[e2]),ih];simp[e1]
theorem uC (hG:IB G) {S0 S:List Int} (hS:Seen G hand ins want S0 S) (lG:∀ x∈S,ins x=true) (h0:∀ x∈S0,x∈S) {p:Int} (hp:0<=p/\p<G.length):chr G hand ins S p=true↔1<=ff G hand ins want p/\cnt G S0 p<ff G hand ins want p/\ff G hand ins want p<=cnt G S p:=by
 have key:ins p=true->want p=false->((if hd G p=hand then (wy G p).any (λw=>decide (w∈S)) else (wy G p).any ins && (wy G p).all λw=>!ins w || decide (w∈S))=true↔1<=ff G hand ins want p/\ff G hand ins want p<=cnt G S p):=λhi hw=>by
  have hl:ff G hand ins want p=if hd G p=hand then 1 else ((wy G p).filter ins).length:=by unfold ff;rw[if_neg (by rw[hi,hw];simp)]
  rw[hl]
  by_cases ho:hd G p=hand
  ·simp only [if_pos ho];unfold cnt;rw[lO];constructor
   ·rintro⟨w,h1,h2⟩;exact⟨az _,bT.mpr (u9 (bF.mpr ⟨h1,h2⟩))⟩
   ·rintro⟨_,h⟩;obtain⟨w,hw⟩:=yt h;exact⟨w,(bF.mp hw).1,(bF.mp hw).2⟩
  ·simp only [if_neg ho];rw[bR,lO,f9];unfold cnt;rw[Fa (p:=ins) (q:=λw=>decide (w∈S)) λx hx=>lG x (of_decide_eq_true hx)];constructor
   ·rintro⟨⟨w,h1,h2⟩,h3⟩;refine⟨bT.mpr (u9 (bF.mpr ⟨h1,h2⟩)),λx hx hi=>?_⟩;have:=h3 x hx;rw[hi] at this;simpa using this
   ·rintro⟨h1,h2⟩;obtain⟨w,hw⟩:=yt h1;refine⟨⟨w,(bF.mp hw).1,(bF.mp hw).2⟩,λx hx=>?_⟩;cases e:ins x with
    | false=>rfl
    | true=>have:=h2 x hx e;simpa using this
 have hs:=hS p hp;unfold chr;rw[bR,bR,decide_eq_true_eq];constructor
 ·rintro⟨⟨hi,hn⟩,hc⟩;have hw:want p=false:=by
   cases e:want p with
   | false=>rfl
   | true=>exact absurd (hs.mpr (.inl ⟨hi,e⟩)) hn
  obtain⟨k1,k2⟩:=(key hi hw).mp hc;refine⟨k1,?_,k2⟩;rcases cN (cnt G S0 p) (ff G hand ins want p) with z | z
  ·exact z
  ·exact absurd (hs.mpr (.inr ⟨k1,z⟩)) hn
 ·rintro⟨h1,h2,h3⟩;have X2:ins p=true/\want p=false:=by
   unfold ff at h1
   by_cases c:ins p=false\/want p=true
   ·rw[if_pos c] at h1;omega
   ·constructor
    ·cases e:ins p with
     | true=>rfl
     | false=>exact absurd (.inl e) c
    ·cases e:want p with
     | false=>rfl
     | true=>exact absurd (.inr e) c
  refine⟨⟨X2.1,λhm=>?_⟩,(key X2.1 X2.2).mpr ⟨h1,h3⟩⟩;rcases hs.mp hm with z | z
  ·rw[X2.2] at z;cases z.2
  ·(clear lG h0 hp key hs h3 X2 h1;omega)
theorem Seen.start:Seen G hand ins want [] (a0r G ins want):=λp hp=>by
 unfold a0r;rw[bF,gQ,bR];have:cnt G [] p=0:=by unfold cnt;simp
 rw[this];constructor
 ·rintro⟨_,h⟩;exact .inl h
 ·rintro (h | h)
  ·exact⟨hp,h⟩
  ·(clear hp this;omega)
theorem Seen.next (hG:IB G) {S0 S:List Int} (hS:Seen G hand ins want S0 S) (lG:∀ x∈S,ins x=true) (h0:∀ x∈S0,x∈S):Seen G hand ins want S (S++FK G hand ins S):=λp hp=>by
 have hm:=C9 (G:=G) h0 p;rw[bj,hS p hp,qy,uC hG hS lG h0 hp];constructor
 ·rintro ((h | h) | ⟨_,h⟩)
  ·exact .inl h
  ·exact .inr ⟨h.1,by (clear lG h0 hp;omega)⟩
  ·exact .inr ⟨h.1,h.2.2⟩
 ·rintro (h | ⟨h1,h2⟩)
  ·exact .inl (.inl h)
  ·by_cases c:ff G hand ins want p<=cnt G S0 p
   ·exact .inl (.inr ⟨h1,c⟩)
   ·exact .inr ⟨hp,h1,by (clear lG h0 hp hm h1 h2;omega),h2⟩
end
def lv (R:List (List Int)) (k:Nat) (p:Int):Prop:=∃ L,R[k]?=some L/\p∈L
theorem DE {R:List (List Int)} {k:Nat} {p:Int} (h:lv R k p):k<R.length:=by
 obtain⟨L,h,_⟩:=h;exact (af.mp h).1
theorem m6 {R:List (List Int)} {k:Nat} {p:Int}:p∈(R.take k).flatten↔∃ j,j<k/\lv R j p:=by
 rw[xY];constructor
 ·rintro⟨L,hL,hp⟩;obtain⟨j,hj⟩:=ce hL;rw[km] at hj
  by_cases c:j<k
  ·rw[if_pos c] at hj;exact⟨j,c,L,hj,hp⟩
  ·rw[if_neg c] at hj;cases hj
 ·rintro⟨j,c,L,hj,hp⟩;exact⟨L,aq (i:=j) (by rw[km,if_pos c];exact hj),hp⟩
theorem tz {R:List (List Int)} {p:Int}:p∈R.flatten↔∃ j,lv R j p:=by
 have h:=m6 (R:=R) (k:=R.length) (p:=p);rw[aY] at h;rw[h];exact⟨λ⟨j,_,h⟩=>⟨j,h⟩,λ⟨j,h⟩=>⟨j,DE h,h⟩⟩
theorem Se {R:List (List Int)} {j k:Nat} {p:Int} (nd:R.flatten.Nodup) (c:j<k) (h1:lv R j p) (h2:lv R k p):False:=by
 have e:R.flatten=(R.take k).flatten++(R.drop k).flatten:=by rw[← fU,fb]
 rw[e,eK] at nd;obtain⟨L,hL,hp⟩:=h2;refine nd.2.2 p (m6.mpr ⟨j,c,h1⟩) p ?_ rfl;rw[xY];exact⟨L,aq (i:=0) (by rw[kj];exact hL),hp⟩
theorem nG {R:List (List Int)} {j k:Nat} {p:Int} (nd:R.flatten.Nodup) (h1:lv R j p) (h2:lv R k p):j=k:=by
 rcases Nat.lt_trichotomy j k with h | h | h
 ·exact (Se nd h h1 h2).elim
 ·exact h
 ·exact (Se nd h h2 h1).elim
section
variable (G:List Row) (hand:Int) (ins want:Int->Bool)
def nx (Ls:List (List Int)):List Int:=if Ls=[] then a0r G ins want else FK G hand ins Ls.flatten
def a0w (Ls:List (List Int)):Prop:=∀ k L,Ls[k]?=some L->L=nx G hand ins want (Ls.take k)/\L≠[]
structure Lay (R:List (List Int)):Prop where
 ch:a0w G hand ins want R
 nil:nx G hand ins want R=[]
 li:LI G hand ins R []
end
section
variable {G:List Row} {hand:Int} {ins want:Int->Bool}
theorem a0u {Ls:List (List Int)} {L:List Int} (h:a0w G hand ins want Ls) (e:L=nx G hand ins want Ls) (kU:L≠[]):a0w G hand ins want (Ls++[L]):=by
 intro k M hk
 by_cases c:k<Ls.length
 ·rw[bW c] at hk;rw[md (by omega)];exact h k M hk
 ·have h2:=(af.mp hk).1;rw[aO,cC] at h2;have Uj:k=Ls.length:=by omega
  subst Uj;rw[bU (az _),ny] at hk;have:L=M:=ck hk;subst this;rw[md (az _),aY];exact⟨e,kU⟩
theorem QQ (k:Nat):∀ (Ls:List (List Int)) (L:List Int),LI G hand ins Ls L->a0w G hand ins want Ls->L=nx G hand ins want Ls->G.length+1<=k+Ls.flatten.length->Lay G hand ins want (run G hand ins k Ls L):=by
 induction k with
 | zero=>intro Ls L h1 _ _ h4;have:=h1.len;omega
 | succ k ih =>
  intro Ls L h1 h2 h3 h4;show Lay G hand ins want (if L=[] then Ls else run G hand ins k (Ls++[L]) (FK G hand ins (Ls.flatten++L)))
  by_cases c:L=[]
  ·rw[if_pos c];subst c;exact⟨h2,h3.symm,h1⟩
  ·rw[if_neg c];have Kb:(Ls++[L]).flatten=Ls.flatten++L:=by simp
   have:0<L.length:=bT.mpr c;refine ih _ _ h1.next (a0u h2 h3 c) ?_ (by rw[Kb,aO];omega);unfold nx;rw[if_neg (by simp),Kb]
theorem rO:Lay G hand ins want (kM G hand ins want) :=
 QQ _ _ _ (LI.start want) (λk L h=>by simp at h) (by unfold nx;rw[if_pos rfl]) (by simp)
variable {R:List (List Int)}
theorem Lay.nd (h:Lay G hand ins want R):R.flatten.Nodup:=by have:=h.li.nd;rwa [d9] at this
theorem HU {k:Nat} (h0:1<=k) (h1:k<=R.length):R.take k≠[]:=λz=>by
 have:=congrArg l9 z;rw[cA] at this;simp at this;rcases this with h | h
 ·omega
 ·subst h;simp at h1;omega
theorem Lay.zero (h:Lay G hand ins want R) {p:Int} (hp:0<=p/\p<G.length):lv R 0 p↔ins p=true/\want p=true:=by
 have e:p∈a0r G ins want↔ins p=true/\want p=true:=by
  unfold a0r;rw[bF,gQ,bR];exact⟨λz=>z.2,λz=>⟨hp,z⟩⟩
 rw[← e];constructor
 ·rintro⟨L,h1,h2⟩;have:=(h.ch 0 L h1).1;rw[this] at h2;unfold nx at h2;rw[fD,if_pos rfl] at h2;exact h2
 ·intro h1;cases c:R with
  | nil =>
   have:=h.nil;rw[c] at this;unfold nx at this;rw[if_pos rfl] at this;rw[this] at h1;cases h1
  | cons L R' =>
   refine⟨L,rfl,?_⟩;have:=(h.ch 0 L (by rw[c];rfl)).1;unfold nx at this;rw[fD,if_pos rfl] at this;rw[this];exact h1
theorem Lay.on (h:Lay G hand ins want R) {k:Nat} {p:Int} (hp:0<=p/\p<G.length) (h0:1<=k) (h1:k<=R.length) (hc:chr G hand ins (R.take k).flatten p=true):lv R k p:=by
 have hn:=HU h0 h1;have hm:p∈nx G hand ins want (R.take k):=by unfold nx;rw[if_neg hn];exact qy.mpr ⟨hp,hc⟩
 by_cases c:k<R.length
 ·have e:R[k]?=some R[k]:=by simp
  exact⟨_,e,by rw[(h.ch k _ e).1];exact hm⟩
 ·have:k=R.length:=by (clear hp h0 hc hn;omega)
  subst this;rw[aY,h.nil] at hm;cases hm
theorem Lay.chr (h:Lay G hand ins want R) {k:Nat} {p:Int} (h0:1<=k) (hl:lv R k p):chr G hand ins (R.take k).flatten p=true:=by
 obtain⟨L,h1,h2⟩:=hl;have h3:=(h.ch k L h1).1;have h4:=(af.mp h1).1;unfold nx at h3;rw[if_neg (HU h0 (by omega))] at h3;rw[h3] at h2;exact (qy.mp h2).2
theorem vY {S:List Int} {p:Int}:Law.chr G hand ins S p=true↔ins p=true/\p ∉ S/\(if hd G p=hand then ∃ w∈wy G p,w∈S else (∃ w∈wy G p,ins w=true)/\∀ w∈wy G p,ins w=true->w∈S):=by
 unfold Law.chr
 by_cases c:hd G p=hand
 ·rw[if_pos c,if_pos c];simp[and_assoc]
 ·rw[if_neg c,if_neg c];simp only [bR,decide_eq_true_eq,lO,f9,zk,kP,and_assoc];refine⟨λ⟨a,b,c,d⟩=>⟨a,b,c,λw hw hi=>(d w hw).resolve_left (by rw[hi];simp)⟩,λ⟨a,b,c,d⟩=>⟨a,b,c,λw hw=>?_⟩⟩;cases e:ins w with
  | false=>exact .inl rfl
  | true=>exact .inr (d w hw e)
theorem Lay.own (h:Lay G hand ins want R) {p:Int} (hp:0<=p/\p<G.length) (hi:ins p=true) (hw:want p=false) (ho:hd G p=hand) :
  (∀ k,lv R k p->∃ j,k=j+1/\(∃ w∈wy G p,lv R j w)/\∀ w∈wy G p,∀ i,lv R i w->j<=i)/\((∀ k,¬ lv R k p)->∀ w∈wy G p,∀ i,¬ lv R i w):=by
 have mk:∀ i w,w∈wy G p->lv R i w->(∀ j,j<=i->¬ lv R j p)->lv R (i+1) p:=λi w pb hl vI=>by
  refine h.on hp (by (clear hp hi hw ho vI;omega)) (DE hl) (vY.mpr ⟨hi,λz=>?_,?_⟩)
  ·obtain⟨j,hj,o6⟩:=m6.mp z;exact vI j (by (clear hp hi hw ho vI;omega)) o6
  ·rw[if_pos ho];exact⟨w,pb,m6.mpr ⟨i,by (clear hp hi hw ho vI;omega),hl⟩⟩
 constructor
 ·intro k hk;cases k with
  | zero=>rw[((h.zero hp).mp hk).2] at hw;cases hw
  | succ j =>
   obtain⟨_,c2,c3⟩:=vY.mp (h.chr (by (clear hp hi hw ho mk;omega)) hk);rw[if_pos ho] at c3;have least:∀ w∈wy G p,∀ i,lv R i w->j<=i:=λw pb i hl=>by
    rcases cN i j with c | c
    ·have:=mk i w pb hl λj' hj' Um=>by have:=nG h.nd Um hk;(clear hp hi hw ho mk c2;omega)
     have:=nG h.nd this hk
     (clear hp hi hw ho mk c2 c;omega)
    ·exact c
   obtain⟨w,pb,mW⟩:=c3;obtain⟨i,X0,hl⟩:=m6.mp mW;have:=least w pb i hl;have e:i=j:=by (clear hp hi hw ho mk c2 least;omega)
   subst e;exact⟨i,rfl,⟨w,pb,hl⟩,least⟩
 ·intro vI w pb i hl;exact vI _ (mk i w pb hl λj _=>vI j)
theorem Lay.oth (h:Lay G hand ins want R) {p:Int} (hp:0<=p/\p<G.length) (hi:ins p=true) (hw:want p=false) (ho:¬ hd G p=hand) :
  (∀ k,lv R k p->∃ j,k=j+1/\(∃ w∈wy G p,ins w=true/\lv R j w)/\∀ w∈wy G p,ins w=true->∃ i,i<=j/\lv R i w) /\
  ((∀ k,¬ lv R k p)->(∀ w∈wy G p,ins w=false)\/∃ w∈wy G p,ins w=true/\∀ i,¬ lv R i w):=by
 have mk:∀ k,1<=k->k<=R.length->(∃ w∈wy G p,ins w=true)->(∀ w∈wy G p,ins w=true->∃ i,i<k/\lv R i w)->(∀ j,j<k->¬ lv R j p)->lv R k p:=λk k0 k1 he ha vI=>by
  refine h.on hp k0 k1 (vY.mpr ⟨hi,λz=>?_,?_⟩)
  ·obtain⟨j,hj,o6⟩:=m6.mp z;exact vI j hj o6
  ·rw[if_neg ho];exact⟨he,λw pb mW=>m6.mpr (ha w pb mW)⟩
 constructor
 ·intro k hk;cases k with
  | zero=>rw[((h.zero hp).mp hk).2] at hw;cases hw
  | succ j =>
   obtain⟨_,c2,c3⟩:=vY.mp (h.chr (by (clear hp hi hw ho mk;omega)) hk);rw[if_neg ho] at c3;obtain⟨he,ha⟩:=c3;have Lk:∀ w∈wy G p,ins w=true->∃ i,i<j+1/\lv R i w:=λw pb mW=>m6.mp (ha w pb mW);refine⟨j,rfl,?_,λw pb mW=>by obtain⟨i,a,b⟩:=Lk w pb mW;exact⟨i,by (clear hp hi hw ho mk c2 ha Lk mW;omega),b⟩⟩;refine bB λvI=>?_;have hl:∀ w∈wy G p,ins w=true->∃ i,i<j/\lv R i w:=λw pb mW=>by
    obtain⟨i,a,b⟩:=Lk w pb mW;rcases cN i j with c | c
    ·exact⟨i,c,b⟩
    ·have:i=j:=by (clear hp hi hw ho mk c2 ha Lk vI mW;omega)
     subst this;exact (vI ⟨w,pb,mW,b⟩).elim
   obtain⟨w,pb,mW⟩:=he;obtain⟨i,oZ,_⟩:=hl w pb mW;have:=DE hk;have h2:=mk j (by (clear hp hi hw ho mk c2 ha Lk vI hl mW this;omega)) (by (clear hp hi hw ho mk c2 ha Lk vI hl mW oZ;omega)) ⟨w,pb,mW⟩ hl λj' hj' Um=>by have:=nG h.nd Um hk;(clear hp hi hw ho mk c2 ha Lk vI hl mW oZ;omega)
   have:=nG h.nd h2 hk
   (clear hp hi hw ho mk c2 ha Lk vI hl mW oZ;omega)
 ·intro vI;refine bB λhn=>?_;have he:∃ w∈wy G p,ins w=true:=bB λz=>hn (.inl λw pb=>by
   cases e:ins w with
   | false=>rfl
   | true=>exact (z ⟨w,pb,e⟩).elim)
  have ha:∀ w∈wy G p,ins w=true->∃ i,i<R.length/\lv R i w:=λw pb mW=>bB λz=>hn (.inr ⟨w,pb,mW,λi hl=>z ⟨i,DE hl,hl⟩⟩);obtain⟨w,pb,mW⟩:=he;obtain⟨i,oZ,_⟩:=ha w pb mW;exact vI _ (mk R.length (by (clear hp hi hw ho mk vI hn ha mW;omega)) (az _) ⟨w,pb,mW⟩ ha λj _=>vI j)
end
end Law
namespace L2
open PySem PySem.Spec PyProof.Rows
theorem Lc {K:aj} {a b:ak} {xs ys:List V} {g:TG} {tb:TS} {D:Ends} {σ:St} {H:Hp} (n:Nat) (Kd:n<=xs.length) (LC:n<=ys.length) (hn:n=xs.length\/n=ys.length) (Pv:Nat->St->Hp->Prop) (h0:Pv 0 σ H) (hl:∀ i σ H,i<=n->Pv i σ H->bQ K H a xs/\bQ K H b ys)
  (hs:∀ i x y σ H T,i<n->xs[i]?=some x->ys[i]?=some y->Pv i σ H->H T=none->g (.ref T) σ (upd H T (.tup [x,y])) λσ2 H2=>tb { D with nx:=Pv (i+1),ct:=Pv (i+1),bk:=D.nx } σ2 H2) (hd:∀ σ H,Pv n σ H->D.nx σ H) :
  ∃ W:Nat->Nat->St->Hp->Prop,(∃ m,W 0 m σ H)/\∀ i m σ H,W i m σ H ->
   ((RC K a b).stop i H/\D.nx σ H)\/((RC K a b).go i H/\∃ N:St->Hp->Prop,(∀ σ' H',N σ' H'->∃ m',m'<m/\W (i+1) m' σ' H')/\∀ x H',(RC K a b).Eo i H x H'->g x σ H' λσ2 H2=>tb { D with nx:=N,ct:=N,bk:=D.nx } σ2 H2):=by
 refine⟨λi m σ H=>m=n-i/\i<=n/\Pv i σ H,⟨n,by simp,bv _,h0⟩,?_⟩;rintro i m σ H ⟨rfl,hi,p⟩;obtain⟨q,q2⟩:=hl i σ H hi p
 by_cases iz:i<n
 ·refine .inr ⟨⟨xs,ys,xs[i]'(by omega),ys[i]'(by omega),q,q2,by simp,by simp⟩,Pv (i+1),λσ' H' p'=>⟨n-(i+1),by (clear Kd LC hn hl hs hd hi;omega),rfl,iz,p'⟩,λx H' y=>?_⟩;obtain⟨T,u,v,rfl,hT,e1,e2,rfl⟩:=y;exact hs i u v σ _ T iz (e1 xs q) (e2 ys q2) p hT
 ·have e:i=n:=by (clear Kd LC hn hl hs hd;omega)
  subst e;refine .inl ⟨⟨xs,ys,q,q2,?_⟩,hd σ H p⟩;rcases hn with h | h
  ·exact .inl (by omega)
  ·exact .inr (by omega)
theorem zF (xs:List V):IL xs (some 1) none=xs.drop 1:=by
 unfold IL;show List.take _ (List.drop (HT.Cr xs.length 0 (some ((1:Nat):Int))) xs)=_;rw[HT.QS,HT.M1];cases xs with
 | nil=>rfl
 | cons x xs =>
  have:min 1 (x::xs).length=1:=by simp
  show List.take ((x::xs).length-min 1 (x::xs).length) (List.drop (min 1 (x::xs).length) (x::xs))=_;rw[this];refine qo ?_;simp
def oW:Option Int->V
 | none=>.fj
 | some z=>.int z
def om (n:Nat) (f:Int->Option Int):List V:=(br n).map λp=>oW (f ((p:Nat):Int))
theorem nI (n:Nat) (f:Int->Option Int):(om n f).length=n:=by unfold om;simp
theorem DT {n:Nat} {f g:Int->Option Int} (h:∀ p:Int,0<=p->p<n->f p=g p):om n f=om n g:=by
 unfold om;refine jJ λp hp=>?_;rw[h _ (by omega) (by have:=d8.mp hp;omega)]
theorem Ms {n:Nat} {f:Int->Option Int} {z:Int} (h0:0<=z) (h1:z<n):(om n f)[z.toNat]?=some (oW (f z)):=by
 unfold om;rw[aI,dy (by omega)];show some (oW (f ((z.toNat:Nat):Int)))=_;rw[m4 h0]
theorem Vl {n:Nat} {f:Int->Option Int} {z v:Int} (h0:0<=z) (h1:z<n):(om n f).set z.toNat (.int v)=om n λx=>if x=z then some v else f x:=by
 apply c6;intro p
 by_cases hp:p<n
 ·by_cases e:p=z.toNat
  ·subst e;rw[cS (by rw[nI];exact hp),Ms h0 h1,if_pos rfl];rfl
  ·rw[dg (dG e)];have kU:¬ ((p:Nat):Int)=z:=by (clear h0 h1 hp;omega)
   unfold om;rw[aI,aI,dy hp];simp[kU]
 ·rw[bo (by rw[fN,nI];omega),bo (by rw[nI];omega)]
theorem Mu (n:Nat):(aD n [V.fj]).flatten=om n λ_=>none:=by
 unfold om
 induction n with
 | zero=>rfl
 | succ n ih=>rw[rY,fU,ih,iO,aN];rfl
end L2
namespace Law
open PySem L2
def DP (R:List (List Int)) (k:Nat):List Int:=(R[k]?).getD []
theorem L4 {R:List (List Int)} {k:Nat} {p:Int}:lv R k p↔p∈DP R k:=by
 unfold lv DP;cases e:R[k]? with
 | none=>simp
 | some L=>simp
def DY (G:List Row) (R:List (List Int)) (p:Int) (k:Nat):Option Int:=((wy G p).filter λw=>decide (w∈DP R k)).head?
def PR (G:List Row) (R:List (List Int)) (S:Nat->Int->Prop) (X:Int->Option Int):Prop:=∀ p:Int,0<=p->p<G.length->(∀ k,S k p->X p=DY G R p k)/\((∀ k,¬ S k p)->X p=none)
section
variable {G:List Row} {hand:Int} {ins want:Int->Bool} {R:List (List Int)}
theorem PR.congr {S S':Nat->Int->Prop} {X:Int->Option Int} (h:PR G R S X) (e:∀ k p,S k p↔S' k p):PR G R S' X:=λp p0 p1=>by
 obtain⟨a,b⟩:=h p p0 p1;exact⟨λk hk=>a k ((e k p).mpr hk),λhn=>b λk hk=>hn k ((e k p).mp hk)⟩
theorem PR.set {S S':Nat->Int->Prop} {X:Int->Option Int} {z v:Int} {i:Nat} (h:PR G R S X) (e:∀ k p,p≠z->(S' k p↔S k p)) (hz:∀ k,S' k z↔k=i) (hv:DY G R z i=some v):PR G R S' (λx=>if x=z then some v else X x):=λp p0 p1=>by
 by_cases c:p=z
 ·subst c;show (∀ k,S' k p->(if p=p then some v else X p)=_)/\((∀ k,¬ S' k p)->(if p=p then some v else X p)=none);rw[if_pos rfl];refine⟨λk hk=>?_,λhn=>(hn i ((hz i).mpr rfl)).elim⟩;rw[(hz k).mp hk,hv]
 ·show (∀ k,S' k p->(if p=z then some v else X p)=_)/\((∀ k,¬ S' k p)->(if p=z then some v else X p)=none);rw[if_neg c];obtain⟨a,b⟩:=h p p0 p1;exact⟨λk hk=>a k ((e k p c).mp hk),λhn=>b λk hk=>hn k ((e k p c).mpr hk)⟩
theorem PR.zero (S:Nat->Int->Prop) (h:∀ k p,¬ S k p):PR G R S (λ_=>none):=λp _ _=>⟨λk hk=>(h k p hk).elim,λ_=>rfl⟩
theorem Lay.Cq (hL:Lay G hand ins want R) {i:Nat} {w:Int} (h:lv R i w):ins w=true:=hL.li.Cq w (bY _ (tz.mpr ⟨i,h⟩))
theorem Lay.rg (hL:Lay G hand ins want R) {i:Nat} {w:Int} (h:lv R i w):0<=w/\w<G.length:=hL.li.rg w (bY _ (tz.mpr ⟨i,h⟩))
theorem Lay.Sg (hL:Lay G hand ins want R) {i:Nat} {p:Int} (h:lv R (i+1) p):want p=false:=by
 cases e:want p with
 | false=>rfl
 | true =>
  have h0:=(hL.zero (hL.rg h)).mpr ⟨hL.Cq h,e⟩;have:=nG hL.nd h0 h;omega
theorem Lay.pick (hL:Lay G hand ins want R) {i:Nat} {p:Int} (h:lv R (i+1) p) (ho:hd G p=hand):∃ v,DY G R p i=some v/\v∈wy G p/\lv R i v:=by
 obtain⟨j,e,⟨w,pb,mW⟩,_⟩:=(hL.own (hL.rg h) (hL.Cq h) (hL.Sg h) ho).1 _ h;have:i=j:=by (clear ho;omega)
 subst this;have hm:w∈(wy G p).filter λw=>decide (w∈DP R i):=bF.mpr ⟨pb,decide_eq_true (L4.mp mW)⟩;unfold DY;cases e:(wy G p).filter λw=>decide (w∈DP R i) with
 | nil=>rw[e] at hm;cases hm
 | cons v vs =>
  have hv:v∈(wy G p).filter λw=>decide (w∈DP R i):=by rw[e];exact aE ..
  obtain⟨a,b⟩:=bF.mp hv;exact⟨v,rfl,a,L4.mpr (of_decide_eq_true b)⟩
theorem Fn {l:List Int} (h:l.Pairwise (·<·)) {M v:Int} (hv:l.head?=some v) (hM:M∈l) (LB:∀ k∈l,M<=k):M=v:=by
 cases l with
 | nil=>cases hM
 | cons a l =>
  have:a=v:=by simpa using hv
  subst this;rcases aB.mp hM with e | e
  ·exact e
  ·have:=LB a (aE ..);have:=(ko.mp h).1 M e;omega
end
end Law
namespace L2
open PySem PySem.Spec PyProof.Rows
theorem O8 {α:Type} [DecidableEq α] (x y:α):(x == y)=decide (x=y):=by rw[eM];simp
structure EqD {α:Type} [DecidableEq α] (n:Nat) (R:Rel α):Prop where
 go:∀ (X:Cx) (pins:List (ak × dR)) (σ:St) (H:Hp) (s:ai) (A:bA) (x y:α) (v w:V) (u1 u2:ae),
  Inv X pins σ H s->A.units+n<iD->R H x v->R H y w->RelV v u1->RelV w u2->iH A s u1 u2 (decide (x=y))
 inj:∀ (H:Hp) (x y:α) (v:V),R H x v->R H y v->x=y
structure RcD {α:Type} [DecidableEq α] (n:Nat) (R:Rel α):Prop where
 go:∀ (X:Cx) (pins:List (ak × dR)) (σ:St) (H:Hp) (s:ai) (A:bA) (x y:α) (v w:V) (u1 u2:ae),
  Inv X pins σ H s->A.units+n<iD->R H x v->R H y w->RelV v u1->RelV w u2->KL A s u1 u2 (decide (x=y))/\EY A s u1 u2 (!decide (x=y))
 inj:∀ (H:Hp) (x y:α) (v:V),R H x v->R H y v->x=y
theorem K9:EqD 0 (MQ iA):=by
 refine⟨λX pins σ H s A x y v w u1 u2 I hu h1 h2 r1 r2=>?_,λH x y v h1 h2=>?_⟩
 ·cases x with
  | none =>
   have e1:v=.fj:=h1;subst e1;cases y with
   | none =>
    have e2:w=.fj:=h2;subst e2;have:=uF (A:=A) (s:=s) r1 r2 rfl rfl;simpa [Fi,O8] using this
   | some y =>
    have e2:w=.int y:=h2;subst e2;have:=uF (A:=A) (s:=s) r1 r2 rfl rfl;simpa [Fi,O8] using this
  | some x =>
   have e1:v=.int x:=h1;subst e1;cases y with
   | none =>
    have e2:w=.fj:=h2;subst e2;have:=uF (A:=A) (s:=s) r1 r2 rfl rfl;simpa [Fi,O8] using this
   | some y =>
    have e2:w=.int y:=h2;subst e2;have:=uF (A:=A) (s:=s) r1 r2 rfl rfl;simpa [Fi,O8] using this
 ·cases x with
  | none =>
   have e1:v=.fj:=h1;cases y with
   | none=>rfl
   | some y=>have e2:v=.int y:=h2;rw[e1] at e2;cases e2
  | some x =>
   have e1:v=.int x:=h1;cases y with
   | none=>have e2:v=.fj:=h2;rw[e1] at e2;cases e2
   | some y=>have e2:v=.int y:=h2;rw[e1] at e2;injection e2 with e;rw[e]
theorem xC {α:Type} {R:Rel α} {H:Hp} (hj:∀ (x y:α) (v:V),R H x v->R H y v->x=y):∀ {xs ys:List α} {vs:List V},dE (R H) xs vs->dE (R H) ys vs->xs=ys
 | _,_,_,.nil,.nil=>rfl
 | _,_,_,.cons r t,.cons r' t'=>by rw[hj _ _ _ r r',xC hj t t']
theorem JP {α:Type} {R:Rel α} {H:Hp} {xs ys:List α} {vs ws:List V} {Rh SC:List ae} (p1:dE (R H) xs vs) (p2:dE (R H) ys ws) (r1:Vals vs Rh) (r2:Vals ws SC) :
  Rh.length=xs.length/\SC.length=ys.length/\∀ (j:Nat) (a b:ae),Rh[j]?=some a->SC[j]?=some b->∃ x y v w,xs[j]?=some x/\ys[j]?=some y/\R H x v/\R H y w/\RelV v a/\RelV w b:=by
 have l1:=p1.length;have l2:=p2.length;have l3:=r1.length;have l4:=r2.length;refine⟨by omega,by (clear l1 l3;omega),λj a b ha hb=>?_⟩;have hja:=(af.mp ha).1;have hjb:=(af.mp hb).1;have e1:xs[j]?=some (xs[j]'(by (clear l2 l4 hjb;omega))):=by simp
 have e2:ys[j]?=some (ys[j]'(by omega)):=by simp
 obtain⟨v,hv,rv⟩:=Paired.at p1 e1;obtain⟨w,hw,JE⟩:=Paired.at p2 e2;obtain⟨a',Lk,ra⟩:=r1.get hv;obtain⟨b',IR,rb⟩:=r2.get hw;rw[ha] at Lk;cases Lk;rw[hb] at IR;cases IR;exact⟨_,_,v,w,e1,e2,rv,JE,ra,rb⟩
theorem Tx {α:Type} [DecidableEq α]:∀ (xs ys:List α),xs.length=ys.length->((br xs.length).all λj=>decide (xs[j]?=ys[j]?))=decide (xs=ys):=λxs ys hl=>by
 rw[eM,f9,decide_eq_true_eq];constructor
 ·intro h;apply c6;intro j
  by_cases c:j<xs.length
  ·exact of_decide_eq_true (h j (d8.mpr c))
  ·rw[bo (by (clear hl h;omega)),bo (by omega)]
 ·rintro rfl j _;simp
theorem QJ {α:Type} [DecidableEq α] {n:Nat} {R:Rel α} (h:EqD n R):RcD (n+1) (hU R):=by
 refine⟨λX pins σ H s A xs ys v w u1 u2 I hu h1 h2 r1 r2=>?_,λH xs ys v h1 h2=>?_⟩
 ·obtain⟨a,vs,e1,ha,p1⟩:=h1;obtain⟨b,ws,e2,hb,p2⟩:=h2;subst e1;subst e2;cases r1;cases r2;obtain⟨cw,n1,QR,o1,z1⟩:=I.lst ha;obtain⟨lH,n2,BN,o2,z2⟩:=I.lst hb;obtain⟨el1,el2,f⟩:=JP p1 p2 QR BN;have qX:s.heap.IsList a cw.toArray:=⟨_,o1,rfl,n1,rfl⟩
  have o6:s.heap.IsList b lH.toArray:=⟨_,o2,rfl,n2,rfl⟩
  by_cases hl:xs.length=ys.length
  ·have he:∀ j (h1:j<cw.toArray.size) (h2:j<lH.toArray.size),iH A.in1 s cw.toArray[j] lH.toArray[j] ((λj=>decide (xs[j]?=ys[j]?)) j):=λj h1 h2=>by
    obtain⟨x,y,v,w,e1,e2,q1,q2,q3,q4⟩:=f j (cw.toArray[j]) (lH.toArray[j]) (by simp) (by simp);have:=h.go X pins σ H s A.in1 x y v w _ _ I (by show A.units+1+n<iD;omega) q1 q2 q3 q4;show iH A.in1 s _ _ (decide (xs[j]?=ys[j]?));rw[e1,e2];have e9:decide (some x=some y)=decide (x=y):=by simp
    rw[e9];exact this
   have A1:=Gv qX o6 (by simp;(clear hu z1 z2 f he;omega)) (by omega) he;have A2:=Cj qX o6 (by simp;(clear hu z1 z2 f he;omega)) (by omega) he;have es:cw.toArray.size=xs.length:=by simp;omega
   rw[es,Tx xs ys hl] at A1 A2;exact⟨A1,A2⟩
  ·have kU:(cw.toArray.size != lH.toArray.size)=true:=by
    simp only [aV,bne_iff_ne];(clear hu z1 z2 f;omega)
   have e9:decide (xs=ys)=false:=decide_eq_false λz=>hl (by rw[z]);rw[e9];exact⟨SeqAt.RcAt.lists_lengths qX o6 kU (by omega),SeqAt.RcNeAt.lists_lengths qX o6 kU (by omega)⟩
 ·obtain⟨a,vs,e1,ha,p1⟩:=h1;obtain⟨b,ws,e2,hb,p2⟩:=h2;rw[e1] at e2;cases e2;rw[ha] at hb;cases hb;exact xC (h.inj H) p1 p2
section
variable {X:Cx}
theorem Vn {α:Type} [DecidableEq α] {n:Nat} {R:Rel α} (ok:RcD n R) (hu:X.A.units+n<iD):ux X (dF .NotEq) (λv w H Q=>∃ x y,R H x v/\R H y w/\Q (.bl (!decide (x=y))) H):=by
 intro pins s σ H v w u1 u2 Q I r1 r2 h;obtain⟨x,y,h1,h2,q⟩:=h;exact (ok.go X pins σ H s _ x y v w u1 u2 I hu h1 h2 r1 r2).2 _ _ _ _ ⟨.bl (!decide (x=y)),H,I,rfl,q⟩
end
end L2
namespace Law
open PySem L2
def NE (G:List Row):Prop:=∀ row∈G,row.2.2≠[]
def WZ (G:List Row):Prop:=∀ row∈G,row.1=0\/row.1=1
theorem aar {G:List Row} (h:NE G) {p:Int} (hp:0<=p/\p<G.length):∃ w,w∈wy G p:=by
 obtain⟨row,jC⟩:∃ row,G[p.toNat]?=some row:=⟨G[p.toNat]'(by omega),by simp⟩
 rw[xW jC];have:=h row (aq jC);cases e:row.2.2 with
 | nil=>exact absurd e this
 | cons a l=>exact⟨a,aE ..⟩
theorem vG {G:List Row} (h:WZ G) {p:Int} (hp:0<=p/\p<G.length):hd G p=0\/hd G p=1:=by
 obtain⟨row,jC⟩:∃ row,G[p.toNat]?=some row:=⟨G[p.toNat]'(by omega),by simp⟩
 rw[vg jC];exact h row (aq jC)
section
variable {G:List Row} {hand:Int} {want:Int->Bool} {R:List (List Int)}
end
def zP (G:List Row) (hand:Int) (S:List Int) (p:Int):Option Int:=if decide (p∈S) && decide (hd G p=hand) then ((wy G p).filter λw=>decide (w∈S)).head? else none
theorem GX {G:List Row} {hand:Int} {S:List Int} {p:Int} (h1:p∈S) (h2:hd G p=hand) (h3:∃ w∈wy G p,w∈S):∃ v,((wy G p).filter λw=>decide (w∈S)).head?=some v/\zP G hand S p=some v/\v∈wy G p/\v∈S:=by
 obtain⟨w,pb,mW⟩:=h3;have hm:w∈(wy G p).filter λw=>decide (w∈S):=bF.mpr ⟨pb,decide_eq_true mW⟩;unfold zP;rw[decide_eq_true h1,decide_eq_true h2];cases e:(wy G p).filter λw=>decide (w∈S) with
 | nil=>rw[e] at hm;cases hm
 | cons v vs =>
  have hv:v∈(wy G p).filter λw=>decide (w∈S):=by rw[e];exact aE ..
  obtain⟨a,b⟩:=bF.mp hv;exact⟨v,rfl,rfl,a,of_decide_eq_true b⟩
theorem a0v {G:List Row} {hand:Int} {S:List Int} {p:Int} (h:¬ (p∈S/\hd G p=hand)):zP G hand S p=none:=by
 unfold zP;rw[if_neg];rw[bR,decide_eq_true_eq,decide_eq_true_eq];exact h
end Law
namespace L2
open PySem PySem.Spec PyProof.Rows
structure ClsAt (K:aj) (mg:bc->Option ae) (x:bc) (C:ak) (fs:List bc):Prop where
 cl:Kw K C
 mgC:mg x=some (.ref C)
 na:∀ f∈fs,rA K C f
structure oA (K:aj) (C:ak) (m qual:bc) (st:cK) (ps:List bc):Prop where
 ex:∃ f fd,Gk K m qual st f fd/\Meth K C m f/\Binds K fd ps []
structure Iq (K:aj) (C:ak) (qual:bc) (st:cK) (ps:List bc):Prop where
 ex:∃ f fd,Gk K "__init__" qual st f fd/\Mk K C f/\Binds K fd ps []
structure Cd (P:aS) (w:bN) (K:aj) (mg:bc->Option ae) (base:cj) (C:ak) (m:bc) (n:Nat) (ps:List bc) (sp:Sp):Prop where
 ex:∃ f fd,px P w K mg base yq n f fd ps sp/\Meth K C m f/\Binds K fd ps []
structure DnK (P:aS) (w:bN) (K:aj) (mg:bc->Option ae) (base:cj) (C:ak) (n:Nat) (ps:List bc) (sp:Sp):Prop where
 ex:∃ f fd,px P w K mg base yq n f fd ps sp/\Mk K C f/\Binds K fd ps []
section
variable {P:aS} {w:bN} {K:aj} {mg:bc->Option ae} {base:cj}
theorem oA.ok {C:ak} {m qual:bc} {st:cK} {N ps:List bc} {k:Nat} {sp:Sp} (F:oA K C m qual st ps) (S:bM N ps (aG st)) (len:∀ vs H Q E,sp vs H Q E->vs.length=ps.length)
  (mD:∀ (f:ak) (di:ae) (A:bA) (outer:List qk) (s:ai) (H:Hp) (vs:List V) (Q:VK) (E:XK),fG k (A.deeper (mV qual (aG st) s.heap.objs.size f di))->sp vs H Q E ->
   ∃ t,xZ (rG yq P w K mg base N qual (aG st) f di A outer s H E).Jp (fH st) t/\t { nx:=λ_ H'=>Q .fj H',rt:=Q } (start N vs) H):Cd P w K mg base C m (k+1) ps sp:=by
 obtain⟨f,fd,F,hm,hb⟩:=F.ex;exact⟨f,fd,F.ok S len λdi A outer s H vs Q E=>mD f di A outer s H vs Q E,hm,hb⟩
theorem Iq.ok {C:ak} {qual:bc} {st:cK} {N ps:List bc} {k:Nat} {sp:Sp} (F:Iq K C qual st ps) (S:bM N ps (aG st)) (len:∀ vs H Q E,sp vs H Q E->vs.length=ps.length)
  (mD:∀ (f:ak) (di:ae) (A:bA) (outer:List qk) (s:ai) (H:Hp) (vs:List V) (Q:VK) (E:XK),fG k (A.deeper (mV qual (aG st) s.heap.objs.size f di))->sp vs H Q E ->
   ∃ t,xZ (rG yq P w K mg base N qual (aG st) f di A outer s H E).Jp (fH st) t/\t { nx:=λ_ H'=>Q .fj H',rt:=Q } (start N vs) H):DnK P w K mg base C (k+1) ps sp:=by
 obtain⟨f,fd,F,hm,hb⟩:=F.ex;exact⟨f,fd,F.ok S len λdi A outer s H vs Q E=>mD f di A outer s H vs Q E,hm,hb⟩
end
section
variable {X:Cx}
theorem oK {C:ak} {m:bc} {n k:Nat} {ps:List bc} {sp:Sp} {o e:b6} {es:List b6} {ta:TE} {t:TA} {apos pos:hW} {pl:Tr Bool} (cl:Kw X.K C) (D:Cd X.prog X.w X.K X.mg X.base C m n ps sp) (hr:fG k X.A) (he:PE X o ta) (ha:PA X (e::es) t) (hk:n<=k:=by decide)
  (Bt:bD (e::es) X.env=(false,eO e X.env)::bD es X.env:=by rfl) (vJ:(gx pos (bD es X.env)).any (·.1)=false:=by rfl)
  (ht:eO (.Call (.Attribute o m apos) (e::es) [] pos) X.env=(do
   let ov ← eO o X.env
   HN apos.atName
   let (f,first) ← j5 [ov] (On ov m pl)
   callWith pos f first (gx pos (bD (e::es) X.env)) (lY pos (ie [] X.env))):=by rfl) :
  PE X (.Call (.Attribute o m apos) (e::es) [] pos) (Sy C m sp [] E0 ta t):=by
 obtain⟨f,fd,F,hm,hb⟩:=D.ex;exact Qx he cl hm F (hr.mono hk) hb .nil MB ha Bt vJ ht
theorem Vr {C:ak} {x:bc} {fs:List bc} {n k:Nat} {ps:List bc} {sp:Sp} {e:b6} {es:List b6} {t:TA} {p pos:hW} (CL:ClsAt X.K X.mg x C fs) (D:DnK X.prog X.w X.K X.mg X.base C n ps sp) (hr:fG k X.A) (ha:PA X (e::es) t) (hk:n+1<=k:=by decide) (hg:Gl X x:=by rfl)
  (Fm:(x == ("__debug__" : bc))=false:=by decide) (he:bD (e::es) X.env=(false,eO e X.env)::bD es X.env:=by rfl) (vJ:(gx pos (bD es X.env)).any (·.1)=false:=by rfl) :
  PE X (.Call (.Name x p) (e::es) [] pos) (Sx C sp [] E0 t):=by
 obtain⟨f,fd,F,hm,hb⟩:=D.ex;exact Qv hm F (hr.mono hk) hg CL.mgC hb .nil MB ha Fm he vJ
theorem gS {K:aj} {e:b6} {f:bc} {pos:hW} {ta:TE} (hK:X.K=K) (he:PE X e ta) (hb:qJ e f X.env (eO e X.env)=eO e X.env):PE X (.Attribute e f pos) (Z6 K ta f):=by
 subst hK;exact Vs he hb
theorem wg {K:aj} {o value:b6} {f:bc} {pos pos':hW} {ta tv:TE} (hK:X.K=K) (ha:PE X o ta) (hv:PE X value tv) (hs:ww value (some (.Attribute o f pos')) pos.line X.env=pure false):PS X (.Assign [.Attribute o f pos'] value pos) (ZJ K ta tv f):=by
 subst hK;exact Vy ha hv hs
end
def mn (H:Hp) (a b:ak):Hp:=del (del H a) b
section
variable {H H':Hp} {a b c:ak}
theorem pT (h1:c≠a) (h2:c≠b):mn H a b c=H c:=by unfold mn;rw[gc h2,gc h1]
theorem Mb:mn H a b a=none:=by
 unfold mn del
 by_cases c:a=b
 ·rw[if_pos c]
 ·rw[if_neg c,if_pos rfl]
theorem Mc:mn H a b b=none:=by unfold mn del;rw[if_pos rfl]
theorem G1 {o:HO} (h:mn H a b c=some o):c≠a/\c≠b:=⟨λz=>(by rw[z,Mb] at h;cases h),λz=>(by rw[z,Mc] at h;cases h)⟩
theorem kX:bp (mn H a b) H:=λc o h=>by
 obtain⟨h1,h2⟩:=G1 h;rw[pT h1 h2] at h;exact h
theorem j6 (s:bp H H'):bp (mn H a b) (mn H' a b):=λc o h=>by
 obtain⟨h1,h2⟩:=G1 h;rw[pT h1 h2] at h ⊢;exact s _ _ h
theorem pU (s:bp (mn H a b) H'):bp (mn H a b) (mn H' a b):=λc o h=>by
 obtain⟨h1,h2⟩:=G1 h;rw[pT h1 h2];exact s _ _ h
theorem YZ (s:bp H H') (h1:H a=none) (h2:H b=none):bp H (mn H' a b):=λc o h=>by
 rw[pT (λz=>by rw[z,h1] at h;cases h) (λz=>by rw[z,h2] at h;cases h)];exact s _ _ h
theorem G3 {o1 o2:HO} (h1:H a=some o1) (h2:H b=some o2):bp (kO H H') (mn H' a b):=λc o h=>by
 have hc:H c=none:=by
  cases e:H c with
  | none=>rfl
  | some u=>rw[uP e] at h;cases h
 rw[i5 hc] at h;rw[pT (λz=>by rw[z,h1] at hc;cases hc) (λz=>by rw[z,h2] at hc;cases hc)];exact h
theorem mI {xs:List V} (h:H c=some (.lst xs)) (h1:c≠a) (h2:c≠b):mn H a b c=some (.lst xs):=by rw[pT h1 h2];exact h
theorem fh {o:HO} (h:H a=some o) (hn:H c=none):c≠a:=λz=>by rw[z,h] at hn;cases hn
end
theorem UV (n:Nat) (z:Int):(aD n [V.int z]).flatten=(im n λ_=>z).map V.int:=by
 unfold im
 induction n with
 | zero=>rfl
 | succ n ih=>rw[rY,fU,ih,iO,aN,aN];rfl
theorem Mt {n:Nat} {f:Int->Option Int} {z:Int} {o:Option Int} (h0:0<=z) (h1:z<n):(om n f).set z.toNat (oW o)=om n λx=>if x=z then o else f x:=by
 apply c6;intro p
 by_cases hp:p<n
 ·by_cases e:p=z.toNat
  ·subst e;rw[cS (by rw[nI];exact hp),Ms h0 h1,if_pos rfl]
  ·rw[dg (dG e)];have kU:¬ ((p:Nat):Int)=z:=by omega
   unfold om;rw[aI,aI,dy hp];simp[kU]
 ·rw[bo (by rw[fN,nI];omega),bo (by rw[nI];omega)]
section
variable {K:aj} {i j:Nat} {σ:St} {H:Hp} {Q:VK} {a b C dx:ak} {xs ys:List V} {z c:Int} {v u:V} {f:bc} {fs:List (bc × V)}
end
theorem fo {t u:TS} {D:Ends} {σ:St} {H:Hp} (h:∀ E:Ends,E={ D with nx:=u D }->t E σ H):aac t u D σ H:=h _ rfl
theorem fq {u:TS} {E D:Ends} {σ:St} {H:Hp} (e:E={ D with nx:=u D }) (h:u D σ H):E.nx σ H:=by subst e;exact h
end L2
namespace L2
inductive Rz {A0 A1:Type} (p:A0->A1->Prop):Prop
 | mk (a0:A0) (a1:A1) (h:p a0 a1):Rz p
inductive Ex3 {A0 A1 A2:Type} (p:A0->A1->A2->Prop):Prop
 | mk (a0:A0) (a1:A1) (a2:A2) (h:p a0 a1 a2):Ex3 p
inductive Ex4 {A0 A1 A2 A3:Type} (p:A0->A1->A2->A3->Prop):Prop
 | mk (a0:A0) (a1:A1) (a2:A2) (a3:A3) (h:p a0 a1 a2 a3):Ex4 p
inductive Ex5 {A0 A1 A2 A3 A4:Type} (p:A0->A1->A2->A3->A4->Prop):Prop
 | mk (a0:A0) (a1:A1) (a2:A2) (a3:A3) (a4:A4) (h:p a0 a1 a2 a3 a4):Ex5 p
inductive Ex6 {A0 A1 A2 A3 A4 A5:Type} (p:A0->A1->A2->A3->A4->A5->Prop):Prop
 | mk (a0:A0) (a1:A1) (a2:A2) (a3:A3) (a4:A4) (a5:A5) (h:p a0 a1 a2 a3 a4 a5):Ex6 p
inductive Ex7 {A0 A1 A2 A3 A4 A5 A6:Type} (p:A0->A1->A2->A3->A4->A5->A6->Prop):Prop
 | mk (a0:A0) (a1:A1) (a2:A2) (a3:A3) (a4:A4) (a5:A5) (a6:A6) (h:p a0 a1 a2 a3 a4 a5 a6):Ex7 p
inductive Ex9 {A0 A1 A2 A3 A4 A5 A6 A7 A8:Type} (p:A0->A1->A2->A3->A4->A5->A6->A7->A8->Prop):Prop
 | mk (a0:A0) (a1:A1) (a2:A2) (a3:A3) (a4:A4) (a5:A5) (a6:A6) (a7:A7) (a8:A8) (h:p a0 a1 a2 a3 a4 a5 a6 a7 a8):Ex9 p
inductive WV {A0 A1 A2 A3 A4 A5 A6 A7 A8 A9:Type} (p:A0->A1->A2->A3->A4->A5->A6->A7->A8->A9->Prop):Prop
 | mk (a0:A0) (a1:A1) (a2:A2) (a3:A3) (a4:A4) (a5:A5) (a6:A6) (a7:A7) (a8:A8) (a9:A9) (h:p a0 a1 a2 a3 a4 a5 a6 a7 a8 a9):WV p
inductive SW {A0 A1 A2 A3 A4 A5 A6 A7 A8 A9 N4:Type} (p:A0->A1->A2->A3->A4->A5->A6->A7->A8->A9->N4->Prop):Prop
 | mk (a0:A0) (a1:A1) (a2:A2) (a3:A3) (a4:A4) (a5:A5) (a6:A6) (a7:A7) (a8:A8) (a9:A9) (Xe:N4) (h:p a0 a1 a2 a3 a4 a5 a6 a7 a8 a9 Xe):SW p
inductive WW {A0 A1 A2 A3 A4 A5 A6 A7 A8 A9 N4 SN:Type} (p:A0->A1->A2->A3->A4->A5->A6->A7->A8->A9->N4->SN->Prop):Prop
 | mk (a0:A0) (a1:A1) (a2:A2) (a3:A3) (a4:A4) (a5:A5) (a6:A6) (a7:A7) (a8:A8) (a9:A9) (Xe:N4) (a11:SN) (h:p a0 a1 a2 a3 a4 a5 a6 a7 a8 a9 Xe a11):WW p
inductive SX {A0 A1 A2 A3 A4 A5 A6 A7 A8 A9 N4 SN A12 A13:Type} (p:A0->A1->A2->A3->A4->A5->A6->A7->A8->A9->N4->SN->A12->A13->Prop):Prop
 | mk (a0:A0) (a1:A1) (a2:A2) (a3:A3) (a4:A4) (a5:A5) (a6:A6) (a7:A7) (a8:A8) (a9:A9) (Xe:N4) (a11:SN) (a12:A12) (a13:A13) (h:p a0 a1 a2 a3 a4 a5 a6 a7 a8 a9 Xe a11 a12 a13):SX p
inductive Ig (p0 p1 p2 p3:Prop):Prop
 | mk (h0:p0) (h1:p1) (h2:p2) (h3:p3):Ig p0 p1 p2 p3
inductive Ih (p0 p1 p2 p3 p4:Prop):Prop
 | mk (h0:p0) (h1:p1) (h2:p2) (h3:p3) (h4:p4):Ih p0 p1 p2 p3 p4
inductive OJ (p0 p1 p2 p3 p4 p5:Prop):Prop
 | mk (h0:p0) (h1:p1) (h2:p2) (h3:p3) (h4:p4) (h5:p5):OJ p0 p1 p2 p3 p4 p5
inductive Kr (p0 p1 p2 p3 p4 p5 p6:Prop):Prop
 | mk (h0:p0) (h1:p1) (h2:p2) (h3:p3) (h4:p4) (h5:p5) (h6:p6):Kr p0 p1 p2 p3 p4 p5 p6
inductive SO (p0 p1 p2 p3 p4 p5 p6 p7:Prop):Prop
 | mk (h0:p0) (h1:p1) (h2:p2) (h3:p3) (h4:p4) (h5:p5) (h6:p6) (h7:p7):SO p0 p1 p2 p3 p4 p5 p6 p7
inductive WT (p0 p1 p2 p3 p4 p5 p6 p7 p8:Prop):Prop
 | mk (h0:p0) (h1:p1) (h2:p2) (h3:p3) (h4:p4) (h5:p5) (h6:p6) (h7:p7) (h8:p8):WT p0 p1 p2 p3 p4 p5 p6 p7 p8
inductive Kq (p0 p1 p2 p3 p4 p5 p6 p7 p8 p9:Prop):Prop
 | mk (h0:p0) (h1:p1) (h2:p2) (h3:p3) (h4:p4) (h5:p5) (h6:p6) (h7:p7) (h8:p8) (h9:p9):Kq p0 p1 p2 p3 p4 p5 p6 p7 p8 p9
inductive Rs (p0 p1 p2 p3 p4 p5 p6 p7 p8 p9 Sh:Prop):Prop
 | mk (h0:p0) (h1:p1) (h2:p2) (h3:p3) (h4:p4) (h5:p5) (h6:p6) (h7:p7) (h8:p8) (h9:p9) (Xw:Sh):Rs p0 p1 p2 p3 p4 p5 p6 p7 p8 p9 Sh
inductive Rt (p0 p1 p2 p3 p4 p5 p6 p7 p8 p9 Sh Zr Zs:Prop):Prop
 | mk (h0:p0) (h1:p1) (h2:p2) (h3:p3) (h4:p4) (h5:p5) (h6:p6) (h7:p7) (h8:p8) (h9:p9) (Xw:Sh) (h11:Zr) (TV:Zs):Rt p0 p1 p2 p3 p4 p5 p6 p7 p8 p9 Sh Zr Zs
inductive Ru (p0 p1 p2 p3 p4 p5 p6 p7 p8 p9 Sh Zr Zs p13 p14 p15:Prop):Prop
 | mk (h0:p0) (h1:p1) (h2:p2) (h3:p3) (h4:p4) (h5:p5) (h6:p6) (h7:p7) (h8:p8) (h9:p9) (Xw:Sh) (h11:Zr) (TV:Zs) (h13:p13) (h14:p14) (h15:p15):Ru p0 p1 p2 p3 p4 p5 p6 p7 p8 p9 Sh Zr Zs p13 p14 p15
end L2
namespace Law
open PySem L2
def rk (G:List Row) (p:Int):Int:=((G[p.toNat]?).getD (0,0,[])).2.1
theorem Sl {G:List Row} {p:Int} {r:Row} (h:G[p.toNat]?=some r):rk G p=r.2.1:=by unfold rk;rw[h];rfl
inductive TG (r:Int->Int->Prop):Int->Int->Prop
 | one {a b:Int}:r a b->TG r a b
 | cons {a b c:Int}:r a b->TG r b c->TG r a c
theorem TG.imp {r s:Int->Int->Prop} (h:∀ x y,r x y->s x y) {a b:Int} (t:TG r a b):TG s a b:=by
 induction t with
 | one e=>exact .one (h _ _ e)
 | cons e _ ih=>exact .cons (h _ _ e) ih
theorem TG.trans {r:Int->Int->Prop} {a b c:Int} (t:TG r a b) (u:TG r b c):TG r a c:=by
 induction t with
 | one e=>exact .cons e u
 | cons e _ ih=>exact .cons e (ih u)
theorem TG.fwd {r s:Int->Int->Prop} {Q:Int->Prop} (h:∀ x y,r x y->Q x->Q y/\s x y) {a b:Int} (t:TG r a b) (qa:Q a):Q b/\TG s a b:=by
 induction t with
 | one e=>exact⟨(h _ _ e qa).1,.one (h _ _ e qa).2⟩
 | cons e _ ih =>
  obtain⟨h1,h2⟩:=h _ _ e qa;obtain⟨h3,h4⟩:=ih h1;exact⟨h3,.cons h2 h4⟩
theorem TG.bwd {r s:Int->Int->Prop} {Q:Int->Prop} (h:∀ x y,r x y->Q y->Q x/\s x y) {a b:Int} (t:TG r a b) (qb:Q b):Q a/\TG s a b:=by
 induction t with
 | one e=>exact⟨(h _ _ e qb).1,.one (h _ _ e qb).2⟩
 | cons e _ ih =>
  obtain⟨h3,h4⟩:=ih qb;obtain⟨h1,h2⟩:=h _ _ e h3;exact⟨h1,.cons h2 h4⟩
def ed (G:List Row) (wf:Int->Option Int) (h:Int) (x y:Int):Prop:=if hd G x=h then wf x=some y else y∈wy G x
theorem uE {G:List Row} {wf:Int->Option Int} {h x y:Int} (e:hd G x=h):ed G wf h x y↔wf x=some y:=by unfold ed;rw[if_pos e]
theorem rH {G:List Row} {wf:Int->Option Int} {h x y:Int} (e:¬ hd G x=h):ed G wf h x y↔y∈wy G x:=by unfold ed;rw[if_neg e]
theorem sR {G:List Row} {wf wf':Int->Option Int} {h x y:Int} (e:wf x=wf' x):ed G wf h x y↔ed G wf' h x y:=by unfold ed;rw[e]
def acl (G:List Row) (wf:Int->Option Int) (h:Int) (D:Int->Prop):Prop:=∀ p,D p->rk G p % 2≠h->¬ TG (λx y=>(D x/\D y/\ed G wf h x y)/\rk G x<=rk G p/\rk G y<=rk G p) p p
structure x9 (G:List Row) (P:Int->Prop) (wf:Int->Option Int) (h:Int) (D:Int->Prop):Prop where
 sub:∀ p,D p->P p
 own:∀ p,D p->hd G p=h->∃ q,wf p=some q/\q∈wy G p/\D q
 oth:∀ p,D p->¬ hd G p=h->wf p=none/\∀ q∈wy G p,P q->D q
 nb:acl G wf h D
theorem x9.congr {G:List Row} {P:Int->Prop} {wf wf':Int->Option Int} {h:Int} {D D':Int->Prop} (w:x9 G P wf h D) (e:∀ p,D p->wf p=wf' p) (Ol:∀ p,D p↔D' p):x9 G P wf' h D':=by
 refine⟨λp hp=>w.sub p ((Ol p).mpr hp),λp hp ho=>?_,λp hp ho=>?_,λp hp hr t=>?_⟩
 ·obtain⟨q,a,b,c⟩:=w.own p ((Ol p).mpr hp) ho;exact⟨q,by rw[← e p ((Ol p).mpr hp)];exact a,b,(Ol q).mp c⟩
 ·obtain⟨a,b⟩:=w.oth p ((Ol p).mpr hp) ho;exact⟨by rw[← e p ((Ol p).mpr hp)];exact a,λq hq hP=>(Ol q).mp (b q hq hP)⟩
 ·refine w.nb p ((Ol p).mpr hp) hr (t.imp λx y z=>?_);obtain⟨⟨a,b,c⟩,d⟩:=z;have ax:=(Ol x).mpr a;exact⟨⟨ax,(Ol y).mpr b,(sR (e x ax)).mpr c⟩,d⟩
structure RK (G:List Row) (P:Int->Prop) (hf:Int->Int) (wf:Int->Option Int):Prop where
 Bo:∀ p,P p->hf p=0\/hf p=1
 SK:∀ h,h=0\/h=1->x9 G P wf h (λp=>P p/\hf p=h)
theorem x9.empty {G:List Row} {P:Int->Prop} {wf:Int->Option Int} {h:Int} {D:Int->Prop} (e:∀ p,¬ D p):x9 G P wf h D :=
 ⟨λp hp=>(e p hp).elim,λp hp=>(e p hp).elim,λp hp=>(e p hp).elim,λp hp=>(e p hp).elim⟩
def Tot (G:List Row) (P:Int->Prop):Prop:=∀ p,P p->∃ w∈wy G p,P w
section
variable {G:List Row} {hand:Int} {left:List Int} {want:Int->Bool} {R:List (List Int)}
theorem G9 (hL:Lay G hand (λx=>decide (x∈left)) want R) (hr:∀ x∈left,0<=x/\x<G.length) (ht:Tot G (·∈left)) {rest:List Int} (sZ:∀ p,p∈rest↔p∈left/\∀ k,¬ lv R k p) :
  Tot G (·∈rest)/\∀ p∈rest,hd G p=hand->∀ w∈wy G p,w∈left->w∈rest:=by
 have hnw:∀ p∈rest,want p=false:=λp hp=>by
  obtain⟨a,b⟩:=(sZ p).mp hp;cases e:want p with
  | false=>rfl
  | true=>exact (b 0 ((hL.zero (hr p a)).mpr ⟨decide_eq_true a,e⟩)).elim
 have own:∀ p∈rest,hd G p=hand->∀ w∈wy G p,w∈left->w∈rest:=λp hp ho w hw hl=>by
  obtain⟨a,b⟩:=(sZ p).mp hp;exact (sZ w).mpr ⟨hl,λi=>(hL.own (hr p a) (decide_eq_true a) (hnw p hp) ho).2 b w hw i⟩
 refine⟨λp hp=>?_,own⟩;obtain⟨a,b⟩:=(sZ p).mp hp;obtain⟨w,hw,uj⟩:=ht p a
 by_cases ho:hd G p=hand
 ·exact⟨w,hw,own p hp ho w hw uj⟩
 ·rcases (hL.oth (hr p a) (decide_eq_true a) (hnw p hp) ho).2 b with h1 | ⟨u,h1,h2,h3⟩
  ·exact absurd (h1 w hw) (by simp[uj])
  ·exact⟨u,h1,(sZ u).mpr ⟨of_decide_eq_true h2,h3⟩⟩
theorem Dx (hL:Lay G hand (λx=>decide (x∈left)) want R) {wf:Int->Option Int} (hw:∀ p k,lv R (k+1) p->hd G p=hand->∃ v,wf p=some v/\lv R k v) {x y:Int} {k:Nat} (hx:lv R (k+1) x) (hy:y∈left) (e:ed G wf hand x y):∃ i,i<=k/\lv R i y:=by
 by_cases ho:hd G x=hand
 ·obtain⟨v,h1,h2⟩:=hw x k hx ho;rw[uE ho,h1] at e;cases e;exact⟨k,az _,h2⟩
 ·rw[rH ho] at e;obtain⟨j,ej,_,all⟩:=(hL.oth (hL.rg hx) (hL.Cq hx) (hL.Sg hx) ho).1 _ hx;obtain⟨i,h1,h2⟩:=all y e (decide_eq_true hy);exact⟨i,by omega,h2⟩
theorem x9.Zv {P Done lost:Int->Prop} {oth:List Int} {wf wf0 wf':Int->Option Int} (hL:Lay G hand (λx=>decide (x∈left)) want R)
  (hP:∀ p,P p↔Done p\/p∈left) (XM:∀ p,Done p->p ∉ left) (wD:x9 G P wf hand Done) (wl:x9 G (·∈oth) wf0 hand lost) (hol:∀ p∈oth,p∈left)
  (R8:∀ p∈oth,¬ hd G p=hand->∀ w∈wy G p,w∈left->w∈oth)
  (o0:∀ p,lost p↔lv R 0 p) (e1:∀ p,Done p->wf' p=wf p) (e2:∀ p,lv R 0 p->wf' p=wf0 p)
  (e3:∀ p k,lv R (k+1) p->hd G p=hand->∃ v,wf' p=some v/\v∈wy G p/\lv R k v) (e4:∀ p k,lv R (k+1) p->¬ hd G p=hand->wf' p=none) :
  x9 G P wf' hand (λp=>Done p\/∃ k,lv R k p):=by
 have inl:∀ {k p},lv R k p->p∈left:=λh=>of_decide_eq_true (hL.Cq h);have GZ:∀ {p},lv R 0 p->p∈oth:=λh=>wl.sub _ ((o0 _).mpr h);have M6:∀ p,lv R 0 p->¬ hd G p=hand->∀ q∈wy G p,q∈left->lv R 0 q:=λp hp ho q hq hql =>
  (o0 q).mp ((wl.oth p ((o0 p).mpr hp) ho).2 q hq (R8 p (GZ hp) ho q hq hql))
 have Nr:∀ x y,lv R 0 x->y∈left->ed G wf' hand x y->lv R 0 y:=λx y hx hy e=>by
  by_cases ho:hd G x=hand
  ·obtain⟨q,a,_,c⟩:=wl.own x ((o0 x).mpr hx) ho;rw[uE ho,e2 x hx,a] at e;cases e;exact (o0 _).mp c
  ·rw[rH ho] at e;exact M6 x hx ho y e hy
 have tS:∀ x y k,lv R (k+1) x->y∈left->ed G wf' hand x y->∃ i,i<=k/\lv R i y:=λx y k hx hy e =>
  Dx hL (λp k h1 h2=>by obtain⟨v,a,_,c⟩:=e3 p k h1 h2;exact⟨v,a,c⟩) hx hy e
 refine⟨λp hp=>?_,λp hp ho=>?_,λp hp ho=>?_,λp hp hr t=>?_⟩
 ·rcases hp with h | ⟨k,h⟩
  ·exact (hP p).mpr (.inl h)
  ·exact (hP p).mpr (.inr (inl h))
 ·rcases hp with h | ⟨k,h⟩
  ·obtain⟨q,a,b,c⟩:=wD.own p h ho;exact⟨q,by rw[e1 p h];exact a,b,.inl c⟩
  ·cases k with
   | zero =>
    obtain⟨q,a,b,c⟩:=wl.own p ((o0 p).mpr h) ho;exact⟨q,by rw[e2 p h];exact a,b,.inr ⟨0,(o0 q).mp c⟩⟩
   | succ k =>
    obtain⟨v,a,b,c⟩:=e3 p k h ho;exact⟨v,a,b,.inr ⟨k,c⟩⟩
 ·rcases hp with h | ⟨k,h⟩
  ·obtain⟨a,b⟩:=wD.oth p h ho;exact⟨by rw[e1 p h];exact a,λq hq TY=>.inl (b q hq TY)⟩
  ·cases k with
   | zero =>
    refine⟨by rw[e2 p h];exact (wl.oth p ((o0 p).mpr h) ho).1,λq hq TY=>?_⟩;rcases (hP q).mp TY with z | z
    ·exact .inl z
    ·exact .inr ⟨0,M6 p h ho q hq z⟩
   | succ k =>
    refine⟨e4 p k h ho,λq hq TY=>?_⟩;rcases (hP q).mp TY with z | z
    ·exact .inl z
    ·obtain⟨i,_,hi⟩:=tS p q k h z ((rH ho).mpr hq);exact .inr ⟨i,hi⟩
 ·-- a ring
  have M7:∀ x y,Done x->P y->ed G wf' hand x y->Done y:=λx y hx hy e=>by
   by_cases ho:hd G x=hand
   ·obtain⟨q,a,_,c⟩:=wD.own x hx ho;rw[uE ho,e1 x hx,a] at e;cases e;exact c
   ·rw[rH ho] at e;exact (wD.oth x hx ho).2 y e hy
  have Va:∀ y,(Done y\/∃ k,lv R k y)->P y:=λy hy=>by
   rcases hy with h | ⟨k,h⟩
   ·exact (hP y).mpr (.inl h)
   ·exact (hP y).mpr (.inr (inl h))
  rcases hp with h | ⟨k,h⟩
  ·obtain⟨_,t2⟩:=t.fwd (Q:=Done) (s:=λx y=>(Done x/\Done y/\ed G wf hand x y)/\rk G x<=rk G p/\rk G y<=rk G p) (λx y z hx=>by
    obtain⟨⟨_,b,c⟩,d⟩:=z;have hy:=M7 x y hx (Va y b) c;exact⟨hy,⟨hx,hy,(sR (e1 x hx)).mp c⟩,d⟩) h
   exact wD.nb p h hr t2
  ·have hnD:¬ Done p:=λz=>XM p z (inl h);obtain⟨_,t2⟩:=t.bwd (Q:=λx=>¬ Done x) (s:=λx y=>((∃ k,lv R k x)/\(∃ k,lv R k y)/\ed G wf' hand x y)/\rk G x<=rk G p/\rk G y<=rk G p) (λx y z hy=>by
    obtain⟨⟨a,b,c⟩,d⟩:=z;have hx:¬ Done x:=λz=>hy (M7 x y z (Va y b) c);exact⟨hx,⟨a.resolve_left hx,b.resolve_left hy,c⟩,d⟩) hnD
   cases k with
   | zero =>
    obtain⟨_,t3⟩:=t2.fwd (Q:=λx=>lv R 0 x) (s:=λx y=>(lost x/\lost y/\ed G wf0 hand x y)/\rk G x<=rk G p/\rk G y<=rk G p) (λx y z hx=>by
     obtain⟨⟨_,⟨j,b⟩,c⟩,d⟩:=z;have hy:=Nr x y hx (inl b) c;exact⟨hy,⟨(o0 x).mpr hx,(o0 y).mpr hy,(sR (e2 x hx)).mp c⟩,d⟩) h
    exact wl.nb p ((o0 p).mpr h) hr t3
   | succ k =>
    have near:∀ x y,((∃ k,lv R k x)/\(∃ k,lv R k y)/\ed G wf' hand x y)->(∃ i,i<=k+1/\lv R i x)->∃ i,i<=k/\lv R i y:=λx y z hx=>by
     obtain⟨_,⟨j,b⟩,c⟩:=z;obtain⟨i,hi,hx⟩:=hx;cases i with
     | zero=>exact⟨0,bv _,Nr x y hx (inl b) c⟩
     | succ i =>
      obtain⟨i',h1,h2⟩:=tS x y i hx (inl b) c;exact⟨i',by omega,h2⟩
    have far:∃ i,i<=k/\lv R i p:=by
     cases t2 with
     | one z=>exact near p p z.1 ⟨k+1,az _,h⟩
     | cons z t =>
      have h1:=near _ _ z.1 ⟨k+1,az _,h⟩;exact (t.fwd (Q:=λx=>∃ i,i<=k/\lv R i x) (s:=λ_ _=>True) (λx y z hx=>by
       obtain⟨i,hi,hx⟩:=hx;exact⟨near x y z.1 ⟨i,by (clear hP XM hol R8 o0 e1 e2 e3 e4 inl GZ M6 Nr tS hr M7 Va hnD near z;omega),hx⟩,trivial⟩) h1).1
    obtain⟨i,hi,hx⟩:=far;have:=nG hL.nd hx h;omega
theorem x9.final {P:Int->Prop} {oth:List Int} {wf0 wf':Int->Option Int} {top:Int} (hL:Lay G hand (λx=>decide (x∈left)) want R)
  (X5:∀ p∈left,P p) (vi:∀ p∈left,¬ hd G p=hand->∀ w∈wy G p,P w->w∈left)
  (LN:∀ p∈left,rk G p<=top) (LL:top % 2=hand) (Jc:∀ p,lv R 0 p↔p∈left/\rk G p=top)
  (Fs:∀ p,p∈oth↔p∈left/\∀ k,¬ lv R k p) (wo:x9 G (·∈oth) wf0 hand (·∈oth))
  (e0:∀ p,lv R 0 p->hd G p=hand->∃ v,wf' p=some v/\v∈wy G p/\v∈left) (Xm:∀ p,lv R 0 p->¬ hd G p=hand->wf' p=none)
  (e2:∀ p∈oth,wf' p=wf0 p)
  (e3:∀ p k,lv R (k+1) p->hd G p=hand->∃ v,wf' p=some v/\v∈wy G p/\lv R k v) (e4:∀ p k,lv R (k+1) p->¬ hd G p=hand->wf' p=none) :
  x9 G P wf' hand (·∈left):=by
 have inl:∀ {k p},lv R k p->p∈left:=λh=>of_decide_eq_true (hL.Cq h);have split:∀ p∈left,p∈oth\/∃ k,lv R k p:=λp hp=>by
  by_cases c:∃ k,lv R k p
  ·exact .inr c
  ·exact .inl ((Fs p).mpr ⟨hp,λk hk=>c ⟨k,hk⟩⟩)
 refine⟨X5,λp hp ho=>?_,λp hp ho=>?_,λp hp hr t=>?_⟩
 ·rcases split p hp with h | ⟨k,h⟩
  ·obtain⟨q,a,b,c⟩:=wo.own p h ho;exact⟨q,by rw[e2 p h];exact a,b,((Fs q).mp c).1⟩
  ·cases k with
   | zero=>exact e0 p h ho
   | succ k =>
    obtain⟨v,a,b,c⟩:=e3 p k h ho;exact⟨v,a,b,inl c⟩
 ·refine⟨?_,λq hq TY=>vi p hp ho q hq TY⟩;rcases split p hp with h | ⟨k,h⟩
  ·rw[e2 p h];exact (wo.oth p h ho).1
  ·cases k with
   | zero=>exact Xm p h ho
   | succ k=>exact e4 p k h ho
 ·-- no place of V1 ring has V1 Xs rank
  have iz:rk G p<top:=by
   have:=LN p hp;rcases OO this with h | h
   ·exact h
   ·rw[h] at hr;exact absurd LL hr
  have WN:∀ x,rk G x<=rk G p->¬ lv R 0 x:=λx hx z=>by
   have:=((Jc x).mp z).2
   (clear X5 vi LN LL Jc Fs e0 Xm e2 e3 e4 inl split hr;omega)
  have tS:∀ x y k,lv R (k+1) x->y∈left->ed G wf' hand x y->∃ i,i<=k/\lv R i y:=λx y k hx hy e =>
   Dx hL (λp k h1 h2=>by obtain⟨v,a,_,c⟩:=e3 p k h1 h2;exact⟨v,a,c⟩) hx hy e
  rcases split p hp with h | ⟨k,h⟩
  ·obtain⟨_,t2⟩:=t.bwd (Q:=λx=>x∈oth) (s:=λx y=>(x∈oth/\y∈oth/\ed G wf0 hand x y)/\rk G x<=rk G p/\rk G y<=rk G p) (λx y z hy=>by
    obtain⟨⟨a,b,c⟩,d1,d2⟩:=z;rcases split x a with hx | ⟨k,hx⟩
    ·exact⟨hx,⟨hx,hy,(sR (e2 x hx)).mp c⟩,d1,d2⟩
    ·cases k with
     | zero=>exact (WN x d1 hx).elim
     | succ k =>
      obtain⟨i,_,h2⟩:=tS x y k hx b c;exact (((Fs y).mp hy).2 i h2).elim) h
   exact wo.nb p h hr t2
  ·cases k with
   | zero=>exact WN p (dz _) h
   | succ k =>
    have near:∀ x y,((x∈left/\y∈left/\ed G wf' hand x y)/\rk G x<=rk G p/\rk G y<=rk G p)->(∃ i,i<=k+1/\lv R i x)->∃ i,i<=k/\lv R i y:=λx y z hx=>by
     obtain⟨⟨a,b,c⟩,d1,d2⟩:=z;obtain⟨i,hi,hx⟩:=hx;cases i with
     | zero=>exact (WN x d1 hx).elim
     | succ i =>
      obtain⟨i',h1,h2⟩:=tS x y i hx b c;exact⟨i',by (clear X5 vi LN LL Jc Fs e0 Xm e2 e3 e4 inl split hr iz WN tS d1 d2;omega),h2⟩
    have far:∃ i,i<=k/\lv R i p:=by
     cases t with
     | one z=>exact near p p z ⟨k+1,az _,h⟩
     | cons z t =>
      have h1:=near _ _ z ⟨k+1,az _,h⟩;exact (t.fwd (Q:=λx=>∃ i,i<=k/\lv R i x) (s:=λ_ _=>True) (λx y z hx=>by
       obtain⟨i,hi,hx⟩:=hx;exact⟨near x y z ⟨i,by (clear X5 vi LN LL Jc Fs e0 Xm e2 e3 e4 inl split hr iz WN tS near z;omega),hx⟩,trivial⟩) h1).1
    obtain⟨i,hi,hx⟩:=far;have:=nG hL.nd hx h
    (clear X5 vi LN LL Jc Fs e0 Xm e2 e3 e4 inl split hr iz WN tS near;omega)
end
theorem M3 {n:Nat} {f:Nat->Int} (h:∀ k,0<=f k/\f k<n):∃ i j,i<j/\f i=f j:=by
 refine bB λhn=>?_;have kU:∀ i j,i<j->f i≠f j:=λi j oZ e=>hn ⟨i,j,oZ,e⟩;have nd:((br (n+1)).map f).Nodup:=by
  rw[cO,cT];exact iK.imp λh=>kU _ _ h
 have:=gX _ (ow n) nd λx hx=>by
  obtain⟨k,_,rfl⟩:=aM.mp hx;exact gQ.mpr (h k)
 unfold ow at this;simp at this;omega
theorem Hu (g:Nat->Int) (i:Nat):∀ d,∃ k,i<=k/\k<=i+d/\∀ c,i<=c->c<=i+d->g c<=g k
 | 0=>⟨i,az _,az _,λc h1 h2=>by have:c=i:=(by omega);subst this;exact dz _⟩
 | d + 1=>by
  obtain⟨k,h1,h2,h3⟩:=Hu g i d
  by_cases c:g k<=g (i+(d+1))
  ·refine⟨i+(d+1),by (clear h1 h2 h3 c;omega),az _,λe h4 h5=>?_⟩
   by_cases c2:e=i+(d+1)
   ·rw[c2];exact dz _
   ·exact qD (h3 e h4 (by (clear h1 h2 h3 c h4;omega))) c
  ·refine⟨k,h1,by omega,λe h4 h5=>?_⟩
   by_cases c2:e=i+(d+1)
   ·rw[c2];(clear h4 h5 c2 h1 h2 h3;omega)
   ·exact h3 e h4 (by (clear h1 h2 h3 c h4;omega))
theorem F1 {r:Int->Int->Prop} {f:Nat->Int} (a:Nat):∀ d,(∀ c,a<=c->c<=a+d->r (f c) (f (c+1)))->TG r (f a) (f (a+d+1))
 | 0,h=>.one (h a (az _) (az _))
 | d+1,h=>(F1 a d λc h1 h2=>h c h1 (by omega)).trans (.one (h (a+d+1) (by omega) (by omega)))
section
variable {G:List Row} {P D0 D1:Int->Prop} {wf wf':Int->Option Int}
theorem Ej (hr:∀ p,P p->0<=p/\p<G.length) (Bo:WZ G) (W0:x9 G P wf 0 D0) (W1:x9 G P wf' 1 D1) (p:Int) (h0:D0 p) (h1:D1 p):False:=by
 have next:∀ x,D0 x/\D1 x->∃ y,(D0 y/\D1 y)/\ed G wf 0 x y/\ed G wf' 1 x y:=λx hx=>by
  rcases vG Bo (hr x (W0.sub x hx.1)) with e | e
  ·obtain⟨q,a,b,c⟩:=W0.own x hx.1 e;have hn:¬ hd G x=1:=by omega
   exact⟨q,⟨c,(W1.oth x hx.2 hn).2 q b (W0.sub q c)⟩,(uE e).mpr a,(rH hn).mpr b⟩
  ·obtain⟨q,a,b,c⟩:=W1.own x hx.2 e;have hn:¬ hd G x=0:=by omega
   exact⟨q,⟨(W0.oth x hx.1 hn).2 q b (W1.sub q c),c⟩,(rH hn).mpr b,(uE e).mpr a⟩
 let nx:{x:Int // D0 x/\D1 x}->{x:Int // D0 x/\D1 x}:=λx=>⟨Classical.choose (next x.1 x.2),(Cc (next x.1 x.2)).1⟩
 let sq:Nat->{x:Int // D0 x/\D1 x}:=λk=>Nat.rec ⟨p,h0,h1⟩ (λ_ x=>nx x) k
 have tR:∀ k,ed G wf 0 (sq k).1 (sq (k+1)).1/\ed G wf' 1 (sq k).1 (sq (k+1)).1:=λk=>(Cc (next (sq k).1 (sq k).2)).2;have dd:∀ k,D0 (sq k).1/\D1 (sq k).1:=λk=>(sq k).2;generalize hf:(λk=>(sq k).1)=f;have fk:∀ k,f k=(sq k).1:=λk=>by rw[← hf]
 have mR:∀ k,ed G wf 0 (f k) (f (k+1))/\ed G wf' 1 (f k) (f (k+1)):=λk=>by rw[fk,fk];exact tR k
 have zG:∀ k,D0 (f k)/\D1 (f k):=λk=>by rw[fk];exact dd k
 obtain⟨i,j,oZ,e⟩:=M3 (n:=G.length) (f:=f) λk=>hr _ (W0.sub _ (zG k).1);obtain⟨k,k1,k2,k3⟩:=Hu (λc=>rk G (f c)) i (j-1-i);have ring:∀ (r:Int->Int->Prop),(∀ c,i<=c->c<j->r (f c) (f (c+1)))->TG r (f k) (f k):=λr UF=>by
  have t1:TG r (f k) (f j):=by
   have:=F1 (r:=r) (f:=f) k (j-1-k) λc h1 h2=>UF c (by (clear hr tR dd fk mR zG oZ k2 k3 h2 e UF;omega)) (by (clear hr tR dd fk mR e k1 UF h1 zG k3;omega));have e2:k+(j-1-k)+1=j:=by (clear hr tR dd fk mR zG k3 UF e k1;omega)
   rwa [e2] at this
  by_cases c:k=i
  ·subst c;rw[← e] at t1;exact t1
  ·have:=F1 (r:=r) (f:=f) i (k-1-i) λc h1 h2=>UF c (by omega) (by (clear hr tR dd fk mR zG oZ UF h1 e k3;omega));have e2:i+(k-1-i)+1=k:=by (clear hr tR dd fk mR zG oZ e k3 UF k2;omega)
   rw[e2,e] at this;exact t1.trans this
 have le:∀ c,i<=c->c<=j->rk G (f c)<=rk G (f k):=λc h1 h2=>by
  by_cases c2:c=j
  ·rw[c2,← e];exact k3 i (az _) (by (clear hr tR dd fk mR zG oZ e k1 k2 k3 ring h1 h2 c2;omega))
  ·exact k3 c h1 (by omega)
 by_cases par:rk G (f k) % 2=0
 ·refine W1.nb (f k) (zG k).2 (by (clear hr tR dd fk mR zG oZ e k1 k2 k3 ring le;omega)) (ring _ λc h1 h2=>?_);exact⟨⟨(zG c).2,(zG (c+1)).2,(mR c).2⟩,le c h1 (by (clear hr tR dd fk mR zG oZ e k1 k2 k3 ring le par h1;omega)),le (c+1) (by (clear hr tR dd fk mR zG oZ e k1 k2 k3 ring le h2 par;omega)) (by (clear hr tR dd fk mR zG oZ e k1 k2 k3 ring le par h1;omega))⟩
 ·refine W0.nb (f k) (zG k).1 par (ring _ λc h1 h2=>?_);exact⟨⟨(zG c).1,(zG (c+1)).1,(mR c).1⟩,le c h1 (by (clear hr tR dd fk mR zG oZ e k1 k2 k3 ring le par h1;omega)),le (c+1) (by (clear hr tR dd fk mR zG oZ e k1 k2 k3 ring le h2 par;omega)) (by (clear hr tR dd fk mR zG oZ e k1 k2 k3 ring le par h1;omega))⟩
theorem QY {hf Ka:Int->Int} (hr:∀ p,P p->0<=p/\p<G.length) (Bo:WZ G) (s:RK G P hf wf) (s':RK G P Ka wf') (p:Int) (hp:P p):hf p=Ka p:=by
 rcases s.Bo p hp with a | a <;> rcases s'.Bo p hp with b | b
 ·rw[a,b]
 ·exact (Ej hr Bo (s.SK 0 (.inl rfl)) (s'.SK 1 (.inr rfl)) p ⟨hp,a⟩ ⟨hp,b⟩).elim
 ·exact (Ej hr Bo (s'.SK 0 (.inl rfl)) (s.SK 1 (.inr rfl)) p ⟨hp,b⟩ ⟨hp,a⟩).elim
 ·rw[a,b]
end
def EZ (G:List Row) (p:Int):Prop:=0<=p/\p<G.length
section
variable {G:List Row} {hf:Int->Int} {wf:Int->Option Int} {c:Int}
end
end Law
namespace L2
open PySem PySem.W PySem.Spec PyProof.Rows
section
variable {k:Nat->Int} {n:Nat} {cmp:Nat->Nat->(Bool->ai->Prop)->ai->Prop} {s:ai}
def pa (k:Nat->Int) (p:Array Nat) (i:Nat):Int:=k (p.getD i 0)
def my (n:Nat) (p:Array Nat):Prop:=p.Perm (br n).toArray
def vC (k:Nat->Int) (p:Array Nat) (m:Nat):Prop:=∀ i j,i<j->j<m->pa k p i<pa k p j
def WU (k:Nat->Int) (p:Array Nat) (m:Nat):Prop:=∀ i j,i<j->j<m->pa k p j<pa k p i
theorem my.size {p:Array Nat} (h:my n p):p.size=n:=by have:=h.size_eq;simpa using this
theorem my.lt {p:Array Nat} (h:my n p) {i:Nat} (hi:i<n):p.getD i 0<n:=by
 have hs:=h.size;have hm:p.getD i 0∈p:=by rw[dD,dQ (by omega)];exact Array.getElem_mem _
 have:=h.mem_iff.mp hm;simpa using this
theorem my.inj {p:Array Nat} (h:my n p) {i j:Nat} (hi:i<n) (hj:j<n) (e:p.getD i 0=p.getD j 0):i=j:=by
 have hs:=h.size;have nd:p.toList.Nodup:=(nn.mp h).nodup_iff.mpr (by simpa using List.nodup_range);have a:p.toList[i]?=some (p.getD i 0):=by rw[dD,dQ (by omega),eZ,dQ (by omega)];rfl
 have b:p.toList[j]?=some (p.getD j 0):=by rw[dD,dQ (by omega),eZ,dQ (by omega)];rfl
 rw[← e] at b;have hl:i<p.toList.length:=by rw[bS];omega
 exact (OQ hl nd).mp (a.trans b.symm)
theorem Mz (hk:∀ i j,i<n->j<n->k i=k j->i=j) {p:Array Nat} (h:my n p) {i j:Nat} (hi:i<n) (hj:j<n) (oZ:i≠j):pa k p i≠pa k p j:=λe=>oZ (h.inj hi hj (hk _ _ (h.lt hi) (h.lt hj) e))
theorem Hc {p q:Array Nat} {i j:Nat} (h:p[i]?=q[j]?):pa k p i=pa k q j:=by unfold pa;rw[dD,dD,h]
theorem a0p {α:Type} {i j:Nat} {g:Bool->KasT α} {Q:α->ai->Prop} (hc:∀ i j C,i<n->j<n->C (decide (k i<k j)) s->cmp i j C s) (hi:i<n) (hj:j<n) (h:KasT.kasWp cmp (g (decide (k i<k j))) Q s):KasT.kasWp cmp (.ask i j g) Q s:=hc i j _ hi hj h
theorem NR (hk:∀ i j,i<n->j<n->k i=k j->i=j) (hc:∀ i j C,i<n->j<n->C (decide (k i<k j)) s->cmp i j C s) {p:Array Nat} (hp:my n p) {Q:Nat->ai->Prop}:∀ (f m:Nat),1<=m->m+f<=n->vC k p m->(∀ m',m<=m'->m'<=m+f->vC k p m'->(m'<m+f->pa k p m'<pa k p (m'-1))->Q m' s)->KasT.kasWp cmp (kas_asc p f m) Q s:=by
 intro f
 induction f with
 | zero =>
  intro m h1 hm hu q;exact q m (az _) (az _) hu (λz=>absurd z (fA _))
 | succ f ih =>
  intro m h1 hm hu q;rw[kas_asc.eq_2];refine a0p hc (hp.lt (by omega)) (hp.lt (by omega)) ?_
  by_cases c:k (p.getD m 0)<k (p.getD (m-1) 0)
  ·rw[decide_eq_true c,if_pos rfl];exact q m (az _) (by omega) hu (λ_=>c)
  ·rw[decide_eq_false c,if_neg (by decide)];refine ih (m+1) (by omega) (by omega) (λi j oZ hj=>?_) (λm' a b=>by
    have e:m+1+f=m+(f+1):=by omega
    rw[e] at b ⊢;exact q m' (by omega) b)
   have kU:=Mz hk hp (i:=m-1) (j:=m) (by omega) (by omega) (by omega);have iz:pa k p (m-1)<pa k p m:=by
    have:¬ pa k p m<pa k p (m-1):=c;omega
   by_cases e:j=m
   ·subst e
    by_cases e2:i=j-1
    ·rw[e2];exact iz
    ·have:=hu i (j-1) (by omega) (by omega);omega
   ·exact hu i j oZ (by omega)
theorem Ro (hk:∀ i j,i<n->j<n->k i=k j->i=j) (hc:∀ i j C,i<n->j<n->C (decide (k i<k j)) s->cmp i j C s) {p:Array Nat} (hp:my n p) {Q:Array Nat × Nat × Nat->ai->Prop}:∀ (f m:Nat),1<=m->m+f<=n->WU k p m->(∀ m',m<=m'->m'<=m+f->WU k p m'->Q (p,m',0) s)->KasT.kasWp cmp (kas_desc f p m 0) Q s:=by
 intro f
 induction f with
 | zero =>
  intro m h1 hm hu q;exact q m (az _) (az _) hu
 | succ f ih =>
  intro m h1 hm hu q;rw[kas_desc.eq_2];refine a0p hc (hp.lt (by omega)) (hp.lt (by omega)) ?_
  by_cases c:k (p.getD m 0)<k (p.getD (m-1) 0)
  ·rw[decide_eq_true c,if_pos rfl,if_neg (by decide)];refine ih (m+1) (by omega) (by omega) (λi j oZ hj=>?_) (λm' a b=>by
    have e:m+1+f=m+(f+1):=by omega
    rw[e] at b;exact q m' (by omega) b)
   have iz:pa k p m<pa k p (m-1):=c
   by_cases e:j=m
   ·subst e
    by_cases e2:i=j-1
    ·rw[e2];exact iz
    ·have:=hu i (j-1) (by omega) (by omega);omega
   ·exact hu i j oZ (by omega)
  ·rw[decide_eq_false c,if_neg (by decide)];have kU:=Mz hk hp (i:=m-1) (j:=m) (by omega) (by omega) (by omega);have iz:k (p.getD (m-1) 0)<k (p.getD m 0):=by
    have:pa k p (m-1)<pa k p m:=by
     have:¬ pa k p m<pa k p (m-1):=c;omega
    exact this
   refine a0p hc (hp.lt (by omega)) (hp.lt (by omega)) ?_;rw[decide_eq_true iz,if_pos rfl];exact q m (az _) (by omega) hu
theorem NS (hk:∀ i j,i<n->j<n->k i=k j->i=j) (hc:∀ i j C,i<n->j<n->C (decide (k i<k j)) s->cmp i j C s) {p:Array Nat} (hp:my n p) {m:Nat} (hm:m<n) (hu:vC k p m) {Q:Nat->ai->Prop}:∀ (f l r:Nat),l<=r->r<=m->r-l<=f->(∀ i,i<l->pa k p i<pa k p m)->(∀ i,r<=i->i<m->pa k p m<pa k p i) ->
  (∀ l,l<=m->(∀ i,i<l->pa k p i<pa k p m)->(∀ i,l<=i->i<m->pa k p m<pa k p i)->Q l s)->KasT.kasWp cmp (kas_place p m f l r) Q s:=by
 intro f
 induction f with
 | zero =>
  intro l r h1 h2 h3 a b q;have:l=r:=by omega
  subst this;exact q l h2 a b
 | succ f ih =>
  intro l r h1 h2 h3 a b q;rw[kas_place.eq_2]
  by_cases e:l ≥ r
  ·rw[if_pos e];have:l=r:=by omega
   subst this;exact q l h2 a b
  ·rw[if_neg e];refine a0p hc (hp.lt hm) (hp.lt (by omega)) ?_
   by_cases c:k (p.getD m 0)<k (p.getD ((l+r) / 2) 0)
   ·rw[decide_eq_true c,if_pos rfl];refine ih l _ (by omega) (by omega) (by omega) a (λi hi him=>?_) q;have iz:pa k p m<pa k p ((l+r) / 2):=c
    by_cases e2:i=(l+r) / 2
    ·rw[e2];exact iz
    ·have:=hu ((l+r) / 2) i (by omega) him;omega
   ·rw[decide_eq_false c,if_neg (by decide)];have kU:=Mz hk hp (i:=m) (j:=(l+r) / 2) (by omega) (by omega) (by omega);have iz:pa k p ((l+r) / 2)<pa k p m:=by
     have:¬ pa k p m<pa k p ((l+r) / 2):=c;omega
    refine ih _ r (by omega) h2 (by omega) (λi hi=>?_) b q
    by_cases e2:i=(l+r) / 2
    ·rw[e2];exact iz
    ·have:=hu i ((l+r) / 2) (by omega) (by omega);omega
theorem Wa (hk:∀ i j,i<n->j<n->k i=k j->i=j) (hc:∀ i j C,i<n->j<n->C (decide (k i<k j)) s->cmp i j C s) {Q:Array Nat->ai->Prop} (q:∀ p,my n p->vC k p n->Q p s):∀ (f m:Nat) (p:Array Nat),my n p->m+f=n->vC k p m->KasT.kasWp cmp (kas_bin f p m) Q s:=by
 intro f
 induction f with
 | zero =>
  intro m p hp e hu;have:m=n:=by omega
  subst this;exact q p hp hu
 | succ f ih =>
  intro m p hp e hu;rw[kas_bin.eq_2,KasT.kasWp_bind];have hm:m<n:=by omega
  refine NS hk hc hp hm hu m 0 m (bv _) (az _) (by omega) (λi hi=>absurd hi (kr _)) (λi h1 h2=>by omega) (λl hl a b=>?_);refine ih (m+1) _ ((bubble_perm _ _ _).trans hp) (by omega) (λi j oZ hj=>?_);have hsz:m<p.size:=by rw[hp.size];exact hm
  have key:∀ x,pa k (bubble p m (m-l)) x=if x=l then pa k p m else if l<x/\x<=m then pa k p (x-1) else pa k p x:=λx=>by
   have g:=getElem?_bubble hsz (m-l) (by omega) x;have e:m-(m-l)=l:=by omega
   rw[e] at g
   by_cases c1:x=l
   ·rw[if_pos c1];rw[if_pos c1] at g;exact Hc g
   ·rw[if_neg c1];rw[if_neg c1] at g
    by_cases c2:l<x/\x<=m
    ·rw[if_pos c2];rw[if_pos c2] at g;exact Hc g
    ·rw[if_neg c2];rw[if_neg c2] at g;exact Hc g
  rw[key i,key j]
  by_cases c1:i=l
  ·rw[if_pos c1,if_neg (by omega),if_pos (by omega)];exact b (j-1) (by omega) (by omega)
  ·rw[if_neg c1]
   by_cases c2:l<i/\i<=m
   ·rw[if_pos c2,if_neg (by omega),if_pos (by omega)];exact hu (i-1) (j-1) (by omega) (by omega)
   ·rw[if_neg c2]
    by_cases c3:j=l
    ·rw[if_pos c3];exact a i (by omega)
    ·rw[if_neg c3]
     by_cases c4:l<j/\j<=m
     ·rw[if_pos c4]
      by_cases c5:i=j-1
      ·omega
      ·exact hu i (j-1) (by omega) (by omega)
     ·rw[if_neg c4];exact hu i j oZ (by omega)
theorem Rp (hk:∀ i j,i<n->j<n->k i=k j->i=j) (hc:∀ i j C,i<n->j<n->C (decide (k i<k j)) s->cmp i j C s) (hn:1<=n) {Q:Array Nat->ai->Prop} (q:∀ p,my n p->vC k p n->Q p s):KasT.kasWp cmp (kas_sort n) Q s:=by
 have Cm:my n (br n).toArray:=Ii _;have fin:∀ m p,1<=m->m<=n->my n p->vC k p m->KasT.kasWp cmp (if (m,p).1<n then kas_bin (n-max (m,p).1 1) (m,p).2 (max (m,p).1 1) else .ret (m,p).2) Q s:=λm p h1 h2 hp hu=>by
  show KasT.kasWp cmp (if m<n then kas_bin (n-max m 1) p (max m 1) else .ret p) Q s;have e:max m 1=m:=by omega
  by_cases c:m<n
  ·rw[if_pos c,e];exact Wa hk hc q _ _ _ hp (by omega) hu
  ·rw[if_neg c];have:m=n:=by omega
   subst this;exact q p hp hu
 unfold kas_sort;rw[KasT.kasWp_bind];unfold kas_count;rw[KasT.kasWp_bind];refine NR hk hc Cm (n-1) 1 (az _) (by omega) (λi j a b=>by omega) (λm h1 h2 hu hl=>?_)
 by_cases c1:(m == n)=true
 ·rw[if_pos c1];exact fin m _ h1 (by omega) Cm hu
 ·rw[if_neg c1];have c1':m≠n:=λe=>c1 (by rw[e];simp)
  by_cases c2:m > 1
  ·rw[if_pos c2];refine a0p hc (Cm.lt (by omega)) (Cm.lt (by omega)) ?_;have:k ((br n).toArray.getD 0 0)<k ((br n).toArray.getD (m-1) 0):=hu 0 (m-1) (by omega) (by omega);rw[decide_eq_true this,if_pos rfl];exact fin m _ h1 (by omega) Cm hu
  ·rw[if_neg c2];have em:m=1:=by omega
   subst em;have hd:=hl (by omega);unfold kas_descPart;rw[KasT.kasWp_bind];refine Ro hk hc Cm (n-(1+1)) (1+1) (by omega) (by omega) (λi j a b=>?_) (λm h1 h2 hdn=>?_)
   ·have:i=0/\j=1:=by omega
    rw[this.1,this.2];exact hd
   ·rw[if_neg (fA 0)];unfold kas_tail3;rw[KasT.kasWp_bind];have hsz:m<=(br n).toArray.size:=by rw[Cm.size];omega
    have WA:my n (kas_rev (br n).toArray 0 m):=(mirror_perm _ _ _ _).trans Cm;have key:∀ x,x<m->pa k (kas_rev (br n).toArray 0 m) x=pa k (br n).toArray (0+m-1-x):=λx hx=>by
     have g:=getElem?_mirror_all (i:=0) hsz x;rw[if_pos ⟨bv _,hx⟩] at g;exact Hc g
    refine NR hk hc WA (n-m) m (by omega) (by omega) (λi j a b=>?_) (λm' Xv Ey PB _=>?_)
    ·rw[key i (by omega),key j b];exact hdn _ _ (by omega) (by omega)
    ·exact fin m' _ (by omega) (by omega) WA PB
end
end L2
namespace L2
open PySem PySem.Spec PyProof.Rows
section
variable {prog:aS} {w:bN} {A:bA} {E:ae->ai->Prop} {s:ai}
def kH (h:cj) (v:ae) (a b:Int):Prop:=∃ t o e ta tb,v=.ref t/\h.get? t=some o/\o.cls=.type "tuple" /\ o.data=.seq #[.int a ta,.int b tb] e
theorem Qq {x y:ae} {a b a' b':Int} {Q:Bool->ai->Prop} (hx:kH s.heap x a b) (hy:kH s.heap y a' b') (hd:a=a'->b=b') (h:Q (decide (a<a')) s):wpAny (bn prog w) A (keyLt' (tuples' true) x y) Q E s:=by
 obtain⟨t,o,e,ta,tb,rfl,ho,_,hs⟩:=hx;obtain⟨t',o',e',ta',OD,rfl,xo,_,hs'⟩:=hy;refine PySem.W.kat_lt ho hs xo hs' (KJ (Em (O0 (λc=>Ob (KJ (Em (O0 (λc2=>Ob (PySem.W.kat_nil ?_)) (λc2=>?_))))) (λc=>PySem.W.kat_no (oneLt_int h)))))
 ·have e:a=a':=of_decide_eq_true c;rw[decide_eq_false (by omega)] at h;exact h
 ·have e:a=a':=of_decide_eq_true c;have:=of_decide_eq_false c2;exact absurd (hd e) this
theorem kH.keep {h:cj} {v:ae} {a b:Int} {at_:ak} {us:List ae} {ep:Nat} {f:Array ae->Array ae} {o1 o2:dR} (p:kH h v a b) (ho:h.get? at_=some (gM "list" us.toArray ep)):kH (((h.update at_ (cF f)).push o1).push o2) v a b:=by
 obtain⟨t,o,e,ta,tb,rfl,h1,h2,h3⟩:=p;have ne:t≠at_:=λz=>by
  subst z;rw[ho] at h1;cases h1;simp[gM] at h2
 refine⟨t,o,e,ta,tb,rfl,?_,h2,h3⟩;exact al _ (al _ (by rw[KB _ _ _ _ ne];exact h1))
theorem xt {h:cj}:∀ us:List ae,(∀ v∈us,∃ a b,kH h v a b)->∃ fs,PySem.W.KatTups h us fs/\fs.length=us.length/\∀ v∈fs,∃ a t,v=gK a t
 | [],_=>⟨[],.nil,rfl,λ_ z=>by cases z⟩
 | v::r,hh=>by
  obtain⟨a,b,t,o,e,ta,tb,rfl,h1,h2,h3⟩:=hh v aE;obtain⟨fs,f1,f2,f3⟩:=xt r λu hu=>hh u (aL _ hu);refine⟨.int a ta::fs,.cons h1 h2 h3 rfl f1,by simp[f2],λu hu=>?_⟩;rcases aB.mp hu with z | z
  ·exact⟨a,ta,z⟩
  ·exact f3 u z
theorem F3 {at_:ak} {us:List ae} {ep:Nat} {R:Fin->ai->Prop} {ka kb:Nat->Int} (ho:s.heap.get? at_=some (gM "list" us.toArray ep)) (hP:∀ i,i<us.length->kH s.heap (us.getD i .none) (ka i) (kb i)) (hd:∀ i j,i<us.length->j<us.length->ka i=ka j->i=j) (hz:us.length<64)
  (k:∀ p:Array Nat,my us.length p->vC ka p us.length->R (.done (.ret .none)) { s with heap:=sortedHeap s.heap at_ us (p.toList.map λi=>us.getD i .none).toArray }) :
  wpAny (bn prog w) A (iX.«list.sort» ⟨[.ref at_],[]⟩) R E s:=by
 have lt0:at_<s.heap.objs.size:=aF ho;have line:us.length<=aJ:=a0b (m:=64) (by omega);rw[list_sort_plain];refine ah (listItems_at ho rfl (ah (LZ ho rfl ?_ (by rw[aV];exact line) (by simp))));obtain⟨ep1,ho1⟩:∃ ep1,(s.heap.update at_ (cF λ_=>#[])).get? at_=some (gM "list" #[] ep1):=⟨_,get?_update_seq ho (λ_=>#[])⟩
 refine ah (VF ho1 rfl (ah (wpAny_newTuple (ah (yg (dj ?_))))));have Ow:(((s.heap.update at_ (cF λ_=>#[])).push (gM "tuple" us.toArray 0)).push (gM "list" #[] 0)).get? at_=some (gM "list" #[] ep1):=by
  rw[ON,ON]
  ·exact ho1
  ·rw[xX];exact aK lt0
  ·rw[size_push',xX];exact aK (cn lt0)
 show wpAny (bn prog w) A _ R E { s with heap:=((s.heap.update at_ (cF λ_=>#[])).push (gM "tuple" us.toArray 0)).push (gM "list" #[] 0) };dsimp only;have fin:∀ (HM:SortSt) (p:Array Nat),(arrOf HM).map (·.2)=(p.toList.map λi=>us.getD i .none).toArray->failedOf HM=none->my us.length p->vC ka p us.length->R (.done (.ret .none)) { s with heap:=sortedHeap s.heap at_ us ((arrOf HM).map (·.2)) }:=λHM p e _ h1 h2=>by rw[e];exact k p h1 h2
 by_cases h2:us.length<2
 ·rw[if_pos (by rw[aV];exact h2),if_pos (by rw[aV];exact h2)];refine ah (aH (ah (aH ?_)));dsimp only;have Cm:my us.length (br us.length).toArray:=Ii _;have e:((us.toArray.zip us.toArray).map (·.2))=((br us.length).toArray.toList.map λi=>us.getD i .none).toArray:=by
   rcases us with _ | ⟨v1,_ | ⟨v2,more⟩⟩
   ·simp
   ·simp
   ·simp at h2;omega
  have Dr:((us.toArray.zip us.toArray).map (·.2)).size=us.length:=by simp
  refine ah (VF Ow rfl (ah (LZ Ow rfl ?_ (bv _) (by show ((us.toArray.zip us.toArray).map (·.2)).size<=_;rw[Dr];exact jh line))));simp only [bne_self_eq_false,iI,if_false];refine aH ?_;have:=k _ Cm (λi j h1 h2=>by omega);rw[← e] at this;exact this
 ·rw[if_neg (by rw[aV];exact h2),if_neg (by rw[aV];exact h2)];have hP2:∀ i,i<us.length->kH (((s.heap.update at_ (cF λ_=>#[])).push (gM "tuple" us.toArray 0)).push (gM "list" #[] 0)) (us.getD i .none) (ka i) (kb i):=λi hi=>(hP i hi).keep ho;obtain⟨fs,f1,f2,f3⟩:=xt us λv hv=>by
   obtain⟨i,hi,e⟩:=List.getElem_of_mem hv;have:=hP2 i hi;rw[gj,ao hi,Option.getD_some,e] at this;exact⟨_,_,this⟩
  refine ah (PySem.W.kat_kind (T:=.type "int") f1 (by rw[f2];omega) (λv hv=>?_) (by decide) ?_)
  ·obtain⟨a,tk,rfl⟩:=f3 v hv;exact λA Q E s _ q=>aH q
  refine ah (dc (PySem.W.kat_run (vs:=us) (ks:=us) (Q:=λGb s'=>s'={ s with heap:=((s.heap.update at_ (cF λ_=>#[])).push (gM "tuple" us.toArray 0)).push (gM "list" #[] 0) }/\∃ p,(arrOf Gb).map (·.2)=(p.toList.map λi=>us.getD i .none).toArray/\failedOf Gb=none/\my us.length p/\vC ka p us.length) (G:=λp s'=>s'={ s with heap:=((s.heap.update at_ (cF λ_=>#[])).push (gM "tuple" us.toArray 0)).push (gM "list" #[] 0) }/\my us.length p/\vC ka p us.length) rfl (by omega) hz (λp Gb s' h1 h2 h3 h4=>⟨h4.1,p,PySem.W.kat_snds rfl h2,h3,h4.2⟩) ?_) ?_ λ_ _ z=>z)
  rotate_left
  ·rintro⟨⟨⟩,Gb⟩ s' ⟨rfl,p,e,h3,hp,hu⟩;dsimp only at e h3 ⊢;have Dr:((arrOf Gb).map (·.2)).size=us.length:=by rw[e];simp[hp.size]
   refine ah (VF Ow rfl (ah (LZ Ow rfl ?_ (bv _) (by show ((arrOf Gb).map (·.2)).size<=_;rw[Dr];exact jh line))));rw[h3];simp only [bne_self_eq_false,iI,if_false];exact aH (fin Gb p e h3 hp hu)
  ·refine Rp (k:=ka) hd (λi j C hi hj hC=>?_) (by omega) (λp hp hu=>⟨rfl,hp,hu⟩);exact Qq (hP2 i hi) (hP2 j hj) (λe=>by rw[hd i j hi hj e]) hC
theorem kH.up {h h':cj} {v:ae} {a b:Int} (p:kH h v a b) (k:∀ b o,h.get? b=some o->h'.get? b=some o):kH h' v a b:=by
 obtain⟨t,o,e,ta,tb,rfl,h1,h2,h3⟩:=p;exact⟨t,o,e,ta,tb,rfl,k _ _ h1,h2,h3⟩
theorem BY {l:ak} {us:List ae} {Q:ae->ai->Prop} {ka kb:Nat->Int} (hl:s.heap.IsList l us.toArray) (hP:∀ i,i<us.length->kH s.heap (us.getD i .none) (ka i) (kb i)) (hd:∀ i j,i<us.length->j<us.length->ka i=ka j->i=j) (hz:us.length<64)
  (k:∀ p:Array Nat,my us.length p->vC ka p us.length->Q (.ref (s.heap.objs.size+1)) { s with heap:=afA s.heap us (p.toList.map λi=>us.getD i .none).toArray }) :
  wpAny (bn prog w) A (rF (.builtin "sorted") [.ref l]) Q E s:=by
 refine Calls.call_function_entry kind_sorted plain_sorted entry_sorted (args_sorted1 _) ?_;unfold iX.«sorted»;refine ah (m:=checkCount "sorted" 1 1 _) (aH (ah (collect_list hl (ah (yg ?_ (a0b (m:=64) (by omega)))) (a0b (m:=64) (by omega)))));have sz:((s.heap.push (gM "list" #[] 0)).update s.heap.objs.size (cF (·++us.toArray))).objs.size=s.heap.objs.size+1:=by rw[xX,size_push']
 have hoL:(((s.heap.push (gM "list" #[] 0)).update s.heap.objs.size (cF (·++us.toArray))).push (gM "list" us.toArray 0)).get? (s.heap.objs.size+1)=some (gM "list" us.toArray 0):=by
  have:=aQ ((s.heap.push (gM "list" #[] 0)).update s.heap.objs.size (cF (·++us.toArray))) (o:=gM "list" us.toArray 0) rfl;rwa [sz] at this
 have hup:∀ b o,s.heap.get? b=some o->(((s.heap.push (gM "list" #[] 0)).update s.heap.objs.size (cF (·++us.toArray))).push (gM "list" us.toArray 0)).get? b=some o:=λb o h=>al _ (by rw[KB _ _ _ _ (aK (aF h))];exact al _ h);show wpAny _ _ _ _ _ { s with heap:=((s.heap.push (gM "list" #[] 0)).update s.heap.objs.size (cF (·++us.toArray))).push (gM "list" us.toArray 0) };rw[sz];refine ah (dj (Ek slot_list_sort ⟨_,hoL,rfl⟩ entry_list_sort (F3 hoL (λi hi=>(hP i hi).up hup) hd hz λp y1 y2=>⟨_,rfl,?_⟩) (args_list_sort _)));exact aH ⟨_,rfl,k p y1 y2⟩
end
theorem Ei:∀ {ts:List (ak × Int × Int)} {us:List ae},Vals (ts.map λt=>V.ref t.1) us->us=ts.map λt=>bO t.1
 | [],_,.nil=>rfl
 | t::r,_,.cons h q=>by cases h;rw[Ei q];rfl
theorem MM (ts:List (ak × Int × Int)):Vals (ts.map λt=>V.ref t.1) (ts.map λt=>bO t.1):=by
 induction ts with
 | nil=>exact .nil
 | cons a b ih=>exact .cons rfl ih
theorem Jy {α:Type} {ts:List α} {d:α} {p:Array Nat} (h:my ts.length p):(p.toList.map λi=>ts.getD i d).Perm ts:=by
 have h1:=(nn.mp h).map (λi=>ts.getD i d);have e:(br ts.length).map (λi=>ts.getD i d)=ts:=by
  apply c6;intro i;rw[aI];rcases cN i ts.length with c | c
  ·rw[dy c,ao c];simp[ao c]
  ·rw[bo (by simpa using c),bo c];rfl
 have Xv:(p.toList.map λi=>ts.getD i d).Perm ((br ts.length).map λi=>ts.getD i d):=h1;rw[e] at Xv;exact Xv
section
variable {X:Cx}
theorem Bg {K:aj} (hK:X.K=K):kF X (.builtin "sorted") (λxs H Q=>∃ (a:ak) (ts:List (ak × Int × Int)),xs=[.ref a]/\bQ K H a (ts.map λt=>V.ref t.1)/\ts.length<64/\(∀ t∈ts,eU K H t.1 [.int t.2.1,.int t.2.2])/\(ts.map λt=>t.2.1).Nodup /\
  ∀ (p:ak) (ts':List (ak × Int × Int)),H p=none->ts'.Perm ts->ts'.Pairwise (λx y=>x.2.1<y.2.1)->Q (.ref p) (upd H p (.lst (ts'.map λt=>V.ref t.1)))):=by
 subst hK;intro pins s σ H xs us Q I r h;obtain⟨a,ts,rfl,ha,hz,ht,nd,q⟩:=h;obtain⟨u,rfl,ru⟩:=a0e r;cases ru;obtain⟨cw,rv,pl,_⟩:=I.list ha;have ei:=Ei rv;subst ei;have hlen:(ts.map λt=>bO t.1).length=ts.length:=ag _;have hgd:∀ i,i<ts.length->∃ t∈ts,ts[i]?=some t/\(ts.map λt=>bO t.1).getD i .none=.ref t.1/\ts.getD i (0,0,0)=t:=λi hi=>by
  refine⟨ts[i],cq _,by simp[hi],?_,?_⟩
  ·simp[hi]
  ·simp[hi]
 refine BY (ka:=λi=>(ts.getD i (0,0,0)).2.1) (kb:=λi=>(ts.getD i (0,0,0)).2.2) pl.isList (λi hi=>?_) (λi j hi hj e=>?_) (by rw[hlen];exact hz) (λp hp hu=>?_)
 ·rw[hlen] at hi;obtain⟨t,tm,_,e1,e2⟩:=hgd i hi;rw[e1];show kH _ _ (ts.getD i (0,0,0)).2.1 (ts.getD i (0,0,0)).2.2;rw[e2];obtain⟨jts,rj,⟨o,o1,o2,n,o3⟩,_⟩:=I.tuple (ht t tm);cases rj with
  | cons h1 q1=>cases q1 with
   | cons h2 q2 =>
    cases q2;obtain⟨t1,rfl⟩:=h1;obtain⟨t2,rfl⟩:=h2;exact⟨t.1,o,n,t1,t2,rfl,o1,o2,o3⟩
 ·rw[hlen] at hi hj;obtain⟨t,_,a1,_,e2⟩:=hgd i hi;obtain⟨t',_,a2,_,e3⟩:=hgd j hj;have e':(ts.getD i (0,0,0)).2.1=(ts.getD j (0,0,0)).2.1:=e;rw[e2,e3] at e';refine (OQ (l:=ts.map λt=>t.2.1) (by rw[ag];exact hi) nd).mp ?_;rw[aI,aI,a1,a2];show some t.2.1=some t'.2.1;rw[e']
 ·rw[hlen] at hp hu;have hs:=hp.size;have eo:(p.toList.map λi=>(ts.map λt=>bO t.1).getD i .none)=(p.toList.map λi=>ts.getD i (0,0,0)).map λt=>bO t.1:=by
   rw[qm];refine jJ λi hi=>?_;have lG:i<ts.length:=by
    have:=(nn.mp hp).mem_iff.mp hi;simpa using this
   obtain⟨t,_,_,e1,e2⟩:=hgd i lG;rw[e1];show _=bO (ts.getD i (0,0,0)).1;rw[e2]
  obtain⟨e,he⟩:=sortedAll_at s.heap (ts.map λt=>bO t.1) (p.toList.map λi=>(ts.map λt=>bO t.1).getD i .none).toArray;have pm:=Jy (d:=((0,0,0):ak × Int × Int)) hp;have Kg:((p.toList.map λi=>ts.getD i (0,0,0)).map λt=>V.ref t.1).length<=aJ:=by rw[ag,pm.length_eq];exact a0b (m:=64) (by omega)
  refine⟨.ref (s.heap.objs.size+1),_,I.laid (t':=s.toks) (o:=.lst ((p.toList.map λi=>ts.getD i (0,0,0)).map λt=>V.ref t.1)) (λb o=>sortedAll_old) (gU _) ⟨Kg,_,e,MM _,by rw[← eo];exact he⟩,rfl,q _ _ (I.cZ.fresh (gU _)) pm ?_⟩;rw[CO];intro i j hi hj oZ;rw[ag,bS,hs] at hi hj;rw[RF,RF];have:=hu i j oZ hj;unfold pa at this;have g:∀ x (hx:x<ts.length),p.getD x 0=p.toList[x]'(by rw[bS,hs];exact hx):=λx hx=>by
   rw[dD,dQ (by omega)];simp
  rw[g i hi,g j hj] at this;exact this
end
section
variable {X:Cx} {elt tg iter:b6} {ifs:List b6} {scope:dv} {pos:hW} {wi:TI} {tt:CW} {tc:TT} {te:TE}
theorem IG:kF X (.builtin "abs") (λxs H Q=>∃ i,xs=[.int i]/\Q (.int (if i<0 then -i else i)) H):=by
 intro pins s σ H xs us Q I r h;obtain⟨i,rfl,q⟩:=h;obtain⟨u,rfl,t,rfl⟩:=a0e r;exact call_abs_int λu tk=>⟨.int (if i<0 then -i else i),H,I.kept λ_ _ h=>h,⟨u,rfl⟩,q⟩
end
end L2
namespace L2
open PySem
section
variable {P:List ae->Prop}
theorem KN {n:Nat} (h:∀ a (us:List ae),us.length=n->P (a::us)) (us:List ae) (e:us.length=n+1):P us:=by
 cases us with
 | nil=>exact absurd e (Nat.succ_ne_zero n).symm
 | cons a us=>exact h a us (Nat.succ.inj e)
theorem acG (h:P []) (us:List ae) (e:us.length=0):P us:=by
 rw[kA.mp e];exact h
theorem o4 (h:∀ a,P [a]):∀ us:List ae,us.length=1->P us:=KN λa=>acG (h a)
theorem nA (h:∀ a b,P [a,b]):∀ us:List ae,us.length=2->P us:=KN λa=>o4 (P:=λus=>P (a::us)) (h a)
theorem vD (h:∀ a b c,P [a,b,c]):∀ us:List ae,us.length=3->P us:=KN λa=>nA (P:=λus=>P (a::us)) (h a)
theorem O4 (h:∀ a b c d,P [a,b,c,d]):∀ us:List ae,us.length=4->P us:=KN λa=>vD (P:=λus=>P (a::us)) (h a)
theorem Xg (h:∀ a b c d e,P [a,b,c,d,e]):∀ us:List ae,us.length=5->P us:=KN λa=>O4 (P:=λus=>P (a::us)) (h a)
end
end L2
namespace L2
open PySem PySem.Spec PyProof.Rows
section
variable {X:Cx}
end
section
variable {X:Cx}
def YT:Tu:=λx y H Q=>∃ i j,x=.int i/\y=.int j/\OM i j/\Q (.int (i*j)) H
theorem UX:PIp X .Mult YT:=by
 intro pins s σ H x y v u Q I r1 r2 h;obtain⟨i,j,e1,e2,hc,q⟩:=h;subst e1;subst e2;obtain⟨t,rfl⟩:=r1;obtain⟨t',rfl⟩:=r2;exact imul_int ⟨.int _,H,I.tok _,⟨_,rfl⟩,q⟩ hc.ok
end
abbrev qF:=Int × List (Int × Int)
abbrev Hm:Rel (List (Int × Int)):=hU (QI iA iA)
abbrev Sj:Rel qF:=QI iA Hm
abbrev QH:Rel (List qF):=hU Sj
theorem Jm:hV Hm:=dO (v6 fg fg)
theorem l6:hV Sj:=v6 fg Jm
def kI (H:Hp) (wa:ak) (ts:List (ak × Int × Int)):Prop:=H wa=some (.lst (ts.map λt=>V.ref t.1))/\∀ t∈ts,H t.1=some (.tup [.int t.2.1,.int t.2.2])
theorem xU {H:Hp}:∀ {ws:List (Int × Int)} {vs:List V},dE (QI iA iA H) ws vs->∃ ts:List (ak × Int × Int),vs=(ts.map λt=>V.ref t.1)/\(ts.map λt=>t.2)=ws/\∀ t∈ts,H t.1=some (.tup [.int t.2.1,.int t.2.2])
 | _,_,.nil=>⟨[],rfl,rfl,λ_ z=>by cases z⟩
 | w::_,_,.cons h q=>by
  obtain⟨ts,e1,e2,e3⟩:=xU q;obtain⟨a,x,y,rfl,ha,hx,hy⟩:=h;cases hx;cases hy;refine⟨(a,w.1,w.2)::ts,by rw[e1];rfl,by rw[← e2];rfl,λt ht=>?_⟩;rcases aB.mp ht with z | z
  ·rw[z];exact ha
  ·exact e3 t z
theorem xE {H:Hp}:∀ {ts:List (ak × Int × Int)},(∀ t∈ts,H t.1=some (.tup [.int t.2.1,.int t.2.2]))->dE (QI iA iA H) (ts.map λt=>t.2) (ts.map λt=>V.ref t.1)
 | [],_=>.nil
 | t::r,h=>.cons ⟨t.1,_,_,rfl,h t aE,rfl,rfl⟩ (xE λu hu=>h u (aL _ hu))
theorem Rj {H:Hp} {ws:List (Int × Int)} {v:V} (h:Hm H ws v):∃ wa ts,v=.ref wa/\kI H wa ts/\(ts.map λt=>t.2)=ws:=by
 obtain⟨wa,vs,rfl,h1,p⟩:=h;obtain⟨ts,rfl,e2,e3⟩:=xU p;exact⟨wa,ts,rfl,⟨h1,e3⟩,e2⟩
theorem kI.rel {H:Hp} {wa:ak} {ts:List (ak × Int × Int)} (h:kI H wa ts):Hm H (ts.map λt=>t.2) (.ref wa):=⟨wa,_,rfl,h.1,xE h.2⟩
theorem kI.up {H H':Hp} {wa:ak} {ts:List (ak × Int × Int)} (h:kI H wa ts) (s:bp H H'):kI H' wa ts:=⟨s _ _ h.1,λt ht=>s _ _ (h.2 t ht)⟩
theorem ML {H:Hp} {r:qF} {v:V} (h:Sj H r v):∃ t wa ts,v=.ref t/\H t=some (.tup [.int r.1,.ref wa])/\kI H wa ts/\(ts.map λt=>t.2)=r.2:=by
 obtain⟨t,x,y,rfl,h1,h2,h3⟩:=h;cases h2;obtain⟨wa,ts,rfl,h4,h5⟩:=Rj h3;exact⟨t,wa,ts,rfl,h1,h4,h5⟩
theorem DX {H:Hp} {G:List qF} {v:V} (h:QH H G v):∃ g vs,v=.ref g/\H g=some (.lst vs)/\vs.length=G.length /\
  ∀ (i:Nat) (r:qF),G[i]?=some r->∃ t wa ts,vs[i]?=some (.ref t)/\H t=some (.tup [.int r.1,.ref wa])/\kI H wa ts/\(ts.map λt=>t.2)=r.2:=by
 obtain⟨g,vs,rfl,h1,p⟩:=h;refine⟨g,vs,rfl,h1,p.length.symm,λi r hr=>?_⟩;obtain⟨y,hy,ry⟩:=Paired.at p hr;obtain⟨t,wa,ts,rfl,h2,h3,h4⟩:=ML ry;exact⟨t,wa,ts,hy,h2,h3,h4⟩
theorem Ho:∀ {xs ys:List (Int × Int)},xs.Perm ys->xs.Pairwise (λa b=>a.1<b.1)->ys.Pairwise (λa b=>a.1<b.1)->xs=ys
 | [],ys,p,_,_=>p.nil_eq
 | x :: xs,ys,p,h1,h2=>by
  cases ys with
  | nil=>exact absurd p.symm.nil_eq (by simp)
  | cons y ys =>
   rw[ko] at h1 h2;have e:x=y:=by
    have hx:x∈y::ys:=p.mem_iff.mp aE;have hy:y∈x::xs:=p.mem_iff.mpr aE;rcases aB.mp hx with z | z
    ·exact z
    ·rcases aB.mp hy with z2 | z2
     ·exact z2.symm
     ·have a:=h2.1 x z;have b:=h1.1 y z2;omega
   subst e;rw[Ho (List.Perm.cons_inv p) h1.2 h2.2]
abbrev K0:aj:=[]
theorem bQ.k0 {K:aj} {H:Hp} {a:ak} {xs:List V} (h:bQ K0 H a xs):bQ K H a xs:=by
 rcases h with h | ⟨o,_,_,hk,_⟩
 ·exact .inl h
 ·cases hk
section
variable {X:Cx}
theorem zm.le (a:ak) {K:aj}:(∀ i H,(zm K0 a).go i H->(zm K a).go i H)/\(∀ i H x H',(zm K a).Eo i H x H'->(zm K0 a).Eo i H x H')/\∀ i H,(zm K0 a).stop i H->(zm K a).stop i H :=
 ⟨λi H ⟨xs,x,h1,h2⟩=>⟨xs,x,h1.k0,h2⟩,λi H x H' ⟨e,h⟩=>⟨e,λxs hx=>h xs hx.k0⟩,λi H ⟨xs,h1,h2⟩=>⟨xs,h1.k0,h2⟩⟩
theorem Turn.le {P:aS} {w:bN} {K:aj} {tg:b6} {J J':It} {fp:List ak} {it:ak} {tn:Nat->cj->Prop} (t:Turn P w K tg J fp it tn) (h:(∀ i H,J'.go i H->J.go i H)/\(∀ i H x H',J.Eo i H x H'->J'.Eo i H x H')/\∀ i H,J'.stop i H->J.stop i H):Turn P w K tg J' fp it tn where
 mem:=t.mem
 obj:=t.obj
 keep:=t.keep
 item:=λX e1 e2 e3 e4 i pins s σ H E I hf ht hg=>by
  refine dc (t.item X e1 e2 e3 e4 i pins s σ H E I hf ht (h.1 i H hg)) (λr s1 cW=>?_) λ_ _ z=>z;obtain⟨u,e,q⟩:=cW;refine⟨u,e,?_⟩;refine dc q (λ_ s2 cW=>?_) λ_ _ z=>z;obtain⟨x,H',I',r',y,z⟩:=cW;exact⟨x,H',I',r',h.2.1 i H x H' y,z⟩
 done:=λX e1 e2 e3 e4 i pins s σ H E I hf ht hg=>t.done X e1 e2 e3 e4 i pins s σ H E I hf ht (h.2.2 i H hg)
 self:=t.self
theorem Xa.le {pins:List (ak × dR)} {σ:St} {tg:b6} {R R':It->Hp->Prop} {v:ae} {s:ai} (h:Xa X pins σ tg R' v s) (f:∀ J H,R' J H->∃ J',((∀ i H,J'.go i H->J.go i H)/\(∀ i H x H',J.Eo i H x H'->J'.Eo i H x H')/\∀ i H,J'.stop i H->J.stop i H)/\R J' H):Xa X pins σ tg R v s:=by
 obtain⟨it,fp,tn,J,H',e,I,t,z,g,r⟩:=h;obtain⟨J',l,r'⟩:=f J H' r;exact⟨it,fp,tn,J',H',e,I,t.le l,z,g,r'⟩
theorem PE.vS {e:b6} {t:TE} (h:PE X e t) (Q0:V->Hp->Prop):PE X e (λσ H Q=>t σ H Q0/\∀ x H1,Q0 x H1->Q x H1):=λpins s σ H Q I ⟨h1,h2⟩=>dc (h pins s σ H Q0 I h1) (λ_ _ ⟨x,H1,I1,r1,q1⟩=>⟨x,H1,I1,r1,h2 x H1 q1⟩) λ_ _ z=>z
theorem tF {tg l:b6} {tl:TE} (hl:PE X l tl):PI X tg l (Sa K0 tl):=λpins s σ H R I h =>
 dc (c8 (hl.vS (λx H1=>∃ a,x=.ref a/\(∃ xs,bQ K0 H1 a xs)/\R (zm K0 a) H1)) pins s σ H (λJ H'=>∃ a,J=zm X.K a/\R (zm K0 a) H') I ⟨h,λx H1 ⟨a,e,⟨xs,hx⟩,r⟩=>⟨a,e,⟨xs,hx.k0⟩,a,rfl,r⟩⟩)
  (λ_ _ q=>dc q (λ_ _ p=>p.le λJ H' ⟨a,e,r⟩=>⟨zm K0 a,by subst e;exact zm.le a,r⟩) λ_ _ z=>z) λ_ _ z=>z
end
end L2
namespace L2
open PySem
section
variable {X:Cx} {pins:List (ak × dR)} {σ:St} {H:Hp} {s:ai} {a:ak} {fE:List (Key × V)} {k:Key} {u:ae} {A:bA} {E:ae->ai->Prop}
end
section
variable {X:Cx} {o e f:b6} {apos qK:hW} {td ty tx:TE}
end
end L2
namespace L2
open PySem PySem.Spec PyProof.Rows
section
variable {X:Cx}
end
section
variable {X:Cx}
end
section
variable {X:Cx} {o i:b6} {pos:hW} {td ty:TE}
end
def nU:bc × iN->List (bc × ak)->Tr (ForInStep (List (bc × ak))):=λx cells =>
 match x with
 | (name,kind)=>if (kind == bG)=true then do
   let a ← alloc { cls:=jV "cell",data:=Rx none }
   pure (gi ((name,a)::cells))
  else pure (gi cells)
theorem wY:∀ (ns:List (bc × iN)) (cs:List (bc × ak)),(∀ y∈ns,y.2≠.cell)->(forIn ns cs nU:Tr (List (bc × ak)))=pure cs
 | [],_,_=>rfl
 | (n,k)::r,cs,h=>by
  have hk:(k == bG)=false:=by
   have:=h (n,k) aE;simpa using this
  rw[jT];simp only [nU,hk,iI,if_false,pure_bind];exact wY r cs λy hy=>h y (aL _ hy)
theorem zC:∀ (pre:List (bc × iN)) (y0:bc) (post:List (bc × iN)) (cs:List (bc × ak)),(∀ y∈pre,y.2≠.cell)->(∀ y∈post,y.2≠.cell) ->
  (forIn (pre++(y0,bG)::post) cs nU:Tr (List (bc × ak)))=(do let a ← alloc { cls:=jV "cell",data:=Rx none };pure ((y0,a)::cs))
 | [],y0,post,cs,_,h2=>by
  rw[fO,jT];simp only [nU,beq_self_eq_true,if_true,bind_assoc,pure_bind];refine bind_congr λa=>?_;exact wY post _ h2
 | (n,k)::r,y0,post,cs,h1,h2=>by
  have hk:(k == bG)=false:=by
   have:=h1 (n,k) aE;simpa using this
  rw[lP,jT];simp only [nU,hk,iI,if_false,pure_bind];exact zC r y0 post cs (λy hy=>h1 y (aL _ hy)) h2
theorem t5 {M:Ir} {A:bA} {E:ae->ai->Prop} {s:ai} {scope:dv} {globals:ak} {cl:List (bc × ak)} {qual:bc} {env:qk} {Q:qk->ai->Prop} {pre post:List (bc × iN)} {y0:bc}
  (hn:scope.names=pre++(y0,bG)::post) (h1:∀ y∈pre,y.2≠.cell) (h2:∀ y∈post,y.2≠.cell)
  (h:Q { scope:=scope,locals:=s.heap.objs.size,globals:=globals,cells:=(y0,s.heap.objs.size+1)::cl,qual:=qual,func:=none,code:=env.code,frame:=env.frame,builtins:=env.builtins } { s with heap:=(s.heap.push { cls:=.type "dict",data:=.dict #[] }).push { cls:=.type "cell",data:=.cell none } }) :
  wpAny M A (vL scope globals cl [] qual none .none (some env)) Q E s:=by
 unfold vL;refine ah (V7 ?_);have e:=zC pre y0 post cl h1 h2;rw[← hn] at e;show wpAny M A (do
  let __s ← (forIn scope.names cl nU:Tr (List (bc × ak)))
  _) Q E _
 rw[e];refine ah (ah (V7 (aH ?_)));have hs:(s.heap.push { cls:=jV "dict",data:=Ry #[] }).objs.size=s.heap.objs.size+1:=cR ..;refine ah (aH (aH ?_));show Q { scope:=scope,locals:=s.heap.objs.size,globals:=globals,cells:=(y0,(s.heap.push { cls:=jV "dict",data:=Ry #[] }).objs.size)::cl,qual:=qual,func:=none,code:=env.code,frame:=env.frame,builtins:=env.builtins } _;rw[hs];exact h
theorem P7 {h:cj} {a:ak} (e:h.get? a=some { cls:=.type "dict",data:=.dict #[] }):h.Ns a (λ_=>none):=⟨_,#[],0,e,rfl,by intro x hx;simp at hx,λ_=>rfl⟩
structure vU (scope pe:dv) (N PN:List bc) (k:Nat) (cap:List Nat) (y0:bc):Prop where
 kind:scope.kind=.function
 len:N.length=k+cap.length
 own:∃ pre post,scope.names=pre++(y0,bG)::post/\(∀ y∈pre,y.2≠.cell)/\∀ y∈post,y.2≠.cell
 afe:scope.names.lookup y0=some .cell
 loc:∀ y∈scope.names,y.2=.local->scope.names.lookup y.1=some .local
 free:∀ y∈scope.names,y.2=.free->pe.names.lookup y.1=some .cell\/pe.names.lookup y.1=some .free
 cap:∀ j∈br cap.length,∃ x i,N[k+j]?=some x/\cap[j]?=some i/\PN[i]?=some x/\scope.names.lookup x=some .free
 RT:∀ y∈scope.names,y.2=.free->scope.names.lookup y.1=some .free
theorem yO {env:qk} {x y0:bc} {names:List (bc × iN)} (hn:∃ pre post,names=pre++(y0,bG)::post/\(∀ y∈pre,y.2≠.cell)/\∀ y∈post,y.2≠.cell) (hx:x≠y0)
  (h:(names.map λ(n,k)=>if (k == aZ && env.scope.kind == .function && env.kindOf n == some .cell) then (n,bG) else (n,k)).lookup x=some .cell \/
  (names.map λ(n,k)=>if (k == aZ && env.scope.kind == .function && env.kindOf n == some .cell) then (n,bG) else (n,k)).lookup x=some .free):(x,aZ)∈names:=by
 obtain⟨pre,post,e,h1,h2⟩:=hn;have go : ∀ (pre:List (bc × iN)),(∀ y∈pre,y.2≠.cell) ->
   (((pre++(y0,bG)::post).map λ(n,k)=>if (k == aZ && env.scope.kind == .function && env.kindOf n == some .cell) then (n,bG) else (n,k)).lookup x=some .cell \/
   ((pre++(y0,bG)::post).map λ(n,k)=>if (k == aZ && env.scope.kind == .function && env.kindOf n == some .cell) then (n,bG) else (n,k)).lookup x=some .free)->(x,aZ)∈pre++post:=by
  intro pre
  induction pre with
  | nil =>
   intro _ h;rw[fO,cG] at h;have hb:(x == y0)=false:=by simpa using hx
   have h':(post.map λ(n,k)=>if (k == aZ && env.scope.kind == .function && env.kindOf n == some .cell) then (n,bG) else (n,k)).lookup x=some .cell\/(post.map λ(n,k)=>if (k == aZ && env.scope.kind == .function && env.kindOf n == some .cell) then (n,bG) else (n,k)).lookup x=some .free:=by
    have ec:(bG == aZ && env.scope.kind == .function && env.kindOf y0 == some .cell)=false:=rfl;simp only [ec,iI,if_false,bP,hb] at h;exact h
   exact oP h2 h'
  | cons z r ih =>
   obtain⟨n,k⟩:=z;intro hc h;have hk:k≠.cell:=hc (n,k) aE;rw[lP] at h;have h':(eC x ((if (k == aZ && env.scope.kind == .function && env.kindOf n == some .cell)=true then (n,bG) else (n,k))::_)=_)\/(eC x ((if (k == aZ && env.scope.kind == .function && env.kindOf n == some .cell)=true then (n,bG) else (n,k))::_)=_):=h;cases UT:x == n with
   | true =>
    have e:x=n:=by simpa using UT
    subst e
    by_cases Ez:(k == aZ && env.scope.kind == .function && env.kindOf x == some .cell)=true
    ·have:k=.free:=by
      have:=(gO.mp (gO.mp Ez).1).1;simpa using this
     subst this;exact aE
    ·rw[if_neg Ez] at h';simp only [bP,UT] at h';rcases h' with h' | h'
     ·exact absurd (ck h') hk
     ·cases h';exact aE
   | false =>
    refine aL _ (ih (λy hy=>hc y (aL _ hy)) ?_);split at h' <;> (simp only [bP,UT] at h';exact h')
 have:=go pre h1 (by rw[← e];exact h);rw[e];rcases bj.mp this with h | h
 ·exact bY _ h
 ·exact aT _ (aL _ h)
abbrev jY (y0:bc) (X:Cx) (scope:dv) (N:List bc) (cl:List (bc × ak)) (C:ak) (s:ai) (H:Hp) (ex:List ak) (pn:List (ak × dR)):Cx:={ gG X scope N cl C s H ex pn with fn:=λx=>x == y0 }
theorem Db {y0:bc} {X:Cx} {pins:List (ak × dR)} {σ:St} {H:Hp} {s:ai} {scope:dv} {N:List bc} {k:Nat} {cap:List Nat} {cl:List (bc × ak)} {h₁:cj} {fp:List ak} {tk:Nat} (I:Inv X pins σ H s) (S:vU scope X.env.scope N X.N k cap y0)
  (mE:∀ x c,cl.lookup x=some c->X.env.cells.lookup x=some c) (rM:∀ x,(x,aZ)∈scope.names->∃ c,cl.lookup x=some c)
  (hf:∀ b∈fp,mv X pins H b) (ho:∀ b∈fp,∃ o,s.heap.get? b=some o)
  {m:bc->Option ae} (yd:h₁.Ns (s.heap.objs.size+1) m) (hic:h₁.IsCell (s.heap.objs.size+2) none)
  (Cn:∀ b o,(s.heap.push { cls:=.type "list",data:=.seq #[] }).get? b=some o->h₁.get? b=some o) :
  Inv (jY y0 X scope N ((y0,s.heap.objs.size+2)::cl) (s.heap.objs.size+1) { s with heap:=s.heap.push { cls:=.type "list",data:=.seq #[] } } H (s.heap.objs.size::fp) (X.pn++pins))
   [(s.heap.objs.size,{ cls:=.type "list",data:=.seq #[] })] (aD k none++ix σ cap) H { s with heap:=h₁,toks:=tk }:=by
 have Ik:Inv X pins σ H { s with heap:=s.heap.push { cls:=.type "list",data:=.seq #[] } }:=I.kept (t':=s.toks) λb o e=>al _ e;have hold:∀ b o,s.heap.get? b=some o->h₁.get? b=some o:=λb o e=>Cn b o (al _ e);have YX:∀ {b o},s.heap.get? b=some o->b<s.heap.objs.size:=λe=>aF e;have Af:(s.heap.push { cls:=.type "list",data:=.seq #[] }).objs.size=s.heap.objs.size+1:=cR ..;have nD:H s.heap.objs.size=none:=I.fresh;have nC:H (s.heap.objs.size+1)=none:=I.cZ.fresh (gU _);have kK:∀ x c,X.env.cells.lookup x=some c->c<s.heap.objs.size:=λx c e=>by
  obtain⟨v,q⟩:=I.cell x c e;exact q.lt
 have mS:∀ b,b≠X.env.locals->b ∉ X.fs->b ∉ rK X.stack:=λb h1 h2 hb=>(aB.mp (I.rT b hb)).elim h1 h2;have uH:∀ b∈fp,b<s.heap.objs.size:=λb hb=>by obtain⟨o,e⟩:=ho b hb;exact aF e
 have Ua:∀ {x:bc},scope.names.lookup x=some .free->(x,aZ)∈scope.names:=λe=>dU e;have look:∀ x c,((y0,s.heap.objs.size+2)::cl).lookup x=some c->(x=y0/\c=s.heap.objs.size+2)\/(x≠y0/\X.env.cells.lookup x=some c):=λx c e=>by
  rw[bP] at e;split at e
  ·rename_i hx;cases e;exact .inl ⟨by simpa using hx,rfl⟩
  ·rename_i hx;exact .inr ⟨by simpa using hx,mE x c e⟩
 have Sb:∀ x c,x≠y0->cl.lookup x=some c->((y0,s.heap.objs.size+2)::cl).lookup x=some c:=λx c hx e=>by
  rw[bP];split
  ·rename_i hb;exact absurd (by simpa using hb) hx
  ·exact e
 have Sc:((y0,s.heap.objs.size+2)::cl).lookup y0=some (s.heap.objs.size+2):=by rw[bP];simp
 have nY:H (s.heap.objs.size+2)=none:=I.cZ.fresh (cP _ _);have adF:∀ x y c,((y0,s.heap.objs.size+2)::cl).lookup x=some c->((y0,s.heap.objs.size+2)::cl).lookup y=some c->x=y:=by
  intro x y c h1 h2;rcases look x c h1 with ⟨ex,ec⟩ | ⟨_,e1⟩
  ·rcases look y c h2 with ⟨ey,_⟩ | ⟨_,e2⟩
   ·rw[ex,ey]
   ·have:=kK y c e2;rw[ec] at this;exact absurd this (OV.mpr (cP _ _))
  ·rcases look y c h2 with ⟨ey,ec⟩ | ⟨_,e2⟩
   ·have:=kK x c e1;rw[ec] at this;exact absurd this (OV.mpr (cP _ _))
   ·exact I.ok.inj x y c e1 e2
 have Ub:∀ x c,((y0,s.heap.objs.size+2)::cl).lookup x=some c->H c=none:=by
  intro x c e;rcases look x c e with ⟨_,rfl⟩ | ⟨_,e'⟩
  ·exact nY
  ·exact I.nW x c e'
 refine ⟨⟨I.ok.mod,S.kind,I.ok.glob,I.ok.blt,?_,adF,(λx hx=>by
    by_cases PM:x=y0
    ·subst PM;exact⟨_,Sc⟩
    ·obtain⟨c,ec⟩:=rM x (yO (y0:=y0) S.own PM hx);exact⟨c,Sb x c PM ec⟩),(λx c z e=>by
   have hx:x=y0:=by simpa using z
   subst hx;have e':((x,s.heap.objs.size+2)::cl).lookup x=some c:=e;rw[Sc] at e';cases e';show (s.heap.push _).objs.size<=_;rw[Af];exact gU _),I.ok.hd,I.ok.frames,.inl rfl,?_,?_,?_,?_,?_,Ik.stack,I.wv⟩,
  rfl,I.bare,Un.kept Cn,?_,?_,nC,Ub,?_,I.cZ.kept hold,?_⟩
 ·exact wP Af
 ·intro b hb;rcases aB.mp hb with rfl | hb
  ·refine⟨aK (cJ _),λx c e=>?_⟩;rcases look x c e with ⟨_,rfl⟩ | ⟨_,e'⟩
   ·exact bC (Gr (by decide))
   ·exact aK (kK x c e')
  ·refine⟨aK (cn (uH b hb)),λx c e=>?_⟩;rcases look x c e with ⟨_,rfl⟩ | ⟨_,e'⟩
   ·exact bC (Th 2 (uH b hb))
   ·exact (hf b hb).2.2.2.2.1 x c e'
 ·intro b o e;obtain⟨e1,e2⟩:=I.bs b o e;exact⟨al _ e1,e2⟩
 ·show X.base.objs.size<=(s.heap.push _).objs.size;rw[Af];exact jh (b7 I.ok.KU I.sz)
 ·intro b o e hb;obtain⟨e1,e2⟩:=I.bs b o e;rcases aB.mp hb with rfl | hb
  ·exact absurd (YX e1) (fA _)
  ·rcases (hf b hb).2.2.2.1 with z | z
   ·exact I.ok.nH b o e z
   ·exact absurd (b8 (aF (I.ok.bs b o e).1) z) (fA _)
 ·intro b hb;rcases aB.mp hb with rfl | hb
  ·exact mS _ (bC I.lt) (I.FI (az _))
  ·exact mS b (hf b hb).2.1 (hf b hb).2.2.1
 ·refine⟨m,yd,λi x v h1 h2 h3=>?_⟩;have Ps:k<=i:=by
   refine lU λiz=>?_;rw[bW (by simpa using iz),er] at h2;split at h2 <;> cases h2
  obtain⟨j,rfl⟩:=Gq Ps;rw[bU (by simp),dX,Gp] at h2;have hj:j<cap.length:=by
   have:=(af.mp h2).1;simpa [ix] using this
  obtain⟨x',i,e1,e2,e3,e4⟩:=S.cap j (d8.mpr hj);rw[show N[k+j]?=some x from h1] at e1;cases e1;have Ey:σ[i]?=some (some v):=by
   unfold ix at h2;rw[aI,e2] at h2;have Ey:(σ[i]?).join=some v:=ck h2;cases q:σ[i]? with
   | none=>rw[q] at Ey;cases Ey
   | some z=>rw[q] at Ey;exact congrArg some Ey
  have XQ:=Ua e4;have pk:=S.free _ XQ rfl;obtain⟨m0,_,hl⟩:=I.loc;obtain⟨u,r,lk⟩:=hl i x v e3 Ey (pk.elim (λz=>.inr (.inl z)) λz=>.inr (.inr z));refine⟨u,r,?_⟩;rcases lk with ⟨kl,_⟩ | ⟨_,c,e,ic⟩
  ·rcases pk with z | z
   ·have:X.env.scope.names.lookup x=some .local:=kl;rw[z] at this;cases this
   ·have:X.env.scope.names.lookup x=some .local:=kl;rw[z] at this;cases this
  ·obtain⟨c',ec⟩:=rM x XQ;have:=mE x c' ec;rw[e] at this;cases this;refine .inr ⟨?_,c,Sb x c (λz=>by rw[z,S.afe] at e4;cases e4) ec,?_⟩
   ·exact l7 e4
   ·obtain⟨ob,h3,h4⟩:=ic;exact⟨ob,hold _ _ h3,h4⟩
 ·intro x c e;rcases look x c e with ⟨_,rfl⟩ | ⟨_,e'⟩
  ·exact⟨none,hic⟩
  ·obtain⟨v,ob,h3,h4⟩:=I.cell x c e';exact⟨v,ob,hold _ _ h3,h4⟩
 ·intro p hp;rcases bj.mp hp with hp | hp
  ·obtain⟨e,n,ne,nf,d⟩:=I.pin p hp;exact⟨hold _ _ e,n,aK (cn (YX e)),mS _ ne nf,d⟩
  ·have:p=(s.heap.objs.size,{ cls:=.type "list",data:=.seq #[] }):=by simpa using hp
   subst this;refine⟨Cn _ _ (aQ _ rfl),nD,aK (cJ _),mS _ (bC I.lt) (I.FI (az _)),λv z=>by cases z⟩
 ·show _=N.length;rw[S.len];simp[ix]
theorem Fg {y0:bc} {X:Cx} {elt tg iter:b6} {ifs:List b6} {scope:dv} {pos:hW} {N:List bc} {k:Nat} {cap:List Nat} {wi:TI} {tt:CW} {tc:TT} {te:TE} {cl:List (bc × ak)}
  (hc:X.calm=true) (hi:PI X tg iter wi) (hg:∀ cl C s H ex pn,Cg (jY y0 X scope N cl C s H ex pn) k tg tt) (ht:∀ cl C s H ex pn,Iu (jY y0 X scope N cl C s H ex pn) ifs tc)
  (he:∀ cl C s H ex pn,PE (jY y0 X scope N cl C s H ex pn) elt te) (S:vU scope X.env.scope N X.N k cap y0)
  (mE:∀ x c,cl.lookup x=some c->X.env.cells.lookup x=some c) (rM:∀ x,(x,aZ)∈scope.names->∃ c,cl.lookup x=some c)
  {pins:List (ak × dR)} {s:ai} {σ:St} {H:Hp} {Q:VK} (I:Inv X pins σ H s) (h:tU wi tt tc te cap σ H Q) {RR:ae->ak->yB->ai->Prop}
  (hRR:∀ D C s1 H',Inv X pins σ H' s1->Blk X pins H' s1 C->Q (.ref D) H'->RR (.ref D) C (.ok .next) s1) :
  wpAny (bn X.prog X.w) X.A (eO iter X.env) (λx s₁=>wpAny (bn X.prog X.w) X.A (QE x) (λit s₂=>wpAny (bn X.prog X.w) X.A (newList []) (λacc s₃ =>
   wpAny (bn X.prog X.w) X.A (vL scope X.env.globals cl [] X.env.qual none .none (some X.env)) (λKY s₄ =>
    codeAny (bn X.prog X.w) X.A (.compStart (.ListComp elt [⟨tg,iter,ifs,0⟩] scope pos) 0 it acc { KY with scope:=QL scope X.env }) (RR acc KY.locals) s₄) X.xe s₃) X.xe s₂) X.xe s₁) X.xe s:=by
 refine eY (hi pins s σ H _ I h) λv s1 h1=>eY h1 λitv s2 h2=>?_;obtain⟨it,fp,tn,J,H2,e,I2,T,HM,f2,W,⟨m0,w0⟩,turn⟩:=h2;subst e;obtain⟨pre,post,Uw,hp1,LK⟩:=S.own;refine ab7 (t5 Uw hp1 LK ?_);have hP:s2.heap.push { cls:=.type "list",dict:=none,data:=.seq ([]:List ae).toArray }=s2.heap.push { cls:=.type "list",data:=.seq #[] }:=rfl;dsimp only;rw[hP];have hC:(s2.heap.push { cls:=.type "list",data:=.seq #[] }).objs.size=s2.heap.objs.size+1:=cR ..;have hC2:((s2.heap.push { cls:=.type "list",data:=.seq #[] }).push { cls:=.type "dict",data:=.dict #[] }).objs.size=s2.heap.objs.size+2:=by rw[cR,hC]
 have Cn:∀ b o,(s2.heap.push { cls:=.type "list",data:=.seq #[] }).get? b=some o->(((s2.heap.push { cls:=.type "list",data:=.seq #[] }).push { cls:=.type "dict",data:=.dict #[] }).push { cls:=.type "cell",data:=.cell none }).get? b=some o:=λb o e=>al _ (al _ e);have Fq:(((s2.heap.push { cls:=.type "list",data:=.seq #[] }).push { cls:=.type "dict",data:=.dict #[] }).push { cls:=.type "cell",data:=.cell none }).Ns (s2.heap.objs.size+1) (λ_=>none):=P7 (al _ (by rw[← hC];exact aQ _ rfl));have hic:(((s2.heap.push { cls:=.type "list",data:=.seq #[] }).push { cls:=.type "dict",data:=.dict #[] }).push { cls:=.type "cell",data:=.cell none }).IsCell (s2.heap.objs.size+2) none:=⟨_,by rw[← hC2];exact aQ _ rfl,rfl⟩
 rw[hC];generalize ((s2.heap.push { cls:=.type "list",data:=.seq #[] }).push { cls:=.type "dict",data:=.dict #[] }).push { cls:=.type "cell",data:=.cell none }=h₁ at Cn Fq hic ⊢;have Yg:∀ b∈fp,∃ o,s2.heap.get? b=some o:=λb hb=>by obtain⟨o,e,_⟩:=T.obj _ _ HM b hb;exact⟨o,e⟩
 have IY:=Db (N:=N) (k:=k) (cap:=cap) (tk:=s2.toks) I2 S mE rM f2 Yg Fq hic Cn;generalize hY:jY y0 X scope N ((y0,s2.heap.objs.size+2)::cl) (s2.heap.objs.size+1) { s2 with heap:=s2.heap.push { cls:=.type "list",data:=.seq #[] } } H2 (s2.heap.objs.size::fp) (X.pn++pins)=Y at IY;have yp:Y.prog=X.prog:=by rw[← hY]
 have yw:Y.w=X.w:=by rw[← hY]
 have yK:Y.K=X.K:=by rw[← hY]
 have yA:Y.A=X.A:=by rw[← hY]
 have yc:Y.calm=true:=by rw[← hY];exact hc
 have yl:Y.env.locals=s2.heap.objs.size+1:=by rw[← hY];rfl
 have Gf:Y.env=IK scope ((y0,s2.heap.objs.size+2)::cl) (s2.heap.objs.size+1) X.env:=by rw[← hY]
 have Wb:Y.ex=s2.heap.objs.size::fp:=by rw[← hY]
 have Wc:Y.fs=rK X.stack:=by rw[← hY]
 have ypn:Y.pn=X.pn++pins:=by rw[← hY]
 have ycl:Y.env.cells=(y0,s2.heap.objs.size+2)::cl:=by rw[← hY];rfl
 have Wd:Y.xe=λ_ _=>False:=by rw[← hY]
 have gT:Cg Y k tg tt:=by rw[← hY];exact hg _ _ _ _ _ _
 have gC:Iu Y ifs tc:=by rw[← hY];exact ht _ _ _ _ _ _
 have gE:PE Y elt te:=by rw[← hY];exact he _ _ _ _ _ _
 have yH:Y.H₀=H2:=by rw[← hY]
 have ys0:Y.s₀={ s2 with heap:=s2.heap.push { cls:=.type "list",data:=.seq #[] } }:=by rw[← hY]
 have uH:∀ b∈fp,b<s2.heap.objs.size:=λb hb=>by obtain⟨o,e⟩:=Yg b hb;exact aF e
 have xH:∀ p∈X.pn++pins,p.1<s2.heap.objs.size:=λp hp=>aF (I2.pin p hp).1;have kK:∀ x c,X.env.cells.lookup x=some c->c<s2.heap.objs.size:=λx c e=>by
  obtain⟨v,q⟩:=I2.cell x c e;exact q.lt
 have mS:∀ b,b≠X.env.locals->b ∉ X.fs->b ∉ rK X.stack:=λb h1 h2 hb=>(aB.mp (I2.rT b hb)).elim h1 h2;have look:∀ x c,((y0,s2.heap.objs.size+2)::cl).lookup x=some c->(x=y0/\c=s2.heap.objs.size+2)\/(x≠y0/\X.env.cells.lookup x=some c):=λx c e=>by
  rw[bP] at e;split at e
  ·rename_i hx;cases e;exact .inl ⟨by simpa using hx,rfl⟩
  ·rename_i hx;exact .inr ⟨by simpa using hx,mE x c e⟩
 have TR:∀ {H':Hp} {pl:List (ak × dR)},(∀ b∈fp,H' b=none)->(∀ p∈pl,p.1=s2.heap.objs.size)->∀ b∈fp,mv Y pl H' b:=λ{H' pl} hn vJ b hb=>by
  refine⟨hn b hb,?_,?_,.inl ?_,λx c e=>?_,λp hp=>?_⟩
  ·rw[yl];exact aK (cn (uH b hb))
  ·rw[Wc];exact mS b (f2 b hb).2.1 (f2 b hb).2.2.1
  ·rw[Wb];exact aL _ hb
  ·rw[ycl] at e;rcases look x c e with ⟨_,rfl⟩ | ⟨_,e'⟩
   ·exact bC (Th 2 (uH b hb))
   ·exact (f2 b hb).2.2.2.2.1 x c e'
  ·rcases bj.mp hp with hp | hp
   ·rw[ypn] at hp;exact (f2 b hb).2.2.2.2.2 p hp
   ·rw[vJ p hp];exact bC (uH b hb)
 have loop:∀ s₃:ai,s₃={ s2 with heap:=h₁,toks:=s2.toks } ->
   codeAny (bn X.prog X.w) X.A (.compLoop (.ListComp elt [⟨tg,iter,ifs,0⟩] scope pos) 0 (.ref it) (.ref s2.heap.objs.size) (IK scope ((y0,s2.heap.objs.size+2)::cl) (s2.heap.objs.size+1) X.env)) (RR (.ref s2.heap.objs.size) (s2.heap.objs.size+1)) s₃:=by
  rintro s₃ rfl;refine zE (λn s'=>∃ i ys cw H' c,Inv Y [(s2.heap.objs.size,{ cls:=.type "list",data:=.seq (aaJ cw) c })] (aD k none++ix σ cap) H' s'/\tn i s'.heap/\(∀ b∈fp,H' b=none)/\Vals ys cw/\W i n ys H') ?_ m0
   ⟨0,[],[],H2,_,IY,T.keep _ _ _ HM λb hb o e=>Cn b o (al _ e),λb hb=>(f2 b hb).1,.nil,w0⟩
  rintro n s3 ⟨i,ys,cw,H3,c3,I3,Sw,RS,Kj,w3⟩;have xA:∀ p∈[(s2.heap.objs.size,({ cls:=.type "list",data:=.seq cw.toArray c3 }:dR))],p.1=s2.heap.objs.size:=λp hp=>by
   have:p=(s2.heap.objs.size,{ cls:=.type "list",data:=.seq cw.toArray c3 }):=by simpa using hp
   rw[this]
  have MH:∀ {pl:List (ak × dR)} {σ':St} {H':Hp} {s':ai},Inv Y ([(s2.heap.objs.size,({ cls:=.type "list",data:=.seq cw.toArray c3 }:dR))]++pl) σ' H' s'->s'.heap.get? s2.heap.objs.size=some { cls:=.type "list",data:=.seq cw.toArray c3 }/\H' s2.heap.objs.size=none:=λI'=>by
   obtain⟨e,n,_⟩:=I'.pin (s2.heap.objs.size,{ cls:=.type "list",data:=.seq cw.toArray c3 }) (aT _ (bY _ (by simp)));exact⟨e,n⟩
  rcases turn i n ys H3 w3 with ⟨stop,hz,qn⟩ | ⟨go,Nx,Xz,tR⟩
  ·have hd:=T.done Y yp yw yK yc i _ s3 _ H3 (λ_ _=>False) I3 (TR RS xA) Sw stop;rw[yA] at hd;refine eY hd λr s4 cW=>?_;obtain⟨hr,I4⟩:=cW;subst hr;obtain⟨eD,nD⟩:=MH (pl:=[]) (by simpa using I4);have nC:H3 (s2.heap.objs.size+1)=none:=by have:=I4.free;rw[yl] at this;exact this
   obtain⟨mC,Y9,_⟩:=I4.loc;rw[yl] at Y9;have U:=I4.base;rw[Wc,Wb,yH,ys0] at U;have old:∀ {b o},s2.heap.get? b=some o->b<s2.heap.objs.size:=λe=>aF e;have Un2:Un (rK X.stack) (s2.heap.objs.size::fp) H2 (upd H3 s2.heap.objs.size (.lst ys)) s2.heap s4.heap :=
    ⟨λb o e n hb hx=>U.keep b o (al _ e) n hb hx,λb o e n hb hx=>U.slot b o (al _ e) n hb hx,
     λb o e n hx=>by rw[bK (aK (old e))];exact U.free b o (al _ e) n hx,λb o e hx=>U.there b o (al _ e) hx,
     λb xs e=>by have q:=U.u6 b xs e;rw[bK (cQ q nD)];exact q,λb o u e=>by have q:=U.sW b o u e;rw[bK (cQ q nD)];exact q,
     λb ps e=>by obtain⟨mo,q⟩:=U.tY b ps e;exact⟨mo,by rw[bK (cQ q nD)];exact q⟩⟩
   have LH:=I4.cZ;rw[yp,yw] at LH;have IX:Inv X pins σ (upd H3 s2.heap.objs.size (.lst ys)) s4:=by
    refine I2.RM (ch:=s2.heap.objs.size::fp) ?_ Un2 (LH.adopt nD ⟨hz,cw,c3,Kj,eD⟩) I4.bare λb hb=>?_
    ·have:=I4.os;rw[ys0] at this;exact this
    ·rcases aB.mp hb with rfl | hb
     ·exact⟨.inr I2.sz,bC I2.lt,λx c e=>aK (kK x c e),λp hp=>aK (xH p hp)⟩
     ·exact⟨(f2 b hb).2.2.2.1,(f2 b hb).2.1,(f2 b hb).2.2.2.2.1,(f2 b hb).2.2.2.2.2⟩
   refine hRR _ _ s4 _ IX ⟨⟨mC,Y9⟩,?_,?_,jh I2.sz,λx c e=>aK (cn (kK x c e)),λp hp=>aK (cn (xH p hp))⟩ (qn _ nD)
   ·rw[bK (lV _)];exact nC
   ·exact bC (cn I2.lt)
  ·have hd := T.item Y yp yw yK yc i _ s3 _ H3 (λ_ _=>False) I3 (TR RS xA) Sw go;rw[yA] at hd;refine eY hd λr s4 cW=>?_;obtain⟨u,hr,h4⟩:=cW;subst hr;refine eY h4 λ_ s5 cW=>?_;obtain⟨x,H5,I5,r5,y5,Nq,Xo⟩:=cW;have W3:=I5.pinned (TR Xo xA) (T.obj _ _ Nq);have a5:=gT _ s5 _ H5 x u _ W3 (by simp) r5 (tR x H5 y5);rw[yp,yw,yA,Wd,Gf] at a5;refine eY a5 λ_ s6 cW=>?_;obtain⟨ws,Uv,q6,I6⟩:=cW;have dr:(aD k (none:Option V)++ix σ cap).drop k=ix σ cap:=by
    rw[yr (by simp)];simp
   rw[dr] at I6;have a6:=gC _ s6 _ H5 _ I6 q6;rw[yp,yw,yA,Wd,Gf] at a6;refine eY a6 λok s7 cW=>?_;obtain⟨H7,I7,q7⟩:=cW;have wk:∀ (j:Nat) v,(aD k (none:Option V)++ix σ cap)[j]?=some (some v)->(ws.map some++ix σ cap)[j]?=some (some v):=λj v e=>by
    have Ps:k<=j:=by
     refine lU λiz=>?_;rw[bW (by simpa using iz),er] at e;split at e <;> cases e
    rw[bU (by simpa using Ps),dX] at e;rw[bU (by simpa [Uv] using Ps),ag,Uv];exact e
   have wl:(aD k (none:Option V)++ix σ cap).length=(ws.map some++ix σ cap).length:=by simp[Uv]
   have ZZ:∀ {H':Hp} {s':ai},Inv Y ([(s2.heap.objs.size,({ cls:=.type "list",data:=.seq cw.toArray c3 }:dR))]++uT fp s5.heap) (ws.map some++ix σ cap) H' s'->tn (i+1) s'.heap/\∀ b∈fp,H' b=none:=λ{H' s'} I'=>by
    refine⟨T.keep _ _ _ Nq λb hb o e=>(I'.pin (b,o) (aT _ (aT _ (kN hb e)))).1,λb hb=>?_⟩;obtain⟨o,e,d⟩:=T.obj _ _ Nq b hb;exact (I'.pin (b,o) (aT _ (aT _ (kN hb e)))).2.1
   cases ok with
   | false =>
    obtain⟨_,m',hm,w'⟩:=Xz _ _ q7;obtain⟨t7,f7⟩:=ZZ I7;exact⟨m',hm,i+1,ys,cw,H7,c3,(I7.weak wl wk).qg,t7,f7,Kj,w'⟩
   | true =>
    have a7:=gE _ s7 _ H7 _ I7 q7;rw[yp,yw,yA,Wd,Gf] at a7;rw[if_pos rfl];refine eY a7 λyv s8 cW=>?_;obtain⟨y,H8,I8,r8,q8⟩:=cW;obtain⟨hz8,m',hm,w'⟩:=Xz _ _ q8;rw[aO,cC] at hz8;obtain⟨eD,nD⟩:=MH I8;obtain⟨t8,f8⟩:=ZZ I8;refine OH (hsz:=by rw[aV,← Kj.length];omega) ⟨c3,eD⟩ λh9 pl9 ZL=>?_;obtain⟨c9,e9⟩:=pl9;have I8':Inv Y [] (aD k none++ix σ cap) H8 s8:=(I8.weak wl wk).kY λp hp=>by cases hp
    have I9:Inv Y [] (aD k none++ix σ cap) H8 { s8 with heap:=h9 } :=
     I8'.turned (t':=s8.toks) (it:=s2.heap.objs.size) (λb o hb e=>ZL.extBut b o hb e) nD (by rw[yl];exact aK (cJ _)) (.inl (by rw[Wb];exact aE)) (λx c e=>by
      rw[ycl] at e;rcases look x c e with ⟨_,rfl⟩ | ⟨_,e'⟩
      ·exact bC (Gr (by decide))
      ·exact aK (kK x c e'))
      λp hp=>by
       rw[d9,ypn] at hp;exact aK (xH p hp)
    have e9':h9.get? s2.heap.objs.size=some { cls:=.type "list",data:=.seq (cw++[yv]).toArray c9 }:=by rw[e9];simp
    refine⟨m',hm,i+1,ys++[y],cw++[yv],H8,c9,I9.kY λp hp=>?_,T.keep _ _ _ t8 λb hb o e=>ZL.extBut b o (aK (uH b hb)) e,f8,Kj.append (.cons r8 .nil),w'⟩;have:p=(s2.heap.objs.size,{ cls:=.type "list",data:=.seq (cw++[yv]).toArray c9 }):=by simpa using hp
    subst this;refine⟨e9',nD,?_,?_,λv z=>by cases z⟩
    ·rw[yl];exact aK (cJ _)
    ·rw[Wc];exact mS _ (bC I2.lt) (I2.FI (az _))
 exact Pa (loop _ rfl) (T.self _ 0 _ _ _ (T.keep _ _ _ HM λb hb o e=>Cn b o (al _ e)) (loop _ rfl))
section
variable {X:Cx} {elt tg iter:b6} {ifs:List b6} {scope:dv} {pos:hW} {N:List bc} {k:Nat} {cap:List Nat} {wi:TI} {tt:CW} {tc:TT} {te:TE}
theorem ME {y0:bc} (hc:X.calm=true) (S:vU scope X.env.scope N X.N k cap y0) (hi:PI X tg iter wi) (hg:∀ cl C s H ex pn,Cg (jY y0 X scope N cl C s H ex pn) k tg tt) (ht:∀ cl C s H ex pn,Iu (jY y0 X scope N cl C s H ex pn) ifs tc)
  (he:∀ cl C s H ex pn,PE (jY y0 X scope N cl C s H ex pn) elt te) (hs:∀ x,fZ iter X.env x=pure x:=by intro _;rfl) :
  PE X (.ListComp elt [⟨tg,iter,ifs,0⟩] scope pos) (tU wi tt tc te cap):=by
 intro pins s σ H Q I h;obtain⟨cl,Dm,mE,rM⟩:=vZ (scope:=scope) (env:=X.env) λy hy hf=>I.ok.has y.1 (S.free y hy hf);rw[eval_ListComp];refine qU (use:=none) rfl hs Dm S.kind S.loc ?_;refine Fg hc hi hg ht he S mE rM I h λD C s1 H' I1 B q=>?_;obtain⟨m,hm⟩:=B.ns;exact⟨m,hm,λh' sb=>⟨.ref D,H',B.turn I1 sb,rfl,q⟩⟩
end
def xf (scope pe:dv) (N PN:List bc) (k:Nat) (cap:List Nat) (y0:bc) (j0:Nat):Bool :=
 (scope.kind == .function) && (N.length == k+cap.length) &&
 (scope.names[j0]? == some (y0,bG)) && ((scope.names.take j0).all λy=>y.2 != .cell) && ((scope.names.drop (j0+1)).all λy=>y.2 != .cell) && (scope.names.lookup y0 == some .cell) &&
 (scope.names.all λy=>(y.2 != .local || scope.names.lookup y.1 == some .local) &&
  (y.2 != .free || (scope.names.lookup y.1 == some .free && (pe.names.lookup y.1 == some .cell || pe.names.lookup y.1 == some .free)))) &&
 ((br cap.length).all λj=>match N[k+j]?,cap[j]? with
  | some x,some i=>PN[i]? == some x && scope.names.lookup x == some .free
  | _,_=>false)
theorem Ff {scope pe:dv} {N PN:List bc} {k:Nat} {cap:List Nat} {y0:bc} {j0:Nat} (h:xf scope pe N PN k cap y0 j0=true):vU scope pe N PN k cap y0:=by
 unfold xf at h;simp only [bR] at h;obtain⟨⟨⟨⟨⟨⟨⟨h1,h2⟩,c1⟩,c2⟩,c3⟩,c4⟩,h3⟩,h4⟩:=h;rw[f9] at h3 h4 c2 c3;have q:∀ y∈scope.names,(y.2=.local->scope.names.lookup y.1=some .local)/\(y.2=.free->scope.names.lookup y.1=some .free/\(pe.names.lookup y.1=some .cell\/pe.names.lookup y.1=some .free)):=λy hy=>by
  have:=h3 y hy;simp only [bR,zk,bne_iff_ne,beq_iff_eq] at this;obtain⟨b,c⟩:=this;exact⟨λe=>b.elim (λz=>absurd e z) id,λe=>c.elim (λz=>absurd e z) id⟩
 have c1':scope.names[j0]?=some (y0,bG):=by simpa using c1
 have hl:=(af.mp c1').1;refine⟨by simpa using h1,by simpa using h2,⟨scope.names.take j0,scope.names.drop (j0+1),?_,λy hy=>by simpa using c2 y hy,λy hy=>by simpa using c3 y hy⟩,by simpa using c4,λy hy=>(q y hy).1,λy hy e=>((q y hy).2 e).2,λj hj=>?_,λy hy e=>((q y hy).2 e).1⟩
 ·have e:scope.names[j0]=(y0,bG):=by
   have:=ao hl;rw[c1'] at this;exact (ck this).symm
  rw[← e,← gJ hl,fb]
 ·have:=h4 j hj;split at this
  ·rename_i x i e1 e2;simp only [bR,beq_iff_eq] at this;exact⟨x,i,e1,e2,this.1,this.2⟩
  ·cases this
section
variable {X:Cx} {elt tg iter:b6} {ifs:List b6} {scope:dv} {pos:hW} {wi:TI} {tt:CW} {tc:TT} {te:TE}
theorem Vt (y0:bc) (j0:Nat) (pe:dv) (PN N:List bc) (k:Nat) (cap:List Nat) (hi:PI X tg iter wi) (hg:∀ cl C s H ex pn,Cg (jY y0 X scope N cl C s H ex pn) k tg tt) (ht:∀ cl C s H ex pn,Iu (jY y0 X scope N cl C s H ex pn) ifs tc)
  (he:∀ cl C s H ex pn,PE (jY y0 X scope N cl C s H ex pn) elt te) (hc:X.calm=true:=by rfl) (h1:X.env.scope=pe:=by rfl) (h2:X.N=PN:=by rfl) (S:xf scope pe N PN k cap y0 j0=true:=by decide +kernel)
  (hs:∀ x,fZ iter X.env x=pure x:=by intro _;rfl) :
  PE X (.ListComp elt [⟨tg,iter,ifs,0⟩] scope pos) (tU wi tt tc te cap):=ME hc (by rw[h1,h2];exact Ff S) hi hg ht he hs
end
theorem JB {X:Cx} {x y z:bc} {p1 p2 p3 pos:hW} {k:Nat} (hc:X.calm=true) (hN:X.N.Nodup) (h0:X.N[0]?=some x) (h1:X.N[1]?=some y) (h2:X.N[2]?=some z) (hx:X.env.scope.names.lookup x=some .local) (hy:X.env.scope.names.lookup y=some .cell) (hf:X.fn y=true)
  (hz:X.env.scope.names.lookup z=some .local):Cg X 3 (.Tuple [.Name x p1,.Name y p2,.Name z p3] k pos) (xT X.K 3):=by
 have g:PG X (.Tuple [.Name x p1,.Name y p2,.Name z p3] k pos) (Fj X.K 3 (iy (eW 0) (iy (eW 1) (iy (eW 2) yE)))):=by
  have a1:PG X (.Name x p1) (eW 0):=bZ hN h0 (.inl hx) (.inr hx);have a2:PG X (.Name y p2) (eW 1):=bZ hN h1 (.inr hy) (.inl hf);have a4:PG X (.Name z p3) (eW 2):=bZ hN h2 (.inl hz) (.inr hz);have a3:Tj X [.Name x p1,.Name y p2,.Name z p3] (iy (eW 0) (iy (eW 1) (iy (eW 2) yE))):=cH a1 (cH a2 (cH a4 iL));exact j7 hc a3
 intro pins s σ H v u Q I hl r h;obtain⟨a,xs,rfl,hq,hlen,q⟩:=h;obtain⟨x0,x1,x2,e⟩:=zT xs hlen;subst e;have w:Fj X.K 3 (iy (eW 0) (iy (eW 1) (iy (eW 2) yE))) (.ref a) σ H (λσ' H'=>σ'=((σ.set 0 (some x0)).set 1 (some x1)).set 2 (some x2)/\H'=H):=⟨a,[x0,x1,x2],rfl,hq,rfl,x0,[x1,x2],rfl,x1,[x2],rfl,x2,[],rfl,rfl,rfl,rfl⟩
 refine eY (g pins s σ H _ _ _ I r w) ?_;intro _ s' z;obtain⟨σ',H',I',e1,e2⟩:=z;subst e2;rw[Ae _ _ _ _ hl] at e1;subst e1;exact⟨[x0,x1,x2],rfl,q,I'⟩
theorem Zw {X:Cx} {K:aj} {x y z:bc} {p1 p2 p3 pos:hW} {k:Nat} (hK:X.K=K) (hc:X.calm=true) (hN:X.N.Nodup) (h0:X.N[0]?=some x) (h1:X.N[1]?=some y) (h2:X.N[2]?=some z) (hx:X.env.scope.names.lookup x=some .local) (hy:X.env.scope.names.lookup y=some .cell) (hf:X.fn y=true)
  (hz:X.env.scope.names.lookup z=some .local):Cg X 3 (.Tuple [.Name x p1,.Name y p2,.Name z p3] k pos) (xT K 3):=by subst hK;exact JB hc hN h0 h1 h2 hx hy hf hz
section
variable {X:Cx} {elt tg iter:b6} {ifs:List b6} {scope:dv} {pos:hW} {wi:TI} {tt:CW} {tc:TT} {te:TE}
theorem FU {sc:dv} {env:qk} {x:bc} (h:sc.names.lookup x=some .cell\/sc.names.lookup x=some .free):(QL sc env).names.lookup x=some .cell\/(QL sc env).names.lookup x=some .free:=by
 rcases h with h | h
 ·left
  have go:∀ (names:List (bc × iN)),names.lookup x=some .cell->(names.map λ(n,k)=>if (k == aZ && env.scope.kind == .function && env.kindOf n == some .cell) then (n,bG) else (n,k)).lookup x=some .cell:=by
   intro names
   induction names with
   | nil=>intro h;simp at h
   | cons z r ih =>
    obtain⟨n,k⟩:=z;intro h;show eC x ((if (k == aZ && env.scope.kind == .function && env.kindOf n == some .cell)=true then (n,bG) else (n,k))::_)=_;cases hx:x == n with
    | true =>
     simp only [bP,hx] at h;cases h;split <;> simp[bP,hx]
    | false =>
     simp only [bP,hx] at h;split <;> (simp only [bP,hx];exact ih h)
  exact go _ h
 ·exact l7 h
theorem pf.relabel {scope pe:dv} {N PN:List bc} {k:Nat} {cap:List Nat} {env:qk} (h:pf scope pe N PN k cap):pf scope (QL pe env) N PN k cap :=
 ⟨h.kind,h.len,h.cell,h.loc,λy hy hf=>FU (h.free y hy hf),h.cap,h.RT⟩
theorem we {pe:dv} {K7:qk} (PN N:List bc) (k:Nat) (cap:List Nat) (hi:PI X tg iter wi) (hg:∀ cl C s H ex pn,Cg (gG X scope N cl C s H ex pn) k tg tt) (ht:∀ cl C s H ex pn,Iu (gG X scope N cl C s H ex pn) ifs tc)
  (he:∀ cl C s H ex pn,PE (gG X scope N cl C s H ex pn) elt te) (hc:X.calm=true:=by rfl) (h2:X.N=PN:=by rfl) (h1:X.env.scope=PySem.relabel pe K7:=by rfl) (S:sP scope pe N PN k cap=true:=by decide +kernel)
  (hs:∀ x,fZ iter X.env x=pure x:=by intro _;rfl) :
  PE X (.ListComp elt [⟨tg,iter,ifs,0⟩] scope pos) (tU wi tt tc te cap):=He hc (by rw[h2,h1];exact (uD S).relabel) hi hg ht he hs
end
theorem Bx:aal (.type "list") "keys" = pure none:=am_miss_of_fast (by decide +kernel)
theorem Bz {prog:aS} {w:bN} {A:bA} {E:ae->ai->Prop} {s:ai} {a:ak} {o:dR} {xs:Array ae} {k:Nat} {Q:Option ae->ai->Prop}
  (hx:s.heap.get? a=some o) (hc:o.cls=.type "list") (XJ:o.data=.seq xs k) (hd:o.dict=none) (hA:A.handled=none)
  (h:∀ h' tk,(∀ b ob,s.heap.get? b=some ob->h'.get? b=some ob)->Q none { s with heap:=h',toks:=tk }) :
  wpAny (bn prog w) A (getAttr? (.ref a) "keys") Q E s:=by
 obtain⟨c,dct,dat,sl⟩:=o;simp only at hc XJ hd;subst hc XJ hd;obtain⟨hp,g,d,tk,os⟩:=s;have hT:∀ NH,(⟨hp,g,d,NH,os⟩:ai).TypeIs (.ref a) "list" := λ_=>⟨_,hx,rfl⟩
 have f1:=sub_AttributeError;have f3:=pq.lookup;have f4:=pq.bind (.ref a);have f5:=am_list_getattr_none;unfold getAttr? getAttrBy? getAttrBy
 repeat (any_goals (first | assumption | exact hT _ | ((with_reducible show wpAny _ _ (rF (CY "list.__getattribute__") _ _) _ _ _);refine sO pq (hT _) am_entry_list_getattribute (F.args_list_getattribute_2 _ _) (meets_getattribute_miss_list a xs k sl "keys" _ Bx (by decide +kernel) (by size_fits)) ⟨hx,hA,λh' NH e YK=>?_⟩) | wp_step))
 obtain⟨t',u',he⟩:=YK.there;show wpAny _ _ (Xr _ _ _ _ _ _ _) _ _ _;unfold Xr
 repeat (any_goals (first | assumption | wp_step))
 exact h _ _ YK.keeps
theorem j3:entryFor table "dict.update.loop" = some iX.«dict.update.loop»:=entryFor_of_tree (by kernel_rfl)
theorem fJ:plainId "dict.update.loop" = true:=by decide +kernel
def a0l:List (Key × V)->List (Key × V)->List (Key × V):=Cf λc p=>a0q c p.1 p.2
def OW (P:aS) (w:bN) (h:cj) (d it:ak) (items:List ae) (kys:List (Key × V)):Prop :=
 ∀ (j:Nat) (ky:Key × V),kys[j]?=some ky->∃ (t:ak) (ku vu:ae),items[j]?=some (.ref t)/\h.IsTuple t #[ku,vu]/\(gA P w).is ky.1 ku=true/\RelV ky.2 vu/\t≠d/\t≠it
theorem NL {P:aS} {w:bN} {A:bA} {d it l:ak} {items:List ae} {kys:List (Key × V)} (hh:A.handled=none) (hlen:items.length=kys.length) (hz:kys.length<=aJ) (hdi:d≠it) (hld:l≠d) (hli:l≠it) :
  ∀ (n i:Nat) (s:ai) (cur:List (Key × V)) (vs:List (Key × ae)) (tk:RL) (R:yB->ai->Prop),kys.length-i=n->i<=kys.length->s.heap.IsListIter it l i->s.heap.IsList l items.toArray->OW P w s.heap d it items kys->KV cur vs->s.heap.DictOf (gA P w) d vs->cur.length<=i ->
   (∀ h' t' vs',KV (a0l cur (kys.drop i)) vs'->h'.DictOf (gA P w) d vs'->(a0l cur (kys.drop i)).length<=kys.length->(∀ b o,b≠d->b≠it->s.heap.get? b=some o->h'.get? b=some o)->R (.ok (.ret .none)) { s with heap:=h',toks:=t' }) ->
   codeAny (bn P w) A (.builtin "dict.update.loop" ⟨[.ref d,.ref it,.int (i:Int) tk,.none],[]⟩) R s:=by
 intro n
 induction n with
 | zero =>
  intro i s cur vs tk R hn hi hit hl hp hkv hd hc hR;have e:i=kys.length:=by omega
  subst e;refine fu j3 ?_;rw[je fJ _];show wpAny _ A.in1 (tJ (.ref it) >>= _) _ _ s;refine ah (mU hh hit hl (by simp;omega) λh' eb=>?_);show wpAny _ A.in1 (Builtin.Dict.addKeywords d [] >>= _) _ _ _;refine ah (aH ?_);rw[List.drop_length] at hR;exact aH (hR h' s.toks vs hkv (hd.extBut eb hdi) hc λb o _ h2 h3=>eb b o h2 h3)
 | succ n ih =>
  intro i s cur vs tk R hn hi hit hl hp hkv hd hc hR;obtain⟨ky,hky⟩:∃ ky,kys[i]?=some ky:=⟨kys[i]'(by omega),by simp⟩
  obtain⟨t,ku,vu,h1,h2,h3,h4,h5,h6⟩:=hp i ky hky;refine fu j3 ?_;rw[je fJ _];show wpAny _ A.in1 (tJ (.ref it) >>= _) _ _ s;refine ah (l8 hit hl (x:=.ref t) (by simpa using h1) λh' Gb sb=>?_);have Ey:h'.IsTuple t #[ku,vu]:=by
   obtain⟨o,e1,e2,n1,e3⟩:=h2;exact⟨o,(sb.2 t h6).trans e1,e2,n1,e3⟩
  obtain⟨o,e1,e2,n1,e3⟩:=id Ey;have XH:h'.DictOf (gA P w) d vs:=by
   obtain⟨q,es,ep,hq,r⟩:=hd;exact⟨q,es,ep,(sb.2 d hdi).trans hq,r⟩
  show wpAny _ A.in1 (j5 [bO t] _ >>= _) _ _ _;refine ah (dj (ah (gN ?_)));unfold Builtin.Dict.pairItems;refine ah (wpAny_typeOf (T := "tuple") ⟨o,e1,e2⟩ ?_);rw[if_pos (by decide +kernel)];refine ah (jS (s:={ s with heap:=h' }) e1 e3 (aH ?_));show wpAny _ A.in1 (j5 [ku,vu] (dictSet d ku vu)) _ _ _;refine dj (wpAny_dictSet_pairs (s:={ s with heap:=h' }) (hsz:=by rw[← hkv.length];omega) h3 XH λh'' ado sb'=>?_);have eR:qQ ((i:Int)+1)=.int ((i+1:Nat):Int) 0:=rfl;refine aH ⟨yf fJ _,?_⟩;rw[eR];have qX:=DC cur ky.1 ky.2;have ed:kys.drop i=ky::kys.drop (i+1):=by
   obtain⟨iz,e⟩:=af.mp hky;rw[gJ iz,e]
  refine ih (i+1) _ (a0q cur ky.1 ky.2) _ _ R (by omega) (by omega) ?_ ?_ (λj ky' hj=>?_) (hkv.put ky.1 h4) ado (by omega) λh3' t' vs' k1 k2 k3 k4=>?_
  ·obtain⟨q,q1,q2,q3⟩:=Gb;exact⟨q,(sb'.2 it (dG hdi)).trans q1,q2,q3⟩
  ·obtain⟨q,q1,q2,q3⟩:=hl;exact⟨q,(sb'.2 l hld).trans ((sb.2 l hli).trans q1),q2,q3⟩
  ·obtain⟨t2,ku2,vu2,g1,⟨q,q1,q2,q3⟩,g3,g4,g5,g6⟩:=hp j ky' hj;exact⟨t2,ku2,vu2,g1,⟨q,(sb'.2 t2 g5).trans ((sb.2 t2 g6).trans q1),q2,q3⟩,g3,g4,g5,g6⟩
  ·have ep:a0l (a0q cur ky.1 ky.2) (kys.drop (i+1))=a0l cur (kys.drop i):=by rw[ed];rfl
   rw[ep] at k1 k3;exact hR h3' t' vs' k1 k2 k3 λb o b1 b2 hb=>k4 b o b1 b2 ((sb'.2 b b1).trans ((sb.2 b b2).trans hb))
theorem oY {X:Cx} {K:aj} (hK:X.K=K) (hc:X.calm=true):kF X (.type "dict") (λxs H Q=>∃ (a:ak) (ts:List (ak × Key × V)),xs=[.ref a]/\bQ K H a (ts.map λt=>V.ref t.1)/\(∀ t∈ts,eU K H t.1 [kV t.2.1,t.2.2])/\∀ p,H p=none->Q (.ref p) (upd H p (.dK (a0l [] (ts.map λt=>t.2))))):=by
 intro pins s σ H xs us Q I r h;subst hK;obtain⟨a,ts,rfl,ha,ht,q⟩:=h;obtain⟨u,rfl,ru⟩:=a0e r;cases ru;obtain⟨cw,rv,pl,hz⟩:=I.list ha;have hl:cw.length=(ts.map λt=>t.2).length:=by rw[ag,← rv.length,ag]
 have hz':(ts.map λt=>t.2).length<=aJ:=by rw[ag] at hz ⊢;exact hz
 have hal:a<s.heap.objs.size:=by
  obtain⟨o,h1,_⟩:=pl.isList;exact aF h1
 have hh:X.A.handled=none:=I.ok.hd hc;refine callType_codes (Q₁:=λobj s₁=>obj=.ref s.heap.objs.size/\s₁={ s with heap:=s.heap.push { cls:=.type "dict",data:=.dict #[] } }) PySem.F.kt_called_dict (PySem.F.kt_typeCall_dict_1 _) PySem.F.entry_dict_init (kt_code_dict_new _ ⟨rfl,rfl⟩) ?_;rintro obj s₁ ⟨rfl,rfl⟩;have Dq:(s.heap.push { cls:=.type "dict",data:=.dict #[] }).DictOf (gA X.prog X.w) s.heap.objs.size []:=Heap.DictOf.new s.heap;refine⟨Dq.typeIs,PySem.F.args_dict_init_2 _ _,?_⟩;unfold iX.«dict.__init__»;refine ah ?_;unfold Builtin.Dict.selfAndRest;refine ah (wpAny_notOrdered_dict Dq.typeIs ?_);show wpAny _ _ (pure (s.heap.objs.size,[bO a])) _ _ _;refine aH ?_;show wpAny _ _ (wG "dict.__init__" s.heap.objs.size (.ref a) [] .none) _ _ _;unfold wG;obtain⟨o,n,e1,e2,e3,e4⟩:=pl;refine ah (wpAny_typeOf (T := "list") ⟨o,al _ e1,e2⟩ ?_);rw[if_pos (by decide)];refine ah (Bz (s:={ s with heap:=s.heap.push { cls:=.type "dict",data:=.dict #[] } }) (al _ e1) e2 e4 e3 hh λh' tk kp=>?_);rw[if_pos (show (none:Option ae).isNone=true from rfl)];refine ah (zi ?_);have Um:h'.IsList a cw.toArray:=⟨o,kp _ _ (al _ e1),e2,n,e4⟩
 refine ah (f6 Um ?_);have Pn:s.heap.objs.size<h'.objs.size:=aF (kp _ _ (aQ _ rfl));have kq:∀ b ob,s.heap.get? b=some ob->(h'.push { cls:=.type "list_iterator",data:=.fields #[.ref a,.int 0 0] }).get? b=some ob:=λb ob e=>al _ (kp _ _ (al _ e));refine aH ⟨yf fJ _,?_⟩;refine NL (kys:=ts.map λt=>t.2) (l:=a) (A:=X.A.in1) hh hl hz' (aK Pn) (aK hal) (aK (nv hal Pn)) _ 0 _ [] [] 0 _ rfl (bv _) ⟨_,aQ _ rfl,rfl,rfl⟩ ?_ ?_ .nil ?_ (bv _) ?_
 ·exact⟨o,kq _ _ e1,e2,n,e4⟩
 ·intro j ky hj;rw[aI] at hj;cases et:ts[j]? with
  | none=>rw[et] at hj;cases hj
  | some t =>
   rw[et] at hj;cases hj;obtain⟨u,hu,ru⟩:=rv.get (i:=j) (x:=V.ref t.1) (by rw[aI,et];rfl);cases ru;obtain⟨lH,BN,tp,_⟩:=I.tuple (ht t (aq et));obtain⟨k1,k2,rfl,r1,r2⟩:=a0z BN;obtain⟨o2,g1,g2,n2,g3⟩:=tp;have iz:=aF g1;exact⟨t.1,k1,k2,hu,⟨o2,kq _ _ g1,g2,n2,g3⟩,LS r1,r2,aK iz,aK (nv iz Pn)⟩
 ·exact Heap.DictOf.push (by
   obtain⟨q,es,ep,hq,r⟩:=Dq;exact⟨q,es,ep,kp _ _ hq,r⟩) _
 ·intro h3 t3 vs' k1 k2 k3 k4;rw[List.drop_zero] at k1 k3;refine⟨rfl,.ref s.heap.objs.size,_,?_,rfl,q _ (I.cZ.fresh (az _))⟩;refine I.laid (a:=s.heap.objs.size) (λb ob e=>?_) (az _) (TL (b7 k3 hz') (beq_eq_false_iff_ne.mpr (dG (aK I.big))) k1 k2);have iz:=aF e;exact k4 b ob (aK iz) (aK (nv iz Pn)) (kq _ _ e)
section
variable {X:Cx}
end
end L2
namespace Law
open PySem L2
def kT (c r:Int):Int:=if r % 2=1 then -(c ^ r.toNat) else c ^ r.toNat
def o7:List Int->Int
 | []=>0
 | x::r=>x+o7 r
theorem HP {n:Int} (hn:1<=n) (M:Nat):∀ (rs:List Int),(∀ r∈rs,0<=r/\r.toNat<M)->o7 (rs.map (kT n))<=rs.length*n ^ (M-1)/\-(rs.length*n ^ (M-1))<=o7 (rs.map (kT n))
 | [],_=>by simp[o7]
 | r :: rs,h=>by
  obtain⟨i1,i2⟩:=HP hn M rs λx hx=>h x (aL _ hx);obtain⟨r0,r1⟩:=h r aE;have p1:n ^ r.toNat<=n ^ (M-1):=by
   have:M-1=r.toNat+(M-1-r.toNat):=by omega
   rw[this,Int.pow_add];have q0:(0:Int)<=n ^ r.toNat:=CM (by omega);have q1:(1:Int)<=n ^ (M-1-r.toNat):=by have h9:(0:Int)<n ^ (M-1-r.toNat):=Int.pow_pos (by omega);omega
   have:=iJ q1 q0;rw[KF] at this;exact this
  have p0:(0:Int)<=n ^ r.toNat:=CM (by omega);have e:((r::rs).length:Int)*n ^ (M-1)=rs.length*n ^ (M-1)+n ^ (M-1):=by
   rw[bi];push_cast;rw[KC,zl]
  rw[e,cG];simp only [o7];have a:kT n r<=n ^ (M-1)/\-(n ^ (M-1))<=kT n r:=by unfold kT;split <;> omega
  omega
theorem Ed (f:Int->Int) (M:Int):∀ rs:List Int,o7 (rs.map f)=(rs.filter (·=M)).length*f M+o7 ((rs.filter (·≠M)).map f)
 | []=>by simp[o7]
 | r :: rs=>by
  have ih:=Ed f M rs;rw[cG];simp only [o7]
  by_cases c:r=M
  ·subst c;rw[bq (by simp),bz (by simp),bi,ih]
   push_cast
   rw[KC,zl];omega
  ·rw[bz (by simpa using c),bq (by simpa using c),cG];simp only [o7];rw[ih];omega
theorem vf (M:Int):∀ rs:List Int,(rs.filter (·=M)).length+(rs.filter (·≠M)).length=rs.length
 | []=>rfl
 | r :: rs=>by
  have ih:=vf M rs
  by_cases c:r=M
  ·subst c;rw[bq (by simp),bz (by simp),bi,bi];omega
  ·rw[bz (by simpa using c),bq (by simpa using c),bi,bi];omega
theorem Nw {n:Nat} (hn:1<=n) {rs:List Int} (h0:∀ r∈rs,0<=r) (hl:rs.length<=n) {M:Int} (hM:M∈rs) (LA:∀ r∈rs,r<=M):(M % 2=1->o7 (rs.map (kT n))<0)/\(M % 2≠1->0<o7 (rs.map (kT n))):=by
 have hp:=Ed (kT n) M rs;have hc:=vf M rs;have hc1:1<=(rs.filter (·=M)).length:=bT.mpr (u9 (bF.mpr ⟨hM,by simp⟩));have M0:=h0 M hM;have low:∀ r∈rs.filter (·≠M),0<=r/\r.toNat<M.toNat:=λr hr=>by
  obtain⟨h1,h2⟩:=bF.mp hr;have a:=h0 r h1;have b:=LA r h1;have c:r≠M:=by simpa using h2
  omega
 obtain⟨l1,l2⟩:=HP (n:=(n:Int)) (by omega) M.toNat _ low;generalize (rs.filter (·=M)).length=c at hp hc hc1;generalize hL:o7 ((rs.filter (·≠M)).map (kT n))=S at hp l1 l2;have big:(c:Int)*(n:Int) ^ M.toNat > S/\(c:Int)*(n:Int) ^ M.toNat > -S:=by
  rcases Nat.eq_zero_or_pos M.toNat with z | z
  ·have e:rs.filter (·≠M)=[]:=by
    cases q:rs.filter (·≠M) with
    | nil=>rfl
    | cons a r=>have:=low a (by rw[q];exact aE);omega
   rw[e] at hL;have:S=0:=by rw[← hL];rfl
   rw[z,Ip,KF];omega
  ·have hA:(0:Int)<(n:Int) ^ (M.toNat-1):=Int.pow_pos (by omega);have e:(n:Int) ^ M.toNat=n*(n:Int) ^ (M.toNat-1):=by
    rw[show M.toNat=(M.toNat-1)+1 by omega,Io,Int.mul_comm];rfl
   generalize (rs.filter (·≠M)).length=l at hc l1 l2;generalize (n:Int) ^ (M.toNat-1)=A at hA e l1 l2;rw[e];have k1:(l:Int)+1<=(c:Int)*n:=by
    have:(n:Int)<=(c:Int)*n:=by
     have:=lT (show (1:Int)<=c by omega) (show (0:Int)<=n by omega);rw[zl] at this;exact this
    omega
   have k2:((l:Int)+1)*A<=(c:Int)*n*A:=lT k1 (by omega);rw[KC,zl] at k2;rw[← Int.mul_assoc];omega
 rw[hp];refine⟨λh=>?_,λh=>?_⟩
 ·unfold kT;rw[if_pos h,KD];omega
 ·unfold kT;rw[if_neg h];omega
end Law
namespace L2
open PySem PySem.Spec PyProof.Rows
section
variable {P:aS} {w:bN} {A:bA} {E:ae->ai->Prop} {s:ai}
theorem a0C:isSubtype (.type "zip") (.type "zip")=pure true:=by rw[isSubtype_type];kernel_rfl
theorem Nu:isSubtype (.type "StopIteration") (.type "StopIteration")=pure true:=by rw[isSubtype_type];kernel_rfl
end
section
variable {X:Cx} {K:aj}
end
section
variable {M:Ir} {A:bA} {E:ae->ai->Prop} {s:ai} {B:cj} {env:qk} {outer:List qk} {l:List qk} {L e:ak} {cls a0 fl:ae}
end
section
variable {X:Cx} {pins:List (ak × dR)} {σ:St} {H:Hp} {s:ai}
end
section
variable {X:Cx} {elt tg iter:b6} {ifs:List b6} {scope:dv} {pos:hW} {N:List bc} {k:Nat} {cap:List Nat} {wi:TI} {tt:CW} {tc:TT} {te:TE}
end
section
variable {X:Cx} {elt tg iter:b6} {ifs:List b6} {scope:dv} {pos:hW} {N:List bc} {k:Nat} {cap:List Nat} {wi:TI} {tt:CW} {tc:TT} {te:TE}
end
section
variable {X:Cx} {elt tg iter:b6} {ifs:List b6} {scope:dv} {pos:hW} {wi:TI} {tt:CW} {tc:TT} {te:TE}
end
section
variable {P:aS} {w:bN} {K:aj} {mg:bc->Option ae} {base:cj}
end
section
variable {X:Cx} {E:XK}
end
section
variable {X:Cx} {k n:Nat} {f C:ak} {fd:fP} {ps fs:List bc} {sp:Sp} {x m:bc} {p pos apos:hW} {e o:b6} {es:List b6} {ta:TE} {t:TA}
end
section
variable {X:Cx}
end
end L2
namespace L2
open PySem PySem.W PySem.Calls PyProof.Rows
def t4 (tb:String->Option iX) (p:aS) (w:bN) (n₀:Nat) (ann:Option ae):Nat->SharedT->Thread->Option SharedT
 | 0,_,_=>none
 | n + 1,s,t=>match through t with
  | true=>some s
  | false=>match stepOk n₀ ann t with
   | false=>none
   | true=>match stepT (denote tb) p w s t with
    | some (s',t')=>t4 tb p w n₀ ann n s' t'
    | none=>none
theorem Ah {tb:String->Option iX} {p:aS} {w:bN} {n₀:Nat} {ann:Option ae}:∀ {n:Nat} {s s':SharedT} {t:Thread},t4 tb p w n₀ ann n s t=some s'->topRun tb p w n₀ ann n s.abs t=some s'.abs
 | 0,_,_,_,h=>by cases h
 | n + 1,s,s',t,h=>by
  unfold t4 at h;unfold topRun;cases he:through t with
  | true=>rw[he] at h;cases h;rfl
  | false =>
   rw[he] at h;cases hk:stepOk n₀ ann t with
   | false=>rw[hk] at h;cases h
   | true =>
    rw[hk] at h;cases hs:stepT (denote tb) p w s t with
    | none=>rw[hs] at h;cases h
    | some r=>obtain⟨s₂,t₂⟩:=r;rw[hs] at h;rw[stepT_spec hs];exact Ah h
noncomputable def tZ (p:aS) (w:bN) (n₀:Nat) (ann:Option ae):Nat->SharedT->Thread->Option SharedT
 | 0,_,_=>none
 | n + 1,s,t=>match through t with
  | true=>some s
  | false=>match PySem.W.Fast.tw6613529449190102663 n₀ ann t with
   | false=>none
   | true=>match PySem.W.Fast.tw10156331382660048174 (PySem.W.Fast.tw11892475500146522536 PySem.W.Fast.tw14364793385576792824) p w s t with
    | some (s',t')=>tZ p w n₀ ann n s' t'
    | none=>none
theorem xS {p:aS} {w:bN} {n₀:Nat} {ann:Option ae}:∀ (n:Nat) (s:SharedT) (t:Thread),tZ p w n₀ ann n s t=t4 Ef p w n₀ ann n s t
 | 0,_,_=>rfl
 | n + 1,s,t=>by
  unfold tZ t4;rw[← PySem.W.Fast.te6613529449190102663,← PySem.W.Fast.te10156331382660048174,← PySem.W.Fast.te11892475500146522536,← PySem.W.Fast.te14364793385576792824];cases through t with
  | true=>rfl
  | false =>
   dsimp only;cases stepOk n₀ ann t with
   | false=>rfl
   | true =>
    dsimp only;cases stepT (denote Ef) p w s t with
    | none=>rfl
    | some r=>exact xS n r.1 r.2
def a0B:List dR->Nat->BT->BT
 | [],_,t=>t
 | o::l,n,t=>a0B l (n+1) (t.ins n o)
noncomputable def zw (P:OX):BT:=a0B (boot_heap P).objs.toList 0 .nil
noncomputable def B6 {α:Type} (p q:aS) (loose:List bc) (Xt:ai->Bool) (g0:Bool) (Yf:ai->α) (H:cj) (s:ai) :=
 ((staticsOk (Fy p.main.body) H s.heap && namesBound p s.heap && gensDone s && laidKept H s.heap),PySem.W.Fast.tw4187177175401517315 q loose (Fy p.main.body) Xt g0 s,Yf s)
theorem Jk {p q:aS} {loose:List bc} {Xt:ai->Bool} {α:Type} {Yf:ai->α} {Ya:bN->α} {N:Nat} {g0:Bool} {H₀:OX->cj} {gs₀:Array Im} {d₀:Drawn} {k₀:Nat} {m₀:Nat} {ann:Option ae} {M:Nat} {T₀:OX->BT} {n₀:Nat} {life:Life}
  (Zp:∀ w:bN,(fencedOpening Ef p w N).map (λs=>(s.heap,s.gens,s.drawn,s.toks))=some (H₀ w.params,gs₀,d₀,k₀))
  (size:∀ w:bN,((H₀ w.params).isNs bf && gs₀.size == 0,(H₀ w.params).objs.size,(H₀ w.params).nsMap bf "__annotations__")=(true,m₀,ann))
  (tree:∀ P:OX,absHeap (T₀ P) n₀ life=H₀ P)
  (run:∀ (w:bN) (os:OsState),(tZ p w m₀ ann M ⟨T₀ w.params,n₀,life,gs₀,d₀,k₀,os⟩ (topStub p)).map (λr=>B6 p q loose Xt g0 Yf (H₀ w.params) r.abs)=some (true,openGood q loose,Ya w))
  (le:Nat.ble M N=true):LeftO p q loose Xt Yf Ya N g0:=λw=>by
 obtain⟨⟨h,gs,d,k,os⟩,e,e'⟩:=dP.mp (Zp w);obtain⟨rfl,rfl,rfl,rfl⟩:h=H₀ w.params/\gs=gs₀/\d=d₀/\k=k₀:=by simpa using e'
 obtain⟨z1,z2,z3⟩:_/\_/\_:=by simpa only [RJ] using size w
 obtain⟨r,hr,hl⟩:=dP.mp (run w os);obtain⟨l1,l2,l3⟩:_/\_/\_:=by simpa only [B6,← PySem.W.Fast.te4187177175401517315,RJ] using hl
 rw[xS] at hr;have r2:=Ah hr;have ea:SharedT.abs ⟨T₀ w.params,n₀,life,gs,d,k,os⟩=⟨H₀ w.params,gs,d,k,os⟩:=by
  unfold SharedT.abs;rw[tree]
 rw[ea] at r2;have r3:=topRun_mono (N-M) _ _ _ _ r2;rw[show M+(N-M)=N by have:=Nat.le_of_ble_eq_true le;omega] at r3;have t:topFrom Ef p w N ⟨H₀ w.params,gs,d,k,os⟩=some r.abs:=by
  unfold topFrom;dsimp only;rw[z1,z2,z3,r3];show (match staticsOk (Fy p.main.body) (H₀ w.params) r.abs.heap && namesBound p r.abs.heap && gensDone r.abs && laidKept (H₀ w.params) r.abs.heap with | true=>_ | false=>_)=_;rw[l1]
 unfold openEnds;rw[e];show (topFrom Ef p w N _).map _=_;rw[t];exact congrArg some (Prod.ext l2 l3)
def BF (as:List ak) (h:cj):Frag:=as.filterMap λa=>(h.get? a).map λo=>(a,o)
def a0G (s:cK):hW:=match s with
 | .FunctionDef _ _ _ _ _ _ _ _ _ p=>p
 | _=>⟨0,0,0,0⟩
def Pd (K:Frag):ae->Option (Option (List ae))
 | .none=>some none
 | .ref T=>match K.lookup T with
  | some ⟨_,_,.seq vs _,_⟩=>some (some vs.toList)
  | _=>none
 | _=>none
abbrev Sig:=(bc × bc × ak × List (bc × ak) × Option (Option (List ae)) × ak) × (Bool × Bool) × jr × FuncBody × dv
def uG (K:Frag) (v:Option (Option ae)) (qual:bc):Option Sig:=match v with
 | some (some (.ref f))=>match K.lookup f with
  | some ⟨_,_,.func fd,_⟩=>some ((fd.name,fd.qualname,fd.globals,fd.closure,Pd K fd.defaults,fd.builtins),(codeIn K fd.code qual,isFn K (.ref f)),fd.params,fd.body,fd.scope)
  | _=>none
 | _=>none
def M8 (x qual:bc) (st:cK) (df:Option (List ae)):Sig:=((x,qual,bf,[],some df,k6),(true,true),jZ st,.stmts (fH st),aG st)
theorem GU {K:Frag} {f:ak} {oc:ae} {od:Option ak} {fd:fP} {sl:Array (Option ae)} (l:K.lookup f=some ⟨oc,od,.func fd,sl⟩):keepIn K (.ref f)=true:=by
 unfold keepIn;simp only [l]
theorem zJ {K:Frag} {v:Option (Option ae)} {x qual:bc} {st:cK} {df:Option (List ae)} (e:uG K v qual=some (M8 x qual st df)) :
  ∃ (f:ak) (oc:ae) (od:Option ak) (dV kV doc pm:ae) (an:Option ak) (di ct:ae) (sl:Array (Option ae)),v=some (some (.ref f))/\K.lookup f=some ⟨oc,od,.func (fnOf x qual (jZ st) (fH st) (aG st) dV kV doc pm an di ct),sl⟩ /\
   codeIn K di qual=true/\isFn K (.ref f)=true/\Pd K dV=some df:=by
 unfold uG at e;split at e
 ·rename_i f;split at e
  ·rename_i oc od fd sl hl;obtain⟨nm,qn,ps,bd,sc,gl,cl,dV,kV,doc,pm,an,cd,ct,bl⟩:=fd;injection e with e;injection e with e1 e2;injection e1 with a1 e1;injection e1 with a2 e1;injection e1 with a3 e1;injection e1 with a4 e1;injection e1 with a5 a6;injection e2 with e3 e4;injection e3 with b1 b2;injection e4 with c1 e4;injection e4 with c2 c3;dsimp only at a1 a2 a3 a4 a5 a6 b1 b2 c1 c2 c3;subst a1 a2 a3 a4 a6 c1 c2 c3;exact⟨f,oc,od,dV,kV,doc,pm,an,cd,ct,sl,rfl,hl,b1,b2,a5⟩
  ·cases e
 ·cases e
theorem zH {K:Frag} {v:ae} (e:Pd K v=some none):v=.none:=by
 unfold Pd at e;split at e
 ·rfl
 ·split at e <;> cases e
 ·cases e
theorem rJ {K:Frag} {v:Option (Option ae)} {x qual:bc} {st:cK} (e:uG K v qual=some (M8 x qual st none)):∃ f fd,v=some (some (.ref f))/\Gk K x qual st f fd/\isFn K (.ref f)=true:=by
 obtain⟨f,oc,od,dV,kV,doc,pm,an,di,ct,sl,hv,l,c,i,d⟩:=zJ e;obtain rfl:=zH d;exact⟨f,_,hv,Ld l c (GU l),i⟩
inductive Ky where
 | df (x:bc)
 | me (c m qual:bc)
def Ky.val (K:Frag):Ky->Option (Option ae)
 | .df x=>nsIn K bf x
 | .me c m _=>match nsIn K bf c with
  | some (some v)=>findIn K v m
  | _=>none
def Ky.qual:Ky->bc
 | .df x=>x
 | .me _ _ q=>q
def Ky.nm:Ky->bc
 | .df x=>x
 | .me _ m _=>m
def Bj (K:Frag) (c:bc × List bc):Option (Bool × Option (Option ae) × List (Option (Option ae))):=match nsIn K bf c.1 with
 | some (some (.ref C))=>some (plainGet K C Gy && hasDictIn K C && plainOver K C && makesIn K C && keepIn K (.ref C),findIn K (.ref C) "__setattr__",c.2.map λf=>findIn K (.ref C) f)
 | _=>none
def Bv (K:Frag) (x:bc):Option Int:=match nsIn K bf x with
 | some (some (.int v _))=>some v
 | _=>none
def Q2 (K:Frag) (x:bc):Option bc:=match nsIn K bf x with
 | some (some (.str v _))=>some v
 | _=>none
structure lN (β:Type) where
 ks:List (Ky × cK × Option (List ae))
 cs:List (bc × List bc):=[]
 is:List (bc × Int):=[]
 ss:List (bc × bc):=[]
 bs:List bc:=[]
 xc:Frag->Bool:=λ_=>true
 ext:Frag->β
 TN:bN->β
section
variable {β:Type} (A:lN β)
def lN.look (K:Frag):=(A.ks.map λk=>uG K (k.1.val K) k.1.qual,A.cs.map (Bj K),A.is.map λx=>Bv K x.1,A.ss.map λx=>Q2 K x.1,A.bs.map λx=>nsIn K bf x,A.xc K,A.ext K)
def lN.want (w:bN):=(A.ks.map λk=>some (M8 k.1.nm k.1.qual k.2.1 k.2.2),A.cs.map λc=>some (true,some (some (CY "object.__setattr__")),c.2.map λ_=>some (none:Option ae)),A.is.map λx=>some x.2,A.ss.map λx=>some x.2,A.bs.map λ_=>some (none:Option ae),true,A.TN w)
def lN.Ok (w:bN) (K:Frag):Prop:=A.look K=A.want w
end
theorem xw {α γ:Type} {l:List α} {f g:α->γ} (e:l.map f=l.map g) {i:Nat} {a:α} (h:l[i]?=some a):f a=g a:=by
 have z:=congrArg (λl=>l[i]?) e;simp only [aI,h,Option.map_some] at z;injection z
section
variable {β:Type} {A:lN β} {w:bN} {K:Frag} {h:cj} {mg:bc->Option ae}
theorem lN.Ok.fn (e:A.Ok w K) {i:Nat} {k:Ky} {st:cK} {df:Option (List ae)} (hi:A.ks[i]?=some (k,st,df)):uG K (k.val K) k.qual=some (M8 k.nm k.qual st df):=xw (f:=λk:Ky × cK × Option (List ae)=>uG K (k.1.val K) k.1.qual) (g:=λk=>some (M8 k.1.nm k.1.qual k.2.1 k.2.2)) (congrArg Prod.fst e) hi
theorem lN.Ok.defAt (e:A.Ok w K) (X:K.In h) (G:h.Ns bf mg) (i:Nat) {x:bc} {st:cK} {ps:List bc} (hi:A.ks[i]?=some (.df x,st,none))
  (hb:∀ (kV doc pm:ae) (an:Option ak) (di ct:ae) (us:List ae),us.length=ps.length->o5 (fnOf x x (jZ st) (fH st) (aG st) .none kV doc pm an di ct) ⟨us,[]⟩=pure (ps.zip us)):aX K mg x st ps:=by
 obtain⟨f,fd,hv,F,_⟩:=rJ (e.fn hi);exact⟨f,fd,F,mg_of X G hv,F.binds hb⟩
theorem lN.Ok.law (e:A.Ok w K) (X:K.In h) (G:h.Ns bf mg) (i:Nat) {x:bc} {st:cK} {fa:ak} (hi:A.ks[i]?=some (.df x,st,none)) (hm:mg x=some (.ref fa)) :
  ∃ kV doc pm an di ct,Gk K x x st fa (fnOf x x (jZ st) (fH st) (aG st) .none kV doc pm an di ct):=by
 obtain⟨f,oc,od,dV,kV,doc,pm,an,di,ct,sl,hv,l,c,_,d⟩:=zJ (e.fn hi);obtain rfl:=zH d;have z:=hm.symm.trans (mg_of X G hv);injection z with z;injection z with z;subst z;exact⟨kV,doc,pm,an,di,ct,Ld l c (GU l)⟩
theorem lN.Ok.cls (e:A.Ok w K) (X:K.In h) (G:h.Ns bf mg) (i:Nat) {x:bc} {fs:List bc} (hi:A.cs[i]?=some (x,fs)):∃ C,nsIn K bf x=some (some (.ref C))/\makesIn K C=true/\keepIn K (.ref C)=true/\ClsAt K mg x C fs:=by
 have z:=xw (f:=Bj K) (g:=λc=>some (true,some (some (CY "object.__setattr__")),c.2.map λ_=>some (none:Option ae))) (congrArg (λp=>p.2.1) e) hi;unfold Bj at z;split at z
 ·rename_i C hC;injection z with z;injection z with z1 z2;injection z2 with z2 z3;simp only [bR] at z1;obtain⟨⟨⟨⟨g1,g2⟩,g3⟩,g4⟩,g5⟩:=z1;refine⟨C,hC,g4,g5,⟨g1,g2,g3,z2⟩,mg_of X G hC,λf hf=>?_⟩;obtain⟨j,hj⟩:=List.mem_iff_getElem?.mp hf;exact xw (f:=λf=>findIn K (.ref C) f) (g:=λ_=>some (none:Option ae)) z3 hj
 ·cases z
theorem lN.Ok.L8 (e:A.Ok w K) (i:Nat) {c m qual:bc} {C:ak} {st:cK} {ps:List bc} (hC:nsIn K bf c=some (some (.ref C))) (hi:A.ks[i]?=some (.me c m qual,st,none))
  (hb:∀ (kV doc pm:ae) (an:Option ak) (di ct:ae) (us:List ae),us.length=ps.length->o5 (fnOf m qual (jZ st) (fH st) (aG st) .none kV doc pm an di ct) ⟨us,[]⟩=pure (ps.zip us)):oA K C m qual st ps:=by
 obtain⟨f,fd,hv,F,i⟩:=rJ (e.fn hi);have hv:(match nsIn K bf c with | some (some v)=>findIn K v m | _=>none)=some (some (.ref f)):=hv;rw[hC] at hv;exact⟨f,fd,F,⟨hv,i,F.kp⟩,F.binds hb⟩
theorem lN.Ok.ae3 (e:A.Ok w K) (i:Nat) {c qual:bc} {C:ak} {st:cK} {ps:List bc} (hC:nsIn K bf c=some (some (.ref C))) (hm:makesIn K C=true) (hk:keepIn K (.ref C)=true) (hi:A.ks[i]?=some (.me c "__init__" qual,st,none))
  (hb:∀ (kV doc pm:ae) (an:Option ak) (di ct:ae) (us:List ae),us.length=ps.length->o5 (fnOf "__init__" qual (jZ st) (fH st) (aG st) .none kV doc pm an di ct) ⟨us,[]⟩=pure (ps.zip us)):Iq K C qual st ps:=by
 obtain⟨f,fd,hv,F,i⟩:=rJ (e.fn hi);have hv:(match nsIn K bf c with | some (some v)=>findIn K v "__init__" | _=>none)=some (some (.ref f)):=hv;rw[hC] at hv;exact⟨f,fd,F,⟨hm,hv,i,hk⟩,F.binds hb⟩
theorem lN.Ok.int (e:A.Ok w K) (X:K.In h) (G:h.Ns bf mg) (i:Nat) {x:bc} {v:Int} (hi:A.is[i]?=some (x,v)):∃ t,mg x=some (.int v t):=by
 have z:=xw (f:=λx:bc × Int=>Bv K x.1) (g:=λx=>some x.2) (congrArg (λp=>p.2.2.1) e) hi;unfold Bv at z;split at z
 ·rename_i u t hC;injection z with z;dsimp only at z hC;subst z;exact⟨t,mg_of X G hC⟩
 ·cases z
theorem lN.Ok.jH (e:A.Ok w K) (X:K.In h) (G:h.Ns bf mg) (i:Nat) {x:bc} (hi:A.bs[i]?=some x):mg x=Gs :=
 mg_none_of X G (xw (f:=λx=>nsIn K bf x) (g:=λ_=>some (none:Option ae)) (congrArg (λp=>p.2.2.2.2.1) e) hi)
theorem lN.Ok.exc (e:A.Ok w K):A.xc K=true:=congrArg (λp=>p.2.2.2.2.2.1) e
theorem lN.Ok.more (e:A.Ok w K):A.ext K=A.TN w:=congrArg (λp=>p.2.2.2.2.2.2) e
end
section
variable {w:bN} {K:Frag} {h:cj} {mg:bc->Option ae} {x:bc}
end
end L2
namespace L2
open PySem PySem.Spec PyProof.Rows
section
variable {X:Cx} {pos:hW}
end
section
variable {X:Cx} {pins:List (ak × dR)} {σ:St} {H:Hp} {s:ai}
end
section
variable {X:Cx}
end
end L2
namespace L2
open PySem
abbrev Wy:=Int × Int
abbrev Lf:=List (List Wy)
def gf (W:Lf) (x:Int):List Wy:=(W[x.toNat]?).getD []
def Wk (W:Lf):Int->List Wy->Int->Prop
 | x,[],y=>x=y
 | x,w::s,y=>w∈gf W x/\Wk W w.1 s y
def sm (s:List Wy):Int:=(s.map (·.2)).sum
theorem jn:sm []=0:=rfl
theorem ij (w:Wy) (s:List Wy):sm (w::s)=w.2+sm s:=by simp[sm]
theorem nK (a b:List Wy):sm (a++b)=sm a+sm b:=by
 induction a with
 | nil=>rw[fO,jn,wM]
 | cons w a ih=>rw[lP,ij,ij,ih,Int.add_assoc]
theorem Wk.app {W:Lf}:∀ {x y z:Int} {a b:List Wy},Wk W x a y->Wk W y b z->Wk W x (a++b) z
 | _,_,_,[],_,h1,h2=>by cases h1;exact h2
 | _,_,_,_::_,_,h1,h2=>⟨h1.1,Wk.app h1.2 h2⟩
theorem Wk.split {W:Lf}:∀ {x z:Int} {a b:List Wy},Wk W x (a++b) z->∃ y,Wk W x a y/\Wk W y b z
 | x,_,[],_,h=>⟨x,rfl,h⟩
 | _,_,w::a,b,h=>by
  obtain⟨y,h1,h2⟩:=Wk.split (a:=a) (b:=b) h.2;exact⟨y,⟨h.1,h1⟩,h2⟩
theorem Wk.last {W:Lf} {x y:Int} {a:List Wy} {w:Wy} (h:Wk W x (a++[w]) y):y=w.1:=by
 obtain⟨z,_,h2⟩:=h.split;exact h2.2.symm
def J3 (g:Int) (s:List Wy):Prop:=∀ i,i<=s.length->0<=g+sm (s.take i)
theorem ml {α:Type} (f:α->Int):∀ {l:List α},¬ (l.map f).Nodup->∃ a u b v c,l=a++u::(b++v::c)/\f u=f v
 | [],h=>absurd nO h
 | u :: l,h=>by
  by_cases e:f u∈l.map f
  ·obtain⟨v,hv,ev⟩:=aM.mp e;obtain⟨b,c,rfl⟩:=nN hv;exact⟨[],u,b,v,c,rfl,ev.symm⟩
  ·have:¬ (l.map f).Nodup:=λz=>h (by rw[cG];exact dt.mpr ⟨e,z⟩);obtain⟨a,u',b,v,c,rfl,ev⟩:=ml f this;exact⟨u::a,u',b,v,c,rfl,ev⟩
theorem BK {W:Lf}:∀ (n:Nat) {x:Int} {s:List Wy},s.length<=n->s≠[]->Wk W x s x->0<=sm s->∃ y r,r≠[]/\Wk W y r y/\0<=sm r/\(r.map (·.1)).Nodup/\∀ w∈r,w∈s
 | 0,_,s,hl,hn,_,_=>absurd (de (by omega)) hn
 | n + 1,x,s,hl,hn,hw,hs=>by
  by_cases nd:(s.map (·.1)).Nodup
  ·exact⟨x,s,hn,hw,hs,nd,λ_ h=>h⟩
  obtain⟨a,u,b,v,c,rfl,e⟩:=ml (λw:Wy=>w.1) nd;have e:u.1=v.1:=e;have hlen:a.length+b.length+c.length+2<=n+1:=by simp at hl;omega
  have e1:a++u::(b++v::c)=(a++[u])++((b++[v])++c):=by simp
  rw[e1] at hw hs;obtain⟨y,w1,w2⟩:=hw.split;obtain⟨z,w3,w4⟩:=w2.split;have ey:=w1.last;have ez:=w3.last;have YM:y=z:=by omega
  subst YM;have hs:0<=sm (a++[u])+(sm (b++[v])+sm c):=by rw[← nK,← nK];exact hs
  by_cases c1:0<=sm (b++[v])
  ·obtain⟨y',r,r1,r2,r3,r4,r5⟩:=BK n (by simp;omega) (by simp) w3 c1;refine⟨y',r,r1,r2,r3,r4,λw hw=>?_⟩;have:=r5 w hw;simp at this ⊢;rcases this with h | h <;> simp[h]
  ·obtain⟨y',r,r1,r2,r3,r4,r5⟩:=BK n (s:=(a++[u])++c) (by simp;omega) (by simp) (w1.app w4) (by rw[nK];omega);refine⟨y',r,r1,r2,r3,r4,λw hw=>?_⟩;have:=r5 w hw;simp at this ⊢;rcases this with h | h | h <;> simp[h]
theorem Dz (f:Nat->Int):∀ n,∃ k,k<=n/\∀ i,i<=n->f k<=f i
 | 0=>⟨0,az _,λi hi=>by have:i=0:=(by omega);rw[this];exact dz _⟩
 | n + 1=>by
  obtain⟨k,h1,h2⟩:=Dz f n
  by_cases c:f k<=f (n+1)
  ·exact⟨k,by omega,λi hi=>by
    rcases cN i (n+1) with h | h
    ·exact h2 i (by omega)
    ·have:i=n+1:=(by omega)
     rw[this];exact c⟩
  ·refine⟨n+1,az _,λi hi=>?_⟩;rcases cN i (n+1) with h | h
   ·have:=h2 i (by omega);omega
   ·have:i=n+1:=(by omega)
    rw[this];exact dz _
theorem JO {W:Lf} {x:Int} {s:List Wy} (hn:s≠[]) (hw:Wk W x s x) (hs:0<=sm s):∃ z a b,s=a++b/\b++a≠[]/\Wk W z (b++a) z/\J3 0 (b++a):=by
 obtain⟨k,h1,h2⟩:=Dz (λi=>sm (s.take i)) s.length;have EA:s=s.take k++s.drop k:=(fb k s).symm;have pG:=hw;rw[EA] at pG;obtain⟨z,w1,w2⟩:=pG.split;refine⟨z,s.take k,s.drop k,EA,λe=>hn (by rw[EA,(Gn.mp e).1,(Gn.mp e).2];rfl),w2.app w1,λi hi=>?_⟩;have tot:sm (s.take k)+sm (s.drop k)=sm s:=by rw[← nK,fb]
 rw[List.take_append];rw[nK];rcases cN i (s.drop k).length with h | h
 ·have e0:i-(s.drop k).length=0:=by omega
  rw[e0,fD,jn];have e1:sm (s.take (k+i))=sm (s.take k)+sm ((s.drop k).take i):=by rw[← nK,← List.take_add]
  have:=h2 (k+i) (by rw[RG] at h;omega);have this:sm (s.take k)<=sm (s.take (k+i)):=this;omega
 ·rw[qo h,List.take_take];have h3:=h2 (min (i-(s.drop k).length) k) (by omega);have h3:sm (s.take k)<=sm (s.take (min (i-(s.drop k).length) k)):=h3;omega
abbrev Tb:=Int->Option Int
def fv:Option Int->Option Int->Prop
 | _,none=>True
 | none,some _=>False
 | some a,some b=>a<=b
theorem fv.refl:∀ a,fv a a
 | none=>trivial
 | some a=>dz a
theorem fv.trans:∀ {a b c:Option Int},fv a b->fv b c->fv a c
 | _,_,none,_,_=>by unfold fv;trivial
 | _,none,some _,_,h=>h.elim
 | none,some _,some _,h,_=>h.elim
 | some _,some _,some _,h1,h2=>qD (a:=_) h1 h2
theorem fv.total:∀ a b:Option Int,fv a b\/fv b a
 | _,none=>.inl (by unfold fv;trivial)
 | none,some _=>.inr trivial
 | some a,some b=>Int.le_total a b
theorem fv.O3:∀ {a b:Option Int},fv a b->fv b a->a=b
 | none,none,_,_=>rfl
 | none,some _,h,_=>h.elim
 | some _,none,_,h=>h.elim
 | some a,some b,h1,h2=>by have h1:a<=b:=h1;have h2:b<=a:=h2;rw[show a=b by omega]
def a0a (T:Tb) (w:Wy):Option Int:=(T w.1).map λv=>max (v-w.2) 0
theorem uO {T T':Tb} {w:Wy} (h:fv (T w.1) (T' w.1)):fv (a0a T w) (a0a T' w):=by
 unfold a0a;cases e':T' w.1 with
 | none=>exact (by unfold fv;trivial)
 | some b =>
  cases e:T w.1 with
  | none=>rw[e,e'] at h;exact h.elim
  | some a =>
   rw[e,e'] at h;have h:a<=b:=h;show max (a-w.2) 0<=max (b-w.2) 0;omega
def cst:List Wy->Int
 | []=>0
 | w::s=>max (cst s-w.2) 0
theorem GF:∀ s,0<=cst s
 | []=>dz _
 | w::s=>by show 0<=max (cst s-w.2) 0;omega
theorem pD {x y:List Wy} (h:cst x<=cst y):∀ a:List Wy,cst (a++x)<=cst (a++y)
 | []=>h
 | w::a=>by
  have:=pD h a;show max (cst (a++x)-w.2) 0<=max (cst (a++y)-w.2) 0;omega
theorem K1 (c:List Wy):∀ b:List Wy,cst c-sm b<=cst (b++c)
 | []=>by rw[jn,fO];omega
 | w::b=>by
  have:=K1 c b;rw[ij];show _<=max (cst (b++c)-w.2) 0;omega
def CK (W:Lf) (n:Nat):Prop:=∀ x,∀ w∈gf W x,0<=w.1/\w.1<(n:Int)
theorem Wk.inside {W:Lf} {n:Nat} (h:CK W n):∀ {x y:Int} {s:List Wy},Wk W x s y->∀ w∈s,0<=w.1/\w.1<(n:Int)
 | _,_,[],_,_,hw=>by cases hw
 | _,_,u::s,hk,w,hw=>by
  rcases aB.mp hw with e | e
  ·rw[e];exact h _ _ hk.1
  ·exact Wk.inside h hk.2 w e
theorem k9 {n:Nat} {l:List Int} (h:l.Nodup) (hb:∀ x∈l,0<=x/\x<(n:Int)):l.length<=n:=by
 have:=gX l ((br n).map λi=>((i:Nat):Int)) h λx hx=>aM.mpr ⟨x.toNat,d8.mpr (by have:=hb x hx;omega),by have:=hb x hx;omega⟩;simpa using this
theorem oQ {W:Lf} {n:Nat} {Z:Int->Prop} (lG:CK W n) (hZ:∀ x s,s≠[]->Wk W x s x->0<=sm s->∃ w∈s,Z w.1):∀ (m:Nat) {x z:Int} {s:List Wy},s.length<=m->0<=x->x<(n:Int)->Wk W x s z->Z z->∃ s' z',Wk W x s' z'/\Z z'/\cst s'<=cst s/\s'.length<n
 | 0,x,z,s,hl,x0,x1,hw,hz=>⟨s,z,hw,hz,dz _,by omega⟩
 | m + 1,x,z,s,hl,x0,x1,hw,hz=>by
  rcases cN s.length n with hs | hs
  ·exact⟨s,z,hw,hz,dz _,hs⟩
  have nd:¬ (((x,(0:Int))::s).map (λw:Wy=>w.1)).Nodup:=λh=>by
   have:=k9 h λy hy=>by
    obtain⟨w,h1,h2⟩:=aM.mp hy;rcases aB.mp h1 with e | e
    ·rw[← h2,e];exact⟨x0,x1⟩
    ·rw[← h2];exact hw.inside lG w e
   simp at this;omega
  obtain⟨a0,u,b,v,c,e,ev⟩:=ml (λw:Wy=>w.1) nd;have ev:u.1=v.1:=ev;obtain⟨a,hsa,ui⟩:∃ a,s=a++((b++[v])++c)/\∀ y,Wk W x a y->y=u.1:=by
   cases a0 with
   | nil =>
    simp only [fO,oX] at e;refine⟨[],by rw[e.2];simp,λy hy=>?_⟩;have hy:x=y:=hy;rw[← hy,← e.1]
   | cons t a1 =>
    simp only [lP,oX] at e;refine⟨a1++[u],by rw[e.2];simp,λy hy=>hy.last⟩
  subst hsa;obtain⟨y,w1,w2⟩:=hw.split;obtain⟨y2,w3,w4⟩:=w2.split;have e1:=ui y w1;have e2:=w3.last;have e3:y=y2:=by omega
  subst e3;have hlen:a.length+b.length+1+c.length<=m+1:=by simp at hl;omega
  by_cases cs:0<=sm (b++[v])
  ·obtain⟨w,UR,hwz⟩:=hZ y _ (by simp) w3 cs
   by_cases cy:Z y
   ·obtain⟨s',z',h1,h2,h3,h4⟩:=oQ lG hZ m (s:=a) (by omega) x0 x1 w1 cy;refine⟨s',z',h1,h2,qD h3 ?_,h4⟩;have:=pD (x:=[]) (y:=(b++[v])++c) (GF _) a;rwa [d9] at this
   ·obtain⟨b1,b2,eb⟩:=nN UR;have Pm:b2≠[]:=λz0=>by
     rw[z0] at eb;rw[eb] at w3;exact cy (by rw[w3.last];exact hwz)
    have eb':b++[v]=(b1++[w])++b2:=by rw[eb];simp
    have w3':=w3;rw[eb'] at w3';obtain⟨t,t1,t2⟩:=w3'.split;have et:=t1.last;have o6:b1.length+1+b2.length=b.length+1:=by have:=congrArg l9 eb';simp at this;omega
    have ajC:0<b2.length:=bT.mpr Pm;obtain⟨s',z',h1,h2,h3,h4⟩:=oQ lG hZ m (s:=a++(b1++[w])) (by simp;omega) x0 x1 (w1.app t1) (by rw[et];exact hwz);refine⟨s',z',h1,h2,qD h3 ?_,h4⟩;refine pD ?_ a;rw[eb',kS];have:=pD (x:=[]) (y:=b2++c) (GF _) (b1++[w]);rwa [d9] at this
  ·obtain⟨s',z',h1,h2,h3,h4⟩:=oQ lG hZ m (s:=a++c) (by simp;omega) x0 x1 (w1.app w4) hz;refine⟨s',z',h1,h2,qD h3 (pD ?_ a),h4⟩;have:=K1 c (b++[v]);omega
structure Wp (W:Lf) (p:Int) (T T':Tb):Prop where
 other:∀ q,q≠p->T' q=T q
 le:fv (T' p) (T p)
 by_:∀ w∈gf W p,fv (T' p) (a0a T w)
 Xp:T' p=T p\/∃ w∈gf W p,T' p=a0a T w
theorem Wp.down {W:Lf} {p:Int} {T T':Tb} (h:Wp W p T T') (q:Int):fv (T' q) (T q):=by
 by_cases e:q=p
 ·rw[e];exact h.le
 ·rw[h.other q e];exact fv.refl _
structure Tk (W:Lf) (Z:Int->Prop) (T:Tb):Prop where
 pos:∀ x v,T x=some v->0<=v
 zero:∀ x,Z x->T x=some 0
 real:∀ x v,T x=some v->∃ s z,Wk W x s z/\Z z/\cst s<=v
 way:∀ x v,T x=some v->Z x\/∃ w∈gf W x,fv (a0a T w) (some v)
theorem tD {T:Tb} {w:Wy} {v:Int} (h:a0a T w=some v):0<=v/\∃ u,T w.1=some u/\u-w.2<=v:=by
 unfold a0a at h;cases e:T w.1 with
 | none=>rw[e] at h;cases h
 | some u =>
  rw[e] at h;have h:max (u-w.2) 0=v:=ck h;exact⟨by omega,u,rfl,by omega⟩
theorem Tk.WP {W:Lf} {Z:Int->Prop} {p:Int} {T T':Tb} (k:Tk W Z T) (h:Wp W p T T'):Tk W Z T':=by
 have key:∀ x v,T' x=some v->T x=some v\/x=p/\∃ w∈gf W p,a0a T w=some v:=λx v hv=>by
  by_cases e:x=p
  ·subst e;rcases h.Xp with f | ⟨w,hw,f⟩
   ·exact .inl (by rw[← f];exact hv)
   ·exact .inr ⟨rfl,w,hw,by rw[← f];exact hv⟩
  ·exact .inl (by rw[← h.other x e];exact hv)
 refine⟨λx v hv=>?_,λx hx=>?_,λx v hv=>?_,λx v hv=>?_⟩
 ·rcases key x v hv with f | ⟨_,w,_,f⟩
  ·exact k.pos x v f
  ·exact (tD f).1
 ·have h1:=k.zero x hx;have h2:=h.down x;rw[h1] at h2;cases e:T' x with
  | none=>rw[e] at h2;exact h2.elim
  | some v =>
   rw[e] at h2;have h2:v<=0:=h2;have:0<=v:=by
    rcases key x v e with f | ⟨_,w,_,f⟩
    ·exact k.pos x v f
    ·exact (tD f).1
   rw[show v=0 by omega]
 ·rcases key x v hv with f | ⟨rfl,w,hw,f⟩
  ·exact k.real x v f
  ·obtain⟨v0,u,hu,hle⟩:=tD f;obtain⟨s,z,h1,h2,h3⟩:=k.real _ u hu;refine⟨w::s,z,⟨hw,h1⟩,h2,?_⟩;show max (cst s-w.2) 0<=v;omega
 ·rcases key x v hv with f | ⟨rfl,w,hw,f⟩
  ·rcases k.way x v f with g | ⟨w,hw,g⟩
   ·exact .inl g
   ·exact .inr ⟨w,hw,(uO (h.down _)).trans g⟩
  ·exact .inr ⟨w,hw,(uO (h.down _)).trans (by rw[f];exact fv.refl _)⟩
def Og (W:Lf) (Z:Int->Prop) (n k:Nat) (T:Tb):Prop:=∀ x s z,0<=x->x<(n:Int)->Wk W x s z->Z z->s.length<=k->fv (T x) (some (cst s))
def Tg (W:Lf) (Z:Int->Prop) (n k:Nat) (i:Nat) (T:Tb):Prop:=Og W Z n k T/\∀ x s z,0<=x->x<(i:Int)->Wk W x s z->Z z->s.length<=k+1->fv (T x) (some (cst s))
theorem Og.start {W:Lf} {Z:Int->Prop} {n:Nat} {T:Tb} (h:∀ x,Z x->T x=some 0):Og W Z n 0 T:=λx s z _ _ hw hz hl=>by
 have e:=de (Nat.le_zero.mp hl);subst e;cases hw;rw[h x hz];exact fv.refl _
theorem Og.mid {W:Lf} {Z:Int->Prop} {n k:Nat} {T:Tb} (h:Og W Z n k T):Tg W Z n k 0 T:=⟨h,λx s z h0 h1=>absurd h1 (by omega)⟩
theorem Tg.WP {W:Lf} {Z:Int->Prop} {n k i:Nat} {T T':Tb} (lG:CK W n) (k0:Tk W Z T') (h:Tg W Z n k i T) (s:Wp W (i:Int) T T'):Tg W Z n k (i+1) T':=by
 refine⟨λx t z x0 x1 hw hz hl=>(s.down x).trans (h.1 x t z x0 x1 hw hz hl),λx t z h0 h1 hw hz hl=>?_⟩
 by_cases e:x=(i:Int)
 ·subst e;cases t with
  | nil =>
   cases hw;rw[k0.zero _ hz];exact fv.refl _
  | cons w t =>
   refine (s.by_ w hw.1).trans ?_;have hi:=lG _ w hw.1;have:=h.1 w.1 t z hi.1 hi.2 hw.2 hz (by simp at hl;omega);unfold a0a;cases e:T w.1 with
   | none=>rw[e] at this;exact this.elim
   | some u =>
    rw[e] at this;have this:u<=cst t:=this;show max (u-w.2) 0<=max (cst t-w.2) 0;omega
 ·exact (s.down x).trans (h.2 x t z h0 (by omega) hw hz hl)
theorem Tg.done {W:Lf} {Z:Int->Prop} {n k:Nat} {T:Tb} (h:Tg W Z n k n T):Og W Z n (k+1) T:=λx s z x0 x1 hw hz hl=>h.2 x s z x0 x1 hw hz hl
structure sv (W:Lf) (n:Nat) (T:Tb):Prop where
 pos:∀ x v,T x=some v->0<=v
 low:∀ x,0<=x->x<(n:Int)->∀ w∈gf W x,fv (T x) (a0a T w)
 way:∀ x v,0<=x->x<(n:Int)->T x=some v->∃ w∈gf W x,fv (a0a T w) (some v)
 ring:∀ x s,s≠[]->Wk W x s x->0<=sm s->∃ w∈s,T w.1=some 0
theorem uN {W:Lf} {n:Nat} {T:Tb} (lG:CK W n) (yG:∀ x v,T x=some v->0<=v) (X9:∀ x,0<=x->x<(n:Int)->∀ w∈gf W x,fv (T x) (a0a T w)) {z:Int} (hz:T z=some 0):∀ {x:Int} {s:List Wy} {g:Int},0<=x->x<(n:Int)->Wk W x s z->J3 g s->fv (T x) (some g)
 | x,[],g,x0,x1,hw,ho=>by
  cases hw;rw[hz];have:=ho 0 (bv _);rw[fD,jn] at this;show (0:Int)<=g;omega
 | x,w::s,g,x0,x1,hw,ho=>by
  have hi:=lG x w hw.1;have xo:J3 (g+w.2) s:=λi hi=>by
   have:=ho (i+1) (by simp;omega);rw[ue,ij] at this;omega
  have ih:=uN lG yG X9 hz hi.1 hi.2 hw.2 xo;refine (X9 x x0 x1 w hw.1).trans ?_;have g0:0<=g:=by have:=ho 0 (bv _);rw[fD,jn] at this;omega
  unfold a0a;cases e:T w.1 with
  | none=>rw[e] at ih;exact ih.elim
  | some u =>
   rw[e] at ih;have ih:u<=g+w.2:=ih;show max (u-w.2) 0<=g;omega
theorem Vd {W:Lf} {n:Nat} {Z:Int->Prop} {T:Tb} (lG:CK W n) (hZ:∀ x s,s≠[]->Wk W x s x->0<=sm s->∃ w∈s,Z w.1) (hB:∀ z,Z z->0<=z/\z<(n:Int)/\∃ s,s≠[]/\Wk W z s z/\J3 0 s) (k:Tk W Z T) (r:Og W Z n n T):sv W n T:=by
 have low:∀ x,0<=x->x<(n:Int)->∀ w∈gf W x,fv (T x) (a0a T w):=λx x0 x1 w hw=>by
  cases e:a0a T w with
  | none=>exact (by unfold fv;trivial)
  | some v =>
   obtain⟨v0,u,hu,hle⟩:=tD e;obtain⟨s,z,h1,h2,h3⟩:=k.real _ u hu;obtain⟨s',z',g1,g2,g3,g4⟩:=oQ lG hZ (s.length+1) (s:=w::s) (by simp) x0 x1 ⟨hw,h1⟩ h2;have:=r x s' z' x0 x1 g1 g2 (by omega);refine this.trans ?_;show cst s'<=v;have:cst (w::s)=max (cst s-w.2) 0:=rfl;omega
 refine⟨k.pos,low,λx v x0 x1 hv=>?_,λx s hs hw hm=>?_⟩
 ·rcases k.way x v hv with hz | h
  ·obtain⟨_,_,s,hs,hw,ho⟩:=hB x hz;have hv0:=k.zero x hz;rw[hv] at hv0;cases hv0;cases s with
   | nil=>exact absurd rfl hs
   | cons w s =>
    have hi:=lG x w hw.1;have xo:J3 (0+w.2) s:=λi hi=>by
     have:=ho (i+1) (by simp;omega);rw[ue,ij] at this;omega
    have:=uN lG k.pos low (k.zero x hz) hi.1 hi.2 hw.2 xo;refine⟨w,hw.1,?_⟩;unfold a0a;cases e:T w.1 with
    | none=>rw[e] at this;exact this.elim
    | some u =>
     rw[e] at this;have this:u<=0+w.2:=this;show max (u-w.2) 0<=0;omega
  ·exact h
 ·obtain⟨w,hw,hz⟩:=hZ x s hs hw hm;exact⟨w,hw,k.zero _ hz⟩
theorem J3.snoc {g:Int} {s:List Wy} {w:Wy} (h:J3 g s) (hw:0<=g+(sm s+w.2)):J3 g (s++[w]):=λi hi=>by
 rcases cN s.length i with c | c
 ·rw[qo (by simp;omega),nK,ij,jn];omega
 ·rw[md c];exact h i c
def GoodG (W:Lf) (z:Int) (G:Tb):Prop:=∀ p g,G p=some g->∃ s,Wk W z s p/\J3 0 s/\sm s=g
theorem NQ {W:Lf} {p:Int} {w:Wy} (h:w∈gf W p):Wk W p [w] w.1:=⟨h,rfl⟩
theorem GoodG.step {W:Lf} {z p g:Int} {w:Wy} {G:Tb} (h:GoodG W z G) (hg:G p=some g) (hw:w∈gf W p) (h0:0<=g+w.2):GoodG W z (λq=>if q=w.1 then some (g+w.2) else G q):=λq g' e=>by
 have e:(if q=w.1 then some (g+w.2) else G q)=some g':=e
 by_cases c:q=w.1
 ·rw[if_pos c] at e;cases e;obtain⟨s,h1,h2,h3⟩:=h p g hg;exact⟨s++[w],by rw[c];exact h1.app (NQ hw),h2.snoc (by omega),by rw[nK,ij,jn];omega⟩
 ·rw[if_neg c] at e;exact h q g' e
theorem GoodG.start {W:Lf} {z:Int} {G:Tb} (h:∀ p g,G p=some g->p=z/\g=0):GoodG W z G:=λp g e=>by
 obtain⟨rfl,rfl⟩:=h p g e;exact⟨[],rfl,λi hi=>by rw[List.take_nil,jn];decide,rfl⟩
def Rg (W:Lf) (z:Int) (r:List Wy):Prop:=r≠[]/\Wk W z r z/\J3 0 r
theorem GoodG.back {W:Lf} {z p g:Int} {w:Wy} {G:Tb} (h:GoodG W z G) (hg:G p=some g) (hw:w∈gf W p) (ez:w.1=z) (h0:0<=g+w.2):∃ r,Rg W z r:=by
 obtain⟨s,h1,h2,h3⟩:=h p g hg;have:=h1.app (NQ hw);rw[ez] at this;exact⟨s++[w],by simp,this,h2.snoc (by omega)⟩
def TU (a:Option Int) (v:Int):Prop:=∃ g,a=some g/\v<=g
def Ix (G G':Tb):Prop:=∀ p v,TU (G p) v->TU (G' p) v
theorem Ix.refl (G:Tb):Ix G G:=λ_ _ h=>h
theorem Ix.trans {A B C:Tb} (h1:Ix A B) (h2:Ix B C):Ix A C:=λp v h=>h2 p v (h1 p v h)
theorem Ix.put {G:Tb} {q v:Int} (h:∀ g,G q=some g->g<=v):Ix G (λp=>if p=q then some v else G p):=λp u hu=>by
 by_cases c:p=q
 ·obtain⟨g,e,hg⟩:=hu;rw[c] at e;have:=h g e;exact⟨v,if_pos c,by omega⟩
 ·obtain⟨g,e,hg⟩:=hu;exact⟨g,(if_neg c).trans e,hg⟩
def Hi (z:Int) (r:List Wy) (j:Nat):Int:=if j=0 then z else ((r[j-1]?).map (·.1)).getD z
theorem tG {z:Int} {r:List Wy} {j:Nat} {w:Wy} (h:r[j]?=some w):Hi z r (j+1)=w.1:=by
 unfold Hi;rw[if_neg (by omega),Nat.add_sub_cancel,h];rfl
theorem SJ {W:Lf}:∀ {z y:Int} {r:List Wy} {j:Nat} {w:Wy},Wk W z r y->r[j]?=some w->w∈gf W (Hi z r j)
 | _,_,[],_,_,_,h=>by cases h
 | z,y,u::r,0,w,hk,h=>by cases h;exact hk.1
 | z,y,u::r,j+1,w,hk,h=>by
  have h:r[j]?=some w:=h;have ih:=SJ hk.2 h;have e:Hi z (u::r) (j+1)=Hi u.1 r j:=by
   cases j with
   | zero=>rw[tG (w:=u) rfl];rfl
   | succ j =>
    obtain⟨w',pG⟩:∃ w',r[j]?=some w':=⟨r[j]'(by have:=(af.mp h).1;omega),by simp⟩
    rw[tG (w:=w') (by simpa using pG),tG pG]
  rw[e];exact ih
theorem HV {r:List Wy} {j:Nat} {w:Wy} (h:r[j]?=some w):sm (r.take (j+1))=sm (r.take j)+w.2:=by
 rw[bw,h,nK];show _+sm [w]=_;rw[ij,jn];omega
def Kx (W:Lf) (z:Int) (t:Nat) (G:Tb):Prop:=∀ r,Rg W z r->t<r.length/\∀ j,j<=t->TU (G (Hi z r j)) (sm (r.take j))
def ut (W:Lf) (z:Int) (t i:Nat) (G:Tb):Prop:=Kx W z t G/\∀ r,Rg W z r->0<=Hi z r t->Hi z r t<(i:Int)->t+1<r.length/\TU (G (Hi z r (t+1))) (sm (r.take (t+1)))
theorem Kx.start {W:Lf} {z:Int} {G:Tb} (h:G z=some 0):Kx W z 0 G:=λr hr=>⟨bT.mpr hr.1,λj hj=>by
 have:j=0:=by omega
 subst this;exact⟨0,h,by rw[fD,jn];decide⟩⟩
theorem Kx.mid {W:Lf} {z:Int} {t:Nat} {G:Tb} (h:Kx W z t G):ut W z t 0 G:=⟨h,λr _ h0 h1=>absurd h1 (by omega)⟩
theorem ut.up {W:Lf} {z:Int} {t i:Nat} {G G':Tb} (h:ut W z t i G) (u:Ix G G'):ut W z t i G':=⟨λr hr=>⟨(h.1 r hr).1,λj hj=>u _ _ ((h.1 r hr).2 j hj)⟩,λr hr h0 h1=>⟨(h.2 r hr h0 h1).1,u _ _ (h.2 r hr h0 h1).2⟩⟩
theorem ut.skip {W:Lf} {z:Int} {t i:Nat} {G:Tb} (h:ut W z t i G) (hn:G (i:Int)=none):ut W z t (i+1) G:=⟨h.1,λr hr h0 h1=>by
 by_cases e:Hi z r t=(i:Int)
 ·obtain⟨g,e1,_⟩:=(h.1 r hr).2 t (az _);rw[e,hn] at e1;cases e1
 ·exact h.2 r hr h0 (by omega)⟩
theorem ut.WP {W:Lf} {z:Int} {t i:Nat} {G G':Tb} (h:ut W z t i G) (u:Ix G G') (hw:∀ w∈gf W (i:Int),∀ g,G (i:Int)=some g->0<=g+w.2->TU (G' w.1) (g+w.2)) (hb:∀ w∈gf W (i:Int),w.1=z->∀ g,G' (i:Int)=some g->¬ 0<=g+w.2):ut W z t (i+1) G':=by
 have hu:=h.up u;refine⟨hu.1,λr hr h0 h1=>?_⟩
 by_cases e:Hi z r t=(i:Int)
 ·obtain⟨ht,hj⟩:=h.1 r hr;obtain⟨w,YI⟩:∃ w,r[t]?=some w:=⟨r[t],by simp⟩
  have hwo:=SJ hr.2.1 YI;rw[e] at hwo;obtain⟨g,e1,hg⟩:=hj t (az _);rw[e] at e1;have ok:=hr.2.2 (t+1) (by omega);rw[HV YI] at ok;have iz:t+1<r.length:=by
   refine Nat.lt_of_not_le λc=>?_;have el:r.length=t+1:=by omega
   obtain⟨g',e2,XR⟩:=u (i:Int) g ⟨g,e1,dz _⟩;have esp:r=r.take t++[w]:=by
    have:=(fb t r).symm;rw[gJ (by omega),List.drop_of_length_le (by omega)] at this;have mW:r[t]'(by omega)=w:=by have:=af.mp YI;exact this.2
    rw[mW] at this;exact this
   have hk:=hr.2.1;rw[esp] at hk;have ez:=hk.last;exact hb w hwo ez.symm g' e2 (by omega)
  refine⟨iz,?_⟩;rw[tG YI,HV YI];obtain⟨g',e2,XR⟩:=hw w hwo g e1 (by omega);exact⟨g',e2,by omega⟩
 ·exact hu.2 r hr h0 (by omega)
theorem ut.done {W:Lf} {z:Int} {n t:Nat} {G:Tb} (lG:CK W n) (hz:0<=z/\z<(n:Int)) (h:ut W z t n G):Kx W z (t+1) G:=λr hr=>by
 have hp:0<=Hi z r t/\Hi z r t<(n:Int):=by
  unfold Hi
  by_cases c:t=0
  ·rw[if_pos c];exact hz
  ·rw[if_neg c];cases e:r[t-1]? with
   | none=>exact hz
   | some w=>exact hr.2.1.inside lG w (aq e)
 obtain⟨h1,h2⟩:=h.2 r hr hp.1 hp.2;exact⟨h1,λj hj=>by
  rcases cN j (t+1) with c | c
  ·exact (h.1 r hr).2 j (by omega)
  ·have:j=t+1:=by omega
   rw[this];exact h2⟩
theorem Kx.none {W:Lf} {z:Int} {n:Nat} {G:Tb} (h:Kx W z n G) {r:List Wy} (hr:Rg W z r) (hl:r.length<=n):False:=by have:=(h r hr).1;omega
theorem FG {W:Lf} {n:Nat} {Z:Int->Prop} (lG:CK W n) (hc:∀ z,0<=z->z<(n:Int)->(∃ r,Rg W z r/\r.length<=n)->Z z):∀ x s,s≠[]->Wk W x s x->0<=sm s->∃ w∈s,Z w.1:=λx s hs hw hm=>by
 obtain⟨y,r,r1,r2,r3,r4,r5⟩:=BK s.length (az _) hs hw hm;obtain⟨z,a,b,e,ne,w2,ok⟩:=JO r1 r2 r3;have hlen:(b++a).length<=n:=by
  have h1:(r.map (·.1)).length<=n:=k9 r4 λp hp=>by
   obtain⟨w,h1,h2⟩:=aM.mp hp;rw[← h2];exact r2.inside lG w h1
  rw[ag,e] at h1;simp at h1 ⊢;omega
 obtain⟨i,l,el⟩:∃ i l,b++a=i++[l]:=⟨(b++a).dropLast,(b++a).getLast ne,(zn ne).symm⟩
 have ez:z=l.1:=by
  have:=w2;rw[el] at this;exact this.last
 have hlm:l∈b++a:=by rw[el];simp
 have xm:=w2.inside lG l hlm;refine⟨l,r5 l (by rw[e];simp at hlm ⊢;exact hlm.symm),?_⟩;rw[← ez];exact hc z (by rw[ez];exact xm.1) (by rw[ez];exact xm.2) ⟨b++a,⟨ne,w2,ok⟩,hlen⟩
def jG (R:Int->Wy->Prop):Int->List Wy->Int->Prop
 | x,[],y=>x=y
 | x,w::s,y=>R x w/\jG R w.1 s y
section
variable {R:Int->Wy->Prop}
theorem jG.split:∀ {x z:Int} {a b:List Wy},jG R x (a++b) z->∃ y,jG R x a y/\jG R y b z
 | x,_,[],_,h=>⟨x,rfl,h⟩
 | _,_,w::a,b,h=>by
  obtain⟨y,h1,h2⟩:=jG.split (a:=a) (b:=b) h.2;exact⟨y,⟨h.1,h1⟩,h2⟩
theorem jG.last {x y:Int} {a:List Wy} {w:Wy} (h:jG R x (a++[w]) y):y=w.1:=by
 obtain⟨z,_,h2⟩:=h.split;exact h2.2.symm
theorem jG.wk {W:Lf} (hR:∀ x w,R x w->w∈gf W x):∀ {x y:Int} {s:List Wy},jG R x s y->Wk W x s y
 | _,_,[],h=>h
 | _,_,_::_,h=>⟨hR _ _ h.1,jG.wk hR h.2⟩
theorem jG.inside {n:Nat} (hR:∀ x w,R x w->0<=w.1/\w.1<(n:Int)):∀ {x y:Int} {s:List Wy},jG R x s y->∀ w∈s,0<=w.1/\w.1<(n:Int)
 | _,_,[],_,_,hw=>by cases hw
 | _,_,u::s,h,w,hw=>by
  rcases aB.mp hw with e | e
  ·rw[e];exact hR _ _ h.1
  ·exact jG.inside hR h.2 w e
theorem wm {n:Nat} {B:Int->Prop} (hB:∀ x,B x->0<=x/\x<(n:Int)) (go:∀ x,B x->∃ w,R x w/\B w.1) (hR:∀ x w,R x w->B w.1) {x:Int} (hx:B x):∃ y s,s≠[]/\jG R y s y/\B y:=by
 have long:∀ (m:Nat) x,B x->∃ s y,s.length=m/\jG R x s y:=λm=>by
  induction m with
  | zero=>exact λx _=>⟨[],x,rfl,rfl⟩
  | succ m ih =>
   intro x hx;obtain⟨w,h1,h2⟩:=go x hx;obtain⟨s,y,h3,h4⟩:=ih w.1 h2;exact⟨w::s,y,by simp[h3],h1,h4⟩
 obtain⟨s,z,hl,hw⟩:=long n x hx;have nd:¬ (((x,(0:Int))::s).map (λw:Wy=>w.1)).Nodup:=λh=>by
  have:=k9 h λy hy=>by
   obtain⟨w,h1,h2⟩:=aM.mp hy;rcases aB.mp h1 with e | e
   ·rw[← h2,e];exact hB x hx
   ·rw[← h2];exact hw.inside (λx w h=>hB _ (hR x w h)) w e
  simp at this;omega
 obtain⟨a0,u,b,v,c,e,ev⟩:=ml (λw:Wy=>w.1) nd;have ev:u.1=v.1:=ev;obtain⟨a,hsa,ui⟩:∃ a,s=a++((b++[v])++c)/\∀ y,jG R x a y->y=u.1:=by
  cases a0 with
  | nil =>
   simp only [fO,oX] at e;refine⟨[],by rw[e.2];simp,λy hy=>?_⟩;have hy:x=y:=hy;rw[← hy,← e.1]
  | cons t a1 =>
   simp only [lP,oX] at e;exact⟨a1++[u],by rw[e.2];simp,λy hy=>hy.last⟩
 subst hsa;obtain⟨y,w1,w2⟩:=hw.split;obtain⟨y2,w3,w4⟩:=w2.split;have e1:=ui y w1;have e2:=w3.last;have e3:y=y2:=by omega
 subst e3;refine⟨y,b++[v],by simp,w3,?_⟩;obtain⟨t,t1,t2⟩:=w3.split;have:B v.1:=hR _ _ t2.1;rw[e2];exact this
theorem V0 {f:Int->Int} (h:∀ x w,R x w->f w.1<=f x+w.2):∀ {x y:Int} {s:List Wy},jG R x s y->f y<=f x+sm s
 | _,_,[],hw=>by cases hw;rw[jn];omega
 | x,y,w::s,hw=>by
  have h1:=h _ _ hw.1;have h2:=V0 h hw.2;rw[ij];omega
theorem a0m {C:Int->Prop} (h:∀ x w,R x w->C x->C w.1):∀ {x y:Int} {s:List Wy},jG R x s y->C x->C y/\∀ w∈s,C w.1
 | _,_,[],hw,c=>by cases hw;exact⟨c,λ_ z=>by cases z⟩
 | x,y,w::s,hw,c=>by
  have c1:=h _ _ hw.1 c;obtain⟨h1,h2⟩:=a0m h hw.2 c1;exact⟨h1,λu hu=>by
   rcases aB.mp hu with e | e
   ·rw[e];exact c1
   ·exact h2 u e⟩
theorem jG.and {R2:Int->Wy->Prop}:∀ {x y:Int} {s:List Wy},jG R x s y->(∀ a w b,s=a++w::b->∀ t,jG R x a t->R t w->R2 t w)->jG R2 x s y
 | _,_,[],h,_=>h
 | x,y,w::s,h,g=>⟨g [] w s rfl x rfl h.1,jG.and h.2 λa u b e t ht hu=>g (w::a) u b (by rw[e];rfl) t ⟨h.1,ht⟩ hu⟩
end
theorem not_le {a b:Option Int} (h:¬ fv a b):fv b a:=(fv.total a b).resolve_left h
theorem rD {W W':Lf} {n:Nat} {T T':Tb} (xm:CK W' n) (N:sv W n T) (N':sv W' n T') (h1:∀ x,0<=x->x<(n:Int)->∀ w∈gf W' x,w∈gf W x\/¬ fv (a0a T w) (T x)):∀ x,0<=x->x<(n:Int)->fv (T x) (T' x):=by
 refine λx x0 x1=>bB λhx=>?_;have low:∀ x,0<=x->x<(n:Int)->∀ w∈gf W' x,fv (T x) (a0a T w):=λx x0 x1 w hw=>by
  rcases h1 x x0 x1 w hw with h | h
  ·exact N.low x x0 x1 w h
  ·exact not_le h
 let B:Int->Prop:=λy=>(0<=y/\y<(n:Int))/\∃ u,T' y=some u/\¬ fv (T y) (some u)
 let R:Int->Wy->Prop:=λy w=>B y/\B w.1/\w∈gf W' y/\(T' w.1).getD 0<=(T' y).getD 0+w.2
 have hxB:B x:=by
  refine⟨⟨x0,x1⟩,?_⟩;cases e:T' x with
  | none=>exact absurd (by rw[e];unfold fv;trivial) hx
  | some u=>exact⟨u,rfl,by rw[e] at hx;exact hx⟩
 have go:∀ y,B y->∃ w,R y w/\B w.1:=λy hy=>by
  obtain⟨⟨y0,y1⟩,u,hu,hn⟩:=hy;have u0:=N'.pos y u hu;obtain⟨w,hw,hle⟩:=N'.way y u y0 y1 hu;have hi:=xm y w hw;have PB:∃ u',T' w.1=some u'/\u'<=u+w.2:=by
   unfold a0a at hle;cases e:T' w.1 with
   | none=>rw[e] at hle;exact hle.elim
   | some u' =>
    rw[e] at hle;have hle:max (u'-w.2) 0<=u:=hle;exact⟨u',rfl,by omega⟩
  obtain⟨u',e',adM⟩:=PB;have hBw:B w.1:=⟨hi,u',e',λz=>hn (by
   refine (low y y0 y1 w hw).trans ?_;unfold a0a;cases e:T w.1 with
   | none=>rw[e] at z;exact z.elim
   | some t =>
    rw[e] at z;have z:t<=u':=z;show max (t-w.2) 0<=u;omega)⟩
  exact⟨w,⟨⟨⟨y0,y1⟩,u,hu,hn⟩,hBw,hw,by rw[e',hu];exact adM⟩,hBw⟩
 obtain⟨y,s,hs,hw,hyB⟩:=wm (R:=R) (B:=B) (n:=n) (λx h=>h.1) go (λx w h=>h.2.1) hxB;have s0:0<=sm s:=by
  have:=V0 (R:=R) (f:=λp=>(T' p).getD 0) (λx w h=>h.2.2.2) hw;omega
 have big:∀ z,B z->∀ t,T z=some t->0<t:=λz hz t ht=>by
  obtain⟨_,u,hu,hn⟩:=hz;have:=N'.pos z u hu;rw[ht] at hn;have hn:¬ t<=u:=hn;omega
 have sp:∀ x w,R x w->T x=none->T w.1=none:=λx w h e=>by
  have:=low x h.1.1.1 h.1.1.2 w h.2.2.1;rw[e] at this;unfold a0a at this;cases e2:T w.1 with
  | none=>rfl
  | some t=>rw[e2] at this;exact this.elim
 have old:jG (λx w=>w∈gf W x) y s y:=by
  refine hw.and λa w b e t ht hR=>?_;rcases h1 t hR.1.1.1 hR.1.1.2 w hR.2.2.1 with h | h
  ·exact h
  exfalso;have mW:=hw;rw[e] at mW;obtain⟨t',k1,k2⟩:=mW.split;have k3:=k2.2;cases ey:T y with
  | none =>
   have:=(a0m (C:=λp=>T p=none) sp ht ey).1;rw[this] at h;exact h (by unfold fv;trivial)
  | some ty =>
   have some_at:∀ p q l,jG R p l q->jG R q [] q->T q≠none->T p≠none:=λp q l hl _ hq hp=>hq (a0m (C:=λp=>T p=none) sp hl hp).1;have WL:T y≠none:=by rw[ey];exact λz=>by cases z
   have hwn:T w.1≠none:=some_at _ _ _ k3 rfl WL;have hR':∀ x u,R x u->T u.1≠none->(T x).getD 0+u.2<=(T u.1).getD 0:=λx u hr hu=>by
    have hl:=low x hr.1.1.1 hr.1.1.2 u hr.2.2.1;unfold a0a at hl;cases e2:T u.1 with
    | none=>exact absurd e2 hu
    | some t2 =>
     rw[e2] at hl;cases e3:T x with
     | none=>rw[e3] at hl;exact hl.elim
     | some t3 =>
      rw[e3] at hl;have hl:t3<=max (t2-u.2) 0:=hl;have:=big x hr.1 t3 e3;show t3+u.2<=t2;omega
   have tl:∀ {p q:Int} {l:List Wy},jG R p l q->T q≠none->(T p).getD 0+sm l<=(T q).getD 0:=λ{p q l} hl hq=>by
    induction l generalizing p with
    | nil=>cases hl;rw[jn];omega
    | cons u l ih =>
     have g1:=ih hl.2;have g2:=hR' p u hl.1 (some_at _ _ _ hl.2 rfl hq);rw[ij];omega
   have Oy:T t≠none:=λz=>hwn (sp t w hR z);have g1:=tl ht Oy;have g2:=tl k3 WL;have g3:(T t).getD 0+w.2<(T w.1).getD 0:=by
    unfold a0a at h;cases e2:T w.1 with
    | none=>exact absurd e2 hwn
    | some t2 =>
     rw[e2] at h;cases e3:T t with
     | none=>exact absurd e3 Oy
     | some t3 =>
      rw[e3] at h;have h:¬ max (t2-w.2) 0<=t3:=h;have:=big t hR.1 t3 e3;show t3+w.2<t2;omega
   have es:sm s=sm a+(w.2+sm b):=by rw[e,nK,ij]
   omega
 obtain⟨w,UR,hz⟩:=N.ring y s hs (jG.wk (λ_ _ h=>h) old) s0;have hBw:B w.1:=(a0m (R:=R) (C:=B) (λx w h _=>h.2.1) hw hyB).2 w UR;have:=big w.1 hBw 0 hz;omega
theorem sv.single {W:Lf} {n:Nat} {T:Tb} (N:sv W n T) {x:Int} (x0:0<=x) (x1:x<(n:Int)) {w:Wy} (h:gf W x=[w]):T x=a0a T w:=by
 have l:=N.low x x0 x1 w (by rw[h];exact aE);cases e:T x with
 | none =>
  rw[e] at l;cases e2:a0a T w with
  | none=>rfl
  | some v=>rw[e2] at l;exact l.elim
 | some v =>
  obtain⟨w',hw,g⟩:=N.way x v x0 x1 e;rw[h] at hw;have:w'=w:=by simpa using hw
  rw[this] at g;rw[e] at l;exact fv.O3 l g
theorem sv.one {W:Lf} {n:Nat} {T T':Tb} (lG:CK W n) (N:sv W n T) (N':sv W n T') {x:Int} (x0:0<=x) (x1:x<(n:Int)):T x=T' x :=
 fv.O3 (rD lG N N' (λ_ _ _ _ h=>.inl h) x x0 x1) (rD lG N' N (λ_ _ _ _ h=>.inl h) x x0 x1)
theorem P5 {W W':Lf} {n:Nat} {T T':Tb} (xm:CK W' n) (N':sv W' n T') (hb:∀ x,0<=x->x<(n:Int)->fv (T x) (T' x)) {x:Int} (x0:0<=x) (x1:x<(n:Int)) {w:Wy} (h:gf W' x=[w]) (hm:¬ fv (a0a T w) (T x)):¬ fv (T' x) (T x):=λz=>by
 have hi:=xm x w (by rw[h];exact aE);rw[N'.single x0 x1 h] at z;exact hm ((uO (hb _ hi.1 hi.2)).trans z)
theorem qt {T:Tb} {x p v:Int} {w:Wy} (h:fv (a0a T w) (T x)) (e:T x=some v) (hp:v<=p):∃ v',T w.1=some v'/\v'<=p+w.2:=by
 rw[e] at h;unfold a0a at h;cases e2:T w.1 with
 | none=>rw[e2] at h;exact h.elim
 | some v' =>
  rw[e2] at h;have h:max (v'-w.2) 0<=v:=h;exact⟨v',rfl,by omega⟩
theorem nZ {T:Tb} {y:Int} {s:List Wy} (h:jG (λx w=>fv (a0a T w) (T x)/\T x≠none) y s y):0<=sm s:=by
 have:=V0 (f:=λp=>(T p).getD 0) (λx w h=>by
  cases e:T x with
  | none=>exact absurd e h.2
  | some v =>
   obtain⟨v',e',hv⟩:=qt h.1 e (dz v);show (T w.1).getD 0<=v+w.2;rw[e'];exact hv) h
 omega
theorem Ga {W:Lf} {n:Nat} {T:Tb} (N:sv W n T) {y:Int} {s:List Wy} (hs:s≠[]) (hw:Wk W y s y) (h:∀ w∈s,T w.1≠some 0):sm s<0:=Int.not_le.mp λz=>by
 obtain⟨w,hw,e⟩:=N.ring y s hs hw z;exact h w hw e
theorem xy {α:Type} [DecidableEq α]:∀ (l1 l2:List α),l1.Nodup->(∀ x∈l1,x∈l2)->l1.length<=l2.length
 | [],_,_,_=>bv _
 | x::l1,l2,hn,hs=>by
  have hx:x∈l2:=hs x aE;have UT:=(dt.mp hn).1;have:=xy l1 (l2.erase x) (dt.mp hn).2 λy hy=>(J2 (λe=>by subst e;exact UT hy)).mpr (hs y (aL _ hy));rw[Er hx] at this;have:=Go hx;simp;omega
def SQ (Wf:List (Option Int)->Lf) (n:Nat) (A:List (Option Int)) (L:List (List (Option Int))) (T:Tb):Prop :=
 L.Nodup/\∀ r∈L,r.length=n/\(∀ a∈r,a∈A)/\CK (Wf r) n/\∃ T0,sv (Wf r) n T0/\∀ x,0<=x->x<(n:Int)->fv (T0 x) (T x)
theorem SQ.start {Wf:List (Option Int)->Lf} {n:Nat} {A:List (Option Int)} {r:List (Option Int)} {T:Tb} (hl:r.length=n) (ha:∀ a∈r,a∈A) (lG:CK (Wf r) n) (N:sv (Wf r) n T):SQ Wf n A [r] T:=⟨by simp,λq hq=>by
 rw[aP.mp hq];exact⟨hl,ha,lG,T,N,λx _ _=>fv.refl _⟩⟩
theorem SQ.next {Wf:List (Option Int)->Lf} {n:Nat} {A:List (Option Int)} {L:List (List (Option Int))} {r:List (Option Int)} {T T':Tb} (h:SQ Wf n A L T) (hl:r.length=n) (ha:∀ a∈r,a∈A) (lG:CK (Wf r) n) (N:sv (Wf r) n T') (hb:∀ x,0<=x->x<(n:Int)->fv (T x) (T' x)) (hm:∃ x,0<=x/\x<(n:Int)/\¬ fv (T' x) (T x)):SQ Wf n A (r::L) T':=by
 refine⟨dt.mpr ⟨λhr=>?_,h.1⟩,λq hq=>?_⟩
 ·obtain⟨_,_,hi,T0,N0,h0⟩:=h.2 r hr;obtain⟨x,x0,x1,hx⟩:=hm;rw[sv.one hi N N0 x0 x1] at hx;exact hx (h0 x x0 x1)
 ·rcases aB.mp hq with e | e
  ·rw[e];exact⟨hl,ha,lG,T',N,λx _ _=>fv.refl _⟩
  ·obtain⟨g1,g2,g3,T0,g4,g5⟩:=h.2 q e;exact⟨g1,g2,g3,T0,g4,λx x0 x1=>(g5 x x0 x1).trans (hb x x0 x1)⟩
abbrev cX:=Int × List Wy
def Tz (ws:List Wy) (p:Int):Int:=((ws.find? λw=>w.1 == p).map (·.2)).getD 0
def eX (P:List cX) (r:List (Option Int)):Lf:=aaK (λrow way=>match way with | none=>row.2 | some p=>[(p,Tz row.2 p)]) P r
def si (P:List cX):Prop:=∀ row∈P,row.2≠[]/\(row.2.map (·.1)).Nodup/\∀ w∈row.2,0<=w.1/\w.1<(P.length:Int)
def Ci (P:List cX) (r:List (Option Int)):Prop:=r.length=P.length/\∀ (i:Nat) row,P[i]?=some row->(row.1≠1->r[i]?=some none)/\(row.1=1->∃ w∈row.2,r[i]?=some (some w.1))
theorem wV:∀ {ws:List Wy} {w:Wy},(ws.map (·.1)).Nodup->w∈ws->Tz ws w.1=w.2
 | u :: ws,w,nd,hw=>by
  rw[cG] at nd;have nd:=dt.mp nd;unfold Tz
  by_cases c:u.1=w.1
  ·have:u=w:=by
    rcases aB.mp hw with e | e
    ·exact e.symm
    ·exact absurd (aM.mpr ⟨w,e,c.symm⟩) nd.1
   rw[gL,this];simp
  ·have pG:w∈ws:=by
    rcases aB.mp hw with e | e
    ·exact absurd (by rw[e]) c
    ·exact e
   rw[gL];have:(u.1 == w.1)=false:=by simpa using c
   rw[this];exact wV nd.2 pG
theorem DB {P:List cX} {r:List (Option Int)} (h:r.length=P.length):(eX P r).length=P.length:=by unfold eX;rw[ud];omega
theorem jN {P:List cX} {r:List (Option Int)} (h:Ci P r) {i:Nat} {row:cX} (hr:P[i]?=some row) (h1:row.1≠1):gf (eX P r) (i:Int)=row.2:=by
 have:=(h.2 i row hr).1 h1;unfold gf eX;rw[cv,iV,hr,this];rfl
theorem gI {P:List cX} {r:List (Option Int)} (g:si P) {i:Nat} {row:cX} {w:Wy} (hr:P[i]?=some row) (hw:w∈row.2) (e:r[i]?=some (some w.1)):gf (eX P r) (i:Int)=[w]:=by
 unfold gf eX;rw[cv,iV,hr,e];show [(w.1,Tz row.2 w.1)]=[w];rw[wV (g row (aq hr)).2.1 hw]
theorem MX {P:List cX} {x:Int} (x0:0<=x) (x1:x<(P.length:Int)):∃ (i:Nat) (row:cX),x=(i:Int)/\P[i]?=some row:=⟨x.toNat,P[x.toNat]'(by omega),by omega,by simp⟩
theorem qu {P:List cX} {r:List (Option Int)} (g:si P) (h:Ci P r):CK (eX P r) P.length:=λx w hw=>by
 rcases cN x.toNat P.length with c | c
 ·obtain⟨row,eJ⟩:∃ row,P[x.toNat]?=some row:=⟨P[x.toNat],by simp⟩
  have ho:gf (eX P r) x=gf (eX P r) ((x.toNat:Nat):Int):=by unfold gf;rw[cv]
  rw[ho] at hw
  by_cases c1:row.1=1
  ·obtain⟨u,hu,e⟩:=(h.2 _ row eJ).2 c1;rw[gI g eJ hu e] at hw;rw[aP.mp hw];exact (g row (aq eJ)).2.2 u hu
  ·rw[jN h eJ c1] at hw;exact (g row (aq eJ)).2.2 w hw
 ·unfold gf at hw;rw[bo (by rw[DB h.1];exact c)] at hw;cases hw
def Gi (P:List cX) (r:List (Option Int)) (T:Tb) (r':List (Option Int)):Prop:=r'.length=P.length/\∀ (i:Nat) row,P[i]?=some row->(row.1≠1->r'[i]?=some none)/\(row.1=1->∃ own most,own∈row.2/\most∈row.2/\r[i]?=some (some own.1)/\(∀ w∈row.2,fv (a0a T w) (a0a T most))/\(fv (a0a T most) (a0a T own)/\r'[i]?=some (some own.1)\/¬ fv (a0a T most) (a0a T own)/\r'[i]?=some (some most.1)))
theorem Gi.rule {P:List cX} {r r':List (Option Int)} {T:Tb} (b:Gi P r T r'):Ci P r':=⟨b.1,λi row hr=>⟨(b.2 i row hr).1,λh=>by
 obtain⟨own,most,h1,h2,_,_,h5⟩:=(b.2 i row hr).2 h;rcases h5 with h | h
 ·exact⟨own,h1,h.2⟩
 ·exact⟨most,h2,h.2⟩⟩⟩
theorem xB {P:List cX} {r:List (Option Int)} {T:Tb} (g:si P) (N:sv (eX P r) P.length T) {i:Nat} {row:cX} (hr:P[i]?=some row) {own:Wy} (ho:own∈row.2) (e:r[i]?=some (some own.1)):T (i:Int)=a0a T own:=by
 have:=(af.mp hr).1;exact N.single (by omega) (by omega) (gI g hr ho e)
theorem Gi.Ri {P:List cX} {r r':List (Option Int)} {T:Tb} (g:si P) (h:Ci P r) (N:sv (eX P r) P.length T) (b:Gi P r T r'):∀ x,0<=x->x<(P.length:Int)->∀ w∈gf (eX P r') x,w∈gf (eX P r) x\/¬ fv (a0a T w) (T x):=λx x0 x1 w hw=>by
 obtain⟨i,row,rfl,hr⟩:=MX x0 x1
 by_cases c:row.1=1
 ·obtain⟨own,most,h1,h2,h3,_,h5⟩:=(b.2 i row hr).2 c;rcases h5 with ⟨_,e⟩ | ⟨hn,e⟩
  ·rw[gI g hr h1 e] at hw;exact .inl (by rw[gI g hr h1 h3];exact hw)
  ·rw[gI g hr h2 e] at hw;rw[aP.mp hw,xB g N hr h1 h3];exact .inr hn
 ·rw[jN b.rule hr c] at hw;exact .inl (by rw[jN h hr c];exact hw)
theorem Gi.more {P:List cX} {r r':List (Option Int)} {T T':Tb} (g:si P) (h:Ci P r) (N:sv (eX P r) P.length T) (b:Gi P r T r') (N':sv (eX P r') P.length T') (ne:r'≠r):(∀ x,0<=x->x<(P.length:Int)->fv (T x) (T' x))/\∃ x,0<=x/\x<(P.length:Int)/\¬ fv (T' x) (T x):=by
 have xm:=qu g b.rule;have low:=rD xm N N' (b.Ri g h N);refine⟨low,bB λvI=>ne ?_⟩;refine c6 λi=>?_;cases hr:P[i]? with
 | none =>
  have hi:P.length<=i:=List.getElem?_eq_none_iff.mp hr;rw[bo (by rw[b.1];exact hi),bo (by rw[h.1];exact hi)]
 | some row =>
  have hi:=(af.mp hr).1
  by_cases c:row.1=1
  ·obtain⟨own,most,h1,h2,h3,_,h5⟩:=(b.2 i row hr).2 c;rcases h5 with ⟨_,e⟩ | ⟨hn,e⟩
   ·rw[e,h3]
   ·exact absurd ⟨(i:Int),by omega,by omega,P5 (W:=eX P r) xm N' low (by omega) (by omega) (gI g hr h2 e) (by rw[xB g N hr h1 h3];exact hn)⟩ vI
  ·rw[(b.2 i row hr).1 c,(h.2 i row hr).1 c]
theorem Gi.last {P:List cX} {r:List (Option Int)} {T:Tb} (g:si P) (N:sv (eX P r) P.length T) (b:Gi P r T r) {i:Nat} {row:cX} (hr:P[i]?=some row) (c:row.1=1) {w:Wy} (hw:w∈row.2):fv (a0a T w) (T (i:Int)):=by
 obtain⟨own,most,h1,h2,h3,h4,h5⟩:=(b.2 i row hr).2 c;rw[xB g N hr h1 h3];rcases h5 with ⟨h,_⟩ | ⟨hn,e⟩
 ·exact (h4 w hw).trans h
 ·rw[h3] at e;have e1:own.1=most.1:=by simpa using e
  have:a0a T most=a0a T own:=by
   have a1:=wV (g row (aq hr)).2.1 h1;have a2:=wV (g row (aq hr)).2.1 h2;rw[e1] at a1;unfold a0a;rw[e1,← a1,← a2]
  exact absurd (by rw[this];exact fv.refl _) hn
def Ai (n:Nat) (w:Wy):Wy:=(w.1,-((n:Nat):Int)*w.2-1)
theorem BX (n:Nat):∀ s:List Wy,sm (s.map (Ai n))=-((n:Nat):Int)*sm s-s.length
 | []=>by rw[vV,jn,Int.mul_zero];simp
 | w::s=>by
  have:=BX n s;rw[cG,ij,ij,this,Int.mul_add];show -((n:Nat):Int)*w.2-1+_=_;rw[bi]
  push_cast
  omega
section
variable {R:Int->Wy->Prop}
theorem jG.tw {R2:Int->Wy->Prop} {n:Nat} (h:∀ x w,R x w->R2 x (Ai n w)):∀ {x y:Int} {s:List Wy},jG R x s y->jG R2 x (s.map (Ai n)) y
 | _,_,[],hw=>hw
 | _,_,_::_,hw=>⟨h _ _ hw.1,jG.tw h hw.2⟩
theorem vo:∀ (m:Nat) {y:Int} {s:List Wy},s.length<=m->s≠[]->jG R y s y->∃ z r,r≠[]/\jG R z r z/\(r.map (·.1)).Nodup
 | 0,_,s,hl,hn,_=>absurd (de (by omega)) hn
 | m+1,y,s,hl,hn,hw=>by
  by_cases nd:(s.map (·.1)).Nodup
  ·exact⟨y,s,hn,hw,nd⟩
  obtain⟨a,u,b,v,c,rfl,e⟩:=ml (λw:Wy=>w.1) nd;have e:u.1=v.1:=e;have e1:a++u::(b++v::c)=(a++[u])++((b++[v])++c):=by simp
  rw[e1] at hw;obtain⟨t,w1,w2⟩:=hw.split;obtain⟨t2,w3,w4⟩:=w2.split;have ey:=w1.last;have ez:=w3.last;have YM:t=t2:=by omega
  subst YM;exact vo m (by simp at hl ⊢;omega) (by simp) w3
end
theorem zX {T:Tb} {x:Int} {w:Wy} (h:fv (T x) (a0a T w)) (e:T x=none):T w.1=none:=by
 rw[e] at h;unfold a0a at h;cases e2:T w.1 with
 | none=>rfl
 | some t=>rw[e2] at h;exact h.elim
theorem M9 {W1 W2:Lf} {n:Nat} {T1 T2:Tb} (lG:CK W1 n) (N1:sv W1 n T1) (N2:sv W2 n T2) (com:∀ x,0<=x->x<(n:Int)->∃ w∈gf W1 x,Ai n w∈gf W2 x) {x:Int} (x0:0<=x) (x1:x<(n:Int)) (e1:T1 x=none) (e2:T2 x=none):False:=by
 let B:Int->Prop:=λy=>(0<=y/\y<(n:Int))/\T1 y=none/\T2 y=none
 let R:Int->Wy->Prop:=λy w=>B w.1/\w∈gf W1 y/\Ai n w∈gf W2 y
 have go:∀ y,B y->∃ w,R y w/\B w.1:=λy hy=>by
  obtain⟨⟨y0,y1⟩,g1,g2⟩:=hy;obtain⟨w,h1,h2⟩:=com y y0 y1;have hb:B w.1:=⟨lG y w h1,zX (N1.low y y0 y1 w h1) g1,zX (w:=Ai n w) (N2.low y y0 y1 _ h2) g2⟩
  exact⟨w,⟨hb,h1,h2⟩,hb⟩
 obtain⟨y,s,hs,hw,_⟩:=wm (R:=R) (B:=B) (n:=n) (λx h=>h.1) go (λx w h=>h.1) (x:=x) ⟨⟨x0,x1⟩,e1,e2⟩;obtain⟨z,r,hr,hz,nd⟩:=vo s.length (az _) hs hw;have hB:∀ w∈r,B w.1:=λw UR=>by
  obtain⟨a,b,e⟩:=nN UR;rw[e] at hz;obtain⟨t,_,k2⟩:=hz.split;exact k2.1.1
 have len:r.length<=n:=by
  have:=k9 nd λp hp=>by
   obtain⟨w,h1,h2⟩:=aM.mp hp;rw[← h2];exact (hB w h1).1
  rwa [ag] at this
 have neg:sm r<0:=Ga N1 hr (jG.wk (λ_ _ h=>h.2.1) hz) λw UR z0=>by
  have:=(hB w UR).2.1;rw[this] at z0;cases z0
 have pos:0<=sm (r.map (Ai n)):=by
  rw[BX];have h1:(n:Int)*1<=(n:Int)*(-sm r):=iJ (by omega) (by omega);have h2:-((n:Nat):Int)*sm r=(n:Int)*(-sm r):=by rw[oU,KD]
  rw[h2];omega
 have mW:Wk W2 z (r.map (Ai n)) z:=jG.wk (R:=λx w=>w∈gf W2 x) (λ_ _ h=>h) (jG.tw (λ_ _ h=>h.2.2) hz);obtain⟨w',pG,e⟩:=N2.ring z _ (by simpa using hr) mW pos;obtain⟨w,h1,h2⟩:=aM.mp pG;have:=(hB w h1).2.2;rw[← h2] at e;have e:T2 w.1=some 0:=e;rw[this] at e;cases e
theorem Mh {n:Nat} {T1 T2:Tb} (com:∀ x,0<=x->x<(n:Int)->T1 x≠none->T2 x≠none->∃ w:Wy,(0<=w.1/\w.1<(n:Int))/\fv (a0a T1 w) (T1 x)/\fv (a0a T2 (Ai n w)) (T2 x)) {x:Int} (x0:0<=x) (x1:x<(n:Int)) (e1:T1 x≠none) (e2:T2 x≠none):False:=by
 let B:Int->Prop:=λy=>(0<=y/\y<(n:Int))/\T1 y≠none/\T2 y≠none
 let R:Int->Wy->Prop:=λy w=>B y/\B w.1/\fv (a0a T1 w) (T1 y)/\fv (a0a T2 (Ai n w)) (T2 y)
 have nx:∀ {T:Tb} {y:Int} {w:Wy},T y≠none->fv (a0a T w) (T y)->T w.1≠none:=λ{T y w} h1 h2 z=>by
  cases e:T y with
  | none=>exact h1 e
  | some v =>
   obtain⟨v',e',_⟩:=qt h2 e (dz v);rw[z] at e';cases e'
 have go:∀ y,B y->∃ w,R y w/\B w.1:=λy hy=>by
  obtain⟨⟨y0,y1⟩,g1,g2⟩:=hy;obtain⟨w,h0,h1,h2⟩:=com y y0 y1 g1 g2;have hb:B w.1:=⟨h0,nx g1 h1,nx (w:=Ai n w) g2 h2⟩
  exact⟨w,⟨⟨⟨y0,y1⟩,g1,g2⟩,hb,h1,h2⟩,hb⟩
 obtain⟨y,s,hs,hw,_⟩:=wm (R:=R) (B:=B) (n:=n) (λx h=>h.1) go (λx w h=>h.2.1) (x:=x) ⟨⟨x0,x1⟩,e1,e2⟩;have p1:0<=sm s:=nZ (T:=T1) (y:=y) (hw.and λa w b _ t _ h=>⟨h.2.2.1,h.1.2.1⟩);have p2:0<=sm (s.map (Ai n)):=nZ (T:=T2) (y:=y) (jG.tw (R2:=λx w=>fv (a0a T2 w) (T2 x)/\T2 x≠none) (λx w h=>⟨h.2.2.2,h.1.2.2⟩) hw);rw[BX] at p2;have hl:0<s.length:=bT.mpr hs;have h1:0<=(n:Int)*sm s:=sr (by omega) p1;rw[oU] at p2;omega
end L2
namespace Law
open PySem L2
section
variable {R:Int->Wy->Prop}
theorem C1 {f:Int->Int} (hR:∀ x w,R x w->w.2=f x):∀ {x y:Int} {s:List Wy},jG R x s y->sm s+f y=f x+o7 (s.map λw=>f w.1)
 | _,_,[],hw=>by cases hw;rw[jn];simp[o7]
 | x,y,w::s,hw=>by
  have ih:=C1 hR hw.2;have e:=hR _ _ hw.1;rw[ij,cG];simp only [o7];omega
theorem Ab:∀ (m:Nat) {q:Int} {s:List Wy},s.length<=m->s≠[]->jG R q s q->∃ r,r≠[]/\jG R q r q/\(r.map (·.1)).Nodup/\∀ w∈r,w∈s
 | 0,_,s,hl,hn,_=>absurd (de (by omega)) hn
 | m + 1,q,s,hl,hn,hw=>by
  by_cases nd:(s.map (·.1)).Nodup
  ·exact⟨s,hn,hw,nd,λ_ h=>h⟩
  obtain⟨a,u,b,v,c,rfl,e⟩:=ml (λw:Wy=>w.1) nd;have e:u.1=v.1:=e;have e1:a++u::(b++v::c)=(a++[u])++((b++[v])++c):=by simp
  rw[e1] at hw;obtain⟨t,w1,w2⟩:=hw.split;obtain⟨t2,w3,w4⟩:=w2.split;have ey:=w1.last;have ez:=w3.last;have YM:t=t2:=by omega
  subst YM;have app:∀ {x y z:Int} {a b:List Wy},jG R x a y->jG R y b z->jG R x (a++b) z:=λ{x y z a b} h1 h2=>by
   induction a generalizing x with
   | nil=>cases h1;exact h2
   | cons w a ih=>exact⟨h1.1,ih h1.2⟩
  obtain⟨r,r1,r2,r3,r4⟩:=Ab m (s:=(a++[u])++c) (by simp at hl ⊢;omega) (by simp) (app w1 w4);refine⟨r,r1,r2,r3,λw hw=>?_⟩;have:=r4 w hw;simp at this ⊢;rcases this with h | h | h <;> simp[h]
theorem Ac {n:Nat} {rk:Int->Int} {q:Int} {s:List Wy} (hR:∀ x w,R x w->w.2=kT n (rk x)/\(0<=w.1/\w.1<(n:Int))) (hs:s≠[]) (hw:jG R q s q) (h0:∀ w∈s,0<=rk w.1) (hm:∀ w∈s,rk w.1<=rk q):∃ r,r≠[]/\jG R q r q/\(rk q % 2=1->sm r<0)/\(rk q % 2≠1->0<sm r):=by
 obtain⟨r,r1,r2,r3,r4⟩:=Ab s.length (az _) hs hw;have len:r.length<=n:=by
  have:=k9 r3 λp hp=>by
   obtain⟨w,h1,h2⟩:=aM.mp hp;rw[← h2];exact r2.inside (λx w h=>(hR x w h).2) w h1
  rwa [ag] at this
 have e:=C1 (f:=λx=>kT n (rk x)) (λx w h=>(hR x w h).1) r2;have e2:sm r=o7 ((r.map λw=>rk w.1).map (kT n)):=by
  have:(r.map λw=>rk w.1).map (kT (n:Int))=r.map λw=>kT n (rk w.1):=by simp[qm,Function.comp_def]
  rw[this];have e:sm r+kT n (rk q)=kT n (rk q)+o7 (r.map λw=>kT n (rk w.1)):=e;omega
 obtain⟨i,l,el⟩:∃ i l,r=i++[l]:=⟨r.dropLast,r.getLast r1,(zn r1).symm⟩
 have eq:q=l.1:=by have:=r2;rw[el] at this;exact this.last
 have Kd:1<=n:=by have:=bT.mpr r1;omega
 have:=Nw Kd (rs:=r.map λw=>rk w.1) (λx hx=>by
  obtain⟨w,h1,h2⟩:=aM.mp hx;rw[← h2];exact h0 w (r4 w h1)) (by rw[ag];exact len) (M:=rk q) (aM.mpr ⟨l,by rw[el];simp,by rw[eq]⟩) (λx hx=>by
  obtain⟨w,h1,h2⟩:=aM.mp hx;rw[← h2];exact hm w (r4 w h1))
 exact⟨r,r1,r2,by rw[e2];exact this.1,by rw[e2];exact this.2⟩
end
theorem Du {n:Nat} {rk:Int->Int} {T:Tb} {q:Int} {s:List Wy} (hs:s≠[]) (hw:jG (λx w=>(w.2=kT n (rk x)/\(0<=w.1/\w.1<(n:Int)))/\fv (a0a T w) (T x)/\T x≠none) q s q) (h0:∀ w∈s,0<=rk w.1) (hm:∀ w∈s,rk w.1<=rk q):rk q % 2≠1:=λz=>by
 obtain⟨r,_,r2,r3,_⟩:=Ac (λx w h=>h.1) hs hw h0 hm;have:=nZ (T:=T) (y:=q) (r2.and λa w b _ t _ h=>h.2);have:=r3 z;omega
theorem Ge {n:Nat} {rk:Int->Int} {T:Tb} {q:Int} {s:List Wy} (hs:s≠[]) (hw:jG (λx w=>(w.2=kT n (rk x)/\(0<=w.1/\w.1<(n:Int)))/\fv (a0a T (Ai n w)) (T x)/\T x≠none) q s q) (h0:∀ w∈s,0<=rk w.1) (hm:∀ w∈s,rk w.1<=rk q):rk q % 2=1:=bB λz=>by
 obtain⟨r,r1,r2,_,r4⟩:=Ac (λx w h=>h.1) hs hw h0 hm;have p:=nZ (T:=T) (y:=q) (jG.tw (R2:=λx w=>fv (a0a T w) (T x)/\T x≠none) (λx w h=>h.2) r2);rw[BX] at p;have h1:=r4 z;have hl:0<r.length:=bT.mpr r1;have h2:0<=(n:Int)*sm r:=sr (by omega) (by omega);rw[oU] at p;omega
end Law
namespace L2
open PySem PySem.Spec PyProof.Rows
abbrev FA (qual:bc) (scope:dv) (cl:List (bc × ak)) (L a:ak) (cd:ae):qk :=
 { scope:=scope,locals:=L,globals:=bf,cells:=cl,qual:=qual ++ ".<locals>.",func:=some a,code:=cd,frame:=some L,builtins:=k6 }
abbrev Dv (P:aS) (w:bN) (K:aj) (mg:bc->Option ae) (base:cj) (N:List bc) (qual:bc) (scope:dv) (cl:List (bc × ak)) (q:ak) (cd:ae) (A:bA) (outer:List qk) (s:ai) (H:Hp):Cx where
 prog:=P
 w:=w
 K:=K
 mg:=mg
 base:=base
 A:=A.deeper (FA qual scope cl s.heap.objs.size q cd)
 N:=N
 s₀:=s
 H₀:=H
 env:=FA qual scope cl s.heap.objs.size q cd
 outer:=outer
 stack:=FA qual scope cl s.heap.objs.size q cd::outer
 ex:=[]
 calm:=true
 fn:=λ_=>false
 pn:=[]
 xe:=λ_ _=>False
structure RD (scope:dv) (cl:List (bc × ak)) (x:bc) (N:List bc) (vs:List V) (s:ai) (H:Hp):Prop where
 kind:scope.kind=.function
 co:scope.isCoroutine=false
 gen:scope.isGenerator=false
 Mg:∀ y∈scope.names,y.2≠.cell
 hx:scope.names.lookup x=some .local
 inj:∀ x y c,cl.lookup x=some c->cl.lookup y=some c->x=y
 has:∀ y,scope.names.lookup y=some .free->∃ c,cl.lookup y=some c
 cell:∀ y c,cl.lookup y=some c->H c=none/\∃ v,s.heap.IsCell c v
 N:∃ ys,N=x::ys/\ys.length=vs.length/\x ∉ ys/\∀ (i:Nat) y v,ys[i]?=some y->vs[i]?=some v->scope.names.lookup y=some .free/\∃ c u,cl.lookup y=some c/\s.heap.IsCell c (some u)/\RelV v u
theorem P1 {P:aS} {w:bN} {K:aj} {mg:bc->Option ae} {base:cj} {k:Nat} {q:ak} {qual x:bc} {params:jr} {body:b6} {scope:dv} {cl:List (bc × ak)} {pm di ug:ae} {N:List bc} {vs:List V} {A:bA} {outer:List qk} {s:ai} {H:Hp} {v:V} {u:ae} {Q:VK} {E:XK} {te:TE}
  (ho:s.heap.get? q=some { cls:=.type "function",data:=.func (kC "<lambda>" qual params body scope cl pm di ug) }) (hc:s.heap.CodeRec di qual)
  (sY:o5 (kC "<lambda>" qual params body scope cl pm di ug) ⟨[u],[]⟩=pure [(x,u)]) (C:RD scope cl x N vs s H) (hr:fG (k+1) A) (e0:wK P w K mg base A outer s H) (r:RelV v u)
  (hb:PE (Dv P w K mg base N qual scope cl q di A outer s H) body te) (hq:te (some v::vs.map some) H Q) :
  codeAny (bn P w) A (.call (.ref q) ⟨[u],[]⟩) (CR yq outer P w H s Q E) s:=by
 have lim:s.heap.NoLimit:=e0.mod.nolimit.keeps λb o e=>(e0.bs b o e).1;refine PySem.W.kla_callFunE hr.depth ho rfl C.co C.gen rfl hc ?_;rw[sY];refine aH ?_;refine V9 C.Mg (λy hy=>by
  have:y=(x,u):=by simpa using hy
  rw[this];exact C.hx) (λh' ns sb=>?_) C.kind
 have keep:∀ b o,s.heap.get? b=some o->h'.get? b=some o:=λb o e=>by
  have hb:=aF e;rw[sb.2 b (aK hb)];exact al _ e
 refine⟨lim.keeps keep,PySem.W.kla_codeExpr ?_⟩;have I:Inv (Dv P w K mg base N qual scope cl q di A outer s H) [] (some v::vs.map some) H { s with heap:=h',toks:=s.toks+1 }:=by
  obtain⟨ys,eN,yl,xn,yv⟩:=C.N;have ic:∀ {c:ak} {v:Option ae},s.heap.IsCell c v->h'.IsCell c v:=λ{c v} ⟨o,h1,h2⟩=>⟨o,keep _ _ h1,h2⟩
  refine⟨⟨e0.mod,C.kind,rfl,rfl,az _,C.inj,λy hy=>?_,(λy c h=>by cases h),λ_=>hr.hd,Gg e0.frames,.inr ⟨rfl,rfl⟩,(λb z=>nomatch z),e0.bs,e0.KU,(λb _ _ z=>nomatch z),(λb z=>nomatch z),e0.rL,e0.Pj⟩,
   rfl,e0.bare,Un.kept keep,⟨_,ns,λi y v' h1 h2 h3=>?_⟩,λy c h=>?_,e0.cZ.fresh (az _),λy c h=>(C.cell y c h).1,(λp hp=>nomatch hp),e0.cZ.kept keep,?_⟩
  ·have hy:scope.names.lookup y=some .cell\/scope.names.lookup y=some .free:=hy;rcases hy with hy | hy
   ·exact absurd rfl (C.Mg _ (dU hy))
   ·exact C.has y hy
  ·subst eN;cases i with
   | zero =>
    have e1:x=y:=by injection h1
    have e2:v=v':=by injection h2 with h2;injection h2
    subst e1 e2;exact⟨u,r,.inl ⟨C.hx,by show eC x [(x,u)]=_;simp⟩⟩
   | succ i =>
    have h1:ys[i]?=some y:=h1;have h2:(vs.map some)[i]?=some (some v'):=h2;have h2:vs[i]?=some v':=by
     rw[aI] at h2;cases e:vs[i]? with
     | none=>rw[e] at h2;cases h2
     | some a=>rw[e] at h2;cases h2;rfl
    obtain⟨hf,c,u',h3,h4,h5⟩:=yv i y v' h1 h2;exact⟨u',h5,.inr ⟨.inr hf,c,h3,ic h4⟩⟩
  ·obtain⟨_,v,hv⟩:=C.cell y c h;exact⟨v,ic hv⟩
  ·subst eN;show (vs.map some).length+1=ys.length+1;rw[ag,yl]
 refine dc (hb [] _ _ H _ I hq) (λy s' hs=>?_) λe s' hs=>hs.elim;obtain⟨yv,H',J,rv,qv⟩:=hs;exact⟨yv,H',J.os,J.bare,J.base,J.cZ,rv,qv⟩
def kZ (H:Hp) (P:ak) (pos:hW) (qual:bc):Prop:=∃ ps:Array ae,H P=some (.vQ ps)/\TriplesOk ps.toList /\
 (codeAmong pos ps.toList=none\/∃ (c:ak) (o:dR) (vs:Array ae) (t:RL),codeAmong pos ps.toList=some (.ref c)/\H c=some (.Bm o (.own c))/\o.data=.fields vs/\vs[1]?=some (.str qual t))
def ju (P:ak) (H H':Hp):Prop:=∀ b o,b≠P->H b=some o->H' b=some o
theorem ju.trans {P:ak} {H H1 H2:Hp} (a:ju P H H1) (b:ju P H1 H2):ju P H H2:=λc o n h=>b c o n (a c o n h)
theorem ju.of {P:ak} {H H':Hp} (s:bp H H'):ju P H H':=λb o _ h=>s b o h
theorem kZ.up {H H':Hp} {P:ak} {pos:hW} {qual:bc} (t:kZ H P pos qual) (s:bp H H'):kZ H' P pos qual:=by
 obtain⟨ps,h1,h2,h3⟩:=t;refine⟨ps,s _ _ h1,h2,?_⟩;rcases h3 with h | ⟨c,o,vs,t,h4,h5,h6⟩
 ·exact .inl h
 ·exact .inr ⟨c,o,vs,t,h4,s _ _ h5,h6⟩
abbrev Pg (a:ak) (o:dR):HO:=.Bm o (.own a)
abbrev PZ (qual:bc) (params:jr) (body:b6) (scope:dv) (cl:List (bc × ak)) (pm di ug:ae):dR:={ cls:=.type "function",data:=.func (kC "<lambda>" qual params body scope cl pm di ug) }
def wN (H:Hp) (q:ak) (qual:bc) (params:jr) (body:b6) (scope:dv) (cl:List (bc × ak)):Prop:=∃ (pm ug:ae) (c:ak) (o:dR) (vs:Array ae) (t:RL),H q=some (Pg q (PZ qual params body scope cl pm (.ref c) ug))/\H c=some (Pg c o)/\o.data=.fields vs/\vs[1]?=some (.str qual t)
section
variable {X:Cx} {pins:List (ak × dR)} {σ:St} {H:Hp} {s:ai}
theorem Inv.grown {P:ak} {ps more:Array ae} {h':cj} {t':Nat} {news:List (ak × dR)} (I:Inv X pins σ H s) (hP:H P=some (.vQ ps)) (k:∀ b o,b≠P->s.heap.get? b=some o->h'.get? b=some o) (hp:h'.get? P=some (O1 (ps++more))) (hn:∀ p∈news,s.heap.objs.size<=p.1/\h'.get? p.1=some p.2) :
  ∃ H',Inv X pins σ H' { s with heap:=h',toks:=t' }/\ju P H H'/\H' P=some (.vQ (ps++more))/\∀ p∈news,H' p.1=some (Pg p.1 p.2):=by
 have Zm:P<s.heap.objs.size:=I.cZ.lt hP;have old:∀ {b o},H b=some o->b<s.heap.objs.size:=λe=>I.cZ.lt e
 let H':Hp:=λb=>if b=P then some (.vQ (ps++more)) else if b<s.heap.objs.size then H b else ((news.find? λp=>decide (p.1=b)).map λp=>Pg p.1 p.2)
 have e1:H' P=some (.vQ (ps++more)):=if_pos rfl;have e2:∀ {b},b≠P->b<s.heap.objs.size->H' b=H b:=λ{b} n l=>by show (if b=P then _ else _)=_;rw[if_neg n,if_pos l]
 have e3:∀ {b o},¬ b<s.heap.objs.size->H' b=some o->∃ p∈news,p.1=b/\o=Pg p.1 p.2:=λ{b o} l e=>by
  have e:(if b=P then some (.vQ (ps++more)) else if b<s.heap.objs.size then H b else ((news.find? λp=>decide (p.1=b)).map λp=>Pg p.1 p.2))=some o:=e;rw[if_neg (λz=>l (by rw[z];exact Zm)),if_neg l] at e;obtain⟨p,hp,rfl⟩:=dP.mp e;exact⟨p,CN hp,by have:=Td hp;simpa using this,rfl⟩
 have sm:ju P H H':=λb o n e=>by rw[e2 n (old e)];exact e
 have nP:∀ {b o},H b=some o->(∀ q,o≠.vQ q)->b≠P:=λ{b o} e d z=>by rw[z,hP] at e;injection e with e;exact d _ e.symm
 refine⟨H',I.un ⟨λb o e n _ _=>?_,λb o e n _ _=>?_,λb o e n _=>?_,λb o e _=>?_,λb xs e=>?_,λb o u e=>?_,λb qs e=>?_⟩ (λb o e=>?_),sm,e1,λp Uz=>?_⟩
 ·exact k b o (λz=>by rw[z,hP] at n;cases n) e
 ·exact⟨o.slots,k b o (λz=>by rw[z,hP] at n;cases n) e⟩
 ·rw[e2 (λz=>by rw[z,hP] at n;cases n) (aF e)];exact n
 ·by_cases hb:b=P
  ·rw[hb];exact⟨_,hp⟩
  ·exact⟨o,k b o hb e⟩
 ·exact sm _ _ (nP e λq z=>by cases z) e
 ·exact sm _ _ (nP e λq z=>by cases z) e
 ·by_cases hb:b=P
  ·subst hb;rw[hP] at e;cases e;exact⟨more,e1⟩
  ·exact⟨#[],by rw[sm _ _ hb e];simp⟩
 ·by_cases hb:b=P
  ·subst hb;rw[e1] at e;cases e;exact hp
  by_cases hl:b<s.heap.objs.size
  ·rw[e2 hb hl] at e;refine (I.cZ b o e).B4 (λc v hc r=>k c v ?_ r) (λc r=>sm _ _ (nP r λq z=>by cases z) r) λc xs r=>sm _ _ (nP r λq z=>by cases z) r;rcases hc with rfl | hc
   ·exact hb
   ·exact nP hc λq z=>by cases z
  ·obtain⟨p,hm,rfl,rfl⟩:=e3 hl e;exact⟨(hn p hm).2,_,(hn p hm).2⟩
 ·have hl:¬ p.1<s.heap.objs.size:=OV.mpr (hn p Uz).1;show (if p.1=P then _ else _)=_;rw[if_neg (λz=>hl (by rw[z];exact Zm)),if_neg hl];cases e:news.find? λq=>decide (q.1=p.1) with
  | none=>exact absurd (decide_eq_true rfl) (List.find?_eq_none.mp e p Uz)
  | some q =>
   have h1:q.1=p.1:=by have:=Td e;simpa using this
   have h2:=(hn q (CN e)).2;rw[h1,(hn p Uz).2] at h2;injection h2 with h2;show some (Pg q.1 q.2)=_;rw[h1,h2]
structure rz (X:Cx) (P:ak):Prop where
 code:∃ c,X.env.code=.ref c/\∀ h:cj,(∀ b o,X.base.get? b=some o->h.get? b=some o)->PySem.W.CodeHd h c P
 blt:∀ h:cj,(∀ b o,X.base.get? b=some o->h.get? b=some o)->h.BuiltinsAt X.mg P
 ne:bf≠P
theorem LV {P:ak} {params:jr} {body:b6} {scope:dv} {pos:hW} {Q:ae->ai->Prop} {E:ae->ai->Prop} (D:rz X P) (I:Inv X pins σ H s) (t:kZ H P pos (X.env.qual ++ "<lambda>")) (hd:IN params X.env=([],[]))
  (hf:∀ y∈scope.names,y.2=.free->∃ c,X.env.cells.lookup y.1=some c)
  (h:∀ (cl:List (bc × ak)) (q:ak) (H':Hp) (s':ai),(∀ x c,cl.lookup x=some c->X.env.cells.lookup x=some c)->(∀ x,(x,aZ)∈scope.names->∃ c,cl.lookup x=some c)->Inv X pins σ H' s'->ju P H H'->kZ H' P pos (X.env.qual ++ "<lambda>")->wN H' q (X.env.qual ++ "<lambda>") params body scope cl->Q (.ref q) s') :
  wpAny (bn X.prog X.w) X.A (eO (.Lambda params body scope pos) X.env) Q E s:=by
 obtain⟨cl,ecl,c1,c2⟩:=vZ hf;obtain⟨c,hc,Ck⟩:=D.code;obtain⟨ps,hP,tr,alt⟩:=t;have gl:s.heap.Ns bf X.mg:=by
  have:=I.ok.mod.glob;exact this.keeps I.bk
 have hPo:s.heap.get? P=some (O1 ps):=I.cZ P _ hP;refine PySem.W.kla_eval hd ?_;rcases alt with none_ | ⟨cc,o,vs,tk,among,Op,od,ov⟩
 ·refine PySem.W.kla_makeFunction ecl I.ok.glob gl hc (Ck _ I.bk) hPo tr none_ D.ne (D.blt _ I.bk) λc' ug h' NH ext ge lt rec tab=>?_;obtain⟨c0,oc,vs,t0,e0,g0,d0,v0⟩:=rec;cases e0;obtain⟨H',I',sT,hP',Dq⟩:=I.grown (P:=P) (ps:=ps) (more:=#[qQ pos.line,qQ pos.col,bO c']) (t':=NH) (news:=[(c',oc),(h'.objs.size,Oc "<lambda>" (X.env.qual ++ "<lambda>") params body scope cl ((X.mg "__name__").getD .none) c' ug)])
   (h' := h'.push (Oc "<lambda>" (X.env.qual ++ "<lambda>") params body scope cl ((X.mg "__name__").getD .none) c' ug)) hP (λb o n e=>al _ (ext b o n e)) (al _ tab) (λp hp=>by
    rcases aB.mp hp with rfl | hp
    ·exact⟨ge,al _ g0⟩
    ·rw[aP.mp hp];exact⟨qE (OU ge lt),aQ _ rfl⟩)
  have n1:=Dq (c',oc) aE;have n2:=Dq _ (aL _ (aP.mpr rfl));have el:(ps++#[qQ (pos.line:Int),qQ (pos.col:Int),bO c']).toList=ps.toList++[qQ (pos.line:Int),qQ (pos.col:Int),bO c']:=by simp
  exact h cl _ H' _ c1 c2 I' sT ⟨_,hP',by rw[el];exact TriplesOk_snoc _ _ _ _ tr,.inr ⟨c',oc,vs,t0,by rw[el];exact codeAmong_snoc _ tr none_,n1,d0,v0⟩⟩ ⟨_,_,c',oc,vs,t0,n2,n1,d0,v0⟩
 ·refine PySem.W.kla_makeFunctionHit ecl I.ok.glob gl hc (Ck _ I.bk) hPo tr among (D.blt _ I.bk) λug h' NH ext ge=>?_;have I':=I.laid (a:=h'.objs.size) (o:=Pg h'.objs.size (PZ (X.env.qual ++ "<lambda>") params body scope cl ((X.mg "__name__").getD .none) (.ref cc) ug)) (h':=h'.push (PZ (X.env.qual ++ "<lambda>") params body scope cl ((X.mg "__name__").getD .none) (.ref cc) ug)) (t':=NH)
   (λb u e=>al _ (ext b u e)) ge ⟨aQ _ rfl,_,aQ _ rfl⟩
  have sm:=ay (H:=H) (I.cZ.fresh ge) (Pg h'.objs.size (PZ (X.env.qual ++ "<lambda>") params body scope cl ((X.mg "__name__").getD .none) (.ref cc) ug));exact h cl _ _ _ c1 c2 I' (ju.of sm) ⟨ps,sm _ _ hP,tr,.inr ⟨cc,o,vs,tk,among,sm _ _ Op,od,ov⟩⟩ ⟨_,_,cc,o,vs,tk,au,sm _ _ Op,od,ov⟩
end
end L2
namespace HT
open PySem PyProof.Rows
theorem MS (A:bA) (s:ai) (a:Int) (t:RL) (c:Int) (u:RL) (prog:aS) (w:bN) (E:ae->ai->Prop) (Q:ae->ai->Prop) (h:Q (.bool (decide (c<a))) s) :
  wpAny (bn prog w) A (EB .Gt (.int a t) (.int c u)) Q E s :=
 (PyProof.Rows.gt_int h:wpAny (bn prog w) A (dF .Gt (.int a t) (.int c u)) Q E s)
section
open PySem.SeqAt
open PySem.AutoSeq1 (wpAny_loadPart')
open PySem.MeetsSeq PySem.MeetsSeq2 PySem.MeetsSeq3
theorem zf (l b:ak) (items gH:Array ae) (n n2:Nat) (dd TK:Option ak) (sl JK:Array (Option ae)) (ns ms:List Int) (hi:cL items.toList ns) (hj:cL gH.toList ms) :
  Meets (iX.«tuple.__gt__» ⟨[.ref l,.ref b],[]⟩)
   (λ_ R s=>s.heap.get? l=some { cls:=.type "tuple",dict:=dd,data:=.seq items n,slots:=sl }/\s.heap.get? b=some { cls:=.type "tuple",dict:=TK,data:=.seq gH n2,slots:=JK } /\
    R (.ok (.ret (.bool (lexLt ms ns)))) s) :=
 .of_wp λprog w A R s h=>by
  obtain⟨hp,g,d,tk,os⟩:=s;obtain⟨hl,hb,h⟩:=h;have f2:=zj;have z1:items.size=ns.length:=by rw[← hi.length];simp
  have z2:gH.size=ms.length:=by rw[← hj.length];simp
  wp_walk using uo hl,uo hb,afY _ (λrest b s'=>b.1=none/\s'=⟨hp,g,d,tk,os⟩/\∃ (vs ws:List ae) (vM Jn:List Int),rest=vs.zip ws /\
   cL vs vM/\cL ws Jn/\vM.length+gH.size=Jn.length+items.size/\R (.ok (.ret (.bool (lexLt Jn vM)))) ⟨hp,g,d,tk,os⟩) _
  case turn =>
   rintro⟨y,x⟩ rest b s' ⟨IR,rfl,vs,ws,vM,Jn,hz,UM,PF,hlen,hR⟩;cases UM with
   | nil=>rw[OT] at hz;cases hz
   | cons a t UN =>
    cases PF with
    | nil=>rw[N8] at hz;cases hz
    | cons c u UQ =>
     rw[nR] at hz;injection hz with hyx sZ;injection hyx with hy hx;subst hy hx;rw[oH] at hR;simp only [bi] at hlen;obtain⟨e,he,Lw⟩:=Dg A.in1 ⟨hp,g,d,tk,os⟩ a t c u;refine ah (he prog w _ _ ?_);cases e with
     | true =>
      rw[if_pos (Lw.mp rfl).symm] at hR
      wp_walk
      exact⟨rfl,rfl,_,_,_,_,sZ,UN,UQ,by omega,hR⟩
     | false =>
      rw[if_neg (λq=>absurd (Lw.mpr q.symm) bg)] at hR;have hri:=MS A.in1 ⟨hp,g,d,tk,os⟩ a t c u prog w
      wp_walk using hri
      exact⟨_,rfl,by simpa using hR⟩
  case fin =>
   rintro⟨b1,b2⟩ s' ⟨IR,rfl,vs,ws,vM,Jn,hz,UM,PF,hlen,hR⟩;simp only at IR;subst IR;have hv:lexLt Jn vM=decide (gH.size<items.size):=by
    cases UM with
    | nil =>
     cases PF with
     | nil =>
      simp only [fM] at hlen;rw[nF];exact (decide_eq_false (by omega)).symm
     | cons c u hw =>
      simp only [fM,bi] at hlen;rw[pN];exact (decide_eq_false (by omega)).symm
    | cons a t hv =>
     cases PF with
     | nil =>
      simp only [fM,bi] at hlen;rw[pO];exact (decide_eq_true (by omega)).symm
     | cons c u hw =>
      rw[nR] at hz;cases hz
   rw[hv] at hR
   wp_walk
   exact⟨_,rfl,by simpa [qW] using hR⟩
  case h =>
   exact⟨rfl,rfl,items.toList,gH.toList,ns,ms,rfl,hi,hj,by omega,h⟩
end
section
variable {prog:aS} {w:bN} {A:bA} {E:ae->ai->Prop} {s:ai}
theorem xi {l b:ak} {items gH:Array ae} {ns ms:List Int} {Q:ae->ai->Prop} (hl:aaG s.heap l items) (hb:aaG s.heap b gH) (hi:cL items.toList ns) (hj:cL gH.toList ms)
  (hu:A.units<iD) (h:Q (.bool (lexLt ms ns)) s):wpAny (bn prog w) A (dF .Gt (.ref l) (.ref b)) Q E s:=by
 obtain⟨⟨cls,dd,data,sl⟩,ho,hc,n,hd⟩:=id hl;obtain⟨⟨acN,TK,data2,JK⟩,Ow,Ez,n2,hd2⟩:=id hb;simp only at hc hd Ez hd2;subst hc hd Ez hd2;exact QM (op:=.Gt) ⟨_,ho,rfl⟩ ⟨_,Ow,rfl⟩ PySem.F.slot_tuple_gt PySem.F.entry_tuple_gt (PySem.F.args_tuple_gt_2 _ _) (zf l b items gH n n2 dd TK sl JK ns ms hi hj)
  ⟨ho,Ow,show pB (lexLt ms ns)≠IA/\Q (.bool (lexLt ms ns)) s from ⟨(λx=>nomatch x),h⟩⟩ hu
end
end HT
namespace L2
open PySem PySem.Spec PyProof.Rows
section
variable {X:Cx}
def afl (K:aj):R2:=λx y H Q=>∃ a b ns ms,x=.ref a/\y=.ref b/\eU K H a (ns.map V.int)/\eU K H b (ms.map V.int)/\Q (.bl (HT.lexLt ms ns)) H
theorem Vm {K:aj} (hK:X.K=K) (hu:X.A.units<iD):ux X (dF .Gt) (afl K):=by
 subst hK;intro pins s σ H x y v u Q I rx ry h;obtain⟨a,b,ns,ms,rfl,rfl,ha,hb,q⟩:=h;cases rx;cases ry;obtain⟨cw,r1,p1,_⟩:=I.tuple ha;obtain⟨lH,r2,p2,_⟩:=I.tuple hb;have i1:cL cw.toArray.toList ns:=a0c r1;have i2:cL lH.toArray.toList ms:=a0c r2;exact HT.xi p1 p2 i1 i2 hu ⟨.bl (HT.lexLt ms ns),H,I,rfl,q⟩
end
def zU (p q:Int × Int):Prop:=p.1<q.1\/p.1=q.1/\p.2<q.2
theorem LY (p q:Int × Int):HT.lexLt [p.1,p.2] [q.1,q.2]=true↔zU p q:=by
 rw[HT.oH];unfold zU
 by_cases e:p.1=q.1
 ·rw[if_pos e,HT.oH]
  by_cases f:p.2=q.2
  ·rw[if_pos f,HT.nF];exact⟨(λz=>by cases z),λz=>by omega⟩
  ·rw[if_neg f,decide_eq_true_eq];exact⟨λz=>.inr ⟨e,z⟩,λz=>by omega⟩
 ·rw[if_neg e,decide_eq_true_eq];exact⟨λz=>.inl z,λz=>by omega⟩
theorem Ak (A:bA) (args:Args):A.under (.builtin "min.loop" args)=A.in1:=by
 cases A with
 | mk a b c d e =>
  have h1:(mY "min.loop" args).weight=0:=rfl;have h2:(mY "min.loop" args).cUnits=1:=rfl;have h3:pushGuards (mY "min.loop" args).guards d=d:=by cases d <;> rfl
  simp[o9,aay,Rw,qj,pushEnvs,h1,h2,h3]
theorem Aj (A:bA) (args:Args):A.under (.builtin "max.loop" args)=A.in1:=by
 cases A with
 | mk a b c d e =>
  have h1:(mY "max.loop" args).weight=0:=rfl;have h2:(mY "max.loop" args).cUnits=1:=rfl;have h3:pushGuards (mY "max.loop" args).guards d=d:=by cases d <;> rfl
  simp[o9,aay,Rw,qj,pushEnvs,h1,h2,h3]
def Kh (kf:Nat->Int × Int):Nat->Int × Int:=λi=>(-(kf i).1,-(kf i).2)
theorem Me {kf:Nat->Int × Int} {i j:Nat}:zU (Kh kf j) (Kh kf i)↔zU (kf i) (kf j):=by
 unfold zU Kh;show (-(kf j).1 < -(kf i).1\/-(kf j).1=-(kf i).1/\-(kf j).2 < -(kf i).2)↔_;omega
theorem nj {M:Ir} {A:bA} {E:ae->ai->Prop} {s:ai} {S:ak} {o:dR} {items:Array ae} {n:Nat} {Q:Option (Array ae)->ai->Prop} (hS:s.heap.get? S=some o) (hd:o.data=.seq items n) (h:Q (some items) s):wpAny M A (wp (.ref S)) Q E s:=by
 unfold wp;refine ah (wpAny_load hS ?_);rw[hd];exact aH h
def mq (kf:Nat->Int × Int) (n i:Nat):Prop:=∀ j,j<n->¬ zU (kf j) (kf i)/\(j<i->zU (kf i) (kf j))
theorem mq.keep {kf:Nat->Int × Int} {n i:Nat} (h:mq kf n i) (hi:i<n) (hn:¬ zU (kf n) (kf i)):mq kf (n+1) i:=λj hj=>by
 rcases cN j n with c | c
 ·exact h j c
 ·have:j=n:=by omega
  subst this;exact⟨hn,λz=>by omega⟩
theorem mq.next {kf:Nat->Int × Int} {n i:Nat} (h:mq kf n i) (hn:zU (kf n) (kf i)):mq kf (n+1) n:=λj hj=>by
 rcases cN j n with c | c
 ·have:=(h j c).1;unfold zU at *;exact⟨by omega,λ_=>by omega⟩
 ·have:j=n:=by omega
  subst this;unfold zU;exact⟨by omega,λz=>by omega⟩
def m9 (p:Int × Int):List V:=[V.int p.1,V.int p.2]
section
variable {X:Cx} {pins:List (ak × dR)} {σ:St}
theorem mv.of {H H':Hp} {b:ak} (h:mv X pins H b) (hn:H' b=none):mv X pins H' b:=⟨hn,h.2⟩
theorem Ma (kf:Nat->Int × Int) {xs:List V} {l it S q:ak} {H0:Hp} {R:yB->ai->Prop} (pF:X.A.handled=none) (hu:X.A.units+2<iD) (hl:bQ X.K H0 l xs) (ne:xs≠[]) (Vb:S≠it)
  (Tc:∀ (i:Nat) (x:V) (u:ae) (H:Hp) (s:ai) (lS:List (ak × dR)),Inv X lS σ H s->bp H0 H->xs[i]?=some x->RelV x u->wpAny (bn X.prog X.w) X.A.in1 (rF (.ref q) [u]) (EP X lS σ λy H'=>bp H H'/\∃ t,y=.ref t/\H' t=some (.tup (m9 (kf i)))) (λ_ _=>False) s)
  (SY:∀ (i:Nat) (x:V) (u:ae) (H:Hp) (s:ai),Inv X pins σ H s->bp H0 H->xs[i]?=some x->RelV x u->mq kf xs.length i->R (.ok (.ret u)) s) :
  ∀ (r j:Nat) (H:Hp) (s:ai),xs.length-j=r->j<=xs.length->Inv X pins σ H s->bp H0 H->s.heap.IsListIter it l j->mv X pins H it->mv X pins H S ->
   ((j=0/\∃ n,s.heap.get? S=some { cls:=.type "list",data:=.seq #[] n })\/∃ (i:Nat) (x:V) (ub:ae) (t:ak) (n:Nat),s.heap.get? S=some { cls:=.type "list",data:=.seq #[ub,.ref t] n }/\xs[i]?=some x/\RelV x ub/\i<j/\H t=some (.tup (m9 (kf i)))/\mq kf j i) ->
   codeAny (bn X.prog X.w) X.A (.builtin "min.loop" ⟨[.ref it,.ref q,.ref S],[]⟩) R s:=by
 intro r
 induction r with
 | zero =>
  intro j H s hr hj I sm hit fI fS st;have hje:j=xs.length:=by omega
  have yG:0<xs.length:=bT.mpr ne;rcases st with ⟨h0,_⟩ | ⟨i,x,ub,t,n,hS,hx,UI,oZ,ht,ID⟩
  ·omega
  refine fu CS ?_;rw[Ak];unfold iX.«min.loop»;show wpAny _ _ (wp (.ref S) >>= _) _ _ s;refine ah (nj hS rfl ?_);obtain⟨cw,rv,p,hz⟩:=I.list (sm.seq hl);have o6:=rv.length;refine ah (gN (mU pF hit p.isList (by simp;omega) λh' eb=>?_));obtain⟨f0,f1,f2,f3,f4,f5⟩:=fI;have I1:Inv X pins σ H { s with heap:=h' }:=I.turned (t':=s.toks) (λb o hb e=>eb b o hb e) f0 f1 f3 f4 f5;have TZ:h'.get? S=some { cls:=.type "list",data:=.seq #[ub,.ref t] n }:=eb S _ Vb hS;obtain⟨g0,g1,g2,g3,g4,g5⟩:=fS;show wpAny _ _ (mX S (λ_=>#[]) >>= _) _ _ _;refine ah (oh (s:={ s with heap:=h' }) TZ rfl ?_ (by show 2<=aJ;decide) (by show 0<=aJ+1;decide));refine ah (iq (aH ?_));have I2:=I1.turned (t':=s.toks) (h':=h'.update S (cF λ_=>#[])) (λb o hb e=>((fz h' S (cF λ_=>#[])).2 b hb).trans e) g0 g1 g3 g4 g5;exact SY i x ub H _ I2 sm hx UI (hje ▸ ID)
 | succ r ih =>
  intro j H s hr hj I sm hit fI fS st;have yb:j<xs.length:=by omega
  have Fu:xs.length-(j+1)=r:=by clear st;omega
  obtain⟨cw,rv,p,hz⟩:=I.list (sm.seq hl);have o6:=rv.length;obtain⟨u,PB,ru⟩:=rv.get (ao yb);refine fu CS ?_;rw[Ak];unfold iX.«min.loop»;show wpAny _ _ (wp (.ref S) >>= _) _ _ s;obtain⟨oS,items,n,hS,dS,Lo⟩:∃ (oS:dR) (items:Array ae) (n:Nat),s.heap.get? S=some oS/\oS={ cls:=.type "list",data:=.seq items n }/\((j=0/\items=#[])\/∃ (i:Nat) (x:V) (ub:ae) (t:ak),items=#[ub,.ref t]/\xs[i]?=some x/\RelV x ub/\i<j/\H t=some (.tup (m9 (kf i)))/\mq kf j i):=by
   rcases st with ⟨h0,n,h⟩ | ⟨i,x,ub,t,n,hS,h⟩
   ·exact⟨_,_,_,h,rfl,.inl ⟨h0,rfl⟩⟩
   ·exact⟨_,_,_,hS,rfl,.inr ⟨i,x,ub,t,rfl,h⟩⟩
  refine ah (nj hS (by rw[dS]) ?_);refine ah (gN (l8 hit p.isList (x:=u) (by simpa using PB) λh1 Ui sb=>?_));obtain⟨f0,f1,f2,f3,f4,f5⟩:=id fI;obtain⟨g0,g1,g2,g3,g4,g5⟩:=id fS;have I1:Inv X pins σ H { s with heap:=h1 }:=I.turned (t':=s.toks) (λb o hb e=>(sb.2 b hb).trans e) f0 f1 f3 f4 f5;have TZ:h1.get? S=some oS:=(sb.2 S Vb).trans hS;obtain⟨oI,hI1,cI,dI⟩:=id Ui;have I2:Inv X (pins++[(it,oI),(S,oS)]) σ H { s with heap:=h1 }:=I1.kY λp hp=>by
   rcases bj.mp hp with z | z
   ·exact I1.pin p (aT _ z)
   ·rcases aB.mp z with rfl | z
    ·exact⟨hI1,f0,f1,f2,λv=>by rw[dI];exact λz=>by cases z⟩
    ·rw[aP.mp z];exact⟨TZ,g0,g1,g2,λv=>by rw[dS];exact λz=>by cases z⟩
  show wpAny _ _ (tryCatch (j5 [u] (rF (.ref q) [u])) _ >>= _) _ _ _;refine ah (gN (dj (dc (Tc j _ u H _ _ I2 sm (ao yb) ru) (λkv s2 hm=>?_) λ_ _ z=>z.elim)));obtain⟨y,H2,I3,ry,ED,t2,rfl,uI⟩:=hm;obtain rfl:kv=bO t2:=ry;have pI:=I3.pin (it,oI) (by simp);have pS:=I3.pin (S,oS) (by simp);have I4:Inv X pins σ H2 s2:=I3.kY λp hp=>I3.pin p (by
   rcases bj.mp (aT X.pn hp) with z | z
   ·exact bY _ z
   ·exact aT _ (bY _ z))
  have VH:=sm.trans ED;have rN:s2.heap.IsListIter it l (j+1):=⟨oI,pI.1,cI,dI⟩
  have TQ:mv X pins H2 it:=fI.of pI.2.1;have Dh:mv X pins H2 S:=fS.of pS.2.1;have put:∀ (a b:ae) (s2:ai) (n:Nat) (items:Array ae),Inv X pins σ H2 s2->s2.heap.get? S=some { cls:=.type "list",data:=.seq items n }->items.size<=2->s2.heap.IsListIter it l (j+1)->∃ h3 n3,(∀ {E:ae->ai->Prop} {Q:Unit->ai->Prop},Q () { s2 with heap:=h3 }->wpAny (bn X.prog X.w) X.A.in1 (mX S λ_=>#[a,b]) Q E s2)/\Inv X pins σ H2 { s2 with heap:=h3 }/\h3.get? S=some { cls:=.type "list",data:=.seq #[a,b] n3 }/\h3.IsListIter it l (j+1):=λa b s2 n items I4 IP Kg rN=>by
   have ZK:=fz s2.heap S (cF λ_=>#[a,b]);refine⟨s2.heap.update S (cF λ_=>#[a,b]),_,λ{E Q} h=>oh IP rfl h (b7 Kg (by decide)) (by show 2<=aJ+1;decide),I4.turned (t':=s2.toks) (λb o hb e=>(ZK.2 b hb).trans e) Dh.1 Dh.2.1 Dh.2.2.2.1 Dh.2.2.2.2.1 Dh.2.2.2.2.2,iU _ IP rfl,?_⟩;obtain⟨o,e1,e2,e3⟩:=rN;exact⟨o,(ZK.2 it (dG Vb)).trans e1,e2,e3⟩
  have IP:s2.heap.get? S=some { cls:=.type "list",data:=.seq items n }:=by rw[← dS];exact pS.1
  rcases Lo with ⟨h0,rfl⟩ | ⟨i,x,ub,t,rfl,hx,UI,oZ,ht,ID⟩
  ·show wpAny _ _ (mX S (λ_=>#[u,bO t2]) >>= _) _ _ _;obtain⟨h3,n3,w3,I5,T4,Fp⟩:=put u (.ref t2) s2 n #[] I4 IP (by decide) rN;refine ah (w3 ?_);refine aH ⟨rfl,ih (j+1) H2 _ Fu yb I5 VH Fp TQ Dh (.inr ⟨j,_,u,t2,n3,T4,ao yb,ru,cJ j,uI,λj' hj'=>?_⟩)⟩;have:j'=j:=by omega
   subst this;unfold zU;exact⟨by omega,λz=>by omega⟩
  ·have Yz:=ED _ _ ht;obtain⟨i1,r1,p1,_⟩:=I4.tuple (eU.of uI);obtain⟨i2,r2,p2,_⟩:=I4.tuple (eU.of Yz);have a1:cL i1.toArray.toList [(kf j).1,(kf j).2]:=a0c r1;have a2:cL i2.toArray.toList [(kf i).1,(kf i).2]:=a0c r2;show wpAny _ _ (tryCatch (j5 [u,bO t2] (EB .Lt (.ref t2) (.ref t) >>= _)) _ >>= _) _ _ _;refine ah (gN (dj (ah ?_)));refine (HT.FC p1 p2 a1 a2 (by show X.A.units+1<iD;omega) ?_:wpAny (bn X.prog X.w) X.A.in1 (dF .Lt (.ref t2) (.ref t)) _ _ s2);refine ah (dj (e8 (ah (iq (aH ?_)))))
   by_cases c:zU (kf j) (kf i)
   ·rw[(LY _ _).mpr c];show wpAny _ _ (mX S (λ_=>#[u,bO t2]) >>= _) _ _ _;obtain⟨h3,n3,w3,I5,T4,Fp⟩:=put u (.ref t2) s2 n #[ub,.ref t] I4 IP (by show 2<=2;decide) rN;refine ah (w3 (ah (iq ?_)));exact aH ⟨rfl,ih (j+1) H2 _ Fu yb I5 VH Fp TQ Dh (.inr ⟨j,_,u,t2,n3,T4,ao yb,ru,cJ j,uI,ID.next c⟩)⟩
   ·have e:HT.lexLt [(kf j).1,(kf j).2] [(kf i).1,(kf i).2]=false:=by
     cases z:HT.lexLt [(kf j).1,(kf j).2] [(kf i).1,(kf i).2] with
     | false=>rfl
     | true=>exact absurd ((LY _ _).mp z) c
    rw[e];show wpAny _ _ (letGo [u,bO t2] >>= _) _ _ _;refine ah (iq ?_);exact aH ⟨rfl,ih (j+1) H2 _ Fu yb I4 VH rN TQ Dh (.inr ⟨i,x,ub,t,n,IP,hx,UI,cn oZ,Yz,ID.keep oZ c⟩)⟩
theorem L7 (kf:Nat->Int × Int) {xs:List V} {l it S q:ak} {H0:Hp} {R:yB->ai->Prop} (pF:X.A.handled=none) (hu:X.A.units+2<iD) (hl:bQ X.K H0 l xs) (ne:xs≠[]) (Vb:S≠it)
  (Tc:∀ (i:Nat) (x:V) (u:ae) (H:Hp) (s:ai) (lS:List (ak × dR)),Inv X lS σ H s->bp H0 H->xs[i]?=some x->RelV x u->wpAny (bn X.prog X.w) X.A.in1 (rF (.ref q) [u]) (EP X lS σ λy H'=>bp H H'/\∃ t,y=.ref t/\H' t=some (.tup (m9 (kf i)))) (λ_ _=>False) s)
  (SY:∀ (i:Nat) (x:V) (u:ae) (H:Hp) (s:ai),Inv X pins σ H s->bp H0 H->xs[i]?=some x->RelV x u->mq (Kh kf) xs.length i->R (.ok (.ret u)) s) :
  ∀ (r j:Nat) (H:Hp) (s:ai),xs.length-j=r->j<=xs.length->Inv X pins σ H s->bp H0 H->s.heap.IsListIter it l j->mv X pins H it->mv X pins H S ->
   ((j=0/\∃ n,s.heap.get? S=some { cls:=.type "list",data:=.seq #[] n })\/∃ (i:Nat) (x:V) (ub:ae) (t:ak) (n:Nat),s.heap.get? S=some { cls:=.type "list",data:=.seq #[ub,.ref t] n }/\xs[i]?=some x/\RelV x ub/\i<j/\H t=some (.tup (m9 (kf i)))/\mq (Kh kf) j i) ->
   codeAny (bn X.prog X.w) X.A (.builtin "max.loop" ⟨[.ref it,.ref q,.ref S],[]⟩) R s:=by
 intro r
 induction r with
 | zero =>
  intro j H s hr hj I sm hit fI fS st;have hje:j=xs.length:=by omega
  have yG:0<xs.length:=bT.mpr ne;rcases st with ⟨h0,_⟩ | ⟨i,x,ub,t,n,hS,hx,UI,oZ,ht,ID⟩
  ·omega
  refine fu CQ ?_;rw[Aj];unfold iX.«max.loop»;show wpAny _ _ (wp (.ref S) >>= _) _ _ s;refine ah (nj hS rfl ?_);obtain⟨cw,rv,p,hz⟩:=I.list (sm.seq hl);have o6:=rv.length;refine ah (gN (mU pF hit p.isList (by simp;omega) λh' eb=>?_));obtain⟨f0,f1,f2,f3,f4,f5⟩:=fI;have I1:Inv X pins σ H { s with heap:=h' }:=I.turned (t':=s.toks) (λb o hb e=>eb b o hb e) f0 f1 f3 f4 f5;have TZ:h'.get? S=some { cls:=.type "list",data:=.seq #[ub,.ref t] n }:=eb S _ Vb hS;obtain⟨g0,g1,g2,g3,g4,g5⟩:=fS;show wpAny _ _ (mX S (λ_=>#[]) >>= _) _ _ _;refine ah (oh (s:={ s with heap:=h' }) TZ rfl ?_ (by show 2<=aJ;decide) (by show 0<=aJ+1;decide));refine ah (iq (aH ?_));have I2:=I1.turned (t':=s.toks) (h':=h'.update S (cF λ_=>#[])) (λb o hb e=>((fz h' S (cF λ_=>#[])).2 b hb).trans e) g0 g1 g3 g4 g5;exact SY i x ub H _ I2 sm hx UI (hje ▸ ID)
 | succ r ih =>
  intro j H s hr hj I sm hit fI fS st;have yb:j<xs.length:=by omega
  have Fu:xs.length-(j+1)=r:=by clear st;omega
  obtain⟨cw,rv,p,hz⟩:=I.list (sm.seq hl);have o6:=rv.length;obtain⟨u,PB,ru⟩:=rv.get (ao yb);refine fu CQ ?_;rw[Aj];unfold iX.«max.loop»;show wpAny _ _ (wp (.ref S) >>= _) _ _ s;obtain⟨oS,items,n,hS,dS,Lo⟩:∃ (oS:dR) (items:Array ae) (n:Nat),s.heap.get? S=some oS/\oS={ cls:=.type "list",data:=.seq items n }/\((j=0/\items=#[])\/∃ (i:Nat) (x:V) (ub:ae) (t:ak),items=#[ub,.ref t]/\xs[i]?=some x/\RelV x ub/\i<j/\H t=some (.tup (m9 (kf i)))/\mq (Kh kf) j i):=by
   rcases st with ⟨h0,n,h⟩ | ⟨i,x,ub,t,n,hS,h⟩
   ·exact⟨_,_,_,h,rfl,.inl ⟨h0,rfl⟩⟩
   ·exact⟨_,_,_,hS,rfl,.inr ⟨i,x,ub,t,rfl,h⟩⟩
  refine ah (nj hS (by rw[dS]) ?_);refine ah (gN (l8 hit p.isList (x:=u) (by simpa using PB) λh1 Ui sb=>?_));obtain⟨f0,f1,f2,f3,f4,f5⟩:=id fI;obtain⟨g0,g1,g2,g3,g4,g5⟩:=id fS;have I1:Inv X pins σ H { s with heap:=h1 }:=I.turned (t':=s.toks) (λb o hb e=>(sb.2 b hb).trans e) f0 f1 f3 f4 f5;have TZ:h1.get? S=some oS:=(sb.2 S Vb).trans hS;obtain⟨oI,hI1,cI,dI⟩:=id Ui;have I2:Inv X (pins++[(it,oI),(S,oS)]) σ H { s with heap:=h1 }:=I1.kY λp hp=>by
   rcases bj.mp hp with z | z
   ·exact I1.pin p (aT _ z)
   ·rcases aB.mp z with rfl | z
    ·exact⟨hI1,f0,f1,f2,λv=>by rw[dI];exact λz=>by cases z⟩
    ·rw[aP.mp z];exact⟨TZ,g0,g1,g2,λv=>by rw[dS];exact λz=>by cases z⟩
  show wpAny _ _ (tryCatch (j5 [u] (rF (.ref q) [u])) _ >>= _) _ _ _;refine ah (gN (dj (dc (Tc j _ u H _ _ I2 sm (ao yb) ru) (λkv s2 hm=>?_) λ_ _ z=>z.elim)));obtain⟨y,H2,I3,ry,ED,t2,rfl,uI⟩:=hm;obtain rfl:kv=bO t2:=ry;have pI:=I3.pin (it,oI) (by simp);have pS:=I3.pin (S,oS) (by simp);have I4:Inv X pins σ H2 s2:=I3.kY λp hp=>I3.pin p (by
   rcases bj.mp (aT X.pn hp) with z | z
   ·exact bY _ z
   ·exact aT _ (bY _ z))
  have VH:=sm.trans ED;have rN:s2.heap.IsListIter it l (j+1):=⟨oI,pI.1,cI,dI⟩
  have TQ:mv X pins H2 it:=fI.of pI.2.1;have Dh:mv X pins H2 S:=fS.of pS.2.1;have put:∀ (a b:ae) (s2:ai) (n:Nat) (items:Array ae),Inv X pins σ H2 s2->s2.heap.get? S=some { cls:=.type "list",data:=.seq items n }->items.size<=2->s2.heap.IsListIter it l (j+1)->∃ h3 n3,(∀ {E:ae->ai->Prop} {Q:Unit->ai->Prop},Q () { s2 with heap:=h3 }->wpAny (bn X.prog X.w) X.A.in1 (mX S λ_=>#[a,b]) Q E s2)/\Inv X pins σ H2 { s2 with heap:=h3 }/\h3.get? S=some { cls:=.type "list",data:=.seq #[a,b] n3 }/\h3.IsListIter it l (j+1):=λa b s2 n items I4 IP Kg rN=>by
   have ZK:=fz s2.heap S (cF λ_=>#[a,b]);refine⟨s2.heap.update S (cF λ_=>#[a,b]),_,λ{E Q} h=>oh IP rfl h (b7 Kg (by decide)) (by show 2<=aJ+1;decide),I4.turned (t':=s2.toks) (λb o hb e=>(ZK.2 b hb).trans e) Dh.1 Dh.2.1 Dh.2.2.2.1 Dh.2.2.2.2.1 Dh.2.2.2.2.2,iU _ IP rfl,?_⟩;obtain⟨o,e1,e2,e3⟩:=rN;exact⟨o,(ZK.2 it (dG Vb)).trans e1,e2,e3⟩
  have IP:s2.heap.get? S=some { cls:=.type "list",data:=.seq items n }:=by rw[← dS];exact pS.1
  rcases Lo with ⟨h0,rfl⟩ | ⟨i,x,ub,t,rfl,hx,UI,oZ,ht,ID⟩
  ·show wpAny _ _ (mX S (λ_=>#[u,bO t2]) >>= _) _ _ _;obtain⟨h3,n3,w3,I5,T4,Fp⟩:=put u (.ref t2) s2 n #[] I4 IP (by decide) rN;refine ah (w3 ?_);refine aH ⟨rfl,ih (j+1) H2 _ Fu yb I5 VH Fp TQ Dh (.inr ⟨j,_,u,t2,n3,T4,ao yb,ru,cJ j,uI,λj' hj'=>?_⟩)⟩;have:j'=j:=by omega
   subst this;unfold zU;exact⟨by omega,λz=>by omega⟩
  ·have Yz:=ED _ _ ht;obtain⟨i1,r1,p1,_⟩:=I4.tuple (eU.of uI);obtain⟨i2,r2,p2,_⟩:=I4.tuple (eU.of Yz);have a1:cL i1.toArray.toList [(kf j).1,(kf j).2]:=a0c r1;have a2:cL i2.toArray.toList [(kf i).1,(kf i).2]:=a0c r2;show wpAny _ _ (tryCatch (j5 [u,bO t2] (EB .Gt (.ref t2) (.ref t) >>= _)) _ >>= _) _ _ _;refine ah (gN (dj (ah ?_)));refine (HT.xi p1 p2 a1 a2 (by show X.A.units+1<iD;omega) ?_:wpAny (bn X.prog X.w) X.A.in1 (dF .Gt (.ref t2) (.ref t)) _ _ s2);refine ah (dj (e8 (ah (iq (aH ?_)))))
   by_cases c:zU (Kh kf j) (Kh kf i)
   ·rw[(LY _ _).mpr (Me.mp c)];show wpAny _ _ (mX S (λ_=>#[u,bO t2]) >>= _) _ _ _;obtain⟨h3,n3,w3,I5,T4,Fp⟩:=put u (.ref t2) s2 n #[ub,.ref t] I4 IP (by show 2<=2;decide) rN;refine ah (w3 (ah (iq ?_)));exact aH ⟨rfl,ih (j+1) H2 _ Fu yb I5 VH Fp TQ Dh (.inr ⟨j,_,u,t2,n3,T4,ao yb,ru,cJ j,uI,ID.next c⟩)⟩
   ·have e:HT.lexLt [(kf i).1,(kf i).2] [(kf j).1,(kf j).2]=false:=by
     cases z:HT.lexLt [(kf i).1,(kf i).2] [(kf j).1,(kf j).2] with
     | false=>rfl
     | true=>exact absurd (Me.mpr ((LY _ _).mp z)) c
    rw[e];show wpAny _ _ (letGo [u,bO t2] >>= _) _ _ _;refine ah (iq ?_);exact aH ⟨rfl,ih (j+1) H2 _ Fu yb I4 VH rN TQ Dh (.inr ⟨i,x,ub,t,n,IP,hx,UI,cn oZ,Yz,ID.keep oZ c⟩)⟩
end
theorem C6 (nm:String) (v:ae):kE nm ["key","default"] 0 { kw:=[("key",v)] }=pure [some v,none]:=by
 rfl
section
variable {X:Cx} {pins:List (ak × dR)} {σ:St}
theorem L9 (kf:Nat->Int × Int) {xs:List V} {l q:ak} {H:Hp} {s:ai} {Q:VK} {E:ae->ai->Prop} (pF:X.A.handled=none) (hu:X.A.units+2<iD) (I:Inv X pins σ H s) (hl:bQ X.K H l xs) (ne:xs≠[])
  (Tc:∀ (i:Nat) (x:V) (u:ae) (H1:Hp) (s:ai) (lS:List (ak × dR)),Inv X lS σ H1 s->bp H H1->xs[i]?=some x->RelV x u->wpAny (bn X.prog X.w) X.A.in1 (rF (.ref q) [u]) (EP X lS σ λy H'=>bp H1 H'/\∃ t,y=.ref t/\H' t=some (.tup (m9 (kf i)))) (λ_ _=>False) s)
  (SY:∀ (i:Nat) (x:V) (H':Hp),bp H H'->xs[i]?=some x->mq kf xs.length i->Q x H') :
  wpAny (bn X.prog X.w) X.A (rF (.builtin "min") [.ref l] [("key",.ref q)]) (EP X pins σ Q) E s:=by
 refine yx (by rfl) (by rfl) PySem.F.entry_min (PyProof.Rows.kmk_min_key _ _) ?_;unfold Builtin.min;show wpAny _ _ (kE "min" ["key","default"] 0 { kw:=[("key",bO q)] } >>= _) _ _ s;rw[C6];refine ah (aH ?_);obtain⟨cw,rv,p,hz⟩:=I.list hl;refine ah (aH ?_);refine ah (f6 p.isList ?_);refine ah (yg ?_);have I1:Inv X pins σ H { s with heap:=s.heap.push { cls:=.type "list_iterator",data:=.fields #[.ref l,.int 0 0] } }:=I.kept (t':=s.toks) (λb o e=>al _ e);have hit:(s.heap.push { cls:=.type "list_iterator",data:=.fields #[.ref l,.int 0 0] }).IsListIter s.heap.objs.size l 0:=⟨_,aQ _ rfl,rfl,rfl⟩
 have fI:=I.vF (H':=H) (az s.heap.objs.size) (I.cZ.fresh (az _));have VM:(s.heap.push { cls:=.type "list_iterator",data:=.fields #[.ref l,.int 0 0] }).objs.size=s.heap.objs.size+1:=by simp[Heap.push]
 generalize s.heap.push { cls:=.type "list_iterator",data:=.fields #[.ref l,.int 0 0] }=h1 at I1 hit VM;have I2:Inv X pins σ H { s with heap:=h1.push { cls:=.type "list",data:=.seq #[] 0 } }:=I1.kept (t':=s.toks) (λb o e=>al _ e);have fS:=I1.vF (H':=H) (az h1.objs.size) (I1.cZ.fresh (az _));have rN:(h1.push { cls:=.type "list",data:=.seq #[] 0 }).IsListIter s.heap.objs.size l 0:=by
  obtain⟨o,e1,e2,e3⟩:=hit;exact⟨o,al _ e1,e2,e3⟩
 refine aH ⟨rfl,?_⟩;refine Ma (S:=h1.objs.size) (it:=s.heap.objs.size) (q:=q) (R:=λr s'=>match r with
  | CJ (Flow.ret v)=>EP X pins σ Q v s'
  | CJ _=>False
  | Wh e=>E e s') kf pF hu hl ne (by rw[VM];exact lV _) Tc (λi x u H' s' I' sm hx ru b=>⟨x,H',I',ru,SY i x H' sm hx b⟩) _ 0 H _ rfl (bv _) I2 (bp.refl _) rN fI fS (.inl ⟨rfl,0,aQ _ rfl⟩)
theorem L6 (kf:Nat->Int × Int) {xs:List V} {l q:ak} {H:Hp} {s:ai} {Q:VK} {E:ae->ai->Prop} (pF:X.A.handled=none) (hu:X.A.units+2<iD) (I:Inv X pins σ H s) (hl:bQ X.K H l xs) (ne:xs≠[])
  (Tc:∀ (i:Nat) (x:V) (u:ae) (H1:Hp) (s:ai) (lS:List (ak × dR)),Inv X lS σ H1 s->bp H H1->xs[i]?=some x->RelV x u->wpAny (bn X.prog X.w) X.A.in1 (rF (.ref q) [u]) (EP X lS σ λy H'=>bp H1 H'/\∃ t,y=.ref t/\H' t=some (.tup (m9 (kf i)))) (λ_ _=>False) s)
  (SY:∀ (i:Nat) (x:V) (H':Hp),bp H H'->xs[i]?=some x->mq (Kh kf) xs.length i->Q x H') :
  wpAny (bn X.prog X.w) X.A (rF (.builtin "max") [.ref l] [("key",.ref q)]) (EP X pins σ Q) E s:=by
 refine yx (by rfl) (by rfl) PySem.F.entry_max (PyProof.Rows.kmk_max_key _ _) ?_;unfold Builtin.max;show wpAny _ _ (kE "max" ["key","default"] 0 { kw:=[("key",bO q)] } >>= _) _ _ s;rw[C6];refine ah (aH ?_);obtain⟨cw,rv,p,hz⟩:=I.list hl;refine ah (aH ?_);refine ah (f6 p.isList ?_);refine ah (yg ?_);have I1:Inv X pins σ H { s with heap:=s.heap.push { cls:=.type "list_iterator",data:=.fields #[.ref l,.int 0 0] } }:=I.kept (t':=s.toks) (λb o e=>al _ e);have hit:(s.heap.push { cls:=.type "list_iterator",data:=.fields #[.ref l,.int 0 0] }).IsListIter s.heap.objs.size l 0:=⟨_,aQ _ rfl,rfl,rfl⟩
 have fI:=I.vF (H':=H) (az s.heap.objs.size) (I.cZ.fresh (az _));have VM:(s.heap.push { cls:=.type "list_iterator",data:=.fields #[.ref l,.int 0 0] }).objs.size=s.heap.objs.size+1:=by simp[Heap.push]
 generalize s.heap.push { cls:=.type "list_iterator",data:=.fields #[.ref l,.int 0 0] }=h1 at I1 hit VM;have I2:Inv X pins σ H { s with heap:=h1.push { cls:=.type "list",data:=.seq #[] 0 } }:=I1.kept (t':=s.toks) (λb o e=>al _ e);have fS:=I1.vF (H':=H) (az h1.objs.size) (I1.cZ.fresh (az _));have rN:(h1.push { cls:=.type "list",data:=.seq #[] 0 }).IsListIter s.heap.objs.size l 0:=by
  obtain⟨o,e1,e2,e3⟩:=hit;exact⟨o,al _ e1,e2,e3⟩
 refine aH ⟨rfl,?_⟩;refine L7 (S:=h1.objs.size) (it:=s.heap.objs.size) (q:=q) (R:=λr s'=>match r with
  | CJ (Flow.ret v)=>EP X pins σ Q v s'
  | CJ _=>False
  | Wh e=>E e s') kf pF hu hl ne (by rw[VM];exact lV _) Tc (λi x u H' s' I' sm hx ru b=>⟨x,H',I',ru,SY i x H' sm hx b⟩) _ 0 H _ rfl (bv _) I2 (bp.refl _) rN fI fS (.inl ⟨rfl,0,aQ _ rfl⟩)
end
def VP (P:ak) (pos:hW) (qual:bc) (params:jr) (body:b6) (scope:dv) (cells:List (bc × ak)):TE:=λσ H Q=>kZ H P pos qual/\∀ (cl:List (bc × ak)) (q:ak) (H':Hp),(∀ x c,cl.lookup x=some c->cells.lookup x=some c)->(∀ x,(x,aZ)∈scope.names->∃ c,cl.lookup x=some c)->ju P H H'->kZ H' P pos qual->wN H' q qual params body scope cl->Q (.ref q) H'
theorem MF {X:Cx} {P:ak} {params:jr} {body:b6} {scope:dv} {pos:hW} (D:rz X P) (hd:IN params X.env=([],[]):=by rfl) (hf:∀ y∈scope.names,y.2=.free->∃ c,X.env.cells.lookup y.1=some c) :
  PE X (.Lambda params body scope pos) (VP P pos (X.env.qual ++ "<lambda>") params body scope X.env.cells):=by
 intro pins s σ H Q I h;exact LV D I h.1 hd hf λcl q H' s' c1 c2 I' sT t' la=>⟨.ref q,H',I',rfl,h.2 cl q H' c1 c2 sT t' la⟩
section
variable {X:Cx} {pins:List (ak × dR)} {σ:St}
theorem GY {k:Nat} {q:ak} {qual x y:bc} {params:jr} {body:b6} {scope:dv} {cl:List (bc × ak)} {H:Hp} {s:ai} {j:Nat} {pv v:V} {u:ae} {te:TE} {Q:VK} (hr:fG (k+2) X.A) (I:Inv X pins σ H s) (la:wN H q qual params body scope cl) (c1:∀ x c,cl.lookup x=some c->X.env.cells.lookup x=some c)
  (kind:scope.kind=.function) (co:scope.isCoroutine=false) (gen:scope.isGenerator=false) (names:scope.names.lookup x=some .local/\scope.names.lookup y=some .free/\(y,aZ)∈scope.names/\∀ z∈scope.names,z.2≠.cell/\(z.2=.free->z.1=y)) (PM:x≠y) (Os:∃ c,cl.lookup y=some c)
  (hj:X.N[j]?=some y) (hs:σ[j]?=some (some pv)) (nX:X.env.scope.names.lookup y=some .cell)
  (sY:∀ pm di ug,o5 (kC "<lambda>" qual params body scope cl pm di ug) ⟨[u],[]⟩=pure [(x,u)]) (r:RelV v u)
  (hb:∀ di,PE (Dv X.prog X.w X.K X.mg X.base [x,y] qual scope cl q di X.A.in1 X.stack s H) body te) (hq:te [some v,some pv] H Q) :
  wpAny (bn X.prog X.w) X.A.in1 (rF (.ref q) [u]) (EP X pins σ Q) (λ_ _=>False) s:=by
 obtain⟨pm,ug,c,o,vs,t,hq0,hc0,hd,hv⟩:=la;have oq:=(I.cZ q _ hq0).1;have oc:=(I.cZ c _ hc0).1;have lk:scope.names.lookup x=some .local/\scope.names.lookup y=some .free/\(∀ z,scope.names.lookup z=some .free->z=y)/\∀ z∈scope.names,z.2≠.cell:=by
  exact⟨names.1,names.2.1,λz hz=>(names.2.2.2 _ (dU hz)).2 rfl,λz hz=>(names.2.2.2 z hz).1⟩
 obtain⟨cc,Op⟩:=Os;have hXc:=c1 y cc Op;obtain⟨m,hn,adP⟩:=id I.loc;obtain⟨uu,ruu,look⟩:=adP j y pv hj hs (.inr (.inl nX));have hIs:s.heap.IsCell cc (some uu):=by
  rcases look with ⟨kk,_⟩ | ⟨_,c',e1,e2⟩
  ·have kk:X.env.scope.names.lookup y=some .local:=kk;rw[nX] at kk;cases kk
  ·rw[hXc] at e1;cases e1;exact e2
 have C:RD scope cl x [x,y] [pv] s H:=⟨kind,co,gen,lk.2.2.2,lk.1,λa b c h1 h2=>I.ok.inj a b c (c1 a c h1) (c1 b c h2),λz hz=>by rw[lk.2.2.1 z hz];exact⟨cc,Op⟩,λz c hz=>⟨I.nW z c (c1 z c hz),I.cell z c (c1 z c hz)⟩,[y],rfl,rfl,by simpa using PM,λi z v' h1 h2=>by
  cases i with
  | zero=>cases h1;cases h2;exact⟨lk.2.1,cc,uu,Op,hIs,ruu⟩
  | succ i=>cases h1⟩
 refine JS ?_;have run:=P1 (P:=X.prog) (w:=X.w) (K:=X.K) (mg:=X.mg) (base:=X.base) (E:=E0) (Q:=Q) oq ⟨c,o,vs,t,rfl,oc,hd,hv⟩ (sY _ _ _) C hr.in1 I.K7.in1 r (hb _) hq;refine lZ run λrr s' h=>?_;cases rr with
 | ok f =>
  cases f with
  | ret v=>exact I.after h
  | _=>exact h
 | error e=>exact h.elim
end
def Sz (mx:Bool) (P:ak) (pos:hW) (qual:bc) (j:Nat) (ta:TA) (tb:TE):TE:=λσ H Q=>ta σ H λvs H1=>kZ H1 P pos qual/\∃ (l:ak) (xs:List V) (pv:V) (kf:Nat->Int × Int),vs=[.ref l]/\H1 l=some (.lst xs)/\xs≠[]/\σ[j]?=some (some pv) /\
 (∀ i x H2,xs[i]?=some x->ju P H1 H2->tb [some x,some pv] H2 λy H3=>bp H2 H3/\∃ t,y=.ref t/\H3 t=some (.tup (m9 (kf i)))) /\
 ∀ i x H2,xs[i]?=some x->mq (if mx then Kh kf else kf) xs.length i->ju P H1 H2->kZ H2 P pos qual->Q x H2
theorem Qy {X:Cx} {k j:Nat} {P:ak} {x y:bc} {params:jr} {body e:b6} {scope:dv} {pP p pos uL:hW} {ta:TA} {tb:TE} (D:rz X P) (hr:fG (k+2) X.A) (pF:X.calm=true) (hg:Gl X "min") (hm:X.mg "min" = none) (ha:PA X [e] ta)
  (kind:scope.kind=.function) (co:scope.isCoroutine=false) (gen:scope.isGenerator=false) (names:scope.names.lookup x=some .local/\scope.names.lookup y=some .free/\(y,aZ)∈scope.names/\∀ z∈scope.names,z.2≠.cell/\(z.2=.free->z.1=y)) (PM:x≠y) (hj:X.N[j]?=some y) (nX:X.env.scope.names.lookup y=some .cell)
  (sY:∀ cl u pm di ug,o5 (kC "<lambda>" (X.env.qual ++ "<lambda>") params body scope cl pm di ug) ⟨[u],[]⟩=pure [(x,u)])
  (hb:∀ cl q di s H,PE (Dv X.prog X.w X.K X.mg X.base [x,y] (X.env.qual ++ "<lambda>") scope cl q di X.A.in1 X.stack s H) body tb)
  (hd:IN params X.env=([],[]):=by rfl)
  (h1:gx pos (bD [e] X.env)=(false,eO e X.env)::gx pos (bD [] X.env):=by rfl) (h2:((gx pos (bD [e] X.env)).any λx=>x.fst)=false:=by rfl)
  (h3:((lY pos (ie [⟨some ("key" : bc),.Lambda params body scope pP,uL⟩] X.env)).all λx=>x.fst.isSome)=true:=by rfl) (h4:((lY pos (ie [⟨some ("key" : bc),.Lambda params body scope pP,uL⟩] X.env)).any λx=>x.fst.isNone)=false:=by rfl)
  (h5:Wm (λx=>x.fst) (lY pos (ie [⟨some ("key" : bc),.Lambda params body scope pP,uL⟩] X.env))=[("key" : bc)]:=by rfl) :
  PE X (.Call (.Name "min" p) [e] [⟨some ("key" : bc),.Lambda params body scope pP,uL⟩] pos) (Sz false P pP (X.env.qual ++ "<lambda>") j ta tb):=by
 intro pins s σ H Q I h;refine jd (lI I hg hm boot_min ?_ (by decide) (by decide));refine vW (eY (ha pos pins s σ H _ I h) λus s1 cW=>?_) h1 h2 h3 h4;obtain⟨vs,H1,I1,r1,tab,l,xs,pv,kf,rfl,hl,ne,hs,hk,q⟩:=cW;have T8:∃ c,X.env.cells.lookup y=some c:=I1.ok.has y (.inl nX);have hf:∀ z∈scope.names,z.2=.free->∃ c,X.env.cells.lookup z.1=some c:=λz hz hf=>by
  rw[(names.2.2.2 z hz).2 hf];exact T8
 have hPK:PK X [⟨some ("key" : bc),.Lambda params body scope pP,uL⟩] (HQ (VP P pP (X.env.qual ++ "<lambda>") params body scope X.env.cells) Q6):=Hh (MF D hd hf) MJ;have hyf:(y,aZ)∈scope.names:=names.2.2.1;obtain⟨ps,hP,_⟩:=id tab;have nlP:l≠P:=λz=>by rw[z,hP] at hl;cases hl
 refine eY (hPK pos pins s1 σ H1 (λzs H2=>∃ (cl:List (bc × ak)) (qa:ak),zs=[.ref qa]/\(∀ x c,cl.lookup x=some c->X.env.cells.lookup x=some c)/\(∃ c,cl.lookup y=some c)/\ju P H1 H2/\kZ H2 P pP (X.env.qual ++ "<lambda>")/\wN H2 qa (X.env.qual ++ "<lambda>") params body scope cl) I1 ⟨tab,λcl qa H2 c1 c2 sT t2 la=>⟨cl,qa,rfl,c1,c2 y hyf,sT,t2,la⟩⟩) λws s2 cW=>?_;obtain⟨zs,H2,I2,r2,cl,qa,rfl,c1,Os,sT,t2,la⟩:=cW;rw[h5];obtain⟨u,rfl,ru⟩:=a0e r1;cases ru;obtain⟨u2,rfl,VC⟩:=a0e r2;cases VC;refine L9 kf (I2.ok.hd pF) (xp hr 2) I2 (bQ.of (sT _ _ nlP hl)) ne (λi x' u H3 s3 lS I3 sm hx ru=>?_) (λi x' H' sm hx b=>q i x' H' hx b (sT.trans (ju.of sm)) (t2.up sm));have la3:wN H3 qa (X.env.qual ++ "<lambda>") params body scope cl:=by
  obtain⟨pm,ug,c,o,vs,t,a1,a2,a3⟩:=la;exact⟨pm,ug,c,o,vs,t,sm _ _ a1,sm _ _ a2,a3⟩
 exact GY hr I3 la3 c1 kind co gen names PM Os hj hs nX (λpm di ug=>sY cl u pm di ug) ru (λdi=>hb cl qa di s3 H3) (hk i x' H3 hx (sT.trans (ju.of sm)))
theorem Qw {X:Cx} {k j:Nat} {P:ak} {x y:bc} {params:jr} {body e:b6} {scope:dv} {pP p pos uL:hW} {ta:TA} {tb:TE} (D:rz X P) (hr:fG (k+2) X.A) (pF:X.calm=true) (hg:Gl X "max") (hm:X.mg "max" = none) (ha:PA X [e] ta)
  (kind:scope.kind=.function) (co:scope.isCoroutine=false) (gen:scope.isGenerator=false) (names:scope.names.lookup x=some .local/\scope.names.lookup y=some .free/\(y,aZ)∈scope.names/\∀ z∈scope.names,z.2≠.cell/\(z.2=.free->z.1=y)) (PM:x≠y) (hj:X.N[j]?=some y) (nX:X.env.scope.names.lookup y=some .cell)
  (sY:∀ cl u pm di ug,o5 (kC "<lambda>" (X.env.qual ++ "<lambda>") params body scope cl pm di ug) ⟨[u],[]⟩=pure [(x,u)])
  (hb:∀ cl q di s H,PE (Dv X.prog X.w X.K X.mg X.base [x,y] (X.env.qual ++ "<lambda>") scope cl q di X.A.in1 X.stack s H) body tb)
  (hd:IN params X.env=([],[]):=by rfl)
  (h1:gx pos (bD [e] X.env)=(false,eO e X.env)::gx pos (bD [] X.env):=by rfl) (h2:((gx pos (bD [e] X.env)).any λx=>x.fst)=false:=by rfl)
  (h3:((lY pos (ie [⟨some ("key" : bc),.Lambda params body scope pP,uL⟩] X.env)).all λx=>x.fst.isSome)=true:=by rfl) (h4:((lY pos (ie [⟨some ("key" : bc),.Lambda params body scope pP,uL⟩] X.env)).any λx=>x.fst.isNone)=false:=by rfl)
  (h5:Wm (λx=>x.fst) (lY pos (ie [⟨some ("key" : bc),.Lambda params body scope pP,uL⟩] X.env))=[("key" : bc)]:=by rfl) :
  PE X (.Call (.Name "max" p) [e] [⟨some ("key" : bc),.Lambda params body scope pP,uL⟩] pos) (Sz true P pP (X.env.qual ++ "<lambda>") j ta tb):=by
 intro pins s σ H Q I h;refine jd (lI I hg hm boot_max ?_ (by decide) (by decide));refine vW (eY (ha pos pins s σ H _ I h) λus s1 cW=>?_) h1 h2 h3 h4;obtain⟨vs,H1,I1,r1,tab,l,xs,pv,kf,rfl,hl,ne,hs,hk,q⟩:=cW;have T8:∃ c,X.env.cells.lookup y=some c:=I1.ok.has y (.inl nX);have hf:∀ z∈scope.names,z.2=.free->∃ c,X.env.cells.lookup z.1=some c:=λz hz hf=>by
  rw[(names.2.2.2 z hz).2 hf];exact T8
 have hPK:PK X [⟨some ("key" : bc),.Lambda params body scope pP,uL⟩] (HQ (VP P pP (X.env.qual ++ "<lambda>") params body scope X.env.cells) Q6):=Hh (MF D hd hf) MJ;have hyf:(y,aZ)∈scope.names:=names.2.2.1;obtain⟨ps,hP,_⟩:=id tab;have nlP:l≠P:=λz=>by rw[z,hP] at hl;cases hl
 refine eY (hPK pos pins s1 σ H1 (λzs H2=>∃ (cl:List (bc × ak)) (qa:ak),zs=[.ref qa]/\(∀ x c,cl.lookup x=some c->X.env.cells.lookup x=some c)/\(∃ c,cl.lookup y=some c)/\ju P H1 H2/\kZ H2 P pP (X.env.qual ++ "<lambda>")/\wN H2 qa (X.env.qual ++ "<lambda>") params body scope cl) I1 ⟨tab,λcl qa H2 c1 c2 sT t2 la=>⟨cl,qa,rfl,c1,c2 y hyf,sT,t2,la⟩⟩) λws s2 cW=>?_;obtain⟨zs,H2,I2,r2,cl,qa,rfl,c1,Os,sT,t2,la⟩:=cW;rw[h5];obtain⟨u,rfl,ru⟩:=a0e r1;cases ru;obtain⟨u2,rfl,VC⟩:=a0e r2;cases VC;refine L6 kf (I2.ok.hd pF) (xp hr 2) I2 (bQ.of (sT _ _ nlP hl)) ne (λi x' u H3 s3 lS I3 sm hx ru=>?_) (λi x' H' sm hx b=>q i x' H' hx b (sT.trans (ju.of sm)) (t2.up sm));have la3:wN H3 qa (X.env.qual ++ "<lambda>") params body scope cl:=by
  obtain⟨pm,ug,c,o,vs,t,a1,a2,a3⟩:=la;exact⟨pm,ug,c,o,vs,t,sm _ _ a1,sm _ _ a2,a3⟩
 exact GY hr I3 la3 c1 kind co gen names PM Os hj hs nX (λpm di ug=>sY cl u pm di ug) ru (λdi=>hb cl qa di s3 H3) (hk i x' H3 hx (sT.trans (ju.of sm)))
end L2
namespace L2
open PySem PySem.W PySem.Calls PyProof.Rows
def UZ:ae->Bool | .str _ _=>true | _=>false
def LP:ae->Bool | .int _ _=>true | _=>false
def PU:ae->Bool | .bool _=>true | _=>false
def zM:ae->Bool | .type "code" => true | _=>false
def Bb (K:Frag):Option ak:=match nsIn K bf "__builtins__" with
 | some (some (.ref bm))=>match K.lookup bm with
  | some ⟨.type "module",some d,.plain,_⟩=>if d=k6/\bm≠k6/\bm≠bf then some bm else none
  | _=>none
 | _=>none
def nE (K:Frag) (f:ak):Option ak:=match K.lookup f,Bb K with
 | some ⟨_,_,.func fd,_⟩,some bm=>match fd.code with
  | .ref c=>match K.lookup c with
   | some ⟨cl,_,.fields vs,_⟩=>match ((vs:Array ae)[11]?:Option ae) with
    | some (bO P)=>if zM cl/\UZ (vs.getD 18 .none)/\LP (vs.getD 7 .none)/\PU (vs.getD 9 .none)/\LP (vs.getD 10 .none)/\c≠P/\bf≠P/\bm≠P/\(K.lookup P).isNone then some P else none
    | _=>none
   | _=>none
  | _=>none
 | _,_=>none
def ee (K:Frag) (x:bc):ak:=match nsIn K bf x with
 | some (some (.ref f))=>(nE K f).getD 0
 | _=>0
def u8 (K:Frag) (mg:bc->Option ae) (x:bc):Prop:=∃ f,mg x=some (.ref f)/\nE K f=some (ee K x)
theorem IC {K:Frag} {bm:ak} (e:Bb K=some bm):∃ sl,nsIn K bf "__builtins__" = some (some (.ref bm))/\K.lookup bm=some ⟨.type "module",some k6,.plain,sl⟩/\bm≠k6/\bm≠bf:=by
 unfold Bb at e;split at e
 ·rename_i b hb;split at e
  ·rename_i d sl hl;split at e
   ·rename_i h;obtain⟨h1,h2,h3⟩:=h;injection e with e;subst e;subst h1;exact⟨sl,hb,hl,h2,h3⟩
   ·cases e
  ·cases e
 ·cases e
theorem zQ {K:Frag} {f P:ak} (e:nE K f=some P):∃ (oc:ae) (od:Option ak) (fd:fP) (sl:Array (Option ae)) (c:ak) (bm:ak),K.lookup f=some ⟨oc,od,.func fd,sl⟩/\fd.code=.ref c/\Bb K=some bm/\bm≠P/\bf≠P/\K.lookup P=none/\∀ h:cj,K.In h->CodeHd h c P:=by
 unfold nE at e;split at e
 ·rename_i oc od fd sl bm hf hb;split at e
  ·rename_i c hc;split at e
   ·rename_i cl cd vs csl hk;split at e
    ·rename_i Q hQ;split at e
     ·rename_i hh;obtain⟨h0,h1,h2,h3,h4,h5,h6,h7,h8⟩:=hh;injection e with e;subst e;refine⟨oc,od,fd,sl,c,bm,hf,hc,hb,h7,h6,by simpa using h8,λh X=>?_⟩;have s1:∃ a b,vs.getD 18 .none=.str a b:=by
       cases z:vs.getD 18 .none <;> rw[z] at h1 <;> first | exact⟨_,_,rfl⟩ | cases h1
      have s2:∃ a b,vs.getD 7 .none=.int a b:=by
       cases z:vs.getD 7 .none <;> rw[z] at h2 <;> first | exact⟨_,_,rfl⟩ | cases h2
      have s3:∃ a,vs.getD 9 .none=.bool a:=by
       cases z:vs.getD 9 .none <;> rw[z] at h3 <;> first | exact⟨_,rfl⟩ | cases h3
      have s4:∃ a b,vs.getD 10 .none=.int a b:=by
       cases z:vs.getD 10 .none <;> rw[z] at h4 <;> first | exact⟨_,_,rfl⟩ | cases h4
      have s0:cl=.type "code" := by
       unfold zM at h0;split at h0
       ·rfl
       ·cases h0
      obtain⟨f1,f2,e1⟩:=s1;obtain⟨g1,g2,e2⟩:=s2;obtain⟨i1,e3⟩:=s3;obtain⟨t1,t2,e4⟩:=s4;exact⟨_,vs,f1,f2,g1,g2,i1,t1,t2,X _ _ hk,s0,rfl,hQ,by rw[dD,hQ];rfl,e1,e2,e3,e4,h5⟩
     ·cases e
    ·cases e
   ·cases e
  ·cases e
 ·cases e
theorem P0 {X:Cx} {f P:ak} {oc:ae} {od:Option ak} {fd:fP} {sl:Array (Option ae)} (ok:Mod X.K X.mg X.base) (hf:X.K.lookup f=some ⟨oc,od,.func fd,sl⟩) (hc:X.env.code=fd.code) (e:nE X.K f=some P):rz X P:=by
 obtain⟨oc',od',fd',sl',c,bm,h1,h2,h3,h4,h5,h6,h7⟩:=zQ e;rw[hf] at h1;cases h1;obtain⟨msl,b1,b2,b3,b4⟩:=IC h3;refine⟨⟨c,hc.trans h2,λh k=>h7 h (ok.PY.keeps k)⟩,λh k=>⟨bm,_,mg_of ok.PY ok.glob b1,b3,b4,h4,k _ _ (ok.PY _ _ b2),rfl,rfl,rfl⟩,h5⟩
theorem Gk.okL {P:aS} {w:bN} {K:Frag} {mg:bc->Option ae} {base:cj} {x qual:bc} {st:cK} {f:ak} {fd:fP} {N ps:List bc} {k:Nat} {sp:Sp} {T:ak} (F:Gk K x qual st f fd) (hT:nE K f=some T) (S:bM N ps (aG st)) (len:∀ vs H Q E,sp vs H Q E->vs.length=ps.length)
  (mD:∀ (di:ae) (A:bA) (outer:List qk) (s:ai) (H:Hp) (vs:List V) (Q:VK) (E:XK),(Mod K mg base->rz (rG yq P w K mg base N qual (aG st) f di A outer s H E).Jp T)->fG k (A.deeper (mV qual (aG st) s.heap.objs.size f di))->sp vs H Q E ->
   ∃ t,(Mod K mg base->xZ (rG yq P w K mg base N qual (aG st) f di A outer s H E).Jp (fH st) t)/\t { nx:=λ_ H'=>Q .fj H',rt:=Q } (start N vs) H):px P w K mg base yq (k+1) f fd ps sp:=by
 obtain⟨oc,od,kV,doc,pm,an,di,ct,OB,rfl,lk,Ck⟩:=F.ex;refine La lk Ck S len λA outer s H vs Q E hr EA=>?_;obtain⟨t,h,q⟩:=mD di A outer s H vs Q E (λm=>P0 (X:=(rG yq P w K mg base N qual (aG st) f di A outer s H E).Jp) m lk rfl hT) hr EA;refine⟨t,xZ.Jp (λpins s' σ H' D I hh=>h I.ok.mod pins s' σ H' D I hh),q⟩
def LR:dR->Bool
 | ⟨.none,_,.fields _,_⟩=>true
 | _=>false
def zZ (as:List ak) (h:cj):Frag:=(BF as h).filter λp=>!LR p.2
theorem FR {h:cj} {as:List ak} {a:ak} {o:dR} (e:(a,o)∈BF as h):h.get? a=some o:=by
 unfold BF at e;obtain⟨b,_,hb⟩:=kn.mp e;obtain⟨o',h1,h2⟩:=dP.mp hb;cases h2;exact h1
theorem L0 {β:Type} {a:ak} {b:β}:∀ (l:List (ak × β)),l.lookup a=some b->(a,b)∈l
 | [],h=>by cases h
 | (c,d)::l,h=>by
  rw[bP] at h;cases q:a == c with
  | true =>
   rw[q] at h;have h:some d=some b:=h;cases h;rw[eq_of_beq q];exact aE
  | false =>
   rw[q] at h;exact aL _ (L0 l h)
theorem MA (h:cj) (as:List ak):(zZ as h).In h:=λa o e=>by
 have m:(a,o)∈(BF as h).filter λp=>!LR p.2:=L0 _ e;exact FR (as:=as) (bF.mp m).1
def NB (K:Frag) (h:cj) (x:bc):Bool:=match nsIn K bf x with
 | some (some (.ref f))=>match nE K f with
  | some P=>match h.get? P with
   | some ⟨.none,none,.fields ps,sl⟩=>ps.size == 0 && sl.size == 0
   | _=>false
  | none=>false
 | _=>false
theorem Q8 {K:Frag} {h:cj} {x:bc} (e:NB K h x=true):∃ f,nsIn K bf x=some (some (.ref f))/\nE K f=some (ee K x)/\h.get? (ee K x)=some (tabObj #[]):=by
 unfold NB at e;split at e
 ·rename_i f hf;split at e
  ·rename_i P hP;split at e
   ·rename_i ps sl hg;have ea:ee K x=P:=by unfold ee;rw[hf];show (nE K f).getD 0=P;rw[hP];rfl
    rw[bR,beq_iff_eq,beq_iff_eq] at e;have e1:ps=#[]:=wF e.1;have e2:sl=#[]:=wF e.2;subst e1 e2;exact⟨f,hf,by rw[ea];exact hP,by rw[ea];exact hg⟩
   ·cases e
  ·cases e
 ·cases e
def lF (xs:List bc) (K:Frag) (h:cj):Prop:=∀ x∈xs,∃ f,nsIn K bf x=some (some (.ref f))/\nE K f=some (ee K x)/\h.get? (ee K x)=some (tabObj #[])
theorem lF.of {xs:List bc} {K:Frag} {h:cj} (e:(xs.all λx=>NB K h x)=true):lF xs K h:=λx hx=>Q8 (f9.mp e x hx)
def Gz (xs:List bc) (K:Frag) (H:Hp):Prop:=∀ x∈xs,H (ee K x)=some (.vQ #[])
theorem Ji {P:aS} {w:bN} {K:Frag} {mg mb:bc->Option ae} {k:Nat} {fa a:ak} {fd:fP} {x:bc} {sp:Sp} {s₁:ai} {vs:List ae} {ns:List Int} {xs:List bc}
  (KX:K.In s₁.heap) (yd:s₁.heap.Ns bf mg) (hb:s₁.heap.Ns k6 mb) (XE:∀ x:bc,x ≠ "__name__" -> mb x=oE x) (adN:s₁.heap.NoLimit) (hg:s₁.gens=#[]) (TI:lF xs K s₁.heap)
  (ha:s₁.heap.get? a=some { cls:=.type "list",data:=.seq vs.toArray }) (hi:cL vs ns) (hl:ns.length<=aJ) (hr:fG k Bh)
  (F:∀ base:cj,K.In base->base.Ns bf mg->px P w K mg base yq k fa fd [x] sp) (sY:∀ (s:ai) (u:ae),OL s fd ⟨[u],[]⟩ [(x,u)])
  (EA:∀ H:Hp,Gz xs K H->bQ K H a (ns.map V.int)->sp [.ref a] H (λv _=>v=.bl true) λ_ _ _=>False) :
  codeAny (bn P w) Bh (.call (.ref fa) ⟨[.ref a],[]⟩) (λr s'=>r=.ok (.ret (.bool true))/\OldK s₁.heap s'.heap/\s'.os=s₁.os/\qi s'.gens) s₁:=by
 have rv:=Al hi;have ae0:=hi.length
 let LQ:ak->Prop:=λb=>∃ y∈xs,ee K y=b
 have tK:∀ b,LQ b->K.lookup b=none/\s₁.heap.get? b=some (tabObj #[])/\isCodeTable s₁.heap b:=λb ⟨y,hy,e⟩=>by
  obtain⟨f,h1,h2,h3⟩:=TI y hy;obtain⟨_,_,_,_,c,_,_,_,_,_,_,h4,h5⟩:=zQ h2;rw[e] at h3 h4 h5;obtain⟨o,cvs,_,_,_,_,_,_,_,g1,g2,g3,g4,_⟩:=h5 _ KX;exact⟨h4,h3,c,o,cvs,g1,g2,g3,g4⟩
 have naT:¬ LQ a:=λz=>by
  have:=(tK a z).2.1;rw[ha] at this;cases this
 have core : ∀ H:Hp,bQ K H a (ns.map V.int)->pz P w H s₁.heap->(∀ b,LQ b->H b=some (.vQ #[]))->(∀ b,H b≠none->LQ b\/(b=a/\K.lookup a=none/\∃ o zs,H b=some (.Bm o (.lst zs)))) ->
   codeAny (bn P w) Bh (.call (.ref fa) ⟨[.ref a],[]⟩) (λr s'=>r=.ok (.ret (.bool true))/\OldK s₁.heap s'.heap/\s'.os=s₁.os/\qi s'.gens) s₁:=by
  intro H hS cZ hT hA;have GB:∀ {b:ak} {o:dR},s₁.heap.get? b=some o->H b=none->(Bp s₁.heap H).get? b=some o:=λe n=>Lv e n;have Y7:∀ {b:ak} {o:dR} {es:Array DictEntry} {ep:Nat},s₁.heap.get? b=some o->o.data=.dict es ep->H b=none:=λ{b o es ep} e d=>by
   cases q:H b with
   | none=>rfl
   | some u =>
    rcases hA b (by rw[q];simp) with z | ⟨e',_⟩
    ·rw[(tK b z).2.1] at e;cases e;cases d
    ·subst e';rw[ha] at e;cases e;have d':Data.seq vs.toArray _=Ry es ep:=d;cases d'
  have nsK:∀ {b:ak} {m:bc->Option ae},s₁.heap.Ns b m->(Bp s₁.heap H).Ns b m:=λ{b m} ⟨o,es,ep,e,d,r⟩=>⟨o,es,ep,GB e (Y7 e d),d,r⟩
  have hKb:K.In (Bp s₁.heap H):=λb o e=>GB (KX b o e) (by
   cases q:H b with
   | none=>rfl
   | some u =>
    rcases hA b (by rw[q];simp) with z | ⟨e',hK,_⟩
    ·rw[(tK b z).1] at e;cases e
    ·subst e';rw[hK] at e;cases e)
  have hM:Mod K mg (Bp s₁.heap H):=⟨hKb,nsK yd,⟨mb,nsK hb,XE⟩,let ⟨mc,h1,h2⟩:=adN;⟨mc,nsK h1,h2⟩⟩
  have e0:wK P w K mg (Bp s₁.heap H) Bh [] s₁ H:=⟨rfl,hM,λb o e=>P8 e,wP (IV _ _),trivial,λb hb=>absurd (show b∈([]:List ak) from hb) (by simp),cZ,.of_eq hg⟩
  refine lZ ((F _ hKb (nsK yd)).run Bh [] s₁ H ⟨[.ref a],[]⟩ [.ref a] [.ref a] _ _ hr e0 (sY s₁ (.ref a)) (.cons rfl .nil) (EA H (λy hy=>hT _ ⟨y,hy,rfl⟩) hS)) λr s' h=>?_;cases r with
  | error e=>exact h.elim
  | ok fl =>
   cases fl with
   | next=>exact fF h
   | brk=>exact fF h
   | cont=>exact fF h
   | ret u =>
    obtain⟨v,H',os,bare,un,LF,r',q⟩:=h;have q':v=.bl true:=q;subst q';obtain rfl:u=pB true:=r';refine⟨rfl,⟨λb o e=>?_,λb o e=>un.there b o e (by simp)⟩,os,bare⟩;cases q:H b with
    | none=>exact .inl (un.keep b o e q (by intro z;exact absurd (show b∈([]:List ak) from z) (by simp)) (by simp))
    | some u =>
     rcases hA b (by rw[q];simp) with z | ⟨e',_,ob,zs,z⟩
     ·obtain⟨_,t2,t3⟩:=tK b z;rw[t2] at e;cases e;obtain⟨more,e2⟩:=un.tY b _ (hT b z);exact .inr (.inl ⟨t3,rfl,#[],more,rfl,LF b _ e2⟩)
     ·have z2:=un.sW b ob _ z;obtain⟨e1,_⟩:=cZ b _ z;obtain⟨e2,_⟩:=LF b _ z2;rw[e] at e1;cases e1;exact .inl e2
 have XA:∀ (H:Hp) (b:ak),LQ b->H b=some (.vQ #[])->∀ u,H b=some u->gu P w H s₁.heap b u:=λH b z e u hu=>by
  rw[e] at hu;cases hu;exact (tK b z).2.1
 cases hk:K.lookup a with
 | some o =>
  have e:=KX a o hk;rw[ha] at e;cases e;refine core (λb=>open Classical in if LQ b then some (.vQ #[]) else none) (.inr ⟨_,vs.toArray,_,hk,rfl,rfl,rfl,by rw[aV,ae0];exact hl,by simpa using rv⟩) (λb u z=>?_) (λb z=>if_pos z) λb z=>?_
  ·by_cases c:LQ b
   ·exact XA _ b c (if_pos c) u z
   ·have z':=(if_neg c).symm.trans z;cases z'
  ·by_cases c:LQ b
   ·exact .inl c
   ·exact absurd (if_neg c) z
 | none =>
  refine core (λb=>open Classical in if LQ b then some (.vQ #[]) else if b=a then some (.Bm { cls:=.type "list",data:=.seq vs.toArray } (.lst (ns.map V.int))) else none) (.inl (.inr ⟨{ cls:=.type "list",data:=.seq vs.toArray },(if_neg naT).trans (if_pos rfl)⟩)) (λb u z=>?_) (λb z=>if_pos z) λb z=>?_
  ·by_cases c:LQ b
   ·exact XA _ b c (if_pos c) u z
   ·by_cases hb:b=a
    ·have z':=((if_neg c).trans (if_pos hb)).symm.trans z;cases z';subst hb;exact⟨ha,by rw[ag];exact hl,vs,_,rv,ha⟩
    ·have z':=((if_neg c).trans (if_neg hb)).symm.trans z;cases z'
  ·by_cases c:LQ b
   ·exact .inl c
   ·by_cases hb:b=a
    ·exact .inr ⟨hb,hk,_,_,(if_neg c).trans (if_pos hb)⟩
    ·exact absurd ((if_neg c).trans (if_neg hb)) z
theorem NN {l:OpenLaw} {n k:Nat} {q:aS} {loose:List bc} {XP:(bc->Option ae)->cj->Prop} {d:DefRec} {Fc:bN->Frag->Prop} {sp:Frag->Sp} {x nm:bc} {xs:List bc}
  (hn:l.most=some n) (LC:n<=aJ) (hdf:d.params.defaults=[]) (hr:fG k Bh) (Uw:d.name=nm)
  (F:∀ (w:bN) (K:Frag) (mg:bc->Option ae) (fa:ak) (h:cj),Fc w K->K.In h->lF xs K h->h.Ns bf mg->mg nm=some (.ref fa) ->
   ∃ fd:fP,(∀ (s:ai) (u:ae),OL s fd ⟨[u],[]⟩ [(x,u)])/\∀ base:cj,K.In base->base.Ns bf mg->px l.prog w K mg base yq k fa fd [x] (sp K))
  (EA:∀ (K:Frag) (H:Hp) (a:ak) (ns:List Int),ns.length<=n->Gz xs K H->bQ K H a (ns.map V.int)->sp K [.ref a] H (λv _=>v=.bl true) λ_ _ _=>False) :
  WalkO q loose XP (λw h=>∃ K:Frag,K.In h/\Fc w K/\lF xs K h) l.row.toRowW d [] (λf vs=>acw f vs):=by
 refine Att.C3 hn hdf λw s₀ s₁ mg mb fa o pm cd doc a vs ns G Y ho hd Ck Wz Uy hints hlen hg=>?_;obtain⟨K,KX,fc,ti⟩:=Y;rw[Uw] at Wz;obtain⟨fd,hb,hF⟩:=F w K mg fa _ fc KX ti G.T.g Wz;exact Ji KX G.T.g G.T.b G.T.builtins G.T.nolimit hg ti Uy hints (b7 hlen LC) hr hF hb (λH hT hS=>EA K H a ns hlen hT hS)
theorem Dw {xs:List bc} {K:Frag} {h:cj} {mg:bc->Option ae} {x:bc} (X:K.In h) (G:h.Ns bf mg) (t:lF xs K h) (hx:x∈xs):u8 K mg x:=by
 obtain⟨f,h1,h2,_⟩:=t x hx;exact⟨f,mg_of X G h1,h2⟩
theorem lF.keeps {xs:List bc} {K:Frag} {h h':cj} (t:lF xs K h) (k:∀ b o,h.get? b=some o->h'.get? b=some o):lF xs K h':=λx hx=>by
 obtain⟨f,h1,h2,h3⟩:=t x hx;exact⟨f,h1,h2,k _ _ h3⟩
theorem aX.okL {P:aS} {w:bN} {K:Frag} {mg:bc->Option ae} {base:cj} {x:bc} {st:cK} {N ps:List bc} {k:Nat} {sp:Sp} (D:aX K mg x st ps) (L:u8 K mg x) (S:bM N ps (aG st)) (len:∀ vs H Q E,sp vs H Q E->vs.length=ps.length)
  (mD:∀ (f:ak) (di:ae) (A:bA) (outer:List qk) (s:ai) (H:Hp) (vs:List V) (Q:VK) (E:XK),(Mod K mg base->rz (rG yq P w K mg base N x (aG st) f di A outer s H E).Jp (ee K x))->fG k (A.deeper (mV x (aG st) s.heap.objs.size f di))->sp vs H Q E ->
   ∃ t,(Mod K mg base->xZ (rG yq P w K mg base N x (aG st) f di A outer s H E).Jp (fH st) t)/\t { nx:=λ_ H'=>Q .fj H',rt:=Q } (start N vs) H):Dn P w K mg base x (k+1) ps sp:=by
 obtain⟨f,fd,F,hm,hb⟩:=D;obtain⟨f',hm',hl⟩:=L;rw[hm] at hm';cases hm';exact⟨f,fd,F.okL hl S len (mD f),hm,F.kp,hb⟩
end L2
namespace L2
open PySem PySem.Spec PyProof.Rows
abbrev iQ (h:cj) (T:ak) (a b c:ae):Prop:=h.get? T=some { cls:=.type "tuple",data:=.seq #[a,b,c] }
def vy (c z TO i1 i2 i3:ak):Prop:=c≠z/\c≠TO/\c≠i1/\c≠i2/\c≠i3
structure We (z TI TO i1 i2 i3 l1 l2 l3:ak):Prop where
 TOz:TO≠z
 i1z:i1≠z
 i2z:i2≠z
 i3z:i3≠z
 TO1:TO≠i1
 TO2:TO≠i2
 TO3:TO≠i3
 i12:i1≠i2
 i13:i1≠i3
 i23:i2≠i3
 TI:vy TI z TO i1 i2 i3
 l1:vy l1 z TO i1 i2 i3
 l2:vy l2 z TO i1 i2 i3
 l3:vy l3 z TO i1 i2 i3
section
variable {P:aS} {w:bN} {A:bA} {E:ae->ai->Prop} {s:ai}
theorem rV {T:ak} {a b c x:ae} {k:Nat} {Q:Unit->ai->Prop} (hT:iQ s.heap T a b c)
  (h:∀ h',h'.get? T=some { cls:=.type "tuple",data:=.seq ((#[a,b,c]:Array ae).setIfInBounds k x) }->jz T s.heap h'->Q () { s with heap:=h' }) :
  wpAny (bn P w) A (mX T (·.setIfInBounds k x)) Q E s:=by
 refine oh hT rfl (h _ ?_ (fz ..));rw[iU _ hT rfl];simp[cF]
theorem JW {z TI TO i1 i2 i3 l1 l2 l3:ak} {k:Nat} {xs ys zs:Array ae} {x y u a b c:ae} {Q:ae->ai->Prop} (D:We z TI TO i1 i2 i3 l1 l2 l3)
  (hz:oj s.heap z TI TO .none) (T5:iQ s.heap TI (.ref i1) (.ref i2) (.ref i3)) (hTO:iQ s.heap TO a b c)
  (h1:s.heap.IsListIter i1 l1 k) (h2:s.heap.IsListIter i2 l2 k) (h3:s.heap.IsListIter i3 l3 k) (qX:s.heap.IsList l1 xs) (o6:s.heap.IsList l2 ys) (Uo:s.heap.IsList l3 zs) (hx:xs[k]?=some x) (hy:ys[k]?=some y) (hu:zs[k]?=some u)
  (hQ:∀ h',oj h' z TI TO (qQ s.heap.objs.size)->iQ h' TO x y u->h'.IsListIter i1 l1 (k+1)->h'.IsListIter i2 l2 (k+1)->h'.IsListIter i3 l3 (k+1)->iQ h' s.heap.objs.size x y u->h'.objs.size=s.heap.objs.size+1 ->
   (∀ c o,vy c z TO i1 i2 i3->s.heap.get? c=some o->h'.get? c=some o)->Q (.ref s.heap.objs.size) { s with heap:=h' }) :
  wpAny (bn P w) A (iX.«zip.__next__» ⟨[.ref z],[]⟩) (λfin s'=>∃ v,fin=.done (.ret v)/\Q v s') E s:=by
 show wpAny _ _ (field (.ref z) 2 >>= _) _ _ _;refine ah (lD hz rfl (x:=.bool false) rfl ?_);show wpAny _ _ (field (.ref z) 3 >>= _) _ _ _;refine ah (lD hz rfl (x:=.ref TI) rfl ?_);refine ah (jS T5 rfl ?_);show wpAny _ _ (fe (.ref z) >>= _) _ _ _;refine ah ?_;unfold fe;refine ah (lD hz rfl (x:=.none) rfl (aH ?_));simp only [if_true];refine ah (zi ?_);refine ah (lD hz rfl (x:=.ref TO) rfl ?_);refine ah (lC hz (by simp) λg1 UU s1=>?_);replace UU:oj g1 z TI TO .ellipsis:=UU;refine ah ?_;simp only [RI,Tf,jT,Wn];have c1:∀ c o,vy c z TO i1 i2 i3->s.heap.get? c=some o->g1.get? c=some o:=λc o cc e=>s1.extBut _ _ cc.1 e;refine ah (ah (yh ?_));show wpAny _ _ (ir (.ref i1) >>= _) _ _ _;refine ah (ua (h1.extBut s1.extBut D.i1z) (qX.extBut s1.extBut D.l1.1) hx λg2 aeH s2=>aH ?_);have to2:iQ g2 TO a b c:=s2.extBut _ _ D.TO1 (s1.extBut _ _ D.TOz hTO);refine ah (jS to2 rfl ?_);refine ah (rV to2 λg3 to3 s3=>?_);replace to3:iQ g3 TO x b c:=to3;refine ah (iq (aH ?_));have c3:∀ c o,vy c z TO i1 i2 i3->s.heap.get? c=some o->g3.get? c=some o:=λc o cc e=>s3.extBut _ _ cc.2.1 (s2.extBut _ _ cc.2.2.1 (c1 c o cc e));have aeL:g3.IsListIter i2 l2 k:=((h2.extBut s1.extBut D.i2z).extBut s2.extBut D.i12.symm).extBut s3.extBut D.TO2.symm;have aeP:g3.IsListIter i3 l3 k:=((h3.extBut s1.extBut D.i3z).extBut s2.extBut D.i13.symm).extBut s3.extBut D.TO3.symm;have aeI:g3.IsListIter i1 l1 (k+1):=aeH.extBut s3.extBut D.TO1.symm;have z3:oj g3 z TI TO .ellipsis:=s3.extBut _ _ D.TOz.symm (s2.extBut _ _ D.i1z.symm UU);refine ah (ah (yh ?_));show wpAny _ _ (ir (.ref i2) >>= _) _ _ _;refine ah (ua aeL (o6.at λo e=>c3 _ o D.l2 e) hy λg4 aeM s4=>aH ?_);have to4:iQ g4 TO x b c:=s4.extBut _ _ D.TO2 to3;refine ah (jS to4 rfl ?_);refine ah (rV to4 λg5 to5 s5=>?_);replace to5:iQ g5 TO x y c:=to5;refine ah (iq (aH ?_));have c5:∀ c o,vy c z TO i1 i2 i3->s.heap.get? c=some o->g5.get? c=some o:=λc o cc e=>s5.extBut _ _ cc.2.1 (s4.extBut _ _ cc.2.2.2.1 (c3 c o cc e));have aeQ:g5.IsListIter i3 l3 k:=(aeP.extBut s4.extBut D.i23.symm).extBut s5.extBut D.TO3.symm;have aeJ:g5.IsListIter i1 l1 (k+1):=(aeI.extBut s4.extBut D.i12).extBut s5.extBut D.TO1.symm;have aeN:g5.IsListIter i2 l2 (k+1):=aeM.extBut s5.extBut D.TO2.symm;have z5:oj g5 z TI TO .ellipsis:=s5.extBut _ _ D.TOz.symm (s4.extBut _ _ D.i2z.symm z3);refine ah (ah (yh ?_));show wpAny _ _ (ir (.ref i3) >>= _) _ _ _;refine ah (ua aeQ (Uo.at λo e=>c5 _ o D.l3 e) hu λg6 aeR s6=>aH ?_);have to6:iQ g6 TO x y c:=s6.extBut _ _ D.TO3 to5;refine ah (jS to6 rfl ?_);refine ah (rV to6 λg7 to7 s7=>?_);replace to7:iQ g7 TO x y u:=to7;refine ah (iq (aH (aH ?_)));have c7:∀ c o,vy c z TO i1 i2 i3->s.heap.get? c=some o->g7.get? c=some o:=λc o cc e=>s7.extBut _ _ cc.2.1 (s6.extBut _ _ cc.2.2.2.2 (c5 c o cc e));have aeK:g7.IsListIter i1 l1 (k+1):=(aeJ.extBut s6.extBut D.i13).extBut s7.extBut D.TO1.symm;have aeO:g7.IsListIter i2 l2 (k+1):=(aeN.extBut s6.extBut D.i23).extBut s7.extBut D.TO2.symm;have aeS:g7.IsListIter i3 l3 (k+1):=aeR.extBut s7.extBut D.TO3.symm;have z7:oj g7 z TI TO .ellipsis:=s7.extBut _ _ D.TOz.symm (s6.extBut _ _ D.i3z.symm z5);refine ah (jS to7 rfl ?_);refine ah (wpAny_newTuple ?_);have hsz:g7.objs.size=s.heap.objs.size:=by rw[s7.1,s6.1,s5.1,s4.1,s3.1,s2.1,s1.1]
 have YN:z<g7.objs.size:=aF z7;show wpAny _ _ (nM (.ref z) (.ref g7.objs.size) >>= _) _ _ _;refine ah ?_;unfold nM;have z8:oj (g7.push { cls:=.type "tuple",data:=.seq #[x,y,u] }) z TI TO .ellipsis:=al _ z7;refine ah (lC z8 (by simp) λg9 z9 s9=>?_);replace z9:oj g9 z TI TO (qQ g7.objs.size):=z9;refine lC z9 (by simp) λXq z10 s10=>?_;replace z10:oj Xq z TI TO (qQ g7.objs.size):=z10;have up:∀ c o,c≠z->g7.get? c=some o->Xq.get? c=some o:=λc o c1 e=>s10.extBut _ _ c1 (s9.extBut _ _ c1 (al _ e));have t10:iQ Xq g7.objs.size x y u:=s10.extBut _ _ (bC YN) (s9.extBut _ _ (bC YN) (aQ _ rfl));have Z0:Xq.objs.size=g7.objs.size+1:=by rw[s10.1,s9.1,cR]
 rw[hsz] at z10 t10 Z0;refine aH ⟨_,rfl,?_⟩;show Q (.ref g7.objs.size) _;rw[hsz];exact hQ Xq z10 (up _ _ D.TOz to7) (aeK.at λo e=>up _ o D.i1z e) (aeO.at λo e=>up _ o D.i2z e) (aeS.at λo e=>up _ o D.i3z e) t10 Z0 λc o cc e=>up c o cc.1 (c7 c o cc e)
theorem JV {z TI TO i1 i2 i3 l1 l2 l3:ak} {k:Nat} {xs ys zs:Array ae} {x y u a b c:ae} {Q:Option ae->ai->Prop} (D:We z TI TO i1 i2 i3 l1 l2 l3)
  (hz:oj s.heap z TI TO .none) (T5:iQ s.heap TI (.ref i1) (.ref i2) (.ref i3)) (hTO:iQ s.heap TO a b c)
  (h1:s.heap.IsListIter i1 l1 k) (h2:s.heap.IsListIter i2 l2 k) (h3:s.heap.IsListIter i3 l3 k) (qX:s.heap.IsList l1 xs) (o6:s.heap.IsList l2 ys) (Uo:s.heap.IsList l3 zs) (hx:xs[k]?=some x) (hy:ys[k]?=some y) (hu:zs[k]?=some u)
  (hQ:∀ h',oj h' z TI TO (qQ s.heap.objs.size)->iQ h' TO x y u->h'.IsListIter i1 l1 (k+1)->h'.IsListIter i2 l2 (k+1)->h'.IsListIter i3 l3 (k+1)->iQ h' s.heap.objs.size x y u->h'.objs.size=s.heap.objs.size+1 ->
   (∀ c o,vy c z TO i1 i2 i3->s.heap.get? c=some o->h'.get? c=some o)->Q (some (.ref s.heap.objs.size)) { s with heap:=h' }) :
  wpAny (bn P w) A (tJ (.ref z)) Q E s:=by
 have hT:s.TypeIs (.ref z) "zip" := ⟨_,hz,rfl⟩
 unfold tJ;exact ah (wpAny_attempt (OG (name:=acz "__next__") hT rX
  (Ek rX hT WX
   (JW D hz T5 hTO h1 h2 h3 qX o6 Uo hx hy hu λh' a1 a2 a3 a4 a5 a6 a7 a8=>aH (hQ h' a1 a2 a3 a4 a5 a6 a7 a8)) (Wi _))))
theorem JX {z TI TO i1 i2 i3 l1 l2 l3:ak} {k:Nat} {xs:Array ae} {Q:Fin->ai->Prop} (hh:A.handled=none) (D:We z TI TO i1 i2 i3 l1 l2 l3)
  (hz:oj s.heap z TI TO .none) (T5:iQ s.heap TI (.ref i1) (.ref i2) (.ref i3)) (h1:s.heap.IsListIter i1 l1 k) (qX:s.heap.IsList l1 xs) (hx:xs[k]?=none)
  (hE:∀ h' e,(∀ c o,vy c z TO i1 i2 i3->s.heap.get? c=some o->h'.get? c=some o)->(∃ o,h'.get? e=some o/\o.cls=.type "StopIteration")->E (.ref e) { s with heap:=h' }) :
  wpAny (bn P w) A (iX.«zip.__next__» ⟨[.ref z],[]⟩) Q E s:=by
 show wpAny _ _ (field (.ref z) 2 >>= _) _ _ _;refine ah (lD hz rfl (x:=.bool false) rfl ?_);show wpAny _ _ (field (.ref z) 3 >>= _) _ _ _;refine ah (lD hz rfl (x:=.ref TI) rfl ?_);refine ah (jS T5 rfl ?_);show wpAny _ _ (fe (.ref z) >>= _) _ _ _;refine ah ?_;unfold fe;refine ah (lD hz rfl (x:=.none) rfl (aH ?_));simp only [if_true];refine ah (zi ?_);refine ah (lD hz rfl (x:=.ref TO) rfl ?_);refine ah (lC hz (by simp) λg1 UU s1=>?_);replace UU:oj g1 z TI TO .ellipsis:=UU;refine ah ?_;simp only [RI,Tf,jT,Wn];refine ah (ah (yh ?_));show wpAny _ _ (ir (.ref i1) >>= _) _ _ _;refine ah (wpAny_nextOf_list_end hh (h1.extBut s1.extBut D.i1z) (qX.extBut s1.extBut D.l1.1) hx λg2 e s2 he=>?_);obtain⟨oe,hoe,hce⟩:=he;have z2:oj g2 z TI TO .ellipsis:=s2 _ _ D.i1z.symm UU;have hez:e≠z:=λx=>by subst x;rw[z2] at hoe;cases hoe;simp at hce
 refine lC z2 (by simp) λg3 _ s3=>hE g3 e (λc o cc x=>s3.extBut _ _ cc.1 (s2 _ _ cc.2.2.1 (s1.extBut _ _ cc.1 x))) ⟨oe,s3.extBut _ _ hez hoe,hce⟩
theorem N3 {z TI TO i1 i2 i3 l1 l2 l3:ak} {k:Nat} {xs:Array ae} {Q:Option ae->ai->Prop} (hh:A.handled=none) (D:We z TI TO i1 i2 i3 l1 l2 l3)
  (hz:oj s.heap z TI TO .none) (T5:iQ s.heap TI (.ref i1) (.ref i2) (.ref i3)) (h1:s.heap.IsListIter i1 l1 k) (qX:s.heap.IsList l1 xs) (hx:xs[k]?=none)
  (hQ:∀ h',(∀ c o,vy c z TO i1 i2 i3->s.heap.get? c=some o->h'.get? c=some o)->Q none { s with heap:=h' }):wpAny (bn P w) A (tJ (.ref z)) Q E s:=by
 have hT:s.TypeIs (.ref z) "zip" := ⟨_,hz,rfl⟩
 unfold tJ;refine ah (wpAny_attempt (OG (name:=acz "__next__") hT rX
  (Ek rX hT WX (JX hh D hz T5 h1 qX hx λh' e hk he=>?_) (Wi _))))
 obtain⟨o,ho,hc⟩:=he;refine ah (wpAny_isInstance (T := "StopIteration") (b:=true) ⟨o,ho,hc⟩ Nu ?_);exact aH (hQ _ hk)
end
theorem zh (a b c:ae):checkTypeCall "zip" ⟨[a,b,c],[]⟩=pure ():=by kernel_rfl
theorem By (a b c:ae):acM "zip.__new__" ⟨[.type "zip",a,b,c],[]⟩=pure ():=by kernel_rfl
theorem C2 (a b c d:ae):argsOk "object.__init__" ⟨[a,b,c,d],[]⟩:=by
 unfold argsOk;rw[signature?_of (id := "object.__init__") (n:=['_','_','t','i','n','i','_','_']) (o:=['t','c','e','j','b','o']) (by kernel_rfl) F.owner_object];kernel_rfl
abbrev NV (h:cj) (l1:ak):cj:=h.push { cls:=.type "list_iterator",data:=.fields #[.ref l1,.int 0 0] }
abbrev NW (h:cj) (l1 l2:ak):cj:=(NV h l1).push { cls:=.type "list_iterator",data:=.fields #[.ref l2,.int 0 0] }
abbrev NX (h:cj) (l1 l2 l3:ak):cj:=(NW h l1 l2).push { cls:=.type "list_iterator",data:=.fields #[.ref l3,.int 0 0] }
abbrev NY (h:cj) (l1 l2 l3:ak):cj:=(NX h l1 l2 l3).push { cls:=.type "tuple",data:=.seq #[.ref h.objs.size,.ref (NV h l1).objs.size,.ref (NW h l1 l2).objs.size] }
abbrev NZ (h:cj) (l1 l2 l3:ak):cj:=(NY h l1 l2 l3).push { cls:=.type "tuple",data:=.seq #[.none,.none,.none] }
abbrev uc (h:cj) (l1 l2 l3:ak):cj:=(NZ h l1 l2 l3).push { cls:=.type "zip",data:=.fields #[.none,.bool false,.bool false,.ref (NX h l1 l2 l3).objs.size,.ref (NY h l1 l2 l3).objs.size] }
theorem FH (l1 l2 l3:ak) (xs ys zs:Array ae) :
  Meets (iX.«zip.__new__» ⟨[.type "zip",.ref l1,.ref l2,.ref l3],[]⟩) (λ_ R s=>s.heap.IsList l1 xs/\s.heap.IsList l2 ys/\s.heap.IsList l3 zs /\
   R (.ok (.ret (.ref (NZ s.heap l1 l2 l3).objs.size))) { s with heap:=uc s.heap l1 l2 l3 }) :=
 .of_wp λprog w A R s h=>by
  obtain⟨hp,g,d,tk,os⟩:=s;obtain⟨qX,o6,Uo,h⟩:=h;have tf:=a0C;have hL1:J1 (Gx ⟨hp,g,d,tk,os⟩) l1 xs:=qX;have hL2:J1 (Gx ⟨hp.push { cls:=.type "list_iterator",data:=.fields #[.ref l1,.int 0 0] },g,d,tk,os⟩) l2 ys:=sj o6 _;have hL3:J1 (Gx ⟨(hp.push { cls:=.type "list_iterator",data:=.fields #[.ref l1,.int 0 0] }).push { cls:=.type "list_iterator",data:=.fields #[.ref l2,.int 0 0] },g,d,tk,os⟩) l3 zs:=sj (sj Uo _) _
  wp_walk using f6 hL1,f6 hL2,f6 hL3
  exact⟨_,rfl,h⟩
section
variable {P:aS} {w:bN} {A:bA} {E:ae->ai->Prop} {s:ai}
theorem IJ {l1 l2 l3:ak} {xs ys zs:Array ae} {Q:ae->ai->Prop} (qX:s.heap.IsList l1 xs) (o6:s.heap.IsList l2 ys) (Uo:s.heap.IsList l3 zs)
  (h:∀ h',oj h' (s.heap.objs.size+5) (s.heap.objs.size+3) (s.heap.objs.size+4) .none->iQ h' (s.heap.objs.size+3) (.ref s.heap.objs.size) (.ref (s.heap.objs.size+1)) (.ref (s.heap.objs.size+2)) ->
   iQ h' (s.heap.objs.size+4) .none .none .none->h'.IsListIter s.heap.objs.size l1 0->h'.IsListIter (s.heap.objs.size+1) l2 0->h'.IsListIter (s.heap.objs.size+2) l3 0->h'.objs.size=s.heap.objs.size+6 ->
   (∀ c o,s.heap.get? c=some o->h'.get? c=some o)->Q (.ref (s.heap.objs.size+5)) { s with heap:=h' }) :
  wpAny (bn P w) A (rF (.type "zip") [.ref l1,.ref l2,.ref l3]) Q E s:=by
 refine callType_new F.called_zip (by decide) (zh _ _ _) (By _ _ _) (λobj=>C2 obj _ _ _) F.entry_zip_new
  (FH l1 l2 l3 xs ys zs) ⟨qX,o6,Uo,?_⟩
 have z1:(NV s.heap l1).objs.size=s.heap.objs.size+1:=cR ..;have z2:(NW s.heap l1 l2).objs.size=s.heap.objs.size+2:=by rw[cR,z1]
 have z3:(NX s.heap l1 l2 l3).objs.size=s.heap.objs.size+3:=by rw[cR,z2]
 have z4:(NY s.heap l1 l2 l3).objs.size=s.heap.objs.size+4:=by rw[cR,z3]
 have z5:(NZ s.heap l1 l2 l3).objs.size=s.heap.objs.size+5:=by rw[cR,z4]
 have z6:(uc s.heap l1 l2 l3).objs.size=s.heap.objs.size+6:=by rw[cR,z5]
 have p6:∀ c o,(NZ s.heap l1 l2 l3).get? c=some o->(uc s.heap l1 l2 l3).get? c=some o:=λc o e=>al _ e;have p5:∀ c o,(NY s.heap l1 l2 l3).get? c=some o->(uc s.heap l1 l2 l3).get? c=some o:=λc o e=>p6 _ _ (al _ e);have p4:∀ c o,(NX s.heap l1 l2 l3).get? c=some o->(uc s.heap l1 l2 l3).get? c=some o:=λc o e=>p5 _ _ (al _ e);have p3:∀ c o,(NW s.heap l1 l2).get? c=some o->(uc s.heap l1 l2 l3).get? c=some o:=λc o e=>p4 _ _ (al _ e);have p2:∀ c o,(NV s.heap l1).get? c=some o->(uc s.heap l1 l2 l3).get? c=some o:=λc o e=>p3 _ _ (al _ e);have p1:∀ c o,s.heap.get? c=some o->(uc s.heap l1 l2 l3).get? c=some o:=λc o e=>p2 _ _ (al _ e);have g6:(uc s.heap l1 l2 l3).get? (NZ s.heap l1 l2 l3).objs.size=some _:=aQ _ rfl;have g5:(uc s.heap l1 l2 l3).get? (NY s.heap l1 l2 l3).objs.size=some _:=p6 _ _ (aQ _ rfl);have g4:(uc s.heap l1 l2 l3).get? (NX s.heap l1 l2 l3).objs.size=some _:=p5 _ _ (aQ _ rfl);have g3:(uc s.heap l1 l2 l3).get? (NW s.heap l1 l2).objs.size=some _:=p4 _ _ (aQ _ rfl);have g2:(uc s.heap l1 l2 l3).get? (NV s.heap l1).objs.size=some _:=p3 _ _ (aQ _ rfl);have g1:(uc s.heap l1 l2 l3).get? s.heap.objs.size=some _:=p2 _ _ (aQ _ rfl);show _/\_;rw[z3,z4,z5] at g6;rw[z4] at g5;rw[z1,z2,z3] at g4;rw[z2] at g3;rw[z1] at g2;rw[z5];exact⟨⟨_,g6,rfl⟩,h _ g6 g4 g5 ⟨_,g1,rfl,rfl⟩ ⟨_,g2,rfl,rfl⟩ ⟨_,g3,rfl,rfl⟩ z6 p1⟩
end
def KG (K:aj) (a b d:ak):It :=
 ⟨λi H=>∃ xs ys zs x y u,bQ K H a xs/\bQ K H b ys/\bQ K H d zs/\xs[i]?=some x/\ys[i]?=some y/\zs[i]?=some u,
  λi H v H'=>∃ T x y u,v=.ref T/\H T=none/\(∀ xs,bQ K H a xs->xs[i]?=some x)/\(∀ ys,bQ K H b ys->ys[i]?=some y)/\(∀ zs,bQ K H d zs->zs[i]?=some u)/\H'=upd H T (.tup [x,y,u]),
  λi H=>∃ xs,bQ K H a xs/\xs.length<=i⟩
structure Tw (a b d z TI TO i1 i2 i3:ak) (i:Nat) (h:cj):Prop where
 zz:oj h z TI TO .none
 ti:iQ h TI (.ref i1) (.ref i2) (.ref i3)
 to:∃ p q r,iQ h TO p q r
 s1:h.IsListIter i1 a i
 s2:h.IsListIter i2 b i
 s3:h.IsListIter i3 d i
theorem JN {P:aS} {w:bN} {K:aj} {elts:List b6} {k:Nat} {pos:hW} (a b d z TI TO i1 i2 i3:ak) (ap:We z TI TO i1 i2 i3 a b d):Turn P w K (.Tuple elts k pos) (KG K a b d) [z,TI,TO,i1,i2,i3] z (Tw a b d z TI TO i1 i2 i3) where
 mem:=by simp
 obj:=λi h st c hc=>by
  obtain⟨zz,ti,⟨p,q,r,to⟩,⟨o1,e1,c1,d1⟩,⟨o2,e2,c2,d2⟩,⟨o3,e3,c3,d3⟩⟩:=st;simp only [aB,eE,or_false] at hc;rcases hc with rfl | rfl | rfl | rfl | rfl | rfl
  ·exact⟨_,zz,λv z=>by cases z⟩
  ·exact⟨_,ti,λv z=>by cases z⟩
  ·exact⟨_,to,λv z=>by cases z⟩
  ·exact⟨o1,e1,λv z=>by rw[d1] at z;cases z⟩
  ·exact⟨o2,e2,λv z=>by rw[d2] at z;cases z⟩
  ·exact⟨o3,e3,λv z=>by rw[d3] at z;cases z⟩
 keep:=λi h h' st k=>by
  obtain⟨zz,ti,⟨p,q,r,to⟩,s1,s2,s3⟩:=st;exact⟨k z (by simp) _ zz,k TI (by simp) _ ti,⟨p,q,r,k TO (by simp) _ to⟩,s1.at λo q=>k i1 (by simp) o q,s2.at λo q=>k i2 (by simp) o q,s3.at λo q=>k i3 (by simp) o q⟩
 item:=by
  intro X hP hw hK hc i pins s σ H E I hf st hg;subst hP hw hK;obtain⟨xs,ys,zs,x,y,u,hq,LM,hq3,hx,hy,hu⟩:=hg;obtain⟨cw,rv,p,hz⟩:=I.list hq;obtain⟨lH,BN,p2,Kg⟩:=I.list LM;obtain⟨aeU,Kj,p3,hz3⟩:=I.list hq3;obtain⟨u1,hu1,ru1⟩:=rv.get hx;obtain⟨u2,Co,VC⟩:=BN.get hy;obtain⟨u3,hu3,ru3⟩:=Kj.get hu;obtain⟨zz,ti,⟨pp,qq,rr,to⟩,s1,s2,s3⟩:=st;have lz:z<s.heap.objs.size:=aF zz;refine JV ap zz ti to s1 s2 s3 p.isList p2.isList p3.isList (x:=u1) (y:=u2) (u:=u3) (by simpa using hu1) (by simpa using Co) (by simpa using hu3) λh' zo to' s1' s2' s3' ht hsz kp=>?_;refine⟨_,rfl,Kl zo λh2 zz2 sb=>?_⟩;have I1:Inv X pins σ H { s with heap:=h2 }:=I.qB (t':=s.toks) (ch:=[z,TI,TO,i1,i2,i3]) hf λc o hc q=>by
   simp only [aB,eE,or_false,not_or] at hc;exact (sb.2 c hc.1).trans (kp c o ⟨hc.1,hc.2.2.1,hc.2.2.2.1,hc.2.2.2.2.1,hc.2.2.2.2.2⟩ q)
  have hT:h2.get? s.heap.objs.size=some { cls:=.type "tuple",data:=.seq #[u1,u2,u3] }:=(sb.2 _ (bC lz)).trans ht;have RY:H s.heap.objs.size=none:=I.cZ.fresh (az _);have I2:=I1.adopt (o:=.tup [x,y,u]) (I.vF (az _) RY) ⟨(by show 3<=aJ;decide),[u1,u2,u3],.cons ru1 (.cons VC (.cons ru3 .nil)),⟨_,hT,rfl,_,rfl⟩⟩;have hti:iQ h2 TI (.ref i1) (.ref i2) (.ref i3):=(sb.2 TI ap.TI.1).trans (kp TI _ ap.TI ti);refine⟨.ref s.heap.objs.size,_,I2,rfl,⟨_,x,y,u,rfl,RY,(λzs PP=>by rw[I.mH PP hq];exact hx),(λzs PP=>by rw[I.mH PP LM];exact hy),(λzs PP=>by rw[I.mH PP hq3];exact hu),rfl⟩,
   ⟨zz2,hti,⟨u1,u2,u3,(sb.2 TO ap.TOz).trans to'⟩,s1'.at λo q=>(sb.2 i1 ap.i1z).trans q,s2'.at λo q=>(sb.2 i2 ap.i2z).trans q,s3'.at λo q=>(sb.2 i3 ap.i3z).trans q⟩,λc hc=>?_⟩
  rw[bK (λe=>?_)]
  ·exact (hf c hc).1
  ·subst e;obtain⟨o1,e1,_⟩:=s1;obtain⟨o2,e2,_⟩:=s2;obtain⟨o3,e3,_⟩:=s3;simp only [aB,eE,or_false] at hc;rcases hc with h | h | h | h | h | h
   ·exact absurd h (bC lz)
   ·exact absurd h (bC (aF ti))
   ·exact absurd h (bC (aF to))
   ·exact absurd h (bC (aF e1))
   ·exact absurd h (bC (aF e2))
   ·exact absurd h (bC (aF e3))
 done:=by
  intro X hP hw hK hc i pins s σ H E I hf st hg;subst hP hw hK;obtain⟨xs,hq,hx⟩:=hg;obtain⟨cw,rv,p,hz⟩:=I.list hq;have hl:=rv.length;obtain⟨zz,ti,⟨pp,qq,rr,to⟩,s1,s2,s3⟩:=st;refine N3 (I.ok.hd hc) ap zz ti s1 p.isList ?_ λh' kp=>⟨rfl,?_⟩
  ·simp;(clear hc hf hz;omega)
  ·exact I.qB (t':=s.toks) (ch:=[z,TI,TO,i1,i2,i3]) hf λc o hc q=>by
    simp only [aB,eE,or_false,not_or] at hc;exact kp c o ⟨hc.1,hc.2.2.1,hc.2.2.2.1,hc.2.2.2.2.1,hc.2.2.2.2.2⟩ q
 self:=λ_ _ _ _ _ st h=>rW st.zz h
theorem Rr (n a b d:Nat) (la:a<n) (lb:b<n) (ld:d<n):We (n+5) (n+3) (n+4) n (n+1) (n+2) a b d:=by
 have ne:∀ p q:Nat,p<q\/q<p->(p:ak)≠q:=λp q h e=>by have e:p=q:=e;omega
 constructor
 case TI=>exact⟨ne _ _ (by omega),ne _ _ (by omega),ne _ _ (by omega),ne _ _ (by omega),ne _ _ (by omega)⟩
 case l1=>exact⟨ne _ _ (by omega),ne _ _ (by omega),ne _ _ (by omega),ne _ _ (by omega),ne _ _ (by omega)⟩
 case l2=>exact⟨ne _ _ (by omega),ne _ _ (by omega),ne _ _ (by omega),ne _ _ (by omega),ne _ _ (by omega)⟩
 case l3=>exact⟨ne _ _ (by omega),ne _ _ (by omega),ne _ _ (by omega),ne _ _ (by omega),ne _ _ (by omega)⟩
 all_goals exact ne _ _ (by omega)
def YR (K:aj) (ta:TA):TI:=λσ H R=>ta σ H λvs H1=>∃ a b d,vs=[.ref a,.ref b,.ref d]/\(∃ xs,bQ K H1 a xs)/\(∃ ys,bQ K H1 b ys)/\(∃ zs,bQ K H1 d zs)/\R (KG K a b d) H1
theorem Qz {X:Cx} {K:aj} {elts:List b6} {k:Nat} {ze:hW} {l l2 l3:b6} {ta:TA} {p pos:hW} (hK:X.K=K) (hg:Gl X "zip") (hm:X.mg "zip" = none) (ha:PA X [l,l2,l3] ta) (hs:bD [l,l2,l3] X.env=(false,eO l X.env)::bD [l2,l3] X.env:=by rfl)
  (WC:(gx pos (bD [l2,l3] X.env)).any (·.1)=false:=by rfl) :
  PI X (.Tuple elts k ze) (.Call (.Name "zip" p) [l,l2,l3] [] pos) (YR K ta):=by
 subst hK;intro pins s σ H R I h;refine SU (lI I hg hm yu (dk (eY (ha pos pins s σ H _ I h) λus s1 cW=>?_) hs WC));obtain⟨vs,H1,I1,r1,q1⟩:=cW;obtain⟨a,b,d,rfl,⟨xs,hq⟩,⟨ys,LM⟩,⟨zs,hq3⟩,q⟩:=q1;cases r1 with
 | cons ra rr =>
  cases ra;cases rr with
  | cons rb rr =>
   cases rb;obtain⟨u,rfl,ru⟩:=a0e rr;cases ru;obtain⟨cw,rv,p,hz⟩:=I1.list hq;obtain⟨lH,BN,p2,Kg⟩:=I1.list LM;obtain⟨aeU,Kj,p3,hz3⟩:=I1.list hq3;have la:a<s1.heap.objs.size:=by obtain⟨o,e,_⟩:=p.isList;exact aF e
   have lb:b<s1.heap.objs.size:=by obtain⟨o,e,_⟩:=p2.isList;exact aF e
   have ld:d<s1.heap.objs.size:=by obtain⟨o,e,_⟩:=p3.isList;exact aF e
   refine IJ p.isList p2.isList p3.isList λh' zz ti to i1 i2 i3 hsz kp=>?_;refine rW zz ?_;refine⟨s1.heap.objs.size+5,[s1.heap.objs.size+5,s1.heap.objs.size+3,s1.heap.objs.size+4,s1.heap.objs.size,s1.heap.objs.size+1,s1.heap.objs.size+2],_,_,H1,rfl,I1.kept (t':=s1.toks) kp,JN a b d _ _ _ _ _ _ (Rr _ a b d la lb ld),⟨zz,ti,⟨_,_,_,to⟩,i1,i2,i3⟩,λc hc=>?_,q⟩;have RX:s1.heap.objs.size<=c:=by
    simp only [aB,eE,or_false] at hc;rcases hc with rfl | rfl | rfl | rfl | rfl | rfl
    ·exact cP _ _
    ·exact cP _ _
    ·exact cP _ _
    ·exact az _
    ·exact cP _ _
    ·exact cP _ _
   exact I1.vF RX (I1.cZ.fresh RX)
theorem Lb {K:aj} {a b d:ak} {xs ys zs:List V} {g:TG} {tb:TS} {D:Ends} {σ:St} {H:Hp} (hlen:xs.length=ys.length) (Do:xs.length=zs.length) (Pv:Nat->St->Hp->Prop) (h0:Pv 0 σ H) (hl:∀ i σ H,i<=xs.length->Pv i σ H->bQ K H a xs/\bQ K H b ys/\bQ K H d zs)
  (hs:∀ i x y z σ H T,xs[i]?=some x->ys[i]?=some y->zs[i]?=some z->Pv i σ H->H T=none->g (.ref T) σ (upd H T (.tup [x,y,z])) λσ2 H2=>tb { D with nx:=Pv (i+1),ct:=Pv (i+1),bk:=D.nx } σ2 H2) (hd:∀ σ H,Pv xs.length σ H->D.nx σ H) :
  ∃ W:Nat->Nat->St->Hp->Prop,(∃ m,W 0 m σ H)/\∀ i m σ H,W i m σ H ->
   ((KG K a b d).stop i H/\D.nx σ H)\/((KG K a b d).go i H/\∃ N:St->Hp->Prop,(∀ σ' H',N σ' H'->∃ m',m'<m/\W (i+1) m' σ' H')/\∀ x H',(KG K a b d).Eo i H x H'->g x σ H' λσ2 H2=>tb { D with nx:=N,ct:=N,bk:=D.nx } σ2 H2):=by
 refine⟨λi m σ H=>m=xs.length-i/\i<=xs.length/\Pv i σ H,⟨xs.length,by simp,bv _,h0⟩,?_⟩;rintro i m σ H ⟨rfl,hi,p⟩;obtain⟨q,q2,q3⟩:=hl i σ H hi p
 by_cases iz:i<xs.length
 ·refine .inr ⟨⟨xs,ys,zs,xs[i],ys[i]'(by omega),zs[i]'(by omega),q,q2,q3,by simp[iz],by simp,by simp⟩,Pv (i+1),λσ' H' p'=>⟨xs.length-(i+1),by (clear hlen Do hl hs hd hi;omega),rfl,iz,p'⟩,λx H' y=>?_⟩;obtain⟨T,u,v,t,rfl,hT,e1,e2,e3,rfl⟩:=y;exact hs i u v t σ _ T (e1 xs q) (e2 ys q2) (e3 zs q3) p hT
 ·have e:i=xs.length:=by (clear hlen Do hl hs hd;omega)
  subst e;exact .inl ⟨⟨xs,q,az _⟩,hd σ H p⟩
end L2
namespace Law
open PySem L2
theorem wz {R:Int->Wy->Prop}:∀ {x y z:Int} {a b:List Wy},jG R x a y->jG R y b z->jG R x (a++b) z
 | _,_,_,[],_,h,h2=>by
  have h:_=_:=h;subst h;exact h2
 | _,_,_,_::_,_,h,h2=>⟨h.1,wz h.2 h2⟩
theorem wA {R R2:Int->Wy->Prop} (hi:∀ x w,R x w->R2 x w):∀ {x y:Int} {s:List Wy},jG R x s y->jG R2 x s y
 | _,_,[],h=>h
 | _,_,_::_,h=>⟨hi _ _ h.1,wA hi h.2⟩
theorem GV {T:Tb} (yG:∀ x v,T x=some v->0<=v):∀ {x y g v:Int} {s:List Wy},jG (λx w=>fv (a0a T w) (T x)/\T x≠none) x s y->T x=some v->v<=g->J3 g s
 | x,_,g,v,[],_,e,hg=>λi hi=>by
  have:i=0:=by simpa using hi
  subst this;have:=yG x v e;rw[fD,jn];omega
 | x,y,g,v,w::s,h,e,hg=>λi hi=>by
  cases i with
  | zero =>
   have:=yG x v e;rw[fD,jn];omega
  | succ i =>
   obtain⟨v',e',h'⟩:=qt h.1.1 e hg;have:=GV yG (g:=g+w.2) h.2 e' h' i (by simpa using hi);rw[ue,ij];omega
theorem C5 {W:Lf} {n:Nat} {T T':Tb} (lG:CK W n) (N:sv W n T') (yG:∀ x v,T x=some v->0<=v) (h:∀ x,0<=x->x<(n:Int)->T x≠none->∃ w∈gf W x,fv (a0a T w) (T x)) {x:Int} (x0:0<=x) (x1:x<(n:Int)):fv (T' x) (T x):=by
 cases e:T x with
 | none=>cases T' x <;> exact trivial
 | some v =>
  let R0:Int->Wy->Prop:=λy w=>w∈gf W y/\fv (a0a T w) (T y)/\T y≠none
  let B:Int->Prop:=λy=>((0<=y/\y<(n:Int))/\T y≠none)/\∃ p,jG R0 x p y
  let R:Int->Wy->Prop:=λy w=>B y/\R0 y w
  have nx:∀ y w,R y w->B w.1:=λy w hR=>by
   obtain⟨⟨⟨⟨y0,y1⟩,yn⟩,p,hp⟩,hw,hle,hn⟩:=hR;cases ey:T y with
   | none=>exact absurd ey yn
   | some u =>
    obtain⟨u',e',_⟩:=qt hle ey (dz u);exact⟨⟨lG y w hw,by rw[e'];simp⟩,p++[w],wz hp ⟨⟨hw,hle,hn⟩,rfl⟩⟩
  obtain⟨y,s,hs,hw,hB⟩:=wm (R:=R) (n:=n) (B:=B) (λy hy=>hy.1.1) (λy hy=>by
   obtain⟨w,hw,hle⟩:=h y hy.1.1.1 hy.1.1.2 hy.1.2;have hR:R y w:=⟨hy,hw,hle,hy.1.2⟩
   exact⟨w,hR,nx y w hR⟩) nx (x:=x) ⟨⟨⟨x0,x1⟩,by rw[e];simp⟩,[],rfl⟩
  have Jc:jG R0 y s y:=wA (λ_ _ q=>q.2) hw;have aee:=nZ (T:=T) (y:=y) (s:=s) (wA (λ_ _ q=>q.2) Jc);obtain⟨u,hu,hz⟩:=N.ring y s hs (Jc.wk λ_ _ q=>q.1) aee;obtain⟨a,b,rfl⟩:=nN hu;obtain⟨t,k1,k2⟩:=Jc.split;obtain⟨p,hp⟩:=hB.2;have walk:jG R0 x (p++(a++[u])) u.1:=wz hp (wz k1 ⟨k2.1,rfl⟩);exact uN lG N.pos N.low hz x0 x1 (walk.wk λ_ _ q=>q.1) (GV yG (wA (λ_ _ q=>q.2) walk) e (dz v))
def top (i:Nat):cK:=aU.main.body.getD i (.Pass ⟨0,0,0,0⟩)
abbrev mM:cK:=top 8
abbrev mL:cK:=top 9
abbrev j8:cK:=top 10
abbrev kc:cK:=top 11
abbrev mj:cK:=top 12
abbrev eQ:cK:=top 15
abbrev iB:cK:=top 16
abbrev fY:cK:=top 17
abbrev jc:cK:=top 18
abbrev og:cK:=top 19
abbrev kg:cK:=top 20
abbrev n9:cK:=top 21
abbrev iF:cK:=top 22
abbrev ja:cK:=top 23
abbrev gr:cK:=top 24
abbrev j9:cK:=top 26
abbrev gq:cK:=top 28
abbrev lA:cK:=top 29
abbrev lq:cK:=top 30
abbrev i8:cK:=top 31
abbrev jb:cK:=top 32
abbrev tN:cK:=top 33
abbrev mK:cK:=top 34
abbrev i7:cK:=top 35
abbrev iC:cK:=top 36
abbrev lr:cK:=top 38
abbrev i6:cK:=top 39
abbrev iS:cK:=top 40
abbrev pZ:cK:=top 41
abbrev jy:cK:=top 43
abbrev ki:cK:=top 44
abbrev gZ:cK:=top 45
abbrev kh:cK:=top 46
abbrev jP:cK:=top 47
abbrev jQ:cK:=top 48
abbrev ke:cK:=top 49
abbrev lx:cK:=top 52
abbrev qc:cK:=top 53
abbrev pY:cK:=top 55
abbrev lu:cK:=top 56
abbrev mQ:cK:=top 57
abbrev mP:cK:=top 58
abbrev mO:cK:=top 59
abbrev i9:cK:=top 60
abbrev kd:cK:=top 61
abbrev iT:cK:=top 62
abbrev fR:cK:=top 63
abbrev vp:cK:=top 64
abbrev gD:cK:=a0k (top 51) 0
abbrev jx:cK:=a0k (top 51) 1
abbrev fQ:cK:=a0k (top 51) 2
abbrev jw:cK:=a0k (top 51) 3
abbrev fX:cK:=a0k (top 51) 4
abbrev fL:cK:=a0k (top 51) 5
structure Txt (mg:bc->Option ae):Prop where
 Xi:mg "abs" = none
 KP:mg "bool" = none
 KQ:mg "dict" = none
 pC:mg "enumerate" = none
 KR:mg "int" = none
 ib:mg "isinstance" = none
 eL:mg "len" = none
 rC:mg "list" = none
 C4:mg "max" = none
 GA:mg "min" = none
 jW:mg "range" = none
 Xj:mg "set" = none
 sN:mg "sorted" = none
 O7:mg "tuple" = none
 wW:mg "zip" = none
 lR:∃ t,mg "MOST_PURSE_PLACES" = some (.int 16 t)
abbrev JU:List bc:=["NoHand","NoWay","NoAmount","TooMany"]
abbrev JT:List bc:=["NoAmount","NoHand","NoRule","NoWay","TooMany"]
theorem D4:bM ["value"] ["value"] (aG mM):=⟨rfl,rfl,rfl,by decide +kernel,rfl,by decide +kernel,by decide +kernel⟩
theorem D3:bM ["value","count"] ["value","count"] (aG mL):=⟨rfl,rfl,rfl,by decide +kernel,rfl,by decide +kernel,by decide +kernel⟩
theorem yS:bM ["hand"] ["hand"] (aG j8):=⟨rfl,rfl,rfl,by decide +kernel,rfl,by decide +kernel,by decide +kernel⟩
theorem yU:bM ["ways","count","way"] ["ways","count"] (aG kc):=⟨rfl,rfl,rfl,by decide +kernel,rfl,by decide +kernel,by decide +kernel⟩
theorem F0:bM ["game","entries","place","row","way"] ["game"] (aG mj):=⟨rfl,rfl,rfl,by decide +kernel,rfl,by decide +kernel,by decide +kernel⟩
theorem qT:bM ["ways","count","places"] ["ways","count"] (aG eQ):=⟨rfl,rfl,rfl,by decide +kernel,rfl,by decide +kernel,by decide +kernel⟩
theorem uV:bM ["ways","way"] ["ways"] (aG iB):=⟨rfl,rfl,rfl,by decide +kernel,rfl,by decide +kernel,by decide +kernel⟩
theorem qS:bM ["rows","row"] ["rows"] (aG fY):=⟨rfl,rfl,rfl,by decide +kernel,rfl,by decide +kernel,by decide +kernel⟩
theorem zc:bM ["rows"] ["rows"] (aG jc):=⟨rfl,rfl,rfl,by decide +kernel,rfl,by decide +kernel,by decide +kernel⟩
theorem FZ:bM ["purses","place","amount"] ["purses","place","amount"] (aG og):=⟨rfl,rfl,rfl,by decide +kernel,rfl,by decide +kernel,by decide +kernel⟩
theorem y8:bM ["need"] ["need"] (aG kg):=⟨rfl,rfl,rfl,by decide +kernel,rfl,by decide +kernel,by decide +kernel⟩
theorem FY:bM ["need","other"] ["need","other"] (aG n9):=⟨rfl,rfl,rfl,by decide +kernel,rfl,by decide +kernel,by decide +kernel⟩
theorem xN:bM ["ways","purses"] ["ways","purses"] (aG iF):=⟨rfl,rfl,rfl,by decide +kernel,rfl,by decide +kernel,by decide +kernel⟩
theorem yZ:bM ["ways","purses"] ["ways","purses"] (aG ja):=⟨rfl,rfl,rfl,by decide +kernel,rfl,by decide +kernel,by decide +kernel⟩
theorem uY:bM ["game","count"] ["game"] (aG gr):=⟨rfl,rfl,rfl,by decide +kernel,rfl,by decide +kernel,by decide +kernel⟩
theorem yT:bM ["game","hand","rule","row","way"] ["game","hand","rule"] (aG j9):=⟨rfl,rfl,rfl,by decide +kernel,rfl,by decide +kernel,by decide +kernel⟩
theorem uW:bM ["game","rule","row","way"] ["game","rule"] (aG gq):=⟨rfl,rfl,rfl,by decide +kernel,rfl,by decide +kernel,by decide +kernel⟩
theorem BV:bM ["game","rule","left","row","way"] ["game","rule"] (aG lA):=⟨rfl,rfl,rfl,by decide +kernel,rfl,by decide +kernel,by decide +kernel⟩
theorem BO:bM ["gains","ways","place","way","amount","purse"] ["gains","ways","place"] (aG lq):=⟨rfl,rfl,rfl,by decide +kernel,rfl,by decide +kernel,by decide +kernel⟩
theorem yV:bM ["left","start","gains","turn","place"] ["left","start"] (aG i8):=⟨rfl,rfl,rfl,by decide +kernel,rfl,by decide +kernel,by decide +kernel⟩
theorem y9:bM ["left","table","turn","place","ways","way","need"] ["left"] (aG jb):=⟨rfl,rfl,rfl,by decide +kernel,rfl,by decide +kernel,by decide +kernel⟩
theorem M2:bM ["game","rule"] ["game","rule"] (aG tN):=⟨rfl,rfl,rfl,by decide +kernel,rfl,by decide +kernel,by decide +kernel⟩
theorem D2:bM ["game","rule","table","ways","row","way","most","own"] ["game","rule","table"] (aG mK):=⟨rfl,rfl,rfl,by decide +kernel,rfl,by decide +kernel,by decide +kernel⟩
theorem yR:bM ["game","rule","table","told","better"] ["game"] (aG i7):=⟨rfl,rfl,rfl,by decide +kernel,rfl,by decide +kernel,by decide +kernel⟩
theorem uX:bM ["game","last","rule","table","ways","row","way","purse"] ["game"] (aG iC):=⟨rfl,rfl,rfl,by decide +kernel,rfl,by decide +kernel,by decide +kernel⟩
theorem BP:bM ["count","rank","amount","turn"] ["count","rank"] (aG lr):=⟨rfl,rfl,rfl,by decide +kernel,rfl,by decide +kernel,by decide +kernel⟩
theorem yQ:bM ["game","count"] ["game"] (aG i6):=⟨rfl,rfl,rfl,by decide +kernel,rfl,by decide +kernel,by decide +kernel⟩
theorem vN:bM ["game","hand","amounts"] ["game","hand"] (aG iS):=⟨rfl,rfl,rfl,by decide +kernel,rfl,by decide +kernel,by decide +kernel⟩
theorem JG:bM ["game"] ["game"] (aG pZ):=⟨rfl,rfl,rfl,by decide +kernel,rfl,by decide +kernel,by decide +kernel⟩
theorem xO:bM ["count","places","marks","place"] ["count","places"] (aG jy):=⟨rfl,rfl,rfl,by decide +kernel,rfl,by decide +kernel,by decide +kernel⟩
theorem zb:bM ["game","part"] ["game","part"] (aG ki):=⟨rfl,rfl,rfl,by decide +kernel,rfl,by decide +kernel,by decide +kernel⟩
theorem vO:bM ["game","hand","inside","wanted","lacking","place","row"] ["game","hand","inside","wanted"] (aG gZ):=⟨rfl,rfl,rfl,by decide +kernel,rfl,by decide +kernel,by decide +kernel⟩
theorem za:bM ["layer","entries","lacking","joined","place","source"] ["layer","entries","lacking"] (aG kh):=⟨rfl,rfl,rfl,by decide +kernel,rfl,by decide +kernel,by decide +kernel⟩
theorem BR:bM ["game","entries","hand","goal","part","inside","wanted","lacking","layers","layer"] ["game","entries","hand","goal","part"] (aG jP):=⟨rfl,rfl,rfl,by decide +kernel,rfl,by decide +kernel,by decide +kernel⟩
theorem BS:bM ["ways","marks"] ["ways","marks"] (aG jQ):=⟨rfl,rfl,rfl,by decide +kernel,rfl,by decide +kernel,by decide +kernel⟩
theorem yY:bM ["game","hand","layers","rule","ahead","layer","marks","place"] ["game","hand","layers"] (aG ke):=⟨rfl,rfl,rfl,by decide +kernel,rfl,by decide +kernel,by decide +kernel⟩
theorem BU:bM ["layers","places","layer"] ["layers"] (aG lx):=⟨rfl,rfl,rfl,by decide +kernel,rfl,by decide +kernel,by decide +kernel⟩
theorem JH:bM ["game","cutter"] ["game"] (aG qc):=⟨rfl,rfl,rfl,by decide +kernel,rfl,by decide +kernel,by decide +kernel⟩
theorem JF:bM ["_law_script","_law_k","_law_mixed"] ["_law_script","_law_k"] (aG pY):=⟨rfl,rfl,rfl,by decide +kernel,rfl,by decide +kernel,by decide +kernel⟩
theorem BQ:bM ["_law_found"] ["_law_found"] (aG lu):=⟨rfl,rfl,rfl,by decide +kernel,rfl,by decide +kernel,by decide +kernel⟩
theorem D7:bM ["_law_script","_law_k","_law_many","_law_block","_law_most","_law_cell","_law_low","_law_size","_law_goals","_law_j","_law_by","_law_goal"] ["_law_script","_law_k","_law_many","_law_block","_law_most"] (aG mQ):=⟨rfl,rfl,rfl,by decide +kernel,rfl,by decide +kernel,by decide +kernel⟩
theorem D6:bM ["_law_script","_law_k","_law_many","_law_cell"] ["_law_script","_law_k","_law_many"] (aG mP):=⟨rfl,rfl,rfl,by decide +kernel,rfl,by decide +kernel,by decide +kernel⟩
theorem D5:bM ["_law_script","_law_top","_law_head","_law_many","_law_most","_law_block","_law_game_here","_law_k","_law_ways_here"] ["_law_script","_law_top"] (aG mO):=⟨rfl,rfl,rfl,by decide +kernel,rfl,by decide +kernel,by decide +kernel⟩
theorem yX:bM ["_law_game_here"] ["_law_game_here"] (aG i9):=⟨rfl,rfl,rfl,by decide +kernel,rfl,by decide +kernel,by decide +kernel⟩
theorem yW:bM ["_law_many","_law_rank_here","_law_hand","_law_amount_here","_law_k"] ["_law_many","_law_rank_here","_law_hand"] (aG kd):=⟨rfl,rfl,rfl,by decide +kernel,rfl,by decide +kernel,by decide +kernel⟩
theorem vP:bM ["_law_paper","_law_game_here","_law_one"] ["_law_paper","_law_game_here"] (aG iT):=⟨rfl,rfl,rfl,by decide +kernel,rfl,by decide +kernel,by decide +kernel⟩
theorem tP:bM ["_law_game_here","_law_hand","_law_paper","_law_purse","_law_row","_law_amount_here","_law_some","_law_due"] ["_law_game_here","_law_hand","_law_paper"] (aG fR):=⟨rfl,rfl,rfl,by decide +kernel,rfl,by decide +kernel,by decide +kernel⟩
theorem VE:bM ["_law_script","_law_game_here","_law_handed","_law_found","_law_won","_law_place","_law_both","_law_amounts"] ["_law_script"] (aG vp):=⟨rfl,rfl,rfl,by decide +kernel,rfl,by decide +kernel,by decide +kernel⟩
theorem rQ:bM ["self","game"] ["self","game"] (aG gD):=⟨rfl,rfl,rfl,by decide +kernel,rfl,by decide +kernel,by decide +kernel⟩
theorem xM:bM ["self","hand","goal","left"] ["self","hand","goal","left"] (aG jx):=⟨rfl,rfl,rfl,by decide +kernel,rfl,by decide +kernel,by decide +kernel⟩
theorem tO:bM ["self","left","places","marks"] ["self","left","places"] (aG fQ):=⟨rfl,rfl,rfl,by decide +kernel,rfl,by decide +kernel,by decide +kernel⟩
theorem xL:bM ["self","hand","layers","rule","layer","place"] ["self","hand","layers"] (aG jw):=⟨rfl,rfl,rfl,by decide +kernel,rfl,by decide +kernel,by decide +kernel⟩
theorem qR:bM ["self","hand","tops","left","marks","place","own"] ["self","hand","tops","left"] (aG fX):=⟨rfl,rfl,rfl,by decide +kernel,rfl,by decide +kernel,by decide +kernel⟩
theorem yP:bM ["self","part","top","hand","pieces","left","tops","aside","others","lost","layers"] ["self","part"] (aG fL):=⟨rfl,rfl,rfl,by decide +kernel,rfl,by decide +kernel,by decide +kernel⟩
section
variable {P:aS} {w:bN} {K:aj} {mg:bc->Option ae} {base:cj}
def oT:Sp:=λvs H Q _=>∃ z:Int,vs=[.int z]/\Q (.bl true) H
theorem Mr (F:aX K mg "_law_whole" lu ["_law_found"]) (T:Txt mg):Dn P w K mg base "_law_whole" 1 ["_law_found"] oT:=by
 have sc:=BQ;refine F.ok sc (λvs H Q E h=>?_) (λf di A outer s H vs Q E hr h=>?_)
 ·obtain⟨z,rfl,_⟩:=h;rfl
 obtain⟨z,rfl,q⟩:=h;refine⟨_,(aC (cf (BG (bE (wZ (K:=K) rfl (T := "int")) rfl T.ib db (aa (pv 0) (aa (oJ (v:=.ty "int") rfl T.KR ot rfl) ar))) (BH (MG (bE (wZ (K:=K) rfl (T := "bool")) rfl T.ib db (aa (pv 0) (aa (oJ (v:=.ty "bool") rfl T.KP x6 rfl) ar)))))))),?_⟩;refine⟨_,rfl,_,"int",_,rfl,rfl,pJ _,true,rfl,?_⟩;refine mF ?_;exact⟨_,rfl,_,"int",_,rfl,rfl,tj,false,rfl,q⟩
theorem DS (F:aX K mg "is_whole" mM ["value"]) (T:Txt mg):Dn P w K mg base "is_whole" 1 ["value"] oT:=by
 have sc:=D4;refine F.ok sc (λvs H Q E h=>?_) (λf di A outer s H vs Q E hr h=>?_)
 ·obtain⟨z,rfl,_⟩:=h;rfl
 obtain⟨z,rfl,q⟩:=h;refine⟨_,(aC (cf (BG (bE (wZ (K:=K) rfl (T := "int")) rfl T.ib db (aa (pv 0) (aa (oJ (v:=.ty "int") rfl T.KR ot rfl) ar))) (BH (MG (bE (wZ (K:=K) rfl (T := "bool")) rfl T.ib db (aa (pv 0) (aa (oJ (v:=.ty "bool") rfl T.KP x6 rfl) ar)))))))),?_⟩;refine⟨_,rfl,_,"int",_,rfl,rfl,pJ _,true,rfl,?_⟩;refine mF ?_;exact⟨_,rfl,_,"int",_,rfl,rfl,tj,false,rfl,q⟩
def B1:Sp:=λvs H Q _=>∃ z n:Int,vs=[.int z,.int n]/\Q (.bl (decide (0<=z/\z<n))) H
theorem DR (F:aX K mg "is_place" mL ["value","count"]) (T:Txt mg) (jF:Dn P w K mg base "is_whole" 1 ["value"] oT):Dn P w K mg base "is_place" 2 ["value","count"] B1:=by
 have sc:=D3;refine F.ok sc (λvs H Q E h=>?_) (λf di A outer s H vs Q E hr h=>?_)
 ·obtain⟨_,_,rfl,_⟩:=h;rfl
 obtain⟨z,n,rfl,q⟩:=h;refine⟨_,(aC (cf (BG (cx jF hr (aa (pv 0) ar)) (BH (MC Zo Hb aA (pv 0) (pv 1)))))),?_⟩;refine⟨_,rfl,z,rfl,true,rfl,?_⟩;refine mF ?_;refine⟨_,rfl,_,_,rfl,rfl,decide (0<=z),rfl,?_⟩;refine fB (λc=>?_) (λc=>?_)
 ·have h0:0<=z:=of_decide_eq_true c;refine⟨_,rfl,_,_,rfl,rfl,?_⟩;show Q (V.bl (decide (z<n))) H;have e:decide (z<n)=decide (0<=z/\z<n):=by
   by_cases h:z<n
   ·rw[decide_eq_true h,decide_eq_true ⟨h0,h⟩]
   ·rw[decide_eq_false h,decide_eq_false λk=>h k.2]
  rw[e];exact q
 ·have e:decide (0<=z/\z<n)=false:=decide_eq_false λk=>c (decide_eq_true k.1);rw[e] at q;exact q
def EU (z:Int):Prop:=z=0\/z=1
def WG (n:Int) (ws:List Int):Prop:=ws≠[]/\∀ x∈ws,0<=x/\x<n
def Nh (K:aj):Sp:=λvs H Q E=>∃ z:Int,vs=[.int z]/\(EU z->∀ H',bp H H'->Q .fj H')/\(¬ EU z->∀ H',bp H H'->E (.ref (xa K "NoHand")) none H')
theorem yL (F:aX K mg "check_hand" j8 ["hand"]) (T:Txt mg) (XC:XT K mg "GarthError" JU JT) (jF:Dn P w K mg base "is_whole" 1 ["value"] oT):vB P w K mg base "check_hand" 2 ["hand"] (Nh K):=by
 have sc:=yS;refine F.OA sc (λvs H Q E h=>?_) (λf di A outer s H vs Q E hr h=>?_)
 ·obtain⟨z,rfl,_⟩:=h;rfl
 obtain⟨z,rfl,q1,q2⟩:=h;refine⟨_,(aC (dC (PW.pt (a0h (jm (fC (cx jF hr (aa (pv 0) ar)))) (a0f (cg (FJ (K:=K) rfl) (pv 0) (gh (aa aA (aa aA ar))) rfl))))
   (aC (n6 qz (XC.m "NoHand" (by decide)) (XC.exc "NoHand" (by decide)) (aa xG ar)))
   cr)),?_⟩
 refine⟨_,rfl,z,rfl,_,rfl,?_⟩;refine fW ?_;refine⟨_,rfl,(by show 2<=aJ;decide),λt ht=>?_⟩;refine⟨t,_,rfl,.inr (eU.of au),rfl,rfl,_,rfl,?_⟩;show if (!WM (.int z) (([0,1]:List Int).map V.int))=true then _ else _;rw[xq];refine fB (λc=>?_) (λc=>?_)
 ·exact⟨(by show 1<=aJ;decide),q2 (λk=>by simp at c;rcases k with k | k <;> omega) _ (ay ht _)⟩
 ·refine q1 ?_ _ (ay ht _);have h:¬ z=0->z=1:=by simpa using c
  by_cases e:z=0
  ·exact .inl e
  ·exact .inr (h e)
def vq (K:aj):Sp:=λvs H Q E=>∃ (wa:ak) (ws:List Int) (n:Int),vs=[.ref wa,.int n]/\H wa=some (.lst (ws.map V.int))/\(WG n ws->Q .fj H)/\(¬ WG n ws->E (.ref (xa K "NoWay")) none H)
theorem yM (F:aX K mg "check_ways" kc ["ways","count"]) (T:Txt mg) (XC:XT K mg "GarthError" JU JT) (rp:Dn P w K mg base "is_place" 2 ["value","count"] B1):vB P w K mg base "check_ways" 3 ["ways","count"] (vq K):=by
 have sc:=yU;refine F.OA sc (λvs H Q E h=>?_) (λf di A outer s H vs Q E hr h=>?_)
 ·obtain⟨_,_,_,rfl,_⟩:=h;rfl
 obtain⟨wa,ws,n,rfl,hw,q1,q2⟩:=h;refine⟨_,(av (dC (cg iR (bE (eV (K:=K) rfl) rfl T.eL be (aa (pv 0) ar)) aA (cE _))
   (aC (n6 qz (XC.m "NoWay" (by decide)) (XC.exc "NoWay" (by decide)) (aa xG ar)))
   cr)
   (aC (dW sH rfl (c8 (pv 0)) (bZ (i:=2) sc.nd rfl (aW rfl))
   (aC (dC (jm (fC (cx rp hr (aa (pv 2) (aa (pv 1) ar)))))
   (aC (n6 qz (XC.m "NoWay" (by decide)) (XC.exc "NoWay" (by decide)) (aa xG ar)))
   cr))))),?_⟩
 have hl:(ws.map V.int).length=ws.length:=ag _;refine⟨_,rfl,wa,_,rfl,.inl (bQ.of hw),rfl,_,rfl,?_⟩;refine fB (λc=>?_) (λc=>?_)
 ·have c':=of_decide_eq_true c;have c2:(((ws.map V.int).length:Nat):Int)=0:=by injection c'
  refine⟨(by show 1<=aJ;decide),q2 λk=>k.1 (kA.mp (by omega))⟩
 have kU:ws≠[]:=λz=>c (by rw[z];rfl);refine⟨_,rfl,wa,rfl,⟨_,bQ.of hw⟩,gy (K:=K) (a:=wa) (xs:=ws.map V.int) (λi σ H2=>H2=H/\(∃ y:Option V,σ=[some (.ref wa),some (.int n),y])/\∀ x∈ws.take i,0<=x/\x<n) ⟨rfl,⟨_,rfl⟩,λ_ z=>by cases z⟩ (λi σ H2 _ h=>?_) (λi x σ H2 hi h=>?_) (λσ H2 h=>?_)⟩
 ·obtain⟨rfl,_⟩:=h;exact bQ.of hw
 ·obtain⟨rfl,⟨y,rfl⟩,hk⟩:=h;obtain⟨z,hz,rfl⟩:=eG hi;refine⟨_,rfl,_,rfl,z,n,rfl,_,rfl,?_⟩;refine fB (λc=>?_) (λc=>?_)
  ·exact⟨(by show 1<=aJ;decide),q2 λk=>by have:=k.2 z (aq hz);simp[this] at c⟩
  ·refine⟨rfl,⟨_,rfl⟩,λx hx=>?_⟩;rcases (cz hz).mp hx with h | h
   ·exact hk x h
   ·rw[h];simpa using c
 ·obtain⟨rfl,_,hk⟩:=h;rw[ag,aY] at hk;exact q1 ⟨kU,hk⟩
def Tn (n:Nat) (w:Int × Int):Prop:=0<=w.1/\w.1<n/\-(10 ^ 60)<w.2/\w.2<10 ^ 60
def AW (n:Nat) (r:qF):Prop:=EU r.1/\r.2≠[]/\(∀ w∈r.2,Tn n w)/\r.2.Pairwise (λa b=>a.1<b.1)/\r.2.length<=60
def wQ (G:List qF):Prop:=G.length<=16/\∀ r∈G,AW G.length r
theorem BE {ts:List (ak × Int × Int)} {i:Nat} {x:V} (h:(ts.map λt=>V.ref t.1)[i]?=some x):∃ t,ts[i]?=some t/\x=.ref t.1:=by
 rw[aI] at h;cases e:ts[i]? with
 | none=>rw[e] at h;cases h
 | some t=>rw[e] at h;cases h;exact⟨t,rfl,rfl⟩
def Su (K:aj):Sp:=λvs H Q _=>∃ (wa:ak) (ts:List (ak × Int × Int)) (n:Nat),vs=[.ref wa,.int ((n:Nat):Int)]/\kI H wa ts/\AW n (0,ts.map λt=>t.2)/\∀ H',bp H H'->Q .fj H'
theorem Vi (F:aX K mg "check_purse_ways" eQ ["ways","count"]) (T:Txt mg) (XC:XT K mg "GarthError" JU JT) (AL:vB P w K mg base "check_ways" 3 ["ways","count"] (vq K)):vB P w K mg base "check_purse_ways" 4 ["ways","count"] (Su K):=by
 have sc:=qT;refine F.OA sc (λvs H Q E h=>?_) (λf di A outer s H vs Q E hr h=>?_)
 ·obtain⟨_,_,_,rfl,_⟩:=h;rfl
 obtain⟨wa,ts,n,rfl,hw,cZ,q⟩:=h;obtain⟨_,kU,lG,Ft,Xx⟩:=cZ;have hl:(ts.map λt=>V.ref t.1).length=ts.length:=ag _;have ajh:ts.length<=60:=by simpa using Xx
 have xm:∀ x:Int,x∈ts.map (λt=>t.2.1)->0<=x/\x<n:=λx hx=>by
  obtain⟨t,ht,rfl⟩:=aM.mp hx;have:=lG t.2 (aM.mpr ⟨t,ht,rfl⟩);exact⟨this.1,this.2.1⟩
 have Dp:(ts.map λt=>t.2.1).Nodup:=by
  have:(ts.map λt=>t.2.1).Pairwise (·<·):=by
   rw[cT];have h2:(ts.map λt=>t.2).Pairwise (λa b=>a.1<b.1):=Ft;rwa [cT] at h2
  exact this.imp λh=>by omega
 refine⟨_,(av (vn (i:=2) (aG eQ) ["ways","count","places"] ["way"] 1 [] sc.nd rfl rfl (c8 (pv 0)) (λ_ _ _ _ _ _=>(gB (show cO (["way"]:List bc) by decide +kernel) rfl rfl)) (λ_ _ _ _ _ _=>iM) (λ_ _ _ _ _ _=>(bL (jM (K:=K) rfl) (pv 0) aA (λ_ _=>rfl))))
   (av (da (jk pX AL hr (aa (pv 2) (aa (pv 1) ar))))
   (aC (dC (cg Hb (FT (K:=K) rfl rfl rfl T.eL rfl T.Xj (aa (pv 2) ar)) (bE (eV (K:=K) rfl) rfl T.eL be (aa (pv 2) ar)) (cE _))
   (aC (n6 qz (XC.m "NoWay" (by decide)) (XC.exc "NoWay" (by decide)) (aa xG ar)))
   cr)))),?_⟩
 refine⟨_,rfl,wa,rfl,⟨_,bQ.of hw.1⟩,cY (K:=K) (a:=wa) (xs:=ts.map λt=>V.ref t.1) (λi ys H3=>H3=H/\ys=((ts.take i).map λt=>t.2.1).map V.int) ⟨rfl,rfl⟩ (a0b (m:=1000) (by omega)) (λi ys H3 hi h=>?_) (λi x ys H3 hi h=>?_) (λys H3 h p hp=>?_)⟩
 ·obtain⟨rfl,rfl⟩:=h;exact⟨bQ.of hw.1,by simp;omega⟩
 ·obtain⟨rfl,rfl⟩:=h;obtain⟨t,ht,rfl⟩:=BE hi;refine mB ?_;refine⟨_,rfl,t.1,_,_,_,rfl,rfl,eU.of (hw.2 t (aq ht)),bu (j:=0) rfl,rfl,?_⟩;rw[bw,ht,aN,aN];rfl
 obtain⟨rfl,rfl⟩:=h;rw[hl,aY];have sp:=ay hp (.lst ((ts.map λt=>t.2.1).map V.int));refine⟨_,rfl,_,rfl,p,_,n,rfl,au,λ_=>?_,λz=>absurd ⟨λz2=>kU (by simpa using z2),xm⟩ z⟩;refine⟨_,rfl,p,_,rfl,bQ.of au,by simp;omega,λns hn adT=>?_⟩;refine⟨_,rfl,p,_,rfl,.inl (bQ.of au),_,_,rfl,rfl,_,rfl,?_⟩;refine fB (λc=>?_) (λc=>?_)
 ·exfalso;have c':=of_decide_eq_true c;have:=gX (ts.map λt=>t.2.1) ns Dp λk hk=>(adT k).mpr hk;rw[ag] at c';omega
 ·exact q _ sp
def ZR (K:aj):Sp:=λvs H Q _=>∃ (wa:ak) (ts:List (ak × Int × Int)) (n:Nat),vs=[.ref wa]/\kI H wa ts/\AW n (0,ts.map λt=>t.2)/\Q .fj H
theorem Zh (F:aX K mg "check_amounts" iB ["ways"]) (T:Txt mg) (XC:XT K mg "GarthError" JU JT) (jF:Dn P w K mg base "is_whole" 1 ["value"] oT):vB P w K mg base "check_amounts" 2 ["ways"] (ZR K):=by
 have sc:=uV;refine F.OA sc (λvs H Q E h=>?_) (λf di A outer s H vs Q E hr h=>?_)
 ·obtain⟨_,_,_,rfl,_⟩:=h;rfl
 obtain⟨wa,ts,n,rfl,hw,cZ,q⟩:=h;obtain⟨_,kU,lG,Ft,Xx⟩:=cZ;refine⟨_,(aC (dW sH rfl (c8 (pv 0)) (bZ (i:=1) sc.nd rfl (aW rfl))
   (aC (dC (PW.pt (a0h (jm (fC (cx jF hr (aa (bL (jM (K:=K) rfl) (pv 1) aA (λ_ _=>rfl)) ar)))) (a0f (cg Mw (bE IG rfl T.Xi PyProof.Rows.boot_abs (aa (bL (jM (K:=K) rfl) (pv 1) aA (λ_ _=>rfl)) ar)) (bV Vo aA aA) (cE _)))))
   (aC (n6 qz (XC.m "NoAmount" (by decide)) (XC.exc "NoAmount" (by decide)) (aa xG ar)))
   cr)))),?_⟩
 refine⟨_,rfl,wa,rfl,⟨_,bQ.of hw.1⟩,gy (K:=K) (a:=wa) (xs:=ts.map λt=>V.ref t.1) (λi σ H2=>H2=H/\∃ y:Option V,σ=[some (.ref wa),y]) ⟨rfl,_,rfl⟩ (λi σ H2 _ h=>?_) (λi x σ H2 hi h=>?_) (λσ H2 h=>?_)⟩
 ·obtain⟨rfl,_⟩:=h;exact bQ.of hw.1
 ·obtain⟨rfl,y,rfl⟩:=h;obtain⟨t,ht,rfl⟩:=BE hi;have htm:=aq ht;have hb:=lG t.2 (aM.mpr ⟨t,htm,rfl⟩);obtain⟨_,_,b1,b2⟩:=hb;refine⟨_,rfl,t.1,_,_,_,rfl,rfl,eU.of (hw.2 t htm),bu (j:=1) rfl,_,rfl,_,rfl,?_⟩;refine fW ?_;refine⟨_,rfl,t.1,_,_,_,rfl,rfl,eU.of (hw.2 t htm),bu (j:=1) rfl,_,rfl,_,_,rfl,rfl,⟨by decide,by decide,by decide⟩,_,_,rfl,rfl,_,rfl,?_⟩;refine fB (λc=>?_) (λc=>?_)
  ·exfalso;have c':(10:Int) ^ (60:Int).toNat<=(if t.2.2<0 then -t.2.2 else t.2.2):=of_decide_eq_true c;have e:(10:Int) ^ (60:Int).toNat=10 ^ 60:=rfl;rw[e] at c';split at c' <;> omega
  ·exact⟨rfl,_,rfl⟩
 ·obtain⟨rfl,_⟩:=h;exact q
def Ss (K:aj):Sp:=λvs H Q E=>∃ (v:V) (G:List qF),vs=[v]/\QH H G v/\G.length<=1000/\((16<G.length/\∀ H',bp H H'->E (.ref (xa K "TooMany")) none H')\/(wQ G/\∀ H',bp H H'->Q .fj H'))
theorem Vh (F:aX K mg "check_purse_rows" fY ["rows"]) (T:Txt mg) (XC:XT K mg "GarthError" JU JT) (AJ:vB P w K mg base "check_hand" 2 ["hand"] (Nh K)) (rm:vB P w K mg base "check_purse_ways" 4 ["ways","count"] (Su K)) (vz:vB P w K mg base "check_amounts" 2 ["ways"] (ZR K)):vB P w K mg base "check_purse_rows" 5 ["rows"] (Ss K):=by
 have sc:=qS;refine F.OA sc (λvs H Q E h=>?_) (λf di A outer s H vs Q E hr h=>?_)
 ·obtain⟨_,_,rfl,_⟩:=h;rfl
 obtain⟨v,G,rfl,hG,GK,q⟩:=h;obtain⟨g0,gv,rfl,jv,k8,eJ⟩:=DX hG;refine⟨_,(av (dC (cg Ha (bE (eV (K:=K) rfl) rfl T.eL be (aa (pv 0) ar)) (Qs T.lR) (cE _))
   (aC (n6 qz (XC.m "TooMany" (by decide)) (XC.exc "TooMany" (by decide)) (aa (Qu (MI (Vv T.lR (MI Vw)))) ar)))
   cr)
   (aC (dW sH rfl (c8 (pv 0)) (bZ (i:=1) sc.nd rfl (aW rfl))
   (av (da (jk pX AJ hr (aa (bL (jM (K:=K) rfl) (pv 1) aA (λ_ _=>rfl)) ar)))
   (av (da (jk pX rm hr (aa (bL (jM (K:=K) rfl) (pv 1) aA (λ_ _=>rfl)) (aa (bE (eV (K:=K) rfl) rfl T.eL be (aa (pv 0) ar)) ar))))
   (aC (da (jk pX vz hr (aa (bL (jM (K:=K) rfl) (pv 1) aA (λ_ _=>rfl)) ar))))))))),?_⟩
 refine⟨_,rfl,g0,_,rfl,.inl (bQ.of jv),_,_,rfl,rfl,_,rfl,?_⟩;refine fB (λc=>?_) (λc=>?_)
 ·have:(16:Int)<(gv.length:Nat):=of_decide_eq_true c;rcases q with ⟨_,q⟩ | ⟨hg,_⟩
  ·exact λx=>⟨(by show 1<=aJ;decide),q _ (bp.refl _)⟩
  ·have:=hg.1;omega
 have TW:¬ (16:Int)<(gv.length:Nat):=λk=>c (decide_eq_true k);rcases q with ⟨h,_⟩ | ⟨hg,q⟩
 ·omega
 refine⟨_,rfl,g0,rfl,⟨_,bQ.of jv⟩,gy (K:=K) (a:=g0) (xs:=gv) (λi σ H2=>bp H H2/\∃ y:Option V,σ=[some (.ref g0),y]) ⟨bp.refl _,_,rfl⟩ (λi σ H2 _ h=>?_) (λi x σ H2 hi h=>?_) (λσ H2 h=>?_)⟩
 ·exact bQ.of (h.1 _ _ jv)
 ·obtain⟨s2,y,rfl⟩:=h;have R4:i<G.length:=by have:=(af.mp hi).1;omega
  obtain⟨row,jC⟩:∃ row,G[i]?=some row:=⟨G[i],by simp⟩
  obtain⟨t,wa,ts,p1,p2,p3,p4⟩:=eJ i row jC;rw[hi] at p1;cases p1;have cZ:=hg.2 row (aq jC);have LF:AW G.length (0,ts.map λt=>t.2):=by rw[p4];exact⟨.inl rfl,cZ.2⟩
  refine⟨_,rfl,t,_,_,_,rfl,rfl,eU.of (s2 _ _ p2),bu (j:=0) rfl,row.1,rfl,λ_ H3 s3=>?_,λz=>absurd cZ.1 z⟩;have s23:=s2.trans s3;refine⟨_,rfl,t,_,_,_,rfl,rfl,eU.of (s23 _ _ p2),bu (j:=1) rfl,_,rfl,g0,_,rfl,.inl (bQ.of (s23 _ _ jv)),wa,ts,G.length,congrArg (λz:Nat=>[V.ref wa,V.int (z:Int)]) k8,p3.up s23,LF,λH4 s4=>?_⟩;have s24:=s23.trans s4;refine⟨_,rfl,t,_,_,_,rfl,rfl,eU.of (s24 _ _ p2),bu (j:=1) rfl,wa,ts,G.length,rfl,p3.up s24,LF,?_⟩;exact⟨s24,_,rfl⟩
 ·exact q _ h.1
def B3 (K:aj):Sp:=λvs H Q E=>∃ (v:V) (G:List qF),vs=[v]/\QH H G v/\G.length<=1000/\((16<G.length/\∀ H',bp H H'->E (.ref (xa K "TooMany")) none H')\/(wQ G/\∀ (g:ak) (gv:List V) (H1:Hp),bp H H1->H1 g=none->dE (Sj (kO H H1)) G gv->Q (.ref g) (upd H1 g (.lst gv))))
theorem Mp (F:aX K mg "purse_game" jc ["rows"]) (T:Txt mg) (XC:XT K mg "GarthError" JU JT) (rh:vB P w K mg base "check_purse_rows" 5 ["rows"] (Ss K)):vB P w K mg base "purse_game" 6 ["rows"] (B3 K):=by
 have sc:=zc;refine F.OA sc (λvs H Q E h=>?_) (λf di A outer s H vs Q E hr h=>?_)
 ·obtain⟨_,_,rfl,_⟩:=h;rfl
 obtain⟨v,G,rfl,hG,GK,q⟩:=h;obtain⟨g0,gv,rfl,jv,k8,eJ⟩:=DX hG;refine⟨_,(av (da (jk pX rh hr (aa (pv 0) ar)))
   (aC (cf (tE (aG jc) ["rows"] ["row"] 1 [] (c8 (pv 0)) (λ_ _ _ _ _ _=>(gB (show cO (["row"]:List bc) by decide +kernel) rfl rfl)) (λ_ _ _ _ _ _=>iM) (λ_ _ _ _ _ _=>(gh (aa (bL (jM (K:=K) rfl) (pv 0) aA (λ_ _=>rfl)) (aa (bE (Bg (K:=K) rfl) rfl T.sN ji (aa (by exact (we  ["row"] ["way"] 1 [] (tF (bL (jM (K:=K) rfl) (pv 0) aA (λ_ _=>rfl))) (λ_ _ _ _ _ _=>(gB (show cO (["way"]:List bc) by decide +kernel) rfl rfl)) (λ_ _ _ _ _ _=>iM) (λ_ _ _ _ _ _=>(gh (aa (bL (jM (K:=K) rfl) (pv 0) aA (λ_ _=>rfl)) (aa (bL (jM (K:=K) rfl) (pv 0) aA (λ_ _=>rfl)) ar)))))) ar)) ar)))))))),?_⟩
 rcases q with ⟨TW,q⟩ | ⟨hg,q⟩
 ·exact⟨_,rfl,_,G,rfl,hG,GK,.inl ⟨TW,q⟩⟩
 refine⟨_,rfl,_,G,rfl,hG,GK,.inr ⟨hg,λH1 s1=>?_⟩⟩;have TW:=hg.1;refine⟨_,rfl,g0,rfl,⟨_,bQ.of (s1 _ _ jv)⟩,cY (K:=K) (a:=g0) (xs:=gv) (λi ys H2=>bp H H2/\dE (Sj (kO H H2)) (G.take i) ys) ⟨s1,.nil⟩ (a0b (m:=1000) (by omega)) (λi ys H2 hi h=>?_) (λi x ys H2 hi h=>?_) (λys H2 h p hp=>?_)⟩
 ·exact⟨bQ.of (h.1 _ _ jv),by have:=h.2.length;rw[cA] at this;omega⟩
 ·obtain⟨s2,pr⟩:=h;have R4:i<G.length:=by have:=(af.mp hi).1;omega
  obtain⟨row,jC⟩:∃ row,G[i]?=some row:=⟨G[i],by simp⟩
  obtain⟨t,wa,ts,p1,p2,p3,p4⟩:=eJ i row jC;rw[hi] at p1;cases p1;obtain⟨_,kU,lG,Ft,Xx⟩:=hg.2 row (aq jC);have htl:ts.length<=60:=by rw[← p4,ag] at Xx;exact Xx
  refine mB ?_;refine⟨_,rfl,t,_,_,_,rfl,rfl,eU.of (s2 _ _ p2),bu (j:=0) rfl,_,rfl,t,_,_,_,rfl,rfl,eU.of (s2 _ _ p2),bu (j:=1) rfl,wa,rfl,⟨_,bQ.of ((p3.up s2).1)⟩,cY (K:=K0) (a:=wa) (xs:=ts.map λt=>V.ref t.1) (λj zs H3=>∃ us:List (ak × Int × Int),bp H2 H3/\zs=us.map (λu=>V.ref u.1)/\us.map (λu=>u.2)=(ts.take j).map (λu=>u.2)/\∀ u∈us,kO H2 H3 u.1=some (.tup [.int u.2.1,.int u.2.2])) ⟨[],bp.refl _,rfl,rfl,λ_ z=>by cases z⟩ (a0b (m:=1000) (by rw[ag];omega)) (λj zs H3 hj h=>?_) (λj x zs H3 hj h=>?_) (λzs H3 h p hp=>?_)⟩
  ·obtain⟨us,s3,rfl,e2,_⟩:=h;refine⟨bQ.of ((p3.up (s2.trans s3)).1),?_⟩;have:=congrArg l9 e2;rw[ag,ag,cA] at this;rw[ag];omega
  ·obtain⟨us,s3,rfl,e2,e3⟩:=h;obtain⟨u,hu,rfl⟩:=BE hj;have hut:=(p3.up (s2.trans s3)).2 u (aq hu);refine mB ?_;refine⟨_,rfl,u.1,_,_,_,rfl,rfl,eU.of hut,bu (j:=0) rfl,_,rfl,u.1,_,_,_,rfl,rfl,eU.of hut,bu (j:=1) rfl,(by show 2<=aJ;decide),λt2 uI=>?_⟩;refine⟨us++[(t2,u.2)],s3.trans (ay uI _),by simp,by rw[aN,e2,bw,hu,aN];rfl,λz hz=>?_⟩;rcases bj.mp hz with h | h
   ·exact v7 (ay uI _) _ _ (e3 z h)
   ·rw[aP.mp h];rw[i5 (s3.free uI),au]
  obtain⟨us,s3,rfl,e2,e3⟩:=h;rw[ag,aY,p4] at e2;have hul:us.length<=60:=by have:=congrArg l9 e2;rw[ag] at this;omega
  have s4:=ay hp (.lst (us.map λu=>V.ref u.1));have Dp:(us.map λu=>u.2.1).Nodup:=by
   have h2:(us.map λu=>u.2).Pairwise (λa b=>a.1<b.1):=by rw[e2];exact Ft
   rw[cT] at h2;have:(us.map λu=>u.2.1).Pairwise (·<·):=by rw[cT];exact h2
   exact this.imp λh=>by omega
  refine⟨p,us,rfl,bQ.of au,by omega,λu hu=>eU.of (s4 _ _ (mh _ _ _ _ (e3 u hu))),Dp,λl us' hl pm pw=>?_⟩;have e4:us'.map (λu=>u.2)=row.2:=by
   rw[← e2];exact Ho (pm.map _) (by rw[cT];exact pw) (by rw[e2];exact Ft)
  refine⟨(by show 2<=aJ;decide),λt2 uI=>?_⟩;have s5:=s4.trans (ay hl (.lst (us'.map λu=>V.ref u.1)));have s6:=s5.trans (ay uI (.tup [.int row.1,.ref l]));have s26:=s3.trans s6;refine⟨s2.trans s26,?_⟩;rw[bw,jC];refine Paired.app (dq l6 (v7 s26) pr) (.cons ?_ .nil);have o6:H2 l=none:=(s3.trans s4).free hl;have iz:l≠t2:=λz=>by rw[z] at hl;rw[← z,au] at uI;cases uI
  have W:kI (kO H (upd (upd (upd H3 p (.lst (us.map λu=>V.ref u.1))) l (.lst (us'.map λu=>V.ref u.1))) t2 (.tup [.int row.1,.ref l]))) l us':=by
   refine⟨by rw[i5 (s2.free o6),bK iz,au],λu hu=>?_⟩;have:=e3 u (pm.mem_iff.mp hu);exact n5 s2 s6 _ _ this
  have:=W.rel;rw[e4] at this;exact⟨t2,_,_,rfl,by rw[i5 (s2.free ((s3.trans s5).free uI)),au],rfl,this⟩
 ·obtain⟨s2,pr⟩:=h;rw[k8,aY] at pr;exact q p ys H2 s2 hp pr
def Sq:Sp:=λvs H Q _=>∃ c r:Int,vs=[.int c,.int r]/\0<=c/\c<=1000/\0<=r/\r<=1000/\Q (.int (kT c r)) H
theorem BB (F:aX K mg "amount_of" lr ["count","rank"]) (T:Txt mg):Dn P w K mg base "amount_of" 1 ["count","rank"] Sq:=by
 have sc:=BP;refine F.ok sc (λvs H Q E h=>?_) (λf di A outer s H vs Q E hr h=>?_)
 ·obtain⟨_,_,rfl,_⟩:=h;rfl
 obtain⟨c,r,rfl,c0,c1,r0,r1,q⟩:=h;refine⟨_,(av (bJ (i:=2) sc.nd rfl (aW rfl) aA)
   (av (dW bh rfl (iE rfl T.jW (aa (pv 1) ar)) (bZ (i:=3) sc.nd rfl (aW rfl))
   (aC (Vx (i:=2) sc.nd rfl (aW rfl) (pv 0) UX)))
   (aC (cf (lm (cg iR (bV fm (pv 1) aA) aA (cE _)) (Hg B7 (pv 2)) (pv 2)))))),?_⟩
 refine⟨_,rfl,r,rfl,by omega,by omega,jL (lo:=0) (n:=r.toNat) (λi σ H2=>H2=H/\∃ y:Option V,σ=[some (.int c),some (.int r),some (.int (c ^ i)),y])
  ⟨rfl,none,by rw[Ip];rfl⟩ (λi σ H2 hi h=>?_) (λσ H2 h=>?_)⟩
 ·obtain⟨rfl,y,rfl⟩:=h;refine⟨_,rfl,_,rfl,_,_,rfl,rfl,.inr ⟨by omega,by omega⟩,?_⟩;exact⟨rfl,_,by rw[Io];rfl⟩
 ·obtain⟨rfl,y,rfl⟩:=h;unfold kT at q;refine⟨_,rfl,_,_,rfl,rfl,(show (0:Int)<2 by decide),rfl,_,rfl,?_⟩;refine fB (λc=>?_) (λc=>?_)
  ·have e:r % 2=1:=by have:=of_decide_eq_true c;injection this
   rw[if_pos e] at q;exact⟨_,rfl,_,rfl,q⟩
  ·have e:¬ r % 2=1:=λe=>c (decide_eq_true (by rw[← e]));rw[if_neg e] at q;exact⟨_,rfl,q⟩
def kJ (G:List Row):List qF:=G.map λr=>(r.1,r.2.2.map λw=>(w,kT G.length r.2.1))
theorem jA (G:List Row):(kJ G).length=G.length:=ag _
def F4 (K:aj):Sp:=λvs H Q E=>∃ (v:V) (G:List Row),vs=[v]/\jj H G v/\G.length<=1000/\(∀ r∈G,0<=r.2.1/\r.2.1<=1000/\r.2.2.length<=60)/\((16<G.length/\∀ H',bp H H'->E (.ref (xa K "TooMany")) none H')\/(wQ (kJ G)/\∀ (g:ak) (gv:List V) (H1:Hp),bp H H1->H1 g=none->dE (Sj (kO H H1)) (kJ G) gv->Q (.ref g) (upd H1 g (.lst gv))))
theorem yJ (F:aX K mg "amounts_of" i6 ["game"]) (T:Txt mg) (XC:XT K mg "GarthError" JU JT) (oz:vB P w K mg base "purse_game" 6 ["rows"] (B3 K)) (CF:Dn P w K mg base "amount_of" 1 ["count","rank"] Sq):vB P w K mg base "amounts_of" 7 ["game"] (F4 K):=by
 have sc:=yQ;refine F.OA sc (λvs H Q E h=>?_) (λf di A outer s H vs Q E hr h=>?_)
 ·obtain⟨_,_,rfl,_⟩:=h;rfl
 obtain⟨v,G,rfl,hG,GK,Fv,q⟩:=h;obtain⟨g0,gv,rfl,jv,k8,eJ⟩:=dZ hG;refine⟨_,(av (bJ (i:=1) sc.nd rfl (oo rfl) (bE (eV (K:=K) rfl) rfl T.eL be (aa (pv 0) ar)))
   (aC (cf (jk pX oz hr (aa (Vt "rank" 2 (aG i6) ["game","count"] ["hand","rank","ways","count"] 3 [1] (c8 (pv 0)) (λ_ _ _ _ _ _=>(Zw (K:=K) rfl rfl (show cO (["hand","rank","ways","count"]:List bc) by decide +kernel) rfl rfl rfl rfl rfl rfl rfl)) (λ_ _ _ _ _ _=>iM) (λ_ _ _ _ _ _=>(gh (aa (pv 0) (aa (by exact (we  ["hand","rank","ways","count"] ["way","rank","count"] 1 [1,3] (tF (pv 2)) (λ_ _ _ _ _ _=>(gB (show cO (["way","rank","count"]:List bc) by decide +kernel) rfl rfl)) (λ_ _ _ _ _ _=>iM) (λ_ _ _ _ _ _=>(gh (aa (pv 0) (aa (cx CF hr (aa (pv 2) (aa (pv 1) ar))) ar)))))) ar))))) ar))))),?_⟩
 refine⟨_,rfl,g0,_,rfl,.inl (bQ.of jv),?_⟩;refine⟨_,rfl,g0,rfl,⟨_,bQ.of jv⟩,cY (K:=K) (a:=g0) (xs:=gv) (λi ys H2=>bp H H2/\dE (Sj H2) ((kJ G).take i) ys) ⟨bp.refl _,.nil⟩ (a0b (m:=1000) (by omega)) (λi ys H2 hi h=>?_) (λi x ys H2 hi h=>?_) (λys H2 h p hp=>?_)⟩
 ·exact⟨bQ.of (h.1 _ _ jv),by have:=h.2.length;rw[cA] at this;omega⟩
 ·obtain⟨s2,pr⟩:=h;have R4:i<G.length:=by have:=(af.mp hi).1;omega
  obtain⟨row,jC⟩:∃ row,G[i]?=some row:=⟨G[i],by simp⟩
  obtain⟨t,wa,p1,p2,p3⟩:=eJ i row jC;rw[hi] at p1;cases p1;obtain⟨k0,k1,k60⟩:=Fv row (aq jC);refine kL (eU.of (s2 _ _ p2)) rfl ?_;refine⟨_,rfl,_,rfl,wa,rfl,⟨_,bQ.of (s2 _ _ p3)⟩,cY (K:=K0) (a:=wa) (xs:=row.2.2.map V.int) (λj zs H3=>∃ us:List (ak × Int × Int),bp H2 H3/\zs=us.map (λu=>V.ref u.1)/\us.map (λu=>u.2)=(row.2.2.take j).map (λw=>(w,kT G.length row.2.1))/\∀ u∈us,H3 u.1=some (.tup [.int u.2.1,.int u.2.2])) ⟨[],bp.refl _,rfl,rfl,λ_ z=>by cases z⟩ (a0b (m:=1000) (by rw[ag];omega)) (λj zs H3 hj h=>?_) (λj x zs H3 hj h=>?_) (λzs H3 h p hp=>?_)⟩
  ·obtain⟨us,s3,rfl,e2,_⟩:=h;refine⟨bQ.of ((s2.trans s3) _ _ p3),?_⟩;have:=congrArg l9 e2;rw[ag,ag,cA] at this;rw[ag];omega
  ·obtain⟨us,s3,rfl,e2,e3⟩:=h;obtain⟨z,hz,rfl⟩:=eG hj;refine mB ?_;refine⟨_,rfl,_,rfl,_,rfl,_,_,rfl,by omega,by omega,k0,k1,(by show 2<=aJ;decide),λu hu=>?_⟩;refine⟨us++[(u,z,kT G.length row.2.1)],s3.trans (ay hu _),by rw[aN];rfl,?_,λv hv=>?_⟩
   ·rw[aN,e2,bw,hz,aN];rfl
   ·rcases bj.mp hv with h | h
    ·exact ay hu _ _ _ (e3 v h)
    ·rw[aP.mp h,au,k8]
  obtain⟨us,s3,rfl,e2,e3⟩:=h;rw[ag,aY] at e2;refine⟨(by show 2<=aJ;decide),λt3 GP=>?_⟩;have sA:=(ay hp (.lst (us.map λu=>V.ref u.1))).trans (ay GP (.tup [.int row.1,.ref p]));refine⟨(s2.trans s3).trans sA,?_⟩;rw[bw,show (kJ G)[i]?=some (row.1,row.2.2.map λw=>(w,kT G.length row.2.1)) by unfold kJ;rw[aI,jC];rfl];refine Paired.app (dq l6 (s3.trans sA) pr) (.cons ?_ .nil);refine⟨t3,_,_,rfl,au,rfl,?_⟩;have hw:kI (upd (upd H3 p (.lst (us.map λu=>V.ref u.1))) t3 (.tup [.int row.1,.ref p])) p us:=⟨ay GP _ _ _ au,λu hu=>sA _ _ (e3 u hu)⟩
  have:=hw.rel;rw[e2] at this;exact this
 obtain⟨s2,pr⟩:=h;rw[k8,← jA G,aY] at pr;have s3:=s2.trans (ay hp (.lst ys));refine⟨_,kJ G,rfl,⟨p,ys,rfl,au,dq l6 (ay hp _) pr⟩,by rw[jA];omega,?_⟩;rcases q with ⟨TW,q⟩ | ⟨Lq,q⟩
 ·exact .inl ⟨by rw[jA];exact TW,λH' s'=>q H' (s3.trans s')⟩
 ·exact .inr ⟨Lq,λg gv' H1 s1 hg pr1=>q g gv' H1 (s3.trans s1) hg (dq l6 (P6 s3) pr1)⟩
def QZ (K:aj):Sp:=λvs H Q _=>∃ (a:ak) (ns:List Int) (k:Int),vs=[.ref a,.int k]/\bQ K H a (ns.map V.int)/\0<=k/\k<=1000/\∀ m:Int,Q (.int m) H
theorem Zg (F:aX K mg "_law_at" pY ["_law_script","_law_k"]) (T:Txt mg):Dn P w K mg base "_law_at" 1 ["_law_script","_law_k"] (QZ K):=by
 have sc:=JF;refine F.ok sc (λvs H Q E h=>?_) (λf di A outer s H vs Q E hr h=>?_)
 ·obtain⟨a,ns,k,rfl,_⟩:=h;rfl
 obtain⟨a,ns,k,rfl,hS,h0,h1,q⟩:=h;have hl:(ns.map V.int).length=ns.length:=ag _;refine⟨_,(av (dC (cg Hb (pv 1) (bE (eV (K:=K) rfl) rfl T.eL be (aa (pv 0) ar)) (cE _))
   (aC (cf (bL (m5 (K:=K) rfl) (pv 0) (pv 1) (λ_ _=>rfl))))
   cr)
   (av (bJ (i:=2) sc.nd rfl (aW rfl) (bV gY (bV lJ aA (pv 1)) aA))
   (nc (dC (cg Ha (bE (eV (K:=K) rfl) rfl T.eL be (aa (pv 0) ar)) aA (cE _))
   (aC (bJ (i:=2) sc.nd rfl (aW rfl) (bV gY (pv 2) (bV lJ (bV fm (bL (m5 (K:=K) rfl) (pv 0) (bV fm (pv 1) (bE (eV (K:=K) rfl) rfl T.eL be (aa (pv 0) ar))) (λ_ _=>rfl)) aA) (bV gY (pv 1) aA)))))
   cr)
   (aC (cf (bV gY (bV fm (bV lJ (pv 2) (pv 2)) aA) (bV fm (pv 2) aA))))))),?_⟩
 refine⟨_,rfl,_,rfl,a,_,rfl,.inl hS,_,_,rfl,rfl,_,rfl,?_⟩;refine fB (λc=>?_) (λc=>?_)
 ·have c':=of_decide_eq_true c;rw[hl] at c';obtain⟨m,hm⟩:∃ m,ns[k.toNat]?=some m:=⟨ns[k.toNat]'(by omega),by simp⟩
  exact⟨_,rfl,_,rfl,a,_,_,_,rfl,rfl,hS,lQ h0 (by rw[aI,hm];rfl),q m⟩
 refine⟨_,rfl,_,_,rfl,rfl,.inl ⟨by decide,by decide⟩,_,_,rfl,rfl,?_⟩;refine⟨λσ' H1=>∃ m:Int,σ'=[some (.ref a),some (.int k),some (.int m)]/\H1=H/\0<=m/\m<=10 ^ 15,?_,?_⟩
 ·refine⟨_,rfl,a,_,rfl,.inl hS,_,_,rfl,rfl,_,rfl,?_⟩;refine fB (λc=>?_) (λc=>?_)
  ·have c':=of_decide_eq_true c;rw[hl] at c';have i0:=eS k (show ((ns.map V.int).length:Int)≠0 by omega);have i1:k % ((ns.map V.int).length:Int)<(ns.length:Int):=by have:=dM k (show 0<((ns.map V.int).length:Int) by omega);omega
   obtain⟨m,hm⟩:∃ m,ns[(k % ((ns.map V.int).length:Int)).toNat]?=some m:=⟨ns[(k % ((ns.map V.int).length:Int)).toNat]'(by omega),by simp⟩
   have m0:=eS m (show (1000003:Int)≠0 by decide);have m1:=dM m (show (0:Int)<1000003 by decide);refine⟨_,rfl,_,rfl,_,rfl,_,rfl,a,_,rfl,.inl hS,_,_,rfl,rfl,(by omega),a,_,_,_,rfl,rfl,hS,lQ i0 (by rw[aI,hm];rfl),_,_,rfl,rfl,(show (0:Int)<1000003 by decide),_,rfl,_,_,rfl,rfl,_,_,rfl,rfl,.inl ⟨by omega,by omega⟩,_,_,rfl,rfl,?_⟩;have b0:0<=m % 1000003*(k+1):=sr m0 (by omega);have b1:m % 1000003*(k+1)<=1000003*1001:=Int.mul_le_mul (by omega) (by omega) (by omega) (by omega);exact⟨_,rfl,rfl,by omega,by omega⟩
  ·exact⟨_,rfl,rfl,by omega,by omega⟩
 rintro σ' H1 ⟨m,rfl,rfl,m0,m1⟩;exact⟨_,rfl,_,rfl,_,_,rfl,rfl,.inl ⟨by omega,by omega⟩,_,_,rfl,rfl,(show (0:Int)<999979 by decide),_,rfl,_,_,rfl,rfl,(show (0:Int)<101 by decide),_,_,rfl,rfl,q _⟩
def ZX (K:aj):Sp:=λvs H Q _=>∃ (a:ak) (ns:List Int) (k n:Int),vs=[.ref a,.int k,.int n]/\bQ K H a (ns.map V.int)/\0<=k/\k<=100/\∀ (m:Int) (H':Hp),bp H H'->0<=m->m<41->Q (.int m) H'
theorem Zl (F:aX K mg "_law_rank" mP ["_law_script","_law_k","_law_many"]) (T:Txt mg) (iP:Dn P w K mg base "_law_at" 1 ["_law_script","_law_k"] (QZ K)):Dn P w K mg base "_law_rank" 2 ["_law_script","_law_k","_law_many"] (ZX K):=by
 have sc:=D6;refine F.ok sc (λvs H Q E h=>?_) (λf di A outer s H vs Q E hr h=>?_)
 ·obtain⟨_,_,_,_,rfl,_⟩:=h;rfl
 obtain⟨a,ns,k,n,rfl,hS,h0,h1,q⟩:=h;refine⟨_,(av (bJ (i:=3) sc.nd rfl (aW rfl) (bV ii (cx iP hr (aa (pv 0) (aa (bV gY aA (bV lJ aA (pv 1))) ar))) aA))
   (av (dC (cg iR (bV fm (bV ii (cx iP hr (aa (pv 0) (aa aA ar))) aA) aA) aA (cE _))
   (aC (cf (bV fm (bV gY (bV lJ aA (bV lK (pv 2) (pv 1))) (bV fm (pv 3) aA)) aA)))
   cr)
   (aC (cf (bV fm (pv 3) (bL (m5 (K:=K) rfl) (eP (aa aA (aa aA (aa aA ar)))) (bV fm (cx iP hr (aa (pv 0) (aa aA ar))) aA) (λ_ _=>rfl))))))),?_⟩
 refine⟨_,rfl,_,rfl,_,_,rfl,rfl,.inl ⟨by decide,by decide⟩,_,_,rfl,rfl,a,ns,_,rfl,hS,by omega,by omega,λm1=>?_⟩;refine⟨_,_,rfl,rfl,⟨by decide,by decide⟩,?_⟩;refine⟨_,rfl,a,ns,1,rfl,hS,by decide,by decide,λm2=>?_⟩;refine⟨_,_,rfl,rfl,⟨by decide,by decide⟩,_,_,rfl,rfl,(show (0:Int)<3 by decide),rfl,_,rfl,?_⟩;refine fB (λc=>?_) (λc=>?_)
 ·refine⟨_,rfl,_,rfl,_,_,rfl,rfl,_,_,rfl,rfl,.inl ⟨by decide,by decide⟩,_,rfl,_,_,rfl,rfl,(show (0:Int)<2 by decide),_,_,rfl,rfl,_,_,rfl,rfl,(show (0:Int)<41 by decide),?_⟩;exact q _ _ (bp.refl _) (eS _ (by decide)) (dM _ (by decide))
 refine⟨_,rfl,(by show 3<=aJ;decide),λp0 Cm=>?_⟩;refine⟨_,rfl,a,ns,1,rfl,(ay Cm _).seq hS,by decide,by decide,λm3=>?_⟩;obtain⟨tp,R9,Ox,uI⟩:∃ t:Int,vX [V.int 41,V.int 6,V.int 3] (m3 % 3)=some (.int t)/\1<=t/\t<=41:=by
  have:m3 % 3=0\/m3 % 3=1\/m3 % 3=2:=by omega
  rcases this with e | e | e <;> rw[e]
  ·exact⟨41,rfl,by decide,by decide⟩
  ·exact⟨6,rfl,by decide,by decide⟩
  ·exact⟨3,rfl,by decide,by decide⟩
 refine⟨_,_,rfl,rfl,(show (0:Int)<3 by decide),p0,_,_,_,rfl,rfl,bQ.of au,R9,_,_,rfl,rfl,(show 0<tp by omega),?_⟩;have e1:=dM (m1 / 2) (show 0<tp by omega);exact q _ _ (ay Cm _) (eS _ (by omega)) (by show m1 / 2 % tp<41;omega)
def WD (n m:Int) (ws:List Int):Prop:=ws≠[]/\ws.Pairwise (·<·)/\(∀ x∈ws,0<=x/\x<n)/\(ws.length:Int)<=m+1
def HL (K:aj):Sp:=λvs H Q _=>∃ (a:ak) (ns:List Int) (k n b m:Int),vs=[.ref a,.int k,.int n,.int b,.int m]/\bQ K H a (ns.map V.int)/\0<=k/\k<n/\n<=16/\1<=b/\b<=16/\1<=m/\m<=3 /\
 ∀ (p:ak) (ws:List Int) (H':Hp),bp H H'->H p=none->H' p=some (.lst (ws.map V.int))->WD n m ws->Q (.ref p) H'
theorem Mq (F:aX K mg "_law_ways" mQ ["_law_script","_law_k","_law_many","_law_block","_law_most"]) (T:Txt mg) (iP:Dn P w K mg base "_law_at" 1 ["_law_script","_law_k"] (QZ K)):Dn P w K mg base "_law_ways" 2 ["_law_script","_law_k","_law_many","_law_block","_law_most"] (HL K):=by
 have sc:=D7;refine F.ok sc (λvs H Q E h=>?_) (λf di A outer s H vs Q E hr h=>?_)
 ·obtain⟨_,_,_,_,_,_,rfl,_⟩:=h;rfl
 obtain⟨a,ns,k,n,b,m,rfl,hS,h0,h1,TW,b1,b2,m1,m2,q⟩:=h;have d0:0<=k / b:=Int.ediv_nonneg h0 (by omega);have d1:k / b*b<=k:=Int.ediv_mul_le k (by omega);have d2:0<=k / b*b:=sr d0 (by omega);have d3:k / b<=k:=Int.ediv_le_self _ h0;refine⟨_,(av (bJ (i:=5) sc.nd rfl (aW rfl) (cx iP hr (aa (pv 0) (aa (bV gY aA (bV lJ aA (pv 1))) ar))))
   (av (bJ (i:=6) sc.nd rfl (aW rfl) (bV lJ (bV ii (pv 1) (pv 3)) (pv 3)))
   (av (bJ (i:=7) sc.nd rfl (aW rfl) (bE (II rfl) rfl T.GA ou (aa (pv 3) (aa (bV lK (pv 2) (pv 6)) ar))))
   (av (bJ (i:=8) sc.nd rfl (aW rfl) (eP ar))
   (nc (dC (cg iR (bV fm (bV ii (cx iP hr (aa (pv 0) (aa aA ar))) aA) aA) aA (cE _))
   (aC (bJ (i:=8) sc.nd rfl (aW rfl) (eP (aa (bV fm (bV gY (pv 1) aA) (pv 2)) ar))))
   cr)
   (av (dW bh rfl (iE rfl T.jW (aa (bV gY aA (bV fm (bV ii (pv 5) aA) (pv 4))) ar)) (bZ (i:=9) sc.nd rfl (aW rfl))
   (av (bJ (i:=10) sc.nd rfl (aW rfl) (cx iP hr (aa (pv 0) (aa (bV gY (bV gY aA (bV lJ aA (pv 1))) (pv 9)) ar))))
   (av (bJ (i:=11) sc.nd rfl (aW rfl) (bV gY (pv 6) (bV fm (pv 10) (pv 7))))
   (nc (dC (cg iR (bV fm (bV ii (pv 10) (pv 7)) aA) aA (cE _))
   (aC (bJ (i:=11) sc.nd rfl (aW rfl) (bV fm (bV ii (bV ii (pv 10) (pv 7)) aA) (pv 2))))
   cr)
   (aC (dC (cg (FJ (K:=K) rfl) (pv 11) (pv 8) rfl)
   (aC (da (lj bx bH bI eH (pv 8) (aa (pv 11) ar))))
   cr))))))
   (aC (cf (bE (oF) rfl T.sN ji (aa (pv 8) ar)))))))))),?_⟩
 refine⟨_,rfl,_,rfl,_,_,rfl,rfl,.inl ⟨by decide,by decide⟩,_,_,rfl,rfl,a,ns,_,rfl,hS,by omega,by omega,λc=>?_⟩;refine⟨_,rfl,_,rfl,_,_,rfl,rfl,⟨by omega,by omega⟩,_,rfl,_,_,rfl,rfl,.inl ⟨by omega,by omega⟩,?_⟩;refine⟨_,rfl,_,rfl,_,rfl,_,_,rfl,rfl,_,_,rfl,?_⟩;refine⟨bv _,λg hg=>?_⟩;refine⟨λσ' H1=>∃ (lo sz:Int) (ga:ak) (gs:List Int),σ'=[some (.ref a),some (.int k),some (.int n),some (.int b),some (.int m),some (.int c),some (.int lo),some (.int sz),some (.ref ga),none,none,none]/\bp H H1/\H ga=none/\H1 ga=some (.lst (gs.map V.int))/\gs.Nodup/\gs.length<=1/\(∀ x∈gs,0<=x/\x<n)/\0<=lo/\1<=sz/\lo+sz<=n,?_,?_⟩
 ·have sg:=ay hg (.lst []);refine⟨_,rfl,a,ns,1,rfl,sg.seq hS,by decide,by decide,λm2=>?_⟩;refine⟨_,_,rfl,rfl,⟨by decide,by decide⟩,_,_,rfl,rfl,(show (0:Int)<3 by decide),rfl,_,rfl,?_⟩;refine fB (λc=>?_) (λc=>?_)
  ·refine⟨_,rfl,_,_,rfl,rfl,_,rfl,_,_,rfl,rfl,(show 0<n by omega),(by show 1<=aJ;decide),λg2 Kc=>?_⟩;refine⟨_,_,g2,[(k+1) % n],rfl,sg.trans (ay Kc _),sg.free Kc,au,by simp,az _,(λx hx=>by rw[aP.mp hx];exact⟨eS _ (by omega),dM _ (by omega)⟩),d2,?_,?_⟩ <;> split <;> omega
  ·refine⟨_,_,g,[],rfl,sg,hg,au,by simp,bv _,(λx hx=>by cases hx),d2,?_,?_⟩ <;> split <;> omega
 rintro σ' H1 ⟨lo,sz,ga,gs,rfl,s1,Pq,XU,Dp,k8,Wv,lo0,VM,xv⟩;have e0:=eS (c / 82) (show m≠0 by omega);have e1:=dM (c / 82) (show 0<m by omega);refine⟨_,rfl,_,_,rfl,rfl,⟨by decide,by decide⟩,_,rfl,_,_,rfl,rfl,(show 0<m by omega),_,_,rfl,rfl,_,rfl,by omega,by omega,jL (lo:=0) (n:=(1+c / 82 % m).toNat) (λi σ Hy=>∃ (gs:List Int) (y1 y2 y3:Option V),σ=[some (.ref a),some (.int k),some (.int n),some (.int b),some (.int m),some (.int c),some (.int lo),some (.int sz),some (.ref ga),y1,y2,y3]/\bp H Hy/\Hy ga=some (.lst (gs.map V.int))/\gs.Nodup/\gs.length<=1+i/\(∀ x∈gs,0<=x/\x<n)/\(1<=i->gs≠[]))
  ⟨gs,_,_,_,rfl,s1,XU,Dp,k8,Wv,λz=>by omega⟩ (λi σ Hy hi h=>?_) (λσ Hy h=>?_)⟩
 ·obtain⟨gs,y1,y2,y3,rfl,sy,hy,Dp,k8,Wv,kU⟩:=h;have hi3:i<=3:=by omega
  refine⟨_,rfl,_,rfl,_,_,rfl,rfl,.inl ⟨by decide,by decide⟩,_,_,rfl,rfl,_,rfl,_,_,rfl,rfl,a,ns,_,rfl,sy.seq hS,by omega,by omega,λy=>?_⟩;have z0:=eS y (show sz≠0 by omega);have z1:=dM y (show 0<sz by omega);refine⟨_,rfl,_,rfl,_,rfl,_,_,rfl,rfl,(show 0<sz by omega),_,_,rfl,rfl,?_⟩;refine⟨λσ' H2=>∃ gl:Int,σ'=[some (.ref a),some (.int k),some (.int n),some (.int b),some (.int m),some (.int c),some (.int lo),some (.int sz),some (.ref ga),some (.int (0+((i:Nat):Int))),some (.int y),some (.int gl)]/\H2=Hy/\0<=gl/\gl<n,?_,?_⟩
  ·refine⟨_,rfl,_,rfl,_,_,rfl,rfl,⟨by omega,by omega⟩,_,_,rfl,rfl,(show (0:Int)<7 by decide),rfl,_,rfl,?_⟩;refine fB (λc=>?_) (λc=>?_)
   ·refine⟨_,rfl,_,rfl,_,_,rfl,rfl,⟨by omega,by omega⟩,_,_,rfl,rfl,⟨by decide,by decide⟩,_,rfl,_,_,rfl,rfl,(show 0<n by omega),?_⟩;exact⟨_,rfl,rfl,eS _ (by omega),dM _ (by omega)⟩
   ·exact⟨_,rfl,rfl,by omega,by omega⟩
  rintro σ' H2 ⟨gl,rfl,rfl,g0,g1⟩;refine⟨_,rfl,_,rfl,ga,_,rfl,.inl (bQ.of hy),rfl,zI _,?_⟩;rw[xq];refine⟨_,rfl,?_⟩;refine fB (λc=>?_) (λc=>?_)
  ·have Uw:gl ∉ gs:=by
    intro z;rw[if_pos rfl,decide_eq_true z] at c;cases c
   refine⟨_,rfl,.inl ⟨rfl,_,bQ.of hy⟩,_,rfl,ga,_,_,rfl,rfl,hy,oR (m:=1000) (by rw[ag];omega),?_⟩;refine⟨gs++[gl],_,_,_,rfl,sy.put Pq _,by rw[au,aN];rfl,?_,by rw[aO,cC];omega,λx hx=>?_,λ_ z=>by simp at z⟩
   ·rw[eK];refine⟨Dp,by simp,λx hx y hy=>?_⟩;rw[aP.mp hy];exact λz=>Uw (z ▸ hx)
   ·rcases bj.mp hx with h | h
    ·exact Wv x h
    ·rw[aP.mp h];exact⟨g0,g1⟩
  ·have hm:gl∈gs:=bB λz=>c (by rw[if_pos rfl,decide_eq_false z];rfl);exact⟨gs,_,_,_,rfl,sy,hy,Dp,by omega,Wv,λ_ z=>by rw[z] at hm;cases hm⟩
 ·obtain⟨gs,y1,y2,y3,rfl,sy,hy,Dp,k8,Wv,kU⟩:=h;refine⟨_,rfl,ga,gs,rfl,bQ.of hy,by omega,λp ws hp UD Ft=>?_⟩;have hl:ws.length=gs.length:=UD.length_eq;refine q p ws _ (sy.trans (ay hp _)) (sy.free hp) au ⟨λz=>?_,?_,λx hx=>Wv x (UD.mem_iff.mp hx),by omega⟩
  ·rw[z] at hl;exact kU (by omega) (de hl.symm)
  ·have adV:ws.Nodup:=UD.nodup_iff.mpr Dp;exact (Ft.and adV).imp λh=>by
    obtain⟨h1,h2⟩:=h;omega
def LG (G:List Row):Prop:=G≠[]/\G.length<=12/\∃ m:Int,m<=3/\(8<G.length->m<=2)/\∀ r∈G,(r.1=0\/r.1=1)/\(0<=r.2.1/\r.2.1<41)/\WD G.length m r.2.2
def Ng (K:aj):Sp:=λvs H Q _=>∃ (a:ak) (ns:List Int),vs=[.ref a,.int 12]/\bQ K H a (ns.map V.int)/\∀ (v:V) (H':Hp) (G:List Row),bp H H'->jj H' G v->LG G->Q v H'
theorem Qd (F:aX K mg "_law_game" mO ["_law_script","_law_top"]) (T:Txt mg) (iP:Dn P w K mg base "_law_at" 1 ["_law_script","_law_k"] (QZ K)) (ES:Dn P w K mg base "_law_ways" 2 ["_law_script","_law_k","_law_many","_law_block","_law_most"] (HL K)) (ER:Dn P w K mg base "_law_rank" 2 ["_law_script","_law_k","_law_many"] (ZX K)):Dn P w K mg base "_law_game" 3 ["_law_script","_law_top"] (Ng K):=by
 have sc:=D5;refine F.ok sc (λvs H Q E h=>?_) (λf di A outer s H vs Q E hr h=>?_)
 ·obtain⟨_,_,rfl,_⟩:=h;rfl
 obtain⟨a,ns,rfl,hS,q⟩:=h;refine⟨_,(av (bJ (i:=2) sc.nd rfl (aW rfl) (cx iP hr (aa (pv 0) (aa aA ar))))
   (av (bJ (i:=3) sc.nd rfl (aW rfl) (bV gY aA (bV fm (pv 2) aA)))
   (av (bJ (i:=4) sc.nd rfl (aW rfl) aA)
   (nc (dC (cg iR (bV fm (bV ii (pv 2) aA) aA) aA (cE _))
   (av (bJ (i:=3) sc.nd rfl (aW rfl) (bV gY aA (bV fm (bV ii (pv 2) aA) aA)))
   (aC (dC (cg iR (bV fm (bV ii (pv 2) aA) aA) aA (cE _))
   (av (bJ (i:=3) sc.nd rfl (aW rfl) (bV gY aA (bV fm (bV ii (pv 2) aA) (bV lK (pv 1) aA))))
   (aC (bJ (i:=4) sc.nd rfl (aW rfl) (bV gY aA (bV fm (bV ii (pv 2) aA) aA)))))
   cr)))
   cr)
   (av (bJ (i:=5) sc.nd rfl (aW rfl) (pv 3))
   (nc (dC (cg iR (bV fm (bV ii (cx iP hr (aa (pv 0) (aa aA ar))) aA) aA) aA (cE _))
   (aC (bJ (i:=5) sc.nd rfl (aW rfl) (bV ii (bV gY (pv 3) aA) aA)))
   cr)
   (av (bJ (i:=6) sc.nd rfl (aW rfl) (eP ar))
   (av (dW bh rfl (iE rfl T.jW (aa (pv 3) ar)) (bZ (i:=7) sc.nd rfl (aW rfl))
   (av (bJ (i:=8) sc.nd rfl (aW rfl) (cx ES hr (aa (pv 0) (aa (pv 7) (aa (pv 3) (aa (pv 5) (aa (pv 4) ar)))))))
   (aC (da (lj bx bH bI eH (pv 6) (aa (gh (aa (bV fm (cx iP hr (aa (pv 0) (aa (bV gY aA (bV lJ aA (pv 7))) ar))) aA) (aa (cx ER hr (aa (pv 0) (aa (pv 7) (aa (pv 3) ar)))) (aa (pv 8) ar)))) ar))))))
   (aC (cf (pv 6))))))))))),?_⟩
 refine⟨_,rfl,a,ns,0,rfl,hS,by decide,by decide,λXI=>?_⟩;refine⟨_,rfl,_,_,rfl,rfl,(show (0:Int)<5 by decide),_,_,rfl,rfl,?_⟩;refine⟨λσ' H1=>∃ n m:Int,σ'=[some (.ref a),some (.int 12),some (.int XI),some (.int n),some (.int m),none,none,none,none]/\H1=H/\1<=n/\n<=12/\1<=m/\m<=3/\(8<n->m<=2),?_,?_⟩
 ·refine⟨_,rfl,_,_,rfl,rfl,⟨by decide,by decide⟩,_,_,rfl,rfl,(show (0:Int)<6 by decide),rfl,_,rfl,?_⟩;refine fB (λc=>?_) (λc=>?_)
  ·refine⟨_,rfl,_,_,rfl,rfl,⟨by decide,by decide⟩,_,_,rfl,rfl,(show (0:Int)<8 by decide),_,_,rfl,rfl,?_⟩;refine⟨_,rfl,_,_,rfl,rfl,⟨by decide,by decide⟩,_,_,rfl,rfl,(show (0:Int)<6 by decide),rfl,_,rfl,?_⟩;refine fB (λc=>?_) (λc=>?_)
   ·refine⟨_,rfl,_,_,rfl,rfl,⟨by decide,by decide⟩,_,rfl,_,_,rfl,rfl,_,_,rfl,rfl,(show (0:Int)<12-8 by decide),_,_,rfl,rfl,?_⟩;refine⟨_,rfl,_,_,rfl,rfl,⟨by decide,by decide⟩,_,_,rfl,rfl,(show (0:Int)<2 by decide),_,_,rfl,rfl,?_⟩;have e0:=eS (XI / 1440) (show (12-8:Int)≠0 by decide);have e1:=dM (XI / 1440) (show (0:Int)<12-8 by decide);exact⟨_,_,rfl,rfl,by omega,by omega,by omega,by omega,by omega⟩
   ·exact⟨_,_,rfl,rfl,by omega,by omega,by decide,by decide,by omega⟩
  ·exact⟨_,_,rfl,rfl,by omega,by omega,by decide,by decide,by omega⟩
 rintro σ' H1 ⟨n,m,rfl,rfl,n1,n16,m1,m3,m8⟩;refine⟨_,rfl,?_⟩;refine⟨λσ' H2=>∃ b:Int,σ'=[some (.ref a),some (.int 12),some (.int XI),some (.int n),some (.int m),some (.int b),none,none,none]/\H2=H1/\1<=b/\b<=16,?_,?_⟩
 ·refine⟨_,rfl,a,ns,1,rfl,hS,by decide,by decide,λy=>?_⟩;refine⟨_,_,rfl,rfl,⟨by decide,by decide⟩,_,_,rfl,rfl,(show (0:Int)<3 by decide),rfl,_,rfl,?_⟩;refine fB (λc=>?_) (λc=>?_)
  ·refine⟨_,rfl,_,_,rfl,rfl,_,_,rfl,rfl,⟨by decide,by decide⟩,?_⟩;exact⟨_,rfl,rfl,by omega,by omega⟩
  ·exact⟨_,rfl,rfl,n1,by omega⟩
 rintro σ' H2 ⟨b,rfl,rfl,b1,b16⟩;refine⟨bv _,λg hg=>?_⟩;refine⟨_,rfl,n,rfl,by omega,by omega,jL (lo:=0) (n:=n.toNat) (λi σ Hy=>∃ (G':List Row) (y1 y2:Option V),σ=[some (.ref a),some (.int 12),some (.int XI),some (.int n),some (.int m),some (.int b),some (.ref g),y1,y2]/\Gh JC H2 Hy g G'/\G'.length=i/\∀ r∈G',(r.1=0\/r.1=1)/\(0<=r.2.1/\r.2.1<41)/\WD n m r.2.2)
  ⟨[],_,_,rfl,Gh.start (bp.refl _) hg,rfl,λ_ z=>by cases z⟩ (λi σ Hy hi h=>?_) (λσ Hy h=>?_)⟩
 ·obtain⟨G',y1,y2,rfl,bl,hl,hk⟩:=h;refine⟨_,rfl,_,rfl,_,rfl,_,rfl,_,rfl,a,ns,_,_,_,_,rfl,bl.s.seq hS,by omega,by omega,by omega,b1,b16,m1,m3,λp ws H3 s3 Cm hp3 hw=>?_⟩;obtain⟨gvs,Ud,_⟩:=bl.sq;refine⟨_,rfl,.inl ⟨rfl,_,bQ.of (s3 _ _ Ud)⟩,_,rfl,_,rfl,_,_,rfl,rfl,.inl ⟨by decide,by decide⟩,_,_,rfl,rfl,a,ns,_,rfl,(bl.s.trans s3).seq hS,by omega,by omega,λy=>?_⟩;refine⟨_,_,rfl,rfl,(show (0:Int)<2 by decide),_,rfl,_,rfl,_,rfl,a,ns,_,_,rfl,(bl.s.trans s3).seq hS,by omega,by omega,λz H4 s4 z0 z1=>?_⟩;refine⟨_,rfl,(by show 3<=aJ;decide),λt2 Yt=>?_⟩;have s34:=s3.trans s4;obtain⟨vs4,k1,k2,b4⟩:=bl.push pV (s34.trans (ay Yt _)) (Hr (h:=y % 2) (r:=z) s34 Cm (s4 _ _ hp3) Yt);refine⟨g,vs4,_,rfl,rfl,k1,(oR (m:=1000) (by omega)),?_⟩;refine⟨_,_,_,rfl,b4,by simp[hl],λrw jC=>?_⟩;rcases bj.mp jC with h | h
  ·exact hk rw h
  ·rw[aP.mp h];exact⟨by show y % 2=0\/y % 2=1;omega,⟨z0,z1⟩,hw⟩
 ·obtain⟨G',y1,y2,rfl,bl,hl,hk⟩:=h;have e:(G'.length:Int)=n:=by omega
  refine⟨_,rfl,q _ _ G' bl.s (dB.up (mh _ _) (bl.done pV)) ⟨λz=>by rw[z] at e;simp at e;omega,by omega,m,m3,λz=>m8 (by omega),λr hr=>?_⟩⟩;rw[e];exact hk r hr
def Nd:Sp:=λvs H Q _=>∃ (v:V) (G:List Row),vs=[v]/\jj H G v/\G.length<=100/\∀ (v':V) (H':Hp),bp H H'->jj (kO H H') G v'->Q v' H'
theorem Qc (F:aX K mg "_law_copied" i9 ["_law_game_here"]) (T:Txt mg):Dn P w K mg base "_law_copied" 1 ["_law_game_here"] Nd:=by
 have sc:=yX;refine F.ok sc (λvs H Q E h=>?_) (λf di A outer s H vs Q E hr h=>?_)
 ·obtain⟨_,_,rfl,_⟩:=h;rfl
 obtain⟨v,G,rfl,hG,aje,q⟩:=h;obtain⟨g0,gv,rfl,jv,k8,eJ⟩:=dZ hG;refine⟨_,(aC (cf (tE (aG i9) ["_law_game_here"] ["_law_hand","_law_rank_here","_law_ways_here"] 3 [] (c8 (pv 0)) (λ_ _ _ _ _ _=>(afi (K:=K) rfl rfl (show cO (["_law_hand","_law_rank_here","_law_ways_here"]:List bc) by decide +kernel) rfl rfl rfl rfl rfl rfl)) (λ_ _ _ _ _ _=>iM) (λ_ _ _ _ _ _=>(gh (aa (pv 0) (aa (pv 1) (aa (jO (Bi (K:=K) rfl) rfl T.rC ek (aa (pv 2) ar)) ar)))))))),?_⟩;refine⟨_,rfl,g0,rfl,⟨_,bQ.of jv⟩,cY (K:=K) (a:=g0) (xs:=gv) (λi ys H3=>bp H H3/\dE (JC (kO H H3)) (G.take i) ys) ⟨bp.refl _,.nil⟩ (a0b (m:=1000) (by omega)) (λi ys H3 hi h=>?_) (λi x ys H3 hi h=>?_) (λys H3 h h0 XX=>?_)⟩
 ·exact⟨bQ.of (h.1 _ _ jv),by have:=h.2.length;simp at this;omega⟩
 ·obtain⟨s3,pr⟩:=h;have R4:i<G.length:=by have:=(af.mp hi).1;omega
  obtain⟨row,jC⟩:∃ row,G[i]?=some row:=⟨G[i],by simp⟩
  obtain⟨t,wa,p1,p2,p3⟩:=eJ i row jC;rw[hi] at p1;cases p1;refine kL (eU.of (s3 _ _ p2)) rfl ?_;refine⟨_,rfl,_,rfl,_,rfl,wa,_,rfl,.inl (bQ.of (s3 _ _ p3)),λl hl=>?_⟩;refine⟨(by show 3<=aJ;decide),λt2 uI=>?_⟩;have s4:=s3.trans (ay hl (.lst (row.2.2.map V.int)));refine⟨s4.trans (ay uI _),?_⟩;rw[bw,jC];refine Paired.app (dq pV (v7 ((ay hl _).trans (ay uI _))) pr) (.cons ?_ .nil);exact Hr (h:=row.1) (r:=row.2.1) (ws:=row.2.2) s4 (s3.free hl) au uI
 obtain⟨s3,pr⟩:=h;rw[k8,aY] at pr;exact q _ _ (s3.trans (ay XX _)) ⟨h0,ys,rfl,by rw[i5 (s3.free XX),au],dq pV (v7 (ay XX _)) pr⟩
def Tv (n:Int) (ws:List Int):Prop:=ws.Pairwise (·<·)/\(∀ x∈ws,0<=x/\x<n)/\ws.length<=40
def ET (G:List Row):Prop:=G.length<=63/\∀ row∈G,Tv G.length row.2.2
theorem ET.wok {G:List Row} (h:ET G):IB G:=λrow hr=>⟨(h.2 row hr).1,(h.2 row hr).2.1⟩
def ZT:Sp:=λvs H Q _=>Rz λ(v:V) (G:List Row)=>Ig (vs=[v]) (jj H G v) (ET G) (∀ (r:ak) (as:List ak) (H':Hp),bp H H'->H r=none->(∀ a∈as,H a=none)->Cells H' r as (wi G G.length)->Q (.ref r) H')
theorem DK {ws:List Int} (h:ws.Pairwise (·<·)):ws.Nodup:=h.imp λh=>by omega
theorem GD (G:List Row) (i p:Nat):(col G i p).length<=i:=by
 unfold col;rw[ag];exact b7 (dA _ _) (by simp)
theorem Zi (F:aX K mg "ways_in" mj ["game"]) (T:Txt mg):Dn P w K mg base "ways_in" 1 ["game"] ZT:=by
 have sc:=F0;refine F.ok sc (λvs H Q E h=>?_) (λf di A outer s H vs Q E hr h=>?_)
 ·obtain⟨v,G,rfl,_⟩:=h;rfl
 obtain⟨v,G,rfl,hG,cZ,q⟩:=h;obtain⟨g0,gv,rfl,jv,k8,eJ⟩:=dZ hG;have ajm:=cZ.1;refine⟨_,(av (vn (i:=1) (aG mj) ["game","entries","place","row","way"] ["row"] 1 [] sc.nd rfl rfl (c8 (pv 0)) (λ_ _ _ _ _ _=>(gB (show cO (["row"]:List bc) by decide +kernel) rfl rfl)) (λ_ _ _ _ _ _=>iM) (λ_ _ _ _ _ _=>(eP ar)))
   (av (dW bh rfl (BI (K:=K) rfl rfl T.pC (aa (pv 0) ar)) (j7 rfl (cH (bZ (i:=2) sc.nd rfl (aW rfl)) (cH (bZ (i:=3) sc.nd rfl (aW rfl)) iL)))
   (aC (dW bh rfl (c8 (bL (jM (K:=K) rfl) (pv 3) aA (λ_ _=>rfl))) (bZ (i:=4) sc.nd rfl (aW rfl))
   (aC (da (lj bx bH bI eH (bL (m5 (K:=K) rfl) (pv 1) (pv 4) (λ_ _=>rfl)) (aa (pv 2) ar)))))))
   (aC (cf (pv 1))))),?_⟩
 refine⟨_,rfl,g0,rfl,⟨_,bQ.of jv⟩,cY (K:=K) (a:=g0) (xs:=gv) (λi ys H2=>bp H H2/\∃ as:List ak,ys=as.map V.ref/\as.length=i/\as.Nodup/\∀ a∈as,H a=none/\H2 a=some (.lst [])) ⟨bp.refl _,[],rfl,rfl,nO,λ_ z=>by cases z⟩ (a0b (m:=1000) (by omega)) (λi ys H2 hi h=>?_) (λi x ys H2 hi h=>?_) (λys H2 h r hr=>?_)⟩
 ·obtain⟨s2,as,rfl,e,_⟩:=h;exact⟨bQ.of (s2 _ _ jv),by simp;omega⟩
 ·obtain⟨s2,as,rfl,e,nd,ha⟩:=h;refine mB ?_;refine⟨bv _,λp hp=>?_⟩;have hpn:p ∉ as:=λz=>by have:=(ha p z).2;rw[hp] at this;cases this
  refine⟨s2.trans (ay hp _),as++[p],by simp,by simp[e],?_,λa hm=>?_⟩
  ·rw[eK];exact⟨nd,by simp,λa h1 b h2=>by rw[aP.mp h2];exact λz=>hpn (z ▸ h1)⟩
  ·rcases bj.mp hm with h | h
   ·exact⟨(ha a h).1,ay hp _ _ _ (ha a h).2⟩
   ·rw[aP.mp h];exact⟨s2.free hp,au⟩
 obtain⟨s2,as,rfl,e,nd,ha⟩:=h;have hr0:H r=none:=s2.free hr;have hrn:r ∉ as:=λz=>by have:=(ha r z).2;rw[hr] at this;cases this
 have c0:Cells (upd H2 r (.lst (as.map V.ref))) r as (wi G 0):=by
  refine⟨au,nd,hrn,by rw[NP,e,k8],λi a h=>⟨[],?_,ay hr _ _ _ (ha a (aq h)).2⟩⟩;have:=(af.mp h).1;rw[Rn,er,if_pos (by omega)]
 have xk:∀ a∈as,H a=none:=λa h=>(ha a h).1;refine⟨_,rfl,g0,rfl,⟨_,bQ.of (s2.trans (ay hr _) _ _ jv)⟩,xh (K:=K) (a:=g0) (xs:=gv) (λi σ H3=>∃ y1 y2 y3:Option V,σ=[some (.ref g0),some (.ref r),y1,y2,y3]/\bp H H3/\Cells H3 r as (wi G i))
  ⟨_,_,_,rfl,s2.trans (ay hr _),c0⟩ (λi σ H3 _ h=>?_) (λi x σ H3 Tt hi h hT=>?_) (λσ H3 h=>?_)⟩
 ·obtain⟨_,_,_,_,s3,_⟩:=h;exact bQ.of (s3 _ _ jv)
 ·obtain⟨y1,y2,y3,rfl,s3,c3⟩:=h;have R4:i<G.length:=by have:=(af.mp hi).1;omega
  obtain⟨row,jC⟩:∃ row,G[i]?=some row:=⟨G[i],by simp⟩
  obtain⟨t,wa,p1,p2,p3⟩:=eJ i row jC;rw[hi] at p1;cases p1;have hw:=cZ.2 row (aq jC);have ew:jp G i=row.2.2:=JR jC;have sT:=ay hT (.tup [.int (i:Nat),.ref t]);refine⟨Tt,_,rfl,eU.of au,rfl,_,_,rfl,_,_,rfl,rfl,?_⟩;refine⟨_,rfl,t,_,_,_,rfl,rfl,eU.of ((s3.trans sT) _ _ p2),bu (j:=2) rfl,wa,rfl,⟨_,bQ.of ((s3.trans sT) _ _ p3)⟩,gy (K:=K) (a:=wa) (xs:=row.2.2.map V.int) (λj σ H4=>∃ y3:Option V,σ=[some (.ref g0),some (.ref r),some (.int (i:Nat)),some (.ref t),y3]/\bp H H4/\Cells H4 r as (HZ G i j))
   ⟨_,rfl,s3.trans sT,by rw[NO];exact c3.up sT⟩ (λj σ H4 _ h=>?_) (λj x σ H4 hj h=>?_) (λσ H4 h=>?_)⟩
  ·obtain⟨_,_,s4,_⟩:=h;exact bQ.of (s4 _ _ p3)
  ·obtain⟨y,rfl,s4,c4⟩:=h;obtain⟨z,hz,rfl⟩:=eG hj;obtain⟨b1,b2⟩:=hw.2.1 z (aq hz);rw[← ew] at hz;obtain⟨a,L,k1,k2,k3,k4⟩:=c4.at b1 (by rw[Ia];exact b2);have e1:=V6 hz (by rw[ew];exact DK hw.1) b1 b2;rw[e1] at k2;cases k2;have Os:=GD G i z.toNat;refine⟨_,rfl,_,rfl,r,_,_,_,rfl,rfl,bQ.of c4.hd,k3,.inl ⟨rfl,_,bQ.of k4⟩,_,rfl,a,_,_,rfl,rfl,k4,oR (m:=1000) (by rw[ag];omega),?_⟩;have c5:=c4.put k1 (col G i z.toNat++[(i:Int)]);rw[Rm hz b1 b2,aN] at c5;exact⟨_,rfl,s4.put (xk a (aq k1)) _,c5⟩
  ·obtain⟨y,rfl,s4,c4⟩:=h;rw[ag,← ew,Rk] at c4;exact⟨_,_,_,rfl,s4,c4⟩
 ·obtain⟨y1,y2,y3,rfl,s3,c3⟩:=h;rw[k8] at c3;exact⟨_,rfl,q r as H3 s3 hr0 xk c3⟩
def qA:Sp:=λvs H Q _=>Ex3 λ(n:Nat) (a:ak) (ps:List Int)=>Ig (vs=[.int n,.ref a]) (n<=1000) (H a=some (.lst (ps.map V.int))) (∀ (p:ak) (H':Hp),bp H H'->H p=none->H' p=some (.lst (bm n λx=>decide (x∈ps)))->Q (.ref p) H')
theorem xz (F:aX K mg "place_marks" jy ["count","places"]) (T:Txt mg) (rp:Dn P w K mg base "is_place" 2 ["value","count"] B1):Dn P w K mg base "place_marks" 3 ["count","places"] qA:=by
 have sc:=xO;refine F.ok sc (λvs H Q E h=>?_) (λf di A outer s H vs Q E hr h=>?_)
 ·obtain⟨_,_,_,rfl,_⟩:=h;rfl
 obtain⟨n,a,ps,rfl,hn,ha,q⟩:=h;refine⟨_,(av (bJ (i:=2) sc.nd rfl (aW rfl) (bV uR (eP (aa lf ar)) (pv 0)))
   (av (dW bh rfl (c8 (pv 1)) (bZ (i:=3) sc.nd rfl (aW rfl))
   (aC (dC (fC (cx rp hr (aa (pv 3) (aa (pv 0) ar))))
   (aC (oO lf (oN (pv 2) (pv 3) a0d)))
   cr)))
   (aC (cf (pv 2))))),?_⟩
 refine⟨(by show 1<=aJ;decide),λn1 Kd=>?_⟩;have s1:=ay Kd (.lst [V.bl false]);refine⟨_,rfl,n1,_,_,rfl,rfl,au,by omega,by omega,a0b (m:=1000) (by simp;omega),λm hm=>?_⟩;have s2:=s1.trans (ay hm (.lst (aD ((n:Nat):Int).toNat [V.bl false]).flatten));have cW:H m=none:=s1.free hm;have Lz:upd (upd H n1 (.lst [V.bl false])) m (.lst (aD ((n:Nat):Int).toNat [V.bl false]).flatten) m=some (.lst (bm n λx=>decide (x∈ps.take 0))):=by
  rw[au,cv,KS];simp
 generalize upd (upd H n1 (.lst [V.bl false])) m (.lst (aD ((n:Nat):Int).toNat [V.bl false]).flatten)=H1 at s2 Lz ⊢;refine⟨_,rfl,a,rfl,⟨_,bQ.of (s2 _ _ ha)⟩,gy (K:=K) (a:=a) (xs:=ps.map V.int) (λi σ H2=>∃ y:Option V,σ=[some (.int n),some (.ref a),some (.ref m),y]/\bp H H2/\H2 m=some (.lst (bm n λx=>decide (x∈ps.take i)))) ⟨_,rfl,s2,Lz⟩ (λi σ H2 _ h=>?_) (λi x σ H2 hi h=>?_) (λσ H2 h=>?_)⟩
 ·obtain⟨_,_,s3,_⟩:=h;exact bQ.of (s3 _ _ ha)
 ·obtain⟨y,rfl,s3,h3⟩:=h;obtain⟨z,hz,rfl⟩:=eG hi;refine⟨_,rfl,_,rfl,z,_,rfl,_,rfl,?_⟩;refine fB (λc=>?_) (λc=>?_)
  ·obtain⟨z0,z1⟩:=of_decide_eq_true c;refine⟨_,rfl,_,rfl,m,_,_,z.toNat,rfl,rfl,h3,?_,?_⟩
   ·unfold yI;rw[Bc,if_pos z0,if_pos z1]
   ·refine⟨_,rfl,s3.put cW _,?_⟩;rw[au,TF z0 z1];congr 2;exact C7 λp _ _=>by rw[eM];simp[cz hz]
  ·refine⟨_,rfl,s3,?_⟩;rw[h3];congr 2;refine C7 λp p0 p1=>?_;have kU:p≠z:=λe=>c (decide_eq_true (by rw[← e];exact⟨p0,p1⟩));rw[eM];simp[cz hz,kU]
 ·obtain⟨y,rfl,s3,h3⟩:=h;rw[ag,aY] at h3;exact⟨_,rfl,q m H2 s3 cW h3⟩
def KH (H:Hp) (qv:V) (ins:Int->Bool):Prop:=(qv=.fj/\ins=λ_=>true)\/∃ (a:ak) (ps:List Int),qv=.ref a/\H a=some (.lst (ps.map V.int))/\ins=λx=>decide (x∈ps)
def Nm:Sp:=λvs H Q _=>Ex4 λ(v:V) (qv:V) (G:List Row) (ins:Int->Bool)=>Ih (vs=[v,qv]) (jj H G v) (G.length<=63) (KH H qv ins) (∀ (p:ak) (H':Hp),bp H H'->H p=none->H' p=some (.lst (bm G.length ins))->Q (.ref p) H')
theorem yN (F:aX K mg "part_marks" ki ["game","part"]) (T:Txt mg) (e7:Dn P w K mg base "place_marks" 3 ["count","places"] qA):Dn P w K mg base "part_marks" 4 ["game","part"] Nm:=by
 have sc:=zb;refine F.ok sc (λvs H Q E h=>?_) (λf di A outer s H vs Q E hr h=>?_)
 ·obtain⟨_,_,_,_,rfl,_⟩:=h;rfl
 obtain⟨v,qv,G,ins,rfl,hG,GL,hp,q⟩:=h;obtain⟨g0,gv,rfl,jv,k8,_⟩:=dZ hG;refine⟨_,(av (dC (lL (mJ (pv 1)))
   (aC (cf (bV uR (eP (aa lf ar)) (bE (eV (K:=K) rfl) rfl T.eL be (aa (pv 0) ar)))))
   cr)
   (aC (cf (cx e7 hr (aa (bE (eV (K:=K) rfl) rfl T.eL be (aa (pv 0) ar)) (aa (pv 1) ar)))))),?_⟩
 rcases hp with ⟨rfl,rfl⟩ | ⟨a,ps,rfl,ha,rfl⟩
 ·refine⟨_,rfl,_,rfl,?_⟩;refine mF ?_;refine⟨(by show 1<=aJ;decide),λn1 Kd=>?_⟩;have s1:=ay Kd (.lst [V.bl true]);refine⟨_,rfl,g0,_,rfl,.inl (bQ.of (s1 _ _ jv)),n1,_,_,rfl,rfl,au,by omega,by omega,a0b (m:=1000) (by simp;omega),λm hm=>?_⟩;refine q m _ (s1.trans (ay hm _)) (s1.free hm) ?_;rw[au,cv,KS,k8]
 ·refine⟨_,rfl,_,rfl,?_⟩;refine fW ?_;exact⟨_,rfl,g0,_,rfl,.inl (bQ.of jv),_,rfl,gv.length,a,ps,rfl,by omega,ha,λp H' s1 hp h1=>q p H' s1 hp (by rw[← k8];exact h1)⟩
def Nj:Sp:=λvs H Q _=>Ex7 λ(v:V) (G:List Row) (hand:Int) (ia:ak) (wa:ak) (ins:Int->Bool) (want:Int->Bool)=>OJ (vs=[v,.int hand,.ref ia,.ref wa]) (jj H G v) (ET G) (H ia=some (.lst (bm G.length ins))) (H wa=some (.lst (bm G.length want))) (∀ (p:ak) (H':Hp),bp H H'->H p=none->H' p=some (.lst ((im G.length λx=>((ff G hand ins want x:Nat):Int)).map V.int))->Q (.ref p) H')
theorem FN (F:aX K mg "lacking_ways" gZ ["game","hand","inside","wanted"]) (T:Txt mg):Dn P w K mg base "lacking_ways" 1 ["game","hand","inside","wanted"] Nj:=by
 have sc:=vO;refine F.ok sc (λvs H Q E h=>?_) (λf di A outer s H vs Q E hr h=>?_)
 ·obtain⟨_,_,_,_,_,_,_,rfl,_⟩:=h;rfl
 obtain⟨v,G,hand,ia,wa,ins,want,rfl,hG,cZ,hi0,Jc,q⟩:=h;obtain⟨g0,gv,rfl,jv,k8,eJ⟩:=dZ hG;have GL:=cZ.1;refine⟨_,(av (bJ (i:=4) sc.nd rfl (aW rfl) (eP ar))
   (av (dW bh rfl (BI (K:=K) rfl rfl T.pC (aa (pv 0) ar)) (j7 rfl (cH (bZ (i:=5) sc.nd rfl (aW rfl)) (cH (bZ (i:=6) sc.nd rfl (aW rfl)) iL)))
   (aC (dC (PW.pt (a0h (jm (fC (bL (m5 (K:=K) rfl) (pv 2) (pv 5) (λ_ _=>rfl)))) (a0f (fC (bL (m5 (K:=K) rfl) (pv 3) (pv 5) (λ_ _=>rfl))))))
   (aC (da (lj bx bH bI eH (pv 4) (aa aA ar))))
   (aC (dC (cg iR (bL (jM (K:=K) rfl) (pv 6) aA (λ_ _=>rfl)) (pv 1) (cE _))
   (aC (da (lj bx bH bI eH (pv 4) (aa aA ar))))
   (aC (da (lj bx bH bI eH (pv 4) (aa (bE (eV (K:=K) rfl) rfl T.eL be (aa (tE (aG gZ) ["game","hand","inside","wanted","lacking","place","row"] ["way","inside"] 1 [2] (c8 (bL (jM (K:=K) rfl) (pv 6) aA (λ_ _=>rfl))) (λ_ _ _ _ _ _=>(gB (show cO (["way","inside"]:List bc) by decide +kernel) rfl rfl)) (λ_ _ _ _ _ _=>(ng (fC (bL (m5 (K:=K) rfl) (pv 1) (pv 0) (λ_ _=>rfl))))) (λ_ _ _ _ _ _=>(pv 0))) ar)) ar)))))))))
   (aC (cf (pv 4))))),?_⟩
 refine⟨bv _,λla Bq=>?_⟩;have s0:=ay Bq (.lst []);refine⟨_,rfl,g0,rfl,⟨_,bQ.of (s0 _ _ jv)⟩,xh (K:=K) (a:=g0) (xs:=gv) (λi σ H2=>∃ y1 y2:Option V,σ=[some (.ref g0),some (.int hand),some (.ref ia),some (.ref wa),some (.ref la),y1,y2]/\bp H H2/\H2 la=some (.lst ((im i λx=>((ff G hand ins want x:Nat):Int)).map V.int)))
  ⟨_,_,rfl,s0,au⟩ (λi σ H2 _ h=>?_) (λi x σ H2 Tt hi h hT=>?_) (λσ H2 h=>?_)⟩
 ·obtain⟨_,_,_,s2,_⟩:=h;exact bQ.of (s2 _ _ jv)
 ·obtain⟨y1,y2,rfl,s2,h2⟩:=h;have R4:i<G.length:=by have:=(af.mp hi).1;omega
  obtain⟨row,jC⟩:∃ row,G[i]?=some row:=⟨G[i],by simp⟩
  obtain⟨t,wy0,p1,p2,p3⟩:=eJ i row jC;rw[hi] at p1;cases p1;obtain⟨w1,w2,w3⟩:=cZ.2 row (aq jC);have Yq:G[((i:Nat):Int).toNat]?=some row:=by rw[cv];exact jC
  have RP:=vg Yq;have Xn:=xW Yq;have sT:=ay hT (.tup [.int (i:Nat),.ref t]);refine⟨Tt,_,rfl,eU.of au,rfl,_,_,rfl,_,_,rfl,rfl,?_⟩;have s3:=s2.trans sT;have h3:=sT _ _ h2;generalize upd H2 Tt (.tup [.int (i:Nat),.ref t])=H3 at sT s3 h3 ⊢;have hii:=s3 _ _ hi0;have hww:=s3 _ _ Jc;have add:∀ (z:Int) (H4:Hp),bp H H4->H4 la=some (.lst ((im i λx=>((ff G hand ins want x:Nat):Int)).map V.int))->z=((ff G hand ins want ((i:Nat):Int):Nat):Int)->bp H (upd H4 la (.lst ((im i λx=>((ff G hand ins want x:Nat):Int)).map V.int++[V.int z])))/\upd H4 la (.lst ((im i λx=>((ff G hand ins want x:Nat):Int)).map V.int++[V.int z])) la=some (.lst ((im (i+1) λx=>((ff G hand ins want x:Nat):Int)).map V.int)):=λz H4 s4 h4 e=>⟨s4.put Bq _,by rw[au,PQ,aN,e];rfl⟩
  refine⟨_,rfl,_,rfl,ia,_,_,_,rfl,rfl,bQ.of hii,bu (j:=i) (by have:=vd (f:=ins) (n:=G.length) (z:=((i:Nat):Int)) (by omega) (by omega);rw[cv] at this;exact this),_,rfl,?_⟩;refine fB (λc=>?_) (λc=>?_)
  ·have Uh:ins ((i:Nat):Int)=false:=by simpa using c
   refine⟨_,rfl,.inl ⟨rfl,_,bQ.of h3⟩,la,_,_,rfl,rfl,h3,oR (m:=1000) (by rw[ag,nB];omega),?_⟩;obtain⟨k1,k2⟩:=add 0 H3 s3 h3 (by unfold ff;rw[if_pos (.inl Uh)];rfl);exact⟨_,_,rfl,k1,k2⟩
  have Uh:ins ((i:Nat):Int)=true:=by simpa using c
  refine⟨_,rfl,_,rfl,wa,_,_,_,rfl,rfl,bQ.of hww,bu (j:=i) (by have:=vd (f:=want) (n:=G.length) (z:=((i:Nat):Int)) (by omega) (by omega);rw[cv] at this;exact this),_,rfl,?_⟩;refine fB (λc2=>?_) (λc2=>?_)
  ·refine⟨_,rfl,.inl ⟨rfl,_,bQ.of h3⟩,la,_,_,rfl,rfl,h3,oR (m:=1000) (by rw[ag,nB];omega),?_⟩;obtain⟨k1,k2⟩:=add 0 H3 s3 h3 (by unfold ff;rw[if_pos (.inr c2)];rfl);exact⟨_,_,rfl,k1,k2⟩
  have PH:want ((i:Nat):Int)=false:=by simpa using c2
  have vI:¬ (ins ((i:Nat):Int)=false\/want ((i:Nat):Int)=true):=by rw[Uh,PH];simp
  refine⟨_,rfl,t,_,_,_,rfl,rfl,eU.of (s3 _ _ p2),bu (j:=0) rfl,_,rfl,rfl,_,rfl,?_⟩;refine fB (λc3=>?_) (λc3=>?_)
  ·have hh:row.1=hand:=by have:=of_decide_eq_true c3;injection this
   refine⟨_,rfl,.inl ⟨rfl,_,bQ.of h3⟩,la,_,_,rfl,rfl,h3,oR (m:=1000) (by rw[ag,nB];omega),?_⟩;obtain⟨k1,k2⟩:=add 1 H3 s3 h3 (by unfold ff;rw[if_neg vI,if_pos (by rw[RP];exact hh)];rfl);exact⟨_,_,rfl,k1,k2⟩
  have hh:¬ row.1=hand:=λz=>c3 (decide_eq_true (by rw[z]));refine⟨_,rfl,.inl ⟨rfl,_,bQ.of h3⟩,_,rfl,t,_,_,_,rfl,rfl,eU.of (s3 _ _ p2),bu (j:=2) rfl,wy0,rfl,⟨_,bQ.of (s3 _ _ p3)⟩,cY (K:=K) (a:=wy0) (xs:=row.2.2.map V.int) (λk ys H4=>H4=H3/\ys=((row.2.2.take k).filter ins).map V.int) ⟨rfl,rfl⟩ (a0b (m:=1000) (by rw[ag];omega)) (λk ys H4 hk h=>?_) (λk x ys H4 hk h=>?_) (λys H4 h p hp=>?_)⟩
  ·obtain⟨rfl,rfl⟩:=h;exact⟨bQ.of (s3 _ _ p3),by rw[ag];exact b7 (dA _ _) (by simp;omega)⟩
  ·obtain⟨rfl,rfl⟩:=h;obtain⟨z,hz,rfl⟩:=eG hk;obtain⟨z0,z1⟩:=w2 z (aq hz);refine⟨_,rfl,_,rfl,ia,_,_,_,rfl,rfl,bQ.of hii,lQ z0 (vd z0 z1),_,rfl,?_⟩;refine fB (λc4=>?_) (λc4=>?_)
   ·refine⟨_,rfl,rfl,?_⟩;rw[bw,hz,cV,aN];show _=_++(iG ins [z]).map V.int;rw[bq c4];rfl
   ·refine⟨rfl,?_⟩;rw[bw,hz,cV,aN];show _=_++(iG ins [z]).map V.int;rw[bz c4];simp
  ·obtain⟨rfl,rfl⟩:=h;rw[ag,aY];have s5:=ay hp (.lst ((row.2.2.filter ins).map V.int));have h5:=s5 _ _ h3;refine⟨p,_,rfl,.inl (bQ.of au),la,_,_,rfl,rfl,h5,oR (m:=1000) (by rw[ag,nB];omega),?_⟩;obtain⟨k1,k2⟩:=add (((row.2.2.filter ins).map V.int).length:Nat) _ (s3.trans s5) h5 (by unfold ff;rw[if_neg vI,if_neg (by rw[RP];exact hh),Xn,ag]);exact⟨_,_,rfl,k1,k2⟩
 ·obtain⟨y1,y2,rfl,s2,h2⟩:=h;rw[k8] at h2;exact⟨_,rfl,q la H2 s2 Bq h2⟩
theorem zB {H:Hp} {r k:ak} {as:List ak} {X:List (List Int)} (c:Cells H r as X) (hr:r≠k) (ha:∀ a∈as,a≠k):Cells (L2.del H k) r as X:=⟨by rw[gc hr];exact c.hd,c.nd,c.rn,c.len,λi a h=>by
 obtain⟨l,h1,h2⟩:=c.cell i a h;exact⟨l,h1,by rw[gc (ha a (aq h))];exact h2⟩⟩
theorem Pb {G:List Row} {z:Int} (h0:0<=z) {s:Int}:s∈col G G.length z.toNat↔(0<=s/\s<G.length)/\z∈wy G s:=by
 unfold col;rw[aM];have e:((z.toNat:Nat):Int)=z:=by omega
 constructor
 ·rintro⟨k,hk,rfl⟩;obtain⟨h1,h2⟩:=bF.mp hk;have:=d8.mp h1;unfold YS at h2;rw[e] at h2;have h3:=of_decide_eq_true h2;refine⟨by omega,?_⟩;unfold jp at h3;unfold wy;rw[cv];exact h3
 ·rintro⟨⟨h1,h2⟩,h3⟩;refine⟨s.toNat,bF.mpr ⟨d8.mpr (by omega),?_⟩,by omega⟩;unfold YS;rw[e];refine decide_eq_true ?_;unfold jp;unfold wy at h3;exact h3
theorem TJ (G:List Row) (i p:Nat):(col G i p).Pairwise (·<·):=by
 unfold col;rw[cT];exact (iK.filter _).imp λh=>by omega
theorem SF {G:List Row} {z:Int} (h0:0<=z) (h1:z<G.length):(wi G G.length)[z.toNat]?=some (col G G.length z.toNat):=by
 unfold wi;rw[aI,dy (by omega)];rfl
def rq (G:List Row) (hand:Int) (ins want:Int->Bool) (c0:Int->Nat) (c:Int->Nat) (J:List Int):Prop:=J.Nodup/\∀ p:Int,p∈J↔(0<=p/\p<G.length)/\1<=ff G hand ins want p/\c0 p<ff G hand ins want p/\ff G hand ins want p<=c p
def kD (G:List Row) (S:List Int) (E:List Int) (p:Int):Nat:=cnt G S p+if p∈E then 1 else 0
theorem rq.step {G:List Row} {hand:Int} {ins want:Int->Bool} {c0 c c':Int->Nat} {J:List Int} {s:Int} (h:rq G hand ins want c0 c J) (hs:0<=s/\s<G.length) (h1:c' s=c s+1) (h2:∀ p,p≠s->c' p=c p) (h0:c0 s<=c s) :
  (ff G hand ins want s=c s+1->rq G hand ins want c0 c' (J++[s]))/\(ff G hand ins want s≠c s+1->rq G hand ins want c0 c' J):=by
 obtain⟨nd,hm⟩:=h;constructor
 ·intro e;have yd:s ∉ J:=λz=>by have:=(hm s).mp z;omega
  refine⟨?_,λp=>?_⟩
  ·rw[eK];exact⟨nd,by simp,λa ha b hb=>by rw[aP.mp hb];exact λz=>yd (z ▸ ha)⟩
  ·rw[bj,aP]
   by_cases c1:p=s
   ·subst c1;constructor
    ·intro _;exact⟨hs,by omega,by omega,by omega⟩
    ·intro _;exact .inr rfl
   ·rw[h2 p c1,hm p];constructor
    ·rintro (z | z)
     ·exact z
     ·exact absurd z c1
    ·exact .inl
 ·intro e;refine⟨nd,λp=>?_⟩;rw[hm p]
  by_cases c1:p=s
  ·subst c1;rw[h1];constructor
   ·rintro⟨a,b,d,f⟩;exact⟨a,b,d,by omega⟩
   ·rintro⟨a,b,d,f⟩;exact⟨a,b,d,by omega⟩
  ·rw[h2 p c1]
def Nl:Sp:=λvs H Q _=>WV λ(la:ak) (r:ak) (ka:ak) (as:List ak) (G:List Row) (hand:Int) (ins:Int->Bool) (want:Int->Bool) (S0:List Int) (L:List Int)=>Rs (vs=[.ref la,.ref r,.ref ka]) (ET G) (H la=some (.lst (L.map V.int))) (la≠ka) (Cells H r as (wi G G.length)) (r≠ka) ((∀ a∈as,a≠ka)) (H ka=some (.lst ((im G.length λp=>((ff G hand ins want p:Nat):Int)-((cnt G S0 p:Nat):Int)).map V.int))) (L.Nodup) ((∀ x∈L,x ∉ S0/\0<=x/\x<G.length)) (∀ (p:ak) (ns:List Int) (H':Hp),bp (L2.del H ka) H'->H p=none->H' p=some (.lst (ns.map V.int))->H' ka=some (.lst ((im G.length λp=>((ff G hand ins want p:Nat):Int)-((cnt G (S0++L) p:Nat):Int)).map V.int))->ns.Pairwise (·<·) ->
    (∀ p,p∈ns↔(0<=p/\p<G.length)/\1<=ff G hand ins want p/\cnt G S0 p<ff G hand ins want p/\ff G hand ins want p<=cnt G (S0++L) p)->Q (.ref p) H')
theorem Qj (F:aX K mg "next_layer" kh ["layer","entries","lacking"]) (T:Txt mg):Dn P w K mg base "next_layer" 1 ["layer","entries","lacking"] Nl:=by
 have sc:=za;refine F.ok sc (λvs H Q E h=>?_) (λf di A outer s H vs Q E hr h=>?_)
 ·obtain⟨_,_,_,_,_,_,_,_,_,_,rfl,_⟩:=h;rfl
 obtain⟨la,r,ka,as,G,hand,ins,want,S0,L,rfl,cZ,Bq,nla,hC,nr,Vc,Uk,hLn,hLs,q⟩:=h;have GL:=cZ.1;have ajt:L.length<=63:=by
  have:=gX L (ow G.length) hLn λx hx=>gQ.mpr (hLs x hx).2;unfold ow at this;simp at this;omega
 refine⟨_,(av (bJ (i:=3) sc.nd rfl (aW rfl) (eP ar))
   (av (dW bh rfl (c8 (pv 0)) (bZ (i:=4) sc.nd rfl (aW rfl))
   (aC (dW bh rfl (c8 (bL (m5 (K:=K) rfl) (pv 1) (pv 4) (λ_ _=>rfl))) (bZ (i:=5) sc.nd rfl (aW rfl))
   (av (QA (pv 2) (pv 5) (Le (K:=K) rfl) aA UY a0d)
   (aC (dC (cg iR (bL (m5 (K:=K) rfl) (pv 2) (pv 5) (λ_ _=>rfl)) aA (cE _))
   (aC (da (lj bx bH bI eH (pv 3) (aa (pv 5) ar))))
   cr))))))
   (aC (cf (bE (oF) rfl T.sN ji (aa (pv 3) ar)))))),?_⟩
 refine⟨bv _,λjo hjo=>?_⟩;have njk:jo≠ka:=λz=>by rw[z,Uk] at hjo;cases hjo
 have kB:L2.del H ka ka=none:=by unfold L2.del;rw[if_pos rfl]
 have jB:L2.del H ka jo=none:=by rw[gc njk];exact hjo
 have cB:=zB hC nr Vc;have lB:L2.del H ka la=some (.lst (L.map V.int)):=by rw[gc nla];exact Bq
 have sB:bp (L2.del H ka) (upd H jo (.lst [])):=(sQ _ _).trans (ay hjo _);refine⟨_,rfl,la,rfl,⟨_,bQ.of (sB _ _ lB)⟩,gy (K:=K) (a:=la) (xs:=L.map V.int) (λi σ H2=>Ex3 λ(J:List Int) (y1:Option V) (y2:Option V)=>Ih (σ=[some (.ref la),some (.ref r),some (.ref ka),some (.ref jo),y1,y2]) (bp (L2.del H ka) H2) (H2 ka=some (.lst ((im G.length λp=>((ff G hand ins want p:Nat):Int)-((cnt G (S0++L.take i) p:Nat):Int)).map V.int))) (H2 jo=some (.lst (J.map V.int))) (rq G hand ins want (cnt G S0) (cnt G (S0++L.take i)) J))
  ⟨[],_,_,rfl,sB,by rw[fD,d9,bK (dG njk)];exact Uk,au,nO,λp=>⟨λz=>(by cases z),λz=>by rw[fD,d9] at z;omega⟩⟩ (λi σ H2 _ h=>?_) (λi x σ H2 hi h=>?_) (λσ H2 h=>?_)⟩
 ·obtain⟨_,_,_,_,s2,_⟩:=h;exact bQ.of (s2 _ _ lB)
 ·obtain⟨J,y1,y2,rfl,s2,Uj,IW,hJ⟩:=h;obtain⟨z,hz,rfl⟩:=eG hi;obtain⟨zS,z0,z1⟩:=hLs z (aq hz);have c2:=cB.up s2;obtain⟨ea,El,e1,e2,e3,e4⟩:=c2.at z0 (by rw[NP];exact z1);rw[SF z0 z1] at e2;cases e2;have eB:L2.del H ka ea=some (.lst ((col G G.length z.toNat).map V.int)):=by
   obtain⟨l,h1,h2⟩:=cB.cell _ ea e1;rw[SF z0 z1] at h1;cases h1;exact h2
  have T9:=λs=>Pb (G:=G) (z:=z) z0 (s:=s);have Os:=GD G G.length z.toNat;have hcn:=pQ (TJ G G.length z.toNat);generalize col G G.length z.toNat=El at *;have hzt:z ∉ S0++L.take i:=λhm=>by
   rcases bj.mp hm with hm | hm
   ·exact zS hm
   ·obtain⟨k,hk⟩:=ce hm;rw[km] at hk;split at hk
    ·have:=qw hLn hk hz;omega
    ·cases hk
  have hcs:∀ p:Int,0<=p/\p<G.length->cnt G (S0++L.take (i+1)) p=kD G (S0++L.take i) El p:=λp hp=>by
   rw[bw,hz,← kS];show cnt G (S0++L.take i++[z]) p=_;rw[KZ cZ.wok hzt p];unfold kD
   by_cases c:z∈wy G p
   ·rw[if_pos c,if_pos ((T9 p).mpr ⟨hp,c⟩)]
   ·rw[if_neg c,if_neg λk=>c ((T9 p).mp k).2]
  refine⟨_,rfl,_,rfl,r,_,_,_,rfl,rfl,bQ.of c2.hd,e3,ea,rfl,⟨_,bQ.of (s2 _ _ eB)⟩,gy (K:=K) (a:=ea) (xs:=El.map V.int) (λj σ H3=>Rz λ(J:List Int) (y2:Option V)=>Ih (σ=[some (.ref la),some (.ref r),some (.ref ka),some (.ref jo),some (.int z),y2]) (bp (L2.del H ka) H3) (H3 ka=some (.lst ((im G.length λp=>((ff G hand ins want p:Nat):Int)-((kD G (S0++L.take i) (El.take j) p:Nat):Int)).map V.int))) (H3 jo=some (.lst (J.map V.int))) (rq G hand ins want (cnt G S0) (kD G (S0++L.take i) (El.take j)) J))
   ⟨J,_,rfl,s2,by simpa [kD] using Uj,IW,by simpa [kD,rq] using hJ⟩ (λj σ H3 _ h=>?_) (λj x σ H3 hj h=>?_) (λσ H3 h=>?_)⟩
  ·obtain⟨_,_,_,s3,_⟩:=h;exact bQ.of (s3 _ _ eB)
  ·obtain⟨J,y2,rfl,s3,X3,hj3,hJ⟩:=h;obtain⟨s,hs,rfl⟩:=eG hj;obtain⟨⟨s0,s1⟩,sw⟩:=(T9 s).mp (aq hs);have yb:=(af.mp hs).1;have hsn:s ∉ El.take j:=λhm=>by
    obtain⟨k,hk⟩:=ce hm;rw[km] at hk;split at hk
    ·have:=qw hcn hk hs;omega
    ·cases hk
   have c1:kD G (S0++L.take i) (El.take (j+1)) s=kD G (S0++L.take i) (El.take j) s+1:=by
    unfold kD;rw[if_neg hsn,if_pos ((cz hs).mpr (.inr rfl))]
   have c2':∀ p,p≠s->kD G (S0++L.take i) (El.take (j+1)) p=kD G (S0++L.take i) (El.take j) p:=λp hp=>by
    unfold kD;have:p∈El.take (j+1)↔p∈El.take j:=by rw[cz hs];simp[hp]
    simp only [this]
   have c00:cnt G S0 s<=kD G (S0++L.take i) (El.take j) s:=b7 (C9 (λx hx=>bY _ hx) s) (cP _ _);obtain⟨j1,j2⟩:=hJ.step ⟨s0,s1⟩ c1 c2' c00;have ya:vX ((im G.length λp=>((ff G hand ins want p:Nat):Int)-((kD G (S0++L.take i) (El.take j) p:Nat):Int)).map V.int) s=some (.int (((ff G hand ins want s:Nat):Int)-((kD G (S0++L.take i) (El.take j) s:Nat):Int))):=lQ s0 (by rw[aI,Ds s0 s1];rfl);refine⟨_,rfl,_,rfl,ka,_,_,_,rfl,rfl,bQ.of X3,s0,ya,_,_,rfl,rfl,ka,_,_,s.toNat,rfl,rfl,X3,?_,?_⟩
   ·unfold yI;rw[ag,nB,if_pos s0,if_pos s1]
   have s4:=s3.put kB (.lst (((im G.length λp=>((ff G hand ins want p:Nat):Int)-((kD G (S0++L.take i) (El.take j) p:Nat):Int)).map V.int).set s.toNat (.int (((ff G hand ins want s:Nat):Int)-((kD G (S0++L.take i) (El.take j) s:Nat):Int)-1))));have hk4:upd H3 ka (.lst (((im G.length λp=>((ff G hand ins want p:Nat):Int)-((kD G (S0++L.take i) (El.take j) p:Nat):Int)).map V.int).set s.toNat (.int (((ff G hand ins want s:Nat):Int)-((kD G (S0++L.take i) (El.take j) s:Nat):Int)-1)))) ka=some (.lst ((im G.length λp=>((ff G hand ins want p:Nat):Int)-((kD G (S0++L.take i) (El.take (j+1)) p:Nat):Int)).map V.int)):=by
    rw[au,pR,Fx s0 s1];congr 3;refine pH λp _ _=>?_
    by_cases e:p=s
    ·subst e;rw[if_pos rfl,c1];omega
    ·rw[if_neg e,c2' p e]
   have hj4:upd H3 ka (.lst (((im G.length λp=>((ff G hand ins want p:Nat):Int)-((kD G (S0++L.take i) (El.take j) p:Nat):Int)).map V.int).set s.toNat (.int (((ff G hand ins want s:Nat):Int)-((kD G (S0++L.take i) (El.take j) s:Nat):Int)-1)))) jo=some (.lst (J.map V.int)):=by rw[bK njk];exact hj3
   generalize upd H3 ka (.lst (((im G.length λp=>((ff G hand ins want p:Nat):Int)-((kD G (S0++L.take i) (El.take j) p:Nat):Int)).map V.int).set s.toNat (.int (((ff G hand ins want s:Nat):Int)-((kD G (S0++L.take i) (El.take j) s:Nat):Int)-1))))=H4 at s4 hk4 hj4 ⊢;have adj:vX ((im G.length λp=>((ff G hand ins want p:Nat):Int)-((kD G (S0++L.take i) (El.take (j+1)) p:Nat):Int)).map V.int) s=some (.int (((ff G hand ins want s:Nat):Int)-((kD G (S0++L.take i) (El.take (j+1)) s:Nat):Int))):=lQ s0 (by rw[aI,Ds s0 s1];rfl);have hJl:J.length<=63:=by
    have:=gX J (ow G.length) hJ.1 λx hx=>gQ.mpr ((hJ.2 x).mp hx).1;unfold ow at this;simp at this;omega
   refine⟨_,rfl,_,rfl,ka,_,_,_,rfl,rfl,bQ.of hk4,adj,rfl,_,rfl,?_⟩;refine fB (λc=>?_) (λc=>?_)
   ·have c3:((ff G hand ins want s:Nat):Int)-((kD G (S0++L.take i) (El.take (j+1)) s:Nat):Int)=0:=by have:=of_decide_eq_true c;injection this
    refine⟨_,rfl,.inl ⟨rfl,_,bQ.of hj4⟩,_,rfl,jo,_,_,rfl,rfl,hj4,oR (m:=1000) (by rw[ag];omega),?_⟩;exact⟨J++[s],_,rfl,s4.put jB _,by rw[bK (dG njk)];exact hk4,by rw[au,aN];rfl,j1 (by omega)⟩
   ·have c3:¬ ((ff G hand ins want s:Nat):Int)-((kD G (S0++L.take i) (El.take (j+1)) s:Nat):Int)=0:=λz=>c (decide_eq_true (by rw[z]));exact⟨J,_,rfl,s4,hk4,hj4,j2 (by omega)⟩
  ·obtain⟨J,y2,rfl,s3,X3,hj3,hJ⟩:=h;rw[ag,aY] at X3 hJ;refine⟨J,_,_,rfl,s3,?_,hj3,hJ.1,λp=>?_⟩
   ·rw[X3];congr 3;exact pH λp p0 p1=>by rw[hcs p ⟨p0,p1⟩]
   ·rw[hJ.2 p];constructor
    ·rintro⟨h1,h2⟩;rw[hcs p h1];exact⟨h1,h2⟩
    ·rintro⟨h1,h2⟩;rw[hcs p h1] at h2;exact⟨h1,h2⟩
 ·obtain⟨J,y1,y2,rfl,s2,Uj,IW,hJ⟩:=h;rw[ag,aY] at Uj hJ;have hJl:J.length<=63:=by
   have:=gX J (ow G.length) hJ.1 λx hx=>gQ.mpr ((hJ.2 x).mp hx).1;unfold ow at this;simp at this;omega
  refine⟨_,rfl,jo,J,rfl,bQ.of IW,by omega,λp ns hp pm pw=>?_⟩;have nkp:ka≠p:=λz=>by rw[← z,Uj] at hp;cases hp
  have hpH:H p=none:=by
   have:=s2.free hp;rw[gc (dG nkp)] at this;exact this
  refine q p ns _ (s2.trans (ay hp _)) hpH au (by rw[bK nkp];exact Uj) (QN pw (pm.symm.nodup hJ.1)) λx=>?_;rw[pm.mem_iff];exact hJ.2 x
theorem Ht {G:List Row} {hand:Int} {ins:Int->Bool} {k:Nat} {Ls:List (List Int)}:run G hand ins k Ls []=Ls:=by
 cases k with
 | zero=>rfl
 | succ k=>unfold run;rw[if_pos rfl]
theorem Hq (n:Nat):(ow n).length=n:=by unfold ow;simp
def Eb:Sp:=λvs H Q _=>Ex9 λ(v:V) (qv:V) (G:List Row) (hand:Int) (r:ak) (ga:ak) (as:List ak) (goal:List Int) (ins:Int->Bool)=>Kr (vs=[v,.ref r,.int hand,.ref ga,qv]) (jj H G v) (ET G) (Cells H r as (wi G G.length)) (H ga=some (.lst (goal.map V.int))) (KH H qv ins) (∀ (p:ak) (H':Hp),bp H H'->hU (hU iA) (kO H H') (kM G hand ins λx=>decide (x∈goal)) (.ref p)->Q (.ref p) H')
theorem Jr (F:aX K mg "layers_to" jP ["game","entries","hand","goal","part"]) (T:Txt mg) (AU:Dn P w K mg base "part_marks" 4 ["game","part"] Nm) (e7:Dn P w K mg base "place_marks" 3 ["count","places"] qA) (wI:Dn P w K mg base "lacking_ways" 1 ["game","hand","inside","wanted"] Nj) (AT:Dn P w K mg base "next_layer" 1 ["layer","entries","lacking"] Nl) :
  Dn P w K mg base "layers_to" 5 ["game","entries","hand","goal","part"] Eb:=by
 have sc:=BR;refine F.ok sc (λvs H Q E h=>?_) (λf di A outer s H vs Q E hr h=>?_)
 ·obtain⟨_,_,_,_,_,_,_,_,_,rfl,_⟩:=h;rfl
 obtain⟨v,qv,G,hand,r,ga,as,goal,ins,rfl,hG,cZ,hC,Pq,hP,q⟩:=h;obtain⟨g0,gv,rfl,jv,k8,eJ⟩:=dZ hG;have GL:=cZ.1;refine⟨_,(av (bJ (i:=5) sc.nd rfl (oo rfl) (cx AU hr (aa (pv 0) (aa (pv 4) ar))))
   (av (bJ (i:=6) sc.nd rfl (oo rfl) (cx e7 hr (aa (bE (eV (K:=K) rfl) rfl T.eL be (aa (pv 0) ar)) (aa (pv 3) ar))))
   (av (bJ (i:=7) sc.nd rfl (aW rfl) (cx wI hr (aa (pv 0) (aa (pv 2) (aa (pv 5) (aa (pv 6) ar))))))
   (av (bJ (i:=8) sc.nd rfl (aW rfl) (eP ar))
   (av (vn (i:=9) (aG jP) ["game","entries","hand","goal","part","inside","wanted","lacking","layers","layer"] ["place","inside","wanted"] 1 [5,6] sc.nd rfl rfl (iE rfl T.jW (aa (bE (eV (K:=K) rfl) rfl T.eL be (aa (pv 0) ar)) ar)) (λ_ _ _ _ _ _=>(gB (show cO (["place","inside","wanted"]:List bc) by decide +kernel) rfl rfl)) (λ_ _ _ _ _ _=>(ng (PW.pt (a0j (fC (bL (m5 (K:=K) rfl) (pv 1) (pv 0) (λ_ _=>rfl))) (a0g (fC (bL (m5 (K:=K) rfl) (pv 2) (pv 0) (λ_ _=>rfl)))))))) (λ_ _ _ _ _ _=>(pv 0)))
   (av (xK bh (tI (pv 9) (by intro _;rfl))
   (av (da (lj bx bH bI eH (pv 8) (aa (pv 9) ar)))
   (aC (bJ (i:=9) sc.nd rfl (aW rfl) (cx AT hr (aa (pv 9) (aa (pv 1) (aa (pv 7) ar))))))))
   (aC (cf (pv 8))))))))),?_⟩
 refine⟨_,rfl,_,rfl,_,qv,G,ins,rfl,hG,GL,hP,λia H1 s1 ajY hia=>?_⟩;refine⟨_,rfl,g0,_,rfl,.inl (bQ.of (s1 _ _ jv)),_,rfl,gv.length,ga,goal,rfl,by omega,s1 _ _ Pq,λwa H2 s2 akG ui=>?_⟩;rw[k8] at ui;have ED:=s1.trans s2;refine⟨_,rfl,_,rfl,_,rfl,_,rfl,_,G,hand,ia,wa,ins,(λx=>decide (x∈goal)),rfl,dB.up ED hG,cZ,s2 _ _ hia,ui,λka H3 s3 adL Uk=>?_⟩;have s13:=ED.trans s3;have Ul:H ka=none:=ED.free adL;refine⟨bv _,λg hg=>?_⟩;have s4:=ay hg (.lst []);have s14:=s13.trans s4;have XS:H g=none:=s13.free hg;have Pr:upd H3 g (.lst []) g=some (.lst []):=au;have X1:=s4 _ _ (s3 _ _ (s2 _ _ hia));have UP:=s4 _ _ (s3 _ _ ui);have Pt:=s4 _ _ Uk;have ngk:g≠ka:=λz=>by rw[z,Uk] at hg;cases hg
 generalize upd H3 g (.lst [])=H4 at s4 s14 Pr X1 UP Pt ⊢;generalize YH:(λx=>decide (x∈goal))=want at UP Pt ⊢;rw[YH] at q;refine⟨_,rfl,g0,_,rfl,.inl (bQ.of (s14 _ _ jv)),_,rfl,by omega,by omega,ve (lo:=0) (n:=((gv.length:Nat):Int).toNat) (λi ys H5=>H5=H4/\ys=((ow i).filter λp=>ins p && want p).map V.int) ⟨rfl,rfl⟩ (a0b (m:=1000) (by omega)) (λi ys H5 _ h=>?_) (λi ys H5 hi h=>?_) (λys H5 h la Bq=>?_)⟩
 ·obtain⟨rfl,rfl⟩:=h;rw[ag];exact b7 (dA _ _) (by rw[Hq];exact az _)
 ·obtain⟨rfl,rfl⟩:=h;rw[cv,k8] at hi;have add:∀ b:Bool,(ins ((i:Nat):Int) && want ((i:Nat):Int))=b->((ow (i+1)).filter λp=>ins p && want p).map V.int=((ow i).filter λp=>ins p && want p).map V.int++if b=true then [V.int ((i:Nat):Int)] else []:=λb hb=>by
   rw[MW,cV,aN];congr 1;cases b with
   | true=>rw[bq (p:=λp=>ins p && want p) hb];rfl
   | false=>rw[bz (p:=λp=>ins p && want p) (by simp[hb])];rfl
  refine⟨_,rfl,_,rfl,ia,_,_,_,rfl,rfl,bQ.of X1,(by rw[wM];exact lQ (by omega) (vd (by omega) (by omega))),_,rfl,?_⟩;refine fB (λc=>?_) (λc=>?_)
  ·refine⟨_,rfl,_,rfl,wa,_,_,_,rfl,rfl,bQ.of UP,(by rw[wM];exact lQ (by omega) (vd (by omega) (by omega))),_,rfl,?_⟩;refine fB (λc2=>?_) (λc2=>?_)
   ·refine⟨_,rfl,rfl,?_⟩;rw[add true (by rw[c,c2];rfl),if_pos rfl,wM]
   ·refine⟨rfl,?_⟩;rw[add false (by rw[c];simpa using c2),if_neg (by simp),d9]
  ·refine fW ?_;refine⟨rfl,?_⟩;rw[add false (by rw[Bool.and_eq_false_iff];exact .inl (by simpa using c)),if_neg (by simp),d9]
 obtain⟨rfl,rfl⟩:=h;rw[cv,k8];have s5:=ay Bq (.lst (((ow G.length).filter λp=>ins p && want p).map V.int));have Y5:la≠ka:=λz=>by rw[z,Pt] at Bq;cases Bq
 have nlg:la≠g:=λz=>by rw[z,Pr] at Bq;cases Bq
 have nr:r≠ka:=λz=>by have:=hC.hd;rw[z,Ul] at this;cases this
 have Vc:∀ a∈as,a≠ka:=λa ha z=>by
  obtain⟨i,hi⟩:=ce ha;obtain⟨_,_,h2⟩:=hC.cell i a hi;rw[z,Ul] at h2;cases h2
 refine⟨λm σ Hx=>Ex5 λ(Ls:List (List Int)) (L:List Int) (la:ak) (ls:List ak) (k:Nat)=>Ru (σ=[some (.ref g0),some (.ref r),some (.int hand),some (.ref ga),some qv,some (.ref ia),some (.ref wa),some (.ref ka),some (.ref g),some (.ref la)]) (bp H Hx) (Hx g=some (.lst (ls.map V.ref))) (Hx la=some (.lst (L.map V.int))) (H la=none) (la≠ka) (la≠g) (ls.length=Ls.length) ((∀ (i:Nat) a,ls[i]?=some a->∃ l,Ls[i]?=some l/\Hx a=some (.lst (l.map V.int))/\H a=none/\a≠ka/\a≠g)) (Hx ka=some (.lst ((im G.length λp=>((ff G hand ins want p:Nat):Int)-((cnt G Ls.flatten p:Nat):Int)).map V.int))) (LI G hand ins Ls L) (Seen G hand ins want Ls.flatten (Ls.flatten++L)) (run G hand ins k Ls L=kM G hand ins want) (G.length+1<=k+Ls.flatten.length) (Ls.length<=Ls.flatten.length) (m=G.length-Ls.flatten.length),
  ⟨_,[],a0r G ins want,la,[],G.length+1,rfl,s14.trans s5,s5 _ _ Pr,au,s14.free Bq,Y5,nlg,rfl,(λi a h=>by cases h),?_,LI.start want,Seen.start,rfl,by simp,by simp,rfl⟩,?_⟩
 ·rw[s5 _ _ Pt];congr 3;exact pH λp _ _=>by
   have:cnt G ([]:List (List Int)).flatten p=0:=by unfold cnt;simp
   rw[this];omega
 rintro m σ Hx ⟨Ls,L,la,ls,k,rfl,sx,hxg,WK,hl0,Y5,nlg,Us,hls,hxk,TX,Lj,UG,hk,hLl,rfl⟩;have hlen:=TX.len;refine⟨_,rfl,_,.inl ⟨_,bQ.of WK,rfl⟩,?_⟩;refine fB (λc=>?_) (λc=>?_)
 ·have kU:L≠[]:=λz=>by subst z;simp at c
  have hLp:0<L.length:=bT.mpr kU;obtain⟨k',rfl⟩:∃ k',k=k'+1:=⟨k-1,by omega⟩
  have Yp:run G hand ins k' (Ls++[L]) (FK G hand ins (Ls.flatten++L))=kM G hand ins want:=by
   rw[← UG];conv=>rhs;unfold run;rw[if_neg kU]
  have Kb:(Ls++[L]).flatten=Ls.flatten++L:=by simp
  refine⟨λσ' H'=>∃ U5:ak,WT (σ'=[some (.ref g0),some (.ref r),some (.int hand),some (.ref ga),some qv,some (.ref ia),some (.ref wa),some (.ref ka),some (.ref g),some (.ref U5)]) (bp H H') (H' g=some (.lst ((ls++[la]).map V.ref))) (H' U5=some (.lst ((FK G hand ins (Ls.flatten++L)).map V.int))) (H U5=none) (U5≠ka) (U5≠g) ((∀ (i:Nat) a,(ls++[la])[i]?=some a->∃ l,(Ls++[L])[i]?=some l/\H' a=some (.lst (l.map V.int))/\H a=none/\a≠ka/\a≠g)) (H' ka=some (.lst ((im G.length λp=>((ff G hand ins want p:Nat):Int)-((cnt G (Ls.flatten++L) p:Nat):Int)).map V.int))),?_,?_⟩
  ·rintro σ' H' ⟨U5,rfl,a1,a2,a3,a4,a5,a6,a7,a8⟩;refine⟨_,?_,Ls++[L],FK G hand ins (Ls.flatten++L),U5,ls++[la],k',rfl,a1,a2,a3,a4,a5,a6,by simp[Us],a7,by rw[Kb];exact a8,TX.next,by rw[Kb];exact Lj.next cZ.wok TX.Cq λx hx=>bY _ hx,Yp,?_,?_,rfl⟩
   ·rw[Kb,aO];omega
   ·rw[Kb,aO];omega
   ·rw[Kb];simp only [aO,cC];omega
  ·refine⟨_,rfl,.inl ⟨rfl,_,bQ.of hxg⟩,_,rfl,g,_,_,rfl,rfl,hxg,oR (m:=1000) (by rw[ag];omega),?_⟩;have sy:=sx.put XS (.lst (ls.map V.ref++[V.ref la]));have hyg:upd Hx g (.lst (ls.map V.ref++[V.ref la])) g=some (.lst ((ls++[la]).map V.ref)):=by rw[au,aN];rfl
   have hyl:upd Hx g (.lst (ls.map V.ref++[V.ref la])) la=some (.lst (L.map V.int)):=by rw[bK nlg];exact WK
   have hyk:upd Hx g (.lst (ls.map V.ref++[V.ref la])) ka=some (.lst ((im G.length λp=>((ff G hand ins want p:Nat):Int)-((cnt G Ls.flatten p:Nat):Int)).map V.int)):=by rw[bK (dG ngk)];exact hxk
   have hys:∀ (i:Nat) a,ls[i]?=some a->∃ l,Ls[i]?=some l/\upd Hx g (.lst (ls.map V.ref++[V.ref la])) a=some (.lst (l.map V.int))/\H a=none/\a≠ka/\a≠g:=λi a hi=>by
    obtain⟨l,b1,b2,b3,b4,b5⟩:=hls i a hi;exact⟨l,b1,by rw[bK b5];exact b2,b3,b4,b5⟩
   generalize upd Hx g (.lst (ls.map V.ref++[V.ref la]))=Hy at sy hyg hyl hyk hys ⊢;have Dp:=TX.nd;rw[eK] at Dp;refine⟨_,rfl,_,rfl,_,rfl,la,r,ka,as,G,hand,ins,want,Ls.flatten,L,rfl,cZ,hyl,Y5,hC.up sy,nr,Vc,hyk,Dp.2.1,λx hx=>⟨λz=>Dp.2.2 x z x hx rfl,TX.rg x (aT _ hx)⟩,λp ns H' s' hp yd hk' pw mem=>?_⟩;have ens:ns=FK G hand ins (Ls.flatten++L):=L3 pw (FM _) λx=>by
    rw[mem x,qy];constructor
    ·rintro⟨h1,h2⟩;exact⟨h1,(uC cZ.wok Lj TX.Cq (λy hy=>bY _ hy) h1).mpr h2⟩
    ·rintro⟨h1,h2⟩;exact⟨h1,(uC cZ.wok Lj TX.Cq (λy hy=>bY _ hy) h1).mp h2⟩
   subst ens;have keep:∀ b o,b≠ka->Hy b=some o->H' b=some o:=λb o hb e=>s' b o (by rw[gc hb];exact e);have npk:p≠ka:=λz=>by rw[z,hyk] at hp;cases hp
   have npg:p≠g:=λz=>by rw[z,hyg] at hp;cases hp
   refine⟨p,rfl,λb o e=>keep b o (λz=>by rw[z,Ul] at e;cases e) (sy _ _ e),keep _ _ ngk hyg,yd,sy.free hp,npk,npg,λi a hi=>?_,hk'⟩
   by_cases c2:i<ls.length
   ·rw[bW c2] at hi;obtain⟨l,b1,b2,b3,b4,b5⟩:=hys i a hi;exact⟨l,by rw[bW (by omega)];exact b1,keep _ _ b4 b2,b3,b4,b5⟩
   ·have X0:=(af.mp hi).1;rw[aO,cC] at X0;have R4:i=ls.length:=by omega
    subst R4;rw[bU (az _),ny] at hi;have:la=a:=ck hi;subst this;exact⟨L,by rw[Us,bU (az _),ny];rfl,keep _ _ Y5 hyl,hl0,Y5,nlg⟩
 ·have hem:L=[]:=by
   cases L with
   | nil=>rfl
   | cons x xs=>exact absurd rfl c
  subst hem;rw[Ht] at UG;subst UG;refine⟨_,rfl,q g Hx sx ⟨g,_,rfl,by rw[i5 XS];exact hxg,zY (by rw[ag];exact Us.symm) λi l v hl hv=>?_⟩⟩;rw[aI] at hv;cases e:ls[i]? with
  | none=>rw[e] at hv;cases hv
  | some a =>
   rw[e] at hv;cases hv;obtain⟨l',b1,b2,b3,_⟩:=hls i a e;rw[hl] at b1;cases b1;exact DH b3 b2
def LOk (n:Nat) (R:List (List Int)):Prop:=R.length<=63/\R.flatten.Nodup/\∀ L∈R,L≠[]/\L.Pairwise (·<·)/\L.length<=63/\∀ x∈L,0<=x/\x<n
theorem Ad {G:List Row} {hand:Int} {ins:Int->Bool} (k:Nat):∀ (Ls:List (List Int)) (L:List Int),LI G hand ins Ls L->Ls.length<=Ls.flatten.length->(run G hand ins k Ls L).length<=(run G hand ins k Ls L).flatten.length/\(run G hand ins k Ls L).flatten.length<=G.length:=by
 induction k with
 | zero=>intro Ls L h1 h2;exact⟨h2,by have:=h1.len;show Ls.flatten.length<=_;omega⟩
 | succ k ih =>
  intro Ls L h1 h2
  by_cases c:L=[]
  ·subst c;rw[Ht];exact⟨h2,by have:=h1.len;omega⟩
  ·have e:run G hand ins (k+1) Ls L=run G hand ins k (Ls++[L]) (FK G hand ins (Ls.flatten++L)):=by
    show (if L=[] then Ls else run G hand ins k (Ls++[L]) (FK G hand ins (Ls.flatten++L)))=_;rw[if_neg c]
   rw[e];refine ih _ _ h1.next ?_;have:0<L.length:=bT.mpr c;have Kb:(Ls++[L]).flatten=Ls.flatten++L:=by simp
   rw[Kb];simp only [aO,cC];omega
theorem Dk {R:List (List Int)} {L:List Int} (h:L∈R):L.length<=R.flatten.length:=by
 induction R with
 | nil=>cases h
 | cons a R ih =>
  rw[gP,aO];rcases aB.mp h with rfl | h
  ·omega
  ·have:=ih h;omega
theorem Bw {G:List Row} {hand:Int} {ins want:Int->Bool} (h:G.length<=63):(kM G hand ins want).length<=63/\∀ L∈kM G hand ins want,L.length<=1000:=by
 obtain⟨h1,h2⟩:=Ad (G:=G) (hand:=hand) (ins:=ins) (G.length+1) [] (a0r G ins want) (LI.start want) (by simp);refine⟨by unfold kM;omega,λL hL=>?_⟩;have:=Dk hL;unfold kM at this;omega
theorem LW {G:List Row} {hand:Int} {ins want:Int->Bool} (h:G.length<=63):LOk G.length (kM G hand ins want):=by
 obtain⟨h1,h2⟩:=Ad (G:=G) (hand:=hand) (ins:=ins) (G.length+1) [] (a0r G ins want) (LI.start want) (by simp);have hl:=rO (G:=G) (hand:=hand) (ins:=ins) (want:=want);refine⟨(Bw h).1,hl.nd,λL hL=>?_⟩;obtain⟨k,hk⟩:=ce hL;obtain⟨c1,c2⟩:=hl.ch k L hk;have hf:=Dk hL;unfold kM at hf;refine⟨c2,?_,by omega,λx hx=>hl.li.rg x (bY _ (xY.mpr ⟨L,hL,hx⟩))⟩;rw[c1];unfold nx;split
 ·exact (BM _).filter _
 ·exact FM _
def BZ:Sp:=λvs H Q _=>Ex6 λ(wa:ak) (ma:ak) (ws:List Int) (n:Nat) (f:Int->Bool) (v:Int)=>SO (vs=[.ref wa,.ref ma]) (H wa=some (.lst (ws.map V.int))) (H ma=some (.lst (bm n f))) (ws.Pairwise (·<·)) ((∀ x∈ws,0<=x/\x<n)) (ws.length<=40) ((ws.filter f).head?=some v) (∀ H':Hp,bp H H'->Q (.int v) H')
theorem Ml (F:aX K mg "least_way" jQ ["ways","marks"]) (T:Txt mg):Dn P w K mg base "least_way" 1 ["ways","marks"] BZ:=by
 have sc:=BS;refine F.ok sc (λvs H Q E h=>?_) (λf di A outer s H vs Q E hr h=>?_)
 ·obtain⟨_,_,_,_,_,_,rfl,_⟩:=h;rfl
 obtain⟨wa,ma,ws,n,f,v,rfl,ui,Ov,pw,w2,w3,hv,q⟩:=h;refine⟨_,(aC (cf (bE (zA rfl) rfl T.GA ou (aa (tE (aG jQ) ["ways","marks"] ["way","marks"] 1 [1] (c8 (pv 0)) (λ_ _ _ _ _ _=>(gB (show cO (["way","marks"]:List bc) by decide +kernel) rfl rfl)) (λ_ _ _ _ _ _=>(ng (fC (bL (m5 (K:=K) rfl) (pv 1) (pv 0) (λ_ _=>rfl))))) (λ_ _ _ _ _ _=>(pv 0))) ar)))),?_⟩;refine⟨_,rfl,wa,rfl,⟨_,bQ.of ui⟩,cY (K:=K) (a:=wa) (xs:=ws.map V.int) (λk ys H4=>H4=H/\ys=((ws.take k).filter f).map V.int) ⟨rfl,rfl⟩ (a0b (m:=1000) (by rw[ag];omega)) (λk ys H4 hk h=>?_) (λk x ys H4 hk h=>?_) (λys H4 h p hp=>?_)⟩
 ·obtain⟨rfl,rfl⟩:=h;exact⟨bQ.of ui,by rw[ag];exact b7 (dA _ _) (by simp;omega)⟩
 ·obtain⟨rfl,rfl⟩:=h;obtain⟨z,hz,rfl⟩:=eG hk;obtain⟨z0,z1⟩:=w2 z (aq hz);refine⟨_,rfl,_,rfl,ma,_,_,_,rfl,rfl,bQ.of Ov,lQ z0 (vd z0 z1),_,rfl,?_⟩;refine fB (λc4=>?_) (λc4=>?_)
  ·refine⟨_,rfl,rfl,?_⟩;rw[bw,hz,cV,aN];show _=_++(iG f [z]).map V.int;rw[bq c4];rfl
  ·refine⟨rfl,?_⟩;rw[bw,hz,cV,aN];show _=_++(iG f [z]).map V.int;rw[bz c4];simp
 obtain⟨rfl,rfl⟩:=h;rw[ag,aY];refine⟨p,ws.filter f,rfl,bQ.of au,λz=>(by rw[z] at hv;cases hv),λM hM LB=>?_⟩;rw[Fn (pw.filter _) hv hM LB];exact q _ (ay hp _)
def ZV:Sp:=λvs H Q _=>Ex7 λ(v:V) (lw:V) (G:List Row) (hand:Int) (ins:Int->Bool) (want:Int->Bool) (R:List (List Int))=>Kr (vs=[v,.int hand,lw]) (jj H G v) (ET G) (hU (hU iA) H R lw) (Lay G hand ins want R) (LOk G.length R) (∀ (p:ak) (X:Int->Option Int) (H':Hp),bp H H'->H p=none->H' p=some (.lst (om G.length X))->PR G R (λk p=>lv R (k+1) p/\hd G p=hand) X->Q (.ref p) H')
theorem Zk (F:aX K mg "layer_ways" ke ["game","hand","layers"]) (T:Txt mg) (e7:Dn P w K mg base "place_marks" 3 ["count","places"] qA) (pj:Dn P w K mg base "least_way" 1 ["ways","marks"] BZ):Dn P w K mg base "layer_ways" 4 ["game","hand","layers"] ZV:=by
 have sc:=yY;refine F.ok sc (λvs H Q E h=>?_) (λf di A outer s H vs Q E hr h=>?_)
 ·obtain⟨_,_,_,_,_,_,_,rfl,_⟩:=h;rfl
 obtain⟨v,lw,G,hand,ins,want,R,rfl,hG,cZ,⟨va,Am,rfl,hv,QD⟩,hL,⟨hR1,hR2,hR3⟩,q⟩:=h;obtain⟨g0,gv,rfl,jv,k8,eJ⟩:=dZ hG;have GL:=cZ.1;have e1:=QD.length;refine⟨_,(av (bJ (i:=3) sc.nd rfl (aW rfl) (bV uR (eP (aa oM ar)) (bE (eV (K:=K) rfl) rfl T.eL be (aa (pv 0) ar))))
   (av (dW bh rfl (uS (K:=K) rfl rfl T.wW (aa (pv 2) (aa (DW (slL (K:=K) rfl) (pv 2) (Hk aA) Hj) ar))) (j7 rfl (cH (bZ (i:=4) sc.nd rfl (aW rfl)) (cH (bZ (i:=5) sc.nd rfl (aW rfl)) iL)))
   (av (bJ (i:=6) sc.nd rfl (aW rfl) (cx e7 hr (aa (bE (eV (K:=K) rfl) rfl T.eL be (aa (pv 0) ar)) (aa (pv 4) ar))))
   (aC (dW bh rfl (c8 (pv 5)) (bZ (i:=7) sc.nd rfl (aW rfl))
   (aC (dC (cg iR (bL (jM (K:=K) rfl) (bL (m5 (K:=K) rfl) (pv 0) (pv 7) (λ_ _=>rfl)) aA (λ_ _=>rfl)) (pv 1) (cE _))
   (aC (oO (cx pj hr (aa (bL (jM (K:=K) rfl) (bL (m5 (K:=K) rfl) (pv 0) (pv 7) (λ_ _=>rfl)) aA (λ_ _=>rfl)) (aa (pv 6) ar))) (oN (pv 3) (pv 7) a0d)))
   cr))))))
   (aC (cf (pv 3))))),?_⟩
 refine⟨(by show 1<=aJ;decide),λn1 Kd=>?_⟩;have s1:=ay Kd (.lst [V.fj]);refine⟨_,rfl,g0,_,rfl,.inl (bQ.of (s1 _ _ jv)),n1,_,_,rfl,rfl,au,by omega,by omega,a0b (m:=1000) (by simp;omega),λra Bs=>?_⟩;have s2:=s1.trans (ay Bs (.lst (aD ((gv.length:Nat):Int).toNat [V.fj]).flatten));have Jb:H ra=none:=s1.free Bs;have UE:upd (upd H n1 (.lst [V.fj])) ra (.lst (aD ((gv.length:Nat):Int).toNat [V.fj]).flatten) ra=some (.lst (om G.length λ_=>none)):=by
  rw[au,cv,Mu,k8]
 generalize upd (upd H n1 (.lst [V.fj])) ra (.lst (aD ((gv.length:Nat):Int).toNat [V.fj]).flatten)=H1 at s2 UE ⊢;refine⟨_,rfl,_,rfl,_,rfl,va,_,rfl,bQ.of (s2 _ _ hv),λvb Kf=>?_⟩;rw[zF];have s3:=s2.trans (ay Kf (.lst (Am.drop 1)));have UK:upd H1 vb (.lst (Am.drop 1)) vb=some (.lst (Am.drop 1)):=au;have Ym:=ay Kf (.lst (Am.drop 1)) _ _ UE;have nbr:vb≠ra:=λz=>by rw[z,UE] at Kf;cases Kf
 have akD:H vb=none:=s2.free Kf;generalize upd H1 vb (.lst (Am.drop 1))=H3 at s3 UK Ym ⊢;have nvr:va≠ra:=λz=>by rw[z,Jb] at hv;cases hv
 have hS:∀ Hx:Hp,bp H Hx->bQ K Hx va Am:=λHx sx=>bQ.of (sx _ _ hv);refine⟨va,vb,rfl,⟨_,hS _ s3⟩,⟨_,bQ.of UK⟩,Lc (K:=K) (a:=va) (b:=vb) (xs:=Am) (ys:=Am.drop 1) (Am.length-1) (by omega) (by simp) (.inr (by simp)) (λi σ H4=>Ex5 λ(y1:Option V) (y2:Option V) (y3:Option V) (y4:Option V) (X:Int->Option Int)=>Ih (σ=[some (.ref g0),some (.int hand),some (.ref va),some (.ref ra),y1,y2,y3,y4]) (bp H H4) (H4 vb=some (.lst (Am.drop 1))) (H4 ra=some (.lst (om G.length X))) (PR G R (λk p=>k<i/\lv R (k+1) p/\hd G p=hand) X))
  ⟨_,_,_,_,_,rfl,s3,UK,Ym,PR.zero _ λk p z=>by omega⟩ (λi σ H4 _ h=>?_) (λi x y σ H4 Tt lG hi1 X0 h hT=>?_) (λσ H4 h=>?_)⟩
 ·obtain⟨_,_,_,_,_,_,s4,Wt,_⟩:=h;exact⟨hS _ s4,bQ.of Wt⟩
 ·obtain ⟨y1,y2,y3,y4,X,rfl,s4,Wt,R7,hX⟩:=h;obtain⟨A0,hA⟩:∃ L,R[i]?=some L:=⟨R[i]'(by omega),by simp⟩
  obtain⟨B0,hB⟩:∃ L,R[i+1]?=some L:=⟨R[i+1]'(by omega),by simp⟩
  obtain⟨x',YK,rx⟩:=Paired.at QD hA;rw[hi1] at YK;cases YK;obtain⟨ca,rfl,XF⟩:=mi.mp rx;obtain⟨y',WL,ry⟩:=Paired.at QD hB;rw[kj,wO,WL] at X0;cases X0;obtain⟨cb,rfl,hcb⟩:=mi.mp ry;have sT:=ay hT (.tup [.ref ca,.ref cb]);refine⟨Tt,_,rfl,eU.of au,rfl,_,_,rfl,_,_,rfl,rfl,?_⟩;have s5:=s4.trans sT;have hb5:=sT _ _ Wt;have hr5:=sT _ _ R7;generalize upd H4 Tt (.tup [.ref ca,.ref cb])=H5 at sT s5 hb5 hr5 ⊢;refine⟨_,rfl,g0,_,rfl,.inl (bQ.of (s5 _ _ jv)),_,rfl,gv.length,ca,A0,rfl,by omega,s5 _ _ XF,λma H6 s6 Ja Ov=>?_⟩;have ZH:=s5.trans s6;have XB:=s6 _ _ hb5;have hr6:=s6 _ _ hr5;have nmr:ma≠ra:=λz=>by rw[z,hr5] at Ja;cases Ja
  rw[k8] at Ov;obtain⟨_,_,_,Br⟩:=hR3 B0 (aq hB);have eA:DP R i=A0:=by unfold DP;rw[hA];rfl
  have hBl:=(hR3 B0 (aq hB)).2.2.1;have ac0:B0.Nodup:=pQ (hR3 B0 (aq hB)).2.1;refine⟨_,rfl,cb,rfl,⟨_,bQ.of (ZH _ _ hcb)⟩,gy (K:=K) (a:=cb) (xs:=B0.map V.int) (λj σ H7=>Rz λ(y4:Option V) (X:Int->Option Int)=>OJ (σ=[some (.ref g0),some (.int hand),some (.ref va),some (.ref ra),some (.ref ca),some (.ref cb),some (.ref ma),y4]) (bp H H7) (H7 vb=some (.lst (Am.drop 1))) (H7 ma=some (.lst (bm G.length λx=>decide (x∈A0)))) (H7 ra=some (.lst (om G.length X))) (PR G R (λk p=>(k<i/\lv R (k+1) p/\hd G p=hand)\/(k=i/\p∈B0.take j/\hd G p=hand)) X))
   ⟨_,X,rfl,ZH,XB,Ov,hr6,hX.congr λk p=>by simp⟩ (λj σ H7 _ h=>?_) (λj x σ H7 hj h=>?_) (λσ H7 h=>?_)⟩
  ·obtain⟨_,_,_,s7,_⟩:=h;exact bQ.of (s7 _ _ hcb)
  ·obtain ⟨y4,X,rfl,s7,hb7,hm7,hr7,hX⟩:=h;obtain⟨z,hz,rfl⟩:=eG hj;have hzB:=aq hz;obtain⟨z0,z1⟩:=Br z hzB;obtain⟨row,jC⟩:∃ row,G[z.toNat]?=some row:=⟨G[z.toNat]'(by omega),by simp⟩
   obtain⟨t,wa,p1,p2,p3⟩:=eJ z.toNat row jC;have RP:=vg jC;have Xn:=xW jC;obtain⟨w1,w2,w3⟩:=cZ.2 row (aq jC);have Lm:vX gv z=some (.ref t):=lQ z0 p1;have hlz:lv R (i+1) z:=⟨B0,hB,hzB⟩
   have hzt:z ∉ B0.take j:=λlG=>by
    have yb:=(af.mp hz)
    have hdr:B0.drop j=z::B0.drop (j+1):=by rw[gJ yb.1,yb.2]
    have Ft:=ac0;rw[← fb j B0,hdr,eK] at Ft;exact Ft.2.2 z lG z (aE ..) rfl
   refine⟨_,rfl,_,rfl,g0,_,_,_,rfl,rfl,bQ.of (s7 _ _ jv),Lm,t,_,_,_,rfl,rfl,eU.of (s7 _ _ p2),bu (j:=0) rfl,_,rfl,rfl,_,rfl,?_⟩;refine fB (λc=>?_) (λc=>?_)
   ·have hh:hd G z=hand:=by have:=of_decide_eq_true c;injection this with e;rw[RP];exact e
    obtain⟨pv9,hpk,_,_⟩:=hL.pick hlz hh;have UB:=hpk;unfold DY at UB;rw[eA,Xn] at UB;refine⟨_,rfl,_,rfl,g0,_,_,_,rfl,rfl,bQ.of (s7 _ _ jv),Lm,t,_,_,_,rfl,rfl,eU.of (s7 _ _ p2),bu (j:=2) rfl,_,rfl,wa,ma,row.2.2,G.length,_,pv9,rfl,s7 _ _ p3,hm7,w1,w2,w3,UB,λH8 s8=>?_⟩;have hr8:=s8 _ _ hr7;refine⟨_,rfl,_,rfl,ra,_,_,z.toNat,rfl,rfl,hr8,?_,?_⟩
    ·unfold yI;rw[nI,if_pos z0,if_pos z1]
    ·refine⟨_,_,rfl,(s7.trans s8).put Jb _,by rw[bK nbr];exact s8 _ _ hb7,by rw[bK nmr];exact s8 _ _ hm7,by rw[au,Vl z0 z1],hX.set (i:=i) (λk p hp=>?_) (λk=>?_) hpk⟩
     ·rw[cz hz];constructor
      ·rintro (h | ⟨h1,h2 | h2,h3⟩)
       ·exact .inl h
       ·exact .inr ⟨h1,h2,h3⟩
       ·exact absurd h2 hp
      ·rintro (h | ⟨h1,h2,h3⟩)
       ·exact .inl h
       ·exact .inr ⟨h1,.inl h2,h3⟩
     ·constructor
      ·rintro (⟨h1,h2,_⟩ | ⟨h1,_⟩)
       ·have:=nG hL.nd h2 hlz;omega
       ·exact h1
      ·rintro rfl;exact .inr ⟨rfl,(cz hz).mpr (.inr rfl),hh⟩
   ·have hh:¬ hd G z=hand:=λe=>c (decide_eq_true (by rw[← e,RP]));refine⟨_,_,rfl,s7,hb7,hm7,hr7,hX.congr λk p=>?_⟩;rw[cz hz];constructor
    ·rintro (h | ⟨h1,h2,h3⟩)
     ·exact .inl h
     ·exact .inr ⟨h1,.inl h2,h3⟩
    ·rintro (h | ⟨h1,h2 | h2,h3⟩)
     ·exact .inl h
     ·exact .inr ⟨h1,h2,h3⟩
     ·rw[h2] at h3;exact absurd h3 hh
  ·obtain⟨y4,X,rfl,s7,hb7,hm7,hr7,hX⟩:=h;rw[ag,aY] at hX;refine⟨_,_,_,_,X,rfl,s7,hb7,hr7,hX.congr λk p=>?_⟩;constructor
   ·rintro (⟨h1,h2⟩ | ⟨rfl,h2,h3⟩)
    ·exact⟨by omega,h2⟩
    ·exact⟨by omega,⟨B0,hB,h2⟩,h3⟩
   ·rintro⟨h1,h2,h3⟩
    by_cases c:k<i
    ·exact .inl ⟨c,h2,h3⟩
    ·have:k=i:=by omega
     subst this;obtain⟨M,hM,hp⟩:=h2;rw[hB] at hM;cases hM;exact .inr ⟨rfl,hp,h3⟩
 ·obtain⟨y1,y2,y3,y4,X,rfl,s4,Wt,R7,hX⟩:=h;exact⟨_,rfl,q ra X H4 s4 Jb R7 (hX.congr λk p=>⟨λz=>z.2,λz=>⟨by have:=DE z.1;omega,z⟩⟩)⟩
def Ex (v:V) (r ha wa:ak):List (bc × V):=fK "ways" (.ref wa) (fK "hands" (.ref ha) (fK "entries" (.ref r) (fK "game" v [])))
theorem k7 (v:V) (r ha wa:ak):(Ex v r ha wa).lookup ("game" : bc)=some v:=by
 unfold Ex;rw[dm,if_neg (by decide +kernel),dm,if_neg (by decide +kernel),dm,if_neg (by decide +kernel),dm,if_pos rfl]
theorem Di (v:V) (r ha wa:ak):(Ex v r ha wa).lookup ("entries" : bc)=some (.ref r):=by
 unfold Ex;rw[dm,if_neg (by decide +kernel),dm,if_neg (by decide +kernel),dm,if_pos rfl]
theorem qr (v:V) (r ha wa:ak):(Ex v r ha wa).lookup ("hands" : bc)=some (.ref ha):=by
 unfold Ex;rw[dm,if_neg (by decide +kernel),dm,if_pos rfl]
theorem sS (v:V) (r ha wa:ak):(Ex v r ha wa).lookup ("ways" : bc)=some (.ref wa):=by
 unfold Ex;rw[dm,if_pos rfl]
theorem oG (v:V) (r ha wa:ak) {m:bc} (h1:¬ m = "ways") (h2:¬ m = "hands") (h3:¬ m = "entries") (h4:¬ m = "game"):(Ex v r ha wa).lookup m=none:=by
 unfold Ex;rw[dm,if_neg h1,dm,if_neg h2,dm,if_neg h3,dm,if_neg h4];rfl
abbrev u7:List bc:=["game","entries","hands","ways"]
structure AV (C:ak) (H:Hp) (x:ak) (v:V) (r:ak) (as:List ak) (ha wa:ak) (G:List Row):Prop where
 ob:∃ dx,H x=some (.ins C dx (Ex v r ha wa))
 hg:jj H G v
 hc:Cells H r as (wi G G.length)
theorem AV.up {C x r ha wa:ak} {H H':Hp} {v:V} {as:List ak} {G:List Row} (o:AV C H x v r as ha wa G) (s:bp H H'):AV C H' x v r as ha wa G:=by
 obtain⟨⟨dx,h1⟩,h2,h3⟩:=o;exact⟨⟨dx,s _ _ h1⟩,dB.up s h2,h3.up s⟩
variable {C:ak}
def Hw (C:ak):Sp:=λvs H Q _=>Ex5 λ(x:ak) (dx:ak) (v:V) (G:List Row) (H0:Hp)=>Kr (vs=[.ref x,v]) (bp H0 H) (H0 x=none) (H x=some (.ins C dx [])) (jj H0 G v) (ET G) (∀ (r:ak) (as:List ak) (ha wa:ak) (H':Hp),ha≠wa->H0 ha=none->H0 wa=none->bp H0 (mn H' ha wa)->AV C (mn H' ha wa) x v r as ha wa G->H' ha=some (.lst ((im G.length λ_=>0).map V.int))->H' wa=some (.lst (om G.length λ_=>none))->Q .fj H')
theorem Qg (F:Iq K C "Cutter.__init__" gD ["self","game"]) (T:Txt mg) (aR:ClsAt K mg "Cutter" C u7) (Il:Dn P w K mg base "ways_in" 1 ["game"] ZT):DnK P w K mg base C 2 ["self","game"] (Hw C):=by
 have sc:=rQ;refine F.ok sc (λvs H Q E h=>?_) (λf di A outer s H vs Q E hr h=>?_)
 ·obtain⟨_,_,_,_,_,rfl,_⟩:=h;rfl
 obtain⟨x,dx,v,G,H0,rfl,s0,YL,hx,hG,cZ,q⟩:=h;have GL:=cZ.1;obtain⟨g0,gv,rfl,jv,k8,_⟩:=dZ hG;refine⟨_,(av (wg (K:=K) rfl (pv 0) (pv 1) rfl)
   (av (wg (K:=K) rfl (pv 0) (cx Il hr (aa (pv 1) ar)) rfl)
   (av (wg (K:=K) rfl (pv 0) (bV uR (eP (aa aA ar)) (bE (eV (K:=K) rfl) rfl T.eL be (aa (pv 1) ar))) rfl)
   (aC (wg (K:=K) rfl (pv 0) (bV uR (eP (aa oM ar)) (bE (eV (K:=K) rfl) rfl T.eL be (aa (pv 1) ar))) rfl))))),?_⟩
 refine⟨_,rfl,_,rfl,x,C,dx,[],rfl,hx,aR.cl,aR.na _ (by decide +kernel),(by show 0<1000;decide),?_⟩;have s1:bp H0 (upd H x (.ins C dx (fK "game" (.ref g0) []))):=s0.put YL _;have US:upd H x (.ins C dx (fK "game" (.ref g0) [])) x=some (.ins C dx (fK "game" (.ref g0) [])):=au;generalize upd H x (.ins C dx (fK "game" (.ref g0) []))=H1 at s1 US ⊢;refine⟨_,rfl,_,G,rfl,dB.up s1 hG,cZ,λr as H2 s2 hr0 xk hC=>?_⟩;have Oz:=s2 _ _ US;refine⟨_,rfl,x,C,dx,_,rfl,Oz,aR.cl,aR.na _ (by decide +kernel),(by show 1<1000;decide),?_⟩;have nrx:r≠x:=fh US hr0;have nax:∀ a∈as,a≠x:=λa ha=>fh US (xk a ha);have hC3:Cells (L2.del H2 x) r as (wi G G.length):=zB hC nrx nax;have s3:bp H0 (upd H2 x (.ins C dx (fK "entries" (.ref r) (fK "game" (.ref g0) [])))):=(s1.trans s2).put YL _;have hC4:Cells (L2.del (upd H2 x (.ins C dx (fK "entries" (.ref r) (fK "game" (.ref g0) [])))) x) r as (wi G G.length):=by rw[Bk];exact hC3
 have WJ:upd H2 x (.ins C dx (fK "entries" (.ref r) (fK "game" (.ref g0) []))) x=some (.ins C dx (fK "entries" (.ref r) (fK "game" (.ref g0) []))):=au;generalize upd H2 x (.ins C dx (fK "entries" (.ref r) (fK "game" (.ref g0) [])))=H3 at s3 hC4 WJ ⊢;refine⟨(by show 1<=aJ;decide),λn1 Kd=>?_⟩;have s4:=ay Kd (.lst [V.int 0]);refine⟨_,rfl,g0,_,rfl,.inl (bQ.of ((s3.trans s4) _ _ jv)),n1,_,_,rfl,rfl,au,by omega,by omega,a0b (m:=1000) (by simp;omega),λha Fo=>?_⟩;have s5:=ay Fo (.lst (aD ((gv.length:Nat):Int).toNat [V.int 0]).flatten);have XZ:upd (upd H3 n1 (.lst [V.int 0])) ha (.lst (aD ((gv.length:Nat):Int).toNat [V.int 0]).flatten) ha=some (.lst ((im G.length λ_=>0).map V.int)):=by
  rw[au,cv,UV,k8]
 have s35:=s4.trans s5;have Uf:H3 ha=none:=s4.free Fo;generalize upd (upd H3 n1 (.lst [V.int 0])) ha (.lst (aD ((gv.length:Nat):Int).toNat [V.int 0]).flatten)=H5 at s5 s35 XZ ⊢;have nhx:ha≠x:=fh WJ Uf;refine⟨_,rfl,x,C,dx,_,rfl,s35 _ _ WJ,aR.cl,aR.na _ (by decide +kernel),(by show 2<1000;decide),?_⟩;have s6:bp (L2.del H3 x) (upd H5 x (.ins C dx (fK "hands" (.ref ha) (fK "entries" (.ref r) (fK "game" (.ref g0) []))))):=((sQ H3 x).trans s35).put (by unfold L2.del;rw[if_pos rfl]) _;have hx6:upd H5 x (.ins C dx (fK "hands" (.ref ha) (fK "entries" (.ref r) (fK "game" (.ref g0) [])))) x=some (.ins C dx (fK "hands" (.ref ha) (fK "entries" (.ref r) (fK "game" (.ref g0) [])))):=au;have Ug:upd H5 x (.ins C dx (fK "hands" (.ref ha) (fK "entries" (.ref r) (fK "game" (.ref g0) [])))) ha=some (.lst ((im G.length λ_=>0).map V.int)):=by rw[bK nhx];exact XZ
 generalize upd H5 x (.ins C dx (fK "hands" (.ref ha) (fK "entries" (.ref r) (fK "game" (.ref g0) []))))=H6 at s6 hx6 Ug ⊢;have s03:bp H0 (L2.del H3 x):=λb o e=>by rw[gc (λz=>by rw[z,YL] at e;cases e)];exact s3 _ _ e
 have ZH:=s03.trans s6;refine⟨(by show 1<=aJ;decide),λn2 LC=>?_⟩;have s7:=ay LC (.lst [V.fj]);refine⟨_,rfl,g0,_,rfl,.inl (bQ.of ((ZH.trans s7) _ _ jv)),n2,_,_,rfl,rfl,au,by omega,by omega,a0b (m:=1000) (by simp;omega),λwa ui=>?_⟩;have s8:=ay ui (.lst (aD ((gv.length:Nat):Int).toNat [V.fj]).flatten);have YG:upd (upd H6 n2 (.lst [V.fj])) wa (.lst (aD ((gv.length:Nat):Int).toNat [V.fj]).flatten) wa=some (.lst (om G.length λ_=>none)):=by
  rw[au,cv,Mu,k8]
 have s68:=s7.trans s8;have PD:H6 wa=none:=s7.free ui;generalize upd (upd H6 n2 (.lst [V.fj])) wa (.lst (aD ((gv.length:Nat):Int).toNat [V.fj]).flatten)=H8 at s8 s68 YG ⊢;have nwx:wa≠x:=fh hx6 PD;have nwh:wa≠ha:=fh Ug PD;refine⟨_,rfl,x,C,dx,_,rfl,s68 _ _ hx6,aR.cl,aR.na _ (by decide +kernel),(by show 3<1000;decide),?_⟩;have hx9:upd H8 x (.ins C dx (Ex (.ref g0) r ha wa)) x=some (.ins C dx (Ex (.ref g0) r ha wa)):=au;have s9:bp (L2.del H3 x) (upd H8 x (.ins C dx (Ex (.ref g0) r ha wa))):=(s6.trans s68).put (by unfold L2.del;rw[if_pos rfl]) _;have adD:upd H8 x (.ins C dx (Ex (.ref g0) r ha wa)) ha=some (.lst ((im G.length λ_=>0).map V.int)):=by rw[bK nhx];exact s68 _ _ Ug
 have aet:upd H8 x (.ins C dx (Ex (.ref g0) r ha wa)) wa=some (.lst (om G.length λ_=>none)):=by rw[bK nwx];exact YG
 have XX:H0 ha=none:=s3.free Uf;have Jc:H0 wa=none:=ZH.free PD;have hdh:L2.del H3 x ha=none:=by rw[gc nhx];exact Uf
 have hdw:L2.del H3 x wa=none:=s6.free PD;have sm:=YZ s9 hdh hdw;exact q r as ha wa _ (dG nwh) XX Jc (s03.trans sm) ⟨⟨dx,by rw[pT (dG nhx) (dG nwx)];exact hx9⟩,dB.up (s03.trans sm) hG,hC4.up sm⟩ adD aet
def B2 (C:ak):Sp:=λvs H Q _=>WW λ(x:ak) (v:V) (r:ak) (as:List ak) (ha:ak) (wa:ak) (G:List Row) (hand:Int) (ga:ak) (la:ak) (goal:List Int) (left:List Int)=>OJ (vs=[.ref x,.int hand,.ref ga,.ref la]) (AV C H x v r as ha wa G) (ET G) (H ga=some (.lst (goal.map V.int))) (H la=some (.lst (left.map V.int))) (∀ (p:ak) (H':Hp),bp H H'->hU (hU iA) (kO H H') (kM G hand (λx=>decide (x∈left)) λx=>decide (x∈goal)) (.ref p)->Q (.ref p) H')
theorem Mo (F:oA K C "pull" "Cutter.pull" jx ["self","hand","goal","left"]) (T:Txt mg) (aR:ClsAt K mg "Cutter" C u7) (CH:Dn P w K mg base "layers_to" 5 ["game","entries","hand","goal","part"] Eb):Cd P w K mg base C "pull" 6 ["self","hand","goal","left"] (B2 C):=by
 have sc:=xM;refine F.ok sc (λvs H Q E h=>?_) (λf di A outer s H vs Q E hr h=>?_)
 ·obtain⟨_,_,_,_,_,_,_,_,_,_,_,_,rfl,_⟩:=h;rfl
 obtain⟨x,v,r,as,ha,wa,G,hand,ga,la,goal,left,rfl,⟨⟨dx,hx⟩,hG,hC⟩,cZ,Pq,Bq,q⟩:=h;refine⟨_,(aC (cf (cx CH hr (aa (gS (K:=K) rfl (pv 0) rfl) (aa (gS (K:=K) rfl (pv 0) rfl) (aa (pv 1) (aa (pv 2) (aa (pv 3) ar)))))))),?_⟩;exact⟨_,rfl,x,C,dx,_,_,rfl,hx,aR.cl,aR.na _ (by decide +kernel),k7 _ _ _ _,_,rfl,x,C,dx,_,_,rfl,hx,aR.cl,aR.na _ (by decide +kernel),Di _ _ _ _,_,rfl,_,rfl,_,rfl,v,.ref la,G,hand,r,ga,as,goal,_,rfl,hG,cZ,hC,Pq,.inr ⟨la,left,rfl,Bq,rfl⟩,λp H1 s1 hp=>q p H1 s1 hp⟩
def u4 (C:ak):Sp:=λvs H Q _=>SW λ(x:ak) (v:V) (r:ak) (as:List ak) (ha:ak) (wa:ak) (G:List Row) (la:ak) (pa:ak) (left:List Int) (ps:List Int)=>SO (vs=[.ref x,.ref la,.ref pa]) (AV C H x v r as ha wa G) (ET G) (H la=some (.lst (left.map V.int))) (H pa=some (.lst (ps.map V.int))) ((∀ z∈left,0<=z/\z<G.length)) (left.length<=63) (∀ (p:ak) (H':Hp),bp H H'->H p=none->H' p=some (.lst ((left.filter λz=>!decide (z∈ps)).map V.int))->Q (.ref p) H')
theorem FP (F:oA K C "without" "Cutter.without" fQ ["self","left","places"]) (T:Txt mg) (aR:ClsAt K mg "Cutter" C u7) (e7:Dn P w K mg base "place_marks" 3 ["count","places"] qA):Cd P w K mg base C "without" 4 ["self","left","places"] (u4 C):=by
 have sc:=tO;refine F.ok sc (λvs H Q E h=>?_) (λf di A outer s H vs Q E hr h=>?_)
 ·obtain⟨_,_,_,_,_,_,_,_,_,_,_,rfl,_⟩:=h;rfl
 obtain⟨x,v,r,as,ha,wa,G,la,pa,left,ps,rfl,⟨⟨dx,hx⟩,hG,hC⟩,cZ,Bq,Ke,IZ,Us,q⟩:=h;obtain⟨g0,gv,rfl,jv,k8,_⟩:=dZ hG;have GL:=cZ.1;refine⟨_,(av (bJ (i:=3) sc.nd rfl (oo rfl) (cx e7 hr (aa (bE (eV (K:=K) rfl) rfl T.eL be (aa (gS (K:=K) rfl (pv 0) rfl) ar)) (aa (pv 2) ar))))
   (aC (cf (tE (aG fQ) ["self","left","places","marks"] ["place","marks"] 1 [3] (c8 (pv 1)) (λ_ _ _ _ _ _=>(gB (show cO (["place","marks"]:List bc) by decide +kernel) rfl rfl)) (λ_ _ _ _ _ _=>(ng (jm (fC (bL (m5 (K:=K) rfl) (pv 1) (pv 0) (λ_ _=>rfl)))))) (λ_ _ _ _ _ _=>(pv 0)))))),?_⟩
 refine⟨_,rfl,x,C,dx,_,_,rfl,hx,aR.cl,aR.na _ (by decide +kernel),k7 _ _ _ _,g0,_,rfl,.inl (bQ.of jv),_,rfl,gv.length,pa,ps,rfl,by omega,Ke,λma H1 s1 Ja Ov=>?_⟩;rw[k8] at Ov;refine⟨_,rfl,la,rfl,⟨_,bQ.of (s1 _ _ Bq)⟩,cY (K:=K) (a:=la) (xs:=left.map V.int) (λk ys H3=>H3=H1/\ys=((left.take k).filter λz=>!decide (z∈ps)).map V.int) ⟨rfl,rfl⟩ (a0b (m:=1000) (by rw[ag];omega)) (λk ys H3 hk h=>?_) (λk y ys H3 hk h=>?_) (λys H3 h p hp=>?_)⟩
 ·obtain⟨rfl,rfl⟩:=h;exact⟨bQ.of (s1 _ _ Bq),by rw[ag];exact b7 (dA _ _) (by simp;omega)⟩
 ·obtain⟨rfl,rfl⟩:=h;obtain⟨z,hz,rfl⟩:=eG hk;obtain⟨z0,z1⟩:=IZ z (aq hz);refine⟨_,rfl,_,rfl,ma,_,_,_,rfl,rfl,bQ.of Ov,lQ z0 (vd z0 z1),_,rfl,?_⟩;refine fB (λc4=>?_) (λc4=>?_)
  ·refine⟨_,rfl,rfl,?_⟩;rw[bw,hz,cV,aN];show _=_++(iG (λz=>!decide (z∈ps)) [z]).map V.int;rw[bq (p:=λz=>!decide (z∈ps)) c4];rfl
  ·refine⟨rfl,?_⟩;rw[bw,hz,cV,aN];show _=_++(iG (λz=>!decide (z∈ps)) [z]).map V.int;rw[bz (p:=λz=>!decide (z∈ps)) c4];simp
 obtain⟨rfl,rfl⟩:=h;rw[ag,aY];exact q p _ (s1.trans (ay hp _)) (s1.free hp) au
def tl (R:List (List Int)):List Int:=(R.drop 1).flatten
theorem nL {R:List (List Int)} {p:Int}:p∈tl R↔∃ k,lv R (k+1) p:=by
 unfold tl;rw[tz];constructor
 ·rintro⟨j,L,h,hp⟩;rw[kj,wO] at h;exact⟨j,L,h,hp⟩
 ·rintro⟨j,L,h,hp⟩;exact⟨j,L,by rw[kj,wO];exact h,hp⟩
def F5 (C:ak):Sp:=λvs H Q _=>SX λ(x:ak) (v:V) (r:ak) (as:List ak) (ha:ak) (wa:ak) (G:List Row) (hand:Int) (lw:V) (ins:Int->Bool) (want:Int->Bool) (R:List (List Int)) (hf:Int->Int) (wf:Int->Option Int)=>Kq (vs=[.ref x,.int hand,lw]) (ha≠wa) (AV C (mn H ha wa) x v r as ha wa G) (ET G) (hU (hU iA) (mn H ha wa) R lw) (Lay G hand ins want R) (LOk G.length R) (H ha=some (.lst ((im G.length hf).map V.int))) (H wa=some (.lst (om G.length wf))) (∀ (X:Int->Option Int) (H':Hp),bp (mn H ha wa) H'->H' ha=some (.lst ((im G.length λp=>if p∈tl R then hand else hf p).map V.int))->H' wa=some (.lst (om G.length λp=>if p∈tl R then X p else wf p))->PR G R (λk p=>lv R (k+1) p/\hd G p=hand) X->Q .fj H')
theorem Qe (F:oA K C "give" "Cutter.give" jw ["self","hand","layers"]) (T:Txt mg) (aR:ClsAt K mg "Cutter" C u7) (AQ:Dn P w K mg base "layer_ways" 4 ["game","hand","layers"] ZV):Cd P w K mg base C "give" 5 ["self","hand","layers"] (F5 C):=by
 have sc:=xL;refine F.ok sc (λvs H Q E h=>?_) (λf di A outer s H vs Q E hr h=>?_)
 ·obtain⟨_,_,_,_,_,_,_,_,_,_,_,_,_,_,rfl,_⟩:=h;rfl
 obtain⟨x,v,r,as,ha,wa,G,hand,lw,ins,want,R,hf,wf,rfl,G4,hO,cZ,hR,hL,Xy,Fo,ui,q⟩:=h;obtain⟨⟨dx,hx⟩,hG,hC⟩:=id hO;have GL:=cZ.1;have hxH:=kX _ _ hx;refine⟨_,(av (bJ (i:=3) sc.nd rfl (aW rfl) (cx AQ hr (aa (gS (K:=K) rfl (pv 0) rfl) (aa (pv 1) (aa (pv 2) ar)))))
   (aC (dW bh rfl (c8 (DW (slL (K:=K) rfl) (pv 2) (Hk aA) Hj)) (bZ (i:=4) sc.nd rfl (aW rfl))
   (aC (dW bh rfl (c8 (pv 4)) (bZ (i:=5) sc.nd rfl (aW rfl))
   (av (oO (pv 1) (oN (gS (K:=K) rfl (pv 0) rfl) (pv 5) a0d))
   (aC (oO (bL (m5 (K:=K) rfl) (pv 3) (pv 5) (λ_ _=>rfl)) (oN (gS (K:=K) rfl (pv 0) rfl) (pv 5) a0d))))))))),?_⟩
 have sM:bp (mn H ha wa) H:=kX;refine⟨_,rfl,x,C,dx,_,_,rfl,hxH,aR.cl,aR.na _ (by decide +kernel),k7 _ _ _ _,_,rfl,_,rfl,v,lw,G,hand,ins,want,R,rfl,dB.up sM hG,cZ,(dO (dO fg)).up sM hR,hL,Xy,λra X H1 s1 Jb Bs hX=>?_⟩;obtain⟨va,Am,rfl,hv,QD⟩:=hR;have nrh:ra≠ha:=fh Fo Jb;have nrw:ra≠wa:=fh ui Jb;have ZG:bp (mn H ha wa) (mn H1 ha wa):=j6 s1;refine⟨_,rfl,_,rfl,va,_,rfl,bQ.of (s1 _ _ (sM _ _ hv)),λvb Kf=>?_⟩;rw[zF];have nbh:vb≠ha:=fh (s1 _ _ Fo) Kf;have nbw:vb≠wa:=fh (s1 _ _ ui) Kf;have s2:=ay Kf (.lst (Am.drop 1));have UL:upd H1 vb (.lst (Am.drop 1)) vb=some (.lst (Am.drop 1)):=au;have ED:=s1.trans s2;have Yl:=s2 _ _ Bs;generalize upd H1 vb (.lst (Am.drop 1))=H2 at s2 UL ED Yl ⊢;have hvl:=QD.length;have pvd:dE (hU iA (mn H ha wa)) (R.drop 1) (Am.drop 1):=by
  cases QD with
  | nil=>exact .nil
  | cons _ t=>exact t
 have Pn:=pvd.length;refine⟨vb,rfl,⟨_,bQ.of UL⟩,gy (K:=K) (a:=vb) (xs:=Am.drop 1) (λi σ H3=>Rz λ(y1:Option V) (y2:Option V)=>Ig (σ=[some (.ref x),some (.int hand),some (.ref va),some (.ref ra),y1,y2]) (bp (mn H2 ha wa) H3) (H3 ha=some (.lst ((im G.length λp=>if p∈((R.drop 1).take i).flatten then hand else hf p).map V.int))) (H3 wa=some (.lst (om G.length λp=>if p∈((R.drop 1).take i).flatten then X p else wf p))))
  ⟨_,_,rfl,kX,ED _ _ Fo,ED _ _ ui⟩ (λi σ H3 _ h=>?_) (λi y σ H3 hi h=>?_) (λσ H3 h=>?_)⟩
 ·obtain⟨_,_,_,s3,_⟩:=h;exact bQ.of (s3 _ _ (mI UL nbh nbw))
 ·obtain ⟨y1,y2,rfl,s3,IU,Bu⟩:=h;obtain⟨L,hLi,rx⟩:=Paired.ta pvd hi;obtain⟨ca,rfl,XF⟩:=mi.mp rx;have XG:=(j6 (a:=ha) (b:=wa) ED) _ _ XF;have hLR:L∈R:=List.mem_of_mem_drop (aq hLi);obtain⟨_,_,Ll,Lr⟩:=Xy.2.2 L hLR;refine⟨_,rfl,ca,rfl,⟨_,bQ.of (s3 _ _ XG)⟩,gy (K:=K) (a:=ca) (xs:=L.map V.int) (λj σ H4=>∃ (y2:Option V),Ig (σ=[some (.ref x),some (.int hand),some (.ref va),some (.ref ra),some (.ref ca),y2]) (bp (mn H2 ha wa) H4) (H4 ha=some (.lst ((im G.length λp=>if p∈((R.drop 1).take i).flatten++L.take j then hand else hf p).map V.int))) (H4 wa=some (.lst (om G.length λp=>if p∈((R.drop 1).take i).flatten++L.take j then X p else wf p))))
   ⟨_,rfl,s3,by simpa using IU,by simpa using Bu⟩ (λj σ H4 _ h=>?_) (λj y σ H4 hj h=>?_) (λσ H4 h=>?_)⟩
  ·obtain⟨_,_,s4,_⟩:=h;exact bQ.of (s4 _ _ XG)
  ·obtain⟨y2,rfl,s4,R1,Cp⟩:=h;obtain⟨z,hz,rfl⟩:=eG hj;obtain⟨z0,z1⟩:=Lr z (aq hz);have Oz:=(j6 (a:=ha) (b:=wa) ED) _ _ hx;have hx4:=s4 _ _ Oz;refine⟨_,rfl,_,rfl,x,C,dx,_,_,rfl,hx4,aR.cl,aR.na _ (by decide +kernel),qr _ _ _ _,_,rfl,ha,_,_,z.toNat,rfl,rfl,R1,?_,?_⟩
   ·unfold yI;rw[ag,nB,if_pos z0,if_pos z1]
   have s5:=s4.put Mb (.lst (((im G.length λp=>if p∈((R.drop 1).take i).flatten++L.take j then hand else hf p).map V.int).set z.toNat (.int hand)));have LO:upd H4 ha (.lst (((im G.length λp=>if p∈((R.drop 1).take i).flatten++L.take j then hand else hf p).map V.int).set z.toNat (.int hand))) wa=some (.lst (om G.length λp=>if p∈((R.drop 1).take i).flatten++L.take j then X p else wf p)):=by rw[bK (dG G4)];exact Cp
   have Ww:upd H4 ha (.lst (((im G.length λp=>if p∈((R.drop 1).take i).flatten++L.take j then hand else hf p).map V.int).set z.toNat (.int hand))) ha=some (.lst ((im G.length λp=>if p∈((R.drop 1).take i).flatten++L.take (j+1) then hand else hf p).map V.int)):=by
    rw[au,pR,Fx z0 z1];congr 3;refine pH λp _ _=>?_
    by_cases c:p=z
    ·subst c;rw[if_pos rfl,if_pos (aT _ ((cz hz).mpr (.inr rfl)))]
    ·rw[if_neg c];have e:(p∈((R.drop 1).take i).flatten++L.take (j+1))↔p∈((R.drop 1).take i).flatten++L.take j:=by
      rw[bj,bj,cz hz];simp[c]
     simp only [e]
   generalize upd H4 ha (.lst (((im G.length λp=>if p∈((R.drop 1).take i).flatten++L.take j then hand else hf p).map V.int).set z.toNat (.int hand)))=H5 at s5 LO Ww ⊢;have ad8:=s5 _ _ (mI Yl nrh nrw);refine⟨_,rfl,_,rfl,ra,_,_,_,rfl,rfl,bQ.of ad8,lQ z0 (Ms z0 z1),_,rfl,x,C,dx,_,_,rfl,s5 _ _ Oz,aR.cl,aR.na _ (by decide +kernel),sS _ _ _ _,_,rfl,wa,_,_,z.toNat,rfl,rfl,LO,?_,?_⟩
   ·unfold yI;rw[nI,if_pos z0,if_pos z1]
   ·refine⟨_,rfl,s5.put Mc _,by rw[bK G4];exact Ww,?_⟩;rw[au,Mt z0 z1];congr 2;refine DT λp _ _=>?_
    by_cases c:p=z
    ·subst c;rw[if_pos rfl,if_pos (aT _ ((cz hz).mpr (.inr rfl)))]
    ·rw[if_neg c];have e:(p∈((R.drop 1).take i).flatten++L.take (j+1))↔p∈((R.drop 1).take i).flatten++L.take j:=by
      rw[bj,bj,cz hz];simp[c]
     simp only [e]
  ·obtain⟨y2,rfl,s4,R1,Cp⟩:=h;rw[ag,aY] at R1 Cp;have e:((R.drop 1).take (i+1)).flatten=((R.drop 1).take i).flatten++L:=by
    rw[bw,hLi,fU];simp
   exact⟨_,_,rfl,s4,by rw[e];exact R1,by rw[e];exact Cp⟩
 ·obtain⟨y1,y2,rfl,s3,IU,Bu⟩:=h;rw[← Pn,aY] at IU Bu;exact q X H3 ((j6 ED).trans s3) IU Bu hX
def F8 (C:ak):Sp:=λvs H Q _=>SX λ(x:ak) (v:V) (r:ak) (as:List ak) (ha:ak) (wa:ak) (G:List Row) (hand:Int) (ta:ak) (la:ak) (ts:List Int) (left:List Int) (hf:Int->Int) (wf:Int->Option Int)=>Kq (vs=[.ref x,.int hand,.ref ta,.ref la]) (ha≠wa) (AV C (mn H ha wa) x v r as ha wa G) (ET G) (mn H ha wa ta=some (.lst (ts.map V.int))) (mn H ha wa la=some (.lst (left.map V.int))) ((∀ z∈ts,(0<=z/\z<G.length)/\z∈left/\∃ w∈wy G z,w∈left)) (H ha=some (.lst ((im G.length hf).map V.int))) (H wa=some (.lst (om G.length wf))) (∀ (H':Hp),bp (mn H ha wa) H'->H' ha=some (.lst ((im G.length λp=>if p∈ts then hand else hf p).map V.int))->H' wa=some (.lst (om G.length λp=>if p∈ts then zP G hand left p else wf p))->Q .fj H')
theorem Qo (F:oA K C "give_tops" "Cutter.give_tops" fX ["self","hand","tops","left"]) (T:Txt mg) (aR:ClsAt K mg "Cutter" C u7) (e7:Dn P w K mg base "place_marks" 3 ["count","places"] qA) (pj:Dn P w K mg base "least_way" 1 ["ways","marks"] BZ):Cd P w K mg base C "give_tops" 4 ["self","hand","tops","left"] (F8 C):=by
 have sc:=qR;refine F.ok sc (λvs H Q E h=>?_) (λf di A outer s H vs Q E hr h=>?_)
 ·obtain⟨_,_,_,_,_,_,_,_,_,_,_,_,_,_,rfl,_⟩:=h;rfl
 obtain⟨x,v,r,as,ha,wa,G,hand,ta,la,ts,left,hf,wf,rfl,G4,hO,cZ,zL,Bq,hts,Fo,ui,q⟩:=h;obtain⟨⟨dx,hx⟩,hG,hC⟩:=id hO;obtain⟨g0,gv,rfl,jv,k8,eJ⟩:=dZ hG;have GL:=cZ.1;have sM:bp (mn H ha wa) H:=kX;refine⟨_,(av (bJ (i:=4) sc.nd rfl (aW rfl) (cx e7 hr (aa (bE (eV (K:=K) rfl) rfl T.eL be (aa (gS (K:=K) rfl (pv 0) rfl) ar)) (aa (pv 3) ar))))
   (aC (dW bh rfl (c8 (pv 2)) (bZ (i:=5) sc.nd rfl (aW rfl))
   (av (oO (pv 1) (oN (gS (K:=K) rfl (pv 0) rfl) (pv 5) a0d))
   (av (bJ (i:=6) sc.nd rfl (aW rfl) (wc iR (bL (jM (K:=K) rfl) (bL (m5 (K:=K) rfl) (gS (K:=K) rfl (pv 0) rfl) (pv 5) (λ_ _=>rfl)) aA (λ_ _=>rfl)) (pv 1) (cE _)))
   (aC (oO (lm (fC (pv 6)) (cx pj hr (aa (bL (jM (K:=K) rfl) (bL (m5 (K:=K) rfl) (gS (K:=K) rfl (pv 0) rfl) (pv 5) (λ_ _=>rfl)) aA (λ_ _=>rfl)) (aa (pv 4) ar))) oM) (oN (gS (K:=K) rfl (pv 0) rfl) (pv 5) a0d)))))))),?_⟩
 refine⟨_,rfl,x,C,dx,_,_,rfl,sM _ _ hx,aR.cl,aR.na _ (by decide +kernel),k7 _ _ _ _,g0,_,rfl,.inl (bQ.of (sM _ _ jv)),_,rfl,gv.length,la,left,rfl,by omega,sM _ _ Bq,λma H1 s1 Ja Ov=>?_⟩;rw[k8] at Ov;have nmh:ma≠ha:=fh Fo Ja;have nmw:ma≠wa:=fh ui Ja;have adS:=mI Ov nmh nmw;have ZG:bp (mn H ha wa) (mn H1 ha wa):=j6 s1;refine⟨_,rfl,ta,rfl,⟨_,bQ.of (s1 _ _ (sM _ _ zL))⟩,gy (K:=K) (a:=ta) (xs:=ts.map V.int) (λi σ H3=>Rz λ(y1:Option V) (y2:Option V)=>Ig (σ=[some (.ref x),some (.int hand),some (.ref ta),some (.ref la),some (.ref ma),y1,y2]) (bp (mn H1 ha wa) H3) (H3 ha=some (.lst ((im G.length λp=>if p∈ts.take i then hand else hf p).map V.int))) (H3 wa=some (.lst (om G.length λp=>if p∈ts.take i then zP G hand left p else wf p))))
  ⟨_,_,rfl,kX,s1 _ _ Fo,s1 _ _ ui⟩ (λi σ H3 _ h=>?_) (λi y σ H3 hi h=>?_) (λσ H3 h=>?_)⟩
 ·obtain⟨_,_,_,s3,_⟩:=h;exact bQ.of (s3 _ _ (ZG _ _ zL))
 ·obtain⟨y1,y2,rfl,s3,IU,Bu⟩:=h;obtain⟨z,hz,rfl⟩:=eG hi;obtain⟨⟨z0,z1⟩,hzl,hzw⟩:=hts z (aq hz);have Oz:=ZG _ _ hx;obtain⟨row,jC⟩:∃ row,G[z.toNat]?=some row:=⟨G[z.toNat]'(by omega),by simp⟩
  obtain⟨t,wr,p1,p2,p3⟩:=eJ z.toNat row jC;have RP:=vg jC;have Xn:=xW jC;obtain⟨w1,w2,w3⟩:=cZ.2 row (aq jC);have Lm:vX gv z=some (.ref t):=lQ z0 p1;refine⟨_,rfl,_,rfl,x,C,dx,_,_,rfl,s3 _ _ Oz,aR.cl,aR.na _ (by decide +kernel),qr _ _ _ _,_,rfl,ha,_,_,z.toNat,rfl,rfl,IU,?_,?_⟩
  ·unfold yI;rw[ag,nB,if_pos z0,if_pos z1]
  have s5:=s3.put Mb (.lst (((im G.length λp=>if p∈ts.take i then hand else hf p).map V.int).set z.toNat (.int hand)));have LO:upd H3 ha (.lst (((im G.length λp=>if p∈ts.take i then hand else hf p).map V.int).set z.toNat (.int hand))) wa=some (.lst (om G.length λp=>if p∈ts.take i then zP G hand left p else wf p)):=by rw[bK (dG G4)];exact Bu
  have Ww:upd H3 ha (.lst (((im G.length λp=>if p∈ts.take i then hand else hf p).map V.int).set z.toNat (.int hand))) ha=some (.lst ((im G.length λp=>if p∈ts.take (i+1) then hand else hf p).map V.int)):=by
   rw[au,pR,Fx z0 z1];congr 3;refine pH λp _ _=>?_
   by_cases c:p=z
   ·subst c;rw[if_pos rfl,if_pos ((cz hz).mpr (.inr rfl))]
   ·rw[if_neg c];have e:(p∈ts.take (i+1))↔p∈ts.take i:=by rw[cz hz];simp[c]
    simp only [e]
  generalize upd H3 ha (.lst (((im G.length λp=>if p∈ts.take i then hand else hf p).map V.int).set z.toNat (.int hand)))=H5 at s5 LO Ww ⊢;have e2:=ZG.trans s5;refine⟨_,rfl,x,C,dx,_,_,rfl,s5 _ _ Oz,aR.cl,aR.na _ (by decide +kernel),k7 _ _ _ _,_,rfl,g0,_,_,_,rfl,rfl,bQ.of (e2 _ _ jv),Lm,t,_,_,_,rfl,rfl,eU.of (e2 _ _ p2),bu (j:=0) rfl,_,rfl,rfl,?_⟩;have last:∀ (o:Option Int) (H6:Hp),bp (mn H1 ha wa) H6->H6 ha=some (.lst ((im G.length λp=>if p∈ts.take (i+1) then hand else hf p).map V.int))->o=zP G hand left z->bp (mn H1 ha wa) (upd H6 wa (.lst ((om G.length λp=>if p∈ts.take i then zP G hand left p else wf p).set z.toNat (oW o))))/\upd H6 wa (.lst ((om G.length λp=>if p∈ts.take i then zP G hand left p else wf p).set z.toNat (oW o))) ha=some (.lst ((im G.length λp=>if p∈ts.take (i+1) then hand else hf p).map V.int))/\upd H6 wa (.lst ((om G.length λp=>if p∈ts.take i then zP G hand left p else wf p).set z.toNat (oW o))) wa=some (.lst (om G.length λp=>if p∈ts.take (i+1) then zP G hand left p else wf p)):=λo H6 s6 h6 eo=>by
   refine⟨s6.put Mc _,by rw[bK G4];exact h6,?_⟩;rw[au,Mt z0 z1];congr 2;refine DT λp _ _=>?_
   by_cases c:p=z
   ·subst c;rw[if_pos rfl,if_pos ((cz hz).mpr (.inr rfl)),eo]
   ·rw[if_neg c];have e:(p∈ts.take (i+1))↔p∈ts.take i:=by rw[cz hz];simp[c]
    simp only [e]
  refine⟨_,rfl,_,rfl,?_⟩;refine fB (λc=>?_) (λc=>?_)
  ·have hh:hd G z=hand:=by have:=of_decide_eq_true c;injection this with e;rw[RP];exact e
   obtain⟨v9,k1,k2,_,_⟩:=GX hzl hh hzw;rw[Xn] at k1;refine⟨_,rfl,x,C,dx,_,_,rfl,s5 _ _ Oz,aR.cl,aR.na _ (by decide +kernel),k7 _ _ _ _,_,rfl,g0,_,_,_,rfl,rfl,bQ.of (e2 _ _ jv),Lm,t,_,_,_,rfl,rfl,eU.of (e2 _ _ p2),bu (j:=2) rfl,_,rfl,wr,ma,row.2.2,G.length,_,v9,rfl,e2 _ _ p3,s5 _ _ adS,w1,w2,w3,k1,λH6 s6=>?_⟩;refine⟨_,rfl,x,C,dx,_,_,rfl,s6 _ _ (s5 _ _ Oz),aR.cl,aR.na _ (by decide +kernel),sS _ _ _ _,_,rfl,wa,_,_,z.toNat,rfl,rfl,s6 _ _ LO,?_,?_⟩
   ·unfold yI;rw[nI,if_pos z0,if_pos z1]
   ·obtain⟨l1,l2,l3⟩:=last (some v9) H6 (s5.trans s6) (s6 _ _ Ww) k2.symm;exact⟨_,_,rfl,l1,l2,l3⟩
  ·have hh:¬ hd G z=hand:=λe=>c (decide_eq_true (by rw[← e,RP]));refine⟨_,rfl,x,C,dx,_,_,rfl,s5 _ _ Oz,aR.cl,aR.na _ (by decide +kernel),sS _ _ _ _,_,rfl,wa,_,_,z.toNat,rfl,rfl,LO,?_,?_⟩
   ·unfold yI;rw[nI,if_pos z0,if_pos z1]
   ·obtain⟨l1,l2,l3⟩:=last none H5 s5 Ww (a0v λz=>hh z.2).symm;exact⟨_,_,rfl,l1,l2,l3⟩
 ·obtain⟨y1,y2,rfl,s3,IU,Bu⟩:=h;rw[ag,aY] at IU Bu;exact q H3 (ZG.trans s3) IU Bu
def rS:Sp:=λvs H Q _=>Rz λ(lw:V) (R:List (List Int))=>Ih (vs=[lw]) (hU (hU iA) H R lw) (R.flatten.length<=63) (R.flatten.Nodup) (∀ (p:ak) (ns:List Int) (H':Hp),bp H H'->H p=none->H' p=some (.lst (ns.map V.int))->ns.Pairwise (·<·)->(∀ z,z∈ns↔z∈R.flatten)->ns.length<=63->Q (.ref p) H')
theorem Ju (F:aX K mg "places_of" lx ["layers"]) (T:Txt mg):Dn P w K mg base "places_of" 1 ["layers"] rS:=by
 have sc:=BU;refine F.ok sc (λvs H Q E h=>?_) (λf di A outer s H vs Q E hr h=>?_)
 ·obtain⟨_,_,rfl,_⟩:=h;rfl
 obtain⟨lw,R,rfl,⟨va,Am,rfl,hv,QD⟩,Kb,Dp,q⟩:=h;refine⟨_,(av (bJ (i:=1) sc.nd rfl (aW rfl) (eP ar))
   (av (dW bh rfl (c8 (pv 0)) (bZ (i:=2) sc.nd rfl (aW rfl))
   (aC (da (lj bx PySem.F.slot_list_extend PySem.F.type_list_extend Jo (pv 1) (aa (pv 2) ar)))))
   (aC (cf (bE (oF) rfl T.sN ji (aa (pv 1) ar)))))),?_⟩
 refine⟨bv _,λpa Ke=>?_⟩;have s1:=ay Ke (.lst []);have Yh:upd H pa (.lst []) pa=some (.lst []):=au;generalize upd H pa (.lst [])=H1 at s1 Yh ⊢;have hvl:=QD.length;refine⟨_,rfl,va,rfl,⟨_,bQ.of (s1 _ _ hv)⟩,gy (K:=K) (a:=va) (xs:=Am) (λi σ H3=>∃ y:Option V,σ=[some (.ref va),some (.ref pa),y]/\bp H H3/\H3 pa=some (.lst ((R.take i).flatten.map V.int)))
  ⟨_,rfl,s1,Yh⟩ (λi σ H3 _ h=>?_) (λi y σ H3 hi h=>?_) (λσ H3 h=>?_)⟩
 ·obtain⟨_,_,s3,_⟩:=h;exact bQ.of (s3 _ _ hv)
 ·obtain⟨y,rfl,s3,h3⟩:=h;obtain⟨L,hL,rx⟩:=Paired.ta QD hi;obtain⟨ca,rfl,XF⟩:=mi.mp rx;have tf:(R.take i).flatten.length+L.length<=R.flatten.length:=by
   have e:R=R.take i++L::R.drop (i+1):=by
    have yb:=af.mp hL;rw[← yb.2,← gJ yb.1,fb]
   conv=>rhs;rw[e]
   rw[fU,gP,aO,aO];omega
  refine⟨_,rfl,.inl ⟨rfl,_,bQ.of h3⟩,_,rfl,pa,ca,_,_,rfl,rfl,h3,s3 _ _ XF,a0b (m:=1000) (by rw[ag,ag];omega),?_⟩;refine⟨_,rfl,s3.put Ke _,?_⟩;rw[au,bw,hL,fU,aN];simp
 ·obtain⟨y,rfl,s3,h3⟩:=h;rw[← hvl,aY] at h3;refine⟨_,rfl,pa,R.flatten,rfl,bQ.of h3,by omega,λp ns hp UD Ft=>?_⟩;refine q p ns _ (s3.trans (ay hp _)) (s3.free hp) au ?_ (λz=>UD.mem_iff) (by rw[UD.length_eq];exact Kb);have LC:ns.Nodup:=UD.nodup_iff.mpr Dp;exact (Ft.and LC).imp λh=>by omega
def Nf (C:ak) (n:Nat):Sp:=λvs H Q _=>SW λ(x:ak) (v:V) (r:ak) (as:List ak) (ha:ak) (wa:ak) (G:List Row) (pa:ak) (ps:List Int) (hf:Int->Int) (wf:Int->Option Int)=>Rt (vs=[.ref x,.ref pa]) (ha≠wa) (AV C (mn H ha wa) x v r as ha wa G) (ET G) (WZ G) (mn H ha wa pa=some (.lst (ps.map V.int))) (ps.Pairwise (·<·)) ((∀ z∈ps,0<=z/\z<G.length)) (Tot G (·∈ps)) ((∀ z∈ps,0<=rk G z/\rk G z<n)) (H ha=some (.lst ((im G.length hf).map V.int))) (H wa=some (.lst (om G.length wf))) (∀ (u:V) (H':Hp) (Ka:Int->Int) (wf':Int->Option Int),bp (mn H ha wa) H'->H' ha=some (.lst ((im G.length Ka).map V.int))->H' wa=some (.lst (om G.length wf'))->RK G (·∈ps) Ka wf'->(∀ p,p ∉ ps->Ka p=hf p/\wf' p=wf p)->Q u H')
def spC (C:ak):Nat->Sp
 | 0=>λ_ _ _ _=>False
 | n+1=>Nf C n
theorem a0F {ps:List Int} (h:ps.Pairwise (·<·)) {n:Nat} (hr:∀ z∈ps,0<=z/\z<n):ps.length<=n:=by
 have:=gX ps (ow n) (pQ h) λx hx=>gQ.mpr (hr x hx);rw[Hq] at this;exact this
inductive SV (x pa pc ha wa:ak) (top hand:Int) (G:List Row) (ps:List Int) (hf:Int->Int) (wf:Int->Option Int) (H3:Hp) (m:Nat) (σ:St) (Hx:Hp):Prop
 | mk (la:ak) (ls:List Int) (Ka:Int->Int) (wf':Int->Option Int) (pv:List V) (y1 y2 y3 y4 y5:Option V) (w1:σ=[some (.ref x),some (.ref pa),some (.int top),some (.int hand),some (.ref pc),some (.ref la),y1,y2,y3,y4,y5]) (w2:bp (mn H3 ha wa) Hx) (w3:Hx ha=some (.lst ((im G.length Ka).map V.int))) (w4:Hx wa=some (.lst (om G.length wf'))) (w5:Hx pc=some (.lst pv)) (w6:pv.length+ls.length<=ps.length) (w7:Hx la=some (.lst (ls.map V.int))) (w8:la≠ha) (w9:la≠wa) (w10:la≠pc) (w11:ls.Pairwise (·<·)) (w12:∀ p∈ls,p∈ps) (w13:Tot G (·∈ls)) (w14:∀ p∈ls,hd G p=1-hand->∀ w∈wy G p,w∈ps->w∈ls) (w15:∀ p∈ps,p ∉ ls->Ka p=1-hand) (w16:x9 G (·∈ps) wf' (1-hand) (λp=>p∈ps/\p ∉ ls)) (w17:∀ p,p ∉ ps->Ka p=hf p/\wf' p=wf p) (w18:m=ls.length):SV x pa pc ha wa top hand G ps hf wf H3 m σ Hx
theorem Vj {n:Nat} (F:oA K C "cut" "Cutter.cut" fL ["self","part"]) (T:Txt mg) (aR:ClsAt K mg "Cutter" C u7) (kR:Cd P w K mg base C "pull" 6 ["self","hand","goal","left"] (B2 C)) (iY:Cd P w K mg base C "without" 4 ["self","left","places"] (u4 C)) (kQ:Cd P w K mg base C "give" 5 ["self","hand","layers"] (F5 C)) (jE:Cd P w K mg base C "give_tops" 4 ["self","hand","tops","left"] (F8 C)) (mZ:Dn P w K mg base "places_of" 1 ["layers"] rS)
  (ox:Cd P w K mg base C "cut" (6+n) ["self","part"] (spC C n)):Cd P w K mg base C "cut" (6+n+1) ["self","part"] (spC C (n+1)):=by
 have sc:=yP;refine F.ok sc (λvs H Q E h=>?_) (λf di A outer s H vs Q E hr h=>?_)
 ·obtain⟨_,_,_,_,_,_,_,_,_,_,_,rfl,_⟩:=h;rfl
 obtain⟨x,v,r,as,ha,wa,G,pa,ps,hf,wf,rfl,G4,hO,cZ,Bo,Ke,Ft,WA,adf,Fv,Fo,ui,q⟩:=h;obtain⟨⟨dx,hx⟩,hG,hC⟩:=id hO;obtain⟨g0,gv,rfl,jv,k8,eJ⟩:=dZ hG;have GL:=cZ.1;have sM:bp (mn H ha wa) H:=kX;have vJ:ps.length<=63:=b7 (a0F Ft WA) GL;have rank:∀ z∈ps,∃ t row wr,vX gv z=some (.ref t)/\mn H ha wa t=some (.tup [.int row.1,.int row.2.1,.ref wr])/\rk G z=row.2.1/\G[z.toNat]?=some row:=λz hz=>by
  obtain⟨z0,z1⟩:=WA z hz;obtain⟨row,jC⟩:∃ row,G[z.toNat]?=some row:=⟨G[z.toNat]'(by omega),by simp⟩
  obtain⟨t,wr,p1,p2,p3⟩:=eJ z.toNat row jC;exact⟨t,row,wr,lQ z0 p1,p2,Sl jC,jC⟩
 refine⟨_,(av (dC (jm (tI (pv 1) (by intro _;rfl)))
   (aC (cf (gh (aa aA (aa (eP ar) (aa (eP ar) ar))))))
   cr)
   (av (bJ (i:=2) sc.nd rfl (oo rfl) (bE (zy rfl) rfl T.C4 jU (aa (tE (aG fL) ["self","part","top","hand","pieces","left","tops","aside","others","lost","layers"] ["place","self"] 1 [0] (c8 (pv 1)) (λ_ _ _ _ _ _=>(gB (show cO (["place","self"]:List bc) by decide +kernel) rfl rfl)) (λ_ _ _ _ _ _=>iM) (λ_ _ _ _ _ _=>(bL (jM (K:=K) rfl) (bL (m5 (K:=K) rfl) (gS (K:=K) rfl (pv 1) rfl) (pv 0) (λ_ _=>rfl)) aA (λ_ _=>rfl)))) ar)))
   (av (bJ (i:=3) sc.nd rfl (oo rfl) (bV fm (pv 2) aA))
   (av (bJ (i:=4) sc.nd rfl (aW rfl) (eP ar))
   (av (bJ (i:=5) sc.nd rfl (aW rfl) (pv 1))
   (av (xK bh (fC lf)
   (av (vn (i:=6) (aG fL) ["self","part","top","hand","pieces","left","tops","aside","others","lost","layers"] ["place","self","top"] 1 [0,2] sc.nd rfl rfl (c8 (pv 5)) (λ_ _ _ _ _ _=>(gB (show cO (["place","self","top"]:List bc) by decide +kernel) rfl rfl)) (λ_ _ _ _ _ _=>(ng (cg iR (bL (jM (K:=K) rfl) (bL (m5 (K:=K) rfl) (gS (K:=K) rfl (pv 1) rfl) (pv 0) (λ_ _=>rfl)) aA (λ_ _=>rfl)) (pv 2) (cE _)))) (λ_ _ _ _ _ _=>(pv 0)))
   (av (bJ (i:=7) sc.nd rfl (aW rfl) (oK aR.cl kR hr (pv 0) (aa (pv 3) (aa (pv 6) (aa (pv 5) ar))) (hk:=by omega)))
   (av (bJ (i:=8) sc.nd rfl (aW rfl) (oK aR.cl iY hr (pv 0) (aa (pv 5) (aa (cx mZ hr (aa (pv 7) ar) (hk:=by omega)) ar)) (hk:=by omega)))
   (av (da (oK aR.cl ox hr (pv 0) (aa (pv 8) ar) (hk:=by omega)))
   (av (vn (i:=9) (aG fL) ["self","part","top","hand","pieces","left","tops","aside","others","lost","layers"] ["place","self","hand"] 1 [0,3] sc.nd rfl rfl (c8 (pv 8)) (λ_ _ _ _ _ _=>(gB (show cO (["place","self","hand"]:List bc) by decide +kernel) rfl rfl)) (λ_ _ _ _ _ _=>(ng (cg vk (bL (m5 (K:=K) rfl) (gS (K:=K) rfl (pv 1) rfl) (pv 0) (λ_ _=>rfl)) (pv 2) (cE _)))) (λ_ _ _ _ _ _=>(pv 0)))
   (av (dC (jm (tI (pv 9) (by intro _;rfl)))
   (aC MN)
   cr)
   (av (bJ (i:=10) sc.nd rfl (aW rfl) (oK aR.cl kR hr (pv 0) (aa (bV lK aA (pv 3)) (aa (pv 9) (aa (pv 5) ar))) (hk:=by omega)))
   (av (da (oK aR.cl kQ hr (pv 0) (aa (bV lK aA (pv 3)) (aa (pv 10) ar)) (hk:=by omega)))
   (av (da (lj bx bH bI eH (pv 4) (aa (cx mZ hr (aa (pv 10) ar) (hk:=by omega)) ar)))
   (aC (bJ (i:=5) sc.nd rfl (aW rfl) (oK aR.cl iY hr (pv 0) (aa (pv 5) (aa (bL (m5 (K:=K) rfl) (pv 4) (Hg B7 aA) (λ_ _=>rfl)) ar)) (hk:=by omega))))))))))))))
   (av (da (oK aR.cl jE hr (pv 0) (aa (pv 3) (aa (pv 6) (aa (pv 5) ar))) (hk:=by omega)))
   (av (da (oK aR.cl kQ hr (pv 0) (aa (pv 3) (aa (pv 7) ar)) (hk:=by omega)))
   (aC (cf (gh (aa (pv 3) (aa (pv 4) (aa (pv 5) ar)))))))))))))),?_⟩
 refine fo λE1 q1=>?_;refine⟨_,rfl,_,.inl ⟨_,bQ.of (sM _ _ Ke),rfl⟩,?_⟩;refine fB (λc=>?_) (λc=>?_)
 ·have hps:ps=[]:=by cases ps with
   | nil=>rfl
   | cons _ _=>cases c
  subst q1;refine⟨bv _,λl1 qX=>⟨bv _,λl2 o6=>⟨(by show 3<=aJ;decide),λt ht=>?_⟩⟩⟩;have sA:=(ay qX (.lst [])).trans ((ay o6 (.lst [])).trans (ay ht (.tup [V.int 0,.ref l1,.ref l2])));refine q _ _ hf wf (sM.trans sA) (sA _ _ Fo) (sA _ _ ui) ⟨λp hp=>?_,λh _=>x9.empty λp hp=>?_⟩ λp _=>⟨rfl,rfl⟩
  ·rw[hps] at hp;cases hp
  ·have:=hp.1;rw[hps] at this;cases this
 have ad5:ps≠[]:=λz=>c (by rw[z];rfl);refine fq q1 ?_;refine fo λE2 q2=>?_;refine⟨_,rfl,pa,rfl,⟨_,bQ.of (sM _ _ Ke)⟩,cY (K:=K) (a:=pa) (xs:=ps.map V.int) (λk ys H3=>H3=H/\ys=((ps.take k).map (rk G)).map V.int) ⟨rfl,rfl⟩ (a0b (m:=1000) (by rw[ag];omega)) (λk ys H3 hk h=>?_) (λk y ys H3 hk h=>?_) (λys H3 h ka Uk=>?_)⟩
 ·obtain⟨rfl,rfl⟩:=h;exact⟨bQ.of (sM _ _ Ke),by rw[ag,ag];simp;omega⟩
 ·obtain⟨rfl,rfl⟩:=h;obtain⟨z,hz,rfl⟩:=eG hk;obtain⟨t,row,wr,p1,p2,p3,_⟩:=rank z (aq hz);refine mB ?_;refine⟨_,rfl,x,C,dx,_,_,rfl,sM _ _ hx,aR.cl,aR.na _ (by decide +kernel),k7 _ _ _ _,_,rfl,g0,_,_,_,rfl,rfl,bQ.of (sM _ _ jv),p1,t,_,_,_,rfl,rfl,eU.of (sM _ _ p2),bu (j:=1) rfl,rfl,?_⟩;rw[bw,hz,aN,aN];show _=_++[V.int (rk G z)];rw[p3]
 obtain⟨rfl,rfl⟩:=h;rw[ag,aY];refine⟨ka,_,rfl,bQ.of au,λz=>ad5 (List.map_eq_nil_iff.mp z),λtop hM LA=>?_⟩;have hmx:∀ p∈ps,rk G p<=top:=λp hp=>LA _ (aM.mpr ⟨p,hp,rfl⟩);obtain⟨Zx,R6,Yo⟩:=aM.mp hM;have sk:=ay Uk (.lst ((ps.map (rk G)).map V.int));have Ue:=sk _ _ Fo;have UO:=sk _ _ ui;have sM1:=sM.trans sk;generalize upd H3 ka (.lst ((ps.map (rk G)).map V.int))=H1 at sk Ue UO sM1 ⊢;refine fq q2 ?_;refine fo λE3 q3=>?_;refine⟨_,rfl,_,_,rfl,rfl,(show (0:Int)<2 by decide),?_⟩;have Lu:top % 2=0\/top % 2=1:=by
  have:=eS top (show (2:Int)≠0 by decide);have:=dM top (show (0:Int)<2 by decide);omega
 obtain⟨hand,hhd⟩:∃ hand,top % 2=hand:=⟨_,rfl⟩
 rw[hhd] at Lu;refine fq q3 ?_;refine fo λE4 q4=>?_;refine⟨bv _,λpc hpc=>?_⟩;have s2:=ay hpc (.lst []);have Yi:upd H1 pc (.lst []) pc=some (.lst []):=au;have XY:=s2 _ _ Ue;have YF:=s2 _ _ UO;have Mi:pc≠ha:=fh Ue hpc;have Mj:pc≠wa:=fh UO hpc;have Yj:mn H3 ha wa pc=none:=by rw[pT Mi Mj];exact sk.free hpc
 have sM2:=sM1.trans s2;generalize upd H1 pc (.lst [])=H2 at s2 Yi XY YF sM2 ⊢;refine fq q4 ?_;refine fo λE5 q5=>?_;refine⟨_,rfl,?_⟩;obtain⟨ae7,ae8⟩:=G1 Ke;have ae9:pa≠pc:=λz=>by rw[z,Yj] at Ke;cases Ke
 refine fq q5 ?_;refine fo λE6 q6=>?_;refine⟨SV x pa pc ha wa top hand G ps hf wf H3,
  ⟨_,pa,ps,hf,wf,[],none,none,none,none,none,(by rw[← hhd];rfl),sM2,XY,YF,Yi,by simp,sM2 _ _ Ke,ae7,ae8,ae9,Ft,λp hp=>hp,adf,λp _ _ w _ hw=>hw,λp h1 h2=>(h2 h1).elim,x9.empty λp hp=>hp.2 hp.1,λp _=>⟨rfl,rfl⟩,rfl⟩,?_⟩
 rintro m σ Hx ⟨la,ls,Ka,wf',pv,y1,y2,y3,y4,y5,rfl,sx,hxh,hxw,hxp,hpv,WK,Y4,Y6,nlp,Yb,vH,hlT,vi,hDh,hDW,Dr,rfl⟩;have Us:ls.length<=63:=by omega
 have IZ:∀ z∈ls,0<=z/\z<G.length:=λz hz=>WA z (vH z hz);refine⟨true,rfl,?_⟩;refine mF ?_;refine⟨λσ' H'=>∃ m',m'<ls.length/\SV x pa pc ha wa top hand G ps hf wf H3 m' σ' H',?_,?_⟩
 ·exact λσ' H' h=>h
 refine fo λE7 q7=>?_;refine⟨_,rfl,la,rfl,⟨_,bQ.of WK⟩,cY (K:=K) (a:=la) (xs:=ls.map V.int) (λk ys H4=>H4=Hx/\ys=((ls.take k).filter λz=>decide (rk G z=top)).map V.int) ⟨rfl,rfl⟩ (a0b (m:=1000) (by rw[ag];omega)) (λk ys H4 hk h=>?_) (λk y ys H4 hk h=>?_) (λys H4 h ta zL=>?_)⟩
 ·obtain⟨rfl,rfl⟩:=h;exact⟨bQ.of WK,by rw[ag];exact b7 (dA _ _) (by simp;omega)⟩
 ·obtain⟨rfl,rfl⟩:=h;obtain⟨z,hz,rfl⟩:=eG hk;obtain⟨t,row,wr,p1,p2,p3,_⟩:=rank z (vH z (aq hz));refine⟨_,rfl,x,C,dx,_,_,rfl,sx _ _ hx,aR.cl,aR.na _ (by decide +kernel),k7 _ _ _ _,_,rfl,g0,_,_,_,rfl,rfl,bQ.of (sx _ _ jv),p1,t,_,_,_,rfl,rfl,eU.of (sx _ _ p2),bu (j:=1) rfl,_,rfl,rfl,_,rfl,?_⟩;have eb:decide (V.int row.2.1=V.int top)=decide (rk G z=top):=by
   rw[p3,eM,decide_eq_true_eq,decide_eq_true_eq];exact⟨λe=>by injection e,λe=>by rw[e]⟩
  rw[eb];refine fB (λc4=>?_) (λc4=>?_)
  ·refine⟨_,rfl,rfl,?_⟩;rw[bw,hz,cV,aN];show _=_++(iG (λz=>decide (rk G z=top)) [z]).map V.int;rw[bq (p:=λz=>decide (rk G z=top)) c4];rfl
  ·refine⟨rfl,?_⟩;rw[bw,hz,cV,aN];show _=_++(iG (λz=>decide (rk G z=top)) [z]).map V.int;rw[bz (p:=λz=>decide (rk G z=top)) c4];simp
 obtain⟨rfl,rfl⟩:=h;rw[ag,aY];obtain⟨ts,hts⟩:∃ ts,ts=ls.filter λz=>decide (rk G z=top):=⟨_,rfl⟩
 rw[← hts];have xR:∀ z,z∈ts↔z∈ls/\rk G z=top:=λz=>by rw[hts,bF,decide_eq_true_eq]
 have s4:=ay zL (.lst (ts.map V.int));have UH:upd H4 ta (.lst (ts.map V.int)) ta=some (.lst (ts.map V.int)):=au;have nth:ta≠ha:=fh hxh zL;have ntw:ta≠wa:=fh hxw zL;have sx4:=sx.trans s4;have R1:=s4 _ _ hxh;have Cp:=s4 _ _ hxw;have Up:=s4 _ _ WK;have hp4:=s4 _ _ hxp;generalize upd H4 ta (.lst (ts.map V.int))=H5 at s4 UH sx4 R1 Cp Up hp4 ⊢;refine fq q7 ?_;refine fo λE8 q8=>?_;refine⟨_,rfl,x,dx,_,rfl,sx4 _ _ hx,oG _ _ _ _ (by decide +kernel) (by decide +kernel) (by decide +kernel) (by decide +kernel),_,rfl,_,rfl,_,rfl,x,_,r,as,ha,wa,G,hand,ta,la,ts,ls,rfl,hO.up sx4,cZ,UH,Up,λva H6 s6 hva=>?_⟩;have GM:=rO (G:=G) (hand:=hand) (ins:=λx=>decide (x∈ls)) (want:=λx=>decide (x∈ts));have RV:=LW (G:=G) (hand:=hand) (ins:=λx=>decide (x∈ls)) (want:=λx=>decide (x∈ts)) GL;generalize kM G hand (λx=>decide (x∈ls)) (λx=>decide (x∈ts))=RA at hva GM RV;have YC:hU (hU iA) (mn H6 ha wa) RA (.ref va):=(dO (dO fg)).up (G3 R1 Cp) hva;have sx6:=sx4.trans s6;have hh6:=s6 _ _ R1;have hw6:=s6 _ _ Cp;have hl6:=s6 _ _ Up;have hp6:=s6 _ _ hp4;have ac5:RA.flatten.length<=63:=by
  have:=GM.li.len;rw[fM] at this;omega
 refine fq q8 ?_;refine fo λE9 q9=>?_;refine⟨_,rfl,x,dx,_,rfl,sx6 _ _ hx,oG _ _ _ _ (by decide +kernel) (by decide +kernel) (by decide +kernel) (by decide +kernel),_,rfl,_,rfl,_,RA,rfl,(dO (dO fg)).up kX YC,ac5,GM.nd,λna Vc H7 s7 _ hna akd Uw hnl=>?_⟩;have sx7:=sx6.trans s7;have hh7:=s7 _ _ hh6;have hw7:=s7 _ _ hw6;have Wx:=s7 _ _ hl6;have hp7:=s7 _ _ hp6;refine⟨x,_,r,as,ha,wa,G,la,na,ls,Vc,rfl,hO.up sx7,cZ,Wx,hna,IZ,Us,λoa H8 s8 Ux hoa=>?_⟩;obtain⟨os,hos⟩:∃ os,os=ls.filter λz=>!decide (z∈Vc):=⟨_,rfl⟩
 rw[← hos] at hoa;have sx8:=sx7.trans s8;have hh8:=s8 _ _ hh7;have hw8:=s8 _ _ hw7;have R5:=s8 _ _ Wx;have hp8:=s8 _ _ hp7;have noh:oa≠ha:=fh hh7 Ux;have now:oa≠wa:=fh hw7 Ux;have nop:oa≠pc:=fh hp7 Ux;have pW:∀ p,p∈os↔p∈ls/\∀ k,¬ lv RA k p:=λp=>by
  rw[hos,bF];have:(!decide (p∈Vc))=true↔∀ k,¬ lv RA k p:=by
   rw[kP,decide_eq_false_iff_not,Uw,tz];exact⟨λz k hk=>z ⟨k,hk⟩,λz ⟨k,hk⟩=>z k hk⟩
  rw[this]
 obtain⟨afb,Zq⟩:=G9 GM IZ hlT pW;have YY:∀ p,lv RA 0 p↔p∈ls/\rk G p=top:=λp=>by
  constructor
  ·intro h;have:=(GM.zero (GM.rg h)).mp h;exact (xR p).mp (of_decide_eq_true this.2)
  ·intro h;exact (GM.zero (IZ p h.1)).mpr ⟨decide_eq_true h.1,decide_eq_true ((xR p).mpr h)⟩
 have ork:∀ z∈os,0<=rk G z/\rk G z<top:=λz hz=>by
  obtain⟨a,b⟩:=(pW z).mp hz;have h1:=hmx z (vH z a);refine⟨(Fv z (vH z a)).1,?_⟩;rcases OO h1 with h | h
  ·exact h
  ·exact (b 0 ((YY z).mpr ⟨a,h⟩)).elim
 refine fq q9 ?_;refine fo λE10 q10=>?_;refine⟨_,rfl,x,dx,_,rfl,sx8 _ _ hx,oG _ _ _ _ (by decide +kernel) (by decide +kernel) (by decide +kernel) (by decide +kernel),_,rfl,?_⟩;obtain⟨n',rfl⟩:∃ n',n=n'+1:=⟨n-1,by
  have h1:=Fv Zx R6;omega⟩
 have Oy:top<((n'+1:Nat):Int):=by rw[← Yo];exact (Fv Zx R6).2
 refine⟨x,_,r,as,ha,wa,G,oa,os,Ka,wf',rfl,G4,hO.up (pU sx8),cZ,Bo,mI hoa noh now,by rw[hos];exact Yb.filter _,λz hz=>IZ z ((pW z).mp hz).1,afb,λz hz=>⟨(ork z hz).1,by have:=(ork z hz).2;omega⟩,hh8,hw8,λu H9 yF Ct s9 hh9 YE Dl tf=>?_⟩;have sx9:bp (mn H3 ha wa) H9:=(pU sx8).trans s9;have hl9:=s9 _ _ (mI R5 Y4 Y6);have hp9:=s9 _ _ (by rw[pT Mi Mj];exact hp8);have ho9:=s9 _ _ (mI hoa noh now);have aeh:H9 ta=some (.lst (ts.map V.int)):=s9 _ _ (mI ((s6.trans (s7.trans s8)) _ _ UH) nth ntw);have aen:hU (hU iA) (mn H9 ha wa) RA (.ref va):=(dO (dO fg)).up ((j6 (s7.trans s8)).trans (pU s9)) YC;refine fq q10 ?_;refine fo λE11 q11=>?_;refine⟨_,rfl,oa,rfl,⟨_,bQ.of ho9⟩,cY (K:=K) (a:=oa) (xs:=os.map V.int) (λk ys HA=>HA=H9/\ys=((os.take k).filter λz=>!decide (V.int (yF z)=V.int hand)).map V.int) ⟨rfl,rfl⟩ (a0b (m:=1000) (by
   have:os.length<=ls.length:=by rw[hos];exact dA _ _
   rw[ag];omega)) (λk ys HA hk h=>?_) (λk y ys HA hk h=>?_) (λys HA h lo hlo=>?_)⟩
 ·obtain⟨rfl,rfl⟩:=h;rw[ag] at hk;exact⟨bQ.of ho9,by rw[ag];exact b7 (dA _ _) (by simp;omega)⟩
 ·obtain⟨rfl,rfl⟩:=h;obtain⟨z,hz,rfl⟩:=eG hk;obtain⟨z0,z1⟩:=IZ z ((pW z).mp (aq hz)).1;refine⟨_,rfl,x,C,dx,_,_,rfl,sx9 _ _ hx,aR.cl,aR.na _ (by decide +kernel),qr _ _ _ _,_,rfl,ha,_,_,_,rfl,rfl,bQ.of hh9,lQ z0 (by rw[aI,Ds z0 z1];rfl),_,rfl,rfl,_,rfl,?_⟩;refine fB (λc4=>?_) (λc4=>?_)
  ·refine⟨_,rfl,rfl,?_⟩;rw[bw,hz,cV,aN];show _=_++(iG (λz=>!decide (V.int (yF z)=V.int hand)) [z]).map V.int;rw[bq (p:=λz=>!decide (V.int (yF z)=V.int hand)) c4];rfl
  ·refine⟨rfl,?_⟩;rw[bw,hz,cV,aN];show _=_++(iG (λz=>!decide (V.int (yF z)=V.int hand)) [z]).map V.int;rw[bz (p:=λz=>!decide (V.int (yF z)=V.int hand)) c4];simp
 obtain⟨rfl,rfl⟩:=h;rw[ag,aY];obtain⟨xv,X8⟩:∃ xv,xv=os.filter λz=>!decide (V.int (yF z)=V.int hand):=⟨_,rfl⟩
 rw[← X8];have xu:∀ z,z∈xv↔z∈os/\yF z=1-hand:=λz=>by
  rw[X8,bF,kP,decide_eq_false_iff_not];constructor
  ·rintro⟨a,b⟩;refine⟨a,?_⟩;have:¬ yF z=hand:=λe=>b (by rw[e]);rcases Dl.Bo z a with h | h <;> omega
  ·rintro⟨a,b⟩;exact⟨a,λe=>by injection e with e;omega⟩
 have sA:=ay hlo (.lst (xv.map V.int));have Ut:upd HA lo (.lst (xv.map V.int)) lo=some (.lst (xv.map V.int)):=au;have ala:lo≠ha:=fh hh9 hlo;have alb:lo≠wa:=fh YE hlo;have VJ:=sx9.trans sA;have hhA:=sA _ _ hh9;have hwA:=sA _ _ YE;have hlA:=sA _ _ hl9;have hpA:=sA _ _ hp9;have Yy:=sA _ _ aeh;have YB:hU (hU iA) (mn (upd HA lo (.lst (xv.map V.int))) ha wa) RA (.ref va):=(dO (dO fg)).up (j6 sA) aen;generalize upd HA lo (.lst (xv.map V.int))=HB at sA Ut VJ hhA hwA hlA hpA Yy YB ⊢;have Xu:1-hand=0\/1-hand=1:=by omega
 refine fq q11 ?_;refine fo λE12 q12=>?_;refine⟨_,rfl,_,.inl ⟨_,bQ.of Ut,rfl⟩,?_⟩;refine fB (λc=>?_) (λc=>?_)
 ·-- nothing is lost: al4 is left is V1 adi
  have X6:xv=[]:=by cases xv with
   | nil=>rfl
   | cons _ _=>cases c
  have Zb:∀ p∈os,yF p=hand:=λp hp=>by
   rcases Dl.Bo p hp with h | h
   ·by_cases e:yF p=hand
    ·exact e
    ·have:p∈xv:=(xu p).mpr ⟨hp,by omega⟩;rw[X6] at this;cases this
   ·by_cases e:yF p=hand
    ·exact e
    ·have:p∈xv:=(xu p).mpr ⟨hp,by omega⟩;rw[X6] at this;cases this
  subst q12;refine fq q6 ?_;refine fo λE13 q13=>?_;refine⟨_,rfl,x,dx,_,rfl,VJ _ _ hx,oG _ _ _ _ (by decide +kernel) (by decide +kernel) (by decide +kernel) (by decide +kernel),_,rfl,_,rfl,_,rfl,x,_,r,as,ha,wa,G,hand,ta,la,ts,ls,yF,Ct,rfl,G4,hO.up (pU VJ),cZ,mI Yy nth ntw,mI hlA Y4 Y6,λz hz=>⟨IZ z ((xR z).mp hz).1,((xR z).mp hz).1,hlT z ((xR z).mp hz).1⟩,hhA,hwA,λHC sC hhC hwC=>?_⟩;have VL:bp (mn H3 ha wa) HC:=(pU VJ).trans sC;have aeo:hU (hU iA) (mn HC ha wa) RA (.ref va):=(dO (dO fg)).up (pU sC) YB;refine fq q13 ?_;refine fo λE14 q14=>?_;refine⟨_,rfl,x,dx,_,rfl,VL _ _ hx,oG _ _ _ _ (by decide +kernel) (by decide +kernel) (by decide +kernel) (by decide +kernel),_,rfl,_,rfl,x,_,r,as,ha,wa,G,hand,.ref va,_,_,RA,_,_,rfl,G4,hO.up (pU VL),cZ,aeo,GM,RV,hhC,hwC,λX HD sD hhD hwD hX=>?_⟩;have sxD:bp (mn H3 ha wa) HD:=(pU VL).trans sD;have hpC:=sC _ _ (by rw[pT Mi Mj];exact hpA);refine fq q14 ?_;refine⟨_,rfl,_,rfl,_,rfl,(by show 3<=aJ;decide),λtt Fw=>?_⟩;have sE:=ay Fw (.tup [V.int hand,.ref pc,.ref la]);have inl:∀ {k p},lv RA k p->p∈ls:=λh=>of_decide_eq_true (GM.Cq h);have SA:∀ p,p∈tl RA->p∈ls:=λp hp=>by obtain⟨k,hk⟩:=nL.mp hp;exact inl hk
  have dh:∀ p∈ps,p ∉ ls->(if p∈tl RA then hand else if p∈ts then hand else yF p)=1-hand:=λp h1 h2=>by
   rw[if_neg (λz=>h2 (SA p z)),if_neg (λz=>h2 ((xR p).mp z).1),(tf p (λz=>h2 ((pW p).mp z).1)).1];exact hDh p h1 h2
  have dw:∀ p,p ∉ ls->(if p∈tl RA then X p else if p∈ts then zP G hand ls p else Ct p)=wf' p:=λp h2=>by
   rw[if_neg (λz=>h2 (SA p z)),if_neg (λz=>h2 ((xR p).mp z).1),(tf p (λz=>h2 ((pW p).mp z).1)).2]
  have lh:∀ p∈ls,(if p∈tl RA then hand else if p∈ts then hand else yF p)=hand:=λp hp=>by
   by_cases c1:p∈tl RA
   ·rw[if_pos c1]
   ·rw[if_neg c1]
    by_cases c2:p∈ts
    ·rw[if_pos c2]
    ·rw[if_neg c2];refine Zb p ((pW p).mpr ⟨hp,λk hk=>?_⟩);cases k with
     | zero=>exact c2 ((xR p).mpr ((YY p).mp hk))
     | succ k=>exact c1 (nL.mpr ⟨k,hk⟩)
  have V2:∀ {p},lv RA 0 p->p ∉ tl RA:=λ{p} h z=>by
   obtain⟨k,hk⟩:=nL.mp z;have:=nG GM.nd h hk;omega
  have wS:∀ p k,lv RA (k+1) p->(if p∈tl RA then X p else if p∈ts then zP G hand ls p else Ct p)=X p:=λp k h=>if_pos (nL.mpr ⟨k,h⟩);have w0:∀ p,lv RA 0 p->(if p∈tl RA then X p else if p∈ts then zP G hand ls p else Ct p)=zP G hand ls p:=λp h=>by
   rw[if_neg (V2 h),if_pos ((xR p).mpr ((YY p).mp h))]
  have wo:∀ p∈os,(if p∈tl RA then X p else if p∈ts then zP G hand ls p else Ct p)=Ct p:=λp hp=>by
   obtain⟨_,b⟩:=(pW p).mp hp;rw[if_neg (λz=>by obtain⟨k,hk⟩:=nL.mp z;exact b _ hk),if_neg (λz=>b 0 ((YY p).mpr ((xR p).mp z)))]
  have adt:x9 G (·∈ps) (λp=>if p∈tl RA then X p else if p∈ts then zP G hand ls p else Ct p) hand (·∈ls):=by
   refine x9.final (oth:=os) (wf0:=Ct) (top:=top) GM vH (λp hp ho w hw hP=>vi p hp ?_ w hw hP) (λp hp=>hmx p (vH p hp)) hhd YY pW ?_ (λp h ho=>?_) (λp h ho=>?_) wo (λp k h ho=>?_) (λp k h ho=>?_)
   ·rcases vG Bo (IZ p hp) with z | z <;> rcases Lu with z' | z' <;> omega
   ·exact (Dl.SK hand Lu).congr (λp _=>rfl) λp=>⟨λz=>z.1,λz=>⟨z,Zb p z⟩⟩
   ·obtain⟨a,b,c9⟩:=hlT p (inl h);obtain⟨v9,_,k2,k3,k4⟩:=GX (inl h) ho ⟨a,b,c9⟩;exact⟨v9,by rw[w0 p h];exact k2,k3,k4⟩
   ·show (if p∈tl RA then X p else if p∈ts then zP G hand ls p else Ct p)=none;rw[w0 p h];exact a0v λz=>ho z.2
   ·obtain⟨v9,k1,k2,k3⟩:=GM.pick h ho;obtain⟨z0,z1⟩:=GM.rg h;exact⟨v9,by rw[wS p k h,(hX p z0 z1).1 k ⟨h,ho⟩];exact k1,k2,k3⟩
   ·obtain⟨z0,z1⟩:=GM.rg h;show (if p∈tl RA then X p else if p∈ts then zP G hand ls p else Ct p)=none;rw[wS p k h];exact (hX p z0 z1).2 λk z=>ho z.2
  subst q1 q2 q3 q4 q5;refine q _ _ _ _ (sxD.trans sE) (sE _ _ hhD) (sE _ _ hwD) ⟨λp hp=>?_,λh hh=>?_⟩ λp hp=>?_
  ·by_cases c1:p∈ls
   ·show (if p∈tl RA then hand else if p∈ts then hand else yF p)=0\/_;rw[lh p c1];exact Lu
   ·show (if p∈tl RA then hand else if p∈ts then hand else yF p)=0\/_;rw[dh p hp c1];exact Xu
  ·by_cases c1:h=hand
   ·subst c1;refine adt.congr (λp _=>rfl) λp=>⟨λz=>⟨vH p z,lh p z⟩,λz=>?_⟩
    by_cases c2:p∈ls
    ·exact c2
    ·have:=dh p z.1 c2;have:=z.2;omega
   ·have c2:h=1-hand:=by omega
    subst c2;refine hDW.congr (λp hp=>(dw p hp.2).symm) λp=>⟨λz=>⟨z.1,dh p z.1 z.2⟩,λz=>⟨z.1,λy=>?_⟩⟩
    have:=lh p y;have:=z.2;omega
  ·have h2:p ∉ ls:=λz=>hp (vH p z);obtain⟨k1,k2⟩:=Dr p hp;refine⟨?_,by rw[← k2];exact dw p h2⟩;show (if p∈tl RA then hand else if p∈ts then hand else yF p)=hf p;rw[if_neg (λz=>h2 (SA p z)),if_neg (λz=>h2 ((xR p).mp z).1),(tf p (λz=>h2 ((pW p).mp z).1)).1];exact k1
 have X7:xv≠[]:=λz=>c (by rw[z];rfl);refine fq q12 ?_;refine fo λE15 q15=>?_;refine⟨_,rfl,x,dx,_,rfl,VJ _ _ hx,oG _ _ _ _ (by decide +kernel) (by decide +kernel) (by decide +kernel) (by decide +kernel),_,rfl,_,_,rfl,rfl,_,rfl,_,rfl,x,_,r,as,ha,wa,G,1-hand,lo,la,xv,ls,rfl,hO.up VJ,cZ,Ut,hlA,λvb HC sC Kf=>?_⟩;have GN:=rO (G:=G) (hand:=1-hand) (ins:=λx=>decide (x∈ls)) (want:=λx=>decide (x∈xv));have RW:=LW (G:=G) (hand:=1-hand) (ins:=λx=>decide (x∈ls)) (want:=λx=>decide (x∈xv)) GL;generalize kM G (1-hand) (λx=>decide (x∈ls)) (λx=>decide (x∈xv))=RB at Kf GN RW;have YD:hU (hU iA) (mn HC ha wa) RB (.ref vb):=(dO (dO fg)).up (G3 hhA hwA) Kf;have VL:=VJ.trans sC;have hhC:=sC _ _ hhA;have hwC:=sC _ _ hwA;have hlC:=sC _ _ hlA;have hpC:=sC _ _ hpA;refine fq q15 ?_;refine fo λE16 q16=>?_;refine⟨_,rfl,x,dx,_,rfl,VL _ _ hx,oG _ _ _ _ (by decide +kernel) (by decide +kernel) (by decide +kernel) (by decide +kernel),_,rfl,_,_,rfl,rfl,_,rfl,x,_,r,as,ha,wa,G,1-hand,.ref vb,_,_,RB,yF,Ct,rfl,G4,hO.up (pU VL),cZ,YD,GN,RW,hhC,hwC,λX HD sD hhD hwD hX=>?_⟩;have sxD:bp (mn H3 ha wa) HD:=(pU VL).trans sD;have hlD:=sD _ _ (mI hlC Y4 Y6);have hpD:=sD _ _ (by rw[pT Mi Mj];exact hpC);have aep:hU (hU iA) HD RB (.ref vb):=(dO (dO fg)).up sD YD;have ac6:RB.flatten.length<=63:=by
  have:=GN.li.len;rw[fM] at this;omega
 refine fq q16 ?_;refine fo λE17 q17=>?_;refine⟨_,rfl,.inl ⟨rfl,_,bQ.of hpD⟩,_,rfl,_,RB,rfl,aep,ac6,GN.nd,λnb nbs HE sE adU hnb ajE hbm T7=>?_⟩;have hpE:=sE _ _ hpD;refine⟨pc,_,_,rfl,rfl,hpE,oR (m:=1000) (by omega),?_⟩;have sxF:bp (mn H3 ha wa) (upd HE pc (.lst (pv++[V.ref nb]))):=(sxD.trans sE).put Yj _;have hhF:upd HE pc (.lst (pv++[V.ref nb])) ha=some (.lst ((im G.length λp=>if p∈tl RB then 1-hand else yF p).map V.int)):=by rw[bK (dG Mi)];exact sE _ _ hhD
 have hwF:upd HE pc (.lst (pv++[V.ref nb])) wa=some (.lst (om G.length λp=>if p∈tl RB then X p else Ct p)):=by rw[bK (dG Mj)];exact sE _ _ hwD
 have hlF:upd HE pc (.lst (pv++[V.ref nb])) la=some (.lst (ls.map V.int)):=by rw[bK nlp];exact sE _ _ hlD
 have nnp:nb≠pc:=fh hpD adU;have hnF:upd HE pc (.lst (pv++[V.ref nb])) nb=some (.lst (nbs.map V.int)):=by rw[bK nnp];exact hnb
 have hpF:upd HE pc (.lst (pv++[V.ref nb])) pc=some (.lst (pv++[V.ref nb])):=au;generalize upd HE pc (.lst (pv++[V.ref nb]))=HF at sxF hhF hwF hlF hnF hpF ⊢;refine fq q17 ?_;refine⟨_,rfl,x,dx,_,rfl,sxF _ _ hx,oG _ _ _ _ (by decide +kernel) (by decide +kernel) (by decide +kernel) (by decide +kernel),_,rfl,_,rfl,1,rfl,pc,_,_,_,rfl,rfl,bQ.of hpF,KO _ _,x,_,r,as,ha,wa,G,la,nb,ls,nbs,rfl,hO.up sxF,cZ,hlF,hnF,IZ,Us,λlb HG sG Ur Uq=>?_⟩;obtain⟨Sd,I0⟩:∃ Sd,Sd=ls.filter λz=>!decide (z∈nbs):=⟨_,rfl⟩
 rw[← I0] at Uq;have FB:∀ p,p∈Sd↔p∈ls/\∀ k,¬ lv RB k p:=λp=>by
  rw[I0,bF];have:(!decide (p∈nbs))=true↔∀ k,¬ lv RB k p:=by
   rw[kP,decide_eq_false_iff_not,hbm,tz];exact⟨λz k hk=>z ⟨k,hk⟩,λz ⟨k,hk⟩=>z k hk⟩
  rw[this]
 obtain⟨aeX,YW⟩:=G9 GN IZ hlT FB;have inl:∀ {k p},lv RB k p->p∈ls:=λh=>of_decide_eq_true (GN.Cq h);have lb0:∀ p,lv RB 0 p↔p∈xv:=λp=>by
  constructor
  ·intro h;exact of_decide_eq_true ((GN.zero (GN.rg h)).mp h).2
  ·intro h;have hl:=((pW p).mp ((xu p).mp h).1).1;exact (GN.zero (IZ p hl)).mpr ⟨decide_eq_true hl,decide_eq_true h⟩
 have SA:∀ p,p∈tl RB->p∈ls:=λp hp=>by obtain⟨k,hk⟩:=nL.mp hp;exact inl hk
 have V2:∀ {p},lv RB 0 p->p ∉ tl RB:=λ{p} h z=>by
  obtain⟨k,hk⟩:=nL.mp z;have:=nG GN.nd h hk;omega
 have iz:Sd.length<ls.length:=by
  cases e:xv with
  | nil=>exact absurd e X7
  | cons z zs =>
   have hz:z∈xv:=by rw[e];exact aE ..
   have hzl:=((pW z).mp ((xu z).mp hz).1).1;refine Nat.lt_of_le_of_ne (by rw[I0];exact dA _ _) λhe=>?_;rw[I0,List.length_filter_eq_length_iff] at he;have h1:z∈Sd:=by rw[I0];exact bF.mpr ⟨hzl,he z hzl⟩
   exact ((FB z).mp h1).2 0 ((lb0 z).mpr hz)
 have aev:=(Dl.SK (1-hand) Xu).congr (wf':=Ct) (D':=(·∈xv)) (λp _=>rfl) λp=>⟨λz=>(xu p).mpr z,λz=>(xu p).mp z⟩
 have dn:∀ p,(p∈ps/\p ∉ Sd)↔((p∈ps/\p ∉ ls)\/∃ k,lv RB k p):=λp=>by
  constructor
  ·rintro⟨a,b⟩
   by_cases c1:p∈ls
   ·refine .inr (bB λz=>b ((FB p).mpr ⟨c1,λk hk=>z ⟨k,hk⟩⟩))
   ·exact .inl ⟨a,c1⟩
  ·rintro (⟨a,b⟩ | ⟨k,hk⟩)
   ·exact⟨a,λz=>b ((FB p).mp z).1⟩
   ·exact⟨vH p (inl hk),λz=>((FB p).mp z).2 k hk⟩
 have hP:∀ p,p∈ps↔(p∈ps/\p ∉ ls)\/p∈ls:=λp=>by
  constructor
  ·intro h
   by_cases c1:p∈ls
   ·exact .inr c1
   ·exact .inl ⟨h,c1⟩
  ·rintro (h | h)
   ·exact h.1
   ·exact vH p h
 have UA:x9 G (·∈ps) (λp=>if p∈tl RB then X p else Ct p) (1-hand) (λp=>(p∈ps/\p ∉ ls)\/∃ k,lv RB k p):=by
  refine x9.Zv (oth:=os) (wf:=wf') (wf0:=Ct) (lost:=(·∈xv)) GN hP (λp hp=>hp.2) hDW aev (λp hp=>((pW p).mp hp).1) (λp hp ho w hw hl=>Zq p hp ?_ w hw hl) (λp=>(lb0 p).symm) (λp hp=>?_) (λp hp=>if_neg (V2 hp)) (λp k h ho=>?_) (λp k h ho=>?_)
  ·rcases vG Bo (IZ p ((pW p).mp hp).1) with z | z <;> rcases Lu with z' | z' <;> omega
  ·show (if p∈tl RB then X p else Ct p)=wf' p;rw[if_neg (λz=>hp.2 (SA p z))];exact (tf p (λz=>hp.2 ((pW p).mp z).1)).2
  ·obtain⟨v9,k1,k2,k3⟩:=GN.pick h ho;obtain⟨z0,z1⟩:=GN.rg h;exact⟨v9,by rw[if_pos (nL.mpr ⟨k,h⟩),(hX p z0 z1).1 k ⟨h,ho⟩];exact k1,k2,k3⟩
  ·obtain⟨z0,z1⟩:=GN.rg h;show (if p∈tl RB then X p else Ct p)=none;rw[if_pos (nL.mpr ⟨k,h⟩)];exact (hX p z0 z1).2 λk z=>ho z.2
 refine⟨Sd.length,iz,lb,Sd,_,_,_,_,_,_,_,_,rfl,sxF.trans sG,sG _ _ hhF,sG _ _ hwF,sG _ _ hpF,?_,Uq,fh hhF Ur,fh hwF Ur,fh hpF Ur,by rw[I0];exact Yb.filter _,λp hp=>vH p ((FB p).mp hp).1,aeX,λp hp ho w hw hwp=>?_,λp h1 h2=>?_,UA.congr (λp _=>rfl) λp=>(dn p).symm,λp hp=>?_,rfl⟩
 ·rw[aO,cC];omega
 ·obtain⟨a,b⟩:=(FB p).mp hp;exact YW p hp ho w hw (vi p a ho w hw hwp)
 ·show (if p∈tl RB then 1-hand else yF p)=1-hand;rcases (dn p).mp ⟨h1,h2⟩ with z | ⟨k,hk⟩
  ·rw[if_neg (λy=>z.2 (SA p y)),(tf p (λy=>z.2 ((pW p).mp y).1)).1];exact hDh p z.1 z.2
  ·cases k with
   | zero=>rw[if_neg (V2 hk)];exact ((xu p).mp ((lb0 p).mp hk)).2
   | succ k=>rw[if_pos (nL.mpr ⟨k,hk⟩)]
 ·have h2:p ∉ ls:=λz=>hp (vH p z);obtain⟨k1,k2⟩:=Dr p hp;obtain⟨j1,j2⟩:=tf p (λz=>h2 ((pW p).mp z).1);refine⟨?_,?_⟩
  ·show (if p∈tl RB then 1-hand else yF p)=hf p;rw[if_neg (λy=>h2 (SA p y)),j1,k1]
  ·show (if p∈tl RB then X p else Ct p)=wf p;rw[if_neg (λy=>h2 (SA p y)),j2,k2]
theorem Pc (F:oA K C "cut" "Cutter.cut" fL ["self","part"]) (T:Txt mg) (aR:ClsAt K mg "Cutter" C u7) (kR:Cd P w K mg base C "pull" 6 ["self","hand","goal","left"] (B2 C)) (iY:Cd P w K mg base C "without" 4 ["self","left","places"] (u4 C)) (kQ:Cd P w K mg base C "give" 5 ["self","hand","layers"] (F5 C)) (jE:Cd P w K mg base C "give_tops" 4 ["self","hand","tops","left"] (F8 C)) (mZ:Dn P w K mg base "places_of" 1 ["layers"] rS) (n:Nat) :
  Cd P w K mg base C "cut" (6+n) ["self","part"] (spC C n):=by
 induction n with
 | zero =>
  obtain⟨f,fd,_,hm,hb⟩:=F.ex;exact⟨f,fd,⟨λ_ _ _ _ z=>z.elim,λ_ _ _ _ _ _ _ _ _ _ _ _ _ z=>z.elim⟩,hm,hb⟩
 | succ n ih=>exact Vj F T aR kR iY kQ jE mZ ih
theorem RK.congr {G:List Row} {P P':Int->Prop} {hf:Int->Int} {wf:Int->Option Int} (s:RK G P hf wf) (e:∀ p,P p↔P' p):RK G P' hf wf:=by
 have:P=P':=funext λp=>propext (e p);subst this;exact s
def Ec:Sp:=λvs H Q _=>Rz λ(v:V) (G:List Row)=>Kr (vs=[v]) (jj H G v) (ET G) (WZ G) (NE G) ((∀ z:Int,0<=z->z<G.length->0<=rk G z/\rk G z<41)) (∀ (t ha wa:ak) (hf:Int->Int) (wf:Int->Option Int) (H':Hp),bp H (mn H' ha wa)->ha≠wa->H ha=none->H wa=none->H' t=some (.tup [.ref ha,.ref wa])->H' ha=some (.lst ((im G.length hf).map V.int))->H' wa=some (.lst (om G.length wf))->RK G (EZ G) hf wf->Q (.ref t) H')
theorem Jv (F:aX K mg "solved" qc ["game"]) (T:Txt mg) (aR:ClsAt K mg "Cutter" C u7) (sf:DnK P w K mg base C 2 ["self","game"] (Hw C)) (ox:Cd P w K mg base C "cut" 48 ["self","part"] (Nf C 41)):Dn P w K mg base "solved" 49 ["game"] Ec:=by
 have sc:=JH;refine F.ok sc (λvs H Q E h=>?_) (λf di A outer s H vs Q E hr h=>?_)
 ·obtain⟨_,_,rfl,_⟩:=h;rfl
 obtain⟨v,G,rfl,hG,cZ,Bo,kU,Fv,q⟩:=h;obtain⟨g0,gv,rfl,jv,k8,eJ⟩:=dZ hG;have GL:=cZ.1;refine⟨_,(av (bJ (i:=1) sc.nd rfl (aW rfl) (Vr aR sf hr (aa (pv 0) ar)))
   (av (da (oK aR.cl ox hr (pv 1) (aa (jO (yD rfl) rfl T.rC ek (aa (Jx rfl T.jW (aa (bE (eV (K:=K) rfl) rfl T.eL be (aa (pv 0) ar)) ar)) ar)) ar)))
   (aC (cf (gh (aa (gS (K:=K) rfl (pv 1) rfl) (aa (gS (K:=K) rfl (pv 1) rfl) ar))))))),?_⟩
 refine⟨_,rfl,?_⟩;intro x dx hx hdx ndx;have s0:bp H (upd (upd H dx (.own x)) x (.ins C dx [])):=λb o e=>by
  rw[bK (cQ e hx),bK (cQ e hdx)];exact e
 refine⟨x,dx,_,G,H,rfl,s0,hx,au,hG,cZ,λr as ha wa H1 G4 h1 h2 s1 hO hh1 pb=>⟨rfl,?_⟩⟩;obtain⟨⟨dx',US⟩,_,_⟩:=id hO;have sH1:bp H H1:=s1.trans kX;refine⟨_,rfl,x,dx',_,rfl,kX _ _ US,oG _ _ _ _ (by decide +kernel) (by decide +kernel) (by decide +kernel) (by decide +kernel),_,rfl,g0,_,rfl,.inl (bQ.of (sH1 _ _ jv)),_,rfl,λp0 Cm=>⟨p0,_,rfl,au,by omega,by omega,λl hl=>?_⟩⟩;have s2:bp H1 (upd (upd H1 p0 (.ow 0 (gv.length:Nat))) l (.lst (((br ((gv.length:Nat):Int).toNat).map λ(j:Nat)=>(j:Int)).map V.int))):=(ay Cm _).trans (ay hl _);have qX:H1 l=none:=(ay Cm (.ow 0 (gv.length:Nat))).free hl;have o6:upd (upd H1 p0 (.ow 0 (gv.length:Nat))) l (.lst (((br ((gv.length:Nat):Int).toNat).map λ(j:Nat)=>(j:Int)).map V.int)) l=some (.lst ((ow G.length).map V.int)):=by
  rw[au,cv,k8];rfl
 generalize upd (upd H1 p0 (.ow 0 (gv.length:Nat))) l (.lst (((br ((gv.length:Nat):Int).toNat).map λ(j:Nat)=>(j:Int)).map V.int))=H2 at s2 o6 ⊢;have Y4:l≠ha:=fh hh1 qX;have Y6:l≠wa:=fh pb qX;refine⟨x,_,r,as,ha,wa,G,l,ow G.length,_,_,rfl,G4,hO.up (j6 s2),cZ,Bo,mI o6 Y4 Y6,BM _,λz hz=>gQ.mp hz,λp hp=>?_,λz hz=>Fv z (gQ.mp hz).1 (gQ.mp hz).2,s2 _ _ hh1,s2 _ _ pb,λu H3 hf wf s3 IU Bu Dl _=>?_⟩
 ·obtain⟨w9,YE⟩:=aar kU (gQ.mp hp);exact⟨w9,YE,gQ.mpr (aaq cZ.wok YE)⟩
 have WJ:=s3 _ _ (j6 s2 _ _ US);refine⟨_,rfl,x,C,dx',_,_,rfl,WJ,aR.cl,aR.na _ (by decide +kernel),qr _ _ _ _,_,rfl,x,C,dx',_,_,rfl,WJ,aR.cl,aR.na _ (by decide +kernel),sS _ _ _ _,(by show 2<=aJ;decide),λt ht=>?_⟩;have s4:=ay ht (.tup [.ref ha,.ref wa]);exact q t ha wa hf wf _ (s1.trans ((j6 s2).trans ((pU s3).trans (j6 s4)))) G4 h1 h2 au (s4 _ _ IU) (s4 _ _ Bu) (Dl.congr λp=>gQ)
theorem uU {α β:Type} {F:α->β->Prop}:∀ {xs:List α} {ys:List β},dE F xs ys->xs.length=ys.length
 | _,_,.nil=>rfl
 | _,_,.cons _ t=>by rw[bi,bi,uU t]
theorem TC {us:List V} {z:Int} {u:V} (h0:0<=z) (h:us[z.toNat]?=some u):vX us z=some u:=by
 obtain⟨n,rfl⟩:=Int.eq_ofNat_of_zero_le h0;exact bu (j:=n) h
def oV:Option Int->V
 | none=>.fj
 | some v=>.int v
def tV (T:List (Option Int)):List V:=T.map oV
theorem ik (T:List (Option Int)):(tV T).length=T.length:=ag _
def cU (T:List (Option Int)):Tb:=λx=>if 0<=x then (T[x.toNat]?).getD none else none
theorem Ra (T:List (Option Int)) (i:Nat):cU T (i:Int)=(T[i]?).getD none:=by unfold cU;rw[if_pos (by omega)];rfl
theorem tW {T:List (Option Int)} {x:Int} (h0:0<=x) (h1:x<T.length):vX (tV T) x=some (oV (cU T x)):=by
 have hl:x.toNat<T.length:=by omega
 refine TC h0 ?_;unfold tV cU;rw[if_pos h0,aI,ao hl];rfl
def qe:Sp:=λvs H Q _=>∃ (ta:ak) (T:List (Option Int)) (p a:Int),vs=[.ref ta,.int p,.int a]/\H ta=some (.lst (tV T))/\0<=p/\p<T.length/\Q (oV (a0a (cU T) (p,a))) H
theorem Js (F:aX K mg "need_by" og ["purses","place","amount"]) (T:Txt mg):Dn P w K mg base "need_by" 1 ["purses","place","amount"] qe:=by
 have sc:=FZ;refine F.ok sc (λvs H Q E h=>?_) (λf di A outer s H vs Q E hr h=>?_)
 ·obtain⟨_,_,_,_,rfl,_⟩:=h;rfl
 obtain⟨ta,TT,p,a,rfl,zL,p0,p1,q⟩:=h;refine⟨_,(av (dC (lL (mJ (bL (m5 (K:=K) rfl) (pv 0) (pv 1) (λ_ _=>rfl))))
   (aC (cf oM))
   cr)
   (aC (cf (bE (zx rfl) rfl T.C4 jU (aa (bV lK (bL (m5 (K:=K) rfl) (pv 0) (pv 1) (λ_ _=>rfl)) (pv 2)) (aa aA ar)))))),?_⟩
 have at0:=tW p0 p1;refine⟨_,rfl,_,rfl,ta,_,_,_,rfl,rfl,bQ.of zL,at0,_,rfl,?_⟩;unfold a0a at q;cases e:cU TT p with
 | none =>
  rw[e] at q;exact mF q
 | some v =>
  rw[e] at q at0;refine fW ?_;refine⟨_,rfl,_,rfl,ta,_,_,_,rfl,rfl,bQ.of zL,at0,_,rfl,_,_,rfl,rfl,?_⟩;refine⟨_,_,rfl,?_⟩;have e9:(if (0:Int) > v-a then (0:Int) else v-a)=max (v-a) 0:=by
   by_cases c:(0:Int) > v-a
   ·rw[if_pos c];omega
   ·rw[if_neg c];omega
  rw[e9];exact q
def nk:Option Int->Int × Int
 | none=>(1,0)
 | some v=>(0,v)
theorem Mf {a b:Option Int}:zU (nk b) (nk a)↔¬ fv a b:=by
 cases a <;> cases b <;> simp[nk,zU,fv]
def wu:Sp:=λvs H Q _=>∃ (o:Option Int),vs=[oV o]/\∀ t,H t=none->Q (.ref t) (upd H t (.tup (m9 (nk o))))
theorem Mn (F:aX K mg "need_order" kg ["need"]) (T:Txt mg):Dn P w K mg base "need_order" 1 ["need"] wu:=by
 have sc:=y8;refine F.ok sc (λvs H Q E h=>?_) (λf di A outer s H vs Q E hr h=>?_)
 ·obtain⟨_,rfl,_⟩:=h;rfl
 obtain⟨o,rfl,q⟩:=h;refine⟨_,(aC (cf (lm (lL (mJ (pv 0))) (gh (aa aA (aa aA ar))) (gh (aa aA (aa (pv 0) ar)))))),?_⟩;refine⟨_,rfl,_,rfl,?_⟩;cases o with
 | none=>exact mF ⟨(by show 2<=aJ;decide),λt ht=>q t ht⟩
 | some v=>exact fW ⟨_,rfl,(by show 2<=aJ;decide),λt ht=>q t ht⟩
def F6:Sp:=λvs H Q _=>∃ (a b:Option Int),vs=[oV a,oV b]/\∀ (r:Bool) H',bp H H'->(r=true↔¬ fv a b)->Q (.bl r) H'
theorem Qi (F:aX K mg "is_more" n9 ["need","other"]) (T:Txt mg) (iZ:Dn P w K mg base "need_order" 1 ["need"] wu):Dn P w K mg base "is_more" 2 ["need","other"] F6:=by
 have sc:=FY;refine F.ok sc (λvs H Q E h=>?_) (λf di A outer s H vs Q E hr h=>?_)
 ·obtain⟨_,_,rfl,_⟩:=h;rfl
 obtain⟨a,b,rfl,q⟩:=h;refine⟨_,(aC (cf (wc (Vm (K:=K) rfl (xp hr 0)) (cx iZ hr (aa (pv 0) ar)) (cx iZ hr (aa (pv 1) ar)) (cE _)))),?_⟩;refine⟨_,rfl,a,rfl,λt1 h1=>⟨_,rfl,b,rfl,λt2 h2=>?_⟩⟩;refine⟨t1,t2,[(nk a).1,(nk a).2],[(nk b).1,(nk b).2],rfl,rfl,eU.of (ay h2 _ _ _ au),eU.of au,?_⟩;exact q _ _ ((ay h1 _).trans (ay h2 _)) ((LY _ _).trans Mf)
def nt (H:Hp):Hp:=λb=>match H b with
 | some (.vQ _)=>none
 | o=>o
theorem DN {H:Hp} {b:ak} {o:HO} (h:H b=some o) (ho:∀ ps,o≠.vQ ps):nt H b=some o:=by
 unfold nt;rw[h];cases o <;> first | rfl | exact absurd rfl (ho _)
theorem G7 {H:Hp} {b:ak} {o:HO} (h:nt H b=some o):H b=some o/\∀ ps,o≠.vQ ps:=by
 unfold nt at h;cases e:H b with
 | none=>rw[e] at h;cases h
 | some u =>
  rw[e] at h;cases u <;> first | (cases h;exact⟨rfl,λ_ z=>by cases z⟩) | cases h
theorem bX {H:Hp}:bp (nt H) H:=λ_ _ h=>(G7 h).1
theorem ig {H:Hp} {b:ak} {xs:List V} (h:H b=some (.lst xs)):nt H b=some (.lst xs):=DN h λ_ z=>by cases z
theorem rP {H:Hp} {b:ak} {xs:List V} (h:H b=some (.tup xs)):nt H b=some (.tup xs):=DN h λ_ z=>by cases z
def Sm (H H':Hp):Prop:=bp (nt H) (nt H')
theorem Sm.of {H H':Hp} (s:bp H H'):Sm H H':=λb o h=>by
 obtain⟨h1,h2⟩:=G7 h;exact DN (s _ _ h1) h2
theorem Sm.trans {H H1 H2:Hp} (a:Sm H H1) (b:Sm H1 H2):Sm H H2:=bp.trans a b
theorem Sm.ofT {H H':Hp} {p:ak} {ps:Array ae} (s:ju p H H') (h:H p=some (.vQ ps)):Sm H H':=λb o e=>by
 obtain⟨h1,h2⟩:=G7 e;exact DN (s b o (λz=>by rw[z,h] at h1;injection h1 with h1;exact h2 _ h1.symm) h1) h2
theorem Sm.put {H H':Hp} {a:ak} (s:Sm H H') (h:nt H a=none) (o:HO):Sm H (upd H' a o):=λb u e=>by
 have nb:b≠a:=λz=>by rw[z,h] at e;cases e
 obtain⟨h1,h2⟩:=G7 (s _ _ e);exact DN (by rw[bK nb];exact h1) h2
theorem v8 {H:Hp} {a:ak} (h:H a=none):nt H a=none:=by unfold nt;rw[h]
theorem Sm.lst {H H':Hp} {b:ak} {xs:List V} (s:Sm H H') (h:nt H b=some (.lst xs)):H' b=some (.lst xs):=bX _ _ (s _ _ h)
theorem Sm.tup {H H':Hp} {b:ak} {xs:List V} (s:Sm H H') (h:nt H b=some (.tup xs)):H' b=some (.tup xs):=bX _ _ (s _ _ h)
def YV (st:cK):hW:=match fH st with
 | [.Return (some (.Call _ _ [⟨_,.Lambda _ _ _ p,_⟩] _)) _]=>p
 | _=>⟨0,0,0,0⟩
abbrev qL:bc := "least_needy" ++ ".<locals>." ++ "<lambda>"
abbrev qM:bc := "most_needy" ++ ".<locals>." ++ "<lambda>"
abbrev pL (K:aj):ak:=ee K "least_needy"
abbrev pM (K:aj):ak:=ee K "most_needy"
structure qI (K:aj) (H:Hp):Prop where
 l:kZ H (pL K) (YV iF) qL
 m:kZ H (pM K) (YV ja) qM
 ne:pL K≠pM K
theorem qI.up {H H':Hp} (t:qI K H) (s:bp H H'):qI K H':=⟨t.l.up s,t.m.up s,t.ne⟩
theorem HS {H H':Hp} {p q:ak} {pos:hW} {qual:bc} (t:kZ H p pos qual) (s:ju q H H') (ne:p≠q) (hq:∃ ps,H q=some (.vQ ps)):kZ H' p pos qual:=by
 obtain⟨ps,h1,h2,h3⟩:=t;refine⟨ps,s _ _ ne h1,h2,?_⟩;rcases h3 with h | ⟨c,o,vs,t,h4,h5,h6⟩
 ·exact .inl h
 ·exact .inr ⟨c,o,vs,t,h4,s _ _ (λz=>by obtain⟨qs,hq⟩:=hq;rw[z,hq] at h5;cases h5) h5,h6⟩
theorem qI.put {H:Hp} {a:ak} {xs:List V} {o:HO} (t:qI K H) (h:H a=some (.lst xs)):qI K (upd H a o):=by
 have go:∀ {p:ak} {pos:hW} {qual:bc},kZ H p pos qual->kZ (upd H a o) p pos qual:=λ{p pos qual} t=>by
  obtain⟨ps,h1,h2,h3⟩:=t;refine⟨ps,by rw[bK (λz=>by rw[z,h] at h1;cases h1)];exact h1,h2,?_⟩;rcases h3 with z | ⟨c,o',vs,t,h4,h5,h6⟩
  ·exact .inl z
  ·exact .inr ⟨c,o',vs,t,h4,by rw[bK (λz=>by rw[z,h] at h5;cases h5)];exact h5,h6⟩
 exact⟨go t.l,go t.m,t.ne⟩
abbrev Ki:Rel (List Wy):=hU (QI iA iA)
theorem gR:hV Ki:=dO (v6 fg fg)
theorem mT {H:Hp} {r:List Wy} {v:V} (h:Ki H r v):∃ a us,v=.ref a/\H a=some (.lst us)/\us.length=r.length/\∀ (i:Nat) (p:Wy),r[i]?=some p->∃ t,us[i]?=some (.ref t)/\H t=some (.tup [.int p.1,.int p.2]):=by
 obtain⟨a,us,rfl,ha,pr⟩:=h;refine⟨a,us,rfl,ha,(uU pr).symm,λi p hp=>?_⟩;obtain⟨u,hu,t,x,y,rfl,ht,rfl,rfl⟩:=L2.Paired.at pr hp;exact⟨t,hu,ht⟩
def Ni (K:aj) (mx:Bool):Sp:=λvs H Q _=>∃ (v:V) (ta:ak) (ws:List Wy) (T:List (Option Int)),vs=[v,.ref ta]/\Ki (nt H) ws v/\nt H ta=some (.lst (tV T))/\ws≠[]/\(∀ w∈ws,0<=w.1/\w.1<T.length)/\qI K H /\
 ∀ (t:ak) (w:Wy) (H':Hp),Sm H H'->qI K H'->w∈ws->(∀ w'∈ws,if mx then fv (a0a (cU T) w') (a0a (cU T) w) else fv (a0a (cU T) w) (a0a (cU T) w'))->nt H' t=some (.tup [.int w.1,.int w.2])->Q (.ref t) H'
theorem Zd (F:aX K mg "least_needy" iF ["ways","purses"]) (T:Txt mg) (L:u8 K mg "least_needy") (jI:Dn P w K mg base "need_by" 1 ["purses","place","amount"] qe) (iZ:Dn P w K mg base "need_order" 1 ["need"] wu):Dn P w K mg base "least_needy" 4 ["ways","purses"] (Ni K false):=by
 have sc:=xN;refine aX.okL F L sc (λvs H Q E h=>?_) (λf di A outer s H vs Q E LD hr h=>?_)
 ·obtain⟨_,_,_,_,rfl,_⟩:=h;rfl
 obtain⟨v,ta,ws,TT,rfl,hv,zL,ne,rg,tb,q⟩:=h;obtain⟨wl,us,rfl,uj,ul,ya⟩:=mT hv;refine⟨_,λMD=>(aC (cf (Qy (k:=1) (j:=1) (LD MD) hr rfl rfl T.GA (aa (pv 0) ar) rfl rfl rfl (by decide +kernel) (by decide +kernel) rfl rfl (λ_ _ _ _ _=>rfl) (λcl q di s H=>(cx iZ (fG.deeper (fG.in1 hr) _) (aa (cx jI (fG.deeper (fG.in1 hr) _) (aa (pv 1) (aa (bL (jM (K:=K) rfl) (pv 0) aA (λ_ _=>rfl)) (aa (bL (jM (K:=K) rfl) (pv 0) aA (λ_ _=>rfl)) ar)))) ar)))))),?_⟩;obtain⟨ps,hP,_⟩:=id tb.l;have une:us≠[]:=λz=>ne (kA.mp (by rw[← ul,z];rfl));have JQ:∀ {i:Nat} {x:V},us[i]?=some x->∃ t wi,x=.ref t/\ws[i]?=some wi/\ws.getD i (0,0)=wi/\nt H t=some (.tup [.int wi.1,.int wi.2]):=λ{i x} hx=>by
  have il:i<ws.length:=by rw[← ul];exact (af.mp hx).1
  obtain⟨t,h1,h2⟩:=ya i _ (ao il);rw[hx] at h1;injection h1 with h1;exact⟨t,ws[i],h1,ao il,by rw[gj,ao il];rfl,h2⟩
 refine⟨_,rfl,tb.l,wl,us,.ref ta,λi=>nk (a0a (cU TT) (ws.getD i (0,0))),rfl,bX _ _ uj,une,rfl,λi x H2 hx sT=>?_,λi x H2 hx ID sT VV=>?_⟩
 ·obtain⟨t,wi,rfl,h1,h2,h3⟩:=JQ hx;have sm:=Sm.ofT sT hP;have ht:=sm.tup h3;have DZ:=rg wi (aq h1);refine⟨_,rfl,_,rfl,t,_,_,_,rfl,rfl,eU.of ht,bu (j:=0) rfl,_,rfl,t,_,_,_,rfl,rfl,eU.of ht,bu (j:=1) rfl,ta,TT,wi.1,wi.2,rfl,sm.lst zL,DZ.1,DZ.2,_,rfl,λt' Ys=>⟨ay Ys _,t',rfl,?_⟩⟩;rw[au];show some (HO.tup (m9 (nk (a0a (cU TT) wi))))=some (HO.tup (m9 (nk (a0a (cU TT) (ws.getD i (0,0))))));rw[h2]
 ·obtain⟨t,wi,rfl,h1,h2,h3⟩:=JQ hx;have sm:=Sm.ofT sT hP;refine q t wi H2 sm ⟨VV,HS tb.m sT (dG tb.ne) ⟨_,hP⟩,tb.ne⟩ (aq h1) (λw' pG=>?_) (sm _ _ h3);obtain⟨j,hj⟩:=ce pG;have jl:=(af.mp hj).1;have b:=(ID j (by rw[ul];exact jl)).1;have IW:ws.getD j (0,0)=w':=by rw[gj,hj];rfl
  have b:¬ zU (nk (a0a (cU TT) (ws.getD j (0,0)))) (nk (a0a (cU TT) (ws.getD i (0,0)))):=b;rw[h2,IW] at b;exact bB λz=>b (Mf.mpr z)
theorem Ze (F:aX K mg "most_needy" ja ["ways","purses"]) (T:Txt mg) (L:u8 K mg "most_needy") (jI:Dn P w K mg base "need_by" 1 ["purses","place","amount"] qe) (iZ:Dn P w K mg base "need_order" 1 ["need"] wu):Dn P w K mg base "most_needy" 4 ["ways","purses"] (Ni K true):=by
 have sc:=yZ;refine aX.okL F L sc (λvs H Q E h=>?_) (λf di A outer s H vs Q E LD hr h=>?_)
 ·obtain⟨_,_,_,_,rfl,_⟩:=h;rfl
 obtain⟨v,ta,ws,TT,rfl,hv,zL,ne,rg,tb,q⟩:=h;obtain⟨wl,us,rfl,uj,ul,ya⟩:=mT hv;refine⟨_,λMD=>(aC (cf (Qw (k:=1) (j:=1) (LD MD) hr rfl rfl T.C4 (aa (pv 0) ar) rfl rfl rfl (by decide +kernel) (by decide +kernel) rfl rfl (λ_ _ _ _ _=>rfl) (λcl q di s H=>(cx iZ (fG.deeper (fG.in1 hr) _) (aa (cx jI (fG.deeper (fG.in1 hr) _) (aa (pv 1) (aa (bL (jM (K:=K) rfl) (pv 0) aA (λ_ _=>rfl)) (aa (bL (jM (K:=K) rfl) (pv 0) aA (λ_ _=>rfl)) ar)))) ar)))))),?_⟩;obtain⟨ps,hP,_⟩:=id tb.m;have une:us≠[]:=λz=>ne (kA.mp (by rw[← ul,z];rfl));have JQ:∀ {i:Nat} {x:V},us[i]?=some x->∃ t wi,x=.ref t/\ws[i]?=some wi/\ws.getD i (0,0)=wi/\nt H t=some (.tup [.int wi.1,.int wi.2]):=λ{i x} hx=>by
  have il:i<ws.length:=by rw[← ul];exact (af.mp hx).1
  obtain⟨t,h1,h2⟩:=ya i _ (ao il);rw[hx] at h1;injection h1 with h1;exact⟨t,ws[i],h1,ao il,by rw[gj,ao il];rfl,h2⟩
 refine⟨_,rfl,tb.m,wl,us,.ref ta,λi=>nk (a0a (cU TT) (ws.getD i (0,0))),rfl,bX _ _ uj,une,rfl,λi x H2 hx sT=>?_,λi x H2 hx ID sT VV=>?_⟩
 ·obtain⟨t,wi,rfl,h1,h2,h3⟩:=JQ hx;have sm:=Sm.ofT sT hP;have ht:=sm.tup h3;have DZ:=rg wi (aq h1);refine⟨_,rfl,_,rfl,t,_,_,_,rfl,rfl,eU.of ht,bu (j:=0) rfl,_,rfl,t,_,_,_,rfl,rfl,eU.of ht,bu (j:=1) rfl,ta,TT,wi.1,wi.2,rfl,sm.lst zL,DZ.1,DZ.2,_,rfl,λt' Ys=>⟨ay Ys _,t',rfl,?_⟩⟩;rw[au];show some (HO.tup (m9 (nk (a0a (cU TT) wi))))=some (HO.tup (m9 (nk (a0a (cU TT) (ws.getD i (0,0))))));rw[h2]
 ·obtain⟨t,wi,rfl,h1,h2,h3⟩:=JQ hx;have sm:=Sm.ofT sT hP;refine q t wi H2 sm ⟨HS tb.l sT tb.ne ⟨_,hP⟩,VV,tb.ne⟩ (aq h1) (λw' pG=>?_) (sm _ _ h3);obtain⟨j,hj⟩:=ce pG;have jl:=(af.mp hj).1;have b:=(ID j (by rw[ul];exact jl)).1;have IW:ws.getD j (0,0)=w':=by rw[gj,hj];rfl
  have b:¬ zU (nk (a0a (cU TT) (ws.getD i (0,0)))) (nk (a0a (cU TT) (ws.getD j (0,0)))):=λz=>b (show zU (Kh (λi=>nk (a0a (cU TT) (ws.getD i (0,0)))) j) (Kh (λi=>nk (a0a (cU TT) (ws.getD i (0,0)))) i) from Me.mpr z);rw[h2,IW] at b;exact bB λz=>b (Mf.mpr z)
abbrev OC:Rel (List cX):=hU (QI iA Ki)
abbrev VA:Rel Lf:=hU Ki
theorem m7:hV OC:=dO (v6 fg gR)
theorem G2:hV VA:=dO gR
theorem n8 {H:Hp} {G:List cX} {v:V} (h:OC H G v):∃ a us,v=.ref a/\H a=some (.lst us)/\us.length=G.length/\∀ (i:Nat) (r:cX),G[i]?=some r->∃ t wl,us[i]?=some (.ref t)/\H t=some (.tup [.int r.1,.ref wl])/\Ki H r.2 (.ref wl):=by
 obtain⟨a,us,rfl,ha,pr⟩:=h;refine⟨a,us,rfl,ha,(uU pr).symm,λi r hr=>?_⟩;obtain⟨u,hu,t,x,y,rfl,ht,rfl,hy⟩:=L2.Paired.at pr hr;obtain⟨wl,ws,rfl,hw⟩:=id hy;exact⟨t,wl,hu,ht,hy⟩
def Nk:Sp:=λvs H Q _=>∃ (v:V) (G:List cX) (ra:ak) (r:List (Option Int)),vs=[v,.ref ra]/\OC H G v/\H ra=some (.lst (tV r))/\si G/\Ci G r/\G.length<=16/\(∀ row∈G,row.2.length<=100)/\∀ u H',bp H H'->VA H' (eX G r) u->Q u H'
theorem zR {G:List cX} {r:List (Option Int)} {i:Nat} {row:cX} {o:Option Int} (h1:G[i]?=some row) (h2:r[i]?=some o):eX (G.take (i+1)) (r.take (i+1))=eX (G.take i) (r.take i)++[match o with | none=>row.2 | some p=>[(p,Tz row.2 p)]]:=by
 unfold eX;have l1:=(af.mp h1).1;have l2:=(af.mp h2).1;rw[nQ,nQ,h1,h2,List.zipWith_append (by rw[cA,cA];omega)];rfl
theorem tM {G:List cX} {r:List (Option Int)} (h:Ci G r) {i:Nat} {row:cX} (hr:G[i]?=some row):(r[i]?=some none/\row.1≠1)\/∃ w∈row.2,r[i]?=some (some w.1)/\row.1=1:=by
 by_cases c:row.1=1
 ·obtain⟨w,hw,e⟩:=(h.2 i row hr).2 c;exact .inr ⟨w,hw,e,c⟩
 ·exact .inl ⟨(h.2 i row hr).1 c,c⟩
def K2 (ws:List Wy):List (Key × V):=ws.map λw=>(kx w.1,V.int w.2)
theorem Hl:∀ {l c:List (Key × V)},((c++l).map (·.1)).Nodup->l.foldl (λc p=>a0q c p.1 p.2) c=c++l
 | [],c,_=>(d9 c).symm
 | p :: l,c,h=>by
  have e:a0q c p.1 p.2=c++[p]:=by
   unfold a0q;rw[if_neg];intro ha;obtain⟨kv,hm,he⟩:=lO.mp ha;rw[aN,eK] at h;exact h.2.2 kv.1 (aM.mpr ⟨kv,hm,rfl⟩) p.1 (by simp) (of_decide_eq_true he)
  rw[Te,e,Hl (by rw[kS];exact h),kS];rfl
theorem K3 {ws:List Wy} (nd:(ws.map (·.1)).Nodup):a0l [] (K2 ws)=K2 ws:=by
 unfold a0l;rw[Hl,fO];rw[fO];unfold K2;rw[qm];have:(ws.map ((λx=>x.1) ∘ λw=>((kx w.1:Key),V.int w.2)))=(ws.map (·.1)).map kx:=by rw[qm];rfl
 rw[this,cO,cT];exact nd.imp λ{a b} h e=>h (by injection e)
theorem K4 {ws:List Wy} (nd:(ws.map (·.1)).Nodup) {x:Wy} (hx:x∈ws):vR (K2 ws) (kx x.1)=some (V.int x.2):=by
 unfold K2 vR
 induction ws with
 | nil=>cases hx
 | cons y ws ih =>
  rw[cG,dt] at nd;rw[cG];rcases aB.mp hx with e | e
  ·rw[e,List.find?_cons_of_pos (by exact decide_eq_true rfl)];rfl
  ·rw[List.find?_cons_of_neg]
   ·exact ih nd.2 e
   ·intro z;have:=of_decide_eq_true z;injection this with this;exact nd.1 (by rw[this];exact aM.mpr ⟨x,e,rfl⟩)
theorem NT {H:Hp}:∀ {ws:List Wy} {us:List V},dE (QI iA iA H) ws us->∃ ts:List (ak × Key × V),us=ts.map (λt=>V.ref t.1)/\(∀ t∈ts,H t.1=some (.tup [kV t.2.1,t.2.2]))/\ts.map (λt=>t.2)=K2 ws
 | _,_,.nil=>⟨[],rfl,(λ_ z=>by cases z),rfl⟩
 | _,_,.cons h t=>by
  obtain⟨ts,e1,e2,e3⟩:=NT t;obtain⟨c,x,y,rfl,hc,rfl,rfl⟩:=h;rename_i p _ _;refine⟨(c,kx p.1,V.int p.2)::ts,by rw[e1];rfl,λt ht=>?_,by rw[cG,e3];rfl⟩;rcases aB.mp ht with rfl | ht
  ·exact hc
  ·exact e2 t ht
structure Bd {α:Type} (R:Rel α) (H H2:Hp) (g:ak) (xs:List α):Prop where
 g0:H g=none
 s:bp H H2
 ex:∃ vs,H2 g=some (.lst vs)/\dE (R (del H2 g)) xs vs
section
variable {α:Type} {R:Rel α} {H H1 H2 H3:Hp} {g:ak} {xs:List α}
theorem Bd.start (h:H g=none):Bd R H (upd H g (.lst [])) g []:=⟨h,ay h _,[],au,.nil⟩
theorem Bd.go (m:hV R) (b:Bd R H H2 g xs) (s:bp H2 H3):Bd R H H3 g xs:=by
 obtain⟨g0,s0,vs,h,p⟩:=b;exact⟨g0,s0.trans s,vs,s _ _ h,dq m (Dd s g) p⟩
theorem Bd.sq (b:Bd R H H2 g xs):∃ vs,H2 g=some (.lst vs)/\vs.length=xs.length:=by
 obtain⟨vs,h,p⟩:=b.ex;exact⟨vs,h,(uU p).symm⟩
theorem Bd.push (m:hV R) (b:Bd R H H2 g xs) (s:bp H2 H3) {x:α} {v:V} (r:R (del H3 g) x v):∃ vs,H3 g=some (.lst vs)/\vs.length=xs.length/\Bd R H (upd H3 g (.lst (vs++[v]))) g (xs++[x]):=by
 obtain⟨g0,s0,vs,h,p⟩:=b.go m s;refine⟨vs,h,(uU p).symm,g0,s0.put g0 _,vs++[v],au,?_⟩;rw[Bk];exact L2.Paired.app p (.cons r .nil)
theorem Bd.done (m:hV R) (b:Bd R H H2 g xs):hU R H2 xs (.ref g):=by
 obtain⟨g0,s0,vs,h,p⟩:=b;exact⟨g,vs,rfl,h,dq m (sQ _ _) p⟩
theorem Bd.old (b:Bd R H H2 g xs):bp H (del H2 g):=λc o e=>by
 have:c≠g:=λz=>by rw[z,b.g0] at e;cases e
 rw[gc this];exact b.s _ _ e
end
theorem Qh (F:aX K mg "ways_left" lA ["game","rule"]) (T:Txt mg):Dn P w K mg base "ways_left" 1 ["game","rule"] Nk:=by
 have sc:=BV;refine F.ok sc (λvs H Q E h=>?_) (λf di A outer s H vs Q E hr h=>?_)
 ·obtain⟨_,_,_,_,rfl,_⟩:=h;rfl
 obtain⟨v,G,ra,r,rfl,hv,Bs,g,rl,qN,qO,q⟩:=h;obtain⟨a,us,rfl,ha,ul,ya⟩:=n8 hv;refine⟨_,(av (bJ (i:=2) sc.nd rfl (aW rfl) (eP ar))
   (av (dW bh rfl (uS (K:=K) rfl rfl T.wW (aa (pv 0) (aa (pv 1) ar))) (j7 rfl (cH (bZ (i:=3) sc.nd rfl (aW rfl)) (cH (bZ (i:=4) sc.nd rfl (aW rfl)) iL)))
   (aC (da (lj bx bH bI eH (pv 2) (aa (lm (lL (mJ (pv 4))) (jO (Bi (K:=K) rfl) rfl T.rC ek (aa (bL (jM (K:=K) rfl) (pv 3) aA (λ_ _=>rfl)) ar)) (eP (aa (gh (aa (pv 4) (aa (Hf (xp hr 1) (jO (oY (K:=K) rfl rfl) rfl T.KQ x8 (aa (bL (jM (K:=K) rfl) (pv 3) aA (λ_ _=>rfl)) ar)) (pv 4) (λ_ _=>rfl)) ar))) ar))) ar)))))
   (aC (cf (pv 2))))),?_⟩
 refine⟨bv _,λgl k8=>?_⟩;have s1:=ay k8 (.lst []);refine⟨_,rfl,_,rfl,a,ra,rfl,⟨_,bQ.of (s1 _ _ ha)⟩,⟨_,bQ.of (s1 _ _ Bs)⟩,sV (K:=K) (a:=a) (b:=ra) (xs:=us) (ys:=tV r) (by rw[ik,ul,rl.1]) (λi σ H2=>∃ y1 y2:Option V,σ=[some (.ref a),some (.ref ra),some (.ref gl),y1,y2]/\Bd Ki H H2 gl (eX (G.take i) (r.take i))) ⟨_,_,rfl,Bd.start k8⟩ (λi σ H2 _ h=>?_) (λi x y σ H2 tt hx hy h Fw=>?_) (λσ H2 h=>?_)⟩
 ·obtain⟨_,_,_,b⟩:=h;exact⟨bQ.of (b.s _ _ ha),bQ.of (b.s _ _ Bs)⟩
 ·obtain⟨y1,y2,rfl,b⟩:=h;have il:i<G.length:=by rw[← ul];exact (af.mp hx).1
  obtain⟨t,wl,hu,ht,hw⟩:=ya i _ (ao il);rw[hx] at hu;injection hu with hu;subst hu;have gk:=g _ (cq il);have f2:=qO _ (cq il);have s3:=ay Fw (.tup [V.ref t,y]);have b3:=b.go gR s3;have GP:=b3.s _ _ ht;have Bu:=gR.up b3.s hw;obtain⟨gvs,Ud,gvl⟩:=b3.sq;have gll:(eX (G.take i) (r.take i)).length<=16:=by unfold eX;rw[ud,cA,cA];omega
  refine⟨tt,_,rfl,eU.of au,rfl,_,_,rfl,_,_,rfl,rfl,?_⟩;refine⟨_,rfl,.inl ⟨rfl,_,bQ.of Ud⟩,_,rfl,_,rfl,?_⟩;unfold tV at hy;rw[aI] at hy;obtain⟨o,ho,rfl⟩:=dP.mp hy;rcases tM rl (ao il) with ⟨e,_⟩ | ⟨wy,GQ,e,_⟩
  ·rw[ho] at e;injection e with e;subst e;refine mF ?_;obtain⟨_,Km,e0,WI,pw⟩:=id Bu;cases e0;refine⟨_,rfl,t,_,_,_,rfl,rfl,eU.of GP,bu (j:=1) rfl,wl,_,rfl,.inl (bQ.of WI),λlc Ou=>?_⟩;have s4:=s3.trans (ay Ou (.lst Km));have b4:=b.go gR s4;have nlc:lc≠gl:=λz=>by rw[z,Ud] at Ou;cases Ou
   obtain⟨vs5,k1,k2,b5⟩:=b.push gR s4 (x:=G[i].2) (v:=.ref lc) ⟨lc,Km,rfl,by rw[gc nlc];exact au,by
    obtain⟨_,us0,e0,h0,p0⟩:=gR.up b4.old hw;cases e0;have e5:=(s4.trans (bp.refl _)) _ _ (b.s _ _ (show H wl=some (.lst us0) by
     obtain⟨_,Rh,e1,h1,p1⟩:=id hw;cases e1;have:=b4.old _ _ h1;rw[this] at h0;cases h0;exact h1))
    have e6:=ay Ou (.lst Km) _ _ WI;rw[e6] at e5;cases e5;exact p0⟩
   refine⟨gl,vs5,_,rfl,rfl,k1,oR (m:=1000) (by omega),_,_,rfl,?_⟩;rw[zR (ao il) ho];exact b5
  ·rw[ho] at e;injection e with e;subst e;refine fW ?_;have aw:Tz G[i].2 wy.1=wy.2:=wV gk.2.1 GQ;obtain⟨_,Km,e0,WI,pw⟩:=id Bu;cases e0;obtain⟨ts,rfl,t2,t3⟩:=NT pw;refine⟨_,rfl,_,rfl,t,_,_,_,rfl,rfl,eU.of GP,bu (j:=1) rfl,wl,ts,rfl,bQ.of WI,λz hz=>eU.of (t2 z hz),λdp hdp=>?_⟩;rw[t3,K3 gk.2.1];have s4:=s3.trans (ay hdp (.dK (K2 G[i].2)));refine⟨_,rfl,dp,V.int wy.2,rfl,by rw[← K4 gk.2.1 GQ];exact EO.k (k:=kx wy.1) au,(by show 2<=aJ;decide),λtp R9=>⟨(by show 1<=aJ;decide),λlc Ou=>?_⟩⟩;have s5:=s4.trans ((ay R9 (.tup [V.int wy.1,V.int wy.2])).trans (ay Ou (.lst [V.ref tp])));have g5:=s5 _ _ (show H2 gl=some (.lst gvs) by obtain⟨vs9,h9,_⟩:=b.ex;have:=s3 _ _ h9;rw[Ud] at this;cases this;exact h9);have nlc:lc≠gl:=λz=>by
    have:=(s4.trans (ay R9 (.tup [V.int wy.1,V.int wy.2]))) _ _ (show H2 gl=some (.lst gvs) by obtain⟨vs9,h9,_⟩:=b.ex;have:=s3 _ _ h9;rw[Ud] at this;cases this;exact h9);rw[← z] at this;have:=Ou.symm.trans this;cases this
   have ntp:tp≠gl:=λz=>by
    have:=s4 _ _ (show H2 gl=some (.lst gvs) by obtain⟨vs9,h9,_⟩:=b.ex;have:=s3 _ _ h9;rw[Ud] at this;cases this;exact h9);rw[← z,R9] at this;cases this
   obtain⟨vs5,k1,k2,b5⟩:=b.push gR s5 (x:=[(wy.1,wy.2)]) (v:=.ref lc) ⟨lc,_,rfl,by rw[gc nlc];exact au,.cons ⟨tp,_,_,rfl,by rw[gc ntp];exact ay Ou _ _ _ au,rfl,rfl⟩ .nil⟩;refine⟨gl,vs5,_,rfl,rfl,k1,oR (m:=1000) (by omega),_,_,rfl,?_⟩;rw[zR (ao il) ho];show Bd Ki H _ gl (_++[[(wy.1,Tz G[i].2 wy.1)]]);rw[aw];exact b5
 ·obtain⟨_,_,rfl,b⟩:=h;rw[ul,aY,show G.length=r.length from rl.1.symm,aY] at b;exact⟨_,rfl,q _ _ b.s (b.done gR)⟩
abbrev QC (G:Tb) (q v:Int):Tb:=λp=>if p=q then some v else G p
theorem HW {G:List (Option Int)} {q v:Int} (h0:0<=q) (h1:q<G.length):cU (G.set q.toNat (some v))=QC (cU G) q v:=by
 funext x;unfold cU QC
 by_cases e:x=q
 ·subst e;rw[if_pos h0,if_pos rfl,cS (by omega)];rfl
 ·rw[if_neg e]
  by_cases c:0<=x
  ·rw[if_pos c,dg (by omega)];show _=if 0<=x then _ else _;rw[if_pos c]
  ·rw[if_neg c];show _=if 0<=x then _ else _;rw[if_neg c]
theorem GR {n:Nat} {z:Int} (h0:0<=z) (h:z.toNat<n):yI n z=some z.toNat:=by
 unfold yI;rw[if_pos h0,if_pos (by omega)]
theorem Gc {G:List (Option Int)} {k:Nat} {o:Option Int}:(tV G).set k (oV o)=tV (G.set k o):=by unfold tV;rw[aaI]
structure WY (W:Lf) (z:Int) (pl:Int) (g0:Int) (ws:List Wy) (G0 G:Tb):Prop where
 good:GoodG W z G
 up:Ix G0 G
 at_:TU (G pl) g0
 out:∀ w∈ws,0<=g0+w.2->TU (G w.1) (g0+w.2)
def So:Sp:=λvs H Q _=>∃ (ga:ak) (v:V) (pl:Int) (G:List (Option Int)) (ws:List Wy) (W:Lf) (z g0:Int),vs=[.ref ga,v,.int pl]/\H ga=some (.lst (tV G))/\Ki (del H ga) ws v/\0<=pl/\pl<G.length/\(∀ w∈ws,0<=w.1/\w.1<G.length)/\(∀ w∈ws,w∈gf W pl)/\GoodG W z (cU G)/\cU G pl=some g0 /\
 ∀ (G':List (Option Int)),G'.length=G.length->WY W z pl g0 ws (cU G) (cU G')->Q .fj (upd H ga (.lst (tV G')))
theorem Vg (F:aX K mg "add_gains" lq ["gains","ways","place"]) (T:Txt mg):Dn P w K mg base "add_gains" 1 ["gains","ways","place"] So:=by
 have sc:=BO;refine F.ok sc (λvs H Q E h=>?_) (λf di A outer s H vs Q E hr h=>?_)
 ·obtain⟨_,_,_,_,_,_,_,_,rfl,_⟩:=h;rfl
 obtain⟨ga,v,pl,G,ws,W,z,g0,rfl,Pq,hv,p0,p1,rg,Dr,good,jv,q⟩:=h;obtain⟨wl,us,rfl,uj,ul,ya⟩:=mT hv;have nwl:wl≠ga:=λe=>by rw[e] at uj;unfold del at uj;rw[if_pos rfl] at uj;cases uj
 have dl:∀ {c:ak} {o:HO},del H ga c=some o->c≠ga/\H c=some o:=λ{c o} e=>by
  have n:c≠ga:=λz=>by rw[z] at e;unfold del at e;rw[if_pos rfl] at e;cases e
  exact⟨n,by rw[gc n] at e;exact e⟩
 refine⟨_,(aC (dW bh rfl (c8 (pv 1)) (j7 rfl (cH (bZ (i:=3) sc.nd rfl (aW rfl)) (cH (bZ (i:=4) sc.nd rfl (aW rfl)) iL)))
   (av (bJ (i:=5) sc.nd rfl (aW rfl) (bV gY (bL (m5 (K:=K) rfl) (pv 0) (pv 2) (λ_ _=>rfl)) (pv 4)))
   (aC (dC (PW.pt (a0j (cg Mw (pv 5) aA (cE _)) (a0g (PW.pt (a0h (lL (mJ (bL (m5 (K:=K) rfl) (pv 0) (pv 3) (λ_ _=>rfl)))) (a0f (cg Ha (pv 5) (bL (m5 (K:=K) rfl) (pv 0) (pv 3) (λ_ _=>rfl)) (cE _))))))))
   (aC (oO (pv 5) (oN (pv 0) (pv 3) a0d)))
   cr))))),?_⟩
 refine⟨_,rfl,wl,rfl,⟨_,bQ.of (dl uj).2⟩,gy (K:=K) (a:=wl) (xs:=us) (λi σ H2=>∃ (G':List (Option Int)) (y1 y2 y3:Option V),σ=[some (.ref ga),some (.ref wl),some (.int pl),y1,y2,y3]/\H2=upd H ga (.lst (tV G'))/\G'.length=G.length/\WY W z pl g0 (ws.take i) (cU G) (cU G'))
  ⟨G,_,_,_,rfl,(by funext c;by_cases e:c=ga;subst e;rw[au,Pq];rw[bK e]),rfl,good,Ix.refl _,⟨g0,jv,dz _⟩,λ_ z=>by cases z⟩ (λi σ H2 _ h=>?_) (λi x σ H2 hi h=>?_) (λσ H2 h=>?_)⟩
 ·obtain⟨_,_,_,_,_,rfl,_⟩:=h;exact bQ.of (by rw[bK nwl];exact (dl uj).2)
 ·obtain⟨G',y1,y2,y3,rfl,rfl,gl,gn⟩:=h;have il:i<ws.length:=by rw[← ul];exact (af.mp hi).1
  obtain⟨t,hu,ht⟩:=ya i _ (ao il);rw[hi] at hu;injection hu with hu;subst hu;obtain⟨nt1,Ox⟩:=dl ht;have DZ:=rg _ (cq il);have oi:=Dr _ (cq il);have WH:ws.take (i+1)=ws.take i++[ws[i]]:=by rw[nQ,ao il];rfl
  rw[WH];generalize ws[i]=wi at ht Ox DZ oi;obtain⟨gp,hgp,hle⟩:=gn.at_;have a1:=tW (T:=G') p0 (by omega);have a2:=tW (T:=G') DZ.1 (by omega);rw[hgp] at a1;refine⟨t,_,rfl,eU.of (by rw[bK nt1];exact Ox),rfl,_,_,rfl,_,_,rfl,rfl,?_⟩;refine⟨_,rfl,_,rfl,ga,_,_,_,rfl,rfl,bQ.of au,a1,_,rfl,_,_,rfl,rfl,?_⟩;have keep:(¬ (0<=gp+wi.2)\/∃ g,cU G' wi.1=some g/\gp+wi.2<=g)->WY W z pl g0 (ws.take i++[wi]) (cU G) (cU G'):=λc=>⟨gn.good,gn.up,gn.at_,λw' pG h9=>by
   rcases bj.mp pG with y | y
   ·exact gn.out w' y h9
   ·rw[aP.mp y] at h9 ⊢;rcases c with c | ⟨g,e,c⟩
    ·omega
    ·exact⟨g,e,by omega⟩⟩
  have afj:0<=gp+wi.2->(∀ g,cU G' wi.1=some g->g<=gp+wi.2)->WY W z pl g0 (ws.take i++[wi]) (cU G) (QC (cU G') wi.1 (gp+wi.2)):=λh0 hm=>by
   have u:=Ix.put (G:=cU G') (q:=wi.1) (v:=gp+wi.2) hm;refine⟨gn.good.step hgp oi h0,gn.up.trans u,u _ _ gn.at_,λw' pG h9=>?_⟩;rcases bj.mp pG with y | y
   ·exact u _ _ (gn.out w' y h9)
   ·rw[aP.mp y];exact⟨gp+wi.2,if_pos rfl,by omega⟩
  have fin:0<=gp+wi.2->(∀ g,cU G' wi.1=some g->g<=gp+wi.2)->∃ (SZ:List (Option Int)),upd (upd H ga (.lst (tV G'))) ga (.lst ((tV G').set wi.1.toNat (V.int (gp+wi.2))))=upd H ga (.lst (tV SZ))/\SZ.length=G.length/\WY W z pl g0 (ws.take i++[wi]) (cU G) (cU SZ):=λh0 hm=>by
   refine⟨G'.set wi.1.toNat (some (gp+wi.2)),?_,by rw[fN];exact gl,by rw[HW DZ.1 (by omega)];exact afj h0 hm⟩;rw[HX,← Gc];rfl
  refine⟨_,rfl,_,_,rfl,rfl,_,rfl,?_⟩;refine fB (λc=>?_) (λc=>?_)
  ·have c:0<=gp+wi.2:=of_decide_eq_true c;refine⟨_,rfl,_,rfl,ga,_,_,_,rfl,rfl,bQ.of au,a2,_,rfl,?_⟩;cases e:cU G' wi.1 with
   | none =>
    refine mF (mF ?_);obtain⟨SZ,e1,e2,e3⟩:=fin c (λg h=>by rw[e] at h;cases h);exact⟨_,rfl,_,rfl,_,rfl,ga,_,_,_,rfl,rfl,au,GR DZ.1 (by rw[ik];omega),SZ,_,_,_,rfl,e1,e2,e3⟩
   | some g =>
    rw[e] at a2;refine fW ?_;refine⟨_,rfl,_,rfl,_,rfl,ga,_,_,_,rfl,rfl,bQ.of au,a2,_,_,rfl,rfl,_,rfl,?_⟩;refine fB (λc2=>?_) (λc2=>?_)
    ·have c2:g<gp+wi.2:=of_decide_eq_true c2;obtain⟨SZ,e1,e2,e3⟩:=fin c (λg' h=>by rw[e] at h;cases h;omega);exact⟨_,rfl,_,rfl,_,rfl,ga,_,_,_,rfl,rfl,au,GR DZ.1 (by rw[ik];omega),SZ,_,_,_,rfl,e1,e2,e3⟩
    ·have c2:¬ g<gp+wi.2:=λz=>c2 (decide_eq_true z);exact⟨G',_,_,_,rfl,rfl,gl,keep (.inr ⟨g,e,by omega⟩)⟩
  ·have c:¬ 0<=gp+wi.2:=λz=>c (decide_eq_true z);refine fW ?_;exact⟨G',_,_,_,rfl,rfl,gl,keep (.inl c)⟩
 ·obtain⟨G',_,_,_,rfl,rfl,gl,gn⟩:=h;rw[ul,aY] at gn;exact q G' gl gn
theorem ZE:∀ k:Nat,(aD k [V.fj]).flatten=tV (aD k none)
 | 0=>rfl
 | k+1=>by rw[fV,gP,ZE k,fV];rfl
theorem NF {k:Nat} {x:Int}:cU (aD k none) x=none:=by
 unfold cU
 by_cases c:0<=x
 ·rw[if_pos c,er]
  by_cases d:x.toNat<k
  ·rw[if_pos d];rfl
  ·rw[if_neg d];rfl
 ·rw[if_neg c]
theorem DD {H:Hp} {W:Lf} {v:V} (h:VA H W v):∃ a us,v=.ref a/\H a=some (.lst us)/\us.length=W.length/\∀ (i:Nat) (r:List Wy),W[i]?=some r->∃ u,us[i]?=some u/\Ki H r u:=by
 obtain⟨a,us,rfl,ha,pr⟩:=h;exact⟨a,us,rfl,ha,(uU pr).symm,λi r hr=>L2.Paired.at pr hr⟩
theorem DU {W:Lf} {i:Nat} {r:List Wy} (h:W[i]?=some r):gf W (i:Int)=r:=by unfold gf;rw[show ((i:Int)).toNat=i from rfl,h];rfl
structure W6 (W:Lf):Prop where
 qN:W.length<=16
 fw2:∀ r∈W,r.length<=100
 UW:CK W W.length
def Nb:Sp:=λvs H Q _=>∃ (v:V) (W:Lf) (z:Int),vs=[v,.int z]/\VA H W v/\W6 W/\0<=z/\z<W.length/\∀ (b:Bool) H',bp H H'->(b=true->∃ r,Rg W z r)->(b=false->∀ r,Rg W z r->¬ r.length<=W.length)->Q (.bl b) H'
theorem Qa (F:aX K mg "comes_back" i8 ["left","start"]) (T:Txt mg) (CD:Dn P w K mg base "add_gains" 1 ["gains","ways","place"] So):Dn P w K mg base "comes_back" 2 ["left","start"] Nb:=by
 have sc:=yV;refine F.ok sc (λvs H Q E h=>?_) (λf di A outer s H vs Q E hr h=>?_)
 ·obtain⟨_,_,_,rfl,_⟩:=h;rfl
 obtain⟨v,W,z,rfl,hv,lo,z0,z1,q⟩:=h;obtain⟨a,us,rfl,ha,ul,ya⟩:=DD hv;have qN:=lo.qN;refine⟨_,(av (bJ (i:=2) sc.nd rfl (oo rfl) (bV uR (eP (aa oM ar)) (bE (eV (K:=K) rfl) rfl T.eL be (aa (pv 0) ar))))
   (av (oO aA (oN (pv 2) (pv 1) a0d))
   (av (dW bh rfl (iE rfl T.jW (aa (bE (eV (K:=K) rfl) rfl T.eL be (aa (pv 0) ar)) ar)) (bZ (i:=3) sc.nd rfl (aW rfl))
   (aC (dW bh rfl (iE rfl T.jW (aa (bE (eV (K:=K) rfl) rfl T.eL be (aa (pv 0) ar)) ar)) (bZ (i:=4) sc.nd rfl (oo rfl))
   (aC (dC (lL (wb (bL (m5 (K:=K) rfl) (pv 2) (pv 4) (λ_ _=>rfl))))
   (av (da (cx CD hr (aa (pv 2) (aa (bL (m5 (K:=K) rfl) (pv 0) (pv 4) (λ_ _=>rfl)) (aa (pv 4) ar)))))
   (aC (dC (tI (tE (aG i8) ["left","start","gains","turn","place"] ["way","amount","start","gains","place"] 2 [1,2,4] (c8 (bL (m5 (K:=K) rfl) (pv 0) (pv 4) (λ_ _=>rfl))) (λ_ _ _ _ _ _=>(JA (K:=K) rfl rfl (show cO (["way","amount","start","gains","place"]:List bc) by decide +kernel) rfl rfl rfl rfl)) (λ_ _ _ _ _ _=>(ng (PW.pt (a0j (cg iR (pv 0) (pv 2) (cE _)) (a0g (cg Mw (bV gY (bL (m5 (K:=K) rfl) (pv 3) (pv 4) (λ_ _=>rfl)) (pv 1)) aA (cE _))))))) (λ_ _ _ _ _ _=>(pv 0))) (by intro _;rfl))
   (aC (cf lf))
   cr)))
   cr)))))
   (aC (cf lf))))),?_⟩
 refine⟨(by show 1<=aJ;decide),λp1 h1=>?_⟩;have s1:=ay h1 (.lst [V.fj]);have k1:upd H p1 (.lst [V.fj]) p1=some (.lst [V.fj]):=au;generalize upd H p1 (.lst [V.fj])=H1 at s1 k1 ⊢;refine⟨_,rfl,a,_,rfl,.inl (bQ.of (s1 _ _ ha)),p1,_,_,rfl,rfl,k1,by omega,by omega,a0b (m:=1000) (by rw[cC];omega),λga Pq=>?_⟩;rw[show (((us.length:Nat):Int)).toNat=W.length by omega,ZE];refine⟨_,rfl,_,rfl,ga,_,_,_,rfl,rfl,au,GR z0 (by rw[ik,dX];omega),?_⟩;have Uc:H ga=none:=s1.free Pq;have eh:upd (upd H1 ga (.lst (tV (aD W.length none)))) ga (.lst ((tV (aD W.length none)).set z.toNat (V.int 0)))=upd H1 ga (.lst (tV ((aD W.length none).set z.toNat (some 0)))):=by rw[HX,← Gc];rfl
 rw[eh];have s2:bp H (upd H1 ga (.lst (tV ((aD W.length none).set z.toNat (some 0))))):=s1.put Uc _;have Kc:upd H1 ga (.lst (tV ((aD W.length none).set z.toNat (some 0)))) ga=some (.lst (tV ((aD W.length none).set z.toNat (some 0)))):=au;generalize upd H1 ga (.lst (tV ((aD W.length none).set z.toNat (some 0))))=H2 at s2 Kc ⊢;have t0:cU ((aD W.length none).set z.toNat (some 0))=QC (cU (aD W.length none)) z 0:=HW z0 (by rw[dX];exact z1);have gd0:GoodG W z (cU ((aD W.length none).set z.toNat (some 0))):=GoodG.start λp g e=>by
  rw[t0] at e;have e:(if p=z then some 0 else cU (aD W.length none) p)=some g:=e
  by_cases c:p=z
  ·rw[if_pos c] at e;cases e;exact⟨c,rfl⟩
  ·rw[if_neg c,NF] at e;cases e
 have cm0:Kx W z 0 (cU ((aD W.length none).set z.toNat (some 0))):=Kx.start (by rw[t0];exact if_pos rfl);refine⟨_,rfl,a,_,rfl,.inl (bQ.of (s2 _ _ ha)),((us.length:Nat):Int),rfl,by omega,by omega,jL (lo:=0) (n:=((us.length:Nat):Int).toNat) (λt σ H3=>∃ (G:List (Option Int)) (y1 y2:Option V),σ=[some (.ref a),some (.int z),some (.ref ga),y1,y2]/\bp H H3/\H3 ga=some (.lst (tV G))/\G.length=W.length/\GoodG W z (cU G)/\Kx W z t (cU G))
  ⟨_,_,_,rfl,s2,Kc,by rw[fN,dX],gd0,cm0⟩ (λt σ H3 ht h=>?_) (λσ H3 h=>?_)⟩
 ·obtain ⟨G,y1,y2,rfl,s3,Pp,gl,gd,cm⟩:=h;refine⟨_,rfl,a,_,rfl,.inl (bQ.of (s3 _ _ ha)),((us.length:Nat):Int),rfl,by omega,by omega,jL (lo:=0) (n:=((us.length:Nat):Int).toNat) (λi σ H3=>∃ (G:List (Option Int)) (y1 y2:Option V),σ=[some (.ref a),some (.int z),some (.ref ga),y1,y2]/\bp H H3/\H3 ga=some (.lst (tV G))/\G.length=W.length/\GoodG W z (cU G)/\ut W z t i (cU G))
   ⟨_,_,_,rfl,s3,Pp,gl,gd,cm.mid⟩ (λi σ H4 hi h=>?_) (λσ H4 h=>?_)⟩
  ·clear s3 Pp gl gd cm;obtain⟨G,y1,y2,rfl,s4,XV,gl,gd,cm⟩:=h;have il:i<W.length:=by omega
   have ap:=tW (T:=G) (x:=0+(i:Int)) (by omega) (by omega);have ei:(0+(i:Int))=((i:Nat):Int):=by omega
   refine⟨_,rfl,_,rfl,ga,_,_,_,rfl,rfl,bQ.of XV,ap,_,rfl,?_⟩;rw[ei] at ap ⊢;cases e:cU G (i:Int) with
   | none =>
    refine fW ?_;exact⟨G,_,_,rfl,s4,XV,gl,gd,cm.skip e⟩
   | some g =>
    refine mF ?_;obtain⟨u,hu,WB⟩:=ya i _ (ao il);have oi:=DU (ao il);have fi:=lo.fw2 _ (cq il);have DZ:∀ x∈W[i],0<=x.1/\x.1<(W.length:Int):=λx hx=>lo.UW (i:Int) x (by rw[oi];exact hx);have dH:bp H (del H4 ga):=λc o e=>by
     have n:c≠ga:=λz=>by rw[z,Uc] at e;cases e
     rw[gc n];exact s4 _ _ e
    generalize W[i]=ws at WB oi fi DZ;obtain⟨wl,Km,rfl,uj,Rq,JQ⟩:=mT WB;refine⟨_,rfl,_,rfl,_,rfl,a,_,_,_,rfl,rfl,bQ.of (s4 _ _ ha),bu hu,_,rfl,ga,_,_,G,ws,W,z,g,rfl,XV,gR.up dH WB,by omega,by omega,λx hx=>by have:=DZ x hx;omega,λx hx=>by rw[oi];exact hx,gd,e,λG' gl' gn=>?_⟩;have s5:bp H (upd H4 ga (.lst (tV G'))):=s4.put Uc _;have XW:upd H4 ga (.lst (tV G')) ga=some (.lst (tV G')):=au;generalize upd H4 ga (.lst (tV G'))=H5 at s5 XW ⊢;obtain⟨g',XR,gle⟩:=gn.at_;have ap':=tW (T:=G') (x:=(i:Int)) (by omega) (by omega);rw[XR] at ap';refine⟨_,rfl,_,rfl,a,_,_,_,rfl,rfl,bQ.of (s5 _ _ ha),bu hu,wl,rfl,⟨_,bQ.of (s5 _ _ uj)⟩,cY (K:=K) (a:=wl) (xs:=Km) (λj ys H6=>bp H5 H6/\ys.length<=j/\((ys=[]/\∀ x∈ws.take j,¬ (x.1=z/\0<=g'+x.2))\/(ys≠[]/\∃ x∈ws,x.1=z/\0<=g'+x.2))) ⟨bp.refl _,az _,.inl ⟨rfl,λ_ z=>by cases z⟩⟩ (a0b (m:=1000) (by omega)) (λj ys H6 hj h=>?_) (λj x ys H6 hj h=>?_) (λys H6 h lb Uq=>?_)⟩
    ·exact⟨bQ.of (h.1 _ _ (s5 _ _ uj)),h.2.1⟩
    ·obtain⟨s6,yl,h⟩:=h;have jl:j<ws.length:=by rw[← Rq];exact (af.mp hj).1
     obtain⟨t,Co,ht⟩:=JQ j _ (ao jl);rw[hj] at Co;injection Co with Co;subst Co;have WH:ws.take (j+1)=ws.take j++[ws[j]]:=by rw[nQ,ao jl];rfl
     rw[WH];have hm:=cq jl;generalize ws[j]=wj at ht hm;have no:¬ (wj.1=z/\0<=g'+wj.2)->bp H5 H6/\ys.length<=j+1/\((ys=[]/\∀ x∈ws.take j++[wj],¬ (x.1=z/\0<=g'+x.2))\/(ys≠[]/\∃ x∈ws,x.1=z/\0<=g'+x.2)):=λc=>by
      refine⟨s6,by omega,?_⟩;rcases h with ⟨rfl,h⟩ | h
      ·refine .inl ⟨rfl,λx hx=>?_⟩;rcases bj.mp hx with y | y
       ·exact h x y
       ·rw[aP.mp y];exact c
      ·exact .inr h
     refine⟨t,_,rfl,eU.of (s6 _ _ (s5 _ _ ht)),rfl,?_⟩;refine⟨_,rfl,_,rfl,rfl,_,rfl,?_⟩;refine fB (λc=>?_) (λc=>?_)
     ·have c:wj.1=z:=by have:=of_decide_eq_true c;injection this
      refine⟨_,rfl,_,rfl,ga,_,_,_,rfl,rfl,bQ.of (s6 _ _ XW),ap',_,rfl,_,_,rfl,rfl,_,_,rfl,rfl,_,rfl,?_⟩;refine fB (λc2=>?_) (λc2=>?_)
      ·have c2:0<=g'+wj.2:=of_decide_eq_true c2;exact⟨_,rfl,s6,by rw[aO,cC];omega,.inr ⟨by simp,wj,hm,c,c2⟩⟩
      ·exact no λy=>c2 (decide_eq_true y.2)
     ·exact fW (no λy=>c (decide_eq_true (by rw[y.1])))
    ·obtain⟨s6,yl,h⟩:=h;rw[Rq,aY] at h;have s7:=s6.trans (ay Uq (.lst ys));refine⟨!ys.isEmpty,?_,?_⟩
     ·exact .inl ⟨ys,bQ.of au,rfl⟩
     ·rcases h with ⟨rfl,h⟩ | ⟨kU,x,hx,hxz,YL⟩
      ·refine fW ?_;refine⟨G',_,_,rfl,s5.trans s7,s7 _ _ XW,by omega,gn.good,cm.WP gn.up (λx hx gg Pr h0=>?_) (λx hx hxz gg Pr h0=>?_)⟩
       ·rw[e] at Pr;cases Pr;exact gn.out x (by rw[oi] at hx;exact hx) h0
       ·rw[XR] at Pr;cases Pr;exact h x (by rw[oi] at hx;exact hx) ⟨hxz,h0⟩
      ·have hie:(!ys.isEmpty)=true:=by cases ys with | nil=>exact absurd rfl kU | cons a b=>rfl
       rw[hie];refine mF ?_;exact q true _ (s5.trans s7) (λ_=>gn.good.back XR (by rw[oi];exact hx) hxz YL) (λz=>by cases z)
  ·obtain⟨G,y1,y2,rfl,s4,XV,gl,gd,cm⟩:=h;rw[show (((us.length:Nat):Int)).toNat=W.length by omega] at cm;exact⟨G,_,_,rfl,s4,XV,gl,gd,cm.done lo.UW ⟨z0,z1⟩⟩
 ·obtain⟨G,y1,y2,rfl,s3,Pp,gl,gd,cm⟩:=h;rw[show (((us.length:Nat):Int)).toNat=W.length by omega] at cm;exact q false _ s3 (λz=>by cases z) λ_ r hr hl=>cm.none hr hl
def ZW (K:aj):Sp:=λvs H Q _=>∃ (v:V) (W:Lf),vs=[v]/\VA (nt H) W v/\W6 W/\(∀ r∈W,r≠[])/\qI K H/\∀ (l:ak) (T:List (Option Int)) (H':Hp),Sm H H'->qI K H'->nt H l=none->nt H' l=some (.lst (tV T))->T.length=W.length->sv W W.length (cU T)->Q (.ref l) H'
theorem NG {G:List (Option Int)} {i:Nat} {o:Option Int} (h1:i<G.length):cU (G.set i o)=λp=>if p=(i:Int) then o else cU G p:=by
 funext x;unfold cU
 by_cases e:x=(i:Int)
 ·subst e;rw[if_pos (by omega),if_pos rfl,show ((i:Int)).toNat=i from rfl,cS h1];rfl
 ·rw[if_neg e]
  by_cases c:0<=x
  ·rw[if_pos c,if_pos c,dg (by omega)]
  ·rw[if_neg c,if_neg c]
theorem Zf (F:aX K mg "needs_left" jb ["left"]) (T:Txt mg) (AM:Dn P w K mg base "comes_back" 2 ["left","start"] Nb) (nq:Dn P w K mg base "least_needy" 4 ["ways","purses"] (Ni K false)) (jI:Dn P w K mg base "need_by" 1 ["purses","place","amount"] qe) (uv:Dn P w K mg base "is_more" 2 ["need","other"] F6):Dn P w K mg base "needs_left" 5 ["left"] (ZW K):=by
 have sc:=y9;refine F.ok sc (λvs H Q E h=>?_) (λf di A outer s H vs Q E hr h=>?_)
 ·obtain⟨_,_,rfl,_⟩:=h;rfl
 obtain⟨v,W,rfl,hv,lo,wne,tb,q⟩:=h;have qN:=lo.qN;obtain⟨a,us,rfl,ha,ul,ya⟩:=DD hv;have hvH:=G2.up bX hv;refine⟨_,(av (vn (i:=1) (aG jb) ["left","table","turn","place","ways","way","need"] ["place","left"] 1 [0] sc.nd rfl rfl (iE rfl T.jW (aa (bE (eV (K:=K) rfl) rfl T.eL be (aa (pv 0) ar)) ar)) (λ_ _ _ _ _ _=>(gB (show cO (["place","left"]:List bc) by decide +kernel) rfl rfl)) (λ_ _ _ _ _ _=>iM) (λ_ _ _ _ _ _=>(lm (fC (cx AM hr (aa (pv 1) (aa (pv 0) ar)))) aA oM)))
   (av (dW bh rfl (iE rfl T.jW (aa (bE (eV (K:=K) rfl) rfl T.eL be (aa (pv 0) ar)) ar)) (bZ (i:=2) sc.nd rfl (aW rfl))
   (aC (dW bh rfl (BI (K:=K) rfl rfl T.pC (aa (pv 0) ar)) (j7 rfl (cH (bZ (i:=3) sc.nd rfl (aW rfl)) (cH (bZ (i:=4) sc.nd rfl (aW rfl)) iL)))
   (av (bJ (i:=5) sc.nd rfl (aW rfl) (cx nq hr (aa (pv 4) (aa (pv 1) ar))))
   (av (bJ (i:=6) sc.nd rfl (aW rfl) (cx jI hr (aa (pv 1) (aa (bL (jM (K:=K) rfl) (pv 5) aA (λ_ _=>rfl)) (aa (bL (jM (K:=K) rfl) (pv 5) aA (λ_ _=>rfl)) ar)))))
   (aC (dC (fC (cx uv hr (aa (bL (m5 (K:=K) rfl) (pv 1) (pv 3) (λ_ _=>rfl)) (aa (pv 6) ar))))
   (aC (oO (pv 6) (oN (pv 1) (pv 3) a0d)))
   cr)))))))
   (aC (cf (pv 1))))),?_⟩
 refine⟨_,rfl,a,_,rfl,.inl (bQ.of (bX _ _ ha)),((us.length:Nat):Int),rfl,by omega,by omega,ve (lo:=0) (n:=((us.length:Nat):Int).toNat) (λi ys H2=>bp H H2/\∃ T0:List (Option Int),ys=tV T0/\T0.length=i/\∀ j,j<i->(T0[j]?=some (some 0)/\∃ r,Rg W (j:Int) r)\/(T0[j]?=some none/\∀ r,Rg W (j:Int) r->¬ r.length<=W.length)) ⟨bp.refl _,[],rfl,rfl,λj hj=>absurd hj (kr j)⟩ (a0b (m:=1000) (by omega)) (λi ys H2 hi h=>?_) (λi ys H2 hi h=>?_) (λys H2 h tl htl=>?_)⟩
 ·obtain⟨_,T0,rfl,l0,_⟩:=h;rw[ik,l0];exact az _
 ·obtain⟨s2,T0,rfl,l0,h0⟩:=h;refine mB ?_;refine⟨_,rfl,_,rfl,_,W,0+(i:Int),rfl,G2.up s2 hvH,lo,by omega,by omega,λb H3 s3 b1 b2=>⟨b,rfl,?_⟩⟩;have ei:(0+(i:Int))=((i:Nat):Int):=by omega
  rw[ei] at b1 b2;have more:∀ o:Option Int,((o=some 0/\∃ r,Rg W (i:Int) r)\/(o=none/\∀ r,Rg W (i:Int) r->¬ r.length<=W.length))->bp H H3/\∃ T1:List (Option Int),tV T0++[oV o]=tV T1/\T1.length=i+1/\∀ j,j<i+1->(T1[j]?=some (some 0)/\∃ r,Rg W (j:Int) r)\/(T1[j]?=some none/\∀ r,Rg W (j:Int) r->¬ r.length<=W.length):=λo ho=>by
   refine⟨s2.trans s3,T0++[o],by unfold tV;rw[aN];rfl,by rw[aO,l0];rfl,λj hj=>?_⟩;rcases cN j i with c | c
   ·rw[bW (by omega)];exact h0 j c
   ·have:j=i:=by omega
    subst this;rw[bU (by omega),l0,ny];rcases ho with ⟨rfl,h⟩ | ⟨rfl,h⟩
    ·exact .inl ⟨rfl,h⟩
    ·exact .inr ⟨rfl,h⟩
  cases b with
  | true=>exact mF (more (some 0) (.inl ⟨rfl,b1 rfl⟩))
  | false=>exact fW (more none (.inr ⟨rfl,b2 rfl⟩))
 obtain⟨s2,T0,rfl,l0,h0⟩:=h;rw[show (((us.length:Nat):Int)).toNat=W.length by omega] at l0 h0;have t0n:∀ {x v:Int},cU T0 x=some v->v=0/\0<=x/\x<(W.length:Int)/\∃ r,Rg W x r:=λ{x v} e=>by
  unfold cU at e
  by_cases c:0<=x
  ·rw[if_pos c] at e;have xl:x.toNat<T0.length:=by
    rcases cN x.toNat T0.length with z | z
    ·exact z
    ·rw[bo z] at e;cases e
   rcases h0 x.toNat (by omega) with ⟨e1,r⟩ | ⟨e1,_⟩
   ·rw[e1] at e;have e:some 0=some v:=e;injection e with e;have ex:((x.toNat:Nat):Int)=x:=by omega
    rw[ex] at r;exact⟨e.symm,c,by omega,r⟩
   ·rw[e1] at e;cases e
  ·rw[if_neg c] at e;cases e
 obtain⟨Z,Ws⟩:∃ Z:Int->Prop,Z=λx=>cU T0 x=some 0:=⟨_,rfl⟩
 have hZb:∀ x s,s≠[]->Wk W x s x->0<=sm s->∃ w∈s,Z w.1:=FG lo.UW λz z0 z1 ⟨r,hr,hl⟩=>by
  rw[Ws];rcases h0 z.toNat (by omega) with ⟨e1,_⟩ | ⟨_,e2⟩
  ·show cU T0 z=some 0;unfold cU;rw[if_pos z0,e1];rfl
  ·exact absurd hl (e2 r (by rw[show ((z.toNat:Nat):Int)=z by omega];exact hr))
 have hB:∀ z,Z z->0<=z/\z<(W.length:Int)/\∃ s,s≠[]/\Wk W z s z/\J3 0 s:=λz hz=>by
  rw[Ws] at hz;obtain⟨_,h1,h2,r,hr⟩:=t0n hz;exact⟨h1,h2,r,hr.1,hr.2.1,hr.2.2⟩
 have tk0:Tk W Z (cU T0):=⟨λx v e=>by rw[(t0n e).1];exact dz _,λx hx=>by rw[Ws] at hx;exact hx,λx v e=>by
  obtain⟨rfl,_⟩:=t0n e;exact⟨[],x,rfl,by rw[Ws];exact e,dz _⟩,λx v e=>by
  obtain⟨rfl,_⟩:=t0n e;exact .inl (by rw[Ws];exact e)⟩
 have rn0:Og W Z W.length 0 (cU T0):=Og.start λx hx=>by rw[Ws] at hx;exact hx
 have aej:H tl=none:=s2.free htl;have YA:nt H tl=none:=v8 aej;have S3:Sm H (upd H2 tl (.lst (tV T0))):=Sm.of (s2.trans (ay htl _));have Cs:qI K (upd H2 tl (.lst (tV T0))):=tb.up (s2.trans (ay htl _));have hT3:upd H2 tl (.lst (tV T0)) tl=some (.lst (tV T0)):=au;generalize upd H2 tl (.lst (tV T0))=H3 at S3 Cs hT3 ⊢;refine⟨_,rfl,a,_,rfl,.inl (bQ.of (S3.lst ha)),((us.length:Nat):Int),rfl,by omega,by omega,jL (lo:=0) (n:=((us.length:Nat):Int).toNat) (λt σ H4=>∃ (TT:List (Option Int)) (y1 y2 y3 y4 y5:Option V),σ=[some (.ref a),some (.ref tl),y1,y2,y3,y4,y5]/\Sm H H4/\qI K H4/\H4 tl=some (.lst (tV TT))/\TT.length=W.length/\Tk W Z (cU TT)/\Og W Z W.length t (cU TT))
  ⟨T0,_,_,_,_,_,rfl,S3,Cs,hT3,l0,tk0,rn0⟩ (λt σ H4 ht h=>?_) (λσ H4 h=>?_)⟩
 ·obtain⟨TT,y1,y2,y3,y4,y5,rfl,S4,Ee,hT4,l4,tk4,ZF⟩:=h;refine⟨_,rfl,a,rfl,⟨_,bQ.of (S4.lst ha)⟩,xh (K:=K) (a:=a) (xs:=us) (λi σ H5=>∃ (TT:List (Option Int)) (y1 y2 y3 y4 y5:Option V),σ=[some (.ref a),some (.ref tl),y1,y2,y3,y4,y5]/\Sm H H5/\qI K H5/\H5 tl=some (.lst (tV TT))/\TT.length=W.length/\Tk W Z (cU TT)/\Tg W Z W.length t i (cU TT))
   ⟨TT,_,_,_,_,_,rfl,S4,Ee,hT4,l4,tk4,ZF.mid⟩ (λi σ H5 _ h=>?_) (λi x σ H5 tt hi h Fw=>?_) (λσ H5 h=>?_)⟩
  ·obtain⟨_,_,_,_,_,_,_,S5,_⟩:=h;exact bQ.of (S5.lst ha)
  ·clear S4 Ee hT4 l4 tk4 ZF;obtain⟨TT,y1,y2,y3,y4,y5,rfl,S5,OE,hT5,l5,tk5,md5⟩:=h;have il:i<W.length:=by rw[← ul];exact (af.mp hi).1
   obtain⟨u,hu,WB⟩:=ya i _ (ao il);rw[hi] at hu;injection hu with hu;subst hu;have oi:=DU (ao il);have wn:=wne _ (cq il);generalize W[i]=ws at WB oi wn;have DZ:∀ y∈ws,0<=y.1/\y.1<(W.length:Int):=λy hy=>lo.UW (i:Int) y (by rw[oi];exact hy);have s6:=ay Fw (.tup [V.int ((i:Nat):Int),x]);have S6:=S5.trans (Sm.of s6);have ND:=OE.up s6;have hT6:=s6 _ _ hT5;refine⟨tt,_,rfl,eU.of au,rfl,_,_,rfl,_,_,rfl,rfl,?_⟩;generalize upd H5 tt (.tup [V.int ((i:Nat):Int),x])=H6 at S6 ND hT6 ⊢;refine⟨_,rfl,_,rfl,x,tl,ws,TT,rfl,gR.up S6 WB,ig hT6,wn,λy hy=>by have:=DZ y hy;omega,ND,λwt wy H7 S7 VY GQ best PH=>?_⟩;have hT7:=S7.lst (ig hT6);have YJ:=bX _ _ PH;have rgw:=DZ wy GQ;refine⟨_,rfl,_,rfl,wt,_,_,_,rfl,rfl,eU.of YJ,bu (j:=0) rfl,_,rfl,wt,_,_,_,rfl,rfl,eU.of YJ,bu (j:=1) rfl,tl,TT,wy.1,wy.2,rfl,hT7,rgw.1,by omega,?_⟩;have api:=tW (T:=TT) (x:=(i:Int)) (by omega) (by omega);refine⟨_,rfl,_,rfl,tl,_,_,_,rfl,rfl,bQ.of hT7,api,_,rfl,cU TT (i:Int),a0a (cU TT) wy,rfl,λr H8 s8 hr8=>⟨r,rfl,?_⟩⟩;have S8:=(S6.trans S7).trans (Sm.of s8);have tb8:=VY.up s8;have hT8:=s8 _ _ hT7;have GC:∀ w'∈gf W (i:Int),fv (a0a (cU TT) wy) (a0a (cU TT) w'):=λw' pG=>by
    rw[oi] at pG;have:=best w' pG;rwa [if_neg (by decide)] at this
   cases r with
   | false =>
    refine fW ?_;have hle:fv (cU TT (i:Int)) (a0a (cU TT) wy):=bB λz=>by have:=hr8.mpr z;cases this
    have sw:Wp W (i:Int) (cU TT) (cU TT):=⟨λ_ _=>rfl,fv.refl _,λw' pG=>hle.trans (GC w' pG),.inl rfl⟩
    exact⟨TT,_,_,_,_,_,rfl,S8,tb8,hT8,l5,tk5,md5.WP lo.UW tk5 sw⟩
   | true =>
    refine mF ?_;have hle:¬ fv (cU TT (i:Int)) (a0a (cU TT) wy):=hr8.mp rfl;have sw:Wp W (i:Int) (cU TT) (cU (TT.set i (a0a (cU TT) wy))):=by
     rw[NG (by omega)];exact⟨λq hq=>if_neg hq,by rw[if_pos rfl];exact (fv.total _ _).resolve_left hle,λw' pG=>by rw[if_pos rfl];exact GC w' pG,.inr ⟨wy,by rw[oi];exact GQ,if_pos rfl⟩⟩
    have NH:=tk5.WP sw;refine⟨_,rfl,_,rfl,_,rfl,tl,_,_,_,rfl,rfl,hT8,GR (by omega) (by rw[ik];omega),TT.set i (a0a (cU TT) wy),_,_,_,_,_,rfl,S8.put YA _,tb8.put hT8,?_,by rw[fN];exact l5,NH,md5.WP lo.UW NH sw⟩;rw[au,← Gc];rfl
  ·obtain⟨TT,y1,y2,y3,y4,y5,rfl,S5,OE,hT5,l5,tk5,md5⟩:=h;rw[ul] at md5;exact⟨TT,_,_,_,_,_,rfl,S5,OE,hT5,l5,tk5,md5.done⟩
 ·obtain⟨TT,y1,y2,y3,y4,y5,rfl,S4,Ee,hT4,l4,tk4,ZF⟩:=h;rw[show (((us.length:Nat):Int)).toNat=W.length by omega] at ZF;exact⟨_,rfl,q tl TT H4 S4 Ee YA (ig hT4) l4 (Vd lo.UW hZb hB tk4 ZF)⟩
def Nn:Sp:=λvs H Q _=>∃ (g0 ra:ak) (gv:List V) (hand:Int) (R:List (Option Int)),vs=[.ref g0,.int hand,.ref ra]/\H g0=some (.lst gv)/\H ra=some (.lst (tV R))/\gv.length=R.length/\(∀ (i:Nat) (z:Int),R[i]?=some (some z)->∃ (t wa:ak) (ps:List Int),gv[i]?=some (.ref t)/\H t=some (.tup [.int hand,.int 0,.ref wa])/\H wa=some (.lst (ps.map V.int))/\z∈ps)/\∀ H',bp H H'->Q .fj H'
theorem xQ {R:List (Option Int)} {i:Nat} {x:V} (h:(tV R)[i]?=some x):∃ o,R[i]?=some o/\x=oV o:=by
 unfold tV at h;rw[aI] at h;obtain⟨o,ho,rfl⟩:=dP.mp h;exact⟨o,ho,rfl⟩
theorem Qk (F:aX K mg "check_rule" j9 ["game","hand","rule"]) (T:Txt mg) (jF:Dn P w K mg base "is_whole" 1 ["value"] oT):Dn P w K mg base "check_rule" 2 ["game","hand","rule"] Nn:=by
 have sc:=yT;refine F.ok sc (λvs H Q E h=>?_) (λf di A outer s H vs Q E hr h=>?_)
 ·obtain⟨_,_,_,_,_,rfl,_⟩:=h;rfl
 obtain⟨g0,r,gv,hand,R,rfl,jv,hR,hlen,hRO,q⟩:=h;have Do:gv.length=(tV R).length:=by rw[ik];exact hlen
 refine⟨_,(av (dC (PW.pt (a0h (jm (fC (bE (wZ (K:=K) rfl (T := "list")) rfl T.ib db (aa (pv 2) (aa (oJ (v:=.ty "list") rfl T.rC ek rfl) ar))))) (a0f (cg vk (bE (eV (K:=K) rfl) rfl T.eL be (aa (pv 2) ar)) (bE (eV (K:=K) rfl) rfl T.eL be (aa (pv 0) ar)) (cE _)))))
   (aC tH)
   cr)
   (aC (dW bh rfl (uS (K:=K) rfl rfl T.wW (aa (pv 0) (aa (pv 2) ar))) (j7 rfl (cH (bZ (i:=3) sc.nd rfl (aW rfl)) (cH (bZ (i:=4) sc.nd rfl (aW rfl)) iL)))
   (av (dC (lL (mJ (pv 4)))
   (aC vm)
   cr)
   (av (dC (cg vk (bL (jM (K:=K) rfl) (pv 3) aA (λ_ _=>rfl)) (pv 1) (cE _))
   (aC tH)
   cr)
   (aC (dC (PW.pt (a0h (jm (fC (cx jF hr (aa (pv 4) ar)))) (a0f (cg (FJ (K:=K) rfl) (pv 4) (bL (jM (K:=K) rfl) (pv 3) aA (λ_ _=>rfl)) rfl))))
   (aC tH)
   cr))))))),?_⟩
 refine⟨_,rfl,_,"list",_,rfl,.inl ⟨rfl,.inl ⟨_,hR⟩⟩,pJ _,_,rfl,?_⟩;refine fW ?_;refine⟨_,rfl,r,_,rfl,.inl (bQ.of hR),_,rfl,g0,_,rfl,.inl (bQ.of jv),rfl,_,rfl,?_⟩;refine fB (λc=>?_) (λc=>?_)
 ·exfalso;simp[Do] at c
 refine⟨_,rfl,_,rfl,g0,r,rfl,⟨_,bQ.of jv⟩,⟨_,bQ.of hR⟩,sV (K:=K) (a:=g0) (b:=r) (xs:=gv) (ys:=tV R) Do (λi σ H2=>bp H H2/\∃ y1 y2:Option V,σ=[some (.ref g0),some (.int hand),some (.ref r),y1,y2])
  ⟨bp.refl _,_,_,rfl⟩ (λi σ H2 _ h=>⟨bQ.of (h.1 _ _ jv),bQ.of (h.1 _ _ hR)⟩) (λi x y σ H2 Tt hi hj h hT=>?_) (λσ H2 h=>?_)⟩
 ·obtain⟨s2,y1,y2,rfl⟩:=h;obtain⟨o,ho,rfl⟩:=xQ hj;have s3:=s2.trans (ay hT (.tup [x,oV o]));refine⟨Tt,_,rfl,eU.of au,rfl,_,_,rfl,_,_,rfl,rfl,?_⟩;cases o with
  | none =>
   refine⟨_,rfl,_,rfl,?_⟩;refine mF ?_;exact⟨s3,_,_,rfl⟩
  | some z =>
   obtain⟨t,wa,ps,p1,p2,p3,hz⟩:=hRO i z ho;rw[hi] at p1;cases p1;refine⟨_,rfl,_,rfl,?_⟩;refine fW ?_;refine⟨_,rfl,t,_,_,_,rfl,rfl,eU.of (s3 _ _ p2),bu (j:=0) rfl,_,rfl,rfl,_,rfl,?_⟩;refine fB (λc=>?_) (λc=>?_)
   ·exfalso;simp at c
   refine⟨_,rfl,z,rfl,_,rfl,?_⟩;refine fW ?_;refine⟨_,rfl,_,rfl,t,_,_,_,rfl,rfl,eU.of (s3 _ _ p2),bu (j:=2) rfl,wa,_,rfl,.inl (bQ.of (s3 _ _ p3)),rfl,zI _,_,rfl,?_⟩;show if (!WM (.int z) (ps.map V.int))=true then _ else _;rw[xq];refine fB (λc=>?_) (λc=>?_)
   ·exfalso;simp[hz] at c
   ·exact⟨s3,_,_,rfl⟩
 ·exact q _ h.1
def afk (H:Hp) (row:cX) (v:V):Prop:=∃ (t wa:ak),v=.ref t/\H t=some (.tup [.int row.1,.int 0,.ref wa])/\H wa=some (.lst ((row.2.map (·.1)).map V.int))
def HK:Sp:=λvs H Q _=>∃ (v:V) (G:List cX) (ra:ak) (r:List (Option Int)),vs=[v,.ref ra]/\OC H G v/\H ra=some (.lst (tV r))/\Ci G r/\G.length<=16/\(∀ row∈G,row.2.length<=100)/\∀ H',bp H H'->Q .fj H'
theorem FO (F:aX K mg "check_spender" gq ["game","rule"]) (T:Txt mg) (AK:Dn P w K mg base "check_rule" 2 ["game","hand","rule"] Nn):Dn P w K mg base "check_spender" 3 ["game","rule"] HK:=by
 have sc:=uW;refine F.ok sc (λvs H Q E h=>?_) (λf di A outer s H vs Q E hr h=>?_)
 ·obtain⟨_,_,_,_,rfl,_⟩:=h;rfl
 obtain⟨v,G,ra,r,rfl,hv,Bs,rl,qN,qO,q⟩:=h;obtain⟨a,us,rfl,ha,ul,ya⟩:=n8 hv;refine⟨_,(av (da (cx AK hr (aa (tE (aG gq) ["game","rule","row","way"] ["hand","ways"] 2 [] (c8 (pv 0)) (λ_ _ _ _ _ _=>(JA (K:=K) rfl rfl (show cO (["hand","ways"]:List bc) by decide +kernel) rfl rfl rfl rfl)) (λ_ _ _ _ _ _=>iM) (λ_ _ _ _ _ _=>(gh (aa (pv 0) (aa aA (aa (by exact (we  ["hand","ways"] ["place","amount"] 2 [] (tF (pv 1)) (λ_ _ _ _ _ _=>(JA (K:=K) rfl rfl (show cO (["place","amount"]:List bc) by decide +kernel) rfl rfl rfl rfl)) (λ_ _ _ _ _ _=>iM) (λ_ _ _ _ _ _=>(pv 0)))) ar)))))) (aa aA (aa (pv 1) ar)))))
   (aC (dW bh rfl (uS (K:=K) rfl rfl T.wW (aa (pv 0) (aa (pv 1) ar))) (j7 rfl (cH (bZ (i:=2) sc.nd rfl (aW rfl)) (cH (bZ (i:=3) sc.nd rfl (aW rfl)) iL)))
   (aC (dC (PW.pt (a0j (cg iR (bL (jM (K:=K) rfl) (pv 2) aA (λ_ _=>rfl)) aA (cE _)) (a0g (lL (mJ (pv 3))))))
   (aC tH)
   cr))))),?_⟩
 refine⟨_,rfl,_,rfl,⟨_,bQ.of ha⟩,cY (K:=K) (a:=a) (xs:=us) (λi ys H2=>bp H H2/\ys.length=i/\∀ j row,j<i->G[j]?=some row->∃ y,ys[j]?=some y/\afk H2 row y) ⟨bp.refl _,rfl,λj row hj=>absurd hj (kr j)⟩ (a0b (m:=1000) (by omega)) (λi ys H2 hi h=>?_) (λi x ys H2 hi h=>?_) (λys H2 h lb Uq=>?_)⟩
 ·exact⟨bQ.of (h.1 _ _ ha),by omega⟩
 ·obtain⟨s2,yl,h⟩:=h;have il:i<G.length:=by rw[← ul];exact (af.mp hi).1
  obtain⟨t,wl,hu,ht,hw⟩:=ya i _ (ao il);rw[hi] at hu;injection hu with hu;subst hu;have f2:=qO _ (cq il);obtain⟨row,eJ⟩:∃ row,row=G[i]:=⟨_,rfl⟩
  rw[← eJ] at ht hw f2;obtain⟨_,Km,e0,uj,Rq,JQ⟩:=mT hw;cases e0;refine kL (eU.of (s2 _ _ ht)) rfl ?_;refine⟨_,rfl,_,rfl,wl,rfl,⟨_,bQ.of (s2 _ _ uj)⟩,cY (K:=K0) (a:=wl) (xs:=Km) (λj zs H3=>H3=H2/\zs=((row.2.take j).map (·.1)).map V.int) ⟨rfl,rfl⟩ (a0b (m:=1000) (by omega)) (λj zs H3 hj h=>?_) (λj x zs H3 hj h=>?_) (λzs H3 h lc Ou=>?_)⟩
  ·obtain⟨rfl,rfl⟩:=h;exact⟨bQ.of (s2 _ _ uj),by rw[ag,ag,cA];omega⟩
  ·obtain⟨rfl,rfl⟩:=h;have jl:j<row.2.length:=by rw[← Rq];exact (af.mp hj).1
   obtain⟨t2,Co,uI⟩:=JQ j _ (ao jl);rw[hj] at Co;injection Co with Co;subst Co;refine kL (eU.of (s2 _ _ uI)) rfl ?_;refine⟨_,rfl,rfl,?_⟩;rw[nQ,ao jl,aN,aN];rfl
  ·obtain⟨rfl,rfl⟩:=h;rw[Rq,aY];refine⟨(by show 3<=aJ;decide),λtp R9=>?_⟩;have s4:=(ay Ou (.lst ((row.2.map (·.1)).map V.int)))
   have s5:=s4.trans (ay R9 (.tup [V.int row.1,V.int 0,V.ref lc]));refine⟨s2.trans s5,by rw[aO,yl];rfl,λj FX hj ye=>?_⟩;rcases cN j i with c | c
   ·obtain⟨y,hy,t9,wa9,e9,k1,k2⟩:=h j FX c ye;exact⟨y,by rw[bW (by omega)];exact hy,t9,wa9,e9,s5 _ _ k1,s5 _ _ k2⟩
   ·have:j=i:=by omega
    subst this;rw[ao il,← eJ] at ye;injection ye with ye;subst ye;exact⟨.ref tp,by rw[bU (by omega),yl,ny];rfl,tp,lc,rfl,au,ay R9 _ _ _ au⟩
 ·obtain ⟨s2,yl,h⟩:=h;have s3:=s2.trans (ay Uq (.lst ys));refine⟨_,rfl,lb,ra,ys,1,r,rfl,au,s3 _ _ Bs,by rw[yl,ul,rl.1],λi z hz=>?_,λH4 s4=>?_⟩
  ·have il:i<G.length:=by have:=(af.mp hz).1;rw[rl.1] at this;exact this
   obtain⟨y,hy,t9,wa9,rfl,k1,k2⟩:=h i _ (by omega) (ao il);have sb:=ay Uq (.lst ys);rcases tM rl (ao il) with ⟨e,_⟩ | ⟨wy,GQ,e,h1⟩
   ·rw[hz] at e;cases e
   ·rw[hz] at e;have e:some (some z)=some (some wy.1):=e;injection e with e;injection e with e;rw[h1] at k1;exact⟨t9,wa9,_,hy,sb _ _ k1,sb _ _ k2,by rw[e];exact aM.mpr ⟨wy,GQ,rfl⟩⟩
  ·have s5:=s3.trans s4;refine⟨_,rfl,_,rfl,a,ra,rfl,⟨_,bQ.of (s5 _ _ ha)⟩,⟨_,bQ.of (s5 _ _ Bs)⟩,sV (K:=K) (a:=a) (b:=ra) (xs:=us) (ys:=tV r) (by rw[ik,ul,rl.1]) (λi σ H5=>bp H H5/\∃ y1 y2:Option V,σ=[some (.ref a),some (.ref ra),y1,y2])
    ⟨s5,_,_,rfl⟩ (λi σ H5 _ h=>⟨bQ.of (h.1 _ _ ha),bQ.of (h.1 _ _ Bs)⟩) (λi x y σ H5 Tt hi hj h hT=>?_) (λσ H5 h=>?_)⟩
   ·obtain⟨s6,y1,y2,rfl⟩:=h;have il:i<G.length:=by rw[← ul];exact (af.mp hi).1
    obtain⟨t,wl,hu,ht,hw⟩:=ya i _ (ao il);rw[hi] at hu;injection hu with hu;subst hu;obtain⟨o,ho,rfl⟩:=xQ hj;have s7:=s6.trans (ay hT (.tup [V.ref t,oV o]));refine⟨Tt,_,rfl,eU.of au,rfl,_,_,rfl,_,_,rfl,rfl,?_⟩;refine⟨_,rfl,t,_,_,_,rfl,rfl,eU.of (s7 _ _ ht),bu (j:=0) rfl,rfl,_,rfl,?_⟩;rcases tM rl (ao il) with ⟨e,h1⟩ | ⟨wy,GQ,e,h1⟩
    ·refine fB (λc=>?_) (λc=>?_)
     ·exfalso;exact h1 (by have:=of_decide_eq_true c;injection this)
     ·exact fW ⟨s7,_,_,rfl⟩
    ·rw[ho] at e;injection e with e;subst e;refine fB (λc=>?_) (λc=>?_)
     ·refine⟨_,rfl,_,rfl,?_⟩;exact fW ⟨s7,_,_,rfl⟩
     ·exact fW ⟨s7,_,_,rfl⟩
   ·exact q _ h.1
theorem Sm.free {H H':Hp} {l:ak} (s:Sm H H') (h:nt H' l=none):nt H l=none:=by
 cases e:nt H l with
 | none=>rfl
 | some o=>have:=s _ _ e;rw[h] at this;cases this
theorem qx {α:Type} {R:Rel α} (m:∀ H x v,R H x v->R (nt H) x v) {H:Hp}:∀ {xs:List α} {vs:List V},dE (R H) xs vs->dE (R (nt H)) xs vs
 | _,_,.nil=>.nil
 | _,_,.cons h t=>.cons (m _ _ _ h) (qx m t)
theorem Sf {H:Hp} {ws:List Wy} {v:V} (h:Ki H ws v):Ki (nt H) ws v:=by
 obtain⟨a,us,rfl,h,p⟩:=h;exact⟨a,us,rfl,ig h,qx (λH x v ⟨t,y1,y2,e,ht,r1,r2⟩=>⟨t,y1,y2,e,rP ht,r1,r2⟩) p⟩
theorem Za {H:Hp} {W:Lf} {v:V} (h:VA H W v):VA (nt H) W v:=by
 obtain⟨a,us,rfl,h,p⟩:=h;exact⟨a,us,rfl,ig h,qx (λH x v r=>Sf r) p⟩
theorem DO {H:Hp} {G:List cX} {v:V} (h:OC H G v):OC (nt H) G v:=by
 obtain⟨a,us,rfl,h,p⟩:=h;exact⟨a,us,rfl,ig h,qx (λH x v ⟨t,y1,y2,e,ht,r1,r2⟩=>⟨t,y1,y2,e,rP ht,r1,Sf r2⟩) p⟩
def HJ (K:aj):Sp:=λvs H Q _=>∃ (v:V) (G:List cX) (ra:ak) (r:List (Option Int)),vs=[v,.ref ra]/\OC (nt H) G v/\nt H ra=some (.lst (tV r))/\si G/\Ci G r/\G.length<=16/\(∀ row∈G,row.2.length<=100)/\qI K H/\∀ (l:ak) (T:List (Option Int)) (H':Hp),Sm H H'->qI K H'->nt H l=none->nt H' l=some (.lst (tV T))->T.length=G.length->sv (eX G r) G.length (cU T)->Q (.ref l) H'
theorem P2 {G:List cX} {r:List (Option Int)} (g:si G):∀ x∈eX G r,x≠[]:=λx hx=>by
 unfold eX at hx;obtain⟨i,hi⟩:=ce hx;rw[iV] at hi;cases e1:G[i]? with
 | none=>rw[e1] at hi;cases hi
 | some row =>
  cases e2:r[i]? with
  | none=>rw[e1,e2] at hi;cases hi
  | some o =>
   rw[e1,e2] at hi;have gm:=g _ (aq e1);cases o with
   | none=>cases hi;exact gm.1
   | some p=>cases hi;simp
theorem LX {G:List cX} {r:List (Option Int)} (f:∀ row∈G,row.2.length<=100):∀ x∈eX G r,x.length<=100:=λx hx=>by
 unfold eX at hx;obtain⟨i,hi⟩:=ce hx;rw[iV] at hi;cases e1:G[i]? with
 | none=>rw[e1] at hi;cases hi
 | some row =>
  cases e2:r[i]? with
  | none=>rw[e1,e2] at hi;cases hi
  | some o =>
   rw[e1,e2] at hi;have gm:=f _ (aq e1);cases o with
   | none=>cases hi;exact gm
   | some p=>cases hi;simp
theorem Mm (F:aX K mg "needs" tN ["game","rule"]) (T:Txt mg) (vA:Dn P w K mg base "check_spender" 3 ["game","rule"] HK) (CI:Dn P w K mg base "ways_left" 1 ["game","rule"] Nk) (AS:Dn P w K mg base "needs_left" 5 ["left"] (ZW K)):Dn P w K mg base "needs" 6 ["game","rule"] (HJ K):=by
 have sc:=M2;refine F.ok sc (λvs H Q E h=>?_) (λf di A outer s H vs Q E hr h=>?_)
 ·obtain⟨_,_,_,_,rfl,_⟩:=h;rfl
 obtain⟨v,G,ra,r,rfl,hv,Bs,g,rl,qN,qO,tb,q⟩:=h;refine⟨_,(av (da (cx vA hr (aa (pv 0) (aa (pv 1) ar))))
   (aC (cf (cx AS hr (aa (cx CI hr (aa (pv 0) (aa (pv 1) ar))) ar))))),?_⟩
 have hvH:=m7.up bX hv;have hrH:=bX _ _ Bs;refine⟨_,rfl,_,rfl,v,G,ra,r,rfl,hvH,hrH,rl,qN,qO,λH1 s1=>?_⟩;refine⟨_,rfl,_,rfl,v,G,ra,r,rfl,m7.up s1 hvH,s1 _ _ hrH,g,rl,qN,qO,λu H2 s2 hu=>?_⟩;have s3:=s1.trans s2;have ll:=DB rl.1;refine⟨u,eX G r,rfl,?_,⟨by omega,LX qO,by rw[ll];exact qu g rl⟩,P2 g,tb.up s3,λl TT H3 S3 Cs l0 l1 tl N=>?_⟩
 ·exact Za hu
 ·rw[ll] at N tl;exact q l TT H3 ((Sm.of s3).trans S3) Cs ((Sm.of s3).free l0) l1 tl N
def AG (G:List cX) (r:List (Option Int)) (T:Tb) (r':List (Option Int)) (i:Nat):Prop:=∀ row,G[i]?=some row->(row.1≠1->r'[i]?=some none)/\(row.1=1->∃ own most,own∈row.2/\most∈row.2/\r[i]?=some (some own.1)/\(∀ w∈row.2,fv (a0a T w) (a0a T most))/\(fv (a0a T most) (a0a T own)/\r'[i]?=some (some own.1)\/¬ fv (a0a T most) (a0a T own)/\r'[i]?=some (some most.1)))
theorem AG.snoc {G:List cX} {r r':List (Option Int)} {T:Tb} {i:Nat} {o:Option Int} (hl:r'.length=i) (h:∀ j,j<i->AG G r T r' j) (ho:AG G r T (r'++[o]) i):∀ j,j<i+1->AG G r T (r'++[o]) j:=λj hj=>by
 rcases cN j i with c | c
 ·intro row eJ;rw[bW (by omega)];exact h j c row eJ
 ·have:j=i:=by omega
  rw[this];exact ho
theorem tQ {α:Type} {l:List α} {i:Nat} {o:α} (hl:l.length=i):(l++[o])[i]?=some o:=by
 rw[bU (by omega),hl,ny];rfl
theorem tX (T:List (Option Int)) (o:Option Int):tV T++[oV o]=tV (T++[o]):=by unfold tV;rw[aN];rfl
def Sr (K:aj):Sp:=λvs H Q _=>∃ (v:V) (G:List cX) (ra ta:ak) (r T:List (Option Int)),vs=[v,.ref ra,.ref ta]/\OC (nt H) G v/\nt H ra=some (.lst (tV r))/\nt H ta=some (.lst (tV T))/\si G/\Ci G r/\T.length=G.length/\G.length<=16/\(∀ row∈G,row.2.length<=100)/\qI K H/\∀ (l:ak) (r':List (Option Int)) (H':Hp),Sm H H'->qI K H'->nt H l=none->nt H' l=some (.lst (tV r'))->Gi G r (cU T) r'->Q (.ref l) H'
theorem DQ (F:aX K mg "bettered" mK ["game","rule","table"]) (T:Txt mg) (AR:Dn P w K mg base "most_needy" 4 ["ways","purses"] (Ni K true)) (jI:Dn P w K mg base "need_by" 1 ["purses","place","amount"] qe) (uv:Dn P w K mg base "is_more" 2 ["need","other"] F6):Dn P w K mg base "bettered" 5 ["game","rule","table"] (Sr K):=by
 have sc:=D2;refine F.ok sc (λvs H Q E h=>?_) (λf di A outer s H vs Q E hr h=>?_)
 ·obtain⟨_,_,_,_,_,_,rfl,_⟩:=h;rfl
 obtain⟨v,G,ra,ta,r,TT,rfl,hv,Bs,zL,g,rl,tl,qN,qO,tb,q⟩:=h;obtain⟨a,us,rfl,ha,ul,ya⟩:=n8 hv;refine⟨_,(av (bJ (i:=3) sc.nd rfl (aW rfl) (eP ar))
   (av (dW bh rfl (uS (K:=K) rfl rfl T.wW (aa (pv 0) (aa (pv 1) ar))) (j7 rfl (cH (bZ (i:=4) sc.nd rfl (aW rfl)) (cH (bZ (i:=5) sc.nd rfl (aW rfl)) iL)))
   (av (dC (lL (mJ (pv 5)))
   (av (da (lj bx bH bI eH (pv 3) (aa oM ar)))
   (aC vm))
   cr)
   (av (bJ (i:=6) sc.nd rfl (aW rfl) (cx AR hr (aa (bL (jM (K:=K) rfl) (pv 4) aA (λ_ _=>rfl)) (aa (pv 2) ar))))
   (av (bJ (i:=7) sc.nd rfl (aW rfl) (cx jI hr (aa (pv 2) (aa (pv 5) (aa (Hf (xp hr 1) (jO (oY (K:=K) rfl rfl) rfl T.KQ x8 (aa (bL (jM (K:=K) rfl) (pv 4) aA (λ_ _=>rfl)) ar)) (pv 5) (λ_ _=>rfl)) ar)))))
   (aC (da (lj bx bH bI eH (pv 3) (aa (lm (fC (cx uv hr (aa (cx jI hr (aa (pv 2) (aa (bL (jM (K:=K) rfl) (pv 6) aA (λ_ _=>rfl)) (aa (bL (jM (K:=K) rfl) (pv 6) aA (λ_ _=>rfl)) ar)))) (aa (pv 7) ar)))) (bL (jM (K:=K) rfl) (pv 6) aA (λ_ _=>rfl)) (pv 5)) ar))))))))
   (aC (cf (pv 3))))),?_⟩
 refine⟨bv _,λgl k8=>?_⟩;have s1:=ay k8 (.lst []);have hgn:nt H gl=none:=v8 k8;have S1:=Sm.of s1;have Q9:=tb.up s1;have XU:upd H gl (.lst []) gl=some (.lst (tV [])):=au;generalize upd H gl (.lst [])=H1 at S1 Q9 XU ⊢;clear s1;refine⟨_,rfl,_,rfl,a,ra,rfl,⟨_,bQ.of (S1.lst ha)⟩,⟨_,bQ.of (S1.lst Bs)⟩,sV (K:=K) (a:=a) (b:=ra) (xs:=us) (ys:=tV r) (by rw[ik,ul,rl.1]) (λi σ H2=>∃ (r':List (Option Int)) (y1 y2 y3 y4:Option V),σ=[some (.ref a),some (.ref ra),some (.ref ta),some (.ref gl),y1,y2,y3,y4]/\Sm H H2/\qI K H2/\H2 gl=some (.lst (tV r'))/\r'.length=i/\∀ j,j<i->AG G r (cU TT) r' j)
  ⟨[],_,_,_,_,rfl,S1,Q9,XU,rfl,λj hj=>absurd hj (kr j)⟩ (λi σ H2 _ h=>?_) (λi x y σ H2 tt hx hy h Fw=>?_) (λσ H2 h=>?_)⟩
 ·obtain⟨_,_,_,_,_,_,S2,_⟩:=h;exact⟨bQ.of (S2.lst ha),bQ.of (S2.lst Bs)⟩
 ·clear S1 Q9 XU;obtain⟨r',y1,y2,y3,y4,rfl,S2,Kk,Kc,EC,bt⟩:=h;have il:i<G.length:=by rw[← ul];exact (af.mp hx).1
  have eJ:=ao il;have gk:=g _ (cq il);have f2:=qO _ (cq il);obtain⟨t,wl,hu,ht,hw⟩:=ya i _ eJ;have ra:=tM rl eJ;generalize G[i]=row at eJ gk f2 ht hw ra;rw[hx] at hu;injection hu with hu;subst hu;obtain⟨o,ho,rfl⟩:=xQ hy;have s3:=ay Fw (.tup [V.ref t,oV o]);have S3:=S2.trans (Sm.of s3);have Cs:=Kk.up s3;have Pp:=s3 _ _ Kc;refine⟨tt,_,rfl,eU.of au,rfl,_,_,rfl,_,_,rfl,rfl,?_⟩;generalize upd H2 tt (.tup [V.ref t,oV o])=H3 at S3 Cs Pp ⊢;clear S2 Kk Kc s3 Fw;refine⟨_,rfl,_,rfl,?_⟩;rcases ra with ⟨e,h1⟩ | ⟨own,Px,e,h1⟩
  ·rw[ho] at e;injection e with e;subst e;refine mF ?_;refine⟨_,rfl,.inl ⟨rfl,_,bQ.of Pp⟩,gl,_,_,rfl,rfl,Pp,oR (m:=1000) (by rw[ik];omega),?_⟩;refine⟨r'++[none],_,_,_,_,rfl,S3.put hgn _,Cs.put Pp,by rw[au,← tX];rfl,by rw[aO,EC];rfl,AG.snoc EC bt λFX ye=>?_⟩;rw[eJ] at ye;cases ye;exact⟨λ_=>tQ EC,λz=>absurd z h1⟩
  ·rw[ho] at e;injection e with e;subst e;refine fW ?_;have rg:∀ y∈row.2,0<=y.1/\y.1<TT.length:=λy hy=>by have:=gk.2.2 y hy;omega
   refine⟨_,rfl,t,_,_,_,rfl,rfl,eU.of (S3.tup ht),bu (j:=1) rfl,_,rfl,.ref wl,ta,row.2,TT,rfl,gR.up S3 hw,S3 _ _ zL,gk.1,rg,Cs,λwt wy H4 S4 Ee GQ best PH=>?_⟩;have S5:=S3.trans S4;have XW:=S4.lst (ig Pp);have aex:=bX _ _ PH;obtain⟨_,Km,e0,WI,pw⟩:=gR.up bX (gR.up S5 hw);cases e0;obtain⟨ts,rfl,t2,t3⟩:=NT pw;refine⟨_,rfl,_,rfl,_,rfl,t,_,_,_,rfl,rfl,eU.of (S5.tup ht),bu (j:=1) rfl,wl,ts,rfl,bQ.of WI,λz hz=>eU.of (t2 z hz),λdp hdp=>?_⟩;rw[t3,K3 gk.2.1];have s6:=ay hdp (.dK (K2 row.2));have hd6:upd H4 dp (.dK (K2 row.2)) dp=some (.dK (K2 row.2)):=au;have S6:=S5.trans (Sm.of s6);have ND:=Ee.up s6;have hg6:=s6 _ _ XW;have PL:=s6 _ _ aex;generalize upd H4 dp (.dK (K2 row.2))=H6 at S6 ND hg6 PL hd6 ⊢;refine⟨_,rfl,dp,V.int own.2,rfl,by rw[← K4 gk.2.1 Px];exact EO.k (k:=kx own.1) hd6,ta,TT,own.1,own.2,rfl,S6.lst zL,(rg own Px).1,(rg own Px).2,?_⟩;refine⟨_,rfl,.inl ⟨rfl,_,bQ.of hg6⟩,_,rfl,_,rfl,wt,_,_,_,rfl,rfl,eU.of PL,bu (j:=0) rfl,_,rfl,wt,_,_,_,rfl,rfl,eU.of PL,bu (j:=1) rfl,ta,TT,wy.1,wy.2,rfl,S6.lst zL,(rg wy GQ).1,(rg wy GQ).2,_,rfl,a0a (cU TT) wy,a0a (cU TT) own,rfl,λb H7 s7 hb=>⟨b,rfl,?_⟩⟩;have S7:=S6.trans (Sm.of s7);have VY:=ND.up s7;have hg7:=s7 _ _ hg6;have GC:∀ w'∈row.2,fv (a0a (cU TT) w') (a0a (cU TT) wy):=λw' pG=>by
    have:=best w' pG;rwa [if_pos rfl] at this
   have fin:∀ z:Int,(fv (a0a (cU TT) wy) (a0a (cU TT) own)/\z=own.1\/¬ fv (a0a (cU TT) wy) (a0a (cU TT) own)/\z=wy.1)->AG G r (cU TT) (r'++[some z]) i:=λz hz FX ye=>by
    rw[eJ] at ye;cases ye;refine⟨λy=>absurd h1 y,λ_=>⟨own,wy,Px,GQ,ho,GC,?_⟩⟩;rcases hz with ⟨k,rfl⟩ | ⟨k,rfl⟩
    ·exact .inl ⟨k,tQ EC⟩
    ·exact .inr ⟨k,tQ EC⟩
   cases b with
   | true =>
    refine mF ?_;refine⟨_,rfl,wt,_,_,_,rfl,rfl,eU.of (s7 _ _ PL),bu (j:=0) rfl,gl,_,_,rfl,rfl,hg7,oR (m:=1000) (by rw[ik];omega),?_⟩;exact⟨r'++[some wy.1],_,_,_,_,rfl,S7.put hgn _,VY.put hg7,by rw[au,← tX];rfl,by rw[aO,EC];rfl,AG.snoc EC bt (fin wy.1 (.inr ⟨hb.mp rfl,rfl⟩))⟩
   | false =>
    refine fW ?_;refine⟨_,rfl,gl,_,_,rfl,rfl,hg7,oR (m:=1000) (by rw[ik];omega),?_⟩;exact⟨r'++[some own.1],_,_,_,_,rfl,S7.put hgn _,VY.put hg7,by rw[au,← tX],by rw[aO,EC];rfl,AG.snoc EC bt (fin own.1 (.inl ⟨(bB λz=>absurd (hb.mpr z) bg),rfl⟩))⟩
 ·obtain⟨r',y1,y2,y3,y4,rfl,S2,Kk,Kc,EC,bt⟩:=h;rw[ul] at EC bt;exact⟨_,rfl,q gl r' H2 S2 Kk hgn (ig Kc) ⟨EC,λi row eJ=>bt i (af.mp eJ).1 row eJ⟩⟩
inductive JZ (G:List cX):List (List (Option Int))->List (Option Int)->Tb->Prop
 | start {r:List (Option Int)} {T:Tb}:Ci G r->sv (eX G r) G.length T->JZ G [r] r T
 | next {L:List (List (Option Int))} {r r':List (Option Int)} {T T':Tb}:JZ G L r T->Gi G r T r'->r'≠r->sv (eX G r') G.length T'->JZ G (r'::L) r' T'
def Wg (G:List cX):Prop:=∃ M,M<16777216/\∀ L r T,JZ G L r T->L.length<=M
theorem JZ.rl {G:List cX} {L:List (List (Option Int))} {r:List (Option Int)} {T:Tb} (h:JZ G L r T):Ci G r:=by
 cases h with
 | start h _=>exact h
 | next _ b _ _=>exact b.rule
theorem JZ.nds {G:List cX} {L:List (List (Option Int))} {r:List (Option Int)} {T:Tb} (h:JZ G L r T):sv (eX G r) G.length T:=by
 cases h with
 | start _ h=>exact h
 | next _ _ _ h=>exact h
theorem NA {T:List (Option Int)} {a:ak}:V.ref a ∉ tV T:=λh=>by
 unfold tV at h;obtain⟨o,_,e⟩:=aM.mp h;cases o <;> cases e
theorem SB {T:List (Option Int)} {ys:List V} {a:ak} (h:ys++[V.ref a]=tV T):False:=NA (T:=T) (a:=a) (by rw[← h];simp)
theorem B5 {H:Hp}:∀ T:List (Option Int),dE (MQ iA H) T (tV T)
 | []=>.nil
 | o::T=>.cons (by cases o <;> rfl) (B5 T)
theorem rOL {H:Hp} {a:ak} {T:List (Option Int)} (h:H a=some (.lst (tV T))):hU (MQ iA) H T (.ref a):=⟨a,_,rfl,h,B5 T⟩
theorem uQ {H:Hp} {a c:ak} {o:HO} (h:c≠a):nt (upd H a o) c=nt H c:=by unfold nt;rw[bK h]
theorem O5 {ys:List V} {x:V}:vX (ys++[x]) (-1)=some x:=by
 unfold vX;rw[aO,cC];have e:yI (ys.length+1) (-1)=some ys.length:=by
  unfold yI;split
  ·exfalso;omega
  ·split
   ·congr 1;omega
   ·exfalso;omega
 rw[e];show (ys++[x])[ys.length]?=_;simp
def Nc (K:aj):Sp:=λvs H Q _=>∃ (v:V) (G:List cX),vs=[v]/\OC (nt H) G v/\si G/\G.length<=16/\(∀ row∈G,row.2.length<=100)/\Wg G/\qI K H/\∀ (l lt ra ta:ak) (ys:List V) (r T:List (Option Int)) (H':Hp),Sm H H'->qI K H'->nt H' l=some (.lst (ys++[.ref lt]))->nt H' lt=some (.tup [.ref ra,.ref ta])->nt H' ra=some (.lst (tV r))->nt H' ta=some (.lst (tV T))->Ci G r->T.length=G.length->sv (eX G r) G.length (cU T)->Gi G r (cU T) r->nt H ta=none->Q (.ref l) H'
theorem Qb (F:aX K mg "betterings" i7 ["game"]) (T:Txt mg) (Gj:Dn P w K mg base "needs" 6 ["game","rule"] (HJ K)) (wH:Dn P w K mg base "bettered" 5 ["game","rule","table"] (Sr K)):Dn P w K mg base "betterings" 7 ["game"] (Nc K):=by
 have sc:=yR;refine F.ok sc (λvs H Q E h=>?_) (λf di A outer s H vs Q E hr h=>?_)
 ·obtain⟨_,_,rfl,_⟩:=h;rfl
 obtain⟨v,G,rfl,hv,g,qN,qO,⟨M,hM,cM⟩,tb,q⟩:=h;obtain⟨a,us,rfl,ha,ul,ya⟩:=n8 hv;refine⟨_,(av (vn (i:=1) (aG i7) ["game","rule","table","told","better"] ["hand","ways"] 2 [] sc.nd rfl rfl (c8 (pv 0)) (λ_ _ _ _ _ _=>(JA (K:=K) rfl rfl (show cO (["hand","ways"]:List bc) by decide +kernel) rfl rfl rfl rfl)) (λ_ _ _ _ _ _=>iM) (λ_ _ _ _ _ _=>(lm (cg iR (pv 0) aA (cE _)) (bL (jM (K:=K) rfl) (bL (m5 (K:=K) rfl) (pv 1) aA (λ_ _=>rfl)) aA (λ_ _=>rfl)) oM)))
   (av (bJ (i:=2) sc.nd rfl (aW rfl) (cx Gj hr (aa (pv 0) (aa (pv 1) ar))))
   (av (bJ (i:=3) sc.nd rfl (aW rfl) (eP (aa (gh (aa (pv 1) (aa (pv 2) ar))) ar)))
   (av (bJ (i:=4) sc.nd rfl (aW rfl) (cx wH hr (aa (pv 0) (aa (pv 1) (aa (pv 2) ar)))))
   (av (xK bh (cg (Vn (QJ K9) (xp hr 1)) (pv 4) (pv 1) (cE _))
   (av (bJ (i:=1) sc.nd rfl (aW rfl) (pv 4))
   (av (bJ (i:=2) sc.nd rfl (aW rfl) (cx Gj hr (aa (pv 0) (aa (pv 1) ar))))
   (av (da (lj bx bH bI eH (pv 3) (aa (gh (aa (pv 1) (aa (pv 2) ar))) ar)))
   (aC (bJ (i:=4) sc.nd rfl (aW rfl) (cx wH hr (aa (pv 0) (aa (pv 1) (aa (pv 2) ar))))))))))
   (aC (cf (pv 3)))))))),?_⟩
 refine⟨_,rfl,a,rfl,⟨_,bQ.of (bX _ _ ha)⟩,cY (K:=K) (a:=a) (xs:=us) (λi ys H2=>H2=H/\∃ R:List (Option Int),ys=tV R/\R.length=i/\∀ j row,j<i->G[j]?=some row->(row.1≠1->R[j]?=some none)/\(row.1=1->∃ w∈row.2,R[j]?=some (some w.1))) ⟨rfl,[],rfl,rfl,λj row hj=>absurd hj (kr j)⟩ (a0b (m:=1000) (by omega)) (λi ys H2 hi h=>?_) (λi x ys H2 hi h=>?_) (λys H2 h ra Bs=>?_)⟩
 ·obtain⟨rfl,R,rfl,rfl,_⟩:=h;exact⟨bQ.of (bX _ _ ha),by rw[ik];exact az _⟩
 ·obtain⟨rfl,R,rfl,Rl,h⟩:=h;have il:i<G.length:=by rw[← ul];exact (af.mp hi).1
  have eJ:=ao il;have gk:=g _ (cq il);obtain⟨t,wl,hu,ht,hw⟩:=ya i _ eJ;generalize G[i]=row at eJ gk ht hw;rw[hi] at hu;injection hu with hu;subst hu;obtain⟨_,Km,e0,uj,Rq,JQ⟩:=mT hw;cases e0;refine kL (eU.of (bX _ _ ht)) rfl ?_;have fin:∀ o:Option Int,((row.1≠1->o=none)/\(row.1=1->∃ w∈row.2,o=some w.1))->H2=H2/\∃ R':List (Option Int),tV R++[oV o]=tV R'/\R'.length=i+1/\∀ j row,j<i+1->G[j]?=some row->(row.1≠1->R'[j]?=some none)/\(row.1=1->∃ w∈row.2,R'[j]?=some (some w.1)):=λo ho=>by
   refine⟨rfl,R++[o],tX R o,by rw[aO,Rl];rfl,λj FX hj ye=>?_⟩;rcases cN j i with c | c
   ·rw[bW (by omega)];exact h j FX c ye
   ·have:j=i:=by omega
    subst this;rw[eJ] at ye;cases ye;rw[tQ Rl];exact⟨λz=>by rw[ho.1 z],λz=>by obtain⟨w,hw,e⟩:=ho.2 z;exact⟨w,hw,by rw[e]⟩⟩
  refine⟨_,rfl,rfl,_,rfl,?_⟩;refine fB (λc=>?_) (λc=>?_)
  ·have c:row.1=1:=by have:=of_decide_eq_true c;injection this
   have wne:0<row.2.length:=bT.mpr gk.1;obtain⟨wt,PH,aew⟩:=JQ 0 _ (ao wne);refine⟨_,rfl,wl,_,_,_,rfl,rfl,bQ.of (bX _ _ uj),bu (j:=0) PH,wt,_,_,_,rfl,rfl,eU.of (bX _ _ aew),bu (j:=0) rfl,?_⟩;exact fin (some row.2[0].1) ⟨λz=>absurd c z,λ_=>⟨row.2[0],cq wne,rfl⟩⟩
  ·exact fin none ⟨λ_=>rfl,λz=>absurd (decide_eq_true (by rw[z])) c⟩
 obtain⟨rfl,R,rfl,Rl,h⟩:=h;have Sn:Ci G R:=⟨by omega,λi row hr=>h i row (by rw[ul];exact (af.mp hr).1) hr⟩
 have s1:=ay Bs (.lst (tV R));have S1:=Sm.of s1;have Q9:=tb.up s1;have Fu:nt (upd H2 ra (.lst (tV R))) ra=some (.lst (tV R)):=ig au;generalize upd H2 ra (.lst (tV R))=H1 at S1 Q9 Fu ⊢;refine⟨_,rfl,_,rfl,.ref a,G,ra,R,rfl,m7.up S1 hv,Fu,g,Sn,qN,qO,Q9,λta TT H3 S3 Cs Yv zL tl N=>?_⟩;have Oy:=S1.free Yv;refine⟨_,rfl,_,rfl,(by show 2<=aJ;decide),λlt iz=>⟨(by show 1<=aJ;decide),λl hl=>?_⟩⟩;have s4:=(ay iz (.tup [V.ref ra,V.ref ta])).trans (ay hl (.lst [V.ref lt]));have Uu:nt (upd (upd H3 lt (.tup [V.ref ra,V.ref ta])) l (.lst [V.ref lt])) lt=some (.tup [V.ref ra,V.ref ta]):=rP (ay hl _ _ _ au);have Up:nt (upd (upd H3 lt (.tup [V.ref ra,V.ref ta])) l (.lst [V.ref lt])) l=some (.lst ([]++[V.ref lt])):=ig au;have hln:nt H2 l=none:=(S1.trans S3).free ((Sm.of (ay iz (.tup [V.ref ra,V.ref ta]))).free (v8 hl));have S4:=(S1.trans S3).trans (Sm.of s4);have R7:=(S3.trans (Sm.of s4)) _ _ Fu;have WF:=(Sm.of s4) _ _ zL;have Ee:=Cs.up s4;generalize upd (upd H3 lt (.tup [V.ref ra,V.ref ta])) l (.lst [V.ref lt])=H4 at S4 R7 WF Ee Uu Up ⊢;clear S1 Q9 Fu S3 Cs Yv zL s4 iz hl s1 Bs;have body:∀ (ra ta l lt ba:ak) (L:List (List (Option Int))) (r TT r':List (Option Int)) (ys:List V) (m:Nat) (H5:Hp),True:=λ_ _ _ _ _ _ _ _ _ _ _ _=>trivial;refine⟨_,rfl,_,rfl,_,rfl,.ref a,G,ra,ta,R,TT,rfl,m7.up S4 hv,R7,WF,g,Sn,tl,qN,qO,Ee,λba r' H5 S5 OE Pk hb bt=>?_⟩;refine⟨λm σ H6=>∃ (ra ta lt ba:ak) (L:List (List (Option Int))) (r TT r':List (Option Int)) (ys:List V),m=M-L.length/\σ=[some (.ref a),some (.ref ra),some (.ref ta),some (.ref l),some (.ref ba)]/\Sm H2 H6/\qI K H6/\nt H6 ra=some (.lst (tV r))/\nt H6 ta=some (.lst (tV TT))/\nt H6 l=some (.lst (ys++[.ref lt]))/\nt H6 lt=some (.tup [.ref ra,.ref ta])/\nt H6 ba=some (.lst (tV r'))/\ys.length+1=L.length/\TT.length=G.length/\JZ G L r (cU TT)/\Gi G r (cU TT) r'/\nt H2 ta=none,
  ⟨_,ra,ta,lt,ba,[R],R,TT,r',[],rfl,rfl,S4.trans S5,OE,S5 _ _ R7,S5 _ _ WF,S5 _ _ Up,S5 _ _ Uu,hb,rfl,tl,.start Sn N,bt,Oy⟩,λm σ H6 h=>?_⟩
 clear S4 R7 WF Ee Uu Up S5 OE Pk hb bt body tl N Sn Oy;obtain⟨ra,ta,lt,ba,L,r,TT,r',ys,rfl,rfl,S6,ND,hr6,ht6,hl6,adQ,XB,yl,tl,ch,bt,Oy⟩:=h;refine⟨_,rfl,_,rfl,r',r,rOL (bX _ _ XB),rOL (bX _ _ hr6),_,rfl,?_⟩;refine fB (λc=>?_) (λc=>?_)
 ·have ne:r'≠r:=λz=>by rw[z] at c;simp at c
  refine⟨λσ H9=>∃ (ra ta lt ba:ak) (L':List (List (Option Int))) (r TT r':List (Option Int)) (ys:List V),L'.length=L.length+1/\σ=[some (.ref a),some (.ref ra),some (.ref ta),some (.ref l),some (.ref ba)]/\Sm H2 H9/\qI K H9/\nt H9 ra=some (.lst (tV r))/\nt H9 ta=some (.lst (tV TT))/\nt H9 l=some (.lst (ys++[.ref lt]))/\nt H9 lt=some (.tup [.ref ra,.ref ta])/\nt H9 ba=some (.lst (tV r'))/\ys.length+1=L'.length/\TT.length=G.length/\JZ G L' r (cU TT)/\Gi G r (cU TT) r'/\nt H2 ta=none,λσ' H9 h=>?_,?_⟩
  ·obtain⟨ra,ta,lt,ba,L',r,TT,r',ys,e,rfl,h1,h2,h3,h4,h5,h6,h7,h8,h9,Xw,h11,TV⟩:=h;have:=cM _ _ _ Xw;exact⟨M-L'.length,by omega,ra,ta,lt,ba,L',r,TT,r',ys,rfl,rfl,h1,h2,h3,h4,h5,h6,h7,h8,h9,Xw,h11,TV⟩
  refine⟨_,rfl,_,rfl,_,rfl,.ref a,G,ba,r',rfl,m7.up S6 hv,XB,g,bt.rule,qN,qO,ND,λOD TT' H7 S7 VY WE ht7 tl7 N7=>?_⟩;have ael:=S6.free WE;have ch':=JZ.next ch bt ne N7;have lM:=cM _ _ _ ch';have lM:L.length+1<=M:=lM;have Wx:=S7 _ _ hl6;refine⟨_,rfl,.inl ⟨rfl,_,bQ.of (bX _ _ Wx)⟩,_,rfl,_,rfl,(by show 2<=aJ;decide),λae2 Yc=>?_⟩;have s8:=ay Yc (.tup [V.ref ba,V.ref OD]);have Pw:nt (upd H7 ae2 (.tup [V.ref ba,V.ref OD])) ae2=some (.tup [V.ref ba,V.ref OD]):=rP au;have S8:=(S6.trans S7).trans (Sm.of s8);have tb8:=VY.up s8;have hb8:=(S7.trans (Sm.of s8)) _ _ XB;have ht8:=(Sm.of s8) _ _ ht7;have R5:=(Sm.of s8) _ _ Wx;generalize upd H7 ae2 (.tup [V.ref ba,V.ref OD])=H8 at Pw S8 tb8 hb8 ht8 R5 ⊢;clear Yc s8 S7 VY WE ht7 Wx;have n1:ba≠l:=λz=>by
   rw[z,R5] at hb8;injection hb8 with e;injection e with e;exact SB e
  have n2:OD≠l:=λz=>by
   rw[z,R5] at ht8;injection ht8 with e;injection e with e;exact SB e
  have n3:ae2≠l:=λz=>by
   rw[z,R5] at Pw;injection Pw with e;cases e
  refine⟨l,ys++[.ref lt],_,rfl,rfl,bX _ _ R5,by rw[aO];show ys.length+1<16777216;omega,?_⟩;have hl9:nt (upd H8 l (.lst ((ys++[V.ref lt])++[V.ref ae2]))) l=some (.lst ((ys++[V.ref lt])++[V.ref ae2])):=ig au;have S9:Sm H2 (upd H8 l (.lst ((ys++[V.ref lt])++[V.ref ae2]))):=S8.put hln _;have tb9:qI K (upd H8 l (.lst ((ys++[V.ref lt])++[V.ref ae2]))):=tb8.put (bX _ _ R5);have XD:nt (upd H8 l (.lst ((ys++[V.ref lt])++[V.ref ae2]))) ba=some (.lst (tV r')):=by rw[uQ n1];exact hb8
  have Yu:nt (upd H8 l (.lst ((ys++[V.ref lt])++[V.ref ae2]))) OD=some (.lst (tV TT')):=by rw[uQ n2];exact ht8
  have Ye:nt (upd H8 l (.lst ((ys++[V.ref lt])++[V.ref ae2]))) ae2=some (.tup [V.ref ba,V.ref OD]):=by rw[uQ n3];exact Pw
  generalize upd H8 l (.lst ((ys++[V.ref lt])++[V.ref ae2]))=H9 at hl9 S9 tb9 XD Yu Ye ⊢;refine⟨_,rfl,_,rfl,_,rfl,.ref a,G,ba,OD,r',TT',rfl,m7.up S9 hv,XD,Yu,g,bt.rule,tl7,qN,qO,tb9,λbb r'' H10 O2 NC Pk adk acJ=>?_⟩;exact⟨ba,OD,ae2,bb,r'::L,r',TT',r'',ys++[.ref lt],rfl,rfl,S9.trans O2,NC,O2 _ _ XD,O2 _ _ Yu,O2 _ _ hl9,O2 _ _ Ye,adk,by rw[aO];show ys.length+1+1=L.length+1;omega,tl7,ch',acJ,ael⟩
 ·have e:r'=r:=by
   by_cases z:r'=r
   ·exact z
   ·exact absurd (by rw[decide_eq_false z];rfl) c
  rw[e] at bt;exact⟨_,rfl,q l lt ra ta ys r TT H6 S6 ND hl6 adQ hr6 ht6 ch.rl tl ch.nds bt Oy⟩
def pA (G:List cX) (T ws:List (Option Int)):Prop:=∃ r,T.length=G.length/\Ci G r/\sv (eX G r) G.length (cU T)/\Gi G r (cU T) r/\ws.length=G.length/\∀ (i:Nat) row,G[i]?=some row->(row.1=0/\cU T (i:Int)≠none->∃ w∈row.2,(∀ w'∈row.2,fv (a0a (cU T) w) (a0a (cU T) w'))/\ws[i]?=some (some w.1))/\(¬ (row.1=0/\cU T (i:Int)≠none)->ws[i]?=r[i]?)
def F7 (K:aj):Sp:=λvs H Q _=>∃ (v:V) (G:List cX),vs=[v]/\OC (nt H) G v/\si G/\G.length<=16/\(∀ row∈G,row.2.length<=100)/\Wg G/\qI K H/\∀ (t ta wa:ak) (T ws:List (Option Int)) (H':Hp),Sm H H'->qI K H'->nt H' t=some (.tup [.ref ta,.ref wa])->nt H' ta=some (.lst (tV T))->nt H' wa=some (.lst (tV ws))->pA G T ws->nt H ta=none->Q (.ref t) H'
theorem Ql (F:aX K mg "solved_purses" iC ["game"]) (T:Txt mg) (AI:Dn P w K mg base "betterings" 7 ["game"] (Nc K)) (nq:Dn P w K mg base "least_needy" 4 ["ways","purses"] (Ni K false)):Dn P w K mg base "solved_purses" 8 ["game"] (F7 K):=by
 have sc:=uX;refine F.ok sc (λvs H Q E h=>?_) (λf di A outer s H vs Q E hr h=>?_)
 ·obtain⟨_,_,rfl,_⟩:=h;rfl
 obtain⟨v,G,rfl,hv,g,qN,qO,cb,tb,q⟩:=h;obtain⟨a,us,rfl,ha,ul,ya⟩:=n8 hv;refine⟨_,(av (bJ (i:=1) sc.nd rfl (aW rfl) (bL (m5 (K:=K) rfl) (cx AI hr (aa (pv 0) ar)) (Hg B7 aA) (λ_ _=>rfl)))
   (av (bJ (i:=2) sc.nd rfl (aW rfl) (bL (jM (K:=K) rfl) (pv 1) aA (λ_ _=>rfl)))
   (av (bJ (i:=3) sc.nd rfl (aW rfl) (bL (jM (K:=K) rfl) (pv 1) aA (λ_ _=>rfl)))
   (av (bJ (i:=4) sc.nd rfl (aW rfl) (eP ar))
   (av (dW bh rfl (Qz (K:=K) rfl rfl T.wW (aa (pv 0) (aa (pv 2) (aa (pv 3) ar)))) (j7 rfl (cH (bZ (i:=5) sc.nd rfl (aW rfl)) (cH (bZ (i:=6) sc.nd rfl (aW rfl)) (cH (bZ (i:=7) sc.nd rfl (aW rfl)) iL))))
   (aC (dC (PW.pt (a0j (cg iR (bL (jM (K:=K) rfl) (pv 5) aA (λ_ _=>rfl)) aA (cE _)) (a0g (lL (wb (pv 7))))))
   (aC (da (lj bx bH bI eH (pv 4) (aa (bL (jM (K:=K) rfl) (cx nq hr (aa (bL (jM (K:=K) rfl) (pv 5) aA (λ_ _=>rfl)) (aa (pv 3) ar))) aA (λ_ _=>rfl)) ar))))
   (aC (da (lj bx bH bI eH (pv 4) (aa (pv 6) ar)))))))
   (aC (cf (gh (aa (pv 3) (aa (pv 4) ar)))))))))),?_⟩
 refine⟨_,rfl,.ref a,G,rfl,hv,g,qN,qO,cb,tb,λl lt ra ta ys r TT H1 S1 Q9 qX Yd Fu Ox rl tl N bt Oy=>?_⟩;refine⟨1,rfl,l,_,_,_,rfl,rfl,bQ.of (bX _ _ qX),O5,?_⟩;refine⟨_,rfl,lt,_,_,_,rfl,rfl,eU.of (bX _ _ Yd),bu (j:=0) rfl,?_⟩;refine⟨_,rfl,lt,_,_,_,rfl,rfl,eU.of (bX _ _ Yd),bu (j:=1) rfl,?_⟩;refine⟨bv _,λwa ui=>?_⟩;have s2:=ay ui (.lst []);have hwn:nt H1 wa=none:=v8 ui;have S2:=Sm.of s2;have Kk:=Q9.up s2;have mW:upd H1 wa (.lst []) wa=some (.lst (tV [])):=au;generalize upd H1 wa (.lst [])=H2 at S2 Kk mW ⊢;clear s2;have ha1:=S1 _ _ ha;refine⟨_,rfl,_,rfl,_,rfl,a,ra,ta,rfl,⟨_,bQ.of (S2.lst ha1)⟩,⟨_,bQ.of (S2.lst Fu)⟩,⟨_,bQ.of (S2.lst Ox)⟩,Lb (K:=K) (a:=a) (b:=ra) (d:=ta) (xs:=us) (ys:=tV r) (zs:=tV TT) (by rw[ik,ul,rl.1]) (by rw[ik,ul,tl]) (λi σ H3=>∃ (ws:List (Option Int)) (y1 y2 y3:Option V),σ=[some (.ref a),some (.ref lt),some (.ref ra),some (.ref ta),some (.ref wa),y1,y2,y3]/\Sm H1 H3/\qI K H3/\H3 wa=some (.lst (tV ws))/\ws.length=i/\∀ j row,j<i->G[j]?=some row->(row.1=0/\cU TT (j:Int)≠none->∃ w∈row.2,(∀ w'∈row.2,fv (a0a (cU TT) w) (a0a (cU TT) w'))/\ws[j]?=some (some w.1))/\(¬ (row.1=0/\cU TT (j:Int)≠none)->ws[j]?=r[j]?))
  ⟨[],_,_,_,rfl,S2,Kk,mW,rfl,λj row hj=>absurd hj (kr j)⟩ (λi σ H3 _ h=>?_) (λi x y z σ H3 tt hx hy hz h Fw=>?_) (λσ H3 h=>?_)⟩
 ·obtain⟨_,_,_,_,_,S3,_⟩:=h;exact⟨bQ.of (S3.lst ha1),bQ.of (S3.lst Fu),bQ.of (S3.lst Ox)⟩
 ·clear S2 Kk mW;obtain⟨ws,y1,y2,y3,rfl,S3,Cs,Bu,wl3,h⟩:=h;have il:i<G.length:=by rw[← ul];exact (af.mp hx).1
  have eJ:=ao il;have gk:=g _ (cq il);obtain⟨t,wl,hu,ht,hw⟩:=ya i _ eJ;generalize G[i]=row at eJ gk ht hw;rw[hx] at hu;injection hu with hu;subst hu;obtain⟨o,ho,rfl⟩:=xQ hy;obtain⟨u,hu,rfl⟩:=xQ hz;have Ox:=S1 _ _ ht;have pb:=gR.up S1 hw;have eu:cU TT (i:Int)=u:=by rw[Ra,hu];rfl
  have s4:=ay Fw (.tup [V.ref t,oV o,oV u]);have S4:=S3.trans (Sm.of s4);have Ee:=Cs.up s4;have Cp:=s4 _ _ Bu;refine⟨tt,_,rfl,eU.of au,rfl,_,_,rfl,_,_,rfl,_,_,rfl,rfl,?_⟩;generalize upd H3 tt (.tup [V.ref t,oV o,oV u])=H4 at S4 Ee Cp ⊢;clear S3 Cs Bu s4 Fw;have fin:∀ (p:Option Int) (H5:Hp) (y1 y2 y3:Option V),Sm H1 H5->qI K H5->H5 wa=some (.lst (tV ws))->((row.1=0/\u≠none->∃ w∈row.2,(∀ w'∈row.2,fv (a0a (cU TT) w) (a0a (cU TT) w'))/\p=some w.1)/\(¬ (row.1=0/\u≠none)->p=o))->∃ (SM:List (Option Int)) (z1 z2 z3:Option V),[some (V.ref a),some (.ref lt),some (.ref ra),some (.ref ta),some (.ref wa),y1,y2,y3]=[some (V.ref a),some (.ref lt),some (.ref ra),some (.ref ta),some (.ref wa),z1,z2,z3]/\Sm H1 (upd H5 wa (.lst (tV ws++[oV p])))/\qI K (upd H5 wa (.lst (tV ws++[oV p])))/\upd H5 wa (.lst (tV ws++[oV p])) wa=some (.lst (tV SM))/\SM.length=i+1/\∀ j row,j<i+1->G[j]?=some row->(row.1=0/\cU TT (j:Int)≠none->∃ w∈row.2,(∀ w'∈row.2,fv (a0a (cU TT) w) (a0a (cU TT) w'))/\SM[j]?=some (some w.1))/\(¬ (row.1=0/\cU TT (j:Int)≠none)->SM[j]?=r[j]?):=λp H5 y1 y2 y3 S5 OE LO hp=>by
   refine⟨ws++[p],y1,y2,y3,rfl,S5.put hwn _,OE.put LO,by rw[au,tX],by rw[aO,wl3];rfl,λj FX hj ye=>?_⟩;rcases cN j i with c | c
   ·rw[bW (by omega)];exact h j FX c ye
   ·have:j=i:=by omega
    subst this;rw[eJ] at ye;cases ye;rw[tQ wl3,eu,ho];exact⟨λz=>by obtain⟨w,k1,k2,k3⟩:=hp.1 z;exact⟨w,k1,k2,by rw[k3]⟩,λz=>by rw[hp.2 z]⟩
  refine⟨_,rfl,t,_,_,_,rfl,rfl,eU.of (S4.tup Ox),bu (j:=0) rfl,rfl,_,rfl,?_⟩;have WR:(tV ws).length<=1000:=by rw[ik];omega
  refine fB (λc=>?_) (λc=>?_)
  ·have c:row.1=0:=by have:=of_decide_eq_true c;injection this
   refine⟨_,rfl,_,rfl,?_⟩;cases u with
   | none =>
    refine fW ?_;exact⟨_,rfl,.inl ⟨rfl,_,bQ.of Cp⟩,_,rfl,wa,_,_,rfl,rfl,Cp,oR (m:=1000) WR,fin o H4 _ _ _ S4 Ee Cp ⟨λz=>absurd rfl z.2,λ_=>rfl⟩⟩
   | some u =>
    refine mF ?_;have rg:∀ y∈row.2,0<=y.1/\y.1<TT.length:=λy hy=>by have:=gk.2.2 y hy;omega
    refine⟨_,rfl,.inl ⟨rfl,_,bQ.of Cp⟩,_,rfl,t,_,_,_,rfl,rfl,eU.of (S4.tup Ox),bu (j:=1) rfl,_,rfl,.ref wl,ta,row.2,TT,rfl,gR.up S4 pb,S4 _ _ ‹nt H1 ta=_›,gk.1,rg,Ee,λwt wy H5 S5 OE GQ best PH=>?_⟩;have LO:=S5.lst (ig Cp);refine⟨wt,_,_,_,rfl,rfl,eU.of (bX _ _ PH),bu (j:=0) rfl,wa,_,_,rfl,rfl,LO,oR (m:=1000) WR,fin (some wy.1) H5 _ _ _ (S4.trans S5) OE LO ⟨λ_=>⟨wy,GQ,λw' pG=>?_,rfl⟩,λz=>absurd ⟨c,λz=>by cases z⟩ z⟩⟩;have:=best w' pG;rwa [if_neg (by decide)] at this
  ·have c:¬ row.1=0:=λz=>c (decide_eq_true (by rw[z]));refine fW ?_;exact⟨_,rfl,.inl ⟨rfl,_,bQ.of Cp⟩,_,rfl,wa,_,_,rfl,rfl,Cp,oR (m:=1000) WR,fin o H4 _ _ _ S4 Ee Cp ⟨λz=>absurd z.1 c,λ_=>rfl⟩⟩
 ·obtain⟨ws,y1,y2,y3,rfl,S3,Cs,Bu,wl3,h⟩:=h;rw[ul] at wl3 h;refine⟨_,rfl,_,rfl,(by show 2<=aJ;decide),λt ht=>?_⟩;have s4:=ay ht (.tup [V.ref ta,V.ref wa]);exact q t ta wa TT ws _ ((S1.trans S3).trans (Sm.of s4)) (Cs.up s4) (rP au) ((S3.trans (Sm.of s4)) _ _ Ox) (ig (s4 _ _ Bu)) ⟨r,tl,rl,N,bt,wl3,λi row eJ=>h i row (af.mp eJ).1 eJ⟩ Oy
def ni (G:List qF):List qF:=G.map λr=>(1-r.1,r.2.map (Ai G.length))
theorem qf (G:List qF):(ni G).length=G.length:=ag _
def F9 (K:aj):Sp:=λvs H Q E=>∃ (v:V) (G:List qF),vs=[v]/\QH H G v/\G.length<=16/\(∀ r∈G,r.2.length<=60)/\wQ (ni G)/\∀ (u:V) (H':Hp),bp H H'->QH H' (ni G) u->Q u H'
theorem Jw (F:aX K mg "turned_purses" gr ["game"]) (T:Txt mg) (XC:XT K mg "GarthError" JU JT) (oz:vB P w K mg base "purse_game" 6 ["rows"] (B3 K)):vB P w K mg base "turned_purses" 7 ["game"] (F9 K):=by
 have sc:=uY;refine F.OA sc (λvs H Q E h=>?_) (λf di A outer s H vs Q E hr h=>?_)
 ·obtain⟨_,_,rfl,_⟩:=h;rfl
 obtain⟨v,G,rfl,hG,TW,Fv,Lq,q⟩:=h;obtain⟨g0,gv,rfl,jv,k8,eJ⟩:=n8 hG;refine⟨_,(av (bJ (i:=1) sc.nd rfl (oo rfl) (bE (eV (K:=K) rfl) rfl T.eL be (aa (pv 0) ar)))
   (aC (cf (jk pX oz hr (aa (tE (aG gr) ["game","count"] ["hand","ways","count"] 2 [1] (c8 (pv 0)) (λ_ _ _ _ _ _=>(JA (K:=K) rfl rfl (show cO (["hand","ways","count"]:List bc) by decide +kernel) rfl rfl rfl rfl)) (λ_ _ _ _ _ _=>iM) (λ_ _ _ _ _ _=>(gh (aa (bV lK aA (pv 0)) (aa (by exact (we  ["hand","ways","count"] ["place","amount","count"] 2 [2] (tF (pv 1)) (λ_ _ _ _ _ _=>(JA (K:=K) rfl rfl (show cO (["place","amount","count"]:List bc) by decide +kernel) rfl rfl rfl rfl)) (λ_ _ _ _ _ _=>iM) (λ_ _ _ _ _ _=>(gh (aa (pv 0) (aa (bV lK (bV lJ (Hg B7 (pv 2)) (pv 1)) aA) ar)))))) ar))))) ar))))),?_⟩
 refine⟨_,rfl,g0,_,rfl,.inl (bQ.of jv),?_⟩;refine⟨_,rfl,g0,rfl,⟨_,bQ.of jv⟩,cY (K:=K) (a:=g0) (xs:=gv) (λi ys H2=>bp H H2/\dE (Sj H2) ((ni G).take i) ys) ⟨bp.refl _,.nil⟩ (a0b (m:=1000) (by omega)) (λi ys H2 hi h=>?_) (λi x ys H2 hi h=>?_) (λys H2 h p hp=>?_)⟩
 ·exact⟨bQ.of (h.1 _ _ jv),by have:=h.2.length;rw[cA] at this;omega⟩
 ·obtain⟨s2,pr⟩:=h;have R4:i<G.length:=by have:=(af.mp hi).1;omega
  obtain⟨row,jC⟩:∃ row,G[i]?=some row:=⟨G[i],by simp⟩
  obtain⟨t,wa,p1,p2,p3⟩:=eJ i row jC;rw[hi] at p1;cases p1;have k60:=Fv row (aq jC);obtain⟨_,Km,e0,uj,Rq,JQ⟩:=mT p3;cases e0;refine kL (eU.of (s2 _ _ p2)) rfl ?_;refine⟨_,rfl,_,_,rfl,rfl,_,rfl,wa,rfl,⟨_,bQ.of (s2 _ _ uj)⟩,cY (K:=K0) (a:=wa) (xs:=Km) (λj zs H3=>∃ us:List (ak × Int × Int),bp H2 H3/\zs=us.map (λu=>V.ref u.1)/\us.map (λu=>u.2)=(row.2.take j).map (Ai G.length)/\∀ u∈us,H3 u.1=some (.tup [.int u.2.1,.int u.2.2])) ⟨[],bp.refl _,rfl,rfl,λ_ z=>by cases z⟩ (a0b (m:=1000) (by omega)) (λj zs H3 hj h=>?_) (λj x zs H3 hj h=>?_) (λzs H3 h p hp=>?_)⟩
  ·obtain⟨us,s3,rfl,e2,_⟩:=h;refine⟨bQ.of ((s2.trans s3) _ _ uj),?_⟩;have:=congrArg l9 e2;rw[ag,ag,cA] at this;rw[ag];omega
  ·obtain⟨us,s3,rfl,e2,e3⟩:=h;have jl:j<row.2.length:=by rw[← Rq];exact (af.mp hj).1
   obtain⟨t2,Co,uI⟩:=JQ j _ (ao jl);rw[hj] at Co;injection Co with Co;subst Co;refine kL (eU.of ((s2.trans s3) _ _ uI)) rfl ?_;refine⟨_,rfl,_,rfl,_,rfl,_,rfl,_,_,rfl,rfl,.inl ⟨by omega,by omega⟩,_,_,rfl,rfl,(by show 2<=aJ;decide),λu hu=>?_⟩;refine⟨us++[(u,Ai G.length row.2[j])],s3.trans (ay hu _),by rw[aN];rfl,?_,λv hv=>?_⟩
   ·rw[aN,e2,bw,ao jl,aN];rfl
   ·rcases bj.mp hv with h | h
    ·exact ay hu _ _ _ (e3 v h)
    ·rw[aP.mp h,au,k8];rfl
  obtain⟨us,s3,rfl,e2,e3⟩:=h;rw[Rq,aY] at e2;refine⟨(by show 2<=aJ;decide),λt3 GP=>?_⟩;have sA:=(ay hp (.lst (us.map λu=>V.ref u.1))).trans (ay GP (.tup [.int (1-row.1),.ref p]));refine⟨(s2.trans s3).trans sA,?_⟩;rw[bw,show (ni G)[i]?=some (1-row.1,row.2.map (Ai G.length)) by unfold ni;rw[aI,jC];rfl];refine Paired.app (dq l6 (s3.trans sA) pr) (.cons ?_ .nil);refine⟨t3,_,_,rfl,au,rfl,?_⟩;have hw:kI (upd (upd H3 p (.lst (us.map λu=>V.ref u.1))) t3 (.tup [.int (1-row.1),.ref p])) p us:=⟨ay GP _ _ _ au,λu hu=>sA _ _ (e3 u hu)⟩
  have:=hw.rel;rw[e2] at this;exact this
 obtain⟨s2,pr⟩:=h;rw[k8,← qf G,aY] at pr;have s3:=s2.trans (ay hp (.lst ys));refine⟨_,ni G,rfl,⟨p,ys,rfl,au,dq l6 (ay hp _) pr⟩,by rw[qf];omega,.inr ⟨Lq,λg gv' H1 s1 hg pr1=>?_⟩⟩;have s4:=ay hg (.lst gv');exact q _ _ ((s3.trans s1).trans s4) ⟨g,gv',rfl,au,dq l6 ((mh _ _).trans s4) pr1⟩
def dN (G:List Row) (h:Int):List qF:=if h=0 then kJ G else ni (kJ G)
structure wL (G:List Row):Prop where
 qN:G.length<=16
 VB:∀ r∈G,0<=r.2.1/\r.2.1<=1000/\r.2.2.length<=60
 am:wQ (kJ G)
 tu:wQ (ni (kJ G))
def ZS (K:aj):Sp:=λvs H Q E=>∃ (v:V) (h:Int) (G:List Row),vs=[v,.int h]/\jj H G v/\wL G/\∀ (u:V) (H':Hp),bp H H'->QH H' (dN G h) u->Q u H'
theorem Qf (F:aX K mg "hand_amounts" iS ["game","hand"]) (T:Txt mg) (XC:XT K mg "GarthError" JU JT) (oy:vB P w K mg base "amounts_of" 7 ["game"] (F4 K)) (lE:vB P w K mg base "turned_purses" 7 ["game"] (F9 K)):vB P w K mg base "hand_amounts" 8 ["game","hand"] (ZS K):=by
 have sc:=vN;refine F.OA sc (λvs H Q E h=>?_) (λf di A outer s H vs Q E hr h=>?_)
 ·obtain⟨_,_,_,rfl,_⟩:=h;rfl
 obtain⟨v,h,G,rfl,hG,ok,q⟩:=h;refine⟨_,(av (bJ (i:=2) sc.nd rfl (aW rfl) (jk pX oy hr (aa (pv 0) ar)))
   (aC (cf (lm (cg iR (pv 1) aA (cE _)) (pv 2) (jk pX lE hr (aa (pv 2) ar)))))),?_⟩
 refine⟨_,rfl,v,G,rfl,hG,by have:=ok.qN;omega,ok.VB,.inr ⟨ok.am,λg gv H1 s1 hg pr=>?_⟩⟩;have s2:=ay hg (.lst gv);have hA:QH (upd H1 g (.lst gv)) (kJ G) (.ref g):=⟨g,gv,rfl,au,dq l6 ((mh _ _).trans s2) pr⟩
 have s3:=s1.trans s2;generalize upd H1 g (.lst gv)=H2 at hA s3 ⊢;refine⟨_,rfl,rfl,_,rfl,?_⟩;refine fB (λc=>?_) (λc=>?_)
 ·have c:h=0:=by have:=of_decide_eq_true c;injection this
  refine⟨_,rfl,q _ _ s3 ?_⟩;unfold dN;rw[if_pos c];exact hA
 ·have c:¬ h=0:=λz=>c (decide_eq_true (by rw[z]));refine⟨_,rfl,_,kJ G,rfl,hA,by rw[jA];exact ok.qN,λr hr=>?_,ok.tu,λu H' s' hu=>q u H' (s3.trans s') ?_⟩
  ·obtain⟨r0,h0,rfl⟩:=aM.mp hr;rw[ag];exact (ok.VB r0 h0).2.2
  ·unfold dN;rw[if_neg c];exact hu
theorem G6 {H:Hp} {G:List Row} {v:V} (h:jj H G v):jj (nt H) G v:=by
 obtain⟨a,us,rfl,h,p⟩:=h;refine⟨a,us,rfl,ig h,qx (λH x v r=>?_) p⟩;obtain⟨t,y1,y2,y3,e,ht,r1,r2,wa,ws,e2,hw,r3⟩:=r;exact⟨t,y1,y2,y3,e,rP ht,r1,r2,wa,ws,e2,ig hw,qx (λ_ _ _ r=>r) r3⟩
def io (T:List (Option Int)) (i:Nat):Int:=if cU T (i:Int)=none then 1 else 0
theorem gW (G:List Row) (h:Int):(dN G h).length=G.length:=by unfold dN;split <;> simp[jA,qf]
theorem sX {G:List Row} (ok:wL G) (h:Int):∀ row∈dN G h,row.2.length<=100:=λrow hr=>by
 unfold dN at hr;split at hr
 ·have:=(ok.am.2 row hr).2.2.2.2;omega
 ·have:=(ok.tu.2 row hr).2.2.2.2;omega
theorem jD {A:List cX} {T ws:List (Option Int)} (g:si A) (s:pA A T ws) {i:Nat} {row:cX} (hr:A[i]?=some row) (ht:cU T (i:Int)≠none):(row.1=0->∃ w∈row.2,ws[i]?=some (some w.1)/\fv (a0a (cU T) w) (cU T (i:Int)))/\(row.1=1->∀ w∈row.2,fv (a0a (cU T) w) (cU T (i:Int))):=by
 obtain⟨r,tl,rl,N,bt,wl,h⟩:=s;have il:=(af.mp hr).1;refine⟨λe=>?_,λe w hw=>bt.last g N hr e hw⟩;obtain⟨w,hw,best,hws⟩:=(h i row hr).1 ⟨e,ht⟩;refine⟨w,hw,hws,?_⟩;cases et:cU T (i:Int) with
 | none=>exact absurd et ht
 | some v =>
  obtain⟨w',pG,hle⟩:=N.way (i:Int) v (by omega) (by omega) et;rw[jN rl hr (by rw[e];decide)] at pG;exact (best w' pG).trans hle
theorem Dy {a b:Option Int} (h:fv a b) (hb:b≠none):a≠none:=λz=>by
 subst z;cases b with
 | none=>exact hb rfl
 | some v=>exact h.elim
theorem zW {T:Tb} {w:Wy} (h:a0a T w≠none):T w.1≠none:=λz=>h (by unfold a0a;rw[z];rfl)
def BL (G:List Row) (x:Int):Int:=((G[x.toNat]?).map λr=>r.2.1).getD 0
theorem MU {G:List Row} {i:Nat} {row:Row} (h:G[i]?=some row):BL G (i:Int)=row.2.1:=by unfold BL;rw[show ((i:Int)).toNat=i from rfl,h];rfl
theorem xj {G:List Row} {i:Nat} {row:Row} (h:G[i]?=some row):(dN G 0)[i]?=some (row.1,row.2.2.map λp=>(p,kT G.length row.2.1)):=by unfold dN;rw[if_pos rfl];unfold kJ;rw[aI,h];rfl
theorem zK {G:List Row} {i:Nat} {row:Row} (h:G[i]?=some row):(dN G 1)[i]?=some (1-row.1,(row.2.2.map λp=>(p,kT G.length row.2.1)).map (Ai G.length)):=by unfold dN;rw[if_neg (by decide)];unfold ni;rw[jA];unfold kJ;rw[aI,aI,h];rfl
def lfO (row:Row):Option Int->List Int
 | none=>row.2.2
 | some z=>[z]
def pK (G:List Row) (ws:List (Option Int)):List (List Int):=aaK lfO G ws
theorem mG {G:List Row} {ws:List (Option Int)} {i:Nat} {row:Row} {o:Option Int} (h1:G[i]?=some row) (h2:ws[i]?=some o):(pK G ws)[i]?=some (lfO row o):=by unfold pK;rw[iV,h1,h2]
section
variable {G:List Row} {hs:List Int} {ws:List (Option Int)} {T0 w0 T1 w1:List (Option Int)}
structure Ew (G:List Row) (ws T0 w0 T1 w1:List (Option Int)):Prop where
 g0:si (dN G 0)
 g1:si (dN G 1)
 s0:pA (dN G 0) T0 w0
 s1:pA (dN G 1) T1 w1
 hd:∀ r∈G,r.1=0\/r.1=1
 ws:∀ (i:Nat) row,G[i]?=some row->ws[i]?=some (if row.1=io T0 i then (if io T0 i=0 then (w0[i]?).getD none else (w1[i]?).getD none) else none)
theorem Ew.or (t:Ew G ws T0 w0 T1 w1) {i:Nat} {row:Row} (hr:G[i]?=some row) (e0:cU T0 (i:Int)=none):cU T1 (i:Int)≠none:=λe1=>by
 obtain⟨g0,g1,⟨r0,_,Sn,N0,_⟩,⟨r1,_,rl1,N1,_⟩,hd,_⟩:=t;rw[gW] at N0 N1;have il:=(af.mp hr).1;have i0:=qu g0 Sn;rw[gW] at i0;refine M9 i0 N0 N1 (λx x0 x1=>?_) (x:=(i:Int)) (by omega) (by omega) e0 e1;obtain⟨k,rfl⟩:∃ k:Nat,x=(k:Int):=⟨x.toNat,by omega⟩
 have kl:k<G.length:=by omega
 have hk:=ao kl;have XN:=hd _ (cq kl);generalize G[k]=WO at hk XN;have a0:=xj hk;have a1:=zK hk;rcases XN with e | e
 ·obtain⟨w2,mW,h2⟩:=(rl1.2 k _ a1).2 (by show 1-WO.1=1;omega);rw[jN Sn a0 (by show WO.1≠1;omega),gI g1 a1 mW h2];obtain⟨w,hw,rfl⟩:=aM.mp mW;exact⟨w,hw,aP.mpr rfl⟩
 ·obtain⟨w,hw,h2⟩:=(Sn.2 k _ a0).2 e;rw[gI g0 a0 hw h2,jN rl1 a1 (by show 1-WO.1≠1;omega)];exact⟨w,aP.mpr rfl,aM.mpr ⟨w,hw,rfl⟩⟩
theorem Y1 (g0:si (dN G 0)) (g1:si (dN G 1)) (s0:pA (dN G 0) T0 w0) (s1:pA (dN G 1) T1 w1) (hd:∀ r∈G,r.1=0\/r.1=1) {x:Int} (x0:0<=x) (x1:x<(G.length:Int)) (e0:cU T0 x≠none) (e1:cU T1 x≠none):False:=by
 refine Mh (n:=G.length) (λx x0 x1 h0 h1=>?_) x0 x1 e0 e1;obtain⟨k,rfl⟩:∃ k:Nat,x=(k:Int):=⟨x.toNat,by omega⟩
 have kl:k<G.length:=by omega
 have hk:=ao kl;have XN:=hd _ (cq kl);generalize G[k]=WO at hk XN;have a0:=xj hk;have a1:=zK hk;have b0:=(g0 _ (aq a0)).2.2;rw[gW] at b0;rcases XN with e | e
 ·obtain⟨w,hw,_,hle⟩:=(jD g0 s0 a0 h0).1 e;exact⟨w,b0 w hw,hle,(jD g1 s1 a1 h1).2 (by show 1-WO.1=1;omega) _ (aM.mpr ⟨w,hw,rfl⟩)⟩
 ·obtain⟨w2,mW,_,hle⟩:=(jD g1 s1 a1 h1).1 (by show 1-WO.1=0;omega);obtain⟨w,hw,rfl⟩:=aM.mp mW;exact⟨w,b0 w hw,(jD g0 s0 a0 h0).2 e _ hw,hle⟩
theorem Ew.nb (t:Ew G ws T0 w0 T1 w1) {x:Int} (x0:0<=x) (x1:x<(G.length:Int)) (e0:cU T0 x≠none) (e1:cU T1 x≠none):False:=Y1 t.g0 t.g1 t.s0 t.s1 t.hd x0 x1 e0 e1
theorem An {T:List (Option Int)} {i:Nat}:io T i=0↔cU T (i:Int)≠none:=by unfold io;split <;> simp_all
theorem Ao {T:List (Option Int)} {i:Nat}:io T i=1↔cU T (i:Int)=none:=by unfold io;split <;> simp_all
theorem xV (T:List (Option Int)) (i:Nat):io T i=0\/io T i=1:=by unfold io;split <;> simp
theorem Ew.own (t:Ew G ws T0 w0 T1 w1) {i:Nat} {row:Row} (hr:G[i]?=some row) (e:row.1=io T0 i):∃ z∈row.2.2,ws[i]?=some (some z):=by
 have h:=t.ws i row hr;rw[if_pos e] at h;rcases xV T0 i with z | z
 ·rw[if_pos z] at h;obtain⟨w,hw,h2,_⟩:=(jD t.g0 t.s0 (xj hr) (An.mp z)).1 (by show row.1=0;omega);rw[h2] at h;obtain⟨p,hp,rfl⟩:=aM.mp hw;exact⟨p,hp,h⟩
 ·rw[if_neg (by omega)] at h;obtain⟨w,hw,h2,_⟩:=(jD t.g1 t.s1 (zK hr) (t.or hr (Ao.mp z))).1 (by show 1-row.1=0;omega);rw[h2] at h;obtain⟨w',pG,rfl⟩:=aM.mp hw;obtain⟨p,hp,rfl⟩:=aM.mp pG;exact⟨p,hp,h⟩
theorem Ew.other (t:Ew G ws T0 w0 T1 w1) {i:Nat} {row:Row} (hr:G[i]?=some row) (e:row.1≠io T0 i):ws[i]?=some none:=by
 have h:=t.ws i row hr;rwa [if_neg e] at h
theorem Ew.step (t:Ew G ws T0 w0 T1 w1) {i:Nat} {row:Row} (hr:G[i]?=some row) {l:List Int} (hl:(pK G ws)[i]?=some l) {p:Int} (hp:p∈l):p∈row.2.2/\(io T0 i=0->fv (a0a (cU T0) (p,kT G.length row.2.1)) (cU T0 (i:Int)))/\(io T0 i=1->fv (a0a (cU T1) (Ai G.length (p,kT G.length row.2.1))) (cU T1 (i:Int))):=by
 have hh:=t.hd _ (aq hr)
 by_cases e:row.1=io T0 i
 ·have h:=t.ws i row hr;rw[if_pos e] at h;rcases xV T0 i with z | z
  ·rw[if_pos z] at h;obtain⟨w,hw,h2,hle⟩:=(jD t.g0 t.s0 (xj hr) (An.mp z)).1 (by show row.1=0;omega);rw[h2] at h;obtain⟨p',Uz,rfl⟩:=aM.mp hw;rw[mG hr h] at hl;cases hl;rw[aP.mp hp];exact⟨Uz,λ_=>hle,λy=>by omega⟩
  ·rw[if_neg (by omega)] at h;obtain⟨w,hw,h2,hle⟩:=(jD t.g1 t.s1 (zK hr) (t.or hr (Ao.mp z))).1 (by show 1-row.1=0;omega);rw[h2] at h;obtain⟨w',pG,rfl⟩:=aM.mp hw;obtain⟨p',Uz,rfl⟩:=aM.mp pG;rw[mG hr h] at hl;cases hl;rw[show p=p' from aP.mp hp];exact⟨Uz,λy=>by omega,λ_=>hle⟩
 ·have h:=t.other hr e;rw[mG hr h] at hl;cases hl;refine⟨hp,λz=>?_,λz=>?_⟩
  ·exact (jD t.g0 t.s0 (xj hr) (An.mp z)).2 (by show row.1=1;omega) _ (aM.mpr ⟨p,hp,rfl⟩)
  ·exact (jD t.g1 t.s1 (zK hr) (t.or hr (Ao.mp z))).2 (by show 1-row.1=1;omega) _ (aM.mpr ⟨_,aM.mpr ⟨p,hp,rfl⟩,rfl⟩)
theorem Ew.JJ (t:Ew G ws T0 w0 T1 w1) {i:Nat} {row:Row} (hr:G[i]?=some row) {l:List Int} (hl:(pK G ws)[i]?=some l) {p:Int} (hp:p∈l):(0<=p/\p<(G.length:Int))/\io T0 p.toNat=io T0 i:=by
 obtain⟨h1,h2,h3⟩:=t.step hr hl hp;have b0:=(t.g0 _ (aq (xj hr))).2.2 (p,kT G.length row.2.1) (aM.mpr ⟨p,h1,rfl⟩);rw[gW] at b0;have b0:0<=p/\p<(G.length:Int):=b0;refine⟨b0,?_⟩;have ep:((p.toNat:Nat):Int)=p:=by omega
 rcases xV T0 i with z | z
 ·rw[z,An,ep];exact zW (Dy (h2 z) (An.mp z))
 ·rw[z,Ao,ep];have n1:=zW (Dy (h3 z) (t.or hr (Ao.mp z)));exact bB λy=>t.nb b0.1 b0.2 y n1
theorem Ew.ring (t:Ew G ws T0 w0 T1 w1) (Fv:∀ r∈G,0<=r.2.1) {q:Nat} (ql:q<G.length) {s:List Wy} (hs:s≠[]) (hw:jG (λx w=>(0<=x/\∃ l,(pK G ws)[x.toNat]?=some l/\w.1∈l)/\w.2=kT G.length (BL G x)) (q:Int) s (q:Int)) (hm:∀ w∈s,BL G w.1<=BL G (q:Int)):BL G (q:Int) % 2=io T0 q:=by
 have Cq:∀ {x:Int} {l:List Int},0<=x->(pK G ws)[x.toNat]?=some l->∃ (k:Nat) (row:Row),x=(k:Int)/\G[k]?=some row/\(pK G ws)[k]?=some l:=λ{x l} x0 hl=>by
  have xl:x.toNat<G.length:=by
   have:=(af.mp hl).1;unfold pK at this;rw[ud] at this;omega
  exact⟨x.toNat,_,by omega,ao xl,hl⟩
 have h0:∀ w∈s,0<=BL G w.1:=λw _=>by
  unfold BL;cases e:G[w.1.toNat]? with
  | none=>exact dz _
  | some r=>exact Fv r (aq e)
 have sp:=a0m (C:=λx=>0<=x/\io T0 x.toNat=io T0 q) (λx w h c=>by
  obtain⟨⟨x0,l,hl,hp⟩,_⟩:=h;obtain⟨k,row,rfl,hr,hl⟩:=Cq x0 hl;obtain⟨b,e⟩:=t.JJ hr hl hp;exact⟨b.1,e.trans c.2⟩) hw ⟨by omega,rfl⟩
 have hwc:jG (λx w=>((0<=x/\∃ l,(pK G ws)[x.toNat]?=some l/\w.1∈l)/\w.2=kT G.length (BL G x))/\io T0 x.toNat=io T0 q) (q:Int) s (q:Int):=hw.and λa w b e tt ha hR=>⟨hR,((a0m (C:=λx=>0<=x/\io T0 x.toNat=io T0 q) (λx w h c=>by
  obtain⟨⟨x0,l,hl,hp⟩,_⟩:=h;obtain⟨k,row,rfl,hr,hl⟩:=Cq x0 hl;obtain⟨b,e⟩:=t.JJ hr hl hp;exact⟨b.1,e.trans c.2⟩) ha ⟨by omega,rfl⟩).1).2⟩
 have hr2:=Int.emod_two_eq (BL G (q:Int));rcases xV T0 q with z | z
 ·have:=Du (n:=G.length) (rk:=BL G) (T:=cU T0) hs (hwc.and λa w b _ tt _ hR=>by
   obtain⟨⟨⟨x0,l,hl,hp⟩,ha⟩,e⟩:=hR;obtain⟨k,row,rfl,hr,hl⟩:=Cq x0 hl;have e:io T0 k=io T0 q:=e;obtain⟨h1,h2,h3⟩:=t.step hr hl hp;rw[MU hr] at ha ⊢;have ew:(w.1,kT G.length row.2.1)=w:=by rw[← ha]
   rw[ew] at h2;exact⟨⟨ha,(t.JJ hr hl hp).1⟩,h2 (by omega),An.mp (by omega)⟩) h0 hm
  omega
 ·have:=Ge (n:=G.length) (rk:=BL G) (T:=cU T1) hs (hwc.and λa w b _ tt _ hR=>by
   obtain⟨⟨⟨x0,l,hl,hp⟩,ha⟩,e⟩:=hR;obtain⟨k,row,rfl,hr,hl⟩:=Cq x0 hl;have e:io T0 k=io T0 q:=e;obtain⟨h1,h2,h3⟩:=t.step hr hl hp;rw[MU hr] at ha ⊢;have ew:(w.1,kT G.length row.2.1)=w:=by rw[← ha]
   rw[ew] at h3;exact⟨⟨ha,(t.JJ hr hl hp).1⟩,h3 (by omega),t.or hr (Ao.mp (by omega))⟩) h0 hm
  omega
end
theorem Lh {G:List Row} (h:LG G):wL G/\∀ r∈G,r.1=0\/r.1=1:=by
 obtain⟨kU,TV,m,m3,_,vh⟩:=h;have hlp:0<G.length:=bT.mpr kU;have hb:∀ row∈G,-(12 ^ 40:Int)<=kT G.length row.2.1/\kT G.length row.2.1<=12 ^ 40:=λrow jC=>by
  obtain⟨h1,⟨r0,r1⟩,_⟩:=vh row jC;have p0:(0:Int)<=(G.length:Int) ^ row.2.1.toNat:=CM (by omega);have p1:(G.length:Int) ^ row.2.1.toNat<=12 ^ 40:=by
   have a1:G.length ^ row.2.1.toNat<=12 ^ row.2.1.toNat:=Nat.pow_le_pow_left TV _;have a2:12 ^ row.2.1.toNat<=12 ^ 40:=su (by decide) (by omega)
   exact_mod_cast b7 a1 a2
  unfold kT;split <;> omega
 refine⟨⟨by omega,λr hr=>?_,⟨by rw[jA];omega,λr hr=>?_⟩,⟨by rw[qf,jA];omega,λr hr=>?_⟩⟩,λr hr=>(vh r hr).1⟩
 ·obtain⟨_,⟨r0,r1⟩,_,_,_,w4⟩:=vh r hr;exact⟨r0,by omega,by omega⟩
 ·unfold kJ at hr;obtain⟨row,jC,rfl⟩:=aM.mp hr;obtain⟨h1,⟨r0,r1⟩,w1,w2,w3,w4⟩:=vh row jC;have XE:=hb row jC;have p2:(12:Int) ^ 40<10 ^ 60:=by decide
  refine⟨h1,λz=>w1 (by simpa using z),λx hx=>?_,?_,by rw[ag];omega⟩
  ·obtain⟨y,hy,rfl⟩:=aM.mp hx;have:=w3 y hy;refine⟨this.1,?_,by omega,by omega⟩;show y<((kJ G).length:Nat);rw[jA];exact this.2
  ·show (row.2.2.map _).Pairwise _;rw[cT];exact w2
 ·unfold ni at hr;rw[jA] at hr;obtain⟨r',ye,rfl⟩:=aM.mp hr;unfold kJ at ye;obtain⟨row,jC,rfl⟩:=aM.mp ye;obtain⟨h1,⟨r0,r1⟩,w1,w2,w3,w4⟩:=vh row jC;have XE:=hb row jC;have p2:12*(12:Int) ^ 40+1<10 ^ 60:=by decide
  refine⟨?_,λz=>w1 (by simpa using z),λx hx=>?_,?_,by rw[ag,ag];omega⟩
  ·show 1-row.1=0\/1-row.1=1;omega
  ·obtain⟨y',WL,rfl⟩:=aM.mp hx;obtain⟨y,hy,rfl⟩:=aM.mp WL;have:=w3 y hy;have hm:-(12*12 ^ 40:Int)<=(G.length:Int)*kT G.length row.2.1/\(G.length:Int)*kT G.length row.2.1<=12*12 ^ 40:=by
    have l1:(G.length:Int)*kT G.length row.2.1<=(G.length:Int)*12 ^ 40:=iJ XE.2 (by omega);have l2:(G.length:Int)*(-(12 ^ 40))<=(G.length:Int)*kT G.length row.2.1:=iJ XE.1 (by omega);have l3:(G.length:Int)*12 ^ 40<=12*12 ^ 40:=lT (by omega) (by decide);rw[KD] at l2;omega
   refine⟨this.1,?_,?_,?_⟩
   ·show y<((ni (kJ G)).length:Nat);rw[qf,jA];exact this.2
   ·show -(10 ^ 60) < -(G.length:Int)*kT G.length row.2.1-1;rw[oU];omega
   ·show -(G.length:Int)*kT G.length row.2.1-1<10 ^ 60;rw[oU];omega
  ·show ((row.2.2.map _).map _).Pairwise _;rw[cT,cT];exact w2
theorem Li {A:List qF} (h:wQ A):si A:=λrow hr=>by
 obtain⟨_,h1,h2,h3,_⟩:=h.2 row hr;refine⟨h1,?_,λw hw=>⟨(h2 w hw).1,(h2 w hw).2.1⟩⟩;have:(row.2.map (·.1)).Pairwise (·<·):=by rw[cT];exact h3
 exact this.imp λh=>by omega
def xJ {α:Type}:List (List α)->List (List α)
 | []=>[[]]
 | A::As=>(xJ As).flatMap λl=>A.map λa=>a::l
theorem zV {α:Type}:∀ {As:List (List α)} {r:List α},r.length=As.length->(∀ (i:Nat) A a,As[i]?=some A->r[i]?=some a->a∈A)->r∈xJ As
 | [],[],_,_=>aE
 | A::As,a::r,hl,h=>RH.mpr ⟨r,zV (by simpa using hl) λi A a h1 h2=>h (i+1) A a h1 h2,aM.mpr ⟨a,h 0 A a rfl rfl,rfl⟩⟩
 | [],_::_,hl,_=>by simp at hl
 | _::_,[],hl,_=>by simp at hl
theorem Dj {α β:Type} {f:α->List β} {k:Nat}:∀ {l:List α},(∀ x,(f x).length<=k)->(l.flatMap f).length<=l.length*k
 | [],_=>by simp
 | x::l,h=>by
  have:=Dj (l:=l) h;have:=h x;rw[List.flatMap_cons,aO,bi,acm];omega
theorem Aa {α:Type} {k:Nat}:∀ {As:List (List α)},(∀ A∈As,A.length<=k)->(xJ As).length<=k ^ As.length
 | [],_=>by simp[xJ]
 | A::As,h=>by
  have h1:=Aa (As:=As) λB hB=>h B (aL _ hB);have h2:=h A aE;have h3:=Dj (f:=λl:List α=>A.map λa=>a::l) (k:=k) (l:=xJ As) λx=>by rw[ag];exact h2
  exact b7 h3 (by rw[bi,Nat.pow_succ];exact Nat.mul_le_mul_right _ h1)
def Mx (row:cX):List (Option Int):=if row.1=1 then row.2.map λw=>some w.1 else [none]
theorem QO {A:List cX} {r:List (Option Int)} (h:Ci A r):r∈xJ (A.map Mx):=by
 refine zV (by rw[ag];exact h.1) λi B a h1 h2=>?_;rw[aI] at h1;obtain⟨row,hr,rfl⟩:=dP.mp h1;unfold Mx;split
 ·rename_i e;obtain⟨w,hw,h3⟩:=(h.2 i row hr).2 e;rw[h2] at h3;cases h3;exact aM.mpr ⟨w,hw,rfl⟩
 ·rename_i e;have h3:=(h.2 i row hr).1 e;rw[h2] at h3;cases h3;exact aP.mpr rfl
def Xf (A:List cX):List (Option Int):=none::A.flatMap λrow=>row.2.map λw=>some w.1
theorem MV {A:List cX} {r:List (Option Int)} (h:Ci A r):∀ a∈r,a∈Xf A:=λa ha=>by
 obtain⟨i,hi⟩:=ce ha;have il:i<A.length:=by rw[← h.1];exact (af.mp hi).1
 rcases tM h (ao il) with ⟨e,_⟩ | ⟨w,hw,e,_⟩
 ·rw[hi] at e;cases e;exact aE
 ·rw[hi] at e;injection e with e;subst e;exact aL _ (RH.mpr ⟨_,cq il,aM.mpr ⟨w,hw,rfl⟩⟩)
theorem O9 {A:List cX} (g:si A):∀ {L:List (List (Option Int))} {r:List (Option Int)} {T:Tb},JZ A L r T->SQ (eX A) A.length (Xf A) L T/\∀ r'∈L,Ci A r':=λh=>by
 induction h with
 | start rl N=>exact⟨SQ.start rl.1 (MV rl) (qu g rl) N,λr' hr=>by rw[aP.mp hr];exact rl⟩
 | next c b ne N' ih =>
  obtain⟨hb,hm⟩:=b.more g c.rl c.nds N' ne;exact⟨ih.1.next b.rule.1 (MV b.rule) (qu g b.rule) N' hb hm,λr' hr=>by
   rcases aB.mp hr with e | e
   ·rw[e];exact b.rule
   ·exact ih.2 r' e⟩
theorem Fe {A:List cX} (g:si A) {k M:Nat} (hk:∀ row∈A,row.2.length<=k) (k1:1<=k) (hM:k ^ A.length<=M) (h24:M<16777216):Wg A:=by
 refine⟨M,h24,λL r T h=>?_⟩;obtain⟨b,rl⟩:=O9 g h;have h1:=xy L (xJ (A.map Mx)) b.1 λr hr=>QO (rl r hr);have h2:=Aa (As:=A.map Mx) (k:=k) λB hB=>by
  obtain⟨row,hr,rfl⟩:=aM.mp hB;unfold Mx;split
  ·rw[ag];exact hk row hr
  ·exact k1
 rw[ag] at h2;omega
theorem jX {G:List Row} (h:LG G) (hh:Int):si (dN G hh)/\Wg (dN G hh):=by
 have ok:=(Lh h).1;have g:si (dN G hh):=by
  unfold dN;split
  ·exact Li ok.am
  ·exact Li ok.tu
 refine⟨g,?_⟩;obtain⟨kU,TV,m,m3,m8,vh⟩:=h;have Ri:∀ row∈dN G hh,(row.2.length:Int)<=m+1:=λrow hr=>by
  unfold dN at hr;split at hr
  ·unfold kJ at hr;obtain⟨r0,h0,rfl⟩:=aM.mp hr;rw[ag];exact (vh r0 h0).2.2.2.2.2
  ·unfold ni kJ at hr;obtain⟨r1,h1,rfl⟩:=aM.mp hr;obtain⟨r0,h0,rfl⟩:=aM.mp h1;rw[ag,ag];exact (vh r0 h0).2.2.2.2.2
 by_cases c:8<G.length
 ·have m2:=m8 c;refine Fe g (k:=3) (M:=3 ^ 12) (λrow hr=>by have:=Ri row hr;omega) (by decide) ?_ (by decide);rw[gW];exact su (by decide) TV
 ·refine Fe g (k:=4) (M:=4 ^ 8) (λrow hr=>by have:=Ri row hr;omega) (by decide) ?_ (by decide);rw[gW];exact su (by decide) (by omega)
theorem G5:wL []/\∀ h:Int,si (dN [] h)/\Wg (dN [] h):=by
 have e:∀ h:Int,dN [] h=[]:=λh=>by unfold dN;split <;> rfl
 refine⟨⟨by decide,λ_ h=>(by cases h),⟨by decide,λ_ h=>(by cases h)⟩,⟨by decide,λ_ h=>(by cases h)⟩⟩,λh=>?_⟩;have g:si []:=λ_ h=>by cases h
 rw[e];exact⟨g,Fe g (k:=1) (M:=1) (λ_ h=>by cases h) (by decide) (by decide) (by decide)⟩
theorem VZ {H:Hp} (h:Gz ["least_needy","most_needy"] K H) (ne:ee K "least_needy" ≠ ee K "most_needy"):qI K H:=⟨⟨#[],h _ (by simp),trivial,.inl rfl⟩,⟨#[],h _ (by simp),trivial,.inl rfl⟩,ne⟩
theorem Ea {A:List cX} (g:si A) (hh:∀ row∈A,row.1=0\/row.1=1) {T ws T' SM:List (Option Int)} (s:pA A T ws) (s':pA A T' SM) {x:Int} (x0:0<=x) (x1:x<(A.length:Int)):fv (cU T' x) (cU T x):=by
 obtain⟨r',_,EC,N',_⟩:=id s';obtain⟨r,_,_,N,_⟩:=id s;refine C5 (qu g EC) N' N.pos (λx x0 x1 tn=>?_) x0 x1;obtain⟨i,row,rfl,hr⟩:=MX x0 x1;rcases hh row (aq hr) with o | o
 ·obtain⟨w,hw,_,h2⟩:=(jD g s hr tn).1 o;exact⟨w,by rw[jN EC hr (by rw[o];decide)];exact hw,h2⟩
 ·obtain⟨w,hw,h2⟩:=(EC.2 i row hr).2 o;exact⟨w,by rw[gI g hr hw h2];exact aP.mpr rfl,(jD g s hr tn).2 o w hw⟩
theorem wq {A:List cX} (g:si A) (hh:∀ row∈A,row.1=0\/row.1=1) {T ws T' SM:List (Option Int)} (s:pA A T ws) (s':pA A T' SM):T=T':=by
 obtain⟨_,l,_⟩:=id s;obtain⟨_,l',_⟩:=id s';refine c6 λi=>?_;rcases cN i A.length with h | h
 ·have e:=fv.O3 (Ea g hh s' s (x:=(i:Int)) (by omega) (by omega)) (Ea g hh s s' (x:=(i:Int)) (by omega) (by omega));have k:∀ {T:List (Option Int)},i<T.length->T[i]?=some (cU T (i:Int)):=λ{T} h=>by
   unfold cU;rw[if_pos (by omega),show ((i:Int)).toNat=i from rfl,ao h];rfl
  rw[k (by omega),k (by omega),e]
 ·rw[bo (by omega),bo (by omega)]
section
variable {G:List Row} {ws T0 w0 T1 w1:List (Option Int)}
theorem Rb {r:Int->Int->Prop} {R:Int->Wy->Prop} {M:Int} {f:Int->Int} (h:∀ x y,r x y->R x (y,f x)/\BL G y<=M) {a b:Int} (t:TG r a b):∃ s,s≠[]/\jG R a s b/\∀ w∈s,BL G w.1<=M:=by
 induction t with
 | one e =>
  obtain⟨h1,h2⟩:=h _ _ e;exact⟨[(_,f _)],by simp,⟨h1,rfl⟩,λw hw=>by rw[aP.mp hw];exact h2⟩
 | cons e _ ih =>
  obtain⟨h1,h2⟩:=h _ _ e;obtain⟨s,_,i2,i3⟩:=ih;exact⟨(_,f _)::s,by simp,⟨h1,i2⟩,λw hw=>by
   rcases aB.mp hw with z | z
   ·rw[z];exact h2
   ·exact i3 w z⟩
theorem FW {p:Int} (h:EZ G p):rk G p=BL G p:=by
 unfold rk BL;have:p.toNat<G.length:=by have:=h.1;have:=h.2;omega
 rw[ao this];rfl
theorem Rf (t:Ew G ws T0 w0 T1 w1) (Fv:∀ r∈G,0<=r.2.1):RK G (EZ G) (λp=>io T0 p.toNat) (λp=>(ws[p.toNat]?).getD none):=by
 have row:∀ {p:Int},EZ G p->∃ r,G[p.toNat]?=some r/\((p.toNat:Nat):Int)=p:=λ{p} hp=>⟨_,ao (by have:=hp.1;have:=hp.2;omega),by have:=hp.1;omega⟩
 have lef:∀ {p q h:Int},EZ G p->io T0 p.toNat=h->ed G (λp=>(ws[p.toNat]?).getD none) h p q->∃ l,(pK G ws)[p.toNat]?=some l/\q∈l:=λ{p q h} hp e Ot=>by
  obtain⟨r,hr,_⟩:=row hp
  by_cases c:hd G p=h
  ·have Ot:=(uE c).mp Ot;rw[vg hr,← e] at c;obtain⟨z,hz,hw⟩:=t.own hr c;have Ot:(ws[p.toNat]?).getD none=some q:=Ot;rw[hw] at Ot;cases Ot;exact⟨_,mG hr hw,aP.mpr rfl⟩
  ·have Ot:=(rH c).mp Ot;rw[vg hr,← e] at c;exact⟨_,mG hr (t.other hr c),by rw[xW hr] at Ot;exact Ot⟩
 refine⟨λp _=>xV T0 _,λh hh=>⟨λp hp=>hp.1,λp hp ho=>?_,λp hp ho=>?_,λp hp kU tg=>?_⟩⟩
 ·obtain⟨r,hr,ep⟩:=row hp.1;have LK:io T0 p.toNat=h:=hp.2;rw[vg hr] at ho;obtain⟨z,hz,hw⟩:=t.own hr (by rw[LK];exact ho);have sh:=t.JJ hr (mG hr hw) (aP.mpr rfl);exact⟨z,by show (ws[p.toNat]?).getD none=some z;rw[hw];rfl,by rw[xW hr];exact hz,sh.1,by show io T0 z.toNat=h;rw[sh.2];exact LK⟩
 ·obtain⟨r,hr,ep⟩:=row hp.1;have LK:io T0 p.toNat=h:=hp.2;rw[vg hr] at ho;have hw:=t.other hr (by rw[LK];exact ho);refine⟨by show (ws[p.toNat]?).getD none=none;rw[hw];rfl,λq hq _=>?_⟩;have sh:=t.JJ hr (mG hr hw) (p:=q) (by rw[xW hr] at hq;exact hq);exact⟨sh.1,by show io T0 q.toNat=h;rw[sh.2];exact LK⟩
 ·obtain⟨r,hr,ep⟩:=row hp.1;have LK:io T0 p.toNat=h:=hp.2;obtain⟨s,s1,s2,s3⟩:=Rb (G:=G) (R:=λx w=>(0<=x/\∃ l,(pK G ws)[x.toNat]?=some l/\w.1∈l)/\w.2=kT G.length (BL G x)) (M:=BL G p) (f:=λx=>kT G.length (BL G x)) (λx y z=>by
   obtain⟨⟨a,b,c⟩,_,d⟩:=z;rw[FW b.1,FW hp.1] at d;exact⟨⟨⟨a.1.1,lef a.1 a.2 c⟩,rfl⟩,d⟩) tg
  rw[← ep] at s2 s3;have:=t.ring Fv (q:=p.toNat) (by have:=hp.1.1;have:=hp.1.2;omega) s1 s2 s3;rw[ep] at this;rw[FW hp.1,this] at kU;exact kU LK
end
def g8 (T:List (Option Int)) (gs:List Int) (a:Int):List Int:=gs.filterMap λg=>(cU T g).map λt=>max 0 (t-a)
theorem uZ {T:List (Option Int)} {g a:Int}:((cU T g).map λt=>max 0 (t-a))=a0a (cU T) (g,a):=by
 unfold a0a;cases cU T g with
 | none=>rfl
 | some t=>show some (max 0 (t-a))=some (max (t-a) 0);congr 1;omega
theorem qd {T:List (Option Int)} {gs:List Int} {a z:Int}:z∈g8 T gs a↔∃ g∈gs,a0a (cU T) (g,a)=some z:=by
 unfold g8;rw[kn];constructor
 ·rintro⟨g,h1,h2⟩;exact⟨g,h1,by rw[← uZ];exact h2⟩
 ·rintro⟨g,h1,h2⟩;exact⟨g,h1,by rw[uZ];exact h2⟩
theorem xP {T:List (Option Int)} {a:Int}:∀ {gs:List Int},(g8 T gs a).length=gs.length↔∀ g∈gs,a0a (cU T) (g,a)≠none
 | []=>⟨(λ_ _ h=>by cases h),λ_=>rfl⟩
 | g :: gs=>by
  have ih:=xP (T:=T) (a:=a) (gs:=gs);have le:(g8 T gs a).length<=gs.length:=Es _ _;have e:g8 T (g::gs) a=((a0a (cU T) (g,a)).toList)++g8 T gs a:=by
   unfold g8;rw[fT,uZ];cases a0a (cU T) (g,a) <;> rfl
  rw[e,aO,bi];cases c:a0a (cU T) (g,a) with
  | none =>
   refine⟨λh=>?_,λh=>absurd c (h g aE)⟩;simp at h;omega
  | some v =>
   constructor
   ·intro h x hx;rcases aB.mp hx with z | z
    ·rw[z,c];exact λy=>by cases y
    ·exact ih.mp (by simp at h;omega) x z
   ·intro h;have:=ih.mpr λx hx=>h x (aL _ hx);simp;omega
def Due (T:List (Option Int)) (gs:List Int) (a:Int) (own:Prop) (o:Option Int):Prop:=(own->(∀ v,o=some v->v∈g8 T gs a/\∀ z∈g8 T gs a,v<=z)/\(o=none->g8 T gs a=[]))/\(¬ own->(∀ v,o=some v->(g8 T gs a).length=gs.length/\v∈g8 T gs a/\∀ z∈g8 T gs a,z<=v)/\(o=none->(g8 T gs a).length≠gs.length))
theorem K6 {A:List cX} {T ws:List (Option Int)} (g:si A) (s:pA A T ws) {i:Nat} {o a:Int} {gs:List Int} (hr:A[i]?=some (o,gs.map λp=>(p,a))) (Bo:o=0\/o=1):Due T gs a (o=0) (cU T (i:Int)):=by
 have il:=(af.mp hr).1;obtain⟨r,tl,rl,N,bt,wl,_⟩:=id s;refine⟨λe=>?_,λe=>?_⟩
 ·have out:=jN rl hr (by show o≠1;omega);have low:∀ p∈gs,fv (cU T (i:Int)) (a0a (cU T) (p,a)):=λp hp=>N.low (i:Int) (by omega) (by omega) _ (by rw[out];exact aM.mpr ⟨p,hp,rfl⟩);refine⟨λv ev=>⟨?_,λz hz=>?_⟩,λev=>?_⟩
  ·obtain⟨w,hw,hle⟩:=N.way (i:Int) v (by omega) (by omega) ev;rw[out] at hw;obtain⟨p,hp,rfl⟩:=aM.mp hw;have l:=low p hp;rw[ev] at l;exact qd.mpr ⟨p,hp,(fv.O3 l hle).symm⟩
  ·obtain⟨p,hp,e2⟩:=qd.mp hz;have l:=low p hp;rw[ev,e2] at l;exact l
  ·refine List.eq_nil_iff_forall_not_mem.mpr λz hz=>?_;obtain⟨p,hp,e2⟩:=qd.mp hz;have l:=low p hp;rw[ev,e2] at l;exact l
 ·have e1:o=1:=Bo.resolve_left e;obtain⟨w,hw,jC⟩:=(rl.2 i _ hr).2 e1;have es:=N.single (x:=(i:Int)) (by omega) (by omega) (gI g hr hw jC);obtain⟨p,hp,rfl⟩:=aM.mp hw;refine⟨λv ev=>?_,λev h=>?_⟩
  ·have hi:∀ p∈gs,fv (a0a (cU T) (p,a)) (some v):=λp hp=>by
    rw[← ev];exact bt.last g N hr e1 (aM.mpr ⟨p,hp,rfl⟩)
   refine⟨xP.mpr λp hp z=>?_,qd.mpr ⟨p,hp,by rw[← es];exact ev⟩,λz hz=>?_⟩
   ·have:=hi p hp;rw[z] at this;exact this
   ·obtain⟨p,hp,e2⟩:=qd.mp hz;have:=hi p hp;rw[e2] at this;exact this
  ·exact xP.mp h p hp (by rw[← es];exact ev)
def C0 (n h r:Int):Int:=if h=1 then 0-n*kT n r-1 else kT n r
theorem Df {G:List Row} (hd:∀ r∈G,r.1=0\/r.1=1) {h:Int} (Bo:h=0\/h=1) {T ws:List (Option Int)} (g:si (dN G h)) (s:pA (dN G h) T ws) {i:Nat} {row:Row} (hr:G[i]?=some row):Due T row.2.2 (C0 (G.length:Int) h row.2.1) (row.1=h) (cU T (i:Int)):=by
 have o:=hd row (aq hr);rcases Bo with z | z
 ·subst z;have:=K6 g s (xj hr) o;unfold C0;rw[if_neg (by decide)];exact this
 ·subst z;have e:=zK hr;rw[qm] at e;have e2:(Ai G.length ∘ λp=>(p,kT (G.length:Int) row.2.1))=λp=>(p,C0 (G.length:Int) 1 row.2.1):=by
   funext p;show (p,-((G.length:Nat):Int)*kT (G.length:Int) row.2.1-1)=_;unfold C0;rw[if_pos rfl,oU];congr 1;omega
  rw[e2] at e;have:=K6 g s e (by omega);obtain⟨d1,d2⟩:=this;exact⟨λz=>d1 (by omega),λz=>d2 (by omega)⟩
def Na:Sp:=λvs H Q _=>∃ n r h:Int,vs=[.int n,.int r,.int h]/\0<=n/\n<=1000/\0<=r/\r<=1000/\Q (.int (C0 n h r)) H
theorem P9 (F:aX K mg "_law_amount" kd ["_law_many","_law_rank_here","_law_hand"]) (T:Txt mg):Dn P w K mg base "_law_amount" 1 ["_law_many","_law_rank_here","_law_hand"] Na:=by
 have sc:=yW;refine F.ok sc (λvs H Q E h=>?_) (λf di A outer s H vs Q E hr h=>?_)
 ·obtain⟨_,_,_,rfl,_⟩:=h;rfl
 obtain⟨n,r,h,rfl,n0,n1,r0,r1,q⟩:=h;refine⟨_,(av (bJ (i:=3) sc.nd rfl (aW rfl) aA)
   (av (dW bh rfl (iE rfl T.jW (aa (pv 1) ar)) (bZ (i:=4) sc.nd rfl (aW rfl))
   (aC (bJ (i:=3) sc.nd rfl (aW rfl) (bV lJ (pv 3) (pv 0)))))
   (nc (dC (cg iR (bV fm (pv 1) aA) aA (cE _))
   (aC (bJ (i:=3) sc.nd rfl (aW rfl) (bV lK aA (pv 3))))
   cr)
   (av (dC (cg iR (pv 2) aA (cE _))
   (aC (cf (bV lK (bV lK aA (bV lJ (pv 0) (pv 3))) aA)))
   cr)
   (aC (cf (pv 3))))))),?_⟩
 refine⟨_,rfl,r,rfl,by omega,by omega,jL (lo:=0) (n:=r.toNat) (λi σ H2=>H2=H/\∃ y:Option V,σ=[some (.int n),some (.int r),some (.int h),some (.int (n ^ i)),y])
  ⟨rfl,none,by rw[Ip];rfl⟩ (λi σ H2 hi h=>?_) (λσ H2 h=>?_)⟩
 ·obtain⟨rfl,y,rfl⟩:=h;refine⟨_,rfl,_,rfl,_,_,rfl,rfl,.inr ⟨by omega,by omega⟩,?_⟩;exact⟨rfl,_,by rw[Io];rfl⟩
 ·obtain⟨rfl,y,rfl⟩:=h;refine⟨λσ H3=>H3=H2/\∃ y:Option V,σ=[some (.int n),some (.int r),some (.int h),some (.int (kT n r)),y],?_,?_⟩
  ·refine⟨_,rfl,_,_,rfl,rfl,(show (0:Int)<2 by decide),rfl,_,rfl,?_⟩;refine fB (λc=>?_) (λc=>?_)
   ·have e:r % 2=1:=by have:=of_decide_eq_true c;injection this
    refine⟨_,rfl,_,_,rfl,rfl,rfl,y,?_⟩;unfold kT;rw[if_pos e,← Int.zero_sub];rfl
   ·have e:¬ r % 2=1:=λe=>c (decide_eq_true (by rw[← e]));refine⟨rfl,y,?_⟩;unfold kT;rw[if_neg e]
  rintro σ H3 ⟨rfl,y,rfl⟩;unfold C0 at q;refine⟨_,rfl,rfl,_,rfl,?_⟩;refine fB (λc=>?_) (λc=>?_)
  ·have e:h=1:=by have:=of_decide_eq_true c;injection this
   rw[if_pos e] at q;exact⟨_,rfl,_,rfl,_,_,rfl,rfl,.inl ⟨by omega,by omega⟩,_,_,rfl,rfl,_,_,rfl,rfl,q⟩
  ·have e:¬ h=1:=λe=>c (decide_eq_true (by rw[e]));rw[if_neg e] at q;exact⟨_,rfl,q⟩
def No:Sp:=λvs H Q _=>∃ (ta:ak) (v:V) (T:List (Option Int)) (G:List Row),vs=[.ref ta,v]/\H ta=some (.lst (tV T))/\jj H G v/\T.length=G.length/\G.length<=100/\(∀ z:Int,some z∈T->0<=z)/\Q (.bl true) H
theorem Qm (F:aX K mg "_law_is_table" iT ["_law_paper","_law_game_here"]) (T:Txt mg) (CG:Dn P w K mg base "_law_whole" 1 ["_law_found"] oT):Dn P w K mg base "_law_is_table" 2 ["_law_paper","_law_game_here"] No:=by
 have sc:=vP;refine F.ok sc (λvs H Q E h=>?_) (λf di A outer s H vs Q E hr h=>?_)
 ·obtain⟨_,_,_,_,rfl,_⟩:=h;rfl
 obtain⟨ta,v,TT,G,rfl,ht,hG,tl,qN,pos,q⟩:=h;obtain⟨g0,gv,rfl,jv,k8,eJ⟩:=dZ hG;refine⟨_,(av (dC (PW.pt (a0h (jm (fC (bE (wZ (K:=K) rfl (T := "list")) rfl T.ib db (aa (pv 0) (aa (oJ (v:=.ty "list") rfl T.rC ek rfl) ar))))) (a0f (cg vk (bE (eV (K:=K) rfl) rfl T.eL be (aa (pv 0) ar)) (bE (eV (K:=K) rfl) rfl T.eL be (aa (pv 1) ar)) (cE _)))))
   (aC (cf lf))
   cr)
   (av (dW bh rfl (c8 (pv 0)) (bZ (i:=2) sc.nd rfl (aW rfl))
   (aC (dC (PW.pt (a0j (lL (wb (pv 2))) (a0g (PW.pt (a0h (jm (fC (cx CG hr (aa (pv 2) ar)))) (a0f (cg Hb (pv 2) aA (cE _))))))))
   (aC (cf lf))
   cr)))
   (aC (cf lf)))),?_⟩
 refine⟨_,rfl,_,"list",_,rfl,.inl ⟨rfl,.inl ⟨_,ht⟩⟩,pJ _,_,rfl,fW ?_⟩;refine⟨_,rfl,ta,_,rfl,.inl (bQ.of ht),_,rfl,g0,_,rfl,.inl (bQ.of jv),rfl,?_⟩;rw[decide_eq_true (show V.int ((tV TT).length:Nat)=V.int (gv.length:Nat) by rw[ik,tl,k8])];refine⟨_,rfl,fW ?_⟩;refine⟨_,rfl,ta,rfl,⟨_,bQ.of ht⟩,gy (K:=K) (a:=ta) (xs:=tV TT) (λi σ H2=>H2=H/\∃ y:Option V,σ=[some (.ref ta),some (.ref g0),y]) ⟨rfl,_,rfl⟩ (λi σ H2 hi h=>?_) (λi x σ H2 hi h=>?_) (λσ H2 h=>?_)⟩
 ·obtain⟨rfl,_⟩:=h;exact bQ.of ht
 ·obtain⟨rfl,y,rfl⟩:=h;obtain⟨o,ho,rfl⟩:=xQ hi;cases o with
  | none=>exact⟨_,rfl,false,rfl,fW (fW ⟨rfl,_,rfl⟩)⟩
  | some z =>
   have z0:=pos z (aq ho);refine⟨_,rfl,true,rfl,mF ⟨_,rfl,z,rfl,true,rfl,fW ⟨_,rfl,_,_,rfl,rfl,?_⟩⟩⟩;exact⟨false,congrArg V.bl (decide_eq_false (Int.not_lt.mpr z0)),fW ⟨rfl,_,rfl⟩⟩
 ·obtain⟨rfl,y,rfl⟩:=h;exact q
def ZU:Sp:=λvs H Q _=>∃ (v:V) (h:Int) (ta:ak) (G:List Row) (T:List (Option Int)),vs=[v,.int h,.ref ta]/\jj H G v/\H ta=some (.lst (tV T))/\T.length=G.length/\G.length<=16/\(∀ r∈G,0<=r.2.1/\r.2.1<=1000/\r.2.2.length<=60/\∀ z∈r.2.2,0<=z/\z<(G.length:Int))/\(∀ (i:Nat) row,G[i]?=some row->Due T row.2.2 (C0 (G.length:Int) h row.2.1) (row.1=h) (cU T (i:Int)))/\∀ H',bp H H'->Q (.bl true) H'
theorem Zj (F:aX K mg "_law_just_needs" fR ["_law_game_here","_law_hand","_law_paper"]) (T:Txt mg) (AN:Dn P w K mg base "_law_amount" 1 ["_law_many","_law_rank_here","_law_hand"] Na):Dn P w K mg base "_law_just_needs" 2 ["_law_game_here","_law_hand","_law_paper"] ZU:=by
 have sc:=tP;refine F.ok sc (λvs H Q E h=>?_) (λf di A outer s H vs Q E hr h=>?_)
 ·obtain⟨_,_,_,_,_,rfl,_⟩:=h;rfl
 obtain⟨v,h,ta,G,TT,rfl,hG,ht,tl,qN,Fv,due,q⟩:=h;obtain⟨g0,gv,rfl,jv,k8,eJ⟩:=dZ hG;refine⟨_,(av (dW bh rfl (uS (K:=K) rfl rfl T.wW (aa (pv 2) (aa (pv 0) ar))) (j7 rfl (cH (bZ (i:=3) sc.nd rfl (aW rfl)) (cH (bZ (i:=4) sc.nd rfl (aW rfl)) iL)))
   (av (bJ (i:=5) sc.nd rfl (oo rfl) (cx AN hr (aa (bE (eV (K:=K) rfl) rfl T.eL be (aa (pv 0) ar)) (aa (bL (jM (K:=K) rfl) (pv 4) aA (λ_ _=>rfl)) (aa (pv 1) ar)))))
   (av (vn (i:=6) (aG fR) ["_law_game_here","_law_hand","_law_paper","_law_purse","_law_row","_law_amount_here","_law_some","_law_due"] ["_law_goal","_law_paper","_law_amount_here"] 1 [2,5] sc.nd rfl rfl (c8 (bL (jM (K:=K) rfl) (pv 4) aA (λ_ _=>rfl))) (λ_ _ _ _ _ _=>(gB (show cO (["_law_goal","_law_paper","_law_amount_here"]:List bc) by decide +kernel) rfl rfl)) (λ_ _ _ _ _ _=>(ng (lL (wb (bL (m5 (K:=K) rfl) (pv 1) (pv 0) (λ_ _=>rfl)))))) (λ_ _ _ _ _ _=>(bE (zx rfl) rfl T.C4 jU (aa aA (aa (bV lK (bL (m5 (K:=K) rfl) (pv 1) (pv 0) (λ_ _=>rfl)) (pv 2)) ar)))))
   (av (bJ (i:=7) sc.nd rfl (aW rfl) oM)
   (nc (dC (PW.pt (a0j (cg iR (bL (jM (K:=K) rfl) (pv 4) aA (λ_ _=>rfl)) (pv 1) (cE _)) (a0g (cg Ha (bE (eV (K:=K) rfl) rfl T.eL be (aa (pv 6) ar)) aA (cE _)))))
   (aC (bJ (i:=7) sc.nd rfl (aW rfl) (bE (zA rfl) rfl T.GA ou (aa (pv 6) ar))))
   cr)
   (nc (dC (PW.pt (a0j (cg vk (bL (jM (K:=K) rfl) (pv 4) aA (λ_ _=>rfl)) (pv 1) (cE _)) (a0g (cg iR (bE (eV (K:=K) rfl) rfl T.eL be (aa (pv 6) ar)) (bE (eV (K:=K) rfl) rfl T.eL be (aa (bL (jM (K:=K) rfl) (pv 4) aA (λ_ _=>rfl)) ar)) (cE _)))))
   (aC (bJ (i:=7) sc.nd rfl (aW rfl) (bE (zy rfl) rfl T.C4 jU (aa (pv 6) ar))))
   cr)
   (aC (dC (cg vk (pv 3) (pv 7) (cE _))
   (aC (cf lf))
   cr))))))))
   (aC (cf lf))),?_⟩
 refine⟨_,rfl,_,rfl,ta,g0,rfl,⟨_,bQ.of ht⟩,⟨_,bQ.of jv⟩,sV (K:=K) (a:=ta) (b:=g0) (xs:=tV TT) (ys:=gv) (by rw[ik,tl,k8]) (λi σ H2=>∃ y3 y4 y5 y6 y7:Option V,σ=[some (.ref g0),some (.int h),some (.ref ta),y3,y4,y5,y6,y7]/\bp H H2) ⟨_,_,_,_,_,rfl,bp.refl _⟩ (λi σ H2 _ h=>?_) (λi x y σ H2 tt hx hy h Fw=>?_) (λσ H2 h=>?_)⟩
 ·obtain⟨_,_,_,_,_,_,s2⟩:=h;exact⟨bQ.of (s2 _ _ ht),bQ.of (s2 _ _ jv)⟩
 ·obtain⟨y3,y4,y5,y6,y7,rfl,s2⟩:=h;obtain⟨o,ho,rfl⟩:=xQ hx;have il:i<G.length:=by rw[← k8];exact (af.mp hy).1
  obtain⟨row,jC⟩:∃ row,G[i]?=some row:=⟨_,ao il⟩
  obtain⟨t,wl,p1,p2,p3⟩:=eJ i row jC;rw[hy] at p1;cases p1;obtain⟨r0,r1,r2,r3⟩:=Fv row (aq jC);have du:=due i row jC;have eo:cU TT (i:Int)=o:=by
   unfold cU;rw[if_pos (by omega),show ((i:Int)).toNat=i from rfl,ho];rfl
  rw[eo] at du;have s3:=s2.trans (ay Fw (.tup [oV o,V.ref t]));refine⟨tt,_,rfl,eU.of au,rfl,_,_,rfl,_,_,rfl,rfl,?_⟩;generalize upd H2 tt (.tup [oV o,V.ref t])=H3 at s3 ⊢;refine⟨_,rfl,g0,_,rfl,.inl (bQ.of (s3 _ _ jv)),_,rfl,t,_,_,_,rfl,rfl,eU.of (s3 _ _ p2),bu (j:=1) rfl,_,rfl,_,row.2.1,h,rfl,by omega,by omega,r0,r1,?_⟩;rw[k8];generalize C0 (G.length:Int) h row.2.1=am at du ⊢;refine⟨_,rfl,t,_,_,_,rfl,rfl,eU.of (s3 _ _ p2),bu (j:=2) rfl,wl,rfl,⟨_,bQ.of (s3 _ _ p3)⟩,cY (K:=K) (a:=wl) (xs:=row.2.2.map V.int) (λk ys H4=>H4=H3/\ys=(g8 TT (row.2.2.take k) am).map V.int) ⟨rfl,rfl⟩ (a0b (m:=1000) (by rw[ag];omega)) (λk ys H4 hk h=>?_) (λk x ys H4 hk h=>?_) (λys H4 h sl hsl=>?_)⟩
  ·obtain⟨rfl,rfl⟩:=h;exact⟨bQ.of (s3 _ _ p3),by rw[ag];exact b7 (Es _ _) (by rw[cA];omega)⟩
  ·obtain⟨rfl,rfl⟩:=h;obtain⟨z,hz,rfl⟩:=eG hk;obtain⟨z0,z1⟩:=r3 z (aq hz);have a9:=tW (T:=TT) z0 (by rw[tl];exact z1);have e9:g8 TT (row.2.2.take (k+1)) am=g8 TT (row.2.2.take k) am++((cU TT z).map λt=>max 0 (t-am)).toList:=by
    unfold g8;rw[bw,hz,List.filterMap_append];congr 1
   refine⟨_,rfl,_,rfl,ta,_,_,_,rfl,rfl,bQ.of (s3 _ _ ht),a9,?_⟩;cases c:cU TT z with
   | none =>
    rw[c] at e9;exact⟨false,rfl,fW ⟨rfl,by rw[e9];simp⟩⟩
   | some t9 =>
    rw[c] at e9 a9;refine⟨true,rfl,mF ⟨_,rfl,_,rfl,ta,_,_,_,rfl,rfl,bQ.of (s3 _ _ ht),a9,_,rfl,_,_,rfl,rfl,0,t9-am,rfl,rfl,?_⟩⟩;rw[e9,aN];congr 1;show [V.int (if t9-am > 0 then t9-am else 0)]=[V.int (max 0 (t9-am))];congr 2;split <;> omega
  obtain⟨rfl,rfl⟩:=h;rw[ag,aY];have s5:=s3.trans (ay hsl (.lst ((g8 TT row.2.2 am).map V.int)));have Yr:upd H4 sl (.lst ((g8 TT row.2.2 am).map V.int)) sl=some (.lst ((g8 TT row.2.2 am).map V.int)):=au;generalize upd H4 sl (.lst ((g8 TT row.2.2 am).map V.int))=H5 at s5 Yr ⊢;have sll:((g8 TT row.2.2 am).map V.int).length=(g8 TT row.2.2 am).length:=ag _;have ht5:=s5 _ _ p2;refine⟨λσ' H6=>∃ y5:Option V,σ'=[some (.ref g0),some (.int h),some (.ref ta),some (oV o),some (.ref t),y5,some (.ref sl),some (if row.1=h then oV o else .fj)]/\H6=H5,?_,?_⟩
  ·refine⟨_,rfl,t,_,_,_,rfl,rfl,eU.of ht5,bu (j:=0) rfl,_,rfl,rfl,_,rfl,?_⟩;refine fB (λc=>?_) (λc=>?_)
   ·have e:row.1=h:=by have:=of_decide_eq_true c;injection this
    obtain⟨d1,d2⟩:=du.1 e;rw[if_pos e];refine⟨_,rfl,sl,_,rfl,.inl (bQ.of Yr),_,_,rfl,rfl,_,rfl,?_⟩;cases o with
    | none =>
     rw[sll,d2 rfl];exact fW ⟨_,rfl,rfl⟩
    | some v =>
     obtain⟨m1,m2⟩:=d1 v rfl;have ne:g8 TT row.2.2 am≠[]:=λz=>by rw[z] at m1;cases m1
     have lp:=bT.mpr ne;rw[decide_eq_true (show (0:Int)<(((g8 TT row.2.2 am).map V.int).length:Nat) by rw[sll];omega)];refine mF ⟨_,rfl,sl,_,rfl,bQ.of Yr,ne,λM hM LB=>?_⟩;obtain rfl:M=v:=Wl (LB v m1) (m2 M hM);exact⟨_,rfl,rfl⟩
   ·have e:¬ row.1=h:=λz=>c (decide_eq_true (by rw[z]));rw[if_neg e];exact fW ⟨_,rfl,rfl⟩
  rintro σ' H6 ⟨y5',rfl,rfl⟩;refine⟨λσ' H7=>∃ y5:Option V,σ'=[some (.ref g0),some (.int h),some (.ref ta),some (oV o),some (.ref t),y5,some (.ref sl),some (oV o)]/\H7=H6,?_,?_⟩
  ·refine⟨_,rfl,t,_,_,_,rfl,rfl,eU.of ht5,bu (j:=0) rfl,_,rfl,rfl,_,rfl,?_⟩;refine fB (λc=>?_) (λc=>?_)
   ·have e:¬ row.1=h:=λz=>by rw[decide_eq_true (by rw[z])] at c;cases c
    obtain⟨d1,d2⟩:=du.2 e;rw[if_neg e];refine⟨_,rfl,sl,_,rfl,.inl (bQ.of Yr),_,rfl,t,_,_,_,rfl,rfl,eU.of ht5,bu (j:=2) rfl,wl,_,rfl,.inl (bQ.of (s5 _ _ p3)),rfl,_,rfl,?_⟩;have WR:(row.2.2.map V.int).length=row.2.2.length:=ag _;cases o with
    | none =>
     rw[decide_eq_false (λz=>d2 rfl (by injection z with z;rw[sll,WR] at z;omega))];exact fW ⟨_,rfl,rfl⟩
    | some v =>
     obtain⟨m0,m1,m2⟩:=d1 v rfl;have ne:g8 TT row.2.2 am≠[]:=λz=>by rw[z] at m1;cases m1
     rw[decide_eq_true (by rw[sll,WR,m0])];refine mF ⟨_,rfl,sl,_,rfl,bQ.of Yr,ne,λM hM LA=>?_⟩;obtain rfl:M=v:=Wl (m2 M hM) (LA v m1);exact⟨_,rfl,rfl⟩
   ·have e:row.1=h:=bB λz=>c (by rw[decide_eq_false (λy=>z (by injection y))];rfl);rw[if_pos e];exact fW ⟨_,rfl,rfl⟩
  rintro σ' H7 ⟨al5,rfl,rfl⟩;refine⟨_,rfl,_,rfl,?_,?_⟩
  ·cases o <;> rfl
  rw[decide_eq_true rfl];exact⟨_,rfl,fW ⟨_,_,_,_,_,rfl,s5⟩⟩
 ·obtain⟨_,_,_,_,_,rfl,s2⟩:=h;exact q _ s2
structure Pap (G:List Row) (T0 T1:List (Option Int)):Prop where
 s0:∃ w0,pA (dN G 0) T0 w0
 s1:∃ w1,pA (dN G 1) T1 w1
def Sv (K:aj):Sp:=λvs H Q E=>∃ (v:V) (G:List Row),vs=[v]/\jj (nt H) G v/\wL G/\(∀ h:Int,si (dN G h)/\Wg (dN G h))/\qI K H/\∀ (t u5 wx:ak) (T0 T1:List (Option Int)) (H':Hp),Sm H H'->qI K H'->nt H u5=none->nt H wx=none->u5≠wx->nt H' t=some (.tup [.ref u5,.ref wx])->nt H' u5=some (.lst (tV T0))->nt H' wx=some (.lst (tV T1))->Pap G T0 T1->Q (.ref t) H'
theorem Jt (F:aX K mg "papers" pZ ["game"]) (T:Txt mg) (XC:XT K mg "GarthError" JU JT) (iu:Dn P w K mg base "solved_purses" 8 ["game"] (F7 K)) (ph:vB P w K mg base "hand_amounts" 8 ["game","hand"] (ZS K)):vB P w K mg base "papers" 9 ["game"] (Sv K):=by
 have sc:=JG;refine F.OA sc (λvs H Q E h=>?_) (λf di A outer s H vs Q E hr h=>?_)
 ·obtain⟨_,_,rfl,_⟩:=h;rfl
 obtain⟨v,G,rfl,hG,ok,gp,tb,q⟩:=h;have qN:=ok.qN;refine⟨_,(aC (cf (gh (aa (bL (jM (K:=K) rfl) (cx iu hr (aa (jk pX ph hr (aa (pv 0) (aa aA ar))) ar)) aA (λ_ _=>rfl)) (aa (bL (jM (K:=K) rfl) (cx iu hr (aa (jk pX ph hr (aa (pv 0) (aa aA ar))) ar)) aA (λ_ _=>rfl)) ar))))),?_⟩;refine⟨_,rfl,v,0,G,rfl,dB.up bX hG,ok,λu H1 s1 hu=>?_⟩;refine⟨u,dN G 0,rfl,DO hu,(gp _).1,by rw[gW];exact qN,sX ok _,(gp _).2,tb.up s1,λb u5 wa0 T0 w0 H2 S2 Kk Pm uI _ D8 n0=>?_⟩;have S12:=(Sm.of s1).trans S2;refine⟨b,_,_,_,rfl,rfl,eU.of (bX _ _ Pm),bu (j:=0) rfl,?_⟩;refine⟨_,rfl,v,1,G,rfl,dB.up bX (dB.up S12 hG),ok,λu' H3 s3 PB=>?_⟩;refine⟨u',dN G 1,rfl,DO PB,(gp _).1,by rw[gW];exact qN,sX ok _,(gp _).2,Kk.up s3,λb' wx wa1 T1 w1 H4 S4 Ee Wt WF _ D9 n1=>?_⟩;have S34:=(Sm.of s3).trans S4;refine⟨b',_,_,_,rfl,rfl,eU.of (bX _ _ Wt),bu (j:=0) rfl,(by show 2<=aJ;decide),λt ht=>?_⟩;have GP:=(Sm.of s3) _ _ uI;have s5:=Sm.of (ay ht (.tup [V.ref u5,V.ref wx]));exact q t u5 wx T0 T1 _ (S12.trans (S34.trans s5)) (Ee.up (ay ht _)) ((Sm.of s1).free n0) (S12.free ((Sm.of s3).free n1)) (λz=>by rw[z,n1] at GP;cases GP) (rP au) (s5 _ _ (S4 _ _ GP)) (s5 _ _ WF) ⟨⟨w0,D8⟩,⟨w1,D9⟩⟩
def HY (G:List Row) (T0 w0 w1:List (Option Int)):List (Option Int):=(br G.length).map λi=>if ((G[i]?).map λr=>r.1).getD 0=io T0 i then (if io T0 i=0 then (w0[i]?).getD none else (w1[i]?).getD none) else none
theorem Qr {G:List Row} (lg:LG G) {T0 T1 w0 w1:List (Option Int)} (s0:pA (dN G 0) T0 w0) (s1:pA (dN G 1) T1 w1):Ew G (HY G T0 w0 w1) T0 w0 T1 w1:=by
 refine⟨(jX lg 0).1,(jX lg 1).1,s0,s1,(Lh lg).2,λi row hr=>?_⟩;have il:=(af.mp hr).1;unfold HY;rw[aI,dy il];show some (if ((G[i]?).map λr=>r.1).getD 0=io T0 i then _ else _)=_;rw[hr];rfl
theorem v3 {G:List Row} (hd:∀ r∈G,r.1=0\/r.1=1) (h:Int):∀ row∈dN G h,row.1=0\/row.1=1:=λrow hr=>by
 unfold dN at hr;have am:∀ r∈kJ G,r.1=0\/r.1=1:=λr hr=>by
  obtain⟨r0,h0,rfl⟩:=aM.mp hr;exact hd r0 h0
 split at hr
 ·exact am row hr
 ·obtain⟨r0,h0,rfl⟩:=aM.mp hr;have:=am r0 h0;show 1-r0.1=0\/1-r0.1=1;omega
theorem VW {T:List (Option Int)} {i:Nat} (h:i<T.length):T[i]?=some (cU T (i:Int)):=by
 unfold cU;rw[if_pos (by omega),show ((i:Int)).toNat=i from rfl,ao h];rfl
theorem HR {A:List cX} {T ws:List (Option Int)} (s:pA A T ws):∀ z:Int,some z∈T->0<=z:=λz hz=>by
 obtain⟨r,_,_,N,_⟩:=s;obtain⟨i,hi⟩:=ce hz;rw[VW (af.mp hi).1] at hi;injection hi with hi;exact N.pos _ z hi
theorem qZ {H:Hp} {a:ak} {T:List (Option Int)} (h:H a=some (.lst (tV T))):hU (MQ iA) H T (.ref a):=⟨a,_,rfl,h,B5 T⟩
def Hz (K:aj):Sp:=λvs H Q _=>∃ (a:ak) (ns:List Int),vs=[.ref a]/\bQ K H a (ns.map V.int)/\Gz ["least_needy","most_needy"] K H/\ns.length<=63/\∀ H',Q (.bl true) H'
theorem Vk {f:ak} {fd:fP} (F:Gk K "law" "law" vp f fd) (T:Txt mg) (XC:XT K mg "GarthError" JU JT) (ne:ee K "least_needy" ≠ ee K "most_needy") (EQ:Dn P w K mg base "_law_game" 3 ["_law_script","_law_top"] (Ng K)) (AO:Dn P w K mg base "_law_copied" 1 ["_law_game_here"] Nd) (wJ:vB P w K mg base "papers" 9 ["game"] (Sv K)) (pi:Dn P w K mg base "_law_is_table" 2 ["_law_paper","_law_game_here"] No) (KA:Dn P w K mg base "solved" 49 ["game"] Ec) (nS:Dn P w K mg base "_law_just_needs" 2 ["_law_game_here","_law_hand","_law_paper"] ZU) (oy:vB P w K mg base "amounts_of" 7 ["game"] (F4 K)) (iu:Dn P w K mg base "solved_purses" 8 ["game"] (F7 K)) (lE:vB P w K mg base "turned_purses" 7 ["game"] (F9 K)):px P w K mg base yq 50 f fd ["_law_script"] (Hz K):=by
 have sc:=VE;refine F.ok sc (λvs H Q E h=>?_) (λdi A outer s H vs Q E hr h=>?_)
 ·obtain⟨_,_,rfl,_⟩:=h;rfl
 obtain⟨a,ns,rfl,hS,hT,hl,q⟩:=h;have tb:=VZ hT ne;refine⟨_,(av (bJ (i:=1) sc.nd rfl (aW rfl) (cx EQ hr (aa (pv 0) (aa aA ar))))
   (av (bJ (i:=2) sc.nd rfl (aW rfl) (cx AO hr (aa (pv 1) ar)))
   (av (bJ (i:=3) sc.nd rfl (aW rfl) (jk xF wJ hr (aa (pv 2) ar)))
   (av (dC (PW.pt (a0h (jm (fC (bE (wZ (K:=K) rfl (T := "tuple")) rfl T.ib db (aa (pv 3) (aa (oJ (v:=.ty "tuple") rfl T.O7 PyProof.Rows.boot_tuple rfl) ar))))) (a0h (cg vk (bE (eV (K:=K) rfl) rfl T.eL be (aa (pv 3) ar)) aA (cE _)) (a0f (cg (FQ (tL (Pf (mr.up j4 (by decide:0<=1)) (mr.up j4 (by decide:0<=1)) (pE j4))) (xp hr 3)) (pv 2) (pv 1) (cE _))))))
   (aC (cf lf))
   cr)
   (av (dC (PW.pt (a0h (jm (fC (cx pi hr (aa (bL (jM (K:=K) rfl) (pv 3) aA (λ_ _=>rfl)) (aa (pv 1) ar))))) (a0f (jm (fC (cx pi hr (aa (bL (jM (K:=K) rfl) (pv 3) aA (λ_ _=>rfl)) (aa (pv 1) ar))))))))
   (aC (cf lf))
   cr)
   (av (bJ (i:=4) sc.nd rfl (aW rfl) (bL (jM (K:=K) rfl) (cx KA hr (aa (pv 2) ar)) aA (λ_ _=>rfl)))
   (av (dW bh rfl (iE rfl T.jW (aa (bE (eV (K:=K) rfl) rfl T.eL be (aa (pv 1) ar)) ar)) (bZ (i:=5) sc.nd rfl (aW rfl))
   (av (dC (cg iR (FS (mJ (bL (m5 (K:=K) rfl) (bL (jM (K:=K) rfl) (pv 3) aA (λ_ _=>rfl)) (pv 5) (λ_ _=>rfl)))) (FS (mJ (bL (m5 (K:=K) rfl) (bL (jM (K:=K) rfl) (pv 3) aA (λ_ _=>rfl)) (pv 5) (λ_ _=>rfl)))) (cE _))
   (aC (cf lf))
   cr)
   (aC (dC (cg vk (bL (m5 (K:=K) rfl) (pv 4) (pv 5) (λ_ _=>rfl)) (jO IH rfl T.KR ot (aa (FS (mJ (bL (m5 (K:=K) rfl) (bL (jM (K:=K) rfl) (pv 3) aA (λ_ _=>rfl)) (pv 5) (λ_ _=>rfl)))) ar)) (cE _))
   (aC (cf lf))
   cr))))
   (av (dC (PW.pt (a0h (jm (fC (cx nS hr (aa (pv 1) (aa aA (aa (bL (jM (K:=K) rfl) (pv 3) aA (λ_ _=>rfl)) ar)))))) (a0f (jm (fC (cx nS hr (aa (pv 1) (aa aA (aa (bL (jM (K:=K) rfl) (pv 3) aA (λ_ _=>rfl)) ar)))))))))
   (aC (cf lf))
   cr)
   (av (bJ (i:=6) sc.nd rfl (aW rfl) (eP (aa (jO (Bi (K:=K) rfl) rfl T.rC ek (aa (bL (jM (K:=K) rfl) (pv 3) aA (λ_ _=>rfl)) ar)) (aa (jO (Bi (K:=K) rfl) rfl T.rC ek (aa (bL (jM (K:=K) rfl) (pv 3) aA (λ_ _=>rfl)) ar)) ar))))
   (av (da (Vq bx PySem.F.slot_list_clear PySem.F.type_list_clear Md (bL (jM (K:=K) rfl) (pv 3) aA (λ_ _=>rfl))))
   (av (da (lj bx bH bI eH (bL (jM (K:=K) rfl) (pv 3) aA (λ_ _=>rfl)) (aa aA ar)))
   (av (bJ (i:=7) sc.nd rfl (aW rfl) (jk xF oy hr (aa (pv 2) ar)))
   (av (dC (PW.pt (a0h (cg (FQ (tL (nV j4)) (xp hr 1)) (bL (jM (K:=K) rfl) (cx iu hr (aa (pv 7) ar)) aA (λ_ _=>rfl)) (bL (m5 (K:=K) rfl) (pv 6) aA (λ_ _=>rfl)) (cE _)) (a0f (cg (FQ (tL (nV j4)) (xp hr 1)) (bL (jM (K:=K) rfl) (cx iu hr (aa (jk xF lE hr (aa (pv 7) ar)) ar)) aA (λ_ _=>rfl)) (bL (m5 (K:=K) rfl) (pv 6) aA (λ_ _=>rfl)) (cE _)))))
   (aC (cf lf))
   cr)
   (aC (cf (BG (wc (Mv (Hn (pE (nV j4)) (pE (nV j4))) (xp hr 2)) (jk xF wJ hr (aa (pv 2) ar)) (gh (aa (bL (m5 (K:=K) rfl) (pv 6) aA (λ_ _=>rfl)) (aa (bL (m5 (K:=K) rfl) (pv 6) aA (λ_ _=>rfl)) ar))) (cE _)) (BH (wc (Mv (Hn (pE (nV j4)) (pE (nV j4))) (xp hr 2)) (jk xF wJ hr (aa (eP ar) ar)) (gh (aa (eP ar) (aa (eP ar) ar))) (cE _))))))))))))))))))),?_⟩
 refine⟨_,rfl,a,ns,rfl,hS,λv H1 G s1 hG lg=>?_⟩;obtain⟨ok,vG⟩:=Lh lg;have qN:=ok.qN;obtain⟨gne,l12,mm,_,_,rows⟩:=id lg;refine⟨_,rfl,v,G,rfl,hG,by omega,λv' H2 s2 hG'=>?_⟩;have hG2:jj (nt H2) G v':=G6 (dB.up (mh _ _) hG');have hGg:jj (nt H2) G v:=G6 (dB.up s2 hG);have Kk:=tb.up (s1.trans s2);refine⟨_,rfl,v',G,rfl,hG2,ok,jX lg,Kk,λt u5 wx T0 T1 H3 S3 Cs n0 n1 n01 GP h03 h13 pap=>?_⟩;obtain⟨w0,D8⟩:=pap.s0;obtain⟨w1,D9⟩:=pap.s1;have V2:T0.length=G.length:=by obtain⟨_,h,_⟩:=id D8;rw[h,gW]
 have tl1:T1.length=G.length:=by obtain⟨_,h,_⟩:=id D9;rw[h,gW]
 have two:=Qr lg D8 D9;have sw:=Rf two λr hr=>(rows r hr).2.1.1;have kt:=bX _ _ GP;have k0:=bX _ _ h03;have k1:=bX _ _ h13;have kv':=dB.up bX (dB.up S3 hG2);have kv:=dB.up bX (dB.up S3 hGg);refine⟨_,rfl,_,"tuple",_,rfl,.inr (.inl ⟨rfl,_,kt⟩),pJ _,_,rfl,fW ?_⟩;refine⟨_,rfl,t,_,rfl,.inr (eU.of kt),rfl,_,rfl,fW ?_⟩;refine⟨_,rfl,_,rfl,G,kv',kv,_,rfl,fW ?_⟩;refine⟨_,rfl,t,_,_,_,rfl,rfl,eU.of kt,bu (j:=0) rfl,_,rfl,u5,v,T0,G,rfl,k0,kv,V2,by omega,HR D8,true,rfl,fW ?_⟩;refine⟨_,rfl,t,_,_,_,rfl,rfl,eU.of kt,bu (j:=1) rfl,_,rfl,wx,v,T1,G,rfl,k1,kv,tl1,by omega,HR D9,true,rfl,fW ?_⟩;have adx:ET G:=⟨by omega,λrow hr=>⟨(rows row hr).2.2.2.1,(rows row hr).2.2.2.2.1,by have:=(rows row hr).2.2.2.2.2;omega⟩⟩
 have aea:∀ z:Int,0<=z->z<G.length->0<=rk G z/\rk G z<41:=λz z0 z1=>by
  obtain⟨row,jC⟩:∃ row,G[z.toNat]?=some row:=⟨G[z.toNat]'(by omega),by simp⟩
  rw[Sl jC];exact (rows row (aq jC)).2.1
 refine⟨_,rfl,v',G,rfl,kv',adx,vG,λrow hr=>(rows row hr).2.2.1,aea,λst ha wa hf wf H4 s4 G4 nh nw Bt Fo ui Dl=>?_⟩;have s4:bp H3 H4:=s4.trans kX;refine⟨st,_,_,_,rfl,rfl,eU.of Bt,bu (j:=0) rfl,?_⟩;have SK:∀ p,EZ G p->hf p=io T0 p.toNat:=λp hp=>QY (λp hp=>hp) vG Dl sw p hp;obtain⟨g0,gv,rfl,jv,k8,_⟩:=dZ kv;have jt:=s4 _ _ kt;have j0:=s4 _ _ k0;have j1:=s4 _ _ k1;have jg:=s4 _ _ jv;refine⟨_,rfl,g0,_,rfl,.inl (bQ.of jg),_,rfl,by omega,by omega,jL (lo:=0) (n:=gv.length) (λi σ Hy=>∃ y5:Option V,σ=[some (.ref a),some (.ref g0),some v',some (.ref t),some (.ref ha),y5,none,none]/\Hy=H4) ⟨_,rfl,rfl⟩ (λi σ Hy hi h=>?_) (λσ Hy h=>?_)⟩
 ·obtain⟨y5,rfl,rfl⟩:=h;have il:i<G.length:=by omega
  have ei:(0:Int)+(i:Int)=(i:Int):=by omega
  have a0:vX (tV T0) (0+(i:Int))=some (oV (cU T0 (i:Int))):=by rw[ei];exact tW (by omega) (by omega)
  have a1:vX (tV T1) (0+(i:Int))=some (oV (cU T1 (i:Int))):=by rw[ei];exact tW (by omega) (by omega)
  have hpi:EZ G (0+(i:Int)):=⟨by omega,by omega⟩
  have a2:vX ((im G.length hf).map V.int) (0+(i:Int))=some (.int (hf (0+(i:Int)))):=lQ hpi.1 (by rw[aI,Ds hpi.1 hpi.2];rfl);have wi:=SK _ hpi;rw[show (0+(i:Int)).toNat=i by omega] at wi;obtain⟨row,eJ⟩:∃ row,G[i]?=some row:=⟨_,ao il⟩
  refine⟨_,rfl,t,_,_,_,rfl,rfl,eU.of jt,bu (j:=0) rfl,_,rfl,u5,_,_,_,rfl,rfl,bQ.of j0,a0,_,rfl,t,_,_,_,rfl,rfl,eU.of jt,bu (j:=1) rfl,_,rfl,wx,_,_,_,rfl,rfl,bQ.of j1,a1,rfl,?_⟩;have x1:decide (V.bl (decide (oV (cU T0 (i:Int))=V.fj))=V.bl (decide (oV (cU T1 (i:Int))=V.fj)))=false:=by
   refine decide_eq_false λz=>?_;injection z with z;cases e0:cU T0 (i:Int) with
   | none =>
    have e1:=two.or eJ e0;rw[e0] at z;cases e1':cU T1 (i:Int) with
    | none=>exact e1 e1'
    | some v=>rw[e1'] at z;cases z
   | some v =>
    cases e1:cU T1 (i:Int) with
    | none=>rw[e0,e1] at z;cases z
    | some v'=>exact two.nb (x:=(i:Int)) (by omega) (by omega) (by rw[e0];exact λy=>by cases y) (by rw[e1];exact λy=>by cases y)
  refine⟨_,rfl,?_⟩;rw[x1];refine fW ?_;refine⟨_,rfl,_,rfl,ha,_,_,_,rfl,rfl,bQ.of Fo,a2,_,rfl,t,_,_,_,rfl,rfl,eU.of jt,bu (j:=0) rfl,_,rfl,u5,_,_,_,rfl,rfl,bQ.of j0,a0,.inr ⟨_,rfl,rfl,?_⟩⟩;have x2:decide (V.int (hf (0+(i:Int)))=V.int (if decide (oV (cU T0 (i:Int))=V.fj)=true then 1 else 0))=true:=by
   refine decide_eq_true (congrArg V.int ?_);rw[wi];unfold io;cases e0:cU T0 (i:Int) with
   | none=>rfl
   | some v=>rfl
  rw[x2];exact⟨_,rfl,fW ⟨_,rfl,rfl⟩⟩
 obtain⟨y5,rfl,rfl⟩:=h;have kG:=dB.up s4 kv;have rk0:∀ r∈G,0<=r.2.1/\r.2.1<=1000/\r.2.2.length<=60/\∀ z∈r.2.2,0<=z/\z<(G.length:Int):=λr hr=>⟨(ok.VB r hr).1,(ok.VB r hr).2.1,(ok.VB r hr).2.2,(rows r hr).2.2.2.2.1⟩
 refine⟨_,rfl,_,rfl,t,_,_,_,rfl,rfl,eU.of jt,bu (j:=0) rfl,.ref g0,0,u5,G,T0,rfl,kG,j0,V2,qN,rk0,(λi row hr=>Df vG (.inl rfl) (jX lg 0).1 D8 hr),λH5 s5=>⟨true,rfl,fW ?_⟩⟩;refine⟨_,rfl,_,rfl,t,_,_,_,rfl,rfl,eU.of (s5 _ _ jt),bu (j:=1) rfl,.ref g0,1,wx,G,T1,rfl,dB.up s5 kG,s5 _ _ j1,tl1,qN,rk0,(λi row hr=>Df vG (.inr rfl) (jX lg 1).1 D9 hr),λH6 s6=>⟨true,rfl,fW ?_⟩⟩;have ZI:=s4.trans (s5.trans s6);have S6:Sm H2 H6:=S3.trans (Sm.of ZI);have ND:=Cs.up ZI;have t6:=ZI _ _ kt;have p6:=ZI _ _ k0;have r6:=ZI _ _ k1;clear jt j0 j1 jg s4 s5 s6 kG Fo Bt ui;refine⟨_,rfl,t,_,_,_,rfl,rfl,eU.of t6,bu (j:=0) rfl,u5,_,rfl,.inl (bQ.of p6),λb0 Pk=>?_⟩;have u1:=ay Pk (.lst (tV T0));have q1:upd H6 b0 (.lst (tV T0)) b0=some (.lst (tV T0)):=au;generalize upd H6 b0 (.lst (tV T0))=H7 at u1 q1 ⊢;refine⟨_,rfl,t,_,_,_,rfl,rfl,eU.of (u1 _ _ t6),bu (j:=1) rfl,wx,_,rfl,.inl (bQ.of (u1 _ _ r6)),λb1 Pl=>?_⟩;have u2:=ay Pl (.lst (tV T1));have q2:upd H7 b1 (.lst (tV T1)) b1=some (.lst (tV T1)):=au;generalize upd H7 b1 (.lst (tV T1))=H8 at u2 q2 ⊢;refine⟨(by show 2<=aJ;decide),λbl T7=>?_⟩;have u3:=ay T7 (.lst [V.ref b0,V.ref b1]);have q3:upd H8 bl (.lst [V.ref b0,V.ref b1]) bl=some (.lst [V.ref b0,V.ref b1]):=au;generalize upd H8 bl (.lst [V.ref b0,V.ref b1])=H9 at u3 q3 ⊢;have u23:=u2.trans u3;have WQ:=u1.trans u23;have t9:=WQ _ _ t6;have p9:=WQ _ _ p6;have r9:=WQ _ _ r6;have e0:=u23 _ _ q1;have e1:=u3 _ _ q2;have S9:Sm H2 H9:=S6.trans (Sm.of WQ);have tb9:=ND.up WQ;have d1:b0≠u5:=λz=>by rw[z,p6] at Pk;cases Pk
 have d2:b0≠wx:=λz=>by rw[z,r6] at Pk;cases Pk
 have d3:b1≠u5:=λz=>by rw[z,u1 _ _ p6] at Pl;cases Pl
 have d4:b1≠wx:=λz=>by rw[z,u1 _ _ r6] at Pl;cases Pl
 have d5:bl≠u5:=λz=>by rw[z,(u1.trans u2) _ _ p6] at T7;cases T7
 have d6:bl≠wx:=λz=>by rw[z,(u1.trans u2) _ _ r6] at T7;cases T7
 have d7:t≠u5:=λz=>by rw[z,p9] at t9;cases t9
 clear u1 u2 u3 u23 WQ Pk Pl T7 q1 q2 t6 p6 r6 S6 ND;refine⟨_,rfl,t,_,_,_,rfl,rfl,eU.of t9,bu (j:=0) rfl,.inl ⟨rfl,_,bQ.of p9⟩,u5,_,rfl,rfl,p9,?_⟩;have O2:Sm H2 (upd H9 u5 (.lst [])):=S9.put n0 _;have NC:qI K (upd H9 u5 (.lst [])):=tb9.put p9;have f1:upd H9 u5 (.lst []) t=some (.tup [.ref u5,.ref wx]):=by rw[bK d7];exact t9
 have f2:upd H9 u5 (.lst []) wx=some (.lst (tV T1)):=by rw[bK (dG n01)];exact r9
 have f3:upd H9 u5 (.lst []) b0=some (.lst (tV T0)):=by rw[bK d1];exact e0
 have f4:upd H9 u5 (.lst []) b1=some (.lst (tV T1)):=by rw[bK d3];exact e1
 have f5:upd H9 u5 (.lst []) bl=some (.lst [V.ref b0,V.ref b1]):=by rw[bK d5];exact q3
 generalize upd H9 u5 (.lst [])=HA at O2 NC f1 f2 f3 f4 f5 ⊢;refine⟨_,rfl,t,_,_,_,rfl,rfl,eU.of f1,bu (j:=1) rfl,.inl ⟨rfl,_,bQ.of f2⟩,wx,_,_,rfl,rfl,f2,oR (m:=1000) (by rw[ik];omega),?_⟩;have S11:Sm H2 (upd HA wx (.lst (tV T1++[V.int 0]))):=O2.put n1 _;have VX:qI K (upd HA wx (.lst (tV T1++[V.int 0]))):=NC.put f2;have g3:nt (upd HA wx (.lst (tV T1++[V.int 0]))) b0=some (.lst (tV T0)):=ig (by rw[bK d2];exact f3);have g4:nt (upd HA wx (.lst (tV T1++[V.int 0]))) b1=some (.lst (tV T1)):=ig (by rw[bK d4];exact f4);have g5:nt (upd HA wx (.lst (tV T1++[V.int 0]))) bl=some (.lst [V.ref b0,V.ref b1]):=ig (by rw[bK d6];exact f5);generalize upd HA wx (.lst (tV T1++[V.int 0]))=HB at S11 VX g3 g4 g5 ⊢;clear O2 NC f1 f2 f3 f4 f5 S9 tb9 t9 p9 r9 e0 e1 q3 kt k0 k1 kv kv';refine⟨_,rfl,v',G,rfl,dB.up bX (dB.up S11 hG2),by omega,ok.VB,.inr ⟨ok.am,λg gw HC sC hg pr=>?_⟩⟩;have hA:QH (upd HC g (.lst gw)) (kJ G) (.ref g):=⟨g,gw,rfl,au,dq l6 ((mh _ _).trans (ay hg _)) pr⟩
 have sD:=sC.trans (ay hg (.lst gw));generalize upd HC g (.lst gw)=HD at hA sD ⊢;have SD:=Sm.of sD;have eA:dN G 0=kJ G:=if_pos rfl;have eT:dN G 1=ni (kJ G):=if_neg (by decide);refine⟨_,rfl,.ref g,dN G 0,rfl,by rw[eA];exact DO hA,(jX lg 0).1,by rw[gW];exact qN,sX ok _,(jX lg 0).2,VX.up sD,λb2 ta2 wa2 T2 w2 HE SE tbE Pm Yw _ ZP _=>?_⟩;obtain rfl:=wq (jX lg 0).1 (v3 vG 0) D8 ZP;have SDE:=SD.trans SE;refine⟨b2,_,_,_,rfl,rfl,eU.of (bX _ _ Pm),bu (j:=0) rfl,_,rfl,bl,_,_,_,rfl,rfl,bQ.of (bX _ _ (SDE _ _ g5)),bu (j:=0) rfl,T0,qZ (bX _ _ Yw),qZ (bX _ _ (SDE _ _ g3)),_,rfl,fW ?_⟩;have hA2:QH HE (kJ G) (.ref g):=m7.up bX (m7.up SE (DO hA));refine⟨_,rfl,.ref g,kJ G,rfl,hA2,by rw[jA];exact qN,(λr hr=>by obtain⟨r0,h0,rfl⟩:=aM.mp hr;rw[ag];exact (ok.VB r0 h0).2.2),ok.tu,λu HF sF hu=>?_⟩;refine⟨u,dN G 1,rfl,by rw[eT];exact DO hu,(jX lg 1).1,by rw[gW];exact qN,sX ok _,(jX lg 1).2,tbE.up sF,λb3 ta3 wa3 T3 w3 HG SG tbG hb3 Yx _ ZQ _=>?_⟩;obtain rfl:=wq (jX lg 1).1 (v3 vG 1) D9 ZQ;have Tq:=SDE.trans ((Sm.of sF).trans SG);refine⟨b3,_,_,_,rfl,rfl,eU.of (bX _ _ hb3),bu (j:=0) rfl,_,rfl,bl,_,_,_,rfl,rfl,bQ.of (bX _ _ (Tq _ _ g5)),bu (j:=1) rfl,T1,qZ (bX _ _ Yx),qZ (bX _ _ (Tq _ _ g4)),_,rfl,fW ?_⟩;have h3:=Tq _ _ g3;have h4:=Tq _ _ g4;have h5:=Tq _ _ g5;have SG':=S11.trans Tq;clear Tq SDE SD SE SG sF sD hA hA2 hu g3 g4 g5 S11 VX tbE ZP ZQ Pm Yw hb3 Yx;refine⟨_,rfl,v',G,rfl,dB.up SG' hG2,ok,jX lg,tbG,λt' a0' a1' T0' T1' HH SH tbH _ _ _ Ys h0' Xv Zt=>?_⟩;obtain⟨w0',ZN⟩:=Zt.s0;obtain⟨w1',ZO⟩:=Zt.s1;obtain rfl:=wq (jX lg 0).1 (v3 vG 0) D8 ZN;obtain rfl:=wq (jX lg 1).1 (v3 vG 1) D9 ZO;have k5:=bX _ _ (SH _ _ h5);refine⟨_,rfl,bl,_,_,_,rfl,rfl,bQ.of k5,bu (j:=0) rfl,_,rfl,bl,_,_,_,rfl,rfl,bQ.of k5,bu (j:=1) rfl,(by show 2<=aJ;decide),λtt Fw=>?_⟩;have sT:=ay Fw (.tup [V.ref b0,V.ref b1]);refine⟨(T0,T1),⟨t',_,_,rfl,sT _ _ (bX _ _ Ys),qZ (sT _ _ (bX _ _ h0')),qZ (sT _ _ (bX _ _ Xv))⟩,⟨tt,_,_,rfl,au,qZ (sT _ _ (bX _ _ (SH _ _ h3))),qZ (sT _ _ (bX _ _ (SH _ _ h4)))⟩,_,rfl,mF ?_⟩;refine⟨bv _,λel Po=>?_⟩;refine⟨.ref el,[],rfl,⟨el,[],rfl,ig au,.nil⟩,G5.1,G5.2,(tbH.up sT).up (ay Po _),λt9 a9 b9 Ta Tb HI SI tbI _ _ _ Yu ha9 XD Zu=>?_⟩;obtain⟨_,_,z0,_⟩:=Zu.s0;obtain⟨_,_,z1,_⟩:=Zu.s1;rw[gW] at z0 z1;obtain rfl:=de z0;obtain rfl:=de z1;refine⟨bv _,λl1 qX=>⟨bv _,λl2 o6=>⟨(by show 2<=aJ;decide),λt0 WE=>?_⟩⟩⟩;have sA:=(ay qX (.lst [])).trans ((ay o6 (.lst [])).trans (ay WE (.tup [V.ref l1,V.ref l2])));exact⟨([],[]),⟨t9,_,_,rfl,sA _ _ (bX _ _ Yu),qZ (T:=[]) (sA _ _ (bX _ _ ha9)),qZ (T:=[]) (sA _ _ (bX _ _ XD))⟩,⟨t0,_,_,rfl,au,⟨l1,[],rfl,((ay o6 (.lst [])).trans (ay WE _)) _ _ au,.nil⟩,⟨l2,[],rfl,ay WE _ _ _ au,.nil⟩⟩,q _⟩
theorem main {f:ak} {fd:fP} (T:Txt mg)
  (XC:XT K mg "GarthError" JU JT)
  {gt:ak} (aR:ClsAt K mg "Cutter" gt ["game","entries","hands","ways"])
  (mw:u8 K mg "least_needy")
  (nu:u8 K mg "most_needy")
  (gb:ee K "least_needy" ≠ ee K "most_needy")
  (EJ:aX K mg "is_whole" mM ["value"])
  (EI:aX K mg "is_place" mL ["value","count"])
  (At:aX K mg "check_hand" j8 ["hand"])
  (Av:aX K mg "check_ways" kc ["ways","count"])
  (Ie:aX K mg "ways_in" mj ["game"])
  (rf:aX K mg "check_purse_ways" eQ ["ways","count"])
  (vt:aX K mg "check_amounts" iB ["ways"])
  (re:aX K mg "check_purse_rows" fY ["rows"])
  (AF:aX K mg "purse_game" jc ["rows"])
  (Ic:aX K mg "need_by" og ["purses","place","amount"])
  (AB:aX K mg "need_order" kg ["need"])
  (Ib:aX K mg "is_more" n9 ["need","other"])
  (ym:aX K mg "least_needy" iF ["ways","purses"])
  (AA:aX K mg "most_needy" ja ["ways","purses"])
  (vx:aX K mg "turned_purses" gr ["game"])
  (Au:aX K mg "check_rule" j9 ["game","hand","rule"])
  (vv:aX K mg "check_spender" gq ["game","rule"])
  (CC:aX K mg "ways_left" lA ["game","rule"])
  (Cv:aX K mg "add_gains" lq ["gains","ways","place"])
  (Aw:aX K mg "comes_back" i8 ["left","start"])
  (AC:aX K mg "needs_left" jb ["left"])
  (OI:aX K mg "needs" tN ["game","rule"])
  (EH:aX K mg "bettered" mK ["game","rule","table"])
  (Ar:aX K mg "betterings" i7 ["game"])
  (vw:aX K mg "solved_purses" iC ["game"])
  (Cw:aX K mg "amount_of" lr ["count","rank"])
  (Aq:aX K mg "amounts_of" i6 ["game"])
  (wB:aX K mg "hand_amounts" iS ["game","hand"])
  (Ko:aX K mg "papers" pZ ["game"])
  (yo:aX K mg "place_marks" jy ["count","places"])
  (AE:aX K mg "part_marks" ki ["game","part"])
  (wC:aX K mg "lacking_ways" gZ ["game","hand","inside","wanted"])
  (AD:aX K mg "next_layer" kh ["layer","entries","lacking"])
  (Cz:aX K mg "layers_to" jP ["game","entries","hand","goal","part"])
  (CA:aX K mg "least_way" jQ ["ways","marks"])
  (Az:aX K mg "layer_ways" ke ["game","hand","layers"])
  (se:Iq K gt "Cutter.__init__" gD ["self","game"])
  (yk:oA K gt "pull" "Cutter.pull" jx ["self","hand","goal","left"])
  (uq:oA K gt "without" "Cutter.without" fQ ["self","left","places"])
  (yj:oA K gt "give" "Cutter.give" jw ["self","hand","layers"])
  (rd:oA K gt "give_tops" "Cutter.give_tops" fX ["self","hand","tops","left"])
  (Ap:oA K gt "cut" "Cutter.cut" fL ["self","part"])
  (CB:aX K mg "places_of" lx ["layers"])
  (Kp:aX K mg "solved" qc ["game"])
  (Kn:aX K mg "_law_at" pY ["_law_script","_law_k"])
  (Cy:aX K mg "_law_whole" lu ["_law_found"])
  (EM:aX K mg "_law_ways" mQ ["_law_script","_law_k","_law_many","_law_block","_law_most"])
  (EL:aX K mg "_law_rank" mP ["_law_script","_law_k","_law_many"])
  (EK:aX K mg "_law_game" mO ["_law_script","_law_top"])
  (Ay:aX K mg "_law_copied" i9 ["_law_game_here"])
  (Ax:aX K mg "_law_amount" kd ["_law_many","_law_rank_here","_law_hand"])
  (wE:aX K mg "_law_is_table" iT ["_law_paper","_law_game_here"])
  (ur:aX K mg "_law_just_needs" fR ["_law_game_here","_law_hand","_law_paper"])
  (F:Gk K "law" "law" vp f fd):px P w K mg base yq 50 f fd ["_law_script"] (Hz K):=by
 have iw:=DS (P:=P) (w:=w) (base:=base) EJ T;have ip:=DR EI T iw;have cp:=Vh re T XC (yL At T XC iw) (Vi rf T XC (yM Av T XC ip)) (Zh vt T XC iw);have pg:=Mp AF T XC cp;have am:=yJ Aq T XC pg (BB Cw T);have la:=Zg (P:=P) (w:=w) (base:=base) Kn T;have nb:=Js (P:=P) (w:=w) (base:=base) Ic T;have od:=Mn (P:=P) (w:=w) (base:=base) AB T;have mo:=Qi Ib T od;have ln:=Zd ym T mw nb od;have mn:=Ze AA T nu nb od;have nl:=Zf AC T (Qa Aw T (Vg Cv T)) ln nb mo;have nd:=Mm OI T (FO vv T (Qk Au T iw)) (Qh CC T) nl;have bs:=Qb Ar T nd (DQ EH T mn nb mo);have sp:=Ql vw T bs ln;have tu:=Jw vx T XC pg;have pa:=Jt Ko T XC sp (Qf wB T XC am tu);have pm:=xz yo T ip;have ly:=Jr Cz T (yN AE T pm) pm (FN wC T) (Qj AD T);have le:=Ml (P:=P) (w:=w) (base:=base) CA T;have lw:=Zk Az T pm le;have cu:=Pc Ap T aR (Mo yk T aR ly) (FP uq T aR pm) (Qe yj T aR lw) (Qo rd T aR pm le) (Ju CB T) 42;have so:=Jv Kp T aR (Qg se T aR (Zi Ie T)) cu;exact Vk F T XC gb (Qd EK T la (Mq EM T la) (Zl EL T la)) (Qc Ay T) pa (Qm wE T (Mr Cy T)) so (Zj ur T (P9 Ax T)) am sp tu
end
def oC:=({ ks:=[(.df "is_whole",mM,none),(.df "is_place",mL,none),(.df "check_hand",j8,none),(.df "check_ways",kc,none),(.df "ways_in",mj,none),(.df "check_purse_ways",eQ,none),(.df "check_amounts",iB,none),(.df "check_purse_rows",fY,none),(.df "purse_game",jc,none),(.df "need_by",og,none),(.df "need_order",kg,none),(.df "is_more",n9,none),(.df "least_needy",iF,none),(.df "most_needy",ja,none),(.df "turned_purses",gr,none),(.df "check_rule",j9,none),(.df "check_spender",gq,none),(.df "ways_left",lA,none),(.df "add_gains",lq,none),(.df "comes_back",i8,none),(.df "needs_left",jb,none),(.df "needs",tN,none),(.df "bettered",mK,none),(.df "betterings",i7,none),(.df "solved_purses",iC,none),(.df "amount_of",lr,none),(.df "amounts_of",i6,none),(.df "hand_amounts",iS,none),(.df "papers",pZ,none),(.df "place_marks",jy,none),(.df "part_marks",ki,none),(.df "lacking_ways",gZ,none),(.df "next_layer",kh,none),(.df "layers_to",jP,none),(.df "least_way",jQ,none),(.df "layer_ways",ke,none),(.me "Cutter" "__init__" "Cutter.__init__",gD,none),(.me "Cutter" "pull" "Cutter.pull",jx,none),(.me "Cutter" "without" "Cutter.without",fQ,none),(.me "Cutter" "give" "Cutter.give",jw,none),(.me "Cutter" "give_tops" "Cutter.give_tops",fX,none),(.me "Cutter" "cut" "Cutter.cut",fL,none),(.df "places_of",lx,none),(.df "solved",qc,none),(.df "_law_at",pY,none),(.df "_law_whole",lu,none),(.df "_law_ways",mQ,none),(.df "_law_rank",mP,none),(.df "_law_game",mO,none),(.df "_law_copied",i9,none),(.df "_law_amount",kd,none),(.df "_law_is_table",iT,none),(.df "_law_just_needs",fR,none),(.df "law",vp,none)],cs:=[("Cutter",["game","entries","hands","ways"])],is:=[("MOST_PURSE_PLACES",16)],ss:=[],bs:=["abs","bool","dict","enumerate","int","isinstance","len","list","max","min","range","set","sorted","tuple","zip"],xc:=λK=>Cb K "GarthError" JU JT,ext:=λK=>((ee K "least_needy" == ee K "most_needy"),()),TN:=λw=>(false,()) }:lN _)
theorem all_mk {P:aS} {w:bN} {K:aj} {h:cj} {mg:bc->Option ae} {fa:ak} (e:oC.Ok w K) (X:K.In h) (TI:lF ["least_needy","most_needy"] K h) (G:h.Ns bf mg) (hfa:mg "law" = some (.ref fa)) :
  ∃ fd:fP,(∀ (s:ai) (v:ae),OL s fd ⟨[v],[]⟩ [("_law_script",v)])/\∀ base:cj,K.In base->base.Ns bf mg->px P w K mg base yq 50 fa fd ["_law_script"] (Hz K):=by
 have T:Txt mg:=⟨e.jH X G 0 rfl,e.jH X G 1 rfl,e.jH X G 2 rfl,e.jH X G 3 rfl,e.jH X G 4 rfl,e.jH X G 5 rfl,e.jH X G 6 rfl,e.jH X G 7 rfl,e.jH X G 8 rfl,e.jH X G 9 rfl,e.jH X G 10 rfl,e.jH X G 11 rfl,e.jH X G 12 rfl,e.jH X G 13 rfl,e.jH X G 14 rfl,e.int X G 0 rfl⟩
 have XC:=aas X G e.exc;obtain⟨gt,mf,IF,IE,aR⟩:=e.cls X G 0 rfl;have mw:u8 K mg "least_needy" := Dw X G TI (by simp);have nu:u8 K mg "most_needy" := Dw X G TI (by simp);have gb:ee K "least_needy" ≠ ee K "most_needy" := λz=>by
  have zz:(ee K "least_needy" == ee K "most_needy")=false:=congrArg (λp=>p.1) e.more;rw[z,beq_self_eq_true] at zz;cases zz
 have A0:aX K mg "is_whole" mM ["value"]:=e.defAt X G 0 rfl (λ_ _ _ _ _ _=>L2.o4 λ_=>rfl);have A1:aX K mg "is_place" mL ["value","count"]:=e.defAt X G 1 rfl (λ_ _ _ _ _ _=>L2.nA λ_ _=>rfl);have A2:aX K mg "check_hand" j8 ["hand"]:=e.defAt X G 2 rfl (λ_ _ _ _ _ _=>L2.o4 λ_=>rfl);have A3:aX K mg "check_ways" kc ["ways","count"]:=e.defAt X G 3 rfl (λ_ _ _ _ _ _=>L2.nA λ_ _=>rfl);have A4:aX K mg "ways_in" mj ["game"]:=e.defAt X G 4 rfl (λ_ _ _ _ _ _=>L2.o4 λ_=>rfl);have A5:aX K mg "check_purse_ways" eQ ["ways","count"]:=e.defAt X G 5 rfl (λ_ _ _ _ _ _=>L2.nA λ_ _=>rfl);have A6:aX K mg "check_amounts" iB ["ways"]:=e.defAt X G 6 rfl (λ_ _ _ _ _ _=>L2.o4 λ_=>rfl);have A7:aX K mg "check_purse_rows" fY ["rows"]:=e.defAt X G 7 rfl (λ_ _ _ _ _ _=>L2.o4 λ_=>rfl);have A8:aX K mg "purse_game" jc ["rows"]:=e.defAt X G 8 rfl (λ_ _ _ _ _ _=>L2.o4 λ_=>rfl);have A9:aX K mg "need_by" og ["purses","place","amount"]:=e.defAt X G 9 rfl (λ_ _ _ _ _ _=>L2.vD λ_ _ _=>rfl);have N4:aX K mg "need_order" kg ["need"]:=e.defAt X G 10 rfl (λ_ _ _ _ _ _=>L2.o4 λ_=>rfl);have SN:aX K mg "is_more" n9 ["need","other"]:=e.defAt X G 11 rfl (λ_ _ _ _ _ _=>L2.nA λ_ _=>rfl);have A12:aX K mg "least_needy" iF ["ways","purses"]:=e.defAt X G 12 rfl (λ_ _ _ _ _ _=>L2.nA λ_ _=>rfl);have A13:aX K mg "most_needy" ja ["ways","purses"]:=e.defAt X G 13 rfl (λ_ _ _ _ _ _=>L2.nA λ_ _=>rfl);have A14:aX K mg "turned_purses" gr ["game"]:=e.defAt X G 14 rfl (λ_ _ _ _ _ _=>L2.o4 λ_=>rfl);have A15:aX K mg "check_rule" j9 ["game","hand","rule"]:=e.defAt X G 15 rfl (λ_ _ _ _ _ _=>L2.vD λ_ _ _=>rfl);have A16:aX K mg "check_spender" gq ["game","rule"]:=e.defAt X G 16 rfl (λ_ _ _ _ _ _=>L2.nA λ_ _=>rfl);have A17:aX K mg "ways_left" lA ["game","rule"]:=e.defAt X G 17 rfl (λ_ _ _ _ _ _=>L2.nA λ_ _=>rfl);have A18:aX K mg "add_gains" lq ["gains","ways","place"]:=e.defAt X G 18 rfl (λ_ _ _ _ _ _=>L2.vD λ_ _ _=>rfl);have A19:aX K mg "comes_back" i8 ["left","start"]:=e.defAt X G 19 rfl (λ_ _ _ _ _ _=>L2.nA λ_ _=>rfl);have A20:aX K mg "needs_left" jb ["left"]:=e.defAt X G 20 rfl (λ_ _ _ _ _ _=>L2.o4 λ_=>rfl);have A21:aX K mg "needs" tN ["game","rule"]:=e.defAt X G 21 rfl (λ_ _ _ _ _ _=>L2.nA λ_ _=>rfl);have A22:aX K mg "bettered" mK ["game","rule","table"]:=e.defAt X G 22 rfl (λ_ _ _ _ _ _=>L2.vD λ_ _ _=>rfl);have A23:aX K mg "betterings" i7 ["game"]:=e.defAt X G 23 rfl (λ_ _ _ _ _ _=>L2.o4 λ_=>rfl);have A24:aX K mg "solved_purses" iC ["game"]:=e.defAt X G 24 rfl (λ_ _ _ _ _ _=>L2.o4 λ_=>rfl);have A25:aX K mg "amount_of" lr ["count","rank"]:=e.defAt X G 25 rfl (λ_ _ _ _ _ _=>L2.nA λ_ _=>rfl);have A26:aX K mg "amounts_of" i6 ["game"]:=e.defAt X G 26 rfl (λ_ _ _ _ _ _=>L2.o4 λ_=>rfl);have A27:aX K mg "hand_amounts" iS ["game","hand"]:=e.defAt X G 27 rfl (λ_ _ _ _ _ _=>L2.nA λ_ _=>rfl);have A28:aX K mg "papers" pZ ["game"]:=e.defAt X G 28 rfl (λ_ _ _ _ _ _=>L2.o4 λ_=>rfl);have A29:aX K mg "place_marks" jy ["count","places"]:=e.defAt X G 29 rfl (λ_ _ _ _ _ _=>L2.nA λ_ _=>rfl);have A30:aX K mg "part_marks" ki ["game","part"]:=e.defAt X G 30 rfl (λ_ _ _ _ _ _=>L2.nA λ_ _=>rfl);have A31:aX K mg "lacking_ways" gZ ["game","hand","inside","wanted"]:=e.defAt X G 31 rfl (λ_ _ _ _ _ _=>L2.O4 λ_ _ _ _=>rfl);have A32:aX K mg "next_layer" kh ["layer","entries","lacking"]:=e.defAt X G 32 rfl (λ_ _ _ _ _ _=>L2.vD λ_ _ _=>rfl);have A33:aX K mg "layers_to" jP ["game","entries","hand","goal","part"]:=e.defAt X G 33 rfl (λ_ _ _ _ _ _=>L2.Xg λ_ _ _ _ _=>rfl);have A34:aX K mg "least_way" jQ ["ways","marks"]:=e.defAt X G 34 rfl (λ_ _ _ _ _ _=>L2.nA λ_ _=>rfl);have A35:aX K mg "layer_ways" ke ["game","hand","layers"]:=e.defAt X G 35 rfl (λ_ _ _ _ _ _=>L2.vD λ_ _ _=>rfl);have A36:Iq K gt "Cutter.__init__" gD ["self","game"]:=e.ae3 36 mf IF IE rfl (λ_ _ _ _ _ _=>L2.nA λ_ _=>rfl);have A37:oA K gt "pull" "Cutter.pull" jx ["self","hand","goal","left"]:=e.L8 37 mf rfl (λ_ _ _ _ _ _=>L2.O4 λ_ _ _ _=>rfl);have A38:oA K gt "without" "Cutter.without" fQ ["self","left","places"]:=e.L8 38 mf rfl (λ_ _ _ _ _ _=>L2.vD λ_ _ _=>rfl);have A39:oA K gt "give" "Cutter.give" jw ["self","hand","layers"]:=e.L8 39 mf rfl (λ_ _ _ _ _ _=>L2.vD λ_ _ _=>rfl);have A40:oA K gt "give_tops" "Cutter.give_tops" fX ["self","hand","tops","left"]:=e.L8 40 mf rfl (λ_ _ _ _ _ _=>L2.O4 λ_ _ _ _=>rfl);have A41:oA K gt "cut" "Cutter.cut" fL ["self","part"]:=e.L8 41 mf rfl (λ_ _ _ _ _ _=>L2.nA λ_ _=>rfl);have A42:aX K mg "places_of" lx ["layers"]:=e.defAt X G 42 rfl (λ_ _ _ _ _ _=>L2.o4 λ_=>rfl);have A43:aX K mg "solved" qc ["game"]:=e.defAt X G 43 rfl (λ_ _ _ _ _ _=>L2.o4 λ_=>rfl);have A44:aX K mg "_law_at" pY ["_law_script","_law_k"]:=e.defAt X G 44 rfl (λ_ _ _ _ _ _=>L2.nA λ_ _=>rfl);have A45:aX K mg "_law_whole" lu ["_law_found"]:=e.defAt X G 45 rfl (λ_ _ _ _ _ _=>L2.o4 λ_=>rfl);have A46:aX K mg "_law_ways" mQ ["_law_script","_law_k","_law_many","_law_block","_law_most"]:=e.defAt X G 46 rfl (λ_ _ _ _ _ _=>L2.Xg λ_ _ _ _ _=>rfl);have A47:aX K mg "_law_rank" mP ["_law_script","_law_k","_law_many"]:=e.defAt X G 47 rfl (λ_ _ _ _ _ _=>L2.vD λ_ _ _=>rfl);have A48:aX K mg "_law_game" mO ["_law_script","_law_top"]:=e.defAt X G 48 rfl (λ_ _ _ _ _ _=>L2.nA λ_ _=>rfl);have A49:aX K mg "_law_copied" i9 ["_law_game_here"]:=e.defAt X G 49 rfl (λ_ _ _ _ _ _=>L2.o4 λ_=>rfl);have A50:aX K mg "_law_amount" kd ["_law_many","_law_rank_here","_law_hand"]:=e.defAt X G 50 rfl (λ_ _ _ _ _ _=>L2.vD λ_ _ _=>rfl);have A51:aX K mg "_law_is_table" iT ["_law_paper","_law_game_here"]:=e.defAt X G 51 rfl (λ_ _ _ _ _ _=>L2.nA λ_ _=>rfl);have A52:aX K mg "_law_just_needs" fR ["_law_game_here","_law_hand","_law_paper"]:=e.defAt X G 52 rfl (λ_ _ _ _ _ _=>L2.vD λ_ _ _=>rfl);obtain⟨kV,doc,pm,an,di,ct,FL⟩:=e.law X G 53 rfl hfa;exact⟨_,λs v=>.of_eq rfl,λbase _ _=>main (P:=P) (w:=w) (base:=base) T XC aR mw nu gb A0 A1 A2 A3 A4 A5 A6 A7 A8 A9 N4 SN A12 A13 A14 A15 A16 A17 A18 A19 A20 A21 A22 A23 A24 A25 A26 A27 A28 A29 A30 A31 A32 A33 A34 A35 A36 A37 A38 A39 A40 A41 A42 A43 A44 A45 A46 A47 A48 A49 A50 A51 A52 FL⟩
def Xh:List Nat:=[0,1,2,3,4,5,6,7,8,9,10,11,12,13,14,15,22,23,24,25,28,35,36,37,40,47,48,49,52,59,60,61,64,71,72,73,76,83,84,85,88,89,90,91,92,93,94,95,96,97,98,99,100,101,102,103,104,105,106,107,108,109,110,111,112,113,114,115,116,117,118,119,120,121,122,123,124,125,126,127,128,129,130,131,132,133,134,135,136,137,138,139,140,141,142,143,144,145,146,147,148,149,150,151,152,153,154,155,156,157,158,159,160,161,162,163,164,165,166,167,168,169,170,171,172,173,174,175,176,177,178,179,180,181,182,183,184,185,186,187,188,189,190,191,192,193,194,195,196,197,198,199,200,201,202,203,204,205,206,207,208,209,210,211,212,213,214,215,216,217,218,219,220,221,222,223,224,225,226,227,228,229,230,231,232,233,234,235,236,237,238,239,240,241,242,243,244,245,246,247,248,249,250,251,252,253,254,255,256,257,258,259,260,261,262,263,264,265,266,267,268,269,270,271,272,273,274,275,276,277,278,279,280,281,282,283,284,285,286,287,288,289,290,291,292,293,294,295,296,297,298,299,300,301,302,303,304,305,306,307,308,309,310,311,312,313,314,315,323,324,325,326,327,328,329,330,331,332,333,334,335,336,337,338,339,340,341,342,343,344,345,346,347,348,349,350,351,352,353,354,355,356,357,358,359,360,361,362,363,364,365,368,369,370,371,372,373,374,375,376,377,378,379,380,381,382,383,384,385,386,387,388,389,390,391,392,393,394,395,396,397,398,399,400,401,402,403,404,405,406,407,408,409,410,411,412,413,414,415,416,417,418,419,420,421,422,423,424,425,426,427,428,429,430,431,432,433,434,435,436,437,438,439,440,441,442,443,444,445,446,447]
def qV:aS:=PySem.W.view aU [64]
def loV:List bc:=(aU.main.scope.names.map (·.1)).filter λx=>!(x == "law")
def xtV (s:ai):Bool:=PySem.W.xlAt qV [] s && PySem.W.recOk (PySem.W.RowW.records eF.row.toRowW) s
def dL:PySem.DefRec:=⟨"law",jZ vp,fH vp,aG vp,a0G vp⟩
set_option maxHeartbeats 0
theorem IT:PySem.W.opening aU=PySem.W.plainProg aU.main.scope.names:=by kernel_rfl
theorem Lp (w:bN) (os:OsState):(tZ aU w 11 (some (.ref 6)) 6486 ⟨zw w.params,11,{},Array.mk [],Iv,J5,os⟩ (PySem.W.topStub aU)).map (λr=>B6 aU qV loV xtV true (λs=>(oC.look (zZ Xh s.heap),(["least_needy","most_needy"]:List bc).all λx=>NB (zZ Xh s.heap) s.heap x)) (J4 w.params) r.abs)=some (true,PySem.W.openGood qV loV,(oC.want w,true)):=by kernel_rfl
theorem IS:PySem.W.LeftO eF.row.prog qV loV xtV (λs=>(oC.look (zZ Xh s.heap),(["least_needy","most_needy"]:List bc).all λx=>NB (zZ Xh s.heap) s.heap x)) (λw=>(oC.want w,true)) 6486 :=
 Jk (p:=aU) (H₀:=J4) (gs₀:=Array.mk []) (d₀:=Iv) (k₀:=J5) (m₀:=11) (ann:=some (.ref 6)) (M:=6486) (T₀:=zw) (n₀:=11) (life:={}) (PySem.W.boot_open IT (by decide +kernel) λs=>by kernel_rfl) (λw=>by kernel_rfl) (λP=>by kernel_rfl) Lp (by decide +kernel)
end Law
open PySem PySem.W PyProof.Rows
set_option maxRecDepth 100000 in
set_option maxHeartbeats 0 in
theorem PySem.Challenge.cw_rankgarth_k37_whole_papers_of_both_hands_holds : PySem.Challenge.rw_rankgarth_k37_whole_papers_of_both_hands.Holds := by
 refine PySem.W.holds_law (by kernel_rfl) λafz=>?_;refine PySem.W.holds_open (q:=Law.qV) (loose:=Law.loV) (Xt:=Law.xtV) (XP:=XL Law.qV []) (YP:=λw h=>∃ K:Frag,K.In h/\Law.oC.Ok w K/\L2.lF ["least_needy","most_needy"] K h) (d:=Law.dL) (kwd:=[]) Law.IS (λw s e=>⟨L2.zZ Law.Xh s.heap,L2.MA _ _,(Wo e).1,L2.lF.of (Wo e).2⟩) (λw h h' y k=>y.elim λK z=>⟨K,z.1.keeps k,z.2.1,z.2.2.keeps k⟩) (λs e=>xl_of s (gO.mp e).1) XL.keeps (by kernel_rfl) (by kernel_rfl) (by kernel_rfl) (λs e=>recFacts_of (gO.mp e).2) (by kernel_rfl) afz (by kernel_rfl) ⟨rfl,rfl,rfl,rfl,rfl,by decide +kernel⟩ ?hw ?hc
 case hw=>w_witness2
 case hc=>exact L2.NN (l:=eF) (n:=63) (k:=50) (x := "_law_script") (nm := "law") (sp:=Law.Hz) (xs:=["least_needy","most_needy"]) (Fc:=λw K=>Law.oC.Ok w K) rfl (by decide) (by kernel_rfl) ⟨rfl,by decide,by decide⟩ (by kernel_rfl) (λw K mg fa h e X ti G hm=>Law.all_mk e X ti G hm) (λ_ _ a ns hl hT hS=>⟨a,ns,rfl,hS,hT,hl,λ_=>rfl⟩)
