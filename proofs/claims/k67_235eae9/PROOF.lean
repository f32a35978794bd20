import PyProof.Rows.All
import Wide.All
import OpenK.AllK
import Wide.FinOn
import Lean
import PyProof.EqAt
import PyProof.EqKinds
import PyProof.TupleCall
import PyProof.NeKinds
import KE.KDictSum
import PyProof.Rows.SetFrom
import KE.KSortTup
import PyProof.StrReplace2
import PyProof.StrOps2
import KE.KLam
import KE.KMinKey
import PySem.Challenge.RW_rankgarth_k67_plays_refused
set_option linter.all false
set_option Elab.async false
set_option maxRecDepth 100000
set_option maxHeartbeats 4000000
open Array renaming length_toList->bj,getElem?_toList->cp,getElem?_eq_getElem->nM,eq_empty_of_size_eq_zero->vL,append_assoc->JE,toList_push->M5
open Bool renaming false_ne_true->bg,and_eq_true->bU,eq_iff_iff->eQ,not_eq_true'->kJ,and_eq_true_iff->lN,false_eq_true->nE,eq_false_iff->NJ,or_eq_true->Rp,and_false->UV,false_and->UW
open Classical renaming byContradiction->b6
open Except renaming ok->B4,error->UX
open False renaming elim->dR
open ForInStep renaming yield->jw
open Int renaming toNat_natCast->bC,emod_lt_of_pos->cQ,emod_nonneg->dA,le_refl->gL,toNat_of_nonneg->mO,le_trans->vQ,zero_add->vR,lt_or_eq_of_le->NM
open List renaming getElem?_eq_some_iff->ag,length_map->aj,mem_of_getElem?->am,getElem?_eq_getElem->ao,getElem?_map->aB,mem_cons->aE,replicate->aH,length_append->aJ,map_append->aM,mem_cons_self->aP,getElem?_eq_none->aU,take_length->aZ,mem_cons_of_mem->bc,mem_singleton->be,mem_append->bo,mem_append_right->br,size_toArray->bu,take_add_one->bv,mem_filter->bF,filter_cons_of_pos->bJ,length_cons->bK,mem_map->bL,range->bO,filter_cons_of_neg->bS,length_pos_iff->b7,getElem?_append_left->b9,getElem?_of_mem->cg,mem_append_left->ck,getElem?_append_right->cx,getElem_mem->cA,lookup_cons->cD,Nodup->cT,ext_getElem?->cV,getElem?_set_ne->cW,getElem?_set_self->cX,filter_append->cZ,length_singleton->da,nodup_cons->dc,map_cons->dg,not_mem_nil->dC,length_filter_le->dD,getD_eq_getElem?_getD->dX,mem_range->d8,append_nil->ef,length_take->eE,getElem?_range->eM,lookup->fw,nodup_append->fB,length_nil->fG,length_set->fH,flatten_append->fN,replicate_succ->fO,all_eq_true->fZ,length_replicate->gh,take_append_drop->gi,find?_cons->gD,flatten_cons->gI,filterMap_cons->gX,getElem?_replicate->ie,length_eq_zero_iff->ig,take_zero->ii,filter->iD,nil_append->iH,range_succ->iI,append_assoc->iW,drop_eq_getElem_cons->jC,getElem?_drop->km,getElem?_take->kn,pairwise_lt_range->kM,getElem?_zipWith->lg,any_eq_true->lx,take_append_of_le_length->lO,map_congr_left->mD,mem_filterMap->nG,nodup_nil->nH,pairwise_cons->nI,take_succ->nJ,zip_cons_cons->nK,length_range->n9,take_of_length_le->qg,length->rR,replicate_succ'->rS,any_cons->tU,pairwise_map->vx,cons_append->xp,mem_flatten->xq,eq_nil_of_length_eq_zero->xJ,exists_mem_of_length_pos->xK,forIn_cons->yu,of_mem_zip->yx,foldl->BE,length_eraseIdx_of_lt->BF,mem_of_find?_eq_some->B6,getElem?_take_of_lt->Dw,length_erase_of_mem->Dx,getD->DP,append_eq_nil_iff->Fg,find?_cons_of_neg->Fh,length_pos_of_mem->Fi,map_nil->Fj,mem_erase_of_ne->Jf,length_zipWith->JM,take_succ_cons->JN,append_of_mem->Na,ne_nil_of_mem->Nb,zip_nil_right->Nc,take_sublist->NO,zip_nil_left->NP,getElem_inj->Qq,length_drop->Qr,mem_flatMap->Qs,zipIdx_cons->Qt,find?_some->RE,foldl_cons->RF,zipIdx_nil->RG,filterMap->U1,forIn_nil->U2,all_cons->VH,map_map->Zi,map_set->Zj
open List.Pairwise renaming nil->BD
open List.cons renaming injEq->oG
open Nat renaming le_refl->aA,ne_of_lt->aR,zero_le->bE,ne_of_gt->bY,lt_of_lt_of_le->b8,le_trans->cq,lt_or_ge->cY,lt_succ_self->de,lt_succ_of_lt->di,le_add_right->d4,le_succ->jj,lt_irrefl->jU,le_of_lt->kS,not_lt_zero->mE,lt_trans->m7,sub_self->m8,le_of_not_lt->pq,succ_ne_self->px,add_comm->vT,le_of_eq->G3,lt_of_le_of_lt->NQ,le_succ_of_le->Qu,lt_trichotomy->Qv,succ_mul->aaW
open Ne renaming symm->cS
open Option renaming map_eq_some_iff->dY,isSome_iff_exists->BG,none->Fk,getD_none->Nd
open Option.some renaming inj->cK
open Or renaming inl->bi,inr->tI
open Prod.mk renaming injEq->Qy,inj->U4
open PyProof.Rows renaming IntsAre->cv,boot_isinstance->dj,callWith_type1->dy,boot_list->gQ,envOfC->lI,boot_sorted->mz,boot_dict->nL,kindOf->nU,AllBare->n5,callWith_builtin1->rT,callWith_kw->vy,boot_max->xL,boot_zip->xM,kmk_tree->xN,Constant_bool->JI,Constant_none->JJ,subscriptTail->MA,subscriptTail_builtinR->PU,Call_->Ru,Subscript_->VP,IsTup->Zh,lt'->adR
open PyProof.Rows.F renaming plain_set_update_loop->qB,entry_set_update_loop->Jd
open PyProof.Rows.IntsAre renaming int_at->Ng
open PySem renaming wpAny_bind->aa,Value->ae,Addr->ah,Shared->ai,wpAny_pure->aq,sizeLine->aL,Program->aO,model->aS,Str->aT,starEach->aV,mainGlobals->bf,Around->bp,World->bD,boot_len->bN,Expr->bR,Heap->bT,wpAny_mono->cf,Stmt->cL,wpAny_holding->db,compareOp->dz,wpAny_setField_rec->dB,codeAny_builtin->dF,Paired->dP,eval->dU,keywordEach->d5,Obj->d6,SetTable->d7,backTo->d9,Scope->ek,Builtin->eF,mem_of_lookup->eL,wpAny_truthy_bool->eW,wpAny_ite_split->fg,wpAny_call_entry->fA,FuncData->fJ,wpAny_callSpecial?_slot->fV,wpAny_newObj_type->fW,wpAny_pyIter_list->fX,backToKw->gF,wpAny_tryCatch->gH,holding->gK,Pos->gR,rawInt->gU,wpAny_execs_nil->gW,wpAny_letGo->ib,codeAny_mono->iY,wpAny_Call_Name_kw->i8,wpAny_passesOwn->jf,wpAny_updateSeq->jg,Arguments->jh,cLine->jx,foldedSetIterable->jy,wpAny_setState_of->jz,pyNext->jQ,wpAny_seqItems->jR,updateSeq->kh,wpAny_askSetting->ki,wpAny_execs_cons->kj,wpAny_setEntries_of->kz,behindInMarks->kD,plainId_quiet->kH,wpAny_attempt->kI,intKind->kP,builtinsNs->kT,wpAny_field->lf,bootBuiltins->lF,wpAny_pyNext_list_item->lL,wpAny_pyNext_list_end->mB,getMethod->mG,pickOrder->mI,scanBound->mJ,sliceBounds->nz,IsZip->nZ,standAt->oF,bindArgs->oQ,isSubtype_type->oX,sysModules->oZ,fits_of_scanBound->qj,Env->qA,Result->qF,attributeBase->qG,call->qH,NameKind->qY,checkBuiltinCall->rh,swapsWith->rK,wpAny_isInstance->rO,wpAny_pyIter_zip->rP,assignEach->r9,wpAny_load->tD,wpAny_nextOf_list_item->tE,wpAny_rule->tF,Model->tH,letOwnedTupleGo->tM,wpAny_loadPart'->tN,binaryOp->u8,callWith->u9,codeAny_call_builtin->vd,firstArgMember->vf,wpAny_fieldsOf->vp,seqItems?->vE,setNext->vF,wpAny_onRaise->xy,wpAny_standAt->xz,assign->xR,call_meets->xT,wpAny_call->yq,Operator->Aa,callerA->An,getItem->Av,relayAll->AY,valueAt->Bx,wpAny_assign_Name->Bz,wpAny_typeOf->BA,treeTable->Dr,richCompare->DE,seqIndex_of->DG,subscripted->DI,Within->DR,importedModules->Ef,Keyword->Ff,GenState->G2,defaultsOf->HH,pyIter->IE,setEntries->IM,setsByText->IN,wpAny_letOwnedTupleGo_zip->Jy,signature?_of->Mj,wpAny_comprehension_free->MT,wpAny_newList->MU,Drawn->M9,Tok->Nl,bindC->Nn,bindL->No,tupleKind->NF,BindsTo->NI,Params->NT,argsOk->NZ,isTrue->OI,richCompare_meets_room->Pr,seqIndex_neg->PD,setNextDrawn->PF,builtinLookup_eq_fast->QA,wpAny_isTrue_Compare1->Rj,CmpOp->Rv,getD_mem->RN,mem_getD->RO,Sem->RP,atKey->RW,entryFor->R8,getAttr?->Sh,numAt_eq->TU,sizeLine_eq->Ur,wpAny_newFunctionEnv->UP,wpAny_of_eq->UQ,getattributeRaised->Wa,tupleKind_room_in1->YZ,typeIs_int->Y0,typeLookup->Y1,wpAny_Name->Y5,relabel->aak,slot_list_getitem->aaq,wpAny_pyIter_enum->aaD,wpAny_pyIter_slot->aaE,wpAny_setEpoch_of->aaF,wpAny_storeSet_of->aaG,call->aa7,cellsFrom->abl,entryFor_of_tree->abo,wpAny_forIn_list->aeF
open PySem.Around renaming under_plainId->fh,under->o4,frames_deeper->Fb,in1->Za
open PySem.AutoSeq1 renaming sub_tuple_tuple->yr
open PySem.Builtin.Builtins renaming bindParams->kA
open PySem.Builtin.Dict renaming updateFrom->vM
open PySem.Builtin.Frozenset renaming sizeOf->rY,newClass->Rr,updateFrom->Rs
open PySem.Builtin.List renaming listTooLong->i9,listExtendWith->k9,listLengthHint->tR,listSameRef->vq
open PySem.Builtin.ObjectAttr renaming dataDescriptor?->Qg,find->Qh,getOf->Qi
open PySem.Builtin.Range renaming rangeSize->vt
open PySem.Builtin.SmallTypes renaming ownedTupleIsFree->eY,nextOf->ik,ownedTupleHandOut->nF
open PySem.Builtin.Tuple renaming tupleCompareSizes->qN
open PySem.Calls renaming Name_function_global->zP,evalArgs_plain->GZ,spliced_cons->JG,spliced_nil->M6
open PySem.Challenge renaming pw_rankgarth_k67_plays_refused->bq,rw_rankgarth_k67_plays_refused->fY
open PySem.CmpOp renaming NotIn->Zb
open PySem.Code renaming builtin->mL,isFrame->qf,quiet_builtin->M7,envs->Qj,frames->aaN
open PySem.EqMixed renaming eq_bool_str->aaY,eq_int_str->aaZ,eq_str_bool->aa0,eq_str_int->aa1,ne_bool_str->aa2,ne_int_str->aa3,ne_str_bool->aa4,ne_str_int->aa5
open PySem.F renaming plainAttrs_list->aW,slot_list_append->aX,type_list_append->aY,called_set->jP,slot_list_getattribute->pj,slot_zip_next->rQ,excBase_ValueError->xO,plain_extend_loop->yy,plain_list_iadd->BH,entry_max_loop->B8,entry_min_loop->B9,excAttr_ValueError->NL,args_zip_next_1->UY,entry_zip_next->VA,plain_set_new->Zd,slot_int_rmul->Ze,slot_set_iter->Zf
open PySem.Heap renaming get?_push_of_some->al,lt_size->aD,get?_push_size->aF,size_push->dW,get?_none_of_le->eC,get?_update_self->eX,SameBut->fR,get?_update_other->fT,FlyingW->vw,IsList->Je,MadeExcOf->UZ,ExtBut->aaR
open PySem.Heap.IsList renaming push->r0
open PySem.Heap.IsSliceOf renaming new->Zg
open PySem.Heap.SameBut renaming update->fj
open PySem.NameKind renaming free->bQ,cell->fK
open PySem.Obj renaming mapSeq->eO,putSet->B7
open PySem.Paired renaming length->lj
open PySem.PassesOwn renaming never->bn
open PySem.SeqAt renaming EqAt->jV,RcNeAt->DS,RcAt->JR
open PySem.SeqAt.EqAt renaming int_int->Dy,int_str->Dz,str_int->DA
open PySem.SeqAt.RcAt renaming lists->Fn
open PySem.SeqAt.RcNeAt renaming lists->BI
open PySem.SetTable renaming below->bH,grown->iS,has->tJ,sizeAbove->Fo,fits->NY
open PySem.SetTable.below renaming go->lE
open PySem.SetTable.probe renaming go->qh
open PySem.Shared renaming heap->Fp
open PySem.Str renaming ofString->nc
open PySem.Value renaming ref->bA,int->gY,none->iE,builtin->iJ,type->jb,bool->pA,str->vX,float->G9,isInt->Ha,notImplemented->Hb,isInt_shape->Nm,isStrOf->U6,bytes->Zr
open PySem.W renaming Frag->ak,kitOne->cF,kia_one->dt,findIn->dQ,emptyDict->eI,instObj->gz,keepIn->iX,hideAll->jJ,kla_fn->kr,methodCall_KW->kN,fnOf->lX,callWith_K->mF,excIn->nQ,plainGet->og,exmOne->qC,lookIn->qD,plainGet_of->q0,mg_of->rV,hasDictIn->tW,methodObj->tX,nsIn->tY,takerIn->vV,codeIn->xP,mroIn->Ab,cellsFrom_some->Ca,isFn->Cb,callWith_K0->Fl,hideAll_get->Fm,boot_drawn->G4,of_hideAll->G5,boot_heap->Jh,boot_toks->Ji,kitx_dict->Jj,kitx_list->Jk,plainOver->Jl,specialIn->Jm,handedIn->JQ,kla_obj->Nh,makesIn->Ni,takesIn->Nj,kitAny->NV,tabObj->NW
open PySem.W.Looks renaming here->aa6
open PySem.pickOrder renaming go->AW
open Sum renaming inl->ij,inr->vW
open True renaming intro->ko
namespace L2
open PySem PySem.Spec PyProof.Rows
abbrev Key:=Sum Int aT
def yZ:Key->ae->Bool
 | .inl k,v=>Ha k v
 | .inr x,v=>U6 x v
def adJ (w:bD):Key->Int
 | .inl k=>hashInt k
 | .inr x=>hashStr w x
theorem gt:∀ {k:Key} {v:ae},yZ k v=true->(∃ i t,k=ij i/\v=gY i t)\/(∃ x t,k=vW x/\v=vX x t)
 | .inl i,v,h=>by
  obtain⟨t,e⟩:=Nm (k:=i) (v:=v) h
  exact .inl ⟨i,t,rfl,e⟩
 | .inr x,v,h=>by
  obtain⟨t,e⟩:=Value.isStrOf_shape (x:=x) (v:=v) h
  exact .inr ⟨x,t,rfl,e⟩
theorem Ii (i:Int) (t:Nl):yZ (.inl i) (.int i t)=true:=by simp[yZ,Ha]
theorem Ij (x:aT) (t:Nl):yZ (.inr x) (.str x t)=true:=by simp[yZ,U6]
theorem Tx (a b:Int):decide ((ij a:Key)=ij b)=(a == b):=by
 by_cases e:a=b
 ·subst e;simp
 ·have h:¬ (ij a:Key)=ij b:=λq=>e (Sum.inl.inj q)
  rw[decide_eq_false h]
  exact (beq_eq_false_iff_ne.mpr e).symm
theorem TC (a b:aT):decide ((vW a:Key)=vW b)=decide (a=b):=by
 by_cases e:a=b
 ·subst e;simp
 ·have h:¬ (vW a:Key)=vW b:=λq=>e (Sum.inr.inj q)
  rw[decide_eq_false h,decide_eq_false e]
theorem Tz (a:Int) (b:aT):decide ((ij a:Key)=vW b)=false:=decide_eq_false (λq=>nomatch q)
theorem TB (a:aT) (b:Int):decide ((vW a:Key)=ij b)=false:=decide_eq_false (λq=>nomatch q)
def gu (prog:aO) (w:bD):PySem.KeyKind prog w Key where
 is:=yZ
 hash:=adJ w
 inj := λv a b ha hb=>by
  rcases gt ha with ⟨i,t,rfl,rfl⟩ | ⟨x,t,rfl,rfl⟩
  ·rcases gt hb with ⟨j,u,rfl,e⟩ | ⟨y,u,rfl,e⟩
   ·injection e with e1 _;rw[e1]
   ·exact nomatch e
  ·rcases gt hb with ⟨j,u,rfl,e⟩ | ⟨y,u,rfl,e⟩
   ·exact nomatch e
   ·injection e with e1 _;rw[e1]
 byValue:=λk v h=>by
  rcases gt h with ⟨i,t,rfl,rfl⟩ | ⟨x,t,rfl,rfl⟩ <;> rfl
 pyHash:=λhv h=>by
  rcases gt hv with ⟨i,t,rfl,rfl⟩ | ⟨x,t,rfl,rfl⟩
  ·exact wpAny_pyHash_int h
  ·exact wpAny_pyHash_str h
 eqBool:=λhu hv h=>by
  rcases gt hu with ⟨i,t,rfl,rfl⟩ | ⟨x,t,rfl,rfl⟩
  ·rcases gt hv with ⟨j,u,rfl,rfl⟩ | ⟨y,u,rfl,rfl⟩
   ·rw[Tx] at h;exact wpAny_eqBool_int h
   ·rw[Tz] at h;exact Dz i t y u _ _ _ _ h
  ·rcases gt hv with ⟨j,u,rfl,rfl⟩ | ⟨y,u,rfl,rfl⟩
   ·rw[TB] at h;exact DA x t j u _ _ _ _ h
   ·rw[TC] at h;exact wpAny_eqBool_str h
 «strs»:=λk x t v h=>by
  rcases gt h with ⟨i,u,rfl,e⟩ | ⟨y,u,rfl,e⟩
  ·exact nomatch e
  ·injection e with e1 _
   subst e1
   cases v <;> rfl
theorem CQ (prog:aO) (w:bD) (i:Int) (t:Nl):(gu prog w).is (.inl i) (.int i t)=true:=Ii i t
theorem CS (prog:aO) (w:bD) (x:aT) (t:Nl):(gu prog w).is (.inr x) (.str x t)=true:=Ij x t
inductive V where
 | e8 | bl (b:Bool) | int (i:Int) | str (x:aT) | DV (b:Array UInt8) | QC (b:UInt64) | ref (a:ah) | ty (n:String)
 deriving DecidableEq
def RelV:V->ae->Prop
 | .e8,u=>u=iE
 | .bl b,u=>u=pA b
 | .int i,u=>∃ t,u=gY i t
 | .str x,u=>∃ t,u=vX x t
 | .DV b,u=>∃ t,u=Zr b t
 | .QC b,u=>∃ t,u=G9 b t
 | .ref a,u=>u=bA a
 | .ty n,u=>u=jb n
abbrev Vals:List V->List ae->Prop:=dP RelV
theorem Vals.length {xs:List V} {us:List ae} (r:Vals xs us):xs.length=us.length:=lj r
theorem Vals.get:∀ {xs:List V} {us:List ae} {i:Nat} {x:V},Vals xs us->xs[i]?=some x->∃ u,us[i]?=some u/\RelV x u
 | _,_,_,_,.nil,e=>by simp at e
 | _,_,0,_,.cons r _,e=>by simp at e;subst e;exact⟨_,rfl,r⟩
 | _,_,i+1,x,.cons _ t,e=>by
  obtain⟨u,h1,h2⟩:=Vals.get (i:=i) (x:=x) t (by simpa using e)
  exact⟨u,by simpa using h1,h2⟩
theorem Vals.set {x:V} {u:ae} (r:RelV x u):∀ {xs:List V} {us:List ae} (i:Nat),Vals xs us->Vals (xs.set i x) (us.set i u)
 | _,_,_,.nil=>.nil
 | _,_,0,.cons _ t=>.cons r t
 | _,_,i+1,.cons q t=>.cons q (Vals.set r i t)
theorem Vals.append:∀ {xs ys:List V} {us ws:List ae},Vals xs us->Vals ys ws->Vals (xs++ys) (us++ws)
 | _,_,_,_,.nil,s=>s
 | _,_,_,_,.cons r t,s=>.cons r (Vals.append t s)
theorem Vals.take:∀ {xs:List V} {us:List ae} (n:Nat),Vals xs us->Vals (xs.take n) (us.take n)
 | _,_,0,_=>.nil
 | _,_,_+1,.nil=>.nil
 | _,_,n+1,.cons r t=>.cons r (Vals.take n t)
theorem Vals.drop:∀ {xs:List V} {us:List ae} (n:Nat),Vals xs us->Vals (xs.drop n) (us.drop n)
 | _,_,0,r=>r
 | _,_,_+1,.nil=>.nil
 | _,_,n+1,.cons _ t=>Vals.drop n t
def qE:Option V->Option ae->Prop
 | some v,some u=>RelV v u
 | none,none=>True
 | _,_=>False
def KV {κ:Type}:List (κ × V)->List (κ × ae)->Prop:=dP λ(p:κ × V) (q:κ × ae)=>p.1=q.1/\RelV p.2 q.2
def kV:Key->V
 | .inl i=>.int i
 | .inr x=>.str x
inductive HO where
  | lst (xs:List V)
  | tup (xs:List V)
  | dK (fv:List (Key × V)) | dT (fv:List (List Key × V))
  | set (S:Int->Bool) (n:Nat)
  | ins (C dx:ah) (fs:List (aT × V))
  | own (x:ah)
  | xd (fs:List (aT × V))
  | met (f x:ah)
  | oO (lo hi:Int)
  | Au (o:d6) (u:HO)
  | vo (ps:Array ae)
  | ext (φ:bT->Prop)
abbrev Hp:=ah->Option HO
def upd (H:Hp) (a:ah) (o:HO):Hp:=λb=>if b=a then some o else H b
theorem ar {H:Hp} {a:ah} {o:HO}:upd H a o a=some o:=by unfold upd;rw[if_pos rfl]
theorem bB {H:Hp} {a b:ah} {o:HO} (h:b≠a):upd H a o b=H b:=by unfold upd;rw[if_neg h]
theorem mW {H:Hp} {a:ah} {o u:HO}:upd (upd H a o) a u=upd H a u:=by
 funext b;unfold upd;split <;> rfl
theorem cr {H:Hp} {a b:ah} {o:HO} (h:H a=some o) (h':H b=none):a≠b:=by
 intro e;subst e;rw[h] at h';cases h'
section
variable (P:aO) (w:bD)
def gj (H:Hp) (h:bT) (a:ah):HO->Prop
 | .lst xs=>xs.length<=aL/\∃ (cH:List ae) (n:Nat),Vals xs cH/\h.get? a=some { cls:=.type "list",data:=.seq cH.toArray n }
 | .tup xs=>xs.length<=aL/\∃ cH:List ae,Vals xs cH/\Zh h a cH.toArray
 | .dK fv=>fv.length<=aL/\(a == oZ)=false/\∃ vs,KV fv vs/\h.DictOf (gu P w) a vs
 | .dT fv=>fv.length<=aL/\(a == oZ)=false/\∃ xs:List (List Key × ah × ae),
   dP (λ(p:List Key × V) (q:List Key × ah × ae)=>p.1=q.1/\H q.2.1=some (.tup (p.1.map kV))/\RelV p.2 q.2.2) fv xs /\
   ∃ o es ep,h.get? a=some o/\o.ExactDict/\o.data=.dict es ep/\es.toList=xs.map (entryOfKey (NF (gu P w)))/\(xs.map (·.1)).Nodup
 | .set S n=>h.SetOf (kP P w) a S n
 | .ins C dx fs=>H dx=some (.own a)/\fs.length<=1000/\dx≠a/\h.get? a=some (gz C dx) /\
   ∃ mA,h.Ns1 dx mA/\(∀ f,qE (fs.lookup f) (mA f))/\DR mA (fs.map (·.1))
 | .own _=>∃ o,h.get? a=some o
 | .xd fs=>∃ mA,h.Ns1 a mA/\∀ f,qE (fs.lookup f) (mA f)
 | .oO lo hi=>∃ t u v,h.get? a=some { cls:=.type "range",data:=.fields #[.int lo t,.int hi u,.int 1 v] }
 | .Au o u=>h.get? a=some o/\gj H h a u
 | .vo ps=>h.get? a=some { cls:=.none,data:=.fields ps }
 | .met f x=>h.get? a=some (tX (.ref f) (.ref x))
 | .ext φ=>φ h/\(∃ o,h.get? a=some o)/\∀ h1 h2:bT,φ h1->(∀ o,h1.get? a=some o->h2.get? a=some o)->φ h2
def o5 (H:Hp) (h:bT):Prop:=∀ a o,H a=some o->gj P w H h a o
end
section
variable {P:aO} {w:bD} {H H':Hp} {h h':bT} {a:ah} {o:HO}
theorem gj.lt (x:gj P w H h a o):a<h.objs.size:=by
 cases o with
 | lst xs=>obtain⟨_,_,_,_,e⟩:=x;exact aD e
 | tup xs=>obtain⟨_,_,_,p⟩:=x;exact p.lt
 | dK fv=>obtain⟨_,_,_,_,o,_,_,e,_⟩:=x;exact aD e
 | dT fv=>obtain⟨_,_,_,_,o,_,_,e,_⟩:=x;exact aD e
 | set S n=>obtain⟨o,_,_,_,e,_⟩:=x;exact aD e
 | ins C dx fs=>obtain⟨_,_,_,e,_⟩:=x;exact aD e
 | own y=>obtain⟨_,e⟩:=x;exact aD e
 | xd fs=>obtain⟨_,⟨_,_,_,e,_⟩,_⟩:=x;exact aD e
 | oO lo hi=>obtain⟨_,_,_,e⟩:=x;exact aD e
 | Au ob u=>obtain⟨e,_⟩:=x;exact aD e
 | vo ps=>exact aD (show h.get? a=some _ from x)
 | met f y=>exact aD (show h.get? a=some _ from x)
 | ext φ=>obtain⟨_,⟨_,e⟩,_⟩:=x;exact aD e
theorem Paired.TJ {α β:Type} {F G:α->β->Prop}:∀ {l₁:List α} {l₂:List β},dP F l₁ l₂->(∀ a b,F a b->G a b)->dP G l₁ l₂
 | _,_,.nil,_=>.nil
 | _,_,.cons r t,f=>.cons (f _ _ r) (Paired.TJ t f)
theorem gj.xg (x:gj P w H h a o) (k:∀ b u,(b=a\/H b=some (.own a))->h.get? b=some u->h'.get? b=some u)
  (ho:∀ b,H b=some (.own a)->H' b=some (.own a)) (ht:∀ b xs,H b=some (.tup xs)->H' b=some (.tup xs)):gj P w H' h' a o:=by
 induction o with
 | lst xs=>obtain⟨z,cH,n,r,e⟩:=x;exact⟨z,cH,n,r,k _ _ (.inl rfl) e⟩
 | tup xs=>obtain⟨z,cH,r,ob,e,c⟩:=x;exact⟨z,cH,r,ob,k _ _ (.inl rfl) e,c⟩
 | dK fv=>obtain⟨z,y,vs,r,ob,es,ep,e,c⟩:=x;exact⟨z,y,vs,r,ob,es,ep,k _ _ (.inl rfl) e,c⟩
 | dT fv =>
  obtain⟨z,y,xs,r,ob,es,ep,e,c⟩:=x
  exact⟨z,y,xs,Paired.TJ r λp q z=>⟨z.1,ht _ _ z.2.1,z.2.2⟩,ob,es,ep,k _ _ (.inl rfl) e,c⟩
 | set S n=>obtain⟨ob,es,ep,t,e,c⟩:=x;exact⟨ob,es,ep,t,k _ _ (.inl rfl) e,c⟩
 | ins C dx fs =>
  obtain⟨d,z,ne,e,mA,⟨od,es,ep,e2,c⟩,r⟩:=x
  exact⟨ho _ d,z,ne,k _ _ (.inl rfl) e,mA,⟨od,es,ep,k _ _ (.inr d) e2,c⟩,r⟩
 | own y=>obtain⟨ob,e⟩:=x;exact⟨ob,k _ _ (.inl rfl) e⟩
 | xd fs=>obtain⟨mA,⟨od,es,ep,e,c⟩,r⟩:=x;exact⟨mA,⟨od,es,ep,k _ _ (.inl rfl) e,c⟩,r⟩
 | oO lo hi=>obtain⟨t,u,v,e⟩:=x;exact⟨t,u,v,k _ _ (.inl rfl) e⟩
 | Au ob u ih=>obtain⟨e,q⟩:=x;exact⟨k _ _ (.inl rfl) e,ih q⟩
 | vo ps =>
  have e:h.get? a=some { cls:=.none,data:=.fields ps }:=x
  show h'.get? a=some { cls:=.none,data:=.fields ps }
  exact k a _ (.inl rfl) e
 | met f y =>
  have e:h.get? a=some (tX (.ref f) (.ref y)):=x
  show h'.get? a=some (tX (.ref f) (.ref y))
  exact k a _ (.inl rfl) e
 | ext φ=>obtain⟨p,⟨o,e⟩,st⟩:=x;exact⟨st _ _ p λo q=>k _ _ (.inl rfl) q,⟨o,k _ _ (.inl rfl) e⟩,st⟩
theorem o5.lt (x:o5 P w H h) (e:H a=some o):a<h.objs.size:=(x a o e).lt
theorem o5.fresh (x:o5 P w H h) (e:h.objs.size<=a):H a=none:=by
 cases q:H a with
 | none=>rfl
 | some u=>exact absurd (b8 (x.lt q) e) (jU _)
theorem o5.kept (x:o5 P w H h) (k:∀ b u,h.get? b=some u->h'.get? b=some u):o5 P w H h':=λa o e =>
 (x a o e).xg (λb u _ q=>k b u q) (λ_ q=>q) λ_ _ q=>q
theorem o5.laid (x:o5 P w H h) (k:∀ b u,h.get? b=some u->h'.get? b=some u) (hp:h.objs.size<=a) (new:gj P w (upd H a o) h' a o):o5 P w (upd H a o) h':=λb u e=>by
 have hn:=x.fresh hp
 by_cases hb:b=a
 ·subst hb;rw[ar] at e;cases e;exact new
 ·rw[bB hb] at e
  exact (x b u e).xg (λc v _ q=>k c v q) (λc q=>by rw[bB (cr q hn)];exact q) λc xs q=>by rw[bB (cr q hn)];exact q
end
def Rd (H:Hp) (a:ah) (u:HO):Prop:=H a=some u\/∃ o,H a=some (.Au o u)
theorem Rd.ok {P:aO} {w:bD} {H:Hp} {h:bT} {a:ah} {u:HO} (r:Rd H a u) (x:o5 P w H h):gj P w H h a u:=by
 rcases r with r | ⟨o,r⟩
 ·exact x a u r
 ·obtain⟨_,q⟩:=x a _ r
  exact q
def Zk:Option HO->Prop
 | some (.lst _)=>True
 | some (.dK _)=>True
 | some (.dT _)=>True
 | some (.set _ _)=>True
 | some (.ins _ _ _)=>True
 | some (.ext _)=>True
 | _=>False
section
variable {P:aO} {w:bD} {H:Hp} {h h':bT} {x e:ah} {o':HO}
theorem o5.write (ok:o5 P w H h) (mu:Zk (H x)) (he:e=x\/H e=some (.own x)) (k:∀ b u,b≠e->h.get? b=some u->h'.get? b=some u) (Vb:∃ u,h'.get? e=some u)
  (new:gj P w (upd H x o') h' x o'):o5 P w (upd H x o') h':=λb u q=>by
 have XS:∀ c y,H c=some (.own y)->c≠x:=λc y r z=>by subst z;rw[r] at mu;exact mu
 have ad1:∀ c xs,H c=some (.tup xs)->c≠x:=λc xs r z=>by subst z;rw[r] at mu;exact mu
 by_cases hb:b=x
 ·subst hb;rw[ar] at q;cases q;exact new
 ·rw[bB hb] at q
  by_cases Nq:b=e
  ·have q':H b=some (.own x):=by
    rcases he with z | z
    ·exact absurd (Nq.trans z) hb
    ·rw[Nq];exact z
   rw[q] at q';cases q'
   obtain⟨v,hv⟩:=Vb
   exact⟨v,by rw[Nq];exact hv⟩
  ·refine (ok b u q).xg (λc v hc r=>k c v ?_ r) (λc r=>by rw[bB (XS c b r)];exact r) λc xs r=>by rw[bB (ad1 c xs r)];exact r
   rcases hc with rfl | hc
   ·exact Nq
   ·rintro rfl
    rcases he with z | z
    ·exact XS c b hc z
    ·rw[hc] at z;cases z;exact hb rfl
end
structure Un (fs ex:List ah) (H H':Hp) (h h':bT):Prop where
 keep:∀ b o,h.get? b=some o->H b=none->b ∉ fs->b ∉ ex->h'.get? b=some o
 slot:∀ b o,h.get? b=some o->H b=none->b∈fs->b ∉ ex->∃ sl,h'.get? b=some { o with slots:=sl }
 free:∀ b o,h.get? b=some o->H b=none->b ∉ ex->H' b=none
 there:∀ b o,h.get? b=some o->b ∉ ex->∃ o',h'.get? b=some o'
 tu:∀ b xs,H b=some (.tup xs)->H' b=some (.tup xs)
 rq:∀ b o u,H b=some (.Au o u)->H' b=some (.Au o u)
 rL:∀ b ps,H b=some (.vo ps)->∃ more,H' b=some (.vo (ps++more))
section
variable {fs U8 ex ex':List ah} {H H1 H2:Hp} {h h1 h2 h':bT} {a x e:ah} {o:HO}
theorem Un.any (u:Un fs ex H H1 h h1) {b:ah} {ob:d6} (q:h.get? b=some ob) (n:H b=none) (hx:b ∉ ex):∃ sl,h1.get? b=some { ob with slots:=sl }:=by
 by_cases hb:b∈fs
 ·exact u.slot b ob q n hb hx
 ·exact⟨ob.slots,u.keep b ob q n hb hx⟩
theorem Un.kept (k:∀ b u,h.get? b=some u->h'.get? b=some u):Un fs ex H H h h' :=
 ⟨λb ob q _ _ _=>k b ob q,λb ob q _ _ _=>⟨ob.slots,k b ob q⟩,λ_ _ _ n _=>n,λb ob q _=>⟨ob,k b ob q⟩,λ_ _ q=>q,λ_ _ _ q=>q,λ_ ps q=>⟨#[],by rw[q];simp⟩⟩
theorem Un.refl:Un fs ex H H h h:=Un.kept λ_ _ q=>q
theorem Un.laid (k:∀ b u,h.get? b=some u->h'.get? b=some u) (hp:h.objs.size<=a) (hn:H a=none):Un fs ex H (upd H a o) h h' where
 keep:=λb u q _ _ _=>k b u q
 slot:=λb u q _ _ _=>⟨u.slots,k b u q⟩
 free:=λb u q n _=>by rw[bB (aR (b8 (aD q) hp))];exact n
 there:=λb u q _=>⟨u,k b u q⟩
 tu:=λb xs q=>by rw[bB (cr q hn)];exact q
 rq:=λb u xs q=>by rw[bB (cr q hn)];exact q
 rL:=λb ps q=>⟨#[],by rw[bB (cr q hn),q];simp⟩
theorem Un.write (mu:Zk (H x)) (he:e=x\/H e=some (.own x)) (k:∀ b u,b≠e->h.get? b=some u->h'.get? b=some u) (Vb:∃ u,h'.get? e=some u):Un fs ex H (upd H x o) h h':=by
 have hx:∀ b,H b=none->b≠x:=λb n z=>by subst z;rw[n] at mu;exact mu
 have hb:∀ b,H b=none->b≠e:=λb n z=>by
  subst z
  rcases he with r | r
  ·exact hx b n r
  ·rw[n] at r;cases r
 have hm:∀ b u,H b=some u->¬ Zk (some u)->b≠x:=λb u q nm z=>by subst z;rw[q] at mu;exact nm mu
 refine⟨λb u q n _ _=>k b u (hb b n) q,λb u q n _ _=>⟨u.slots,k b u (hb b n) q⟩,λb u q n _=>by rw[bB (hx b n)];exact n,λb u q _=>?_,
  λb xs q=>by rw[bB (hm b _ q λz=>z)];exact q,λb u xs q=>by rw[bB (hm b _ q λz=>z)];exact q,λb ps q=>⟨#[],by rw[bB (hm b _ q λz=>z),q];simp⟩⟩
 by_cases Nq:b=e
 ·subst Nq;exact Vb
 ·exact⟨u,k b u Nq q⟩
end
def UK (h:bT) (H:Hp):List ah:=(bO h.objs.size).filter λa=>(H a).isSome
def Ax (h:bT) (H:Hp):bT:=jJ h (UK h H)
theorem HV (h:bT) (H:Hp):(Ax h H).objs.size=h.objs.size:=PySem.W.hideAll_size _ _
theorem Kz {h:bT} {H:Hp} {b:ah} {o:d6} (e:h.get? b=some o) (n:H b=none):(Ax h H).get? b=some o :=
 Fm _ e λhm=>by
  have q:(H b).isSome=true:=(bF.mp hm).2
  rw[n] at q;simp at q
theorem OV {h:bT} {H:Hp} {b:ah} {o:d6} (e:(Ax h H).get? b=some o):h.get? b=some o/\H b=none:=by
 have e':h.get? b=some o:=G5 (UK h H) e
 refine⟨e',?_⟩
 cases q:H b with
 | none=>rfl
 | some x =>
  have hm:b∈UK h H:=bF.mpr ⟨d8.mpr (aD e'),by simp[q]⟩
  have z:(Ax h H).get? b=none:=PySem.W.hideAll_none (UK h H) hm
  rw[z] at e;cases e
structure Mod (K:ak) (mg:aT->Option ae) (base:bT):Prop where
 NB:K.In base
 glob:base.Ns bf mg
 blt:∃ mb,base.Ns kT mb/\∀ x:aT,x ≠ "__name__" -> mb x=lF x
 nolimit:base.NoLimit
structure Cx where
 prog:aO
 w:bD
 K:ak
 mg:aT->Option ae
 base:bT
 A:bp
 N:List aT
 s₀:ai
 H₀:Hp
 env:qA
 outer:List qA
 stack:List qA
 ex:List ah
 fn:aT->Bool
 calm:Bool
 pn:List (ah × d6)
 xe:ae->ai->Prop
def qO (l:List qA):List ah:=l.filterMap (·.frame)
abbrev Cx.fs (X:Cx):List ah:=qO X.outer
def Vis (sc:ek) (x:aT):Prop:=sc.names.lookup x=some .local\/sc.names.lookup x=some .cell\/sc.names.lookup x=some .free
def Loc (sc:ek) (x:aT):Prop:=sc.names.lookup x=some .local\/sc.names.lookup x=some .cell
def a0L (env:qA) (h:bT) (m:aT->Option ae) (x:aT) (u:ae):Prop :=
 (env.kindOf x=some .local/\m x=some u)\/((env.kindOf x=some .cell\/env.kindOf x=some .free)/\∃ c,env.cells.lookup x=some c/\h.IsCell c (some u))
structure Cx.Ok (X:Cx):Prop where
 mod:Mod X.K X.mg X.base
 kind:X.env.scope.kind=.function
 glob:X.env.globals=bf
 blt:X.env.builtins=kT
 above:X.s₀.heap.objs.size<=X.env.locals
 inj:∀ x y c,X.env.cells.lookup x=some c->X.env.cells.lookup y=some c->x=y
 has:∀ x,(X.env.kindOf x=some .cell\/X.env.kindOf x=some .free)->∃ c,X.env.cells.lookup x=some c
 R1:∀ x c,X.fn x=true->X.env.cells.lookup x=some c->X.s₀.heap.objs.size<=c
 hd:X.calm=true->X.A.handled=none
 frames:X.A.frames=some X.stack
 Uw:X.stack=X.outer\/(X.stack=X.env::X.outer/\X.env.frame=some X.env.locals)
 Zs:∀ b∈X.ex,b≠X.env.locals/\∀ x c,X.env.cells.lookup x=some c->c≠b
 bs:∀ b o,X.base.get? b=some o->X.s₀.heap.get? b=some o/\X.H₀ b=none
 Jo:X.base.objs.size<=X.s₀.heap.objs.size
 mH:∀ b o,X.base.get? b=some o->b ∉ X.ex
 HK:∀ b∈X.ex,b ∉ X.fs
 pF:X.s₀.heap.FunFrames X.base X.outer
 Ki:∀ b∈X.fs,X.H₀ b=none
structure Inv (X:Cx) (pins:List (ah × d6)) (σ:List (Option V)) (H:Hp) (s:ai):Prop where
 ok:X.Ok
 os:s.os=X.s₀.os
 bare:n5 s.gens
 base:Un X.fs X.ex X.H₀ H X.s₀.heap s.heap
 loc:∃ m,s.heap.Ns X.env.locals m/\∀ (i:Nat) (x:aT) (v:V),X.N[i]?=some x->σ[i]?=some (some v)->Vis X.env.scope x->∃ u,RelV v u/\a0L X.env s.heap m x u
 cell:∀ x c,X.env.cells.lookup x=some c->∃ v,s.heap.IsCell c v
 free:H X.env.locals=none
 lZ:∀ x c,X.env.cells.lookup x=some c->H c=none
 pin:∀ p∈X.pn++pins,s.heap.get? p.1=some p.2/\H p.1=none/\p.1≠X.env.locals/\p.1 ∉ X.fs/\∀ v,p.2.data≠.cell v
 cU:o5 X.prog X.w H s.heap
 len:σ.length=X.N.length
section
variable {X:Cx} {pins:List (ah × d6)} {σ:List (Option V)} {H H':Hp} {s:ai} {h':bT}
theorem Cx.Ok.adX (ok:X.Ok) {b:ah} {o:d6} (e:X.base.get? b=some o):b ∉ X.fs:=λhb=>by
 have:=(ok.pF.mem hb).1
 rw[e] at this;cases this
theorem Inv.bs (I:Inv X pins σ H s):∀ b o,X.base.get? b=some o->s.heap.get? b=some o/\H b=none:=λb o e =>
 ⟨I.base.keep b o (I.ok.bs b o e).1 (I.ok.bs b o e).2 (I.ok.adX e) (I.ok.mH b o e),I.base.free b o (I.ok.bs b o e).1 (I.ok.bs b o e).2 (I.ok.mH b o e)⟩
theorem Inv.bk (I:Inv X pins σ H s):∀ b o,X.base.get? b=some o->s.heap.get? b=some o:=λb o e=>(I.bs b o e).1
theorem Inv.mod (I:Inv X pins σ H s):Mod X.K X.mg X.base:=I.ok.mod
theorem Inv.qQ (I:Inv X pins σ H s):X.K.In s.heap:=I.ok.mod.NB.keeps I.bk
theorem Inv.lt (I:Inv X pins σ H s):X.env.locals<s.heap.objs.size:=let ⟨_,hn,_⟩:=I.loc;hn.lt
theorem Inv.sz (I:Inv X pins σ H s):X.s₀.heap.objs.size<=s.heap.objs.size:=cq I.ok.above (kS I.lt)
theorem Inv.OT (I:Inv X pins σ H s) {a:ah} (h:s.heap.objs.size<=a):a ∉ X.fs:=λhb=>by
 obtain⟨_,o,ho,_⟩:=I.ok.pF.mem hb
 exact absurd (b8 (aD ho) (cq I.sz h)) (jU _)
theorem Inv.N6 (I:Inv X pins σ H s):∀ x c,X.env.cells.lookup x=some c->c≠X.env.locals:=λx c e z=>by
 obtain⟨v,o,ho,hd⟩:=I.cell x c e
 obtain⟨m,⟨o',es,ep,ug,Wq,_⟩,_⟩:=I.loc
 rw[z,ug] at ho;cases ho;rw[Wq] at hd;cases hd
theorem Inv.pF (I:Inv X pins σ H s):s.heap.FunFrames X.base X.outer:=by
 have all:∀ (l:List qA),(∀ b∈qO l,b∈X.fs)->X.s₀.heap.FunFrames X.base l->s.heap.FunFrames X.base l:=by
  intro l
  induction l with
  | nil=>intro _ _;trivial
  | cons env r ih =>
   intro hs hl
   obtain⟨hk,⟨L,o,hf,hn,ho,hd⟩,hr⟩:=hl
   have hL:L∈X.fs:=hs L (by unfold qO;rw[gX,hf];exact aP)
   obtain⟨sl,e⟩:=I.base.slot L o ho (I.ok.Ki L hL) hL λz=>I.ok.HK L z hL
   exact⟨hk,⟨L,_,hf,hn,e,hd⟩,ih (λb hb=>hs b (by unfold qO;rw[gX,hf];exact bc _ hb)) hr⟩
 exact all X.outer (λ_ hb=>hb) I.ok.pF
theorem Inv.stack (I:Inv X pins σ H s):s.heap.FunFrames X.base X.stack:=by
 rcases I.ok.Uw with e | ⟨e,hf⟩
 ·rw[e];exact I.pF
 ·rw[e]
  obtain⟨m,hn,_⟩:=I.loc
  refine .cons (by rw[I.ok.kind];decide) hf hn ?_ I.pF
  exact eC (cq I.ok.Jo I.ok.above)
theorem Inv.xi (I:Inv X pins σ H s):∀ b∈qO X.stack,b∈X.env.locals::X.fs:=λb hb=>by
 rcases I.ok.Uw with e | ⟨e,hf⟩
 ·rw[e] at hb;exact bc _ hb
 ·rw[e] at hb
  unfold qO at hb
  rw[gX,hf] at hb
  exact hb
theorem Inv.Bv (I:Inv X pins σ H s):∀ b∈qO X.stack,H b=none:=λb hb=>by
 rcases aE.mp (I.xi b hb) with e | hb
 ·rw[e];exact I.free
 ·obtain⟨_,o,ho,_⟩:=I.ok.pF.mem hb
  exact I.base.free b o ho (I.ok.Ki b hb) λz=>I.ok.HK b z hb
theorem Inv.step {g':Array G2} {t':Nat} {d':M9} {ch:List ah} (I:Inv X pins σ H s)
  (Nt:∀ b∈ch,(b∈X.ex\/X.s₀.heap.objs.size<=b)/\b≠X.env.locals/\(∀ x c,X.env.cells.lookup x=some c->c≠b)/\∀ p∈X.pn++pins,p.1≠b)
  (keep:∀ b o,b≠X.env.locals->b ∉ X.fs->b ∉ ch->s.heap.get? b=some o->H b=none->h'.get? b=some o)
  (slot:∀ b o,b≠X.env.locals->b∈X.fs->b ∉ ch->s.heap.get? b=some o->H b=none->∃ sl,h'.get? b=some { o with slots:=sl }) (free:∀ b o,b ∉ ch->s.heap.get? b=some o->H b=none->H' b=none)
  (there:∀ b o,b ∉ ch->s.heap.get? b=some o->∃ o',h'.get? b=some o')
  (tu:∀ b xs,H b=some (.tup xs)->H' b=some (.tup xs)) (rq:∀ b o u,H b=some (.Au o u)->H' b=some (.Au o u)) (rL:∀ b ps,H b=some (.vo ps)->∃ more,H' b=some (.vo (ps++more)))
  (ns:∀ m,s.heap.Ns X.env.locals m->h'.Ns X.env.locals m) (cU:o5 X.prog X.w H' h') (hg:n5 g') :
  Inv X pins σ H' { s with heap:=h',gens:=g',drawn:=d',toks:=t' }:=by
 have Vm:∀ b o,X.s₀.heap.get? b=some o->b≠X.env.locals:=λb o e=>aR (b8 (aD e) I.ok.above)
 have neC:∀ b o,X.s₀.heap.get? b=some o->b ∉ X.ex->b ∉ ch:=λb o e hx hb=>by
  rcases (Nt b hb).1 with z | z
  ·exact hx z
  ·exact absurd (b8 (aD e) z) (jU _)
 have cellK:∀ x c,X.env.cells.lookup x=some c->∀ v,s.heap.IsCell c v->h'.IsCell c v:=λx c e v ⟨o,ho,hd⟩=>by
  have XM:c ∉ ch:=λz=>(Nt c z).2.2.1 x c e rfl
  by_cases hc:c∈X.fs
  ·obtain⟨sl,q⟩:=slot c o (I.N6 x c e) hc XM ho (I.lZ x c e)
   exact⟨_,q,hd⟩
  ·exact⟨o,keep c o (I.N6 x c e) hc XM ho (I.lZ x c e),hd⟩
 refine⟨I.ok,I.os,hg,⟨λb o e n hb hx=>?_,λb o e n hb hx=>?_,λb o e n hx=>?_,λb o e hx=>?_,λb xs e=>tu b xs (I.base.tu b xs e),λb o xs e=>rq b o xs (I.base.rq b o xs e),λb ps e=>?_⟩,?_,λx c e=>?_,?_,λx c e=>?_,λp hp=>?_,cU,I.len⟩
 ·exact keep b o (Vm b o e) hb (neC b o e hx) (I.base.keep b o e n hb hx) (I.base.free b o e n hx)
 ·obtain⟨sl,e1⟩:=I.base.slot b o e n hb hx
  obtain⟨sl',e2⟩:=slot b _ (Vm b o e) hb (neC b o e hx) e1 (I.base.free b o e n hx)
  exact⟨sl',e2⟩
 ·obtain⟨o',e1⟩:=I.base.there b o e hx
  exact free b o' (neC b o e hx) e1 (I.base.free b o e n hx)
 ·obtain⟨o',e1⟩:=I.base.there b o e hx
  exact there b o' (neC b o e hx) e1
 ·obtain⟨m1,e1⟩:=I.base.rL b ps e
  obtain⟨m2,e2⟩:=rL b _ e1
  exact⟨m1++m2,by rw[e2,JE]⟩
 ·obtain⟨m,hn,hl⟩:=I.loc
  refine⟨m,ns m hn,λi x v e1 e2 e3=>?_⟩
  obtain⟨u,r,l⟩:=hl i x v e1 e2 e3
  refine⟨u,r,?_⟩
  rcases l with l | ⟨k,c,e,z⟩
  ·exact .inl l
  ·exact .inr ⟨k,c,e,cellK x c e _ z⟩
 ·obtain⟨v,z⟩:=I.cell x c e
  exact⟨v,cellK x c e v z⟩
 ·obtain⟨m,⟨o,_,_,ho,_⟩,_⟩:=I.loc
  exact free _ o (λz=>(Nt _ z).2.1 rfl) ho I.free
 ·obtain⟨v,o,ho,hd⟩:=I.cell x c e
  exact free c o (λz=>(Nt c z).2.2.1 x c e rfl) ho (I.lZ x c e)
 ·obtain⟨e,n,ne,nf,d⟩:=I.pin p hp
  have XM:p.1 ∉ ch:=λz=>(Nt p.1 z).2.2.2 p hp rfl
  exact⟨keep p.1 p.2 ne nf XM e n,free p.1 p.2 XM e n,ne,nf,d⟩
theorem Inv.un {t':Nat} (I:Inv X pins σ H s) (u:Un X.fs [] H H' s.heap h') (cU:o5 X.prog X.w H' h'):Inv X pins σ H' { s with heap:=h',toks:=t' }:=by
 obtain⟨m,⟨o,es,ep,ho,r⟩,_⟩:=id I.loc
 obtain⟨sl,hL⟩:=u.any ho I.free (by simp)
 exact I.step (g':=s.gens) (d':=s.drawn) (ch:=[]) (λ_ z=>nomatch z) (λb o _ hb _ e n=>u.keep b o e n hb (by simp)) (λb o _ hb _ e n=>u.slot b o e n hb (by simp)) (λb o _ e n=>u.free b o e n (by simp)) (λb o _ e=>u.there b o e (by simp)) u.tu u.rq u.rL (λm' hm=>by
  obtain⟨o',es',ep',ug,r'⟩:=hm
  rw[ho] at ug;cases ug
  exact⟨_,es',ep',hL,r'⟩) cU I.bare
theorem Inv.call {g':Array G2} {t':Nat} {d':M9} {ch:List ah} (I:Inv X pins σ H s) (u:Un (qO X.stack) ch H H' s.heap h') (cU:o5 X.prog X.w H' h') (hg:n5 g')
  (Nt:∀ b∈ch,(b∈X.ex\/X.s₀.heap.objs.size<=b)/\b≠X.env.locals/\(∀ x c,X.env.cells.lookup x=some c->c≠b)/\∀ p∈X.pn++pins,p.1≠b) :
  Inv X pins σ H' { s with heap:=h',gens:=g',drawn:=d',toks:=t' }:=by
 obtain⟨m,⟨o,es,ep,ho,r⟩,_⟩:=id I.loc
 obtain⟨sl,hL⟩:=u.any ho I.free λz=>(Nt _ z).2.1 rfl
 exact I.step (ch:=ch) Nt (λb o hL hb hc e n=>u.keep b o e n (λz=>(aE.mp (I.xi b z)).elim hL hb) hc) (λb o _ _ hc e n=>u.any e n hc) (λb o hc e n=>u.free b o e n hc) (λb o hc e=>u.there b o e hc) u.tu u.rq u.rL (λm' hm=>by
  obtain⟨o',es',ep',ug,r'⟩:=hm
  rw[ho] at ug;cases ug
  exact⟨_,es',ep',hL,r'⟩) cU hg
theorem Inv.turned {t':Nat} {it:ah} (I:Inv X pins σ H s) (k:∀ b o,b≠it->s.heap.get? b=some o->h'.get? b=some o) (hn:H it=none) (hL:it≠X.env.locals)
  (h1:it∈X.ex\/X.s₀.heap.objs.size<=it) (h2:∀ x c,X.env.cells.lookup x=some c->c≠it) (h3:∀ p∈X.pn++pins,p.1≠it):Inv X pins σ H { s with heap:=h',toks:=t' }:=by
 have XN:∀ b u,H b=some u->b≠it:=λb u e z=>by rw[z,hn] at e;cases e
 refine I.step (g':=s.gens) (d':=s.drawn) (ch:=[it]) (λb hb=>?_) (λb o _ _ hc e _=>k b o (λz=>hc (by simp[z])) e) (λb o _ _ hc e _=>⟨o.slots,k b o (λz=>hc (by simp[z])) e⟩) (λ_ _ _ _ n=>n)
  (λb o hc e=>⟨o,k b o (λz=>hc (by simp[z])) e⟩) (λ_ _ e=>e) (λ_ _ _ e=>e) (λb ps e=>⟨#[],by rw[e];simp⟩) (λm hm=>?_) (λb u e=>?_) I.bare
 ·have e:b=it:=by simpa using hb
  subst e
  exact⟨h1,hL,h2,h3⟩
 ·obtain⟨o,es,ep,ho,r⟩:=hm
  exact⟨o,es,ep,k _ o (cS hL) ho,r⟩
 ·refine (I.cU b u e).xg (λc v hc q=>k c v ?_ q) (λ_ q=>q) λ_ _ q=>q
  rcases hc with z | z
  ·rw[z];exact XN b u e
  ·exact XN c _ z
theorem Inv.tok (I:Inv X pins σ H s) (t:Nat):Inv X pins σ H { s with toks:=t }:=I.un (h':=s.heap) (t':=t) Un.refl I.cU
theorem Inv.kept {t':Nat} (I:Inv X pins σ H s) (k:∀ b u,s.heap.get? b=some u->h'.get? b=some u):Inv X pins σ H { s with heap:=h',toks:=t' }:=I.un (Un.kept k) (I.cU.kept k)
theorem Inv.laid {a:ah} {o:HO} {t':Nat} (I:Inv X pins σ H s) (k:∀ b u,s.heap.get? b=some u->h'.get? b=some u) (hp:s.heap.objs.size<=a) (new:gj X.prog X.w (upd H a o) h' a o) :
  Inv X pins σ (upd H a o) { s with heap:=h',toks:=t' }:=I.un (Un.laid k hp (I.cU.fresh hp)) (I.cU.laid k hp new)
theorem Inv.write {x e:ah} {o:HO} {t':Nat} (I:Inv X pins σ H s) (mu:Zk (H x)) (he:e=x\/H e=some (.own x)) (k:∀ b u,b≠e->s.heap.get? b=some u->h'.get? b=some u) (Vb:∃ u,h'.get? e=some u)
  (new:gj X.prog X.w (upd H x o) h' x o):Inv X pins σ (upd H x o) { s with heap:=h',toks:=t' }:=I.un (Un.write mu he k Vb) (I.cU.write mu he k Vb new)
theorem Inv.weak {σ':List (Option V)} (I:Inv X pins σ H s) (hl:σ'.length=σ.length) (w:∀ (i:Nat) v,σ'[i]?=some (some v)->σ[i]?=some (some v)):Inv X pins σ' H s :=
 ⟨I.ok,I.os,I.bare,I.base,let ⟨m,hn,Nv⟩:=I.loc;⟨m,hn,λi x v e1 e2 e3=>Nv i x v e1 (w i v e2) e3⟩,I.cell,I.free,I.lZ,I.pin,I.cU,hl.trans I.len⟩
theorem Inv.mT {lC:List (ah × d6)} (I:Inv X pins σ H s) (h:∀ p∈lC,s.heap.get? p.1=some p.2/\H p.1=none/\p.1≠X.env.locals/\p.1 ∉ X.fs/\∀ v,p.2.data≠.cell v):Inv X lC σ H s :=
 ⟨I.ok,I.os,I.bare,I.base,I.loc,I.cell,I.free,I.lZ,λp hp=>(bo.mp hp).elim (λz=>I.pin p (ck _ z)) (h p),I.cU,I.len⟩
theorem wA {N:List aT} (hN:N.Nodup) {i j:Nat} {x:aT} (a:N[i]?=some x) (b:N[j]?=some x):i=j:=by
 obtain⟨h1,e1⟩:=ag.mp a
 obtain⟨h2,e2⟩:=ag.mp b
 exact (Qq hN).mp (e1.trans e2.symm)
theorem zp {M:tH} {A:bp} {E:ae->ai->Prop} {i:Nat} {x:aT} {v:V} {u:ae} {Q:Unit->ai->Prop} (I:Inv X pins σ H s) (hN:X.N.Nodup) (hi:X.N[i]?=some x) (hx:Loc X.env.scope x) (r:RelV v u)
  (h:∀ s',Inv X pins (σ.set i (some v)) H s'->(∃ a,fR a s.heap s'.heap/\(a=X.env.locals\/X.env.cells.lookup x=some a))->Q () s') (hf:X.fn x=true\/X.env.scope.names.lookup x=some .local:=by first | exact .inl rfl | exact .inr rfl | assumption):wpAny M A (storeName X.env x u) Q E s:=by
 obtain⟨m,hn,hl⟩:=id I.loc
 have abX:(X.env.scope.kind == .class || (X.env.scope.kind == .module && X.env.locals != X.env.globals))=false:=by rw[I.ok.kind];rfl
 have hiσ:i<σ.length:=by rw[I.len];exact (ag.mp hi).1
 have N6:=I.N6
 have tracked:∀ {a:ah} {h':bT},(∃ o,s.heap.get? a=some o/\H a=none)->fR a s.heap h'->o5 X.prog X.w H h':=λ{a h'} ha hs b ob e=>by
  obtain⟨_,_,wm⟩:=ha
  refine (I.cU b ob e).xg (λc w' hc q=>(hs.2 c ?_).trans q) (λ_ q=>q) λ_ _ q=>q
  rintro rfl
  rcases hc with rfl | hc
  ·rw[wm] at e;cases e
  ·rw[wm] at hc;cases hc
 rcases hx with hk | hk
 ·refine wpAny_storeName_local hk hn (λh' WV hs=>?_) abX
  obtain⟨oL,_,_,Vf,_⟩:=id hn
  refine h _ ⟨I.ok,I.os,I.bare,⟨λb o e n hb hx=>?_,λb o e n hb hx=>?_,I.base.free,λb o e hx=>?_,I.base.tu,I.base.rq,I.base.rL⟩,⟨_,WV,λj y v' e1 e2 e3=>?_⟩,λy c e=>?_,I.free,I.lZ,λp hp=>?_,tracked ⟨oL,Vf,I.free⟩ hs,by simpa using I.len⟩ ⟨_,hs,.inl rfl⟩
  ·exact (hs.2 b (aR (b8 (aD e) I.ok.above))).trans (I.base.keep b o e n hb hx)
  ·obtain⟨sl,e1⟩:=I.base.slot b o e n hb hx
   exact⟨sl,(hs.2 b (aR (b8 (aD e) I.ok.above))).trans e1⟩
  ·obtain⟨o',e1⟩:=I.base.there b o e hx
   exact⟨o',(hs.2 b (aR (b8 (aD e) I.ok.above))).trans e1⟩
  ·by_cases hj:j=i
   ·subst hj
    rw[hi] at e1;cases e1
    rw[cX hiσ] at e2
    cases e2
    exact⟨u,r,.inl ⟨hk,by simp⟩⟩
   ·rw[cW (cS hj)] at e2
    obtain⟨u',r',q⟩:=hl j y v' e1 e2 e3
    refine⟨u',r',?_⟩
    rcases q with ⟨k,e⟩ | ⟨k,c,e,z⟩
    ·refine .inl ⟨k,?_⟩
     have:y≠x:=λe=>hj (wA hN e1 (e ▸ hi))
     simp[this,e]
    ·exact .inr ⟨k,c,e,z.sameBut hs (N6 y c e)⟩
  ·obtain⟨w',z⟩:=I.cell y c e
   exact⟨w',z.sameBut hs (N6 y c e)⟩
  ·obtain⟨e,n,ne,nf,d⟩:=I.pin p hp
   exact⟨(hs.2 p.1 ne).trans e,n,ne,nf,d⟩
 ·have Ww:X.fn x=true:=by
   rcases hf with z | z
   ·exact z
   ·rw[z] at hk;cases hk
  obtain⟨c,hc⟩:=I.ok.has x (.inl hk)
  obtain⟨w',z⟩:=I.cell x c hc
  refine wpAny_storeName_cell I.ok.kind hk hc z (λh' Kq hs=>?_)
  obtain⟨oc,hoc,acD⟩:=id z
  refine h { s with heap:=h' } ⟨I.ok,I.os,I.bare,⟨λb o e n hb hx=>?_,λb o e n hb hx=>?_,I.base.free,λb o e hx=>?_,I.base.tu,I.base.rq,I.base.rL⟩,⟨m,hn.sameBut hs (cS (N6 x c hc)),λj y v' e1 e2 e3=>?_⟩,λy c' e=>?_,I.free,I.lZ,λp hp=>?_,tracked ⟨oc,hoc,I.lZ x c hc⟩ hs,by simpa using I.len⟩ ⟨c,hs,.inr hc⟩
  ·exact (hs.2 b (aR (b8 (aD e) (I.ok.R1 x c Ww hc)))).trans (I.base.keep b o e n hb hx)
  ·obtain⟨sl,e1⟩:=I.base.slot b o e n hb hx
   exact⟨sl,(hs.2 b (aR (b8 (aD e) (I.ok.R1 x c Ww hc)))).trans e1⟩
  ·obtain⟨o',e1⟩:=I.base.there b o e hx
   exact⟨o',(hs.2 b (aR (b8 (aD e) (I.ok.R1 x c Ww hc)))).trans e1⟩
  ·by_cases hj:j=i
   ·subst hj
    rw[hi] at e1;cases e1
    rw[cX hiσ] at e2
    cases e2
    exact⟨u,r,.inr ⟨.inl hk,c,hc,Kq⟩⟩
   ·rw[cW (cS hj)] at e2
    obtain⟨u',r',q⟩:=hl j y v' e1 e2 e3
    refine⟨u',r',?_⟩
    rcases q with q | ⟨k,c',e,z'⟩
    ·exact .inl q
    ·refine .inr ⟨k,c',e,z'.sameBut hs ?_⟩
     rintro rfl
     exact hj (wA hN e1 (I.ok.inj _ _ _ e hc ▸ hi))
  ·by_cases Nr:c'=c
   ·subst Nr;exact⟨_,Kq⟩
   ·obtain⟨w2,z2⟩:=I.cell y c' e
    exact⟨w2,z2.sameBut hs Nr⟩
  ·obtain⟨e,n,ne,nf,d⟩:=I.pin p hp
   refine⟨(hs.2 p.1 ?_).trans e,n,ne,nf,d⟩
   intro q
   rw[q,hoc] at e
   have q':oc=p.2:=cK e
   exact d w' (by rw[← q'];exact acD)
theorem sY {M:tH} {A:bp} {E:ae->ai->Prop} {i:Nat} {x:aT} {v:V} {u:ae} {Q:Unit->ai->Prop} (I:Inv X pins σ H s) (hN:X.N.Nodup) (hi:X.N[i]?=some x) (hx:Loc X.env.scope x) (r:RelV v u)
  (h:∀ s',Inv X pins (σ.set i (some v)) H s'->Q () s') (hf:X.fn x=true\/X.env.scope.names.lookup x=some .local:=by first | exact .inl rfl | exact .inr rfl | assumption):wpAny M A (storeName X.env x u) Q E s :=
 zp I hN hi hx r (λs' I' _=>h s' I') hf
theorem Inv.JZ {s':ai} {ch:List ah} (I:Inv X pins σ H s) (ho:s'.os=s.os) (u:Un (qO X.stack) ch H H' s.heap s'.heap) (cU:o5 X.prog X.w H' s'.heap) (hg:n5 s'.gens)
  (Nt:∀ b∈ch,(b∈X.ex\/X.s₀.heap.objs.size<=b)/\b≠X.env.locals/\(∀ x c,X.env.cells.lookup x=some c->c≠b)/\∀ p∈X.pn++pins,p.1≠b):Inv X pins σ H' s':=by
 obtain⟨h',g',d',t',o'⟩:=s'
 have e:o'=s.os:=ho
 subst e
 exact I.call (g':=g') (t':=t') (d':=d') u cU hg Nt
end
abbrev XK:=ae->Option ah->Hp->Prop
abbrev St:=List (Option V)
abbrev VK:=V->Hp->Prop
abbrev TE:=St->Hp->VK->Prop
abbrev TT:=St->Hp->(Bool->Hp->Prop)->Prop
abbrev TA:=St->Hp->(List V->Hp->Prop)->Prop
structure Ends where
 nx:St->Hp->Prop
 rt:VK
 bk:St->Hp->Prop:=λ_ _=>False
 ct:St->Hp->Prop:=λ_ _=>False
abbrev TS:=Ends->St->Hp->Prop
def EP (X:Cx) (pins:List (ah × d6)) (σ:St) (Q:VK) (u:ae) (s':ai):Prop:=∃ v H',Inv X pins σ H' s'/\RelV v u/\Q v H'
def TP (X:Cx) (pins:List (ah × d6)) (σ:St) (Q:Bool->Hp->Prop) (b:Bool) (s':ai):Prop:=∃ H',Inv X pins σ H' s'/\Q b H'
def AP (X:Cx) (pins:List (ah × d6)) (σ:St) (Q:List V->Hp->Prop) (us:List ae) (s':ai):Prop:=∃ vs H',Inv X pins σ H' s'/\Vals vs us/\Q vs H'
def SP (X:Cx) (pins:List (ah × d6)) (D:Ends) (f:Flow) (s':ai):Prop :=
 match f with
 | .next=>∃ σ' H',Inv X pins σ' H' s'/\D.nx σ' H'
 | .brk=>∃ σ' H',Inv X pins σ' H' s'/\D.bk σ' H'
 | .cont=>∃ σ' H',Inv X pins σ' H' s'/\D.ct σ' H'
 | .ret u=>∃ v σ' H',Inv X pins σ' H' s'/\RelV v u/\D.rt v H'
def PE (X:Cx) (e:bR) (t:TE):Prop :=
 ∀ (pins:List (ah × d6)) (s:ai) (σ:St) (H:Hp) (Q:VK),Inv X pins σ H s->t σ H Q->wpAny (aS X.prog X.w) X.A (dU e X.env) (EP X pins σ Q) X.xe s
def PT (X:Cx) (e:bR) (t:TT):Prop :=
 ∀ (pins:List (ah × d6)) (s:ai) (σ:St) (H:Hp) (Q:Bool->Hp->Prop),Inv X pins σ H s->t σ H Q->wpAny (aS X.prog X.w) X.A (OI e X.env (dU e X.env)) (TP X pins σ Q) X.xe s
def PW (X:Cx) (e:bR) (t:TT):Prop :=
 ∀ (whole:RP ae) (pins:List (ah × d6)) (s:ai) (σ:St) (H:Hp) (Q:Bool->Hp->Prop),Inv X pins σ H s->t σ H Q->wpAny (aS X.prog X.w) X.A (OI e X.env whole) (TP X pins σ Q) X.xe s
theorem PW.pt {X:Cx} {e:bR} {t:TT} (h:PW X e t):PT X e t:=h _
def PA (X:Cx) (es:List bR) (t:TA):Prop :=
 ∀ (pos:gR) (pins:List (ah × d6)) (s:ai) (σ:St) (H:Hp) (Q:List V->Hp->Prop),Inv X pins σ H s->t σ H Q->wpAny (aS X.prog X.w) X.A (spliced (d9 pos (aV es X.env))) (AP X pins σ Q) X.xe s
def PS (X:Cx) (st:cL) (t:TS):Prop :=
 ∀ (pins:List (ah × d6)) (s:ai) (σ:St) (H:Hp) (D:Ends),Inv X pins σ H s->t D σ H->wpAny (aS X.prog X.w) X.A (exec st X.env) (SP X pins D) X.xe s
def uY (X:Cx) (st:List cL) (t:TS):Prop :=
 ∀ (pins:List (ah × d6)) (s:ai) (σ:St) (H:Hp) (D:Ends),Inv X pins σ H s->t D σ H->wpAny (aS X.prog X.w) X.A (execs st X.env) (SP X pins D) X.xe s
theorem fq {α:Type} {t:RP α} {Q Q':α->ai->Prop} {M:tH} {A:bp} {E:ae->ai->Prop} {s:ai} (h:wpAny M A t Q E s) (hQ:∀ a s,Q a s->Q' a s):wpAny M A t Q' E s:=cf h hQ λ_ _ x=>x
section
variable {X:Cx}
def Dp (i:Nat):TE:=λσ H Q=>∃ v,σ[i]?=some (some v)/\Q v H
def tC (v:V):TE:=λ_ H Q=>Q v H
theorem Ud {i:Nat} {x:aT} {pos:gR} (hN:X.N[i]?=some x) (hv:Vis X.env.scope x) (hd:(x == ("__debug__" : aT))=false:=by decide) (yR:(x == ("__classdict__" : aT))=false:=by decide):PE X (.Name x pos) (Dp i):=by
 intro pins s σ H Q I h
 obtain⟨v,e,h⟩:=h
 obtain⟨m,hn,hl⟩:=I.loc
 obtain⟨u,r,l⟩:=hl i x v hN e hv
 have fin:EP X pins σ Q u s:=⟨v,H,I,r,h⟩
 rcases l with ⟨hk,hm⟩ | ⟨hk,c,hc,pJ⟩
 ·exact Y5 (wpAny_loadName_local I.ok.kind hk hn hm fin) hd
 ·rcases hk with hk | hk
  ·exact Y5 (wpAny_loadName_cell I.ok.kind hk hc pJ fin) hd
  ·exact Y5 (wpAny_loadName_free I.ok.kind hk hc pJ fin yR) hd
theorem aK {i j pos}:PE X (.Constant (.int i) j pos) (tC (.int i)):=λ_ _ _ H _ I h=>wpAny_Constant_int ⟨.int i,H,I.tok _,⟨_,rfl⟩,h⟩
theorem mf {b j pos}:PE X (.Constant (.bool b) j pos) (tC (.bl b)):=λ_ _ _ H _ I h=>JI ⟨.bl b,H,I,rfl,h⟩
theorem mj {j pos}:PE X (.Constant .none j pos) (tC .e8):=λ_ _ _ H _ I h=>JJ ⟨.e8,H,I,rfl,h⟩
theorem LP {x j pos}:PE X (.Constant (.str x) j pos) (tC (.str x)):=λ_ _ _ H _ I h=>Calls.Constant_str ⟨.str x,H,I.tok _,⟨_,rfl⟩,h⟩
def Gl (X:Cx) (x:aT):Prop:=X.env.kindOf x=some .globalImplicit
theorem sF {E:ae->ai->Prop} {pins:List (ah × d6)} {s:ai} {σ:St} {H:Hp} {x:aT} {u:ae} {pos:gR} {Q:ae->ai->Prop} (I:Inv X pins σ H s) (hg:Gl X x) (hm:X.mg x=some u) (h:Q u s)
  (hd:(x == ("__debug__" : aT))=false:=by decide):wpAny (aS X.prog X.w) X.A (dU (.Name x pos) X.env) Q E s :=
 zP I.ok.kind hg (Calls.loadGlobal_global (by rw[I.ok.glob];exact I.mod.glob.keeps I.bk) hm h) hd
theorem lq {E:ae->ai->Prop} {pins:List (ah × d6)} {s:ai} {σ:St} {H:Hp} {x:aT} {u:ae} {pos:gR} {Q:ae->ai->Prop} (I:Inv X pins σ H s) (hg:Gl X x) (hm:X.mg x=none) (hv:lF x=some u) (h:Q u s)
  (hn:x ≠ "__name__" := by decide) (hd:(x == ("__debug__" : aT))=false:=by decide):wpAny (aS X.prog X.w) X.A (dU (.Name x pos) X.env) Q E s:=by
 obtain⟨mb,h1,h2⟩:=I.mod.blt
 exact zP I.ok.kind hg (Calls.loadGlobal_builtin (by rw[I.ok.glob];exact I.mod.glob.keeps I.bk) hm (by rw[I.ok.blt];exact h1.keeps I.bk) ((h2 x hn).trans hv) h) hd
theorem iF {x:aT} {v:V} {u:ae} {pos:gR} (hg:Gl X x) (hm:X.mg x=some u) (r:RelV v u) (hd:(x == ("__debug__" : aT))=false:=by decide):PE X (.Name x pos) (tC v) :=
 λ_ _ _ H _ I h=>sF I hg hm ⟨v,H,I,r,h⟩ hd
theorem vD {x:aT} {v:V} {u:ae} {pos:gR} (hg:Gl X x) (hm:X.mg x=none) (hv:lF x=some u) (r:RelV v u) (hn:x ≠ "__name__" := by decide) (hd:(x == ("__debug__" : aT))=false:=by decide):PE X (.Name x pos) (tC v) :=
 λ_ _ _ H _ I h=>lq I hg hm hv ⟨v,H,I,r,h⟩ hn hd
variable {a b:bR} {ta tb:TE} {pos:gR}
def PC (X:Cx) (op:Rv) (a b:bR) (t:TE):Prop :=
 ∀ (pins:List (ah × d6)) (s:ai) (σ:St) (H:Hp) (Q:VK),Inv X pins σ H s->t σ H Q ->
  wpAny (aS X.prog X.w) X.A (dU a X.env) (λv s₁=>wpAny (aS X.prog X.w) X.A (dU b X.env) (λu s₂=>wpAny (aS X.prog X.w) X.A (dz op v u) (EP X pins σ Q) X.xe s₂) X.xe s₁) X.xe s
theorem Lh (b:bR) {op:Rv} (h:op≠.In) (h2:op≠.NotIn):kD op b=false:=by
 have e1:(op == CmpOp.In)=false:=by cases op <;> first | rfl | exact absurd rfl h
 have e2:(op == Zb)=false:=by cases op <;> first | rfl | exact absurd rfl h2
 cases b <;> simp[kD,e1,e2]
def aer (ta:TE):TE:=λσ H Q=>ta σ H λx H1=>Q (.bl (decide (x=.e8))) H1
def YO (ta:TE):TE:=λσ H Q=>ta σ H λx H1=>Q (.bl (!decide (x=.e8))) H1
theorem RelV.CV {x:V} {v:ae} (r:RelV x v):(v == iE)=decide (x=.e8):=by
 cases x with
 | e8=>cases r;rfl
 | bl _=>cases r;rfl
 | int _=>obtain⟨t,rfl⟩:=r;rfl
 | str _=>obtain⟨t,rfl⟩:=r;rfl
 | DV _=>obtain⟨t,rfl⟩:=r;rfl
 | QC _=>obtain⟨t,rfl⟩:=r;rfl
 | ref _=>cases r;rfl
 | ty _=>cases r;rfl
theorem ny {j pos'} (ha:PE X a ta):PC X .Is a (.Constant .none j pos') (aer ta):=by
 intro pins s σ H Q I h
 refine fq (ha pins s σ H _ I h) λv s1 c6=>?_
 obtain⟨x,H1,I1,r1,q1⟩:=c6
 exact JJ (is_none_gen ⟨.bl _,H1,I1,by rw[r1.CV];rfl,q1⟩)
theorem F4 {j pos'} (ha:PE X a ta):PC X .IsNot a (.Constant .none j pos') (YO ta):=by
 intro pins s σ H Q I h
 refine fq (ha pins s σ H _ I h) λv s1 c6=>?_
 obtain⟨x,H1,I1,r1,q1⟩:=c6
 exact JJ (isnot_none_gen ⟨.bl _,H1,I1,by rw[r1.CV];rfl,q1⟩)
def tB (t:TE):TT:=λσ H Q=>t σ H λx H1=>∃ c,x=.bl c/\Q c H1
theorem iQ {op:Rv} {t:TE} (h:PC X op a b t) (h1:kD op b=false:=by first | exact Lh _ (by decide) (by decide) | rfl):PT X (.Compare a [op] [b] pos) (tB t):=by
 intro pins s σ H Q I hw
 refine Rj (fq (h pins s σ H _ I hw) λv s1 h1=>fq h1 λu s2 h2=>fq h2 λc s3 c6=>?_) h1
 obtain⟨x,H1,I1,r1,q1⟩:=c6
 obtain⟨d,rfl,q⟩:=q1
 cases r1
 exact eW ⟨H1,I1,q⟩
theorem f9 {e:bR} {t:TE} (h:PE X e t) (he:∀ whole,OI e X.env whole=(do let v ← whole;oF e.pos;gK [v] (truthy v)):=by intro _;rfl):PT X e (tB t):=by
 intro pins s σ H Q I hw
 refine isTrue_plain (fq (h pins s σ H _ I hw) λv s1 c6=>?_) (he _)
 obtain⟨x,H1,I1,r1,q1⟩:=c6
 obtain⟨d,rfl,q⟩:=q1
 cases r1
 exact eW ⟨H1,I1,q⟩
variable {tA tB':TT} {rest:List bR}
def aen (t u:TT):TT:=λσ H Q=>t σ H λc H1=>if c=true then u σ H1 Q else Q false H1
def tOr (t u:TT):TT:=λσ H Q=>t σ H λc H1=>if c=true then Q true H1 else u σ H1 Q
def aet (t:TT):TT:=λσ H Q=>t σ H λc H1=>Q (!c) H1
theorem a0g (ha:PT X a tA):PW X (.BoolOp .And [a] pos) tA:=by
 intro wh pins s σ H Q I h
 refine isTrue_and (fq (ha pins s σ H Q I h) λc s1 e=>?_)
 cases c with
 | true=>exact isTrue_and_nil e
 | false=>exact e
theorem a0k (ha:PT X a tA):PW X (.BoolOp .Or [a] pos) tA:=by
 intro wh pins s σ H Q I h
 refine isTrue_or (fq (ha pins s σ H Q I h) λc s1 e=>?_)
 cases c with
 | false=>exact isTrue_or_nil e
 | true=>exact e
theorem a0i (ha:PT X a tA) (hb:PW X (.BoolOp .And (b::rest) pos) tB'):PW X (.BoolOp .And (a::b::rest) pos) (aen tA tB'):=by
 intro wh pins s σ H Q I h
 refine isTrue_and (fq (ha pins s σ H _ I h) λc s1 c6=>?_)
 obtain⟨H1,I1,q1⟩:=c6
 cases c with
 | true=>exact hb wh pins s1 σ H1 Q I1 q1
 | false=>exact⟨H1,I1,q1⟩
theorem a0n (ha:PT X a tA) (hb:PW X (.BoolOp .Or (b::rest) pos) tB'):PW X (.BoolOp .Or (a::b::rest) pos) (tOr tA tB'):=by
 intro wh pins s σ H Q I h
 refine isTrue_or (fq (ha pins s σ H _ I h) λc s1 c6=>?_)
 obtain⟨H1,I1,q1⟩:=c6
 cases c with
 | true=>exact⟨H1,I1,q1⟩
 | false=>exact hb wh pins s1 σ H1 Q I1 q1
theorem mm (ha:PT X a tA):PT X (.UnaryOp .Not a pos) (aet tA):=by
 intro pins s σ H Q I h
 exact isTrue_not (ha pins s σ H (λc H1=>Q (!c) H1) I h)
def YH (ta tb:TE):TE:=λσ H Q=>ta σ H λx H1=>∃ c,x=.bl c/\if c=true then tb σ H1 Q else Q (.bl false) H1
def YQ (ta:TE):TE:=λσ H Q=>ta σ H λx H1=>∃ c,x=.bl c/\Q (.bl (!c)) H1
theorem AU {op} {t:TE} (h:PE X a t):PE X (.BoolOp op [a] pos) t:=λpins s σ H Q I hw=>BoolOp_one (h pins s σ H Q I hw)
theorem AS (ha:PE X a ta) (hb:PE X (.BoolOp .And (b::rest) pos) tb):PE X (.BoolOp .And (a::b::rest) pos) (YH ta tb):=by
 intro pins s σ H Q I h
 refine BoolOp_and (fq (ha pins s σ H _ I h) λv s1 c6=>?_)
 obtain⟨x,H1,I1,r1,q1⟩:=c6
 obtain⟨c,rfl,q1⟩:=q1
 cases r1
 refine eW ?_
 cases c with
 | true=>exact hb pins s1 σ H1 Q I1 q1
 | false=>exact⟨.bl false,H1,I1,rfl,q1⟩
theorem Uc (ha:PE X a ta):PE X (.UnaryOp .Not a pos) (YQ ta):=by
 intro pins s σ H Q I h
 refine UnaryOp_ (fq (ha pins s σ H _ I h) λv s1 c6=>?_)
 obtain⟨x,H1,I1,r1,q1⟩:=c6
 obtain⟨c,rfl,q1⟩:=q1
 cases r1
 exact not_of (eW ⟨.bl (!c),H1,I1,rfl,q1⟩)
def tIf (t:TT) (ta tb:TE):TE:=λσ H Q=>t σ H λc H1=>if c=true then ta σ H1 Q else tb σ H1 Q
theorem mi {c:bR} (hc:PT X c tA) (ha:PE X a ta) (hb:PE X b tb):PE X (.IfExp c a b pos) (tIf tA ta tb):=by
 intro pins s σ H Q I h
 refine wpAny_IfExp (fq (hc pins s σ H _ I h) λd s1 c6=>?_)
 obtain⟨H1,I1,q1⟩:=c6
 cases d with
 | true=>exact ha pins s1 σ H1 Q I1 q1
 | false=>exact hb pins s1 σ H1 Q I1 q1
end
def bI (K:ak) (H:Hp) (a:ah) (xs:List V):Prop :=
 Rd H a (.lst xs) \/
  ∃ (o:d6) (cH:Array ae) (n:Nat),K.lookup a=some o/\o.cls=.type "list" /\ o.dict=none/\o.data=.seq cH n/\cH.size<=aL/\Vals xs cH.toList
def gJ (K:ak) (H:Hp) (a:ah) (xs:List V):Prop :=
 Rd H a (.tup xs) \/
  ∃ (o:d6) (cH:Array ae) (n:Nat),K.lookup a=some o/\o.cls=.type "tuple" /\ o.data=.seq cH n/\cH.size<=aL/\Vals xs cH.toList
def abe:ae->Option V
 | .none=>some .e8
 | .bool b=>some (.bl b)
 | .int i _=>some (.int i)
 | .str x _=>some (.str x)
 | .bytes b _=>some (.DV b)
 | .float b _=>some (.QC b)
 | .ref a=>some (.ref a)
 | .type n=>some (.ty n)
 | _=>none
theorem RelV.abs {x:V} {u:ae} (r:RelV x u):abe u=some x:=by
 cases x with
 | e8=>cases r;rfl
 | bl _=>cases r;rfl
 | int _=>obtain⟨t,rfl⟩:=r;rfl
 | str _=>obtain⟨t,rfl⟩:=r;rfl
 | DV _=>obtain⟨t,rfl⟩:=r;rfl
 | QC _=>obtain⟨t,rfl⟩:=r;rfl
 | ref _=>cases r;rfl
 | ty _=>cases r;rfl
theorem RelV.inj {x y:V} {u:ae} (r:RelV x u) (q:RelV y u):x=y:=cK (r.abs.symm.trans q.abs)
theorem Vals.inj:∀ {xs ys:List V} {us:List ae},Vals xs us->Vals ys us->xs=ys
 | _,_,_,.nil,.nil=>rfl
 | _,_,_,.cons r t,.cons r' t'=>by rw[r.inj r',Vals.inj t t']
section
variable {X:Cx} {pins:List (ah × d6)} {σ:St} {H:Hp} {s:ai} {a:ah} {xs ys:List V}
theorem bI.of {K:ak} (h:H a=some (.lst xs)):bI K H a xs:=.inl (.inl h)
theorem gJ.of {K:ak} (h:H a=some (.tup xs)):gJ K H a xs:=.inl (.inl h)
theorem Inv.list (I:Inv X pins σ H s) (h:bI X.K H a xs):∃ cH:List ae,Vals xs cH/\PlainL s.heap a cH.toArray/\xs.length<=aL:=by
 rcases h with h | ⟨o,cH,n,hk,hc,hd,hs,hz,r⟩
 ·obtain⟨z,cH,n,r,e⟩:=h.ok I.cU
  exact⟨cH,r,⟨_,n,e,rfl,rfl,rfl⟩,z⟩
 ·refine⟨cH.toList,r,⟨o,n,I.qQ a o hk,hc,hd,by simpa using hs⟩,?_⟩
  have e:=r.length
  simp only [bj] at e
  omega
theorem Inv.tuple (I:Inv X pins σ H s) (h:gJ X.K H a xs):∃ cH:List ae,Vals xs cH/\Zh s.heap a cH.toArray/\xs.length<=aL:=by
 rcases h with h | ⟨o,cH,n,hk,hc,hs,hz,r⟩
 ·obtain⟨z,cH,r,p⟩:=h.ok I.cU
  exact⟨cH,r,p,z⟩
 ·refine⟨cH.toList,r,⟨o,I.qQ a o hk,hc,n,by simpa using hs⟩,?_⟩
  have e:=r.length
  simp only [bj] at e
  omega
theorem Inv.l7 (I:Inv X pins σ H s) (h:bI X.K H a xs) (h':bI X.K H a ys):xs=ys:=by
 obtain⟨cH,r,⟨o,n,e,_,_,d⟩,_⟩:=I.list h
 obtain⟨its',r',⟨o',n',e',_,_,d'⟩,_⟩:=I.list h'
 rw[e] at e';cases e'
 rw[d] at d'
 injection d' with d1 _
 have:cH=its':=by simpa using congrArg Array.toList d1
 subst this
 exact r.inj r'
end
abbrev Cx.qK (X:Cx) (E:ae->ai->Prop):Cx:={ X with xe:=E }
abbrev Cx.wC (X:Cx):Cx:=X.qK λ_ _=>False
theorem Cx.Ok.qK {X:Cx} (ok:X.Ok) (E:ae->ai->Prop):(X.qK E).Ok :=
 ⟨ok.mod,ok.kind,ok.glob,ok.blt,ok.above,ok.inj,ok.has,ok.R1,ok.hd,ok.frames,ok.Uw,ok.Zs,ok.bs,ok.Jo,ok.mH,ok.HK,ok.pF,ok.Ki⟩
theorem Cx.Ok.lu {X:Cx} {E:ae->ai->Prop} (ok:(X.qK E).Ok):X.Ok :=
 ⟨ok.mod,ok.kind,ok.glob,ok.blt,ok.above,ok.inj,ok.has,ok.R1,ok.hd,ok.frames,ok.Uw,ok.Zs,ok.bs,ok.Jo,ok.mH,ok.HK,ok.pF,ok.Ki⟩
section
variable {X:Cx} {pins:List (ah × d6)} {σ:St} {H:Hp} {s:ai} {E:ae->ai->Prop}
theorem Inv.qK (I:Inv X pins σ H s) (E:ae->ai->Prop):Inv (X.qK E) pins σ H s:=⟨I.ok.qK E,I.os,I.bare,I.base,I.loc,I.cell,I.free,I.lZ,I.pin,I.cU,I.len⟩
theorem Inv.lu (I:Inv (X.qK E) pins σ H s):Inv X pins σ H s:=⟨I.ok.lu,I.os,I.bare,I.base,I.loc,I.cell,I.free,I.lZ,I.pin,I.cU,I.len⟩
theorem SP.lu {D:Ends} {f:Flow} {s':ai} (h:SP (X.qK E) pins D f s'):SP X pins D f s':=by
 cases f with
 | next=>obtain⟨σ',H',I,q⟩:=h;exact⟨σ',H',I.lu,q⟩
 | brk=>obtain⟨σ',H',I,q⟩:=h;exact⟨σ',H',I.lu,q⟩
 | cont=>obtain⟨σ',H',I,q⟩:=h;exact⟨σ',H',I.lu,q⟩
 | ret u=>obtain⟨v,σ',H',I,r,q⟩:=h;exact⟨v,σ',H',I.lu,r,q⟩
theorem uY.wC {st:List cL} {t:TS} (h:uY X.wC st t):uY X st t:=λpins s σ H D I hw =>
 cf (h pins s σ H D (I.qK _) hw) (λ_ _ q=>q.lu) λ_ _ z=>dR z
end
section
variable {X:Cx} {st:cL} {rest:List cL} {t u:TS} {e:bR} {te:TE} {pos:gR}
def YN:TS:=λD σ H=>D.nx σ H
def YS (t u:TS):TS:=λD σ H=>t { D with nx:=u D } σ H
theorem dq:uY X [] YN:=λ_ _ σ H _ I h=>gW ⟨σ,H,I,h⟩
theorem au (h1:PS X st t) (h2:uY X rest u):uY X (st::rest) (YS t u):=by
 intro pins s σ H D I h
 refine kj (fq (h1 pins s σ H { D with nx:=u D } I h) λf s1 q=>?_)
 cases f with
 | next =>
  obtain⟨σ',H',I',q⟩:=q
  exact h2 pins s1 σ' H' D I' q
 | ret v=>exact q
 | brk=>exact q
 | cont=>exact q
theorem aG (h1:PS X st t):uY X [st] t:=by
 intro pins s σ H D I h
 refine kj (fq (h1 pins s σ H D I h) λf s1 q=>?_)
 cases f with
 | next=>exact gW q
 | ret v=>exact q
 | brk=>exact q
 | cont=>exact q
def Uz:TS:=λD σ H=>D.bk σ H
def YJ:TS:=λD σ H=>D.ct σ H
theorem LV:PS X (.Break pos) Uz:=λ_ _ σ H _ I h=>wpAny_Break ⟨σ,H,I,h⟩
theorem uN:PS X (.Continue pos) YJ:=λ_ _ σ H _ I h=>wpAny_Continue ⟨σ,H,I,h⟩
theorem Inv.quiet {pins:List (ah × d6)} {σ:St} {H:Hp} {s:ai} (I:Inv X pins σ H s):interactive X.env=false:=by simp[interactive,I.ok.kind]
def YL (te:TE):TS:=λD σ H=>te σ H λ_ H1=>D.nx σ H1
theorem cz (he:PE X e te) (hs:rK e none pos.line X.env=pure false:=by rfl):PS X (.Expr e pos) (YL te):=by
 intro pins s σ H D I h
 refine wpAny_Expr_any (fq (he pins s σ H _ I h) λv s1 c6=>?_) I.quiet hs
 obtain⟨x,H1,I1,r1,q1⟩:=c6
 exact⟨σ,H1,I1,q1⟩
def aeu (te:TE):TS:=λD σ H=>te σ H D.rt
theorem cP (he:PE X e te):PS X (.Return (some e) pos) (aeu te):=by
 intro pins s σ H D I h
 refine wpAny_Return_some (fq (he pins s σ H _ I h) λv s1 c6=>?_)
 obtain⟨x,H1,I1,r1,q1⟩:=c6
 exact⟨x,σ,H1,I1,r1,q1⟩
def aep (c:TT) (t u:TS):TS:=λD σ H=>c σ H λb H1=>if b=true then t D σ H1 else u D σ H1
theorem fo {c:bR} {a b:List cL} {tc:TT} (hc:PT X c tc) (ha:uY X a t) (hb:uY X b u):PS X (.If c a b pos) (aep tc t u):=by
 intro pins s σ H D I h
 refine wpAny_If (fq (hc pins s σ H _ I h) λd s1 c6=>?_)
 obtain⟨H1,I1,q1⟩:=c6
 cases d with
 | true=>exact ha pins s1 σ H1 D I1 q1
 | false=>exact hb pins s1 σ H1 D I1 q1
def UC:TS:=λ_ _ _=>False
theorem pY:PS X st UC:=λ_ _ _ _ _ _ h=>h.elim
end
abbrev TG:=V->St->Hp->(St->Hp->Prop)->Prop
abbrev RS:=List V->St->Hp->(St->Hp->Prop)->Prop
def PG (X:Cx) (target:bR) (t:TG):Prop :=
 ∀ (pins:List (ah × d6)) (s:ai) (σ:St) (H:Hp) (v:V) (u:ae) (Q:St->Hp->Prop),Inv X pins σ H s->RelV v u->t v σ H Q ->
  wpAny (aS X.prog X.w) X.A (xR target X.env u) (λ_ s'=>∃ σ' H',Inv X pins σ' H' s'/\Q σ' H') X.xe s
def VL (X:Cx) (ts:List bR) (t:RS):Prop :=
 ∀ (pins:List (ah × d6)) (s:ai) (σ:St) (H:Hp) (vs:List V) (us:List ae) (Q:St->Hp->Prop),Inv X pins σ H s->Vals vs us->t vs σ H Q ->
  wpAny (aS X.prog X.w) X.A (assignInOrder ((r9 ts X.env).map (·.2)) us) (λ_ s'=>∃ σ' H',Inv X pins σ' H' s'/\Q σ' H') X.xe s
abbrev JS:=V->V->V->Hp->(Hp->Prop)->Prop
def RL (X:Cx) (t:JS):Prop :=
 ∀ (pins:List (ah × d6)) (s:ai) (σ:St) (H:Hp) (o i v:V) (ov iv u:ae) (Q:Hp->Prop),Inv X pins σ H s->RelV o ov->RelV i iv->RelV v u->t o i v H Q ->
  wpAny (aS X.prog X.w) X.A (setItem ov iv u) (λ_ s'=>∃ H',Inv X pins σ H' s'/\Q H') X.xe s
abbrev Zm:=V->V->Hp->VK->Prop
def PIp (X:Cx) (op:Aa) (t:Zm):Prop :=
 ∀ (pins:List (ah × d6)) (s:ai) (σ:St) (H:Hp) (x y:V) (v u:ae) (Q:VK),Inv X pins σ H s->RelV x v->RelV y u->t x y H Q ->
  wpAny (aS X.prog X.w) X.A (inplaceOp op v u) (EP X pins σ Q) X.xe s
section
variable {X:Cx} {pos:gR}
def oH (i:Nat):TG:=λv σ H Q=>Q (σ.set i (some v)) H
theorem cE {i:Nat} {x:aT} (hN:X.N.Nodup) (hi:X.N[i]?=some x) (hx:Loc X.env.scope x) (hf:X.fn x=true\/X.env.scope.names.lookup x=some .local:=by first | exact .inl rfl | exact .inr rfl | assumption):PG X (.Name x pos) (oH i):=by
 intro pins s σ H v u Q I r h
 exact Bz (sY I hN hi hx r (λs' I'=>⟨_,H,I',h⟩) hf)
def Of:RS:=λvs σ H Q=>vs=[]/\Q σ H
def wc (t:TG) (u:RS):RS:=λvs σ H Q=>∃ v r,vs=v::r/\t v σ H λσ' H'=>u r σ' H' Q
theorem j5:VL X [] Of:=by
 intro pins s σ H vs us Q I r h
 obtain⟨e,h⟩:=h
 subst e
 cases r
 exact assignInOrder_nil ⟨σ,H,I,h⟩
theorem dN {e:bR} {es:List bR} {t:TG} {u:RS} (h1:PG X e t) (h2:VL X es u)
  (hs:(r9 (e::es) X.env).map (·.2)=xR e X.env::(r9 es X.env).map (·.2):=by rfl):VL X (e::es) (wc t u):=by
 intro pins s σ H vs us Q I r h
 obtain⟨v,vr,e1,h⟩:=h
 subst e1
 cases r with
 | cons r rr =>
  rw[hs]
  refine assignInOrder_cons (fq (h1 pins s σ H _ _ _ I r h) λ_ s1 c6=>?_)
  obtain⟨σ1,H1,I1,q1⟩:=c6
  exact h2 pins s1 σ1 H1 _ _ Q I1 rr q1
def Sf (K:ak) (n:Nat) (t:RS):TG:=λv σ H Q=>∃ a xs,v=.ref a/\gJ K H a xs/\xs.length=n/\t xs σ H Q
theorem ml {es:List bR} {k:Nat} {t:RS} {n:Nat} (hc:X.calm=true) (h:VL X es t)
  (hn:(r9 es X.env).length=n:=by rfl) (o7:(r9 es X.env).findIdx? (·.1)=none:=by rfl):PG X (.Tuple es k pos) (Sf X.K n t):=by
 intro pins s σ H v u Q I r hw
 obtain⟨a,xs,e1,hq,hl,hw⟩:=hw
 subst e1
 cases r
 obtain⟨cH,rv,ht,hz⟩:=I.tuple hq
 refine assign_Tuple_tuple (I.ok.hd hc) ht (by simp[hn,← hl,rv.length]) o7 λh' hx=>?_
 have I1:Inv X pins σ H { s with heap:=h' }:=I.kept (t':=s.toks) λb o e=>hx b o (aR (aD e)) e
 exact h pins _ σ H xs _ Q I1 (by simpa using rv) hw
def abv (to ti:TE) (t:JS):TG:=λv σ H Q=>to σ H λo H1=>ti σ H1 λi H2=>t o i v H2 λH3=>Q σ H3
theorem oz {o i:bR} {to ti:TE} {t:JS} (ho:PE X o to) (hi:PE X i ti) (hs:RL X t)
  (ha:∀ v,xR (.Subscript o i pos) X.env v=(do
   let ov ← gK [v] (dU o X.env)
   let iv ← gK [v,ov] (dU i X.env)
   oF pos
   gK [v,ov,iv] (setItem ov iv v)
   release [v,ov,iv] []):=by intro _;rfl):PG X (.Subscript o i pos) (abv to ti t):=by
 intro pins s σ H v u Q I r h
 rw[ha]
 refine aa (db (fq (ho pins s σ H _ I h) λov s1 c6=>?_))
 obtain⟨x,H1,I1,r1,q1⟩:=c6
 refine aa (db (fq (hi pins s1 σ H1 _ I1 q1) λiv s2 c6=>?_))
 obtain⟨y,H2,I2,r2,q2⟩:=c6
 refine aa (xz (aa (db (fq (hs pins s2 σ H2 x y v ov iv u _ I2 r1 r2 r q2) λ_ s3 c6=>?_))))
 obtain⟨H3,I3,q3⟩:=c6
 exact wpAny_release ⟨σ,H3,I3,q3⟩
def PV (te:TE) (g:TG):TS:=λD σ H=>te σ H λx H1=>g x σ H1 D.nx
theorem oA {tg e:bR} {te:TE} {g:TG} (he:PE X e te) (hg:PG X tg g) (hs:swapsWithSole [tg] e pos.line X.env=pure false:=by rfl) (hw:swappedStores [tg] e X.env=pure none:=by rfl)
  (h1:(r9 [tg] X.env).map (·.2)=[xR tg X.env]:=by rfl):PS X (.Assign [tg] e pos) (PV te g):=by
 intro pins s σ H D I h
 refine wpAny_Assign_stores (fq (he pins s σ H _ I h) λv s1 c6=>?_) hs hw
 obtain⟨x,H1,I1,r1,q1⟩:=c6
 rw[h1]
 exact fq (hg pins s1 σ H1 x v _ I1 r1 q1) λ_ s2 q=>q
theorem bP {i:Nat} {x:aT} {e:bR} {te:TE} {pos':gR} (hN:X.N.Nodup) (hi:X.N[i]?=some x) (hx:Loc X.env.scope x) (he:PE X e te) (hs:rK e (some (.Name x pos')) pos.line X.env=pure false:=by rfl) (hf:X.fn x=true\/X.env.scope.names.lookup x=some .local:=by first | exact .inl rfl | exact .inr rfl | assumption) :
  PS X (.Assign [.Name x pos'] e pos) (PV te (oH i)):=by
 intro pins s σ H D I h
 refine wpAny_Assign_Name (fq (he pins s σ H _ I h) λv s1 c6=>?_) hs
 obtain⟨y,H1,I1,r1,q1⟩:=c6
 exact sY I1 hN hi hx r1 (λs2 I2=>⟨_,H1,I2,q1⟩) hf
def YI (to ti te:TE) (P4:V->V->Hp->VK->Prop) (tip:Zm) (P5:JS):TS:=λD σ H=>to σ H λo H1=>ti σ H1 λi H2=>P4 o i H2 λx H3=>te σ H3 λy H4=>tip x y H4 λz H5=>P5 o i z H5 λH6=>D.nx σ H6
def VJ (X:Cx) (t:V->V->Hp->VK->Prop):Prop :=
 ∀ (pins:List (ah × d6)) (s:ai) (σ:St) (H:Hp) (o i:V) (ov iv:ae) (Q:VK),Inv X pins σ H s->RelV o ov->RelV i iv->t o i H Q ->
  wpAny (aS X.prog X.w) X.A (Av ov iv) (EP X pins σ Q) X.xe s
theorem Ph {o i e:bR} {to ti te:TE} {P4:V->V->Hp->VK->Prop} {tip:Zm} {P5:JS} {op:Aa} {rM:gR} (ho:PE X o to) (hi:PE X i ti) (hg:VJ X P4) (he:PE X e te) (hp:PIp X op tip) (hs:RL X P5)
  (ha:∀ ov iv new,augStore i ov iv new=(do gK [new,ov,iv] (setItem ov iv new);release [new,ov,iv] [];pure .next):=by intros;rfl):PS X (.AugAssign (.Subscript o i rM) op e pos) (YI to ti te P4 tip P5):=by
 intro pins s σ H D I h
 refine wpAny_AugAssign_SubscriptAny (fq (ho pins s σ H _ I h) λov s1 c6=>?_) ha
 obtain⟨x1,H1,I1,r1,q1⟩:=c6
 refine fq (hi pins s1 σ H1 _ I1 q1) λiv s2 c6=>?_
 obtain⟨x2,H2,I2,r2,q2⟩:=c6
 refine fq (hg pins s2 σ H2 x1 x2 ov iv _ I2 r1 r2 q2) λold s3 c6=>?_
 obtain⟨x3,H3,I3,r3,q3⟩:=c6
 refine fq (he pins s3 σ H3 _ I3 q3) λv s4 c6=>?_
 obtain⟨x4,H4,I4,r4,q4⟩:=c6
 refine fq (hp pins s4 σ H4 x3 x4 old v _ I4 r3 r4 q4) λnew s5 c6=>?_
 obtain⟨x5,H5,I5,r5,q5⟩:=c6
 refine fq (hs pins s5 σ H5 x1 x2 x5 ov iv new _ I5 r1 r2 r5 q5) λ_ s6 c6=>?_
 obtain⟨H6,I6,q6⟩:=c6
 exact⟨σ,H6,I6,q6⟩
def ipI (f:Int->Int->Int):Zm:=λx y H Q=>∃ i j,x=.int i/\y=.int j/\Q (.int (f i j)) H
theorem Ts:PIp X .Add (ipI λi j=>i+j):=by
 intro pins s σ H x y v u Q I r1 r2 h
 obtain⟨i,j,e1,e2,q⟩:=h
 subst e1;subst e2
 obtain⟨t,rfl⟩:=r1
 obtain⟨t',rfl⟩:=r2
 exact iadd_int ⟨.int _,H,I.tok _,⟨_,rfl⟩,q⟩
theorem Tu:PIp X .Sub (ipI λi j=>i-j):=by
 intro pins s σ H x y v u Q I r1 r2 h
 obtain⟨i,j,e1,e2,q⟩:=h
 subst e1;subst e2
 obtain⟨t,rfl⟩:=r1
 obtain⟨t',rfl⟩:=r2
 exact isub_int ⟨.int _,H,I.tok _,⟨_,rfl⟩,q⟩
end
section
variable {X:Cx} {pos:gR}
def UF (c:TT) (tb:TS):TS:=λD σ H=>∃ W:Nat->St->Hp->Prop,(∃ m,W m σ H)/\∀ m σ H,W m σ H ->
 c σ H λb H1=>if b=true then ∃ N:St->Hp->Prop,(∀ σ' H',N σ' H'->∃ m',m'<m/\W m' σ' H')/\tb { D with nx:=N,ct:=N,bk:=D.nx } σ H1 else D.nx σ H1
theorem wP {c:bR} {body:List cL} {tc:TT} {tb:TS} (hp:PassesOwn (aS X.prog X.w) X.A X.env X.xe) (hc:PT X c tc) (hb:uY X body tb):PS X (.While c body [] pos) (UF tc tb):=by
 intro pins s σ H D I h
 obtain⟨W,⟨m0,w0⟩,turn⟩:=h
 refine wpAny_While (codeAny_whileLoop (λn s'=>∃ σ' H',Inv X pins σ' H' s'/\W n σ' H') ?_ m0 ⟨σ,H,I,w0⟩)
 rintro n s1 ⟨σ1,H1,I1,w1⟩
 refine jf hp (fq (hc pins s1 σ1 H1 _ I1 (turn n σ1 H1 w1)) λb s2 c6=>?_)
 obtain⟨H2,I2,q2⟩:=c6
 cases b with
 | true =>
  obtain⟨N,hN,q2⟩:=q2
  rw[if_pos rfl]
  refine jf hp (fq (hb pins s2 σ1 H2 _ I2 q2) λf s3 q3=>?_)
  cases f with
  | next =>
   obtain⟨σ3,H3,I3,n3⟩:=q3
   obtain⟨m',hm,w3⟩:=hN σ3 H3 n3
   exact⟨m',hm,σ3,H3,I3,w3⟩
  | cont =>
   obtain⟨σ3,H3,I3,n3⟩:=q3
   obtain⟨m',hm,w3⟩:=hN σ3 H3 n3
   exact⟨m',hm,σ3,H3,I3,w3⟩
  | brk=>exact q3
  | ret v=>exact q3
 | false =>
  rw[if_neg bg]
  exact gW ⟨σ1,H2,I2,q2⟩
end
structure It where
 go:Nat->Hp->Prop
 Dv:Nat->Hp->V->Hp->Prop
 stop:Nat->Hp->Prop
def m4 (X:Cx) (pins:List (ah × d6)) (H:Hp) (b:ah):Prop :=
 H b=none/\b≠X.env.locals/\b ∉ X.fs/\(b∈X.ex\/X.s₀.heap.objs.size<=b)/\(∀ x c,X.env.cells.lookup x=some c->c≠b)/\∀ p∈X.pn++pins,p.1≠b
theorem Inv.vg {X:Cx} {pins:List (ah × d6)} {σ:St} {H H':Hp} {s:ai} {b:ah} (I:Inv X pins σ H s) (hb:s.heap.objs.size<=b) (hn:H' b=none):m4 X pins H' b:=by
 refine⟨hn,bY (b8 I.lt hb),I.OT hb,.inr (cq I.sz hb),λx c e z=>?_,λp hp z=>?_⟩
 ·obtain⟨v,q⟩:=I.cell x c e
  exact absurd (b8 q.lt (by rw[z];exact hb)) (jU _)
 ·exact absurd (b8 (aD (I.pin p hp).1) (by rw[z];exact hb)) (jU _)
structure Turn (P:aO) (w:bD) (K:ak) (tg:bR) (J:It) (fp:List ah) (it:ah) (tn:Nat->bT->Prop):Prop where
 mem:it∈fp
 obj:∀ i h,tn i h->∀ b∈fp,∃ o,h.get? b=some o/\∀ v,o.data≠.cell v
 keep:∀ i h h',tn i h->(∀ b∈fp,∀ o,h.get? b=some o->h'.get? b=some o)->tn i h'
 item:∀ (X:Cx),X.prog=P->X.w=w->X.K=K->X.calm=true->∀ (i:Nat) (pins:List (ah × d6)) (s:ai) (σ:St) (H:Hp) (E:ae->ai->Prop),Inv X pins σ H s->(∀ b∈fp,m4 X pins H b)->tn i s.heap->J.go i H ->
  wpAny (aS P w) X.A (jQ (.ref it)) (λr s1=>∃ u,r=some u /\
   wpAny (aS P w) X.A (tM tg (.ref it) u) (λ_ s2=>∃ x H',Inv X pins σ H' s2/\RelV x u/\J.Dv i H x H'/\tn (i+1) s2.heap/\∀ b∈fp,H' b=none) E s1) E s
 done:∀ (X:Cx),X.prog=P->X.w=w->X.K=K->X.calm=true->∀ (i:Nat) (pins:List (ah × d6)) (s:ai) (σ:St) (H:Hp) (E:ae->ai->Prop),Inv X pins σ H s->(∀ b∈fp,m4 X pins H b)->tn i s.heap->J.stop i H ->
  wpAny (aS P w) X.A (jQ (.ref it)) (λr s1=>r=none/\Inv X pins σ H s1) E s
 self:∀ (A:bp) (i:Nat) (s:ai) (Q:ae->ai->Prop) (E:ae->ai->Prop),tn i s.heap->Q (.ref it) s->wpAny (aS P w) A (IE (.ref it)) Q E s
abbrev TI:=St->Hp->(It->Hp->Prop)->Prop
def VM (X:Cx) (pins:List (ah × d6)) (σ:St) (tg:bR) (R:It->Hp->Prop) (itv:ae) (s2:ai):Prop :=
 ∃ (it:ah) (fp:List ah) (tn:Nat->bT->Prop) (J:It) (H':Hp),itv=.ref it/\Inv X pins σ H' s2/\Turn X.prog X.w X.K tg J fp it tn/\tn 0 s2.heap/\(∀ b∈fp,m4 X pins H' b)/\R J H'
def PI (X:Cx) (tg iter:bR) (wi:TI):Prop :=
 ∀ (pins:List (ah × d6)) (s:ai) (σ:St) (H:Hp) (R:It->Hp->Prop),Inv X pins σ H s->wi σ H R ->
  wpAny (aS X.prog X.w) X.A (dU iter X.env) (λv s1=>wpAny (aS X.prog X.w) X.A (IE v) (VM X pins σ tg R) X.xe s1) X.xe s
theorem QD {M:tH} {A:bp} {E:ae->ai->Prop} {s:ai} {tg:bR} {it:ah} {u:ae} {o:d6} {n:String} {vs:Array ae} {Q:Unit->ai->Prop} (ho:s.heap.get? it=some o) (hc:o.cls=.type n) (hd:o.data=.fields vs)
  (hn:["enumerate","zip","dict_itemiterator","dict_reverseitemiterator","odict_iterator","itertools.zip_longest","itertools.pairwise"].contains n=false) (hQ:Q () s):wpAny M A (tM tg (.ref it) u) Q E s:=by
 unfold tM
 cases tg <;> first
  | exact aq hQ
  | (cases u <;> first
    | exact aq hQ
    | (refine aa (tD ho ?_)
       rw[hc,hd]
       show wpAny M A (if (["enumerate","zip","dict_itemiterator","dict_reverseitemiterator","odict_iterator","itertools.zip_longest","itertools.pairwise"].contains n && vs[0]? == some (gU _))=true then _ else _) Q E s
       rw[if_neg (by intro h;rw[hn,UW] at h;cases h)]
       exact aq hQ))
def yt (K:ak) (a:ah):It :=
 ⟨λi H=>∃ xs x,bI K H a xs/\xs[i]?=some x,λi H x H'=>H'=H/\∀ xs,bI K H a xs->xs[i]?=some x,λi H=>∃ xs,bI K H a xs/\xs.length<=i⟩
def NN (lo:Int) (n:Nat):It:=⟨λi _=>i<n,λi H x H'=>H'=H/\x=.int (lo+i),λi _=>n<=i⟩
theorem IS {P:aO} {w:bD} {K:ak} {tg:bR} (a it:ah):Turn P w K tg (yt K a) [it] it (λi h=>h.IsListIter it a i) where
 mem:=by simp
 obj:=λi h st b hb=>by
  have e:b=it:=by simpa using hb
  subst e
  obtain⟨o,e,c,d⟩:=st
  exact⟨o,e,λv z=>by rw[d] at z;cases z⟩
 keep:=λi h h' st k=>st.at λo e=>k it (by simp) o e
 item:=by
  intro X hP hw hK hc i pins s σ H E I hf st hg
  subst hP hw hK
  obtain⟨xs,x,hq,hx⟩:=hg
  obtain⟨cH,rv,p,hz⟩:=I.list hq
  obtain⟨u,hu,ru⟩:=rv.get hx
  obtain⟨f0,f1,f2,f3,f4,f5⟩:=hf it (by simp)
  refine lL st p.isList (x:=u) (by simpa using hu) λh' Ut sb=>?_
  have I1:Inv X pins σ H { s with heap:=h' }:=I.turned (t':=s.toks) (λb o hb e=>(sb.2 b hb).trans e) f0 f1 f3 f4 f5
  obtain⟨o,e,c,d⟩:=id Ut
  exact⟨u,rfl,QD (s:={ s with heap:=h' }) e c d (by decide) ⟨x,H,I1,ru,⟨rfl,λys hy=>by rw[I.l7 hy hq];exact hx⟩,Ut,λb hb=>(hf b hb).1⟩⟩
 done:=by
  intro X hP hw hK hc i pins s σ H E I hf st hg
  subst hP hw hK
  obtain⟨xs,hq,hx⟩:=hg
  obtain⟨cH,rv,p,hz⟩:=I.list hq
  obtain⟨f0,f1,f2,f3,f4,f5⟩:=hf it (by simp)
  have hl:=rv.length
  exact mB (I.ok.hd hc) st p.isList (by simp;omega) λh' eb=>⟨rfl,I.turned (t':=s.toks) (λb o hb e=>eb b o hb e) f0 f1 f3 f4 f5⟩
 self:=λ_ _ _ _ _ st h=>wpAny_pyIter_listiter st h
theorem EY {P:aO} {w:bD} {K:ak} {tg:bR} (it:ah) (lo:Int) (n:Nat):Turn P w K tg (NN lo n) [it] it (λi h=>IsRangeIter h it (lo+(i:Nat)*1) ((n:Int)-(i:Nat)) 1) where
 mem:=by simp
 obj := λi h st b hb=>by
  have e:b=it:=by simpa using hb
  subst e
  exact⟨_,st,λv z=>by
   have z':Data.fields _=Data.cell v:=z
   cases z'⟩
 keep:=λi h h' st k=>k it (by simp) _ st
 item:=by
  intro X hP hw hK hc i pins s σ H E I hf st hg
  subst hP hw hK
  obtain⟨f0,f1,f2,f3,f4,f5⟩:=hf it (by simp)
  have W:=Walks.range (prog:=X.prog) (w:=X.w) (I.ok.hd hc) it lo 1 n
  refine W.item i s _ _ hg st λv h' tk hv Ut kk=>?_
  obtain⟨t,rfl⟩:=hv
  have I1:Inv X pins σ H { s with heap:=h',toks:=tk }:=I.turned (λb o hb e=>kk b o (by simpa using hb) e) f0 f1 f3 f4 f5
  refine⟨_,rfl,QD (s:={ s with heap:=h',toks:=tk }) (n := "range_iterator") Ut rfl rfl (by decide) ⟨.int (lo+i),H,I1,⟨t,?_⟩,⟨rfl,rfl⟩,Ut,λb hb=>(hf b hb).1⟩⟩
  rw[Int.mul_one]
 done:=by
  intro X hP hw hK hc i pins s σ H E I hf st hg
  subst hP hw hK
  obtain⟨f0,f1,f2,f3,f4,f5⟩:=hf it (by simp)
  exact wpAny_pyNext_range_end (I.ok.hd hc) st (by have:n<=i:=hg;omega) λh' eb=>⟨rfl,I.turned (t':=s.toks) (λb o hb e=>eb b o hb e) f0 f1 f3 f4 f5⟩
 self:=λ_ _ _ _ _ st h=>wpAny_pyIter_rangeiter st h
section
variable {X:Cx} {tg:bR}
def QR (K:ak) (tl:TE):TI:=λσ H R=>tl σ H λx H1=>∃ a,x=.ref a/\(∃ xs,bI K H1 a xs)/\R (yt K a) H1
theorem dm {l:bR} {tl:TE} (hl:PE X l tl):PI X tg l (QR X.K tl):=by
 intro pins s σ H R I h
 refine fq (hl pins s σ H _ I h) λv s1 c6=>?_
 obtain⟨x,H1,I1,r1,q1⟩:=c6
 obtain⟨a,e,⟨xs,hq⟩,q⟩:=q1
 subst e
 cases r1
 obtain⟨cH,rv,p,hz⟩:=I1.list hq
 refine fX p.isList ?_
 refine⟨s1.heap.objs.size,[s1.heap.objs.size],_,_,H1,rfl,I1.kept (t':=s1.toks) λb o e=>al _ e,IS a _,⟨_,aF _ rfl,rfl,rfl⟩,λb hb=>?_,q⟩
 have e:b=s1.heap.objs.size:=by simpa using hb
 subst e
 exact I1.vg (aA _) (I1.cU.fresh (aA _))
theorem LY {pins:List (ah × d6)} {σ:St} {H:Hp} {s:ai} {R:It->Hp->Prop} {E:ae->ai->Prop} {lo hi:Int} {t u v:Nl} {tk:Nat} (I:Inv X pins σ H s) (h1:-(2 ^ 62)<=lo) (h2:lo<2 ^ 62) (h3:-(2 ^ 62)<=hi) (h4:hi<2 ^ 62)
  (q:R (NN lo (hi-lo).toNat) H):wpAny (aS X.prog X.w) X.A (IE (.ref s.heap.objs.size)) (VM X pins σ tg R) E { s with heap:=s.heap.push { cls:=.type "range",data:=.fields #[.int lo t,.int hi u,.int 1 v] },toks:=tk }:=by
 refine wpAny_pyIter_range (IsRange.new ..) (small_one h1 h2 h3 h4) ?_
 have I1:Inv X pins σ H { s with heap:=s.heap.push { cls:=.type "range",data:=.fields #[.int lo t,.int hi u,.int 1 v] },toks:=tk }:=I.kept λb o e=>al _ e
 refine⟨(s.heap.push { cls:=.type "range",data:=.fields #[.int lo t,.int hi u,.int 1 v] }).objs.size,[(s.heap.push { cls:=.type "range",data:=.fields #[.int lo t,.int hi u,.int 1 v] }).objs.size],_,_,H,rfl,
  I1.kept (t':=tk) λb o e=>al _ e,EY _ lo (hi-lo).toNat,?_,λb hb=>?_,q⟩
 ·have e1:lo+((0:Nat):Int)*1=lo:=by simp
  have e2:(((hi-lo).toNat:Nat):Int)-((0:Nat):Int)=vt lo hi 1:=by rw[rangeSize_one];split <;> omega
  show IsRangeIter _ _ (lo+((0:Nat):Int)*1) ((((hi-lo).toNat:Nat):Int)-((0:Nat):Int)) 1
  rw[e1,e2]
  exact aF _ rfl
 ·have e:b=(s.heap.push { cls:=.type "range",data:=.fields #[.int lo t,.int hi u,.int 1 v] }).objs.size:=by simpa using hb
  subst e
  exact I1.vg (aA _) (I1.cU.fresh (aA _))
def Xw (ta:TA):TI:=λσ H R=>ta σ H λvs H1=>∃ j:Int,vs=[.int j]/\-(2 ^ 62)<=j/\j<2 ^ 62/\R (NN 0 j.toNat) H1
theorem iB {a:bR} {ta:TA} {p pos:gR} (hg:Gl X "range") (hm:X.mg "range" = none) (ha:PA X [a] ta) (hs:aV [a] X.env=[(false,dU a X.env)]:=by rfl):PI X tg (.Call (.Name "range" p) [a] [] pos) (Xw ta):=by
 intro pins s σ H R I h
 refine Ru (lq I hg hm boot_range (dy (fq (ha pos pins s σ H _ I h) λus s1 c6=>?_) hs rfl))
 obtain⟨vs,H1,I1,r1,q1⟩:=c6
 obtain⟨j,e,q1,q2,q⟩:=q1
 subst e
 cases r1 with
 | cons r rr =>
  cases rr
  obtain⟨t,rfl⟩:=r
  exact call_range_1 (LY I1 (by omega) (by omega) q1 q2 (by simpa using q))
def aeo (wi:TI) (g:TG) (tb:TS):TS:=λD σ H=>wi σ H λJ H1=>∃ W:Nat->Nat->St->Hp->Prop,(∃ m,W 0 m σ H1)/\∀ i m σ H,W i m σ H ->
 (J.stop i H/\D.nx σ H)\/(J.go i H/\∃ N:St->Hp->Prop,(∀ σ' H',N σ' H'->∃ m',m'<m/\W (i+1) m' σ' H')/\∀ x H',J.Dv i H x H'->g x σ H' λσ2 H2=>tb { D with nx:=N,ct:=N,bk:=D.nx } σ2 H2)
def wM (fp:List ah) (h:bT):List (ah × d6):=fp.filterMap λb=>(h.get? b).map λo=>(b,o)
theorem oy {fp:List ah} {h:bT} {b:ah} {o:d6} (hb:b∈fp) (e:h.get? b=some o):(b,o)∈wM fp h:=nG.mpr ⟨b,hb,by rw[e];rfl⟩
theorem Iu {fp:List ah} {h:bT} {p:ah × d6} (hp:p∈wM fp h):p.1∈fp/\h.get? p.1=some p.2:=by
 obtain⟨b,hb,e⟩:=nG.mp hp
 cases q:h.get? b with
 | none=>rw[q] at e;cases e
 | some o =>
  rw[q] at e
  have e':(b,o)=p:=cK e
  subst e'
  exact⟨hb,q⟩
theorem Inv.pinned {pins:List (ah × d6)} {σ:St} {H:Hp} {s:ai} {fp:List ah} (I:Inv X pins σ H s) (hf:∀ b∈fp,m4 X pins H b) (ho:∀ b∈fp,∃ o,s.heap.get? b=some o/\∀ v,o.data≠.cell v):Inv X (pins++wM fp s.heap) σ H s :=
 I.mT λp hp=>(bo.mp hp).elim (λz=>I.pin p (br _ z)) λz=>by
  obtain⟨hb,e⟩:=Iu z
  obtain⟨f0,f1,f2,_⟩:=hf p.1 hb
  obtain⟨o,e',d⟩:=ho p.1 hb
  rw[e] at e';cases e'
  exact⟨e,f0,f1,f2,d⟩
theorem Inv.tw {pins pl:List (ah × d6)} {σ:St} {H:Hp} {s:ai} (I:Inv X (pins++pl) σ H s):Inv X pins σ H s:=I.mT λp hp=>I.pin p (br _ (ck _ hp))
theorem eS {iter:bR} {body:List cL} {wi:TI} {g:TG} {tb:TS} {pos:gR} (hp:PassesOwn (aS X.prog X.w) X.A X.env X.xe) (hc:X.calm=true) (hi:PI X tg iter wi) (hg:PG X tg g) (hb:uY X body tb)
  (hs:∀ x,jy iter X.env x=pure x:=by intro _;rfl):PS X (.For tg iter body [] pos) (aeo wi g tb):=by
 intro pins s σ H D I h
 refine wpAny_For (fq (hi pins s σ H _ I h) λv s1 h1=>fq h1 λitv s2 h2=>?_) hs
 obtain⟨it,fp,tn,J,H2,e,I2,T,YE,f2,W,⟨m0,w0⟩,turn⟩:=h2
 subst e
 have Uv:∀ {H':Hp},(∀ b∈fp,H' b=none)->∀ b∈fp,m4 X pins H' b:=λhn b hb=>⟨hn b hb,(f2 b hb).2⟩
 refine codeAny_forLoop_any (λn s'=>∃ i σ' H',Inv X pins σ' H' s'/\tn i s'.heap/\(∀ b∈fp,H' b=none)/\W i n σ' H') ?_ m0 ⟨0,σ,H2,I2,YE,λb hb=>(f2 b hb).1,w0⟩
 rintro n s3 ⟨i,σ3,H3,I3,YF,V6,w3⟩
 rcases turn i n σ3 H3 w3 with ⟨stop,qn⟩ | ⟨go,N,hN,step⟩
 ·refine jf hp (fq (T.done X rfl rfl rfl hc i pins s3 σ3 H3 X.xe I3 (Uv V6) YF stop) λr s4 c6=>?_)
  obtain⟨hr,I4⟩:=c6
  subst hr
  exact gW ⟨σ3,H3,I4,qn⟩
 ·refine jf hp (fq (T.item X rfl rfl rfl hc i pins s3 σ3 H3 X.xe I3 (Uv V6) YF go) λr s4 c6=>?_)
  obtain⟨u,hr,h4⟩:=c6
  subst hr
  refine jf hp (fq h4 λ_ s5 c6=>?_)
  obtain⟨x,H5,I5,r5,y5,Uu,fr5⟩:=c6
  have I5':=I5.pinned (Uv fr5) (T.obj _ _ Uu)
  refine jf hp (fq (hg _ s5 σ3 H5 x u _ I5' r5 (step x H5 y5)) λ_ s6 c6=>?_)
  obtain⟨σ6,H6,I6,q6⟩:=c6
  refine jf hp (fq (hb _ s6 σ6 H6 _ I6 q6) λf s7 q7=>?_)
  have again:∀ {σ7:St} {H7:Hp},Inv X (pins++wM fp s5.heap) σ7 H7 s7->N σ7 H7->∃ m,m<n/\∃ i σ' H',Inv X pins σ' H' s7/\tn i s7.heap/\(∀ b∈fp,H' b=none)/\W i m σ' H':=λ{σ7 H7} I7 n7=>by
   obtain⟨m',hm,w7⟩:=hN σ7 H7 n7
   refine⟨m',hm,i+1,σ7,H7,I7.tw,T.keep _ _ _ Uu λb hb o e=>(I7.pin (b,o) (br _ (br _ (oy hb e)))).1,λb hb=>?_,w7⟩
   obtain⟨o,e,d⟩:=T.obj _ _ Uu b hb
   exact (I7.pin (b,o) (br _ (br _ (oy hb e)))).2.1
  cases f with
  | next=>obtain⟨σ7,H7,I7,n7⟩:=q7;exact again I7 n7
  | cont=>obtain⟨σ7,H7,I7,n7⟩:=q7;exact again I7 n7
  | brk=>obtain⟨σ7,H7,I7,q7⟩:=q7;exact⟨σ7,H7,I7.tw,q7⟩
  | ret v=>obtain⟨x7,σ7,H7,I7,r7,q7⟩:=q7;exact⟨x7,σ7,H7,I7.tw,r7,q7⟩
end
theorem iN {K:ak} {a:ah} {xs:List V} {g:TG} {tb:TS} {D:Ends} {σ:St} {H:Hp} (Pv:Nat->St->Hp->Prop) (h0:Pv 0 σ H) (hl:∀ i σ H,i<=xs.length->Pv i σ H->bI K H a xs)
  (hs:∀ i x σ H,xs[i]?=some x->Pv i σ H->g x σ H λσ2 H2=>tb { D with nx:=Pv (i+1),ct:=Pv (i+1),bk:=D.nx } σ2 H2) (hd:∀ σ H,Pv xs.length σ H->D.nx σ H) :
  ∃ W:Nat->Nat->St->Hp->Prop,(∃ m,W 0 m σ H)/\∀ i m σ H,W i m σ H ->
   ((yt K a).stop i H/\D.nx σ H)\/((yt K a).go i H/\∃ N:St->Hp->Prop,(∀ σ' H',N σ' H'->∃ m',m'<m/\W (i+1) m' σ' H')/\∀ x H',(yt K a).Dv i H x H'->g x σ H' λσ2 H2=>tb { D with nx:=N,ct:=N,bk:=D.nx } σ2 H2):=by
 refine⟨λi m σ H=>m=xs.length-i/\i<=xs.length/\Pv i σ H,⟨xs.length,by simp,bE _,h0⟩,?_⟩
 rintro i m σ H ⟨rfl,hi,p⟩
 have q:=hl i σ H hi p
 by_cases ji:i<xs.length
 ·refine .inr ⟨⟨xs,xs[i],q,by simp[ji]⟩,Pv (i+1),λσ' H' p'=>⟨xs.length-(i+1),by omega,rfl,ji,p'⟩,λx H' y=>?_⟩
  obtain⟨e,y⟩:=y
  subst e
  exact hs i x σ _ (y xs q) p
 ·have e:i=xs.length:=by omega
  subst e
  exact .inl ⟨⟨xs,q,aA _⟩,hd σ H p⟩
theorem kE {lo:Int} {n:Nat} {g:TG} {tb:TS} {D:Ends} {σ:St} {H:Hp} (Pv:Nat->St->Hp->Prop) (h0:Pv 0 σ H)
  (hs:∀ i σ H,i<n->Pv i σ H->g (.int (lo+i)) σ H λσ2 H2=>tb { D with nx:=Pv (i+1),ct:=Pv (i+1),bk:=D.nx } σ2 H2) (hd:∀ σ H,Pv n σ H->D.nx σ H) :
  ∃ W:Nat->Nat->St->Hp->Prop,(∃ m,W 0 m σ H)/\∀ i m σ H,W i m σ H ->
   ((NN lo n).stop i H/\D.nx σ H)\/((NN lo n).go i H/\∃ N:St->Hp->Prop,(∀ σ' H',N σ' H'->∃ m',m'<m/\W (i+1) m' σ' H')/\∀ x H',(NN lo n).Dv i H x H'->g x σ H' λσ2 H2=>tb { D with nx:=N,ct:=N,bk:=D.nx } σ2 H2):=by
 refine⟨λi m σ H=>m=n-i/\i<=n/\Pv i σ H,⟨n,by simp,bE _,h0⟩,?_⟩
 rintro i m σ H ⟨rfl,hi,p⟩
 by_cases ji:i<n
 ·refine .inr ⟨ji,Pv (i+1),λσ' H' p'=>⟨n-(i+1),by omega,rfl,ji,p'⟩,λx H' y=>?_⟩
  obtain⟨e,y⟩:=y
  subst e y
  exact hs i σ _ ji p
 ·have e:i=n:=by omega
  subst e
  exact .inl ⟨aA _,hd σ H p⟩
abbrev R2:=V->V->Hp->VK->Prop
def uX (X:Cx) (f:ae->ae->RP ae) (r:R2):Prop :=
 ∀ (pins:List (ah × d6)) (s:ai) (σ:St) (H:Hp) (x y:V) (v u:ae) (Q:VK),Inv X pins σ H s->RelV x v->RelV y u->r x y H Q ->
  wpAny (aS X.prog X.w) X.A (f v u) (EP X pins σ Q) X.xe s
def UnR (X:Cx) (f:ae->RP ae) (r:V->Hp->VK->Prop):Prop :=
 ∀ (pins:List (ah × d6)) (s:ai) (σ:St) (H:Hp) (x:V) (v:ae) (Q:VK),Inv X pins σ H s->RelV x v->r x H Q ->
  wpAny (aS X.prog X.w) X.A (f v) (EP X pins σ Q) X.xe s
def jG (X:Cx) (f:ae) (r:List V->Hp->VK->Prop):Prop :=
 ∀ (pins:List (ah × d6)) (s:ai) (σ:St) (H:Hp) (xs:List V) (us:List ae) (Q:VK),Inv X pins σ H s->Vals xs us->r xs H Q ->
  wpAny (aS X.prog X.w) X.A (qH f us) (EP X pins σ Q) X.xe s
def aba (X:Cx) (r:V->Hp->(Bool->Hp->Prop)->Prop):Prop :=
 ∀ (pins:List (ah × d6)) (s:ai) (σ:St) (H:Hp) (x:V) (v:ae) (Q:Bool->Hp->Prop),Inv X pins σ H s->RelV x v->r x H Q ->
  wpAny (aS X.prog X.w) X.A (truthy v) (TP X pins σ Q) X.xe s
def tOp (r:R2) (ta tb:TE):TE:=λσ H Q=>ta σ H λx H1=>tb σ H1 λy H2=>r x y H2 Q
def tUn (r:V->Hp->VK->Prop) (ta:TE):TE:=λσ H Q=>ta σ H λx H1=>r x H1 Q
def rI (C:Int->Int->Prop) (g:Int->Int->V):R2:=λx y H Q=>∃ i j,x=.int i/\y=.int j/\C i j/\Q (g i j) H
def QZ (g:Int->Int->V):R2:=λx y H Q=>∃ i j,x=.int i/\y=.int j/\Q (g i j) H
def rU (g:Int->V):V->Hp->VK->Prop:=λx H Q=>∃ i,x=.int i/\Q (g i) H
section
variable {X:Cx} {a b c:bR} {ta tb tc:TE} {pos:gR}
theorem RZ (ha:PE X a ta) (hb:PE X b tb) {pins:List (ah × d6)} {s:ai} {σ:St} {H:Hp} {R:V->V->Hp->Prop} (I:Inv X pins σ H s)
  (h:ta σ H λx H1=>tb σ H1 λy H2=>R x y H2) {Q:ae->ai->Prop} {f:ae->ae->RP ae}
  (hf:∀ v u s2 x y H2,Inv X pins σ H2 s2->RelV x v->RelV y u->R x y H2->wpAny (aS X.prog X.w) X.A (f v u) Q X.xe s2) :
  wpAny (aS X.prog X.w) X.A (dU a X.env) (λv s₁=>wpAny (aS X.prog X.w) X.A (dU b X.env) (λu s₂=>wpAny (aS X.prog X.w) X.A (f v u) Q X.xe s₂) X.xe s₁) X.xe s:=by
 refine fq (ha pins s σ H _ I h) λv s1 c6=>?_
 obtain⟨x,H1,I1,r1,q1⟩:=c6
 refine fq (hb pins s1 σ H1 _ I1 q1) λu s2 c6=>?_
 obtain⟨y,H2,I2,r2,q2⟩:=c6
 exact hf v u s2 x y H2 I2 r1 r2 q2
theorem bX {op:Aa} {r:R2} (ho:uX X (u8 op) r) (ha:PE X a ta) (hb:PE X b tb):PE X (.BinOp a op b pos) (tOp r ta tb):=by
 intro pins s σ H Q I h
 exact wpAny_BinOp (RZ ha hb I h λv u s2 x y H2 I2 rx ry q=>ho pins s2 σ H2 x y v u Q I2 rx ry q)
theorem LQ {op:UnaryOp} {r:V->Hp->VK->Prop} (ho:UnR X (unaryOp op) r) (ha:PE X a ta):PE X (.UnaryOp op a pos) (tUn r ta):=by
 intro pins s σ H Q I h
 refine UnaryOp_ (fq (ha pins s σ H _ I h) λv s1 c6=>?_)
 obtain⟨x,H1,I1,r1,q1⟩:=c6
 exact ho pins s1 σ H1 x v Q I1 r1 q1
theorem opI {f:ae->ae->RP ae} {C:Int->Int->Prop} {g:Int->Int->Int}
  (rule:∀ (i j:Int) (t u:Nl) (s:ai) (Q:ae->ai->Prop) (E:ae->ai->Prop),C i j->Q (.int (g i j) s.toks) { s with toks:=s.toks+1 }->wpAny (aS X.prog X.w) X.A (f (.int i t) (.int j u)) Q E s) :
  uX X f (rI C λi j=>.int (g i j)):=by
 intro pins s σ H x y v u Q I rx ry h
 obtain⟨i,j,rfl,rfl,hc,q⟩:=h
 obtain⟨t,rfl⟩:=rx
 obtain⟨t',rfl⟩:=ry
 exact rule i j t t' s _ _ hc ⟨.int (g i j),H,I.tok _,⟨_,rfl⟩,q⟩
theorem X5 {f:ae->ae->RP ae} {g:Int->Int->Int}
  (rule:∀ (i j:Int) (t u:Nl) (s:ai) (Q:ae->ai->Prop) (E:ae->ai->Prop),Q (.int (g i j) s.toks) { s with toks:=s.toks+1 }->wpAny (aS X.prog X.w) X.A (f (.int i t) (.int j u)) Q E s) :
  uX X f (QZ λi j=>.int (g i j)):=by
 intro pins s σ H x y v u Q I rx ry h
 obtain⟨i,j,rfl,rfl,q⟩:=h
 obtain⟨t,rfl⟩:=rx
 obtain⟨t',rfl⟩:=ry
 exact rule i j t t' s _ _ ⟨.int (g i j),H,I.tok _,⟨_,rfl⟩,q⟩
theorem Pc {f:ae->ae->RP ae} {g:Int->Int->Bool}
  (rule:∀ (i j:Int) (t u:Nl) (s:ai) (Q:ae->ai->Prop) (E:ae->ai->Prop),Q (.bool (g i j)) s->wpAny (aS X.prog X.w) X.A (f (.int i t) (.int j u)) Q E s) :
  uX X f (QZ λi j=>.bl (g i j)):=by
 intro pins s σ H x y v u Q I rx ry h
 obtain⟨i,j,rfl,rfl,q⟩:=h
 obtain⟨t,rfl⟩:=rx
 obtain⟨t',rfl⟩:=ry
 exact rule i j t t' s _ _ ⟨.bl (g i j),H,I,rfl,q⟩
def aaM (i j:Int):Prop:=0<j/\j<1073741824
def Rt (i j:Int):Prop:=(-(2 ^ 64)<i/\i<2 ^ 64)\/(-(2 ^ 64)<j/\j<2 ^ 64)
theorem Rt.ok {i j:Int} (h:Rt i j):IntMulOk i j:=by
 rcases h with ⟨h1,h2⟩ | ⟨h1,h2⟩
 ·exact .of_left (intBits_le_64 h1 h2)
 ·exact .of_right (intBits_le_64 h1 h2)
theorem jE:uX X (u8 .Add) (QZ λi j=>.int (i+j)):=X5 λ_ _ _ _ _ _ _ q=>add_int q
theorem wG:uX X (u8 .Sub) (QZ λi j=>.int (i-j)):=X5 λ_ _ _ _ _ _ _ q=>sub_int q
theorem gB:uX X (u8 .Mult) (rI Rt λi j=>.int (i*j)):=opI λ_ _ _ _ _ _ _ hc q=>mul_int q hc.ok
theorem lK:uX X (u8 .FloorDiv) (rI aaM λi j=>.int (i / j)):=opI λi j _ _ _ _ _ hc q=>by
 have h1:(0:Int)<j:=hc.1
 have h2:j<1073741824:=hc.2
 exact floordiv_int (by omega) (by rw[Int.fdiv_eq_ediv_of_nonneg i (by omega)];exact q) (.inl (PyProof.noPylong_small (by omega)))
theorem eK:uX X (u8 .Mod) (rI (λ_ j=>0<j) λi j=>.int (i % j)):=opI λi j _ _ _ _ _ hc q=>by
 have h1:(0:Int)<j:=hc
 exact mod_int' (by omega) (by rw[Int.fmod_eq_emod_of_nonneg i (by omega)];exact q)
theorem unI {f:ae->RP ae} {g:Int->Int}
  (rule:∀ (i:Int) (t:Nl) (s:ai) (Q:ae->ai->Prop) (E:ae->ai->Prop),Q (.int (g i) s.toks) { s with toks:=s.toks+1 }->wpAny (aS X.prog X.w) X.A (f (.int i t)) Q E s) :
  UnR X f (rU λi=>.int (g i)):=by
 intro pins s σ H x v Q I rx h
 obtain⟨i,rfl,q⟩:=h
 obtain⟨t,rfl⟩:=rx
 exact rule i t s _ _ ⟨.int (g i),H,I.tok _,⟨_,rfl⟩,q⟩
theorem EZ:UnR X (unaryOp .USub) (rU λi=>.int (-i)):=unI λ_ _ _ _ _ q=>neg_int q
end
def Yy:V->V->Bool
 | .e8,.e8=>true | .e8,.int _=>true | .int _,.e8=>true | .e8,.bl _=>true | .bl _,.e8=>true | .e8,.str _=>true | .str _,.e8=>true
 | .int _,.int _=>true | .bl _,.bl _=>true | .str _,.str _=>true | .DV _,.DV _=>true
 | .int _,.str _=>true | .str _,.int _=>true | .bl _,.str _=>true | .str _,.bl _=>true
 | _,_=>false
def rEq:R2:=λx y H Q=>Yy x y=true/\Q (.bl (decide (x=y))) H
def rNe:R2:=λx y H Q=>Yy x y=true/\Q (.bl (!decide (x=y))) H
theorem Fx {i j:Int}:decide (V.int i=V.int j)=(i == j):=by
 rw[eQ]
 simp
theorem J7 {i j:Bool}:decide (V.bl i=V.bl j)=(i == j):=by
 rw[eQ]
 simp
theorem Fy {i j:aT}:decide (V.str i=V.str j)=(i == j):=by
 rw[eQ]
 simp
theorem Fw {i j:Array UInt8}:decide (V.DV i=V.DV j)=(i.toList == j.toList):=by
 rw[eQ]
 cases i
 cases j
 simp
section
variable {X:Cx} {a b c:bR} {ta tb tc:TE} {pos:gR}
theorem er {pins:List (ah × d6)} {σ:St} {H:Hp} {s:ai} {Q:VK} {k k':Bool} (I:Inv X pins σ H s) (q:Q (.bl k) H) (e:k=k'):EP X pins σ Q (.bool k') s:=by
 subst e
 exact⟨.bl k,H,I,rfl,q⟩
theorem md:uX X (dz .Eq) rEq:=by
 intro pins s σ H x y v u Q I rx ry h
 obtain⟨hs,q⟩:=h
 cases x with
 | e8 =>
  cases rx
  cases y with
  | e8=>cases ry;exact PySem.EqNone.eq_none_none (er I q (by simp))
  | bl j=>cases ry;exact PySem.EqNone.eq_none_bool (er I q (by simp))
  | int j=>obtain⟨t',rfl⟩:=ry;exact PySem.EqNone.eq_none_int (er I q (by simp))
  | str j=>obtain⟨t',rfl⟩:=ry;exact PySem.EqNone.eq_none_str (er I q (by simp))
  | _=>exact absurd (show false=true from hs) bg
 | bl i =>
  cases rx
  cases y with
  | e8=>cases ry;exact PySem.EqNone.eq_bool_none (er I q (by simp))
  | bl j=>cases ry;exact eq_bool (er I q J7)
  | str j=>obtain⟨t',rfl⟩:=ry;exact aaY (er I q (by simp))
  | _=>exact absurd (show false=true from hs) bg
 | int i =>
  obtain⟨t,rfl⟩:=rx
  cases y with
  | e8=>cases ry;exact PySem.EqNone.eq_int_none (er I q (by simp))
  | int j=>obtain⟨t',rfl⟩:=ry;exact eq_int (er I q Fx)
  | str j=>obtain⟨t',rfl⟩:=ry;exact aaZ (er I q (by simp))
  | _=>exact absurd (show false=true from hs) bg
 | str i =>
  obtain⟨t,rfl⟩:=rx
  cases y with
  | e8=>cases ry;exact PySem.EqNone.eq_str_none (er I q (by simp))
  | bl j=>cases ry;exact aa0 (er I q (by simp))
  | int j=>obtain⟨t',rfl⟩:=ry;exact aa1 (er I q (by simp))
  | str j=>obtain⟨t',rfl⟩:=ry;exact eq_str (er I q Fy)
  | _=>exact absurd (show false=true from hs) bg
 | DV i =>
  obtain⟨t,rfl⟩:=rx
  cases y with
  | DV j=>obtain⟨t',rfl⟩:=ry;exact PySem.W.eq_bytes (er I q Fw)
  | _=>exact absurd (show false=true from hs) bg
 | _=>cases y <;> exact absurd (show false=true from hs) bg
theorem qR:uX X (dz .NotEq) rNe:=by
 intro pins s σ H x y v u Q I rx ry h
 obtain⟨hs,q⟩:=h
 cases x with
 | e8 =>
  cases rx
  cases y with
  | e8=>cases ry;exact PySem.EqNone.ne_none_none (er I q (by simp))
  | bl j=>cases ry;exact PySem.EqNone.ne_none_bool (er I q (by simp))
  | int j=>obtain⟨t',rfl⟩:=ry;exact PySem.EqNone.ne_none_int (er I q (by simp))
  | str j=>obtain⟨t',rfl⟩:=ry;exact PySem.EqNone.ne_none_str (er I q (by simp))
  | _=>exact absurd (show false=true from hs) bg
 | bl i =>
  cases rx
  cases y with
  | e8=>cases ry;exact PySem.EqNone.ne_bool_none (er I q (by simp))
  | bl j=>cases ry;exact ne_bool (er I q (congrArg not J7))
  | str j=>obtain⟨t',rfl⟩:=ry;exact aa2 (er I q (by simp))
  | _=>exact absurd (show false=true from hs) bg
 | int i =>
  obtain⟨t,rfl⟩:=rx
  cases y with
  | e8=>cases ry;exact PySem.EqNone.ne_int_none (er I q (by simp))
  | int j=>obtain⟨t',rfl⟩:=ry;exact ne_int (er I q (congrArg not Fx))
  | str j=>obtain⟨t',rfl⟩:=ry;exact aa3 (er I q (by simp))
  | _=>exact absurd (show false=true from hs) bg
 | str i =>
  obtain⟨t,rfl⟩:=rx
  cases y with
  | e8=>cases ry;exact PySem.EqNone.ne_str_none (er I q (by simp))
  | bl j=>cases ry;exact aa4 (er I q (by simp))
  | int j=>obtain⟨t',rfl⟩:=ry;exact aa5 (er I q (by simp))
  | str j=>obtain⟨t',rfl⟩:=ry;exact ne_str (er I q (congrArg not Fy))
  | _=>exact absurd (show false=true from hs) bg
 | DV i =>
  obtain⟨t,rfl⟩:=rx
  cases y with
  | DV j=>obtain⟨t',rfl⟩:=ry;exact PySem.W.ne_bytes (er I q (congrArg not Fw))
  | _=>exact absurd (show false=true from hs) bg
 | _=>cases y <;> exact absurd (show false=true from hs) bg
theorem LC:uX X (dz .Lt) (QZ λi j=>.bl (decide (i<j))):=Pc λ_ _ _ _ _ _ _ q=>lt_int q
theorem X7:uX X (dz .LtE) (QZ λi j=>.bl (decide (i<=j))):=Pc λ_ _ _ _ _ _ _ q=>le_int q
theorem X6:uX X (dz .Gt) (QZ λi j=>.bl (decide (j<i))):=Pc λ_ _ _ _ _ _ _ q=>gt_int q
theorem F2:uX X (dz .GtE) (QZ λi j=>.bl (decide (j<=i))):=Pc λ_ _ _ _ _ _ _ q=>ge_int q
theorem dM (b:bR) {op:Rv} (h:op≠.In:=by decide) (h2:op≠.NotIn:=by decide):kD op b=false:=by
 have e1:(op == CmpOp.In)=false:=by cases op <;> first | rfl | exact absurd rfl h
 have e2:(op == Zb)=false:=by cases op <;> first | rfl | exact absurd rfl h2
 cases b <;> simp[kD,e1,e2]
theorem kR {op:Rv} {r:R2} (ho:uX X (dz op) r) (ha:PE X a ta) (hb:PE X b tb) (hm:kD op b=false):PE X (.Compare a [op] [b] pos) (tOp r ta tb):=by
 intro pins s σ H Q I h
 exact wpAny_Compare1 (RZ ha hb I h λv u s2 x y H2 I2 rx ry q=>ho pins s2 σ H2 x y v u Q I2 rx ry q) hm
def YU (t:TE):TT:=λσ H Q=>t σ H λx H'=>∃ k,x=.bl k/\Q k H'
theorem dG {op:Rv} {r:R2} (ho:uX X (dz op) r) (ha:PE X a ta) (hb:PE X b tb) (hm:kD op b=false):PT X (.Compare a [op] [b] pos) (YU (tOp r ta tb)):=by
 intro pins s σ H Q I h
 refine Rj (fq (ha pins s σ H _ I h) λv s1 ⟨x,H1,I1,r1,q1⟩=>fq (hb pins s1 σ H1 _ I1 q1) λu s2 ⟨y,H2,I2,r2,q2⟩ =>
  fq (ho pins s2 σ H2 x y v u _ I2 r1 r2 q2) λc s3 ⟨z,H3,I3,r3,k,e,q3⟩=>?_) hm
 subst e
 cases r3
 exact eW ⟨H3,I3,q3⟩
def UA (r r':R2) (ta tb tc:TE):TE:=λσ H Q=>ta σ H λx H1=>tb σ H1 λy H2=>r x y H2 λz H3=>∃ k,z=.bl k /\
 (if k=true then tc σ H3 λw' H4=>r' y w' H4 Q else Q (.bl false) H3)
theorem LL {op op':Rv} {r r':R2} (ho:uX X (dz op) r) (ug:uX X (dz op') r') (ha:PE X a ta) (hb:PE X b tb) (hc:PE X c tc)
  (hm:lastMarks [op,op'] [b,c]=false:=by with_unfolding_all rfl):PE X (.Compare a [op,op'] [b,c] pos) (UA r r' ta tb tc):=by
 intro pins s σ H Q I h
 refine Compare_chain (fq (ha pins s σ H _ I h) λv s1 ⟨x,H1,I1,r1,q1⟩=>chain_link (fq (hb pins s1 σ H1 _ I1 q1) λu s2 ⟨y,H2,I2,r2,q2⟩ =>
  fq (ho pins s2 σ H2 x y v u _ I2 r1 r2 q2) λd s3 ⟨z,H3,I3,r3,k,e,q3⟩=>?_)) hm
 subst e
 cases r3
 refine eW ?_
 cases k with
 | false=>exact ite_ff ⟨.bl false,H3,I3,rfl,q3⟩
 | true=>exact ite_tt (chain_last (fq (hc pins s3 σ H3 _ I3 q3) λw' s4 ⟨z',H4,I4,r4,q4⟩=>ug pins s4 σ H4 y z' u w' Q I4 r2 r4 q4))
def VQ (K:ak) (x:V) (H:Hp) (k:Bool):Prop :=
 match x with
 | .e8=>k=false
 | .bl b=>k=b
 | .int i=>k=(i != 0)
 | .str y=>y.length<=aL/\k=((y.length:Int) != 0)
 | .DV y=>y.size<=aL/\k=((y.size:Int) != 0)
 | .ref p=>(∃ xs,bI K H p xs/\k=!xs.isEmpty)\/(∃ xs,gJ K H p xs/\k=!xs.isEmpty)\/∃ fv,H p=some (.dK fv)/\k=!fv.isEmpty
 | _=>False
theorem Eg {κ:Type} {fv:List (κ × V)} {vs:List (κ × ae)} (r:KV fv vs):(!vs.isEmpty)=!fv.isEmpty:=by
 cases r <;> rfl
theorem wq {xs:List V} {cH:List ae} (r:Vals xs cH):(!cH.toArray.isEmpty)=!xs.isEmpty:=by
 cases r <;> simp
theorem uk:(aL:Nat)<2 ^ 63:=by rw[Ur];decide
theorem UL:aba X (λx H Q=>∃ k,VQ X.K x H k/\Q k H):=by
 intro pins s σ H x v Q I rx h
 obtain⟨k,e,q⟩:=h
 have hl:=uk
 have hs:aL=16777216:=Ur
 cases x with
 | e8 =>
  cases rx
  have e':k=false:=e
  subst e'
  exact truthy_none ⟨H,I,q⟩
 | bl b =>
  cases rx
  have e':k=b:=e
  subst e'
  exact eW ⟨H,I,q⟩
 | int i =>
  obtain⟨t,rfl⟩:=rx
  have e':k=(i != 0):=e
  subst e'
  exact PySem.P.truthy_int ⟨H,I,q⟩
 | str y =>
  obtain⟨t,rfl⟩:=rx
  obtain⟨hy,e'⟩:y.length<=aL/\k=((y.length:Int) != 0):=e
  subst e'
  exact PySem.P.truthy_str (by omega) ⟨H,I.tok _,q⟩
 | DV y =>
  obtain⟨t,rfl⟩:=rx
  obtain⟨hy,e'⟩:y.size<=aL/\k=((y.size:Int) != 0):=e
  subst e'
  exact PySem.W.truthy_bytes (by omega) ⟨H,I.tok _,q⟩
 | ref p =>
  cases rx
  have e':(∃ xs,bI X.K H p xs/\k=!xs.isEmpty)\/(∃ xs,gJ X.K H p xs/\k=!xs.isEmpty)\/∃ fv,H p=some (.dK fv)/\k=!fv.isEmpty:=e
  rcases e' with ⟨xs,hx,e'⟩ | ⟨xs,hx,e'⟩ | ⟨fv,hx,e'⟩
  ·subst e'
   obtain⟨cH,r,pl,hz⟩:=I.list hx
   have hlen:=r.length
   exact wpAny_truthy_list pl.isList (by simp only [bu];omega) ⟨H,I.tok _,by rw[wq r];exact q⟩
  ·subst e'
   obtain⟨cH,r,pl,hz⟩:=I.tuple hx
   have hlen:=r.length
   exact truthy_tuple pl (by simp only [bu];omega) ⟨H,I.tok _,by rw[wq r];exact q⟩
  ·subst e'
   obtain⟨hz,hS,vs,r,m⟩:fv.length<=aL/\(p == oZ)=false/\∃ vs,KV fv vs/\s.heap.DictOf (gu X.prog X.w) p vs:=I.cU p _ hx
   have hlen:fv.length=vs.length:=lj r
   exact wpAny_truthy_dict hS m (by omega) ⟨H,I.tok _,by rw[Eg r];exact q⟩
 | _=>exact (show False from e).elim
theorem sO (ha:PE X a ta) (he:∀ whole,OI a X.env whole=(do let v ← whole;oF a.pos;gK [v] (truthy v))) :
  PT X a (λσ H Q=>ta σ H λx H'=>∃ k,VQ X.K x H' k/\Q k H'):=by
 intro pins s σ H Q I h
 refine isTrue_plain (fq (ha pins s σ H _ I h) λv s1 c6=>?_) (he _)
 obtain⟨x,H1,I1,r1,q1⟩:=c6
 exact UL pins s1 σ H1 x v Q I1 r1 q1
theorem a0h {x:V} {us:List ae} (r:Vals [x] us):∃ u,us=[u]/\RelV x u:=by
 cases r with
 | cons r1 r2=>cases r2;exact⟨_,rfl,r1⟩
theorem a0H {x y:V} {us:List ae} (r:Vals [x,y] us):∃ u w',us=[u,w']/\RelV x u/\RelV y w':=by
 cases r with
 | cons r1 r2 =>
  cases r2 with
  | cons r3 r4=>cases r4;exact⟨_,_,rfl,r1,r3⟩
theorem Hl (hc:X.calm=true):jG X (.builtin "max") (λxs H Q=>∃ i j,xs=[.int i,.int j]/\Q (.int (if j > i then j else i)) H):=by
 intro pins s σ H xs us Q I r h
 obtain⟨i,j,rfl,q⟩:=h
 obtain⟨u,w',rfl,⟨t,rfl⟩,⟨t',rfl⟩⟩:=a0H r
 refine max_two_ints (I.ok.hd hc) λh' tk k=>⟨_,H,I.kept k,?_,q⟩
 by_cases hj:j > i
 ·rw[if_pos hj,if_pos hj];exact⟨_,rfl⟩
 ·rw[if_neg hj,if_neg hj];exact⟨_,rfl⟩
end
structure DQ (h:bT) (x dx C:ah) (mA:aT->Option ae):Prop where
 obj:h.get? x=some (gz C dx)
 ns:h.Ns1 dx mA
 ne:dx≠x
theorem Ip {h:bT} {dx:ah} {mA:aT->Option ae} (n:h.Ns1 dx mA):∃ od,h.get? dx=some od/\∀ name,qD name od=some (mA name):=by
 obtain⟨o,es,ep,ho,hd,hk,_,hm⟩:=n
 refine⟨o,ho,λname=>?_⟩
 have e:=hm name
 unfold nsFind findBy at e
 rw[← Array.find?_toList] at e
 unfold qD
 rw[hd]
 dsimp only
 split
 ·rename_i y q
  rw[q] at e
  exact congrArg some e
 ·rename_i q
  rw[q] at e
  have a:es.toList.any (·.refKey)=false:=by
   rw[List.any_eq_false]
   intro y hy
   obtain⟨z,t,Op⟩:=hk y (Array.mem_toList_iff.mp hy)
   simp[DictEntry.refKey,Op]
  have a':¬ es.toList.any (·.refKey)=true:=by rw[a];exact bg
  rw[if_neg a']
  exact congrArg some e
theorem DQ.look {h:bT} {x dx C:ah} {mA:aT->Option ae} (I:DQ h x dx C mA):∃ od,PySem.W.InstAt h x (gz C dx) C (some od)/\∀ name,qD name od=some (mA name) :=
 let ⟨od,ho,hl⟩:=Ip I.ns
 ⟨od,⟨I.obj,rfl,rfl,ho⟩,hl⟩
section
variable {prog:aO} {w:bD} {A:bp} {E:ae->ai->Prop} {s:ai} {K:ak} {x dx C f:ah} {mA:aT->Option ae} {name:aT} {v:ae}
theorem a0E {expr:Bool} {Q:ae->ai->Prop} (X:K.In s.heap) (I:DQ s.heap x dx C mA) (hg:og K C name=true) (hh:tW K C=true)
  (ha:dQ K (.ref C) name=some none) (hv:mA name=some v) (Xg:JQ v=true) (h:Q v { s with toks:=s.toks+1 }) :
  wpAny (aS prog w) A (getAttr (.ref x) name expr) Q E s:=by
 obtain⟨od,J,hl⟩:=I.look
 exact PySem.W.get_value X J (q0 hg).1 (PySem.W.findObj_own hh ha rfl (by rw[hl,hv])) Xg h
theorem Kl {pl:RP Bool} {Q:ae × List ae->ai->Prop} (X:K.In s.heap) (I:DQ s.heap x dx C mA) (hg:og K C name=true)
  (hf:dQ K (.ref C) name=some (some (.ref f))) (ht:Cb K (.ref f)=true) (hv:mA name=none) (h:Q (.ref f,[.ref x]) s) :
  wpAny (aS prog w) A (mG (.ref x) name pl) Q E s:=by
 obtain⟨od,J,hl⟩:=I.look
 exact PySem.W.method_fn X J (q0 hg).1 (q0 hg).2 hf (beq_iff_eq.mp ht) (by show (qD name od).map (·.isSome)=some false;rw[hl,hv];rfl) h
theorem PJ {ns:List aT} {Q:Unit->ai->Prop} (X:K.In s.heap) (I:DQ s.heap x dx C mA)
  (hs:dQ K (.ref C) "__setattr__" = some (some (.builtin "object.__setattr__"))) (hp:Jl K C=true) (ht:vV K C name=some none) (hh:tW K C=true)
  (hw:DR mA ns) (hsz:ns.length<=aL)
  (h:∀ h',DQ h' x dx C (λy=>if y=name then some v else mA y)->fR dx s.heap h'->Q () { s with heap:=h',toks:=s.toks+2 }) :
  wpAny (aS prog w) A (setAttr (.ref x) name v) Q E s:=by
 obtain⟨od,J,hl⟩:=I.look
 refine PySem.W.set_plain X J hs (PySem.W.osa_open (s:={ s with toks:=s.toks+1 }) (r:=none) X J hp ht λb=>?_)
 obtain⟨cd,hc,Wq⟩:=PySem.W.any_some hh
 have hx:s.heap.get? x=some ⟨.ref C,some dx,.plain,#[]⟩:=I.obj
 refine aa (aq (aa (aa (wpAny_loadPart hx (aa (aa6 (s:={ s with toks:=s.toks+1 }) (PySem.W.looks_clsIn X hc) ?_))))))
 rw[Wq]
 refine aq (a:=some dx) (aa (aq (aa ?_)))
 refine wpAny_nsSet1 (s:={ s with toks:=s.toks+1 }) I.ns λh' KH Vi=>?_
 obtain⟨oD,esD,epD,hoD,hdD,hcD⟩:=KH.count (PySem.Within.cons name v hw)
 refine aa (wpAny_lookBehind hoD (by rw[hdD];exact pastItsLine_dict (cq hcD (by rw[bK];omega))) ?_)
 exact aq (h _ ⟨(Vi.2 _ (cS I.ne)).trans I.obj,KH,I.ne⟩ Vi)
theorem K7 {R:qF->ai->Prop} {vs:List ae} {kw:List (aT × ae)} (X:K.In s.heap) (hm:Ni K C=true)
  (hi:dQ K (.ref C) "__init__" = some (some (.ref f))) (hf:PySem.W.typeIn K (.ref f)=some (.type "function"))
  (h:codeAny (aS prog w) (A.under (.builtin "type.__call__" ⟨.ref C::vs,kw⟩)) (.call (.ref f) ⟨.ref (s.heap.objs.size+1)::vs,kw⟩) (PySem.W.InitBack (s.heap.objs.size+1) R)
   { s with heap:=(s.heap.push eI).push (gz C s.heap.objs.size) }) :
  codeAny (aS prog w) A (.call (.ref C) ⟨vs,kw⟩) R s:=by
 obtain⟨hh,g,d,t,os⟩:=s
 exact PySem.W.make_core (PySem.W.makes_of X hm) (PySem.W.looks_findIn X hi) (λself=>PySem.W.bind_fn X self hf) (.inl rfl) h
end
def bZ (f:aT) (v:V):List (aT × V)->List (aT × V)
 | []=>[(f,v)]
 | (g,x)::r=>if g=f then (g,v)::r else (g,x)::bZ f v r
theorem aQ (f g:aT) (v:V):∀ fs:List (aT × V),(bZ f v fs).lookup g=if g=f then some v else fs.lookup g
 | []=>by
  show fw g [(f,v)]=_
  by_cases h:g=f
  ·have hb:(g == f)=true:=beq_iff_eq.mpr h
   simp only [fw,hb,if_pos h]
  ·have hb:(g == f)=false:=beq_eq_false_iff_ne.mpr h
   simp only [fw,hb,if_neg h]
 | (k, x)::r=>by
  have ih:=aQ f g v r
  rw[show bZ f v ((k,x)::r)=(if k=f then (k,v)::r else (k,x)::bZ f v r) from rfl]
  by_cases hk:k=f
  ·rw[if_pos hk]
   by_cases h:g=k
   ·have hb:(g == k)=true:=beq_iff_eq.mpr h
    simp only [fw,hb,if_pos (h.trans hk)]
   ·have hb:(g == k)=false:=beq_eq_false_iff_ne.mpr h
    simp only [fw,hb,if_neg (λe:g=f=>h (e.trans hk.symm))]
  ·rw[if_neg hk]
   by_cases h:g=k
   ·have hb:(g == k)=true:=beq_iff_eq.mpr h
    simp only [fw,hb,if_neg (λe:g=f=>hk (h.symm.trans e))]
   ·have hb:(g == k)=false:=beq_eq_false_iff_ne.mpr h
    simp only [fw,hb]
    exact ih
theorem ui (f:aT) (v:V):∀ fs:List (aT × V),f∈(bZ f v fs).map (·.1)/\∀ g,g∈fs.map (·.1)->g∈(bZ f v fs).map (·.1)
 | []=>⟨by simp[bZ],λg h=>by simp at h⟩
 | (k, x)::r=>by
  obtain⟨i1,i2⟩:=ui f v r
  rw[show bZ f v ((k,x)::r)=(if k=f then (k,v)::r else (k,x)::bZ f v r) from rfl]
  by_cases hk:k=f
  ·rw[if_pos hk]
   subst hk
   exact⟨by simp,λg h=>by simpa using h⟩
  ·rw[if_neg hk]
   refine⟨?_,λg h=>?_⟩
   ·rw[dg]
    exact bc _ i1
   ·rw[dg] at h ⊢
    rcases aE.mp h with e | e
    ·exact aE.mpr (.inl e)
    ·exact bc _ (i2 g e)
theorem jK (f:aT) (v:V):∀ fs:List (aT × V),(bZ f v fs).length<=fs.length+1
 | []=>by simp[bZ]
 | (k,x)::r=>by
  have ih:=jK f v r
  rw[show bZ f v ((k,x)::r)=(if k=f then (k,v)::r else (k,x)::bZ f v r) from rfl]
  by_cases hk:k=f
  ·rw[if_pos hk,bK,bK];omega
  ·rw[if_neg hk,bK,bK];omega
theorem qE.some_of {v:V} {o:Option ae} (r:qE (some v) o):∃ u,o=some u/\RelV v u:=by
 cases o with
 | none=>exact (show False from r).elim
 | some u=>exact⟨u,rfl,r⟩
theorem qE.none_of {o:Option ae} (r:qE none o):o=none:=by
 cases o with
 | none=>rfl
 | some u=>exact (show False from r).elim
theorem HP {v:V} {u:ae} (r:RelV v u):JQ u=true:=by
 cases v with
 | e8=>cases (show u=iE from r);rfl
 | bl b=>cases (show u=pA b from r);rfl
 | int i=>obtain⟨t,e⟩:=(show ∃ t,u=gY i t from r);cases e;rfl
 | str x=>obtain⟨t,e⟩:=(show ∃ t,u=vX x t from r);cases e;rfl
 | DV b=>obtain⟨t,e⟩:=(show ∃ t,u=Zr b t from r);cases e;rfl
 | QC b=>obtain⟨t,e⟩:=(show ∃ t,u=G9 b t from r);cases e;rfl
 | ref a=>cases (show u=bA a from r);rfl
 | ty n=>cases (show u=jb n from r);rfl
section
variable {P:aO} {w:bD} {H H':Hp} {h h':bT} {a C dx:ah} {fs U8:List (aT × V)}
theorem vB (cU:o5 P w H h) (e:H a=some (.ins C dx fs)):∃ mA,DQ h a dx C mA/\(∀ f,qE (fs.lookup f) (mA f))/\DR mA (fs.map (·.1))/\fs.length<=1000/\H dx=some (.own a):=by
 obtain⟨d,z,ne,ob,mA,n,r,q⟩:=(show gj P w H h a (.ins C dx fs) from cU a _ e)
 exact⟨mA,⟨ob,n,ne⟩,r,q,z,d⟩
end
structure BC (K:ak) (C:ah):Prop where
 pg:og K C Str.empty=true
 hd:tW K C=true
 po:Jl K C=true
 sa:dQ K (.ref C) "__setattr__" = some (some (.builtin "object.__setattr__"))
theorem BC.get {K:ak} {C:ah} (c:BC K C) (f:aT):og K C f=true:=c.pg
def lW (K:ak) (C:ah) (f:aT):Prop:=dQ K (.ref C) f=some none
theorem lW.YV {K:ak} {C:ah} {f:aT} (n:lW K C f):vV K C f=some none:=by
 unfold vV
 rw[show dQ K (.ref C) f=some none from n]
 rfl
structure Meth (K:ak) (C:ah) (m:aT) (f:ah):Prop where
 at_:dQ K (.ref C) m=some (some (.ref f))
 fn:Cb K (.ref f)=true
 kp:iX K (.ref f)=true
section
variable {X:Cx} {pins:List (ah × d6)} {σ:St} {H:Hp} {s:ai} {a C dx:ah} {fs:List (aT × V)} {f:aT} {v:V} {A:bp} {E:ae->ai->Prop}
theorem we {b:Bool} {Q:ae->ai->Prop} (I:Inv X pins σ H s) (e:H a=some (.ins C dx fs)) (c:BC X.K C) (n:lW X.K C f) (l:fs.lookup f=some v)
  (h:∀ u s',Inv X pins σ H s'->RelV v u->Q u s'):wpAny (aS X.prog X.w) A (getAttr (.ref a) f b) Q E s:=by
 obtain⟨mA,O,r,_,_,_⟩:=vB I.cU e
 obtain⟨u,hu,ru⟩:=qE.some_of (v:=v) (o:=mA f) (by rw[← l];exact r f)
 exact a0E I.qQ O (c.get f) c.hd n hu (HP ru) (h u _ (I.tok _) ru)
theorem oo {m:aT} {g:ah} {pl:RP Bool} {Q:ae × List ae->ai->Prop} (I:Inv X pins σ H s) (e:H a=some (.ins C dx fs)) (c:BC X.K C) (k:Meth X.K C m g) (l:fs.lookup m=none)
  (h:Q (.ref g,[.ref a]) s):wpAny (aS X.prog X.w) A (mG (.ref a) m pl) Q E s:=by
 obtain⟨mA,O,r,_,_,_⟩:=vB I.cU e
 have hn:mA m=none:=qE.none_of (by rw[← l];exact r m)
 exact Kl I.qQ O (c.get m) k.at_ k.fn hn h
theorem wZ {y:V} {u:ae} {Q:Unit->ai->Prop} (I:Inv X pins σ H s) (e:H a=some (.ins C dx fs)) (c:BC X.K C) (n:lW X.K C f) (hl:fs.length<1000) (ry:RelV y u)
  (h:∀ s',Inv X pins σ (upd H a (.ins C dx (bZ f y fs))) s'->Q () s'):wpAny (aS X.prog X.w) A (setAttr (.ref a) f u) Q E s:=by
 obtain⟨mA,O,r,wi,_,ho⟩:=vB I.cU e
 have hz:(fs.map (·.1)).length<=aL:=by rw[aj,Ur];omega
 refine PJ I.qQ O c.sa c.po n.YV c.hd wi hz λh' O' sb=>h _ ?_
 have hd:∃ o,h'.get? dx=some o:=let ⟨o,_,_,e',_⟩:=O'.ns;⟨o,e'⟩
 refine I.write (x:=a) (e:=dx) (by rw[e];exact ko) (.inr ho) (λb q hb z=>(sb.2 b hb).trans z) hd ?_
 refine⟨by rw[bB O.ne];exact ho,?_,O.ne,O'.obj,_,O'.ns,λg=>?_,λg hg=>?_⟩
 ·have:=jK f y fs;omega
 ·show qE ((bZ f y fs).lookup g) (if g=f then some u else mA g)
  rw[aQ]
  by_cases q:g=f
  ·rw[if_pos q,if_pos q];exact ry
  ·rw[if_neg q,if_neg q];exact r g
 ·by_cases q:g=f
  ·rw[q];exact (ui f y fs).1
  ·refine (ui f y fs).2 g (wi g λz=>hg ?_)
   show (if g=f then some u else mA g)=none
   rw[if_neg q];exact z
theorem Inv.made (I:Inv X pins σ H s):Inv X pins σ (upd (upd H s.heap.objs.size (.own (s.heap.objs.size+1))) (s.heap.objs.size+1) (.ins C s.heap.objs.size []))
  { s with heap:=(s.heap.push eI).push (gz C s.heap.objs.size) }:=by
 have e1:(s.heap.push eI).get? s.heap.objs.size=some eI:=aF s.heap rfl
 have e2:((s.heap.push eI).push (gz C s.heap.objs.size)).get? (s.heap.objs.size+1)=some (gz C s.heap.objs.size):=by
  have:=aF (s.heap.push eI) (o:=gz C s.heap.objs.size) rfl
  rwa [dW] at this
 have e3:(s.heap.push eI).Ns s.heap.objs.size (λ_=>none):=⟨eI,#[],_,e1,rfl,(λe he=>absurd he (by simp)),λ_=>rfl⟩
 have I1:=I.laid (a:=s.heap.objs.size) (o:=.own (s.heap.objs.size+1)) (h':=s.heap.push eI) (t':=s.toks) (λb u q=>al _ q) (aA _) ⟨_,e1⟩
 refine I1.laid (a:=s.heap.objs.size+1) (o:=.ins C s.heap.objs.size []) (t':=s.toks) (λb u q=>al _ q) (G3 (dW _ _)) ?_
 have ne:s.heap.objs.size≠s.heap.objs.size+1:=aR (de _)
 refine⟨by rw[bB ne,ar],bE _,ne,e2,λ_=>none,(Heap.Ns1.of_empty e3).at λo q=>al _ q,λ_=>ko,λy hy=>absurd rfl hy⟩
theorem N2 {prog:aO} {w:bD} {env:qA} {e:bR} {f:aT} {pos:gR} {s:ai} {Q:ae->ai->Prop} (hb:qG e f env (dU e env)=dU e env)
  (h:wpAny (aS prog w) A (dU e env) (λo s₁=>wpAny (aS prog w) A (getAttr o f true) Q E s₁) E s):wpAny (aS prog w) A (dU (.Attribute e f pos) env) Q E s :=
 Attribute_any_ h (by rw[arm_eval_Attribute,hb])
end
def YM (K:ak) (ta:TE) (f:aT):TE:=λσ H Q=>ta σ H λx H1=>∃ a C dx fs v,x=.ref a/\H1 a=some (.ins C dx fs)/\BC K C/\lW K C f/\fs.lookup f=some v/\Q v H1
def Yw (K:ak) (ta tv:TE) (f:aT):TS:=λD σ H=>tv σ H λy H1=>ta σ H1 λx H2=>∃ a C dx fs,x=.ref a/\H2 a=some (.ins C dx fs)/\BC K C/\lW K C f/\fs.length<1000 /\
 D.nx σ (upd H2 a (.ins C dx (bZ f y fs)))
def VD (X:Cx) (op:Aa) (rd:V->V->Hp->VK->Prop):Prop :=
 ∀ (pins:List (ah × d6)) (s:ai) (σ:St) (H:Hp) (x y:V) (u v:ae) (Q:VK),Inv X pins σ H s->RelV x u->RelV y v->rd x y H Q->wpAny (aS X.prog X.w) X.A (inplaceOp op u v) (EP X pins σ Q) X.xe s
def Gr (K:ak) (ta tv:TE) (rd:V->V->Hp->VK->Prop) (f:aT):TS:=λD σ H=>ta σ H λx H1=>∃ a C dx fs v,x=.ref a/\H1 a=some (.ins C dx fs)/\BC K C/\lW K C f/\fs.lookup f=some v /\
 tv σ H1 λy H2=>rd v y H2 λz H3=>∃ Ka U8,H3 a=some (.ins C Ka U8)/\U8.length<1000/\D.nx σ (upd H3 a (.ins C Ka (bZ f z U8)))
section
variable {X:Cx} {o e value:bR} {f:aT} {pos pos' rM:gR} {ta tv:TE}
theorem Ub (he:PE X e ta) (hb:qG e f X.env (dU e X.env)=dU e X.env):PE X (.Attribute e f pos) (YM X.K ta f):=by
 intro pins s σ H Q I h
 refine N2 hb (fq (he pins s σ H _ I h) λu s1 c6=>?_)
 obtain⟨x,H1,I1,rx,a,C,dx,fs,v,ex,ea,c,n,l,q⟩:=c6
 subst ex
 obtain rfl:u=bA a:=rx
 exact we I1 ea c n l λu' s2 I2 ru=>⟨v,H1,I2,ru,q⟩
theorem Uf (ha:PE X o ta) (hv:PE X value tv) (hs:rK value (some (.Attribute o f pos')) pos.line X.env=pure false):PS X (.Assign [.Attribute o f pos'] value pos) (Yw X.K ta tv f):=by
 intro pins s σ H D I h
 refine plainObj_wpAny_Assign_Attribute (fq (hv pins s σ H _ I h) λu s1 c6=>?_) hs
 obtain⟨y,H1,I1,ry,q⟩:=c6
 refine fq (ha pins s1 σ H1 _ I1 q) λov s2 CA=>?_
 obtain⟨x,H2,I2,rx,a,C,dx,fs,ex,ea,c,n,l,q2⟩:=CA
 subst ex
 obtain rfl:ov=bA a:=rx
 exact wZ I2 ea c n l ry λs3 I3=>⟨σ,_,I3,q2⟩
theorem ID {op:Aa} {rd:V->V->Hp->VK->Prop} (ha:PE X o ta) (hv:PE X value tv) (hop:VD X op rd):PS X (.AugAssign (.Attribute o f rM) op value pos) (Gr X.K ta tv rd f):=by
 intro pins s σ H D I h
 refine wpAny_AugAssign_AttributeAny (fq (ha pins s σ H _ I h) λov s1 c6=>?_)
 obtain⟨x,H1,I1,rx,a,C,dx,fs,v,ex,ea,c,n,l,q⟩:=c6
 subst ex
 obtain rfl:ov=bA a:=rx
 refine we I1 ea c n l λu s2 I2 ru=>fq (hv pins s2 σ H1 _ I2 q) λw3 s3 c6=>?_
 obtain⟨y,H2,I3,ry,q3⟩:=c6
 refine fq (hop pins s3 σ H2 v y u w3 _ I3 ru ry q3) λw4 s4 CA=>?_
 obtain⟨z,H3,I4,rz,Ka,U8,ea',l',q4⟩:=CA
 exact wZ I4 ea' c n l' rz λs5 I5=>⟨σ,_,I5,q4⟩
end
section
variable {X:Cx} {pins:List (ah × d6)} {σ:St} {H:Hp} {s:ai} {A:bp} {E:ae->ai->Prop} {Q:ae->ai->Prop} {c:ae} {b:Bool}
inductive tZ (K:ak) (H:Hp):V->ae->Prop where
 | e8:tZ K H .e8 (.type "NoneType")
 | bl (x:Bool):tZ K H (.bl x) (.type "bool")
 | int (i:Int):tZ K H (.int i) (.type "int")
 | str (x:aT):tZ K H (.str x) (.type "str")
 | QC (x:UInt64):tZ K H (.QC x) (.type "float")
 | lst {a:ah} {xs:List V} (e:H a=some (.lst xs)):tZ K H (.ref a) (.type "list")
 | Au {a:ah} {o:d6} {xs:List V} (e:H a=some (.Au o (.lst xs))):tZ K H (.ref a) (.type "list")
 | tup {a:ah} {xs:List V} (e:H a=some (.tup xs)):tZ K H (.ref a) (.type "tuple")
 | dK {a:ah} {fv:List (Key × V)} (e:H a=some (.dK fv)):tZ K H (.ref a) (.type "dict")
 | dT {a:ah} {fv:List (List Key × V)} (e:H a=some (.dT fv)):tZ K H (.ref a) (.type "dict")
 | ins {a C dx:ah} {fs:List (aT × V)} (e:H a=some (.ins C dx fs)) (cl:BC K C) (ha:dQ K (.ref C) "__class__" = some (some (.builtin "object.__class__")))
   (hn:Jm K (.builtin "object.__class__") "__get__" = some (some (.builtin "getset_descriptor.__get__"))) (Vj:Nj K (.builtin "object.__class__")=some true)
   (hm:Ab K C (.type "object")=some true):tZ K H (.ref a) (.ref C)
theorem Ig {x:V} {u t:ae} (I:Inv X pins σ H s) (rx:RelV x u) (ty:tZ X.K H x t) (e:cF X.K t c=some b) (h:∀ tk,Q (.bool b) { s with toks:=tk }) :
  wpAny (aS X.prog X.w) A (qH (.builtin "isinstance") [u,c]) Q E s:=by
 cases ty with
 | e8=>cases (show u=iE from rx);exact dt PySem.W.kitx_none I.qQ ko e (λz=>nomatch z) h
 | bl y=>cases (show u=pA y from rx);exact dt PySem.W.kitx_bool I.qQ ko e (λz=>nomatch z) h
 | int i=>obtain⟨t,q⟩:=(show ∃ t,u=gY i t from rx);cases q;exact dt PySem.W.kitx_int I.qQ ko e (λz=>nomatch z) h
 | str y=>obtain⟨t,q⟩:=(show ∃ t,u=vX y t from rx);cases q;exact dt PySem.W.kitx_str I.qQ ko e (λz=>nomatch z) h
 | QC y=>obtain⟨t,q⟩:=(show ∃ t,u=G9 y t from rx);cases q;exact dt PySem.W.kitx_float I.qQ ko e (λz=>nomatch z) h
 | @lst a xs ea =>
  cases (show u=bA a from rx)
  obtain⟨_,_,n,_,h1⟩:=(show gj X.prog X.w H s.heap a (.lst xs) from I.cU a _ ea)
  exact dt Jk I.qQ ⟨_,h1,rfl⟩ e (λz=>nomatch z) h
 | @Au a ob xs ea =>
  cases (show u=bA a from rx)
  obtain⟨_,_,_,n,_,h1⟩:=(show gj X.prog X.w H s.heap a (.Au ob (.lst xs)) from I.cU a _ ea)
  exact dt Jk I.qQ ⟨_,h1,rfl⟩ e (λz=>nomatch z) h
 | @tup a xs ea =>
  cases (show u=bA a from rx)
  obtain⟨_,_,_,p⟩:=(show gj X.prog X.w H s.heap a (.tup xs) from I.cU a _ ea)
  obtain⟨o,h1,h2,_⟩:=p
  exact dt PySem.W.kitx_tuple I.qQ ⟨o,h1,h2⟩ e (λz=>nomatch z) h
 | @dK a fv ea =>
  cases (show u=bA a from rx)
  obtain⟨_,_,vs,_,p⟩:=(show gj X.prog X.w H s.heap a (.dK fv) from I.cU a _ ea)
  obtain⟨o,es,ep,h1,h2,_⟩:=p
  exact dt Jj I.qQ ⟨o,h1,h2.1⟩ e (λz=>nomatch z) h
 | @dT a fv ea =>
  cases (show u=bA a from rx)
  obtain⟨_,_,xs,_,o,es,ep,h1,h2,_⟩:=(show gj X.prog X.w H s.heap a (.dT fv) from I.cU a _ ea)
  exact dt Jj I.qQ ⟨o,h1,h2.1⟩ e (λz=>nomatch z) h
 | @ins a C dx fs ea cl ha hn Vj hm =>
  cases (show u=bA a from rx)
  obtain⟨mA,O,_⟩:=vB I.cU ea
  obtain⟨od,J,_⟩:=O.look
  exact dt (PySem.W.kitx_own (cl.get _) cl.hd ha hn Vj hm) I.qQ J e (λz=>nomatch z) h
end
structure eP (k:Nat) (A:bp):Prop where
 hd:A.handled=none
 dp:A.depth+3*k+5<recursionLimit
 un:A.units+16*k+200<jx
theorem eP.mono {j k:Nat} {A:bp} (r:eP k A) (h:j<=k):eP j A:=⟨r.hd,by have:=r.dp;omega,by have:=r.un;omega⟩
theorem eP.deeper {k:Nat} {A:bp} (r:eP (k+1) A) (env:qA):eP k (A.deeper env) :=
 ⟨r.hd,by have:=r.dp;show A.depth+1+3*k+5<_;omega,by have:=r.un;show A.units+3+16*k+200<_;omega⟩
theorem eP.in1 {k:Nat} {A:bp} (r:eP (k+1) A):eP k A.in1 :=
 ⟨r.hd,by have:=r.dp;show A.depth+3*k+5<_;omega,by have:=r.un;show A.units+1+16*k+200<_;omega⟩
theorem Em {A:bp} {C:ah} {us:List ae} {kw:List (aT × ae)}:(A.under (.builtin "type.__call__" ⟨.ref C::us,kw⟩)).depth=A.depth+1:=by
 first | rfl | simp[o4,Code.weight,Code.isCreation,Code.isGuard,Code.isCaller,aaN,qf,guardIds]
theorem En {A:bp} {C:ah} {us:List ae} {kw:List (aT × ae)}:(A.under (.builtin "type.__call__" ⟨.ref C::us,kw⟩)).units=A.units+1:=by
 first | rfl | simp[o4,Code.cUnits,aaN,qf]
theorem eP.make {k:Nat} {A:bp} (r:eP (k+1) A) (C:ah) (us:List ae) (kw:List (aT × ae)):eP k (A.under (.builtin "type.__call__" ⟨.ref C::us,kw⟩)) :=
 ⟨r.hd,by have:=r.dp;rw[Em];omega,by have:=r.un;rw[En];omega⟩
theorem eP.depth {k:Nat} {A:bp} (r:eP k A):A.depth<recursionLimit:=by have:=r.dp;omega
theorem eP.units {k:Nat} {A:bp} (r:eP k A):A.units+64<jx:=by have:=r.un;omega
def vn:TA:=λ_ H Q=>Q [] H
def zr (ta:TE) (tr:TA):TA:=λσ H Q=>ta σ H λx H1=>tr σ H1 λxs H2=>Q (x::xs) H2
section
variable {X:Cx} {e:bR} {es:List bR} {te:TE} {t:TA} {pos:gR}
theorem av:PA X [] vn:=λ_ _ _ _ H Q I h=>M6 ⟨[],H,I,.nil,h⟩
theorem af (ha:PE X e te) (hr:PA X es t) (hs:aV (e::es) X.env=(false,dU e X.env)::aV es X.env:=by rfl):PA X (e::es) (zr te t):=by
 intro pos pins s σ H Q I h
 rw[hs]
 show wpAny _ _ (spliced ((false,dU e X.env)::d9 pos (aV es X.env))) _ _ s
 refine JG (fq (ha pins s σ H _ I h) λu s1 c6=>?_)
 obtain⟨x,H1,I1,r1,q1⟩:=c6
 refine fq (hr pos pins s1 σ H1 _ I1 q1) λus s2 c6=>?_
 obtain⟨xs,H2,I2,r2,q2⟩:=c6
 exact⟨x::xs,H2,I2,.cons r1 r2,q2⟩
def aev (t:TA):TE:=λσ H Q=>t σ H λxs H1=>xs.length<=aL/\∀ p,H1 p=none->Q (.ref p) (upd H1 p (.tup xs))
def aes (t:TA):TE:=λσ H Q=>t σ H λxs H1=>xs.length<=aL/\∀ p,H1 p=none->Q (.ref p) (upd H1 p (.lst xs))
theorem jF {x1} (h:PA X es t):PE X (.Tuple es x1 pos) (aev t):=by
 intro pins s σ H Q I hq
 refine wpAny_Tuple_spliced (fq (h pos pins s σ H _ I hq) λus s1 c6=>?_)
 obtain⟨xs,H1,I1,r,z,q⟩:=c6
 refine⟨by rw[← r.length];exact z,?_⟩
 have hf:H1 s1.heap.objs.size=none:=I1.cU.fresh (aA _)
 refine⟨.ref s1.heap.objs.size,upd H1 s1.heap.objs.size (.tup xs),I1.laid (t':=s1.toks) (λb u e=>al _ e) (aA _) ?_,rfl,q _ hf⟩
 exact⟨z,us,r,⟨_,aF _ rfl,rfl,_,rfl⟩⟩
theorem fb (h:PA X es t):PE X (.List es pos) (aes t):=by
 intro pins s σ H Q I hq
 refine wpAny_List_spliced (fq (h pos pins s σ H _ I hq) λus s1 c6=>?_)
 obtain⟨xs,H1,I1,r,z,q⟩:=c6
 refine⟨by rw[← r.length];exact z,?_⟩
 have hf:H1 s1.heap.objs.size=none:=I1.cU.fresh (aA _)
 refine⟨.ref s1.heap.objs.size,upd H1 s1.heap.objs.size (.lst xs),I1.laid (t':=s1.toks) (λb u e=>al _ e) (aA _) ?_,rfl,q _ hf⟩
 exact⟨z,us,0,r,aF _ rfl⟩
end
abbrev Sp:=List V->Hp->VK->XK->Prop
abbrev JF:=List qA->Hp->ai->XK->ae->ai->Prop
structure vP (P:aO) (w:bD) (K:ak) (mg:aT->Option ae) (base:bT) (A:bp) (outer:List qA) (s:ai) (H:Hp):Prop where
 frames:A.frames=some outer
 mod:Mod K mg base
 bs:∀ b o,base.get? b=some o->s.heap.get? b=some o/\H b=none
 Jo:base.objs.size<=s.heap.objs.size
 pF:s.heap.FunFrames base outer
 Ki:∀ b∈qO outer,H b=none
 cU:o5 P w H s.heap
 bare:n5 s.gens
def CE (outer:List qA) (P:aO) (w:bD) (H:Hp) (s:ai) (Q:VK) (u:ae) (s':ai):Prop :=
 ∃ v H',s'.os=s.os/\n5 s'.gens/\Un (qO outer) [] H H' s.heap s'.heap/\o5 P w H' s'.heap/\RelV v u/\Q v H'
def CR (CX:JF) (outer:List qA) (P:aO) (w:bD) (H:Hp) (s:ai) (Q:VK) (E:XK) (r:qF) (s':ai):Prop :=
 match r with
 | .ok (.ret u)=>CE outer P w H s Q u s'
 | .ok _=>False
 | .error e=>CX outer H s E e s'
structure nO (P:aO) (w:bD) (K:ak) (mg:aT->Option ae) (base:bT) (CX:JF) (k:Nat) (f:ah) (fd:fJ) (ps:List aT) (sp:Sp):Prop where
 len:∀ vs H Q E,sp vs H Q E->vs.length=ps.length
 run:∀ (A:bp) (outer:List qA) (s:ai) (H:Hp) (args:Args) (us:List ae) (vs:List V) (Q:VK) (E:XK),eP k A->vP P w K mg base A outer s H->NI s fd args (ps.zip us)->Vals vs us->sp vs H Q E ->
  codeAny (aS P w) A (.call (.ref f) args) (CR CX outer P w H s Q E) s
theorem vP.make {P:aO} {w:bD} {K:ak} {mg:aT->Option ae} {base:bT} {A:bp} {outer:List qA} {s:ai} {H:Hp} (e:vP P w K mg base A outer s H) (C:ah) (us:List ae) (kw:List (aT × ae)) :
  vP P w K mg base (A.under (.builtin "type.__call__" ⟨.ref C::us,kw⟩)) outer s H:=⟨by first | exact e.frames | (simpa [o4,Qj,qf,pushEnvs] using e.frames),e.mod,e.bs,e.Jo,e.pF,e.Ki,e.cU,e.bare⟩
theorem vP.in1 {P:aO} {w:bD} {K:ak} {mg:aT->Option ae} {base:bT} {A:bp} {outer:List qA} {s:ai} {H:Hp} (e:vP P w K mg base A outer s H) :
  vP P w K mg base A.in1 outer s H:=⟨e.frames,e.mod,e.bs,e.Jo,e.pF,e.Ki,e.cU,e.bare⟩
section
variable {X:Cx} {pins:List (ah × d6)} {σ:St} {H:Hp} {s s':ai}
theorem Inv.HI (I:Inv X pins σ H s):vP X.prog X.w X.K X.mg X.base X.A X.stack s H :=
 ⟨I.ok.frames,I.ok.mod,I.bs,cq I.ok.Jo I.sz,I.stack,I.Bv,I.cU,I.bare⟩
theorem Inv.after {Q:VK} {u:ae} (I:Inv X pins σ H s) (h:CE X.stack X.prog X.w H s Q u s'):EP X pins σ Q u s':=by
 obtain⟨v,H',os,bare,un,cU,r,q⟩:=h
 obtain⟨hh,g,d,t,os'⟩:=s'
 obtain rfl:os'=s.os:=os
 exact⟨v,H',I.call (h':=hh) (g':=g) (d':=d) (t':=t) (ch:=[]) un cU bare (λb z=>absurd z (by simp)),r,q⟩
end
def MB (sp:Sp) (xU:List V) (E:XK) (t:TA):TE:=λσ H Q=>t σ H λvs H1=>sp (vs++xU) H1 Q E
def sZ (C:ah) (m:aT) (sp:Sp) (xU:List V) (E:XK) (ta:TE) (t:TA):TE:=λσ H Q=>ta σ H λx H1=>∃ a dx fs,x=.ref a/\H1 a=some (.ins C dx fs)/\fs.lookup m=none /\
 t σ H1 λvs H2=>sp (x::(vs++xU)) H2 Q E
def Q7 (C:ah) (sp:Sp) (xU:List V) (E:XK) (t:TA):TE:=λσ H Q=>t σ H λvs H1=>∀ x dx,H1 x=none->H1 dx=none->dx≠x ->
 sp (.ref x::(vs++xU)) (upd (upd H1 dx (.own x)) x (.ins C dx [])) (λv H2=>v=.e8/\Q (.ref x) H2) E
def Binds (K:ak) (fd:fJ) (ps:List aT) (ds:List ae):Prop :=
 ∀ (s:ai) (us:List ae),K.In s.heap->(us++ds).length=ps.length->NI s fd ⟨us,[]⟩ (ps.zip (us++ds))
theorem Binds.all {K:ak} {fd:fJ} {ps:List aT} (h:∀ us:List ae,us.length=ps.length->oQ fd ⟨us,[]⟩=pure (ps.zip us)):Binds K fd ps []:=λs us _ hl=>by
 rw[ef] at hl ⊢
 exact .of_eq (h us hl)
def a0f (CX:JF) (X:Cx) (E:XK):Prop:=∀ (pins:List (ah × d6)) (σ:St) (H:Hp) (s:ai) (e:ae) (s':ai),Inv X pins σ H s->CX X.stack H s E e s'->X.xe e s'
section
variable {X:Cx} {CX:JF} {k:Nat} {f C:ah} {fd:fJ} {ps:List aT} {sp:Sp} {xU:List V} {ds:List ae} {E:XK} {x m:aT} {p pos apos:gR} {e o:bR} {es:List bR} {ta:TE} {t:TA}
theorem EJ {pins:List (ah × d6)} {σ:St} {H:Hp} {s:ai} {Q:VK} {us:List ae} {vs:List V} (F:nO X.prog X.w X.K X.mg X.base CX k f fd ps sp) (hr:eP k X.A) (hb:Binds X.K fd ps ds) (hd:Vals xU ds) (hx:a0f CX X E)
  (I:Inv X pins σ H s) (r:Vals vs us) (h:sp (vs++xU) H Q E):wpAny (aS X.prog X.w) X.A (qH (.ref f) us) (EP X pins σ Q) X.xe s:=by
 have r2:Vals (vs++xU) (us++ds):=r.append hd
 have hl:(us++ds).length=ps.length:=by rw[← r2.length];exact F.len _ _ _ _ h
 refine yq (iY (F.run X.A X.stack s H ⟨us,[]⟩ (us++ds) (vs++xU) Q E hr I.HI (hb s us I.qQ hl) r2 h) λr s' hq=>?_)
 cases r with
 | error e=>exact hx pins σ H s e s' I hq
 | ok fl =>
  cases fl with
  | ret u=>exact I.after hq
  | next=>exact dR hq
  | brk=>exact dR hq
  | cont=>exact dR hq
theorem F5 (F:nO X.prog X.w X.K X.mg X.base CX k f fd ps sp) (hr:eP k X.A) (hg:Gl X x) (hm:X.mg x=some (.ref f)) (hk:iX X.K (.ref f)=true) (hb:Binds X.K fd ps ds) (hd:Vals xU ds) (hx:a0f CX X E)
  (ha:PA X (e::es) t) (Cy:(x == ("__debug__" : aT))=false:=by decide) (he:aV (e::es) X.env=(false,dU e X.env)::aV es X.env:=by rfl) (oT:(d9 pos (aV es X.env)).any (·.1)=false:=by rfl) :
  PE X (.Call (.Name x p) (e::es) [] pos) (MB sp xU E t):=by
 intro pins s σ H Q I h
 refine i8 (sF I hg hm ?_ Cy)
 refine mF (h₀:=X.base) I.ok.mod.NB hk (fq (ha pos pins s σ H _ I h) λus s1 c6=>?_) he oT
 obtain⟨vs,H1,I1,r,q⟩:=c6
 refine⟨I1.qQ,?_⟩
 exact EJ F hr hb hd hx I1 r q
theorem F9 {pl:RP Bool} (he:PE X o ta) (c:BC X.K C) (hm:Meth X.K C m f) (F:nO X.prog X.w X.K X.mg X.base CX k f fd ps sp) (hr:eP k X.A) (hb:Binds X.K fd ps ds) (hd:Vals xU ds) (hx:a0f CX X E) (ha:PA X (e::es) t)
  (o7:aV (e::es) X.env=(false,dU e X.env)::aV es X.env:=by rfl) (oT:(d9 pos (aV es X.env)).any (·.1)=false:=by rfl)
  (ht:dU (.Call (.Attribute o m apos) (e::es) [] pos) X.env=(do
   let ov ← dU o X.env
   oF apos.atName
   let (f,first) ← gK [ov] (mG ov m pl)
   u9 pos f first (d9 pos (aV (e::es) X.env)) (gF pos (d5 [] X.env))):=by rfl) :
  PE X (.Call (.Attribute o m apos) (e::es) [] pos) (sZ C m sp xU E ta t):=by
 intro pins s σ H Q I h
 refine kN (pl:=pl) (fq (he pins s σ H _ I h) λu s1 c6=>?_) ht
 obtain⟨x,H1,I1,rx,a,dx,fs,ex,ea,l,q⟩:=c6
 subst ex
 obtain rfl:u=bA a:=rx
 refine oo I1 ea c hm l ?_
 refine mF (first:=[.ref a]) (h₀:=X.base) I.ok.mod.NB hm.kp (fq (ha pos pins s1 σ H1 _ I1 q) λus s2 c6=>?_) o7 oT
 obtain⟨vs,H2,I2,r,q2⟩:=c6
 refine⟨I2.qQ,?_⟩
 exact EJ (us:=.ref a::us) (vs:=.ref a::vs) F hr hb hd hx I2 (.cons rfl r) q2
theorem LN {pl:RP Bool} (he:PE X o ta) (c:BC X.K C) (hm:Meth X.K C m f) (F:nO X.prog X.w X.K X.mg X.base CX k f fd ps sp) (hr:eP k X.A) (hb:Binds X.K fd ps ds) (hd:Vals xU ds) (hx:a0f CX X E)
  (ht:dU (.Call (.Attribute o m apos) [] [] pos) X.env=(do
   let ov ← dU o X.env
   oF apos.atName
   let (f,first) ← gK [ov] (mG ov m pl)
   u9 pos f first (d9 pos (aV [] X.env)) (gF pos (d5 [] X.env))):=by rfl) :
  PE X (.Call (.Attribute o m apos) [] [] pos) (sZ C m sp xU E ta vn):=by
 intro pins s σ H Q I h
 refine kN (pl:=pl) (fq (he pins s σ H _ I h) λu s1 c6=>?_) ht
 obtain⟨x,H1,I1,rx,a,dx,fs,ex,ea,l,q⟩:=c6
 subst ex
 obtain rfl:u=bA a:=rx
 refine oo I1 ea c hm l ?_
 exact Fl (first:=[.ref a]) I1.qQ hm.kp (EJ (us:=[.ref a]) (vs:=[.ref a]) F hr hb hd hx I1 (.cons rfl .nil) q)
structure Mk (K:ak) (C f:ah):Prop where
 makes:Ni K C=true
 init:dQ K (.ref C) "__init__" = some (some (.ref f))
 fn:Cb K (.ref f)=true
 kp:iX K (.ref C)=true
theorem L9 {pins:List (ah × d6)} {σ:St} {H:Hp} {s:ai} {Q:VK} {us:List ae} {vs:List V} (M:Mk X.K C f) (F:nO X.prog X.w X.K X.mg X.base CX k f fd ps sp) (hr:eP (k+1) X.A) (hb:Binds X.K fd ps ds) (hd:Vals xU ds)
  (hx:a0f CX X E) (I:Inv X pins σ H s) (r:Vals vs us)
  (h:∀ x dx,H x=none->H dx=none->dx≠x->sp (.ref x::(vs++xU)) (upd (upd H dx (.own x)) x (.ins C dx [])) (λv H2=>v=.e8/\Q (.ref x) H2) E) :
  wpAny (aS X.prog X.w) X.A (qH (.ref C) us) (EP X pins σ Q) X.xe s:=by
 have hq:=h (s.heap.objs.size+1) s.heap.objs.size (I.cU.fresh (jj _)) (I.cU.fresh (aA _)) (aR (de _))
 have I2:=Inv.made (C:=C) I
 have r2:Vals (V.ref (s.heap.objs.size+1)::(vs++xU)) (bA (s.heap.objs.size+1)::(us++ds)):=.cons rfl (r.append hd)
 have hl:(bA (s.heap.objs.size+1)::us++ds).length=ps.length:=by
  have e:=r2.length
  rw[F.len _ _ _ _ hq] at e
  exact e.symm
 refine yq (K7 (f:=f) I.qQ M.makes M.init (beq_iff_eq.mp M.fn) (iY (F.run _ X.stack _ _ ⟨bA (s.heap.objs.size+1)::us,[]⟩ (bA (s.heap.objs.size+1)::(us++ds)) _ _ E (hr.make C us [])
  (I2.HI.make C us []) (hb _ (bA (s.heap.objs.size+1)::us) I2.qQ hl) r2 hq) λr s' W4=>?_))
 cases r with
 | error e=>exact hx pins σ _ _ e s' I2 W4
 | ok fl =>
  cases fl with
  | ret u =>
   obtain⟨v,H',I3,rv,ev,q3⟩:=I2.after W4
   subst ev
   exact⟨rv,⟨V.ref (s.heap.objs.size+1),H',I3,rfl,q3⟩⟩
  | next=>exact dR W4
  | brk=>exact dR W4
  | cont=>exact dR W4
theorem Pd (M:Mk X.K C f) (F:nO X.prog X.w X.K X.mg X.base CX k f fd ps sp) (hr:eP (k+1) X.A) (hg:Gl X x) (hm:X.mg x=some (.ref C)) (hb:Binds X.K fd ps ds) (hd:Vals xU ds) (hx:a0f CX X E)
  (ha:PA X (e::es) t) (Cy:(x == ("__debug__" : aT))=false:=by decide) (he:aV (e::es) X.env=(false,dU e X.env)::aV es X.env:=by rfl) (oT:(d9 pos (aV es X.env)).any (·.1)=false:=by rfl) :
  PE X (.Call (.Name x p) (e::es) [] pos) (Q7 C sp xU E t):=by
 intro pins s σ H Q I h
 refine i8 (sF I hg hm ?_ Cy)
 refine mF (h₀:=X.base) I.ok.mod.NB M.kp (fq (ha pos pins s σ H _ I h) λus s1 c6=>?_) he oT
 obtain⟨vs,H1,I1,r,q⟩:=c6
 refine⟨I1.qQ,?_⟩
 exact L9 M F hr hb hd hx I1 r q
end
def PK (X:Cx) (XD:List Ff) (t:TA):Prop :=
 ∀ (pos:gR) (pins:List (ah × d6)) (s:ai) (σ:St) (H:Hp) (Q:List V->Hp->Prop),Inv X pins σ H s->t σ H Q->wpAny (aS X.prog X.w) X.A (evalAll ((gF pos (d5 XD X.env)).map (·.2))) (AP X pins σ Q) X.xe s
section
variable {X:Cx} {CX:JF} {k:Nat} {f C:ah} {fd:fJ} {ps ks:List aT} {sp:Sp} {E:XK} {x m:aT} {p pos apos uj:gR} {e o:bR} {es:List bR} {XD:List Ff} {te ta:TE} {t tk:TA} {nm:Option aT}
theorem LU:PK X [] vn:=λ_ _ _ _ H Q I h=>wpAny_evalAll_nil ⟨[],H,I,.nil,h⟩
theorem Gc (ha:PE X e te) (hr:PK X XD t):PK X (⟨nm,e,uj⟩::XD) (zr te t):=by
 intro pos pins s σ H Q I h
 show wpAny _ _ (evalAll ((do let v ← dU e X.env;oF pos;pure v)::(gF pos (d5 XD X.env)).map (·.2))) _ _ s
 refine wpAny_evalAll_cons (aa (fq (ha pins s σ H _ I h) λu s1 c6=>?_))
 obtain⟨x,H1,I1,r1,q1⟩:=c6
 refine aa (xz (aq ?_))
 refine fq (hr pos pins s1 σ H1 _ I1 q1) λus s2 c6=>?_
 obtain⟨xs,H2,I2,r2,q2⟩:=c6
 exact⟨x::xs,H2,I2,.cons r1 r2,q2⟩
variable {g:List ae->List ae->List ae} {gV:List V->List V->List V}
end
structure bG (N P:List aT) (sc:ek):Prop where
 kind:sc.kind=.function
 co:sc.isCoroutine=false
 gen:sc.isGenerator=false
 nd:N.Nodup
 pre:N.take P.length=P
 par:∀ x∈P,sc.names.lookup x=some .local\/sc.names.lookup x=some .cell
 TR:∀ y∈sc.names,y.2≠.free
theorem yI {nU:aT->Option qY} {x:aT}:∀ {binds:List (aT × ae)} {m:aT->Option ae},(∀ v,(x,v) ∉ binds)->No nU binds m x=m x
 | [],_,_=>rfl
 | (n,v)::r,m,h=>by
  unfold No
  rw[yI λw hw=>h w (bc _ hw)]
  split
  ·have:x≠n:=by rintro rfl;exact h v aP
   simp[this]
  ·rfl
theorem yF {nU:aT->Option qY} {x:aT}:∀ {binds:List (aT × ae)} {m:aT->Option ae},(∀ v,(x,v) ∉ binds)->Nn nU binds m x=m x
 | [],_,_=>rfl
 | (n,v)::r,m,h=>by
  unfold Nn
  rw[yF λw hw=>h w (bc _ hw)]
  split
  ·rfl
  ·have:x≠n:=by rintro rfl;exact h v aP
   simp[this]
theorem yG {nU:aT->Option qY} {x:aT} {v:ae}:∀ {P:List aT} {vs:List ae} {i:Nat} {m:aT->Option ae},P.Nodup->P[i]?=some x->vs[i]?=some v->nU x=some .local ->
  No nU (P.zip vs) m x=some v
 | [],_,_,_,_,h,_,_=>by simp at h
 | _::_,[],_,_,_,_,h,_=>by simp at h
 | p::P,w::vs,0,m,nd,h1,h2,hk=>by
  simp at h1 h2;subst h1;subst h2
  show No nU ((p,w)::P.zip vs) m p=_
  unfold No
  rw[yI λv hv=>(dc.mp nd).1 (yx hv).1,if_pos hk]
  simp
 | p::P,w::vs,i+1,m,nd,h1,h2,hk=>by
  show No nU ((p,w)::P.zip vs) m x=_
  unfold No
  exact yG (i:=i) (dc.mp nd).2 (by simpa using h1) (by simpa using h2) hk
theorem yD {nU:aT->Option qY} {x:aT} {v:ae}:∀ {P:List aT} {vs:List ae} {i:Nat} {m:aT->Option ae},P.Nodup->P[i]?=some x->vs[i]?=some v->nU x≠some .local ->
  Nn nU (P.zip vs) m x=some v
 | [],_,_,_,_,h,_,_=>by simp at h
 | _::_,[],_,_,_,_,h,_=>by simp at h
 | p::P,w::vs,0,m,nd,h1,h2,hk=>by
  simp at h1 h2;subst h1;subst h2
  show Nn nU ((p,w)::P.zip vs) m p=_
  unfold Nn
  rw[yF λv hv=>(dc.mp nd).1 (yx hv).1,if_neg hk]
  simp
 | p::P,w::vs,i+1,m,nd,h1,h2,hk=>by
  show Nn nU ((p,w)::P.zip vs) m x=_
  unfold Nn
  exact yD (i:=i) (dc.mp nd).2 (by simpa using h1) (by simpa using h2) hk
def start (N:List aT) (vs:List V):St:=vs.map some++aH (N.length-vs.length) none
def rj (CX:JF) (P:aO) (w:bD) (K:ak) (mg:aT->Option ae) (base:bT) (N:List aT) (qual:aT) (scope:ek) (f:ah) (cd:ae) (A:bp) (outer:List qA) (s:ai) (H:Hp) (E:XK):Cx where
 prog:=P
 w:=w
 K:=K
 mg:=mg
 base:=base
 A:=A.deeper (lI qual scope s.heap.objs.size f cd)
 N:=N
 s₀:=s
 H₀:=H
 env:=lI qual scope s.heap.objs.size f cd
 outer:=outer
 stack:=lI qual scope s.heap.objs.size f cd::outer
 ex:=[]
 calm:=true
 fn:=λ_=>true
 pn:=[]
 xe:=λe s'=>wpAny (aS P w) (A.deeper (lI qual scope s.heap.objs.size f cd)) (leaving (lI qual scope s.heap.objs.size f cd) e) (λ_ Uo=>CX outer H s E e Uo) (λe' Uo=>CX outer H s E e' Uo) s'
theorem Ck {sc:ek} {n:Nat} {x:aT} (h:sc.names.lookup x=some .cell):∃ c,(abl n sc.names []).lookup x=some c:=by
 have q:=Ca sc.names n [] (.inl h)
 exact BG.mp q
theorem Ie {CX:JF} {P:aO} {w:bD} {K:ak} {mg:aT->Option ae} {base:bT} {N ps:List aT} {qual:aT} {scope:ek} {f:ah} {cd:ae} {A:bp} {outer:List qA} {s s1:ai} {H:Hp} {E:XK} {us:List ae} {vs:List V}
  (S:bG N ps scope) (hd:A.handled=none) (e0:vP P w K mg base A outer s H) (hl:vs.length=ps.length) (r:Vals vs us)
  (x:InCallC s s.heap.objs.size (No (lI qual scope s.heap.objs.size f cd).kindOf (ps.zip us) λ_=>none) (abl (s.heap.objs.size+1) scope.names []) (Nn (lI qual scope s.heap.objs.size f cd).kindOf (ps.zip us) λ_=>none) s1) :
  Inv (rj CX P w K mg base N qual scope f cd A outer s H E) [] (start N vs) H s1:=by
 have oT:ps.length<=N.length:=by have:=congrArg rR S.pre;rw[eE] at this;omega
 obtain⟨h1,tk,rfl,hk⟩:=x.done
 have Jv:∀ b:ah,b ∉ (rj CX P w K mg base N qual scope f cd A outer s H E).ex:=λb z=>absurd (show b∈([]:List ah) from z) (by simp)
 refine⟨⟨e0.mod,S.kind,rfl,rfl,aA _,λy z c h1 h2=>?_,λy hy=>?_,λy c _ h=>?_,λ_=>hd,Fb e0.frames,.inr ⟨rfl,rfl⟩,λb z=>absurd z (Jv b),e0.bs,e0.Jo,λb _ _=>Jv b,λb z=>absurd z (Jv b),e0.pF,e0.Ki⟩,
  rfl,e0.bare,Un.kept hk,⟨_,x.toInCall.ns,λi y v h1 h2 h3=>?_⟩,λy c h=>⟨_,x.cell y c h⟩,e0.cU.fresh (aA _),λy c h=>?_,λp hp=>absurd (show p∈([]:List (ah × d6)) from hp) (by simp),e0.cU.kept hk,?_⟩
 ·exact name_of_addr x.apart (eL h1) (eL h2)
 ·have hy:scope.names.lookup y=some .cell\/scope.names.lookup y=some .free:=hy
  rcases hy with hy | hy
  ·exact Ck hy
  ·exact absurd rfl (S.TR _ (eL hy))
 ·exact kS (x.above y c (eL h))
 ·have hi:i<vs.length:=by
   unfold start at h2
   by_cases hi:i<vs.length
   ·exact hi
   ·rw[cx (by simpa using hi)] at h2
    rw[ie] at h2
    split at h2 <;> cases h2
  have ha:vs[i]?=some v:=by
   unfold start at h2
   rw[b9 (by simpa using hi),aB] at h2
   cases e:vs[i]? with
   | none=>rw[e] at h2;cases h2
   | some a=>rw[e] at h2;cases h2;rfl
  obtain⟨u,hu,rv⟩:=r.get ha
  have hp:ps[i]?=some y:=by
   rw[← S.pre,Dw (by omega)];exact h1
  have ndP:ps.Nodup:=by rw[← S.pre];exact S.nd.sublist (NO _ _)
  refine⟨u,rv,?_⟩
  rcases S.par y (am hp) with k | k
  ·exact .inl ⟨k,yG ndP hp hu k⟩
  ·obtain⟨c,e⟩:=Ck (n:=s.heap.objs.size+1) k
   refine .inr ⟨.inl k,c,e,?_⟩
   have q:=x.cell y c e
   rw[yD ndP hp hu (by show scope.names.lookup y≠_;rw[k];decide)] at q
   exact q
 ·exact e0.cU.fresh (kS (x.above y c (eL h)))
 ·unfold start
  show _=N.length
  rw[aJ,aj,gh]
  omega
theorem FA {CX:JF} {P:aO} {w:bD} {K:ak} {mg:aT->Option ae} {base:bT} {k:Nat} {f:ah} {name qual:aT} {params:jh} {body:List cL} {scope:ek} {dV kV doc pm dk ct oc:ae} {an od:Option ah}
  {Jw:Array (Option ae)} {N ps:List aT} {sp:Sp} (lk:K.lookup f=some ⟨oc,od,.func (lX name qual params body scope dV kV doc pm an dk ct),Jw⟩) (yR:xP K dk qual=true) (S:bG N ps scope)
  (len:∀ vs H Q E,sp vs H Q E->vs.length=ps.length)
  (kW:∀ (A:bp) (outer:List qA) (s:ai) (H:Hp) (vs:List V) (Q:VK) (E:XK),eP k (A.deeper (lI qual scope s.heap.objs.size f dk))->sp vs H Q E ->
   ∃ t,uY (rj CX P w K mg base N qual scope f dk A outer s H E) body t/\t { nx:=λ_ H'=>Q .e8 H',rt:=Q } (start N vs) H) :
  nO P w K mg base CX (k+1) f (lX name qual params body scope dV kV doc pm an dk ct) ps sp:=by
 refine⟨len,λA outer s H args us vs Q E hr e0 hb r BK=>?_⟩
 have hl:=len _ _ _ _ BK
 have KX:K.In s.heap:=e0.mod.NB.keeps λb o e=>(e0.bs b o e).1
 have lim:s.heap.NoLimit:=e0.mod.nolimit.keeps λb o e=>(e0.bs b o e).1
 have WK:∀ y∈ps.zip us,scope.names.lookup y.1=some .local\/(scope.names.lookup y.1=some .cell/\((abl (s.heap.objs.size+1) scope.names []).lookup y.1).isSome=true):=λ⟨n,v⟩ hy=>by
  rcases S.par n (yx hy).1 with q | q
  ·exact .inl q
  ·exact .inr ⟨q,Ca _ _ _ (.inl q)⟩
 refine codeAny_call_function hr.depth (KX _ _ lk) rfl S.co S.gen rfl (PySem.W.codeRec_of KX yR) (hb _ _ _ _ ?_)
 refine wpAny_newFunctionEnv_cells S.kind WK λenv he s1 x=>?_
 subst he
 refine⟨lim.keeps x.toInCall.keep,codeAny_func ?_⟩
 obtain⟨t,ht,hq⟩:=kW A outer s H vs Q E (hr.deeper _) BK
 have I:Inv (rj CX P w K mg base N qual scope f dk A outer s H E) [] (start N vs) H s1:=Ie S hr.hd e0 hl r x
 refine cf (ht [] s1 (start N vs) H _ I hq) (λfl s' hs=>?_) λe s' hs=>hs
 have fin:∀ {σ':St} {H':Hp} {v:V} {u:ae},Inv (rj CX P w K mg base N qual scope f dk A outer s H E) [] σ' H' s'->RelV v u->Q v H'->CE outer P w H s Q u s' :=
  λ{σ' H' v u} J rv q=>⟨v,H',J.os,J.bare,J.base,J.cU,rv,q⟩
 cases fl with
 | ret u =>
  obtain⟨v,σ',H',J,rv,q⟩:=hs
  exact fin J rv q
 | next =>
  obtain⟨σ',H',J,q⟩:=hs
  exact fin (v:=V.e8) (u:=iE) J rfl q
 | brk =>
  obtain⟨_,_,_,q⟩:=hs
  exact dR q
 | cont =>
  obtain⟨_,_,_,q⟩:=hs
  exact dR q
section
variable {X:Cx} {x:aT} {p pos:gR} {e:bR} {es:List bR} {t:TA} {id T:String} {r:List V->Hp->VK->Prop}
def tCB (r:List V->Hp->VK->Prop) (t:TA):TE:=λσ H Q=>t σ H λvs H1=>r vs H1 Q
theorem cn (hc:jG X (.builtin id) r) (hg:Gl X x) (hm:X.mg x=none) (hv:lF x=some (.builtin id)) (ha:PA X (e::es) t) (hn:x ≠ "__name__" := by decide) (Cy:(x == ("__debug__" : aT))=false:=by decide)
  (he:aV (e::es) X.env=(false,dU e X.env)::aV es X.env:=by rfl) (oT:(d9 pos (aV es X.env)).any (·.1)=false:=by rfl):PE X (.Call (.Name x p) (e::es) [] pos) (tCB r t):=by
 intro pins s σ H Q I h
 refine i8 (lq I hg hm hv ?_ hn Cy)
 refine rT (fq (ha pos pins s σ H _ I h) λus s1 c6=>?_) he oT
 obtain⟨vs,H1,I1,r1,q1⟩:=c6
 exact hc pins s1 σ H1 vs us Q I1 r1 q1
theorem kG (hc:jG X (.type T) r) (hg:Gl X x) (hm:X.mg x=none) (hv:lF x=some (.type T)) (ha:PA X (e::es) t) (hn:x ≠ "__name__" := by decide) (Cy:(x == ("__debug__" : aT))=false:=by decide)
  (he:aV (e::es) X.env=(false,dU e X.env)::aV es X.env:=by rfl) (oT:(d9 pos (aV es X.env)).any (·.1)=false:=by rfl):PE X (.Call (.Name x p) (e::es) [] pos) (tCB r t):=by
 intro pins s σ H Q I h
 refine i8 (lq I hg hm hv ?_ hn Cy)
 refine dy (fq (ha pos pins s σ H _ I h) λus s1 c6=>?_) he oT
 obtain⟨vs,H1,I1,r1,q1⟩:=c6
 exact hc pins s1 σ H1 vs us Q I1 r1 q1
end
end L2
namespace HT
open PySem PyProof.Rows
def lexLt:List Int->List Int->Bool
 | [],[]=>false
 | [],_::_=>true
 | _::_,[]=>false
 | x::xs,y::ys=>if x=y then lexLt xs ys else decide (x<y)
theorem ou (x y:Int) (xs ys:List Int):lexLt (x::xs) (y::ys)=if x=y then lexLt xs ys else decide (x<y):=rfl
theorem nn:lexLt [] []=false:=rfl
theorem pO (y:Int) (ys:List Int):lexLt [] (y::ys)=true:=rfl
theorem pN (x:Int) (xs:List Int):lexLt (x::xs) []=false:=rfl
theorem Cp (A:bp) (s:ai) (a:Int) (t:Nl) (c:Int) (u:Nl):∃ e,jV A s (.int a t) (.int c u) e/\(e=true↔a=c) :=
 ⟨(a == c),Dy a t c u,by simp⟩
theorem L5 (A:bp) (s:ai) (a:Int) (t:Nl) (c:Int) (u:Nl) (prog:aO) (w:bD) (E:ae->ai->Prop) (Q:ae->ai->Prop) (h:Q (.bool (decide (a<c))) s) :
  wpAny (aS prog w) A (DE .Lt (.int a t) (.int c u)) Q E s :=
 (PyProof.Rows.lt_int h:wpAny (aS prog w) A (dz .Lt (.int a t) (.int c u)) Q E s)
section
open PySem.SeqAt
open PySem.AutoSeq1 (wpAny_loadPart')
open PySem.MeetsSeq PySem.MeetsSeq2 PySem.MeetsSeq3
theorem yn (l b:ah) (items gA:Array ae) (n n2:Nat) (dd R6:Option ah) (sl DH:Array (Option ae)) (ns ms:List Int) (hi:cv items.toList ns) (hj:cv gA.toList ms) :
  Meets (eF.«tuple.__lt__» ⟨[.ref l,.ref b],[]⟩)
   (λ_ R s=>s.heap.get? l=some { cls:=.type "tuple",dict:=dd,data:=.seq items n,slots:=sl }/\s.heap.get? b=some { cls:=.type "tuple",dict:=R6,data:=.seq gA n2,slots:=DH } /\
    R (.ok (.ret (.bool (lexLt ns ms)))) s) :=
 .of_wp λprog w A R s h=>by
  obtain⟨hp,g,d,tk,os⟩:=s;obtain⟨hl,hb,h⟩:=h
  have f2:=yr
  have z1:items.size=ns.length:=by rw[← hi.length];simp
  have z2:gA.size=ms.length:=by rw[← hj.length];simp
  wp_walk using tN hl,tN hb,aeF _ (λrest b s'=>b.1=none/\s'=⟨hp,g,d,tk,os⟩/\∃ (vs ws:List ae) (rF Iq:List Int),rest=vs.zip ws /\
   cv vs rF/\cv ws Iq/\rF.length+gA.size=Iq.length+items.size/\R (.ok (.ret (.bool (lexLt rF Iq)))) ⟨hp,g,d,tk,os⟩) _
  case turn =>
   rintro⟨y,x⟩ rest b s' ⟨Aw,rfl,vs,ws,rF,Iq,hz,Tg,Oz,hlen,hR⟩
   cases Tg with
   | nil=>rw[NP] at hz;cases hz
   | cons a t Th =>
    cases Oz with
    | nil=>rw[Nc] at hz;cases hz
    | cons c u Tl =>
     rw[nK] at hz
     injection hz with hyx su
     injection hyx with hy hx
     subst hy hx
     rw[ou] at hR
     simp only [bK] at hlen
     obtain⟨e,he,KA⟩:=Cp A.in1 ⟨hp,g,d,tk,os⟩ a t c u
     refine aa (he prog w _ _ ?_)
     cases e with
     | true =>
      rw[if_pos (KA.mp rfl)] at hR
      wp_walk
      exact⟨rfl,rfl,_,_,_,_,su,Th,Tl,by omega,hR⟩
     | false =>
      rw[if_neg (λq=>absurd (KA.mpr q) bg)] at hR
      have hri:=L5 A.in1 ⟨hp,g,d,tk,os⟩ a t c u prog w
      wp_walk using hri
      exact⟨_,rfl,by simpa using hR⟩
  case fin =>
   rintro⟨b1,b2⟩ s' ⟨Aw,rfl,vs,ws,rF,Iq,hz,Tg,Oz,hlen,hR⟩
   simp only at Aw
   subst Aw
   have hv:lexLt rF Iq=decide (items.size<gA.size):=by
    cases Tg with
    | nil =>
     cases Oz with
     | nil =>
      simp only [fG] at hlen
      rw[nn]
      exact (decide_eq_false (by omega)).symm
     | cons c u hw =>
      simp only [fG,bK] at hlen
      rw[pO]
      exact (decide_eq_true (by omega)).symm
    | cons a t hv =>
     cases Oz with
     | nil =>
      simp only [fG,bK] at hlen
      rw[pN]
      exact (decide_eq_false (by omega)).symm
     | cons c u hw =>
      rw[nK] at hz
      cases hz
   rw[hv] at hR
   wp_walk
   exact⟨_,rfl,by simpa [qN] using hR⟩
  case h =>
   exact⟨rfl,rfl,items.toList,gA.toList,ns,ms,rfl,hi,hj,by omega,h⟩
end
section
variable {prog:aO} {w:bD} {A:bp} {E:ae->ai->Prop} {s:ai}
theorem Ek {l b:ah} {items gA:Array ae} {ns ms:List Int} {Q:ae->ai->Prop} (hl:Zh s.heap l items) (hb:Zh s.heap b gA) (hi:cv items.toList ns) (hj:cv gA.toList ms)
  (hu:A.units<jx) (h:Q (.bool (lexLt ns ms)) s):wpAny (aS prog w) A (dz .Lt (.ref l) (.ref b)) Q E s:=by
 obtain⟨⟨cls,dd,data,sl⟩,ho,hc,n,hd⟩:=id hl
 obtain⟨⟨abm,R6,data2,DH⟩,WW,HQ,n2,hd2⟩:=id hb
 simp only at hc hd HQ hd2
 subst hc hd HQ hd2
 exact Pr (op:=.Lt) ⟨_,ho,rfl⟩ ⟨_,WW,rfl⟩ PySem.F.slot_tuple_lt PySem.F.entry_tuple_lt (PySem.F.args_tuple_lt_2 _ _) (yn l b items gA n n2 dd R6 sl DH ns ms hi hj)
  ⟨ho,WW,show pA (lexLt ns ms)≠Hb/\Q (.bool (lexLt ns ms)) s from ⟨(λx=>nomatch x),h⟩⟩ hu
def BM (n d:Nat):Option Int->Nat
 | none=>d
 | some v=>if v<0 then (v+(n:Int)).toNat else min v.toNat n
theorem Ma (n d:Nat):BM n d none=d:=rfl
theorem Py (n d k:Nat):BM n d (some (k:Int))=min k n:=by
 show (if (k:Int)<0 then ((k:Int)+(n:Int)).toNat else min (k:Int).toNat n)=min k n
 rw[if_neg (by omega),bC]
end
end HT
namespace L2
open PySem PySem.Spec PyProof.Rows
abbrev TO:=St->Hp->(Option Int->Hp->Prop)->Prop
def PO (X:Cx) (e:Option bR) (t:TO):Prop :=
 ∀ (pins:List (ah × d6)) (s:ai) (σ:St) (H:Hp) (Q:Option Int->Hp->Prop),Inv X pins σ H s->t σ H Q ->
  wpAny (aS X.prog X.w) X.A (evalPart e X.env) (λu s'=>∃ o H',Inv X pins σ H' s'/\IsPart u o/\Q o H') X.xe s
def PZ:TO:=λ_ H Q=>Q none H
def YR (t:TE):TO:=λσ H Q=>t σ H λx H1=>∃ i,x=.int i/\Q (some i) H1
theorem a0c {ns:List Int}:∀ {us:List ae},Vals (ns.map V.int) us->cv us ns:=by
 induction ns with
 | nil=>intro us r;rw[Fj] at r;cases r;exact .nil
 | cons n ns ih =>
  intro us r
  rw[dg] at r
  cases r with
  | cons r1 r2 =>
   obtain⟨t,e⟩:=r1
   subst e
   exact .cons n t (ih r2)
section
variable {X:Cx} {e:bR} {te:TE} {lo hi:Option bR} {tl th:TO} {pos p2:gR}
theorem Ge:PO X none PZ:=by
 intro pins s σ H Q I h
 rw[evalPart_none]
 exact aq ⟨none,H,I,.none,h⟩
theorem Gf (h:PE X e te):PO X (some e) (YR te):=by
 intro pins s σ H Q I hw
 rw[evalPart_some]
 refine fq (h pins s σ H _ I hw) λu s1 c6=>?_
 obtain⟨x,H1,I1,r1,q1⟩:=c6
 obtain⟨i,rfl,q⟩:=q1
 obtain⟨t,rfl⟩:=r1
 exact⟨some i,H1,I1,.int i t,q⟩
def SlR (X:Cx) (r:V->Option Int->Option Int->Hp->VK->Prop):Prop :=
 ∀ (pins:List (ah × d6)) (s:ai) (σ:St) (H:Hp) (x:V) (v vl vu:ae) (lo hi:Option Int) (sl:ah) (Q:VK),Inv X pins σ H s->RelV x v->s.heap.IsSliceOf sl vl vu .none->IsPart vl lo->IsPart vu hi->r x lo hi H Q ->
  ∃ T id,Y1 (.type T) "__getitem__" = pure (some (.builtin id))/\s.TypeIs v T/\wpAny (aS X.prog X.w) X.A (Av v (.ref sl)) (EP X pins σ Q) X.xe s
def tSl (r:V->Option Int->Option Int->Hp->VK->Prop) (te:TE) (tl th:TO):TE:=λσ H Q=>te σ H λx H1=>tl σ H1 λl H2=>th σ H2 λu H3=>r x l u H3 Q
theorem C8 {r:V->Option Int->Option Int->Hp->VK->Prop} (hr:SlR X r) (he:PE X e te) (hl:PO X lo tl) (hu:PO X hi th):PE X (.Subscript e (.Slice lo hi none p2) pos) (tSl r te tl th):=by
 intro pins s σ H Q I h
 refine VP (fq (he pins s σ H _ I h) λv s1 c6=>?_)
 obtain⟨x,H1,I1,r1,q1⟩:=c6
 refine wpAny_Slice (fq (hl pins s1 σ H1 _ I1 q1) λvl s2 c6=>?_)
 obtain⟨l,H2,I2,pl,q2⟩:=c6
 refine fq (hu pins s2 σ H2 _ I2 q2) λvu s3 CA=>?_
 obtain⟨u,H3,I3,pu,q3⟩:=CA
 rw[evalPart_none]
 refine aq ?_
 have I4:Inv X pins σ H3 { s3 with heap:=s3.heap.push { cls:=.type "slice",data:=.fields #[vl,vu,.none] } }:=I3.kept (t':=s3.toks) λb ob q=>al _ q
 obtain⟨T,id,hT,ht,hg⟩:=hr pins { s3 with heap:=s3.heap.push { cls:=.type "slice",data:=.fields #[vl,vu,.none] } } σ H3 x v vl vu l u s3.heap.objs.size Q I4 r1 (Zg ..) pl pu q3
 show wpAny (aS X.prog X.w) X.A (MA e (.Slice lo hi none p2) v (.ref s3.heap.objs.size)) (EP X pins σ Q) X.xe { s3 with heap:=s3.heap.push { cls:=.type "slice",data:=.fields #[vl,vu,.none] } }
 exact tail_any (ops:=[.ref s3.heap.objs.size,v]) ht hT hg (by with_unfolding_all rfl)
def Ht (xs:List V) (lo hi:Option Int):List V:=(xs.drop (HT.BM xs.length 0 lo)).take (HT.BM xs.length xs.length hi-HT.BM xs.length 0 lo)
theorem Cn (xs:List V) (lo hi:Option Int):(Ht xs lo hi).length<=xs.length:=by
 unfold Ht
 rw[eE,Qr]
 omega
end
def xX (n:Nat) (i:Int):Option Nat:=if 0<=i then (if i<n then some i.toNat else none) else if -(n:Int)<=i then some (i+n).toNat else none
def o6 {α:Type} (xs:List α) (i:Int):Option α:=(xX xs.length i).bind λj=>xs[j]?
theorem FM {n:Nat} {i:Int} {j:Nat} (h:xX n i=some j):seqIndex? i n=some j/\j<n/\-(n:Int)<=i/\i<n:=by
 unfold xX at h
 by_cases h0:0<=i
 ·rw[if_pos h0] at h
  by_cases h1:i<n
  ·rw[if_pos h1] at h
   have e:i.toNat=j:=cK h
   exact⟨by rw[DG h0 h1,e],by omega,by omega,h1⟩
  ·rw[if_neg h1] at h;cases h
 ·rw[if_neg h0] at h
  by_cases h1:-(n:Int)<=i
  ·rw[if_pos h1] at h
   have e:(i+n).toNat=j:=cK h
   exact⟨by rw[PD (by omega) h1,e],by omega,h1,by omega⟩
  ·rw[if_neg h1] at h;cases h
theorem Af {α:Type} {xs:List α} {i:Int} {v:α} (h:o6 xs i=some v):∃ j,seqIndex? i xs.length=some j/\xs[j]?=some v/\j<xs.length/\-(xs.length:Int)<=i/\i<xs.length:=by
 unfold o6 at h
 cases e:xX xs.length i with
 | none=>rw[e] at h;cases h
 | some j =>
  rw[e] at h
  obtain⟨h1,h2,h3,h4⟩:=FM e
  exact⟨j,h1,h,h2,h3,h4⟩
theorem bV {α:Type} {xs:List α} {j:Nat} {v:α} (h:xs[j]?=some v):o6 xs (j:Int)=some v:=by
 have hj:j<xs.length:=(ag.mp h).1
 have e:xX xs.length (j:Int)=some j:=by
  unfold xX
  rw[if_pos (by omega),if_pos (by omega)];simp
 unfold o6;rw[e];exact h
theorem JW {α:Type} (xs:List α) (v:α):o6 (xs++[v]) (-1)=some v:=by
 have hl:(xs++[v]).length=xs.length+1:=by simp
 have e:xX (xs++[v]).length (-1)=some xs.length:=by
  unfold xX
  rw[hl,if_neg (by decide),if_pos (by omega)]
  congr 1
  omega
 unfold o6
 rw[e]
 show (xs++[v])[xs.length]?=some v
 simp
def NU (b:bR):Prop:=∀ o i,DI b false o i=operate [o,i] (Av o i)
def VF (X:Cx) (r:R2):Prop :=
 ∀ (value slice:bR) (pins:List (ah × d6)) (s:ai) (σ:St) (H:Hp) (x y:V) (v u:ae) (Q:VK),Inv X pins σ H s->RelV x v->RelV y u->r x y H Q ->
  DI slice false v u=operate [v,u] (Av v u)->wpAny (aS X.prog X.w) X.A (MA value slice v u) (EP X pins σ Q) X.xe s
def MtR (X:Cx) (id:String) (r:V->List V->Hp->VK->Prop):Prop :=
 ∀ (pins:List (ah × d6)) (s:ai) (σ:St) (H:Hp) (x:V) (xs:List V) (v:ae) (us:List ae) (Q:VK),Inv X pins σ H s->RelV x v->Vals xs us->r x xs H Q ->
  wpAny (aS X.prog X.w) X.A (qH (.builtin id) (v::us)) (EP X pins σ Q) X.xe s
section
variable {X:Cx} {a b:bR} {ta tb:TE} {pos:gR}
theorem bM {r:R2} (hr:VF X r) (ha:PE X a ta) (hb:PE X b tb) (hs:NU b):PE X (.Subscript a b pos) (tOp r ta tb):=by
 intro pins s σ H Q I h
 exact VP (RZ ha hb I h λv u s2 x y H2 I2 rx ry q=>hr a b pins s2 σ H2 x y v u Q I2 rx ry q (hs _ _))
def Yl (K:ak):R2:=λx y H Q=>∃ p xs i v,x=.ref p/\y=.int i/\bI K H p xs/\o6 xs i=some v/\Q v H
def Ym (K:ak):R2:=λx y H Q=>∃ p xs i v,x=.ref p/\y=.int i/\gJ K H p xs/\o6 xs i=some v/\Q v H
theorem OJ:VF X (Yl X.K):=by
 intro value slice pins s σ H x y v u Q I rx ry h hs
 obtain⟨p,xs,i,z,rfl,rfl,hq,he,q⟩:=h
 cases rx
 obtain⟨t,rfl⟩:=ry
 obtain⟨cH,r,pl,hz⟩:=I.list hq
 obtain⟨j,h1,h2,h3,h4,h5⟩:=Af he
 obtain⟨w,ew,IJ⟩:=r.get h2
 have hl:=r.length
 have hn:=uk
 have fin:EP X pins σ Q w s:=⟨z,H,I,IJ,q⟩
 by_cases h0:0<=i
 ·have hj:i.toNat=j:=by
   rw[DG h0 h5] at h1
   exact cK h1
  exact item_listR pl.isList h0 (by omega) (by rw[hj];simpa using ew) fin hs
 ·have hj:(i+(cH.toArray.size:Int)).toNat=j:=by
   rw[PD (by omega) h4] at h1
   rw[bu,← hl]
   exact cK h1
  exact PU (x:=w) pl.isList.typeIs aaq.lookup
   (wpAny_getItem_list_neg (Q:=λr s'=>r=w/\EP X pins σ Q r s') pl.isList (by omega) (by rw[bu] <;> omega) (by omega) (by rw[hj];simpa using ew) ⟨rfl,fin⟩) hs
theorem Tw:VF X (Ym X.K):=by
 intro value slice pins s σ H x y v u Q I rx ry h hs
 obtain⟨p,xs,i,z,rfl,rfl,hq,he,q⟩:=h
 cases rx
 obtain⟨t,rfl⟩:=ry
 obtain⟨cH,r,pl,hz⟩:=I.tuple hq
 obtain⟨j,h1,h2,h3,h4,h5⟩:=Af he
 obtain⟨w,ew,IJ⟩:=r.get h2
 have hl:=r.length
 have hn:=uk
 have fin:EP X pins σ Q w s:=⟨z,H,I,IJ,q⟩
 exact PU (x:=w) pl.typeIs slot_tuple_getitem.lookup
  (getItem_tuple (j:=j) (Q:=λr s'=>r=w/\EP X pins σ Q r s') pl (by omega) (by omega) (by rw[bu,← hl];exact h1) (by simpa using ew) ⟨rfl,fin⟩) hs
theorem Eo (cH:List ae) (n j:Nat) (u:ae):eO (·.setIfInBounds j u) { cls:=.type "list",data:=.seq cH.toArray n }={ cls:=.type "list",data:=.seq (cH.set j u).toArray n }:=by
 simp[eO]
theorem Inv.lst {pins:List (ah × d6)} {σ:St} {H:Hp} {s:ai} {p:ah} {xs:List V} (I:Inv X pins σ H s) (h:H p=some (.lst xs)) :
  ∃ (cH:List ae) (n:Nat),Vals xs cH/\s.heap.get? p=some { cls:=.type "list",data:=.seq cH.toArray n }/\xs.length<=aL:=by
 obtain⟨z,cH,n,r,e⟩:=I.cU p _ h
 exact⟨cH,n,r,e,z⟩
theorem Inv.TH {pins:List (ah × d6)} {σ:St} {H:Hp} {s:ai} {p:ah} {xs ys:List V} {cH its':List ae} {n n':Nat} {f:d6->d6} (I:Inv X pins σ H s) (h:H p=some (.lst xs))
  (ho:s.heap.get? p=some { cls:=.type "list",data:=.seq cH.toArray n }) (hf:f { cls:=.type "list",data:=.seq cH.toArray n }={ cls:=.type "list",data:=.seq its'.toArray n' }) (r:Vals ys its') (hz:ys.length<=aL) (t:Nat) :
  Inv X pins σ (upd H p (.lst ys)) { s with heap:=s.heap.update p f,toks:=t }:=by
 have e:(s.heap.update p f).get? p=some { cls:=.type "list",data:=.seq its'.toArray n' }:=by
  rw[eX f ho (by rw[hf] <;> rfl),hf]
 refine I.write (x:=p) (e:=p) (by rw[h];trivial) (.inl rfl) (λb u hb q=>(fT _ _ (cS hb)).trans q) ⟨_,e⟩ ?_
 exact⟨hz,its',n',r,e⟩
def Yn:V->V->V->Hp->(Hp->Prop)->Prop:=λo i v H Q=>∃ p xs k j,o=.ref p/\i=.int k/\H p=some (.lst xs)/\xX xs.length k=some j/\Q (upd H p (.lst (xs.set j v)))
theorem a0e:RL X Yn:=by
 intro pins s σ H o i v ov iv u Q I ro ri rv h
 obtain⟨p,xs,k,j,rfl,rfl,hp,hj,q⟩:=h
 cases ro
 obtain⟨t,rfl⟩:=ri
 obtain⟨cH,n,r,ho,hz⟩:=I.lst hp
 obtain⟨h1,h2,h3,h4⟩:=FM hj
 have hl:=r.length
 have hn:=uk
 have I':Inv X pins σ (upd H p (.lst (xs.set j v))) { s with heap:=s.heap.update p (eO (·.setIfInBounds j u)) } :=
  I.TH hp ho (Eo cH n j u) (r.set rv j) (by rw[fH];exact hz) s.toks
 by_cases h0:0<=k
 ·have hk:k.toNat=j:=by
   rw[DG h0 h4] at h1
   exact cK h1
  exact PySem.W.ki_setAt ho h0 (by omega) (by rw[bu,← hl];exact h4) (by rw[hk];exact⟨_,I',q⟩)
 ·have hk:(k+(cH.toArray.size:Int)).toNat=j:=by
   rw[PD (by omega) h3] at h1
   rw[bu,← hl]
   exact cK h1
  exact PySem.W.ki_setBack ho (by omega) (by rw[bu,← hl];exact h3) (by omega) (by rw[hk];exact⟨_,I',q⟩)
theorem Bn (lo hi:Option Int) (n:Nat):(nz lo hi none n).1=((HT.BM n 0 lo:Nat):Int)/\(nz lo hi none n).2.1=((HT.BM n n hi:Nat):Int)/\(nz lo hi none n).2.2=1:=by
 refine⟨?_,?_,rfl⟩
 ·cases lo with
  | none=>simp[nz,HT.BM]
  | some i =>
   simp only [nz,HT.BM,Nd,show (1:Int) > 0 by decide,if_true]
   by_cases h:i<0
   ·simp only [h,if_true] <;> omega
   ·simp only [h,if_false] <;> omega
 ·cases hi with
  | none=>simp[nz,HT.BM]
  | some i =>
   simp only [nz,HT.BM,Nd,show (1:Int) > 0 by decide,if_true]
   by_cases h:i<0
   ·simp only [h,if_true] <;> omega
   ·simp only [h,if_false] <;> omega
theorem yk (cH:List ae) (lo hi:Option Int):slicePick cH.toArray lo hi none=((cH.drop (HT.BM cH.length 0 lo)).take (HT.BM cH.length cH.length hi-HT.BM cH.length 0 lo)).toArray:=by
 obtain⟨h1,h2,h3⟩:=Bn lo hi cH.toArray.size
 unfold slicePick
 rw[h1,h2,h3]
 simp only [sliceRange_one,pick_run,bu] <;> rfl
def Yo (K:ak):V->Option Int->Option Int->Hp->VK->Prop:=λx lo hi H Q=>∃ a xs,x=.ref a/\bI K H a xs/\∀ p,H p=none->Q (.ref p) (upd H p (.lst (Ht xs lo hi)))
theorem PM:SlR X (Yo X.K):=by
 intro pins s σ H x v vl vu lo hi sl Q I rx hs pl pu h
 obtain⟨a,xs,rfl,hx,q⟩:=h
 cases rx
 obtain⟨cH,r,ht,hz⟩:=I.list hx
 have hlen:=r.length
 refine⟨"list",_,aaq.lookup,ht.isList.typeIs,?_⟩
 refine wpAny_getItem_list_slice ht.isList hs pl pu .none (by simp) ?_ (by rw[bu] <;> omega)
 rw[yk,← hlen]
 refine⟨.ref s.heap.objs.size,_,I.laid (t':=s.toks) (o:=.lst (Ht xs lo hi)) (λb ob q=>al _ q) (aA _) ?_,rfl,q _ (I.cU.fresh (aA _))⟩
 exact⟨cq (Cn xs lo hi) hz,_,0,(r.drop (HT.BM xs.length 0 lo)).take (HT.BM xs.length xs.length hi-HT.BM xs.length 0 lo),aF _ rfl⟩
def si:V->Bool
 | .e8=>true
 | .bl _=>true
 | .int _=>true
 | .str _=>true
 | _=>false
def D4:V->V->Bool
 | .e8,.e8=>true
 | .bl a,.bl b=>a == b
 | .bl a,.int b=>(if a then 1 else 0) == b
 | .int a,.bl b=>a == (if b then 1 else 0)
 | .int a,.int b=>a == b
 | .str a,.str b=>a == b
 | _,_=>false
theorem ud {A:bp} {s:ai} {y x:V} {u v:ae} (ry:RelV y u) (rx:RelV x v) (fy:si y=true) (fx:si x=true):jV A s u v (D4 y x):=by
 cases y with
 | e8 =>
  cases ry
  cases x with
  | e8=>cases rx;exact SeqAt.EqAt.same _
  | bl b=>cases rx;exact SeqAt.EqAt.none_bool b
  | int b=>obtain⟨t,rfl⟩:=rx;exact SeqAt.EqAt.none_int b t
  | str b=>obtain⟨t,rfl⟩:=rx;exact SeqAt.EqAt.none_str b t
  | _=>exact absurd (show false=true from fx) bg
 | bl a =>
  cases ry
  cases x with
  | e8=>cases rx;exact SeqAt.EqAt.bool_none a
  | bl b=>cases rx;exact SeqAt.EqAt.bool_bool a b
  | int b=>obtain⟨t,rfl⟩:=rx;exact SeqAt.EqAt.bool_int a b t
  | str b=>obtain⟨t,rfl⟩:=rx;exact SeqAt.EqAt.bool_str a b t
  | _=>exact absurd (show false=true from fx) bg
 | int a =>
  obtain⟨t',rfl⟩:=ry
  cases x with
  | e8=>cases rx;exact SeqAt.EqAt.int_none a t'
  | bl b=>cases rx;exact SeqAt.EqAt.int_bool a t' b
  | int b=>obtain⟨t,rfl⟩:=rx;exact Dy a t' b t
  | str b=>obtain⟨t,rfl⟩:=rx;exact Dz a t' b t
  | _=>exact absurd (show false=true from fx) bg
 | str a =>
  obtain⟨t',rfl⟩:=ry
  cases x with
  | e8=>cases rx;exact SeqAt.EqAt.str_none a t'
  | bl b=>cases rx;exact SeqAt.EqAt.str_bool a t' b
  | int b=>obtain⟨t,rfl⟩:=rx;exact DA a t' b t
  | str b=>obtain⟨t,rfl⟩:=rx;exact SeqAt.EqAt.str_str a t' b t
  | _=>exact absurd (show false=true from fx) bg
 | _=>exact absurd (show false=true from fy) bg
def Od (x:V) (u:ae):Bool:=match u with
 | .none=>D4 .e8 x
 | .bool b=>D4 (.bl b) x
 | .int i _=>D4 (.int i) x
 | .str z _=>D4 (.str z) x
 | _=>false
theorem Kb {x y:V} {u:ae} (r:RelV y u) (f:si y=true):Od x u=D4 y x:=by
 cases y with
 | e8=>cases r;rfl
 | bl b=>cases r;rfl
 | int i=>obtain⟨t,rfl⟩:=r;rfl
 | str z=>obtain⟨t,rfl⟩:=r;rfl
 | _=>exact absurd (show false=true from f) bg
theorem Ae {x:V}:∀ {xs:List V} {us:List ae},Vals xs us->xs.all si=true->us.any (Od x)=xs.any λy=>D4 y x
 | _,_,.nil,_=>rfl
 | y::xs,u::us,.cons r t,f=>by
  rw[VH,bU] at f
  rw[tU,tU,Kb r f.1,Ae t f.2]
theorem ww {A:bp} {s:ai} {x:V} {v:ae} (rx:RelV x v) (fx:si x=true):∀ {xs:List V} {us:List ae},Vals xs us->xs.all si=true->∀ u∈us,jV A s u v (Od x u)
 | _,_,.nil,_=>λu hu=>by cases hu
 | y::xs,u::us,.cons r t,f=>λu' hu=>by
  rw[VH,bU] at f
  rcases aE.mp hu with rfl | hu
  ·rw[Kb r f.1];exact ud r rx f.1 fx
  ·exact ww rx fx t f.2 u' hu
def XA (x:V) (xs:List V):Bool:=xs.any λy=>D4 y x
def rIn (K:ak) (neg:Bool):R2:=λx y H Q=>∃ p xs,y=.ref p/\(bI K H p xs\/gJ K H p xs)/\si x=true/\xs.all si=true/\Q (.bl (if neg then !XA x xs else XA x xs)) H
theorem AM:uX X (dz .NotIn) (rIn X.K true):=by
 intro pins s σ H x y v u Q I rx ry h
 obtain⟨p,xs,rfl,hq,fx,fs,q⟩:=h
 cases ry
 rcases hq with hq | hq
 ·obtain⟨cH,r,pl,hz⟩:=I.list hq
  refine SeqAt.notIn_listAt (Od x) pl.isList (λw hw=>ww rx fx r fs w (by simpa using hw)) ⟨.bl _,H,I,rfl,?_⟩
  rw[show cH.toArray.any (Od x)=cH.any (Od x) by simp,Ae r fs]
  exact q
 ·obtain⟨cH,r,pl,hz⟩:=I.tuple hq
  refine SeqAt.notIn_tupleAt (Od x) pl (λw hw=>ww rx fx r fs w (by simpa using hw)) ⟨.bl _,H,I,rfl,?_⟩
  rw[show cH.toArray.any (Od x)=cH.any (Od x) by simp,Ae r fs]
  exact q
theorem Al:jG X (.builtin "len") (λxs H Q=>∃ p ys,xs=[.ref p]/\(bI X.K H p ys\/gJ X.K H p ys)/\Q (.int ys.length) H):=by
 intro pins s σ H xs us Q I r h
 obtain⟨p,ys,rfl,hq,q⟩:=h
 obtain⟨u,rfl,rx⟩:=a0h r
 cases rx
 have hn:=uk
 rcases hq with hq | hq
 ·obtain⟨cH,r',pl,hz⟩:=I.list hq
  have hlen:=r'.length
  exact Calls.call_len_list pl.isList (by simp only [bu] <;> omega) ⟨.int ys.length,H,I.tok _,⟨s.toks+1,by rw[bu,hlen]⟩,q⟩
 ·obtain⟨cH,r',pl,hz⟩:=I.tuple hq
  have hlen:=r'.length
  exact len_tuple pl (by simp only [bu] <;> omega) ⟨.int ys.length,H,I.tok _,⟨s.toks+1,by rw[bu,hlen]⟩,q⟩
theorem Am:jG X (.type "list") (λxs H Q=>∃ p ys,xs=[.ref p]/\(bI X.K H p ys\/gJ X.K H p ys)/\∀ l,H l=none->Q (.ref l) (upd H l (.lst ys))):=by
 intro pins s σ H xs us Q I r h
 obtain⟨p,ys,rfl,hq,q⟩:=h
 obtain⟨u,rfl,rx⟩:=a0h r
 cases rx
 have fin:∀ (cH:List ae),Vals ys cH->ys.length<=aL->∀ (h':bT) (c':Nat),(∀ b o',s.heap.get? b=some o'->h'.get? b=some o') ->
   h'.get? s.heap.objs.size=some { cls:=.type "list",dict:=none,data:=.seq cH.toArray c',slots:=#[] }->EP X pins σ Q (.ref s.heap.objs.size) { s with heap:=h' }:=λcH r' hz h' c' kp e =>
  ⟨.ref s.heap.objs.size,_,I.laid (t':=s.toks) kp (aA _) (show gj X.prog X.w _ h' _ (.lst ys) from ⟨hz,cH,c',r',e⟩),rfl,q _ (I.cU.fresh (aA _))⟩
 rcases hq with hq | hq
 ·obtain⟨cH,r',pl,hz⟩:=I.list hq
  have hlen:=r'.length
  obtain⟨o,ho,hc,n,hd⟩:=pl.isList
  exact call_list_seq p (.inl rfl) ho hc hd (λh' c' kp e=>fin cH r' hz h' c' kp e) (by simp only [bu] <;> omega)
 ·obtain⟨cH,r',pl,hz⟩:=I.tuple hq
  have hlen:=r'.length
  obtain⟨o,ho,hc,n,hd⟩:=pl
  exact call_list_seq p (.inr rfl) ho hc hd (λh' c' kp e=>fin cH r' hz h' c' kp e) (by simp only [bu] <;> omega)
def tyV (K:ak) (T:String) (x:V) (H:Hp):Prop:=match x with
 | .str _=>T = "str"
 | .int _=>T = "int"
 | .ref p=>(T = "list" /\ ∃ xs,bI K H p xs)\/(T = "tuple" /\ ∃ o,K.lookup p=some o/\o.cls=.type "tuple" /\ o.dict=none) \/
   (T = "dict" /\ ((∃ fv,H p=some (.dK fv))\/∃ fv,H p=some (.dT fv)))\/(T = "set" /\ ∃ S n,H p=some (.set S n))
 | _=>False
theorem UN {pins:List (ah × d6)} {σ:St} {H:Hp} {s:ai} {T:String} {x:V} {v:ae} (I:Inv X pins σ H s) (r:RelV x v) (ty:tyV X.K T x H) :
  s.TypeIs v T/\∀ a,v=.ref a->∃ ob,s.heap.get? a=some ob/\ob.dict=none:=by
 cases x with
 | str z =>
  obtain⟨t,rfl⟩:=r
  cases (show T = "str" from ty)
  exact⟨typeIs_str s z t,λ_ e=>nomatch e⟩
 | int i =>
  obtain⟨t,rfl⟩:=r
  cases (show T = "int" from ty)
  exact⟨Y0 s i t,λ_ e=>nomatch e⟩
 | ref p =>
  cases r
  rcases ty with ⟨rfl,xs,hq⟩ | ⟨rfl,o,hk,hc,hd⟩ | ⟨rfl,hk⟩ | ⟨rfl,S,n,hk⟩
  ·obtain⟨cH,_,pl,_⟩:=I.list hq
   refine⟨pl.isList.typeIs,λa e=>?_⟩
   cases e
   obtain⟨o,n,e,c,hd,_⟩:=pl
   exact⟨o,e,hd⟩
  ·refine⟨⟨o,I.qQ p o hk,hc⟩,λa e=>?_⟩
   cases e
   exact⟨o,I.qQ _ o hk,hd⟩
  ·have z:∃ o,s.heap.get? p=some o/\o.ExactDict:=by
    rcases hk with ⟨fv,hk⟩ | ⟨fv,hk⟩
    ·obtain⟨_,_,_,_,o,_,_,e,ex,_⟩:=I.cU p _ hk
     exact⟨o,e,ex⟩
    ·obtain⟨_,_,_,_,o,_,_,e,ex,_⟩:=I.cU p _ hk
     exact⟨o,e,ex⟩
   obtain⟨o,e,ex⟩:=z
   refine⟨⟨o,e,ex.1⟩,λa e2=>?_⟩
   cases e2
   exact⟨o,e,ex.2.1⟩
  ·obtain⟨o,_,_,_,e,ex,_⟩:=I.cU p _ hk
   refine⟨⟨o,e,ex.1⟩,λa e2=>?_⟩
   cases e2
   exact⟨o,e,ex.2.1⟩
 | _=>exact dR ty
def tBM (K:ak) (T:String) (r:V->List V->Hp->VK->Prop) (to:TE) (t:TA):TE:=λσ H Q=>to σ H λx H1=>tyV K T x H1/\t σ H1 λxs H2=>r x xs H2 Q
variable {o e:bR} {es:List bR} {to:TE} {t:TA} {name:aT} {apos nS:gR} {T id:String} {r:V->List V->Hp->VK->Prop}
theorem jp (pa:PlainAttrs T) (slot:Slot T name id) (hty:typeOf (.builtin id)=pure (.type "method_descriptor")) (hm:MtR X id r) (ho:PE X o to) (ha:PA X (e::es) t)
  (Kp:qG o name X.env (dU o X.env)=dU o X.env:=by rfl)
  (Su:((d9 nS (aV (e::es) X.env)).all (λx=>!x.1) && (gF nS (d5 [] X.env)).all (λx=>x.1.isSome)
   && decide ((e::es).length+([]:List Ff).length+(if ([]:List Ff).isEmpty then 0 else 1)<30))=true:=by rfl)
  (KD:(apos.endLine == nS.line)=true:=by rfl) (hs:aV (e::es) X.env=(false,dU e X.env)::aV es X.env:=by rfl) (D9:(d9 nS (aV es X.env)).any (·.1)=false:=by rfl) :
  PE X (.Call (.Attribute o name apos) (e::es) [] nS) (tBM X.K T r to t):=by
 intro pins s σ H Q I h
 refine wpAny_Call_method_late Kp Su KD rfl (fq (ho pins s σ H _ I h) λv s1 c6=>?_)
 obtain⟨x,H1,I1,r1,ty,q1⟩:=c6
 obtain⟨h1,h2⟩:=UN I1 r1 ty
 refine⟨T,id,pa,slot,hty,h1,h2,?_⟩
 have hA:=ha nS pins s1 σ H1 _ I1 q1
 rw[hs] at hA ⊢
 refine Calls.callWith_builtin (by show (false || (d9 nS (aV es X.env)).any (·.1))=false;rw[D9] <;> rfl) (GZ ?_)
 refine fq hA λus s2 c6=>?_
 obtain⟨vs,H2,I2,r2,q2⟩:=c6
 exact hm pins s2 σ H2 x vs v us Q I2 r1 r2 q2
/- xs.append(e),list.index on a XJ tuple .. are MtR facts of 06m -/
end
def MtM (X:Cx) (id:String) (r:V->List V->Hp->VK->Prop):Prop :=
 ∀ (pins:List (ah × d6)) (s:ai) (σ:St) (H:Hp) (x:V) (xs:List V) (v:ae) (us:List ae) (Q:VK),Inv X pins σ H s->RelV x v->Vals xs us->r x xs H Q ->
  wpAny (aS X.prog X.w) X.A (qH (.builtin id) (v::us)) (EP X pins σ Q) X.xe s
theorem Vals.one {x:V} {us:List ae} (h:Vals [x] us):∃ u,us=[u]/\RelV x u:=by
 cases h with
 | cons r e=>cases e;exact⟨_,rfl,r⟩
theorem Vals.two {x y:V} {us:List ae} (h:Vals [x,y] us):∃ u v,us=[u,v]/\RelV x u/\RelV y v:=by
 cases h with
 | cons r e =>
  obtain⟨v,e1,q⟩:=Vals.one e
  subst e1
  exact⟨_,_,rfl,r,q⟩
theorem Vals.rep {xs:List V} {us:List ae} (h:Vals xs us):∀ k:Nat,Vals (aH k xs).flatten (aH k us).flatten
 | 0=>.nil
 | k+1=>by
  rw[fO,fO,gI,gI]
  exact Vals.append h (Vals.rep h k)
theorem a0r (cH:List ae):∀ (k:Nat) (acc:List ae),
  BE (λx1 x2=>x1++x2) acc.toArray (aH k cH.toArray)=(acc++(aH k cH).flatten).toArray
 | 0,acc=>by simp
 | k + 1,acc=>by
  have e:acc.toArray++cH.toArray=(acc++cH).toArray:=by simp
  have e2:(acc++cH)++(aH k cH).flatten=acc++(aH (k+1) cH).flatten:=by
   rw[fO,gI,iW]
  rw[← e2,← a0r cH k (acc++cH),← e,fO,RF]
section
variable {X:Cx} {pins:List (ah × d6)} {σ:St} {H:Hp} {s:ai} {l b:ah} {xs ys zs:List V}
theorem Inv.XF {cH its':List ae} {n:Nat} {f:Array ae->Array ae} {t':Nat} (I:Inv X pins σ H s) (hH:H l=some (.lst xs))
  (e:s.heap.get? l=some { cls:=.type "list",data:=.seq cH.toArray n }) (hf:f cH.toArray=its'.toArray) (hv:Vals ys its') (hz:ys.length<=aL) :
  Inv X pins σ (upd H l (.lst ys)) { s with heap:=s.heap.update l (eO f),toks:=t' }:=by
 have q:=PySem.IsL.update e f
 rw[hf] at q
 refine I.write (x:=l) (e:=l) (by rw[hH];exact trivial) (.inl rfl) (λb' u hb hu=>(fT s.heap (eO f) (cS hb)).trans hu) ⟨_,q⟩ ?_
 exact⟨hz,its',_,hv,q⟩
theorem Inv.adQ {cH:List ae} {t':Nat} (I:Inv X pins σ H s) (hv:Vals ys cH) (hz:ys.length<=aL) :
  Inv X pins σ (upd H s.heap.objs.size (.lst ys)) { s with heap:=s.heap.push { cls:=.type "list",data:=.seq cH.toArray },toks:=t' } :=
 I.laid (λ_ _ q=>al _ q) (aA _) ⟨hz,cH,0,hv,aF _ rfl⟩
theorem Inv.fresh (I:Inv X pins σ H s):H s.heap.objs.size=none:=I.cU.fresh (aA _)
theorem Inv.OQ (I:Inv X pins σ H s) (hH:H l=some (.lst xs)):xs.length<=aL/\∃ (cH:List ae) (n:Nat),Vals xs cH/\xs.length=cH.length/\s.heap.get? l=some { cls:=.type "list",data:=.seq cH.toArray n }:=by
 obtain⟨z,cH,n,r,e⟩:=I.cU l _ hH
 exact⟨z,cH,n,r,r.length,e⟩
theorem CW {n:Nat} (h:n<=aL):i9 n=false:=by
 unfold i9
 exact decide_eq_false (by omega)
end
section
variable {X:Cx}
def Po:V->List V->Hp->VK->Prop:=λx vs H Q=>∃ l xs y,x=.ref l/\vs=[y]/\H l=some (.lst xs)/\xs.length<aL/\Q .e8 (upd H l (.lst (xs++[y])))
theorem dv:MtM X "list.append" Po:=by
 intro pins s σ H x vs v us Q I rx rv h
 obtain⟨l,xs,y,rfl,rfl,hH,hz,q⟩:=h
 cases rx
 obtain⟨u,rfl,ru⟩:=rv.one
 obtain⟨z,cH,n,r,hl,e⟩:=I.OQ hH
 refine xT F.slot_list_append ⟨_,e,rfl⟩ F.entry_list_append (F.args_list_append_2 _ _) (PySem.list_append l cH.toArray n u (by rw[bu];omega)) ⟨e,?_⟩
 refine⟨.e8,_,I.XF (its':=cH++[u]) hH e (by simp) (r.append (.cons ru .nil)) ?_,rfl,q⟩
 rw[aJ,da]
 omega
def Pp:V->List V->Hp->VK->Prop:=λx vs H Q=>∃ l b xs zs,x=.ref l/\vs=[.ref b]/\H l=some (.lst xs)/\H b=some (.lst zs)/\xs.length+zs.length<=aL/\Q .e8 (upd H l (.lst (xs++zs)))
theorem Ir:MtM X "list.extend" Pp:=by
 intro pins s σ H x vs v us Q I rx rv h
 obtain⟨l,b,xs,zs,rfl,rfl,hH,hB,hz,q⟩:=h
 cases rx
 obtain⟨u,rfl,ru⟩:=rv.one
 cases ru
 obtain⟨z,cH,n,r,hl,e⟩:=I.OQ hH
 obtain⟨z2,l6,n2,r2,qP,e2⟩:=I.OQ hB
 have hsz:cH.toArray.size+l6.toArray.size<=aL:=by rw[bu,bu];omega
 have KG:¬ (!cH.toArray.isEmpty && i9 (cH.toArray.size+l6.toArray.size))=true:=by
  rw[CW hsz,UV]
  exact bg
 refine xT F.slot_list_extend ⟨_,e,rfl⟩ F.entry_list_extend (F.args_list_extend_2 _ _)
  (AutoSeq1.list_extend_list_list_0 l cH.toArray n b l6.toArray n2 KG (by rw[bu];omega) (by omega)) ⟨e,e2,?_⟩
 refine⟨.e8,_,I.XF (its':=cH++l6) hH e (by simp) (r.append r2) ?_,rfl,q⟩
 rw[aJ]
 omega
def aea:R2:=λx y H Q=>∃ l k xs,x=.ref l/\y=.int k/\H l=some (.lst xs)/\-(2 ^ 63)<=k/\k<2 ^ 63/\xs.length*k.toNat<=aL /\
 ∀ p,H p=none->Q (.ref p) (upd H p (.lst (aH k.toNat xs).flatten))
theorem a0G {α:Type} (xs:List α) (k:Nat):(aH k xs).flatten.length=k*xs.length:=by
 induction k with
 | zero=>simp
 | succ k ih=>rw[fO,gI,aJ,ih,aaW,vT]
theorem uw:uX X (u8 .Mult) aea:=by
 intro pins s σ H x y v u Q I rx ry h
 obtain⟨l,k,xs,rfl,rfl,hH,h1,h2,hz,q⟩:=h
 cases rx
 obtain⟨t,rfl⟩:=ry
 obtain⟨z,cH,n,r,hl,e⟩:=I.OQ hH
 have hlen:cH.toArray.size*k.toNat<=aL:=by rw[bu,← hl];exact hz
 have abW:¬ cH.toArray.size*k.toNat > (2 ^ 63-1) / 8:=by
  have:(aL:Nat)<=(2 ^ 63-1) / 8:=by decide
  omega
 have ab6:¬ (!Builtin.List.listFitsIndex k)=true:=by
  rw[fitsIndex_both h1 h2]
  exact bg
 have KG:¬ i9 (cH.toArray.size*k.toNat)=true:=by
  rw[CW hlen]
  exact bg
 have CB:BE (λx1 x2=>x1++x2) #[] (aH (if cH.toArray.isEmpty=true then 0 else k.toNat) cH.toArray)=(aH k.toNat cH).flatten.toArray:=by
  have f0:∀ m:Nat,BE (λx1 x2=>x1++x2) #[] (aH m cH.toArray)=(aH m cH).flatten.toArray:=λm=>by
   have:=a0r cH m []
   rw[iH] at this
   exact this
  rw[f0]
  cases cH with
  | nil=>simp
  | cons a r'=>rw[if_neg (by simp)]
 refine wpAny_binaryOp_repeat_ref (T := "list") (U := "int") (by decide) ⟨_,e,rfl⟩ (λs'=>Y0 s' k t) noFill_list_mul F.fills_int_mul Ze repeat_list F.slot_int_index.lookup
  (xT Ze (Y0 s k t) F.entry_int_rmul (F.args_int_rmul_2 _ _) (int___rmul___int_list k t l cH.toArray n)
   ⟨e,rfl,⟨_,e,rfl⟩,xT F.slot_list_mul ⟨_,e,rfl⟩ F.entry_list_mul (F.args_list_mul_2 _ _) (AutoListH.list___mul___list_int_3 l cH.toArray n k t ab6 abW KG) ⟨e,?_⟩⟩)
 rw[CB]
 exact⟨.ref _,_,I.adQ (t':=s.toks) (r.rep k.toNat) (by rw[a0G,Nat.mul_comm];exact hz),rfl,q _ I.fresh⟩
end
section
variable {prog:aO} {w:bD} {A:bp} {E:ae->ai->Prop} {s:ai}
set_option maxRecDepth 100000 in
end
section
variable {X:Cx}
end
section
variable {κ:Type} [DecidableEq κ]
def tz (fv:List (κ × V)) (k:κ):Option V:=(fv.find? λkv=>decide (kv.1=k)).map (·.2)
def a0p (fv:List (κ × V)) (k:κ) (v:V):List (κ × V) :=
 if (fv.any λkv=>decide (kv.1=k))=true then fv.map (λkv=>if kv.1=k then (kv.1,v) else kv) else fv++[(k,v)]
theorem Dt {p:κ × V} {r:List (κ × V)} {k:κ} (e:p.1=k):tz (p::r) k=some p.2:=by simp[tz,gD,e]
theorem Ds {p:κ × V} {r:List (κ × V)} {k:κ} (e:¬ p.1=k):tz (p::r) k=tz r k:=by simp[tz,gD,e]
theorem CN (fv:List (κ × V)) (k:κ) (v:V):(a0p fv k v).length<=fv.length+1:=by
 unfold a0p
 split
 ·rw[aj];omega
 ·rw[aJ,bK,fG];omega
theorem qE.yX {o:Option V} {u:Option ae} (r:qE o u):o.isSome=u.isSome:=by
 cases o with
 | none=>cases u with
  | none=>rfl
  | some _=>exact (show False from r).elim
 | some _=>cases u with
  | none=>exact (show False from r).elim
  | some _=>rfl
theorem KV.val {fv:List (κ × V)} {vs:List (κ × ae)} (r:KV fv vs) (k:κ):qE (tz fv k) (Bx vs k):=by
 unfold KV at r
 induction r with
 | nil=>exact ko
 | @cons p q ps qs h t ih =>
  obtain⟨h1,h2⟩:=h
  by_cases e:p.1=k
  ·have e':q.1=k:=h1.symm.trans e
   have b:Bx (q::qs) k=some q.2:=by simp[Bx,gD,e']
   rw[Dt e,b];exact h2
  ·have e':¬ q.1=k:=λz=>e (h1.trans z)
   have b:Bx (q::qs) k=Bx qs k:=by simp[Bx,gD,e']
   rw[Ds e,b];exact ih
theorem KV.any {fv:List (κ × V)} {vs:List (κ × ae)} (r:KV fv vs) (k:κ):(fv.any λkv=>decide (kv.1=k))=vs.any λkv=>decide (kv.1=k):=by
 unfold KV at r
 induction r with
 | nil=>rfl
 | cons h t ih=>rw[tU,tU,ih,h.1]
theorem KV.aeb {fv:List (κ × V)} {vs:List (κ × ae)} (r:KV fv vs) (k:κ) {y:V} {u:ae} (ry:RelV y u) :
  KV (fv.map λkv=>if kv.1=k then (kv.1,y) else kv) (vs.map λkv=>if kv.1=k then (kv.1,u) else kv):=by
 unfold KV at r ⊢
 induction r with
 | nil=>exact .nil
 | @cons p q ps qs h t ih =>
  rw[dg,dg]
  refine .cons ?_ ih
  obtain⟨h1,h2⟩:=h
  by_cases e:p.1=k
  ·rw[if_pos e,if_pos (h1.symm.trans e)];exact⟨h1,ry⟩
  ·rw[if_neg e,if_neg (λz=>e (h1.trans z))];exact⟨h1,h2⟩
theorem KV.put {fv:List (κ × V)} {vs:List (κ × ae)} (r:KV fv vs) (k:κ) {y:V} {u:ae} (ry:RelV y u):KV (a0p fv k y) (stored vs k u):=by
 unfold a0p stored
 rw[r.any k]
 by_cases e:(vs.any λkv=>decide (kv.1=k))=true
 ·rw[if_pos e,if_pos e];exact r.aeb k ry
 ·rw[if_neg e,if_neg e];exact Paired.snoc r ⟨rfl,ry⟩
theorem KV.length {fv:List (κ × V)} {vs:List (κ × ae)} (r:KV fv vs):fv.length=vs.length:=lj r
end
theorem FN {P:aO} {w:bD} {k:Key} {u:ae} (r:RelV (kV k) u):(gu P w).is k u=true:=by
 cases k with
 | inl i=>obtain⟨t,e⟩:=(show ∃ t,u=gY i t from r);subst e;exact CQ P w i t
 | inr x=>obtain⟨t,e⟩:=(show ∃ t,u=vX x t from r);subst e;exact CS P w x t
theorem yY {P:aO} {w:bD}:∀ {ks:List Key} {us:List ae},Vals (ks.map kV) us->ItemsAre (gu P w) ks us
 | [],_,r=>by rw[Fj] at r;cases r;exact .nil
 | k::ks,_,r=>by
  rw[dg] at r
  cases r with
  | cons h t=>exact .cons (FN h) (yY t)
abbrev KT (H:Hp):List (List Key × V)->List (List Key × ah × ae)->Prop:=dP λp q=>p.1=q.1/\H q.2.1=some (.tup (p.1.map kV))/\RelV p.2 q.2.2
theorem KT.val {H:Hp} {fv:List (List Key × V)} {xs:List (List Key × ah × ae)} (r:KT H fv xs) (k:List Key):qE (tz fv k) ((RW xs k).map (·.2)):=by
 induction r with
 | nil=>exact ko
 | @cons p q ps qs h t ih =>
  obtain⟨h1,_,h2⟩:=h
  by_cases e:p.1=k
  ·have e':q.1=k:=h1.symm.trans e
   have b:RW (q::qs) k=some q.2:=by simp[RW,gD,e']
   rw[Dt e,b];exact h2
  ·have e':¬ q.1=k:=λz=>e (h1.trans z)
   have b:RW (q::qs) k=RW qs k:=by simp[RW,gD,e']
   rw[Ds e,b];exact ih
section
variable {P:aO} {w:bD} {H:Hp} {h:bT} {a:ah}
theorem Q2 {u:HO} (ok:o5 P w H h) (e:Rd H a u):gj P w H h a u:=e.ok ok
theorem J8 {fv:List (Key × V)} (ok:o5 P w H h) (e:Rd H a (.dK fv)):fv.length<=aL/\(a == oZ)=false/\∃ vs,KV fv vs/\h.DictOf (gu P w) a vs :=
 show gj P w H h a (.dK fv) from Q2 ok e
theorem Eh {ks:List Key} (ok:o5 P w H h) (e:H a=some (.tup (ks.map kV))):(NF (gu P w)).is h ks a:=by
 obtain⟨_,cH,r,o,h1,h2,n,h3⟩:=(show gj P w H h a (.tup (ks.map kV)) from ok a _ e)
 exact⟨o,cH.toArray,n,h1,h2,h3,by simpa using yY r⟩
theorem J9 {fv:List (List Key × V)} (ok:o5 P w H h) (e:Rd H a (.dT fv)):fv.length<=aL/\(a == oZ)=false /\
  ∃ xs,KT H fv xs/\h.DictOfH (NF (gu P w)) a xs:=by
 obtain⟨z,y,xs,r,o,es,ep,h1,h2,h3,h4,h5⟩:=(show gj P w H h a (.dT fv) from Q2 ok e)
 refine⟨z,y,xs,r,o,es,ep,h1,h2,h3,h4,λx hx=>?_,h5⟩
 have all:∀ {l:List (List Key × V)} {m:List (List Key × ah × ae)},KT H l m->∀ x∈m,(NF (gu P w)).is h x.1 x.2.1:=by
  intro l m q
  induction q with
  | nil=>intro x hx;exact nomatch hx
  | @cons p q ps qs hq t ih =>
   intro x hx
   rcases aE.mp hx with e | hx
   ·subst e
    exact Eh ok (by rw[← hq.1];exact hq.2.1)
   ·exact ih x hx
 exact all r x hx
end
def uS (H:Hp) (a:ah) (y:V) (r:Option V):Prop :=
 (∃ fv k,Rd H a (.dK fv)/\y=kV k/\r=tz fv k)\/∃ fv k b,Rd H a (.dT fv)/\y=.ref b/\H b=some (.tup (k.map kV))/\r=tz fv k
theorem uS.k {H:Hp} {a:ah} {fv:List (Key × V)} {k:Key} (e:H a=some (.dK fv)):uS H a (kV k) (tz fv k):=.inl ⟨fv,k,.inl e,rfl,rfl⟩
section
variable {X:Cx} {pins:List (ah × d6)} {σ:St} {H:Hp} {s:ai} {a:ah} {y v:V} {u r:ae} {o:Option V} {A:bp} {E:ae->ai->Prop}
theorem Inv.big (I:Inv X pins σ H s):oZ<s.heap.objs.size:=by
 have h:bf<s.heap.objs.size:=(I.mod.glob.keeps I.bk).lt
 exact m7 (by decide) h
theorem Hu {Q:ae->ai->Prop} (hu:A.units+1<jx) (I:Inv X pins σ H s) (g:uS H a y (some v)) (ry:RelV y u) (h:∀ w' s',Inv X pins σ H s'->RelV v w'->Q w' s') :
  wpAny (aS X.prog X.w) A (Av (.ref a) u) Q E s:=by
 rcases g with ⟨fv,k,e,ey,l⟩ | ⟨fv,k,b,e,ey,eb,l⟩
 ·subst ey
  obtain⟨z,hd,vs,rel,dd⟩:=J8 I.cU e
  obtain⟨w',hw,IJ⟩:=qE.some_of (v:=v) (o:=Bx vs k) (by rw[l];exact rel.val k)
  exact wpAny_getItem_of (FN ry) dd.mapOf hw (h w' _ (I.tok _) IJ)
 ·subst ey
  cases (show u=bA b from ry)
  obtain⟨z,hd,xs,rel,dd⟩:=J9 I.cU e
  obtain⟨w',hw,IJ⟩:=qE.some_of (v:=v) (o:=(RW xs k).map (·.2)) (by rw[l];exact rel.val k)
  obtain⟨p,hp,hp2⟩:=dY.mp hw
  refine wpAny_getItem_heap (YZ hu) (Eh I.cU eb) dd hp ?_
  rw[hp2]
  exact h w' _ (I.tok _) IJ
theorem Oa {Q:ae->ai->Prop} (hu:A.units+1<jx) (I:Inv X pins σ H s) (g:uS H a y o) (ry:RelV y u) (h:∀ s',Inv X pins σ H s'->Q (.bool (!o.isSome)) s') :
  wpAny (aS X.prog X.w) A (dz .NotIn u (.ref a)) Q E s:=by
 rcases g with ⟨fv,k,e,ey,l⟩ | ⟨fv,k,b,e,ey,eb,l⟩
 ·subst ey
  obtain⟨z,hd,vs,rel,dd⟩:=J8 I.cU e
  refine wpAny_notIn_of (FN ry) hd dd.mapOf ?_
  rw[← (rel.val k).yX,← l]
  exact h _ (I.tok _)
 ·subst ey
  cases (show u=bA b from ry)
  obtain⟨z,hd,xs,rel,dd⟩:=J9 I.cU e
  refine wpAny_notIn_heap (YZ hu) (Eh I.cU eb) hd dd ?_
  have q:=(rel.val k).yX
  rw[Option.isSome_map] at q
  rw[← q,← l]
  exact h _ (I.tok _)
theorem R7 {P:aO} {w:bD} {H':Hp} {h':bT} {fv:List (Key × V)} {vs:List (Key × ae)} (z:fv.length<=aL) (hd:(a == oZ)=false) (rel:KV fv vs) (dd:h'.DictOf (gu P w) a vs) :
  gj P w H' h' a (.dK fv):=⟨z,hd,vs,rel,dd⟩
end
section
variable {X:Cx} {pins:List (ah × d6)} {σ:St} {H:Hp} {s:ai} {a:ah} {fv:List (Key × V)} {k:Key} {u:ae} {A:bp} {E:ae->ai->Prop}
end
def VI (i:bR):Prop:=∀ ov iv,DI i false ov iv=operate [ov,iv] (Av ov iv)
theorem PQ {prog:aO} {w:bD} {A:bp} {E:ae->ai->Prop} {s:ai} {env:qA} {value slice:bR} {pos:gR} {T id:String} {Q:ae->ai->Prop}
  (hl:Y1 (.type T) "__getitem__" = pure (some (.builtin id))) (hs:VI slice)
  (h:wpAny (aS prog w) A (dU value env) (λo s₁=>wpAny (aS prog w) A (dU slice env) (λi s₂=>s₂.TypeIs o T/\wpAny (aS prog w) A (Av o i) Q E s₂) E s₁) E s) :
  wpAny (aS prog w) A (dU (.Subscript value slice pos) env) Q E s:=by
 refine VP (cf h (λo s₁ h₁=>cf h₁ (λi s₂ h₂=>?_) λ_ _ x=>x) λ_ _ x=>x)
 obtain⟨hT,h₂⟩:=h₂
 unfold MA
 refine aa ?_
 rw[getitemInPython_of_ne hT.not_modules]
 refine aa (wpAny_specialOf hT hl ?_)
 have fin:wpAny (aS prog w) A (DI slice false o i) (λr s₃=>wpAny (aS prog w) A (letTemporaryGo value o r >>= λ_=>pure r) Q E s₃) E s₂:=by
  rw[hs o i]
  exact wpAny_operating (cf h₂ (λr s₃ h₃=>aa (wpAny_letTemporaryGo (aq h₃))) λ_ _ x=>x)
 first
  | exact aq (aa fin)
  | exact aa (aq (aa fin))
  | exact aa fin
theorem Co {X:Cx} {pins:List (ah × d6)} {σ:St} {H:Hp} {s:ai} {a:ah} {y:V} {o:Option V} (I:Inv X pins σ H s) (g:uS H a y o):s.TypeIs (.ref a) "dict" := by
 rcases g with ⟨fv,k,e,_,_⟩ | ⟨fv,k,b,e,_,_,_⟩
 ·obtain⟨_,_,vs,_,dd⟩:=J8 I.cU e
  exact dd.typeIs
 ·obtain⟨_,_,xs,_,dd⟩:=J9 I.cU e
  exact dd.typeIs
def YK (td ty:TE):TE:=λσ H Q=>td σ H λx H1=>ty σ H1 λy H2=>∃ a v,x=.ref a/\uS H2 a y (some v)/\Q v H2
def PY (ty td:TE):TE:=λσ H Q=>ty σ H λy H1=>td σ H1 λx H2=>∃ a o,x=.ref a/\uS H2 a y o/\Q (.bl (!o.isSome)) H2
section
variable {X:Cx} {o i e value:bR} {pos pos' rM:gR} {td ty tv:TE}
theorem AT (hu:X.A.units+1<jx) (ho:PE X o td) (hi:PE X i ty) (hs:VI i):PE X (.Subscript o i pos) (YK td ty):=by
 intro pins s σ H Q I h
 refine PQ PySem.F.slot_dict_getitem.lookup hs (fq (ho pins s σ H _ I h) λu s1 c6=>?_)
 obtain⟨x,H1,I1,rx,q1⟩:=c6
 refine fq (hi pins s1 σ H1 _ I1 q1) λiv s2 CA=>?_
 obtain⟨y,H2,I2,ry,a,v,ex,g,q2⟩:=CA
 subst ex
 obtain rfl:u=bA a:=rx
 exact⟨Co I2 g,Hu hu I2 g ry λw' s3 I3 IJ=>⟨v,H2,I3,IJ,q2⟩⟩
theorem IA (hu:X.A.units+1<jx) (hi:PE X i ty) (ho:PE X o td):PC X .NotIn i o (PY ty td):=by
 intro pins s σ H Q I h
 refine fq (hi pins s σ H _ I h) λiv s1 c6=>?_
 obtain⟨y,H1,I1,ry,q1⟩:=c6
 refine fq (ho pins s1 σ H1 _ I1 q1) λu s2 CA=>?_
 obtain⟨x,H2,I2,rx,a,ov,ex,g,q2⟩:=CA
 subst ex
 obtain rfl:u=bA a:=rx
 exact Oa hu I2 g ry λs3 I3=>⟨.bl (!ov.isSome),H2,I3,rfl,q2⟩
end
section
variable {X:Cx} {pos:gR}
end
section
variable {X:Cx} {pins:List (ah × d6)} {σ:St} {H:Hp} {s:ai} {a:ah} {y d:V} {u r:ae} {o:Option V} {A:bp} {E:ae->ai->Prop}
end
section
variable {X:Cx} {o e f:bR} {apos nS:gR} {td ty tx:TE}
end
section
variable {X:Cx} {pins:List (ah × d6)} {σ:St} {H:Hp} {s:ai} {a:ah} {fv:List (Key × V)} {A:bp} {E:ae->ai->Prop}
end
section
variable {X:Cx} {pins:List (ah × d6)} {σ:St} {H:Hp} {s:ai} {a:ah} {y:V} {u:ae} {A:bp} {E:ae->ai->Prop}
end
end L2
namespace Att
open PySem PySem.W PySem.Calls PyProof.Rows
theorem vj {P:NT} {h:bT}:∀ (ns:List Int) (vs:List ae),WellAll P h vs (ns.map WData.int)->cv vs ns:=by
 intro ns
 induction ns with
 | nil =>
  intro vs w
  rw[Fj] at w
  cases w
  exact .nil
 | cons n ns ih =>
  intro vs w
  rw[dg] at w
  cases w with
  | cons a b =>
   cases a
   exact .cons _ _ (ih _ b)
theorem IL {l:OpenLaw} {n:Nat} (hn:l.most=some n) {P:NT} {h:bT} {args:List WData} {vals:List ae}
  (Ow:l.row.toRowW.claim.pre args=true) (rD:WellAll P h vals args) :
  ∃ a vs ns,vals=[bA a]/\args=[WData.list (ns.map WData.int)]/\h.get? a=some { cls:=.type "list",data:=.seq vs.toArray }/\cv vs ns/\ns.length<=n:=by
 have hsh:WShape.hasAll [] args [.list .int]=true:=(pre_splitW Ow).1
 have hc:l.pre.holds [] { args:=args }=true:=(pre_splitW Ow).2
 obtain⟨d,r,rfl,h1,h2⟩:=hasAllW_cons hsh
 obtain rfl:=hasAllW_nil h2
 obtain⟨xs,rfl,h3⟩:=hasW_list h1
 obtain⟨ns,rfl⟩:=items_int h3
 have hlen:ns.length<=n:=by
  unfold OpenLaw.pre at hc
  have h4:(WTm.not (.lt (.lit (.int (n:Int))) (.len (.arg 0)))).holds [] { args:=[.list (ns.map .int)] }=true:=by
   have h4:=(holds_andW hc).1
   rw[hn] at h4
   exact h4
  have h5:=condW_of h4 (w_not (w_lt w_lit (w_len_list (w_arg rfl))))
  rw[aj] at h5
  refine pq λq=>?_
  have q':(n:Int)<((ns.length:Nat):Int):=by omega
  first
   | (rw[decide_eq_true q'] at h5;exact absurd h5 (by decide))
   | (simp at h5;omega)
 cases rD with
 | cons w1 w2 =>
  cases w2
  cases w1 with
  | list ho abR=>exact⟨_,_,ns,rfl,rfl,ho,vj ns _ abR,hlen⟩
theorem IC (l:OpenLaw) (args:List WData):l.row.toRowW.claim.post args (.bool true) args=true :=
 postW_of (r:=l.row.toRowW) (X:=(true == true))
  (show WShape.has [] (.bool true) .bool=true by first | rfl | decide | simp[WShape.has,WShape.arms,WShape.armsAll])
  (show (WTm.eq .res (.lit (.bool true))).value [] { args:=args,res:=some (.bool true),after:=args }=some (.bool (true == true)) from w_eq_bool (w_res rfl) w_lit) rfl
theorem Cf {l:OpenLaw} {n:Nat} {q:aO} {loose:List aT} {XP:(aT->Option ae)->bT->Prop} {YP:bD->bT->Prop} {d:DefRec}
  (hn:l.most=some n) (hdf:d.params.defaults=[])
  (qH:∀ (w:bD) (s₀ s₁:ai) (mg mb:aT->Option ae) (fa:ah) (o:d6) (pm cd doc:ae) (a:ah) (vs:List ae) (ns:List Int),
   Ground q loose [] XP w s₀ mg mb s₁.heap->YP w s₁.heap ->
   s₁.heap.get? fa=some o->o.data=.func (docDef d.name d.params d.body d.scope pm cd doc)->s₁.heap.CodeRec cd d.name->mg d.name=some (.ref fa) ->
   s₁.heap.get? a=some { cls:=.type "list",data:=.seq vs.toArray }->cv vs ns->ns.length<=n->s₁.gens=#[] ->
   codeAny (aS l.prog w) An (.call (.ref fa) ⟨[.ref a],[]⟩) (λr s'=>r=.ok (.ret (.bool true))/\OldK s₁.heap s'.heap/\s'.os=s₁.os/\n5 s'.gens) s₁) :
  WalkO q loose XP YP l.row.toRowW d [] (λf vs=>aa7 f vs):=by
 intro w s₀ s₁ mg mb G Y fa o pm cd doc dV kV ho hd yR hD QN hg args vals as Ow aiR hrd rD ZL
 obtain rfl:dV=.none:=Dflts.none hD hdf
 obtain rfl:kV=.none:=Dflts.noKw hD
 obtain⟨a,vs,ns,rfl,rfl,SN,hints,hlen⟩:=IL hn Ow rD
 refine enter_call (iY (qH w s₀ s₁ mg mb fa o pm cd doc a vs ns G Y ho (fd_plain hd) yR QN SN hints hlen hg) λr s' hq=>?_)
 obtain⟨rfl,h2,h3,h4⟩:=hq
 exact⟨.inl ⟨.bool true,.bool true,[],rfl,λ_=>rfl,.bool true,IC l _,λ_=>⟨BD,λ_ hm=>(nomatch hm)⟩⟩,h2,h3,h4⟩
section
variable {prog:aO} {w:bD} {A:bp} {E:ae->ai->Prop} {s:ai} {K:Frag}
end
end Att
namespace L2
open PySem PySem.Spec PyProof.Rows
theorem zw:∀ {vs:List ae} {ns:List Int},cv vs ns->Vals (ns.map V.int) vs
 | _,_,.nil=>.nil
 | _,_,.cons n t h=>.cons ⟨t,rfl⟩ (zw h)
end L2
/- THE ahH Zl (shape;LID,My.* are ag2):
   My.Adr: a structure of Rb addresses akH akP agg names (classes,U9);My.Txt K t: a structure (Prop) of Rb equations over K;
   My.UM:{K} {implicit addresses ..} (e1:nsIn K bf "law" = some (some (.ref f))) (e2:K.lookup f=some ⟨oc,od,.func (fnOf "law" "law" params body scope dV kV doc pm an dk ct),sl⟩) (e3:codeIn K dk "law" = true) ..:∃ t,My.Txt K t
set_option maxRecDepth 100000 in
set_option maxHeartbeats 0 in
theorem PySem.Challenge.cw_LID_holds : PySem.Challenge.rw_LID.Holds := by
 w_on;o_law;k_head;(case hw=>w_witness2)
 k_fill
 refine L2.aaA (l:=PySem.Challenge.rw_LID) (n:=63) (k:=40) (x := "script") (CX:=λw=>..) (sp:=λ_=>My.aek) rfl (by decide) rfl ⟨rfl,by decide,by decide⟩ (λw h Y=>PySem.W.kIn_of Y) ?F ?S ?C
 case F =>
  intro w mg fa h KX G QN
  have T:∃ t,My.Txt (L2.KOf KX) t:=by
   dsimp only [L2.KOf]                          -- K ajK agI as «<heap const> w.params» for k_is
   refine' My.UM ?e1 ?e2 ?e3 ..
   (case e1=>PySem.W.k_is)                    -- in Rb order: a name -> cH address -> cH object -> cH parts
   (case e2=>PySem.W.k_is)
   ..
  obtain⟨t,T⟩:=T
  have e0:=QN.symm.trans (rV KX G T.law)
  cases e0                                       -- fa is Rb agf own address
  exact⟨_,λs u=>.of_eq rfl,λbase kb nb=>My.TF T kb nb⟩     -- if «.of_eq rfl» comes too early: refine' ⟨_,?b,λbase kb nb=>My.TF T kb nb⟩;exact λs u=>.of_eq rfl
 case S=>exact λw H a ns hl hO hS=>..
 case C=>exact ..
(Rb tactic k_is has no namespace: write k_is) -/
namespace L2
open PySem PySem.Spec PyProof.Rows
def a0d (s:cL) (j:Nat):cL:=match s with
 | .ClassDef _ _ _ body _ _ _ _ _ _ _=>body.getD j (.Pass ⟨0,0,0,0⟩)
 | _=>.Pass ⟨0,0,0,0⟩
def jY (s:cL):jh:=match s with
 | .FunctionDef _ a _ _ _ _ _ _ _ _=>a
 | _=>{ posonlyargs:=[],args:=[],vararg:=none,kwonlyargs:=[],kw_defaults:=[],kwarg:=none,defaults:=[] }
def fk (s:cL):List cL:=match s with
 | .FunctionDef _ _ b _ _ _ _ _ _ _=>b
 | _=>[]
def aC (s:cL):ek:=match s with
 | .FunctionDef _ _ _ _ _ _ sc _ _ _=>sc
 | _=>{ kind:=.function,names:=[],isGenerator:=false,isCoroutine:=false }
abbrev xH:JF:=λ_ _ _ _ _ _=>False
abbrev E0:XK:=λ_ _ _=>False
theorem LJ {X:Cx}:a0f xH X E0:=λ_ _ _ _ _ _ _ h=>h.elim
structure Fe (K:ak) (x qual:aT) (st:cL) (f:ah) (fd:fJ):Prop where
 ex:∃ (oc:ae) (od:Option ah) (kV doc pm:ae) (an:Option ah) (dk ct:ae) (Jw:Array (Option ae)),
  fd=lX x qual (jY st) (fk st) (aC st) .none kV doc pm an dk ct/\K.lookup f=some ⟨oc,od,.func fd,Jw⟩/\xP K dk qual=true
 kp:iX K (.ref f)=true
section
variable {P:aO} {w:bD} {K:ak} {mg:aT->Option ae} {base:bT}
theorem Fe.ok {x qual:aT} {st:cL} {f:ah} {fd:fJ} {N ps:List aT} {k:Nat} {sp:Sp} (F:Fe K x qual st f fd) (S:bG N ps (aC st)) (len:∀ vs H Q E,sp vs H Q E->vs.length=ps.length)
  (kW:∀ (dk:ae) (A:bp) (outer:List qA) (s:ai) (H:Hp) (vs:List V) (Q:VK) (E:XK),eP k (A.deeper (lI qual (aC st) s.heap.objs.size f dk))->sp vs H Q E ->
   ∃ t,uY (rj xH P w K mg base N qual (aC st) f dk A outer s H E).wC (fk st) t/\t { nx:=λ_ H'=>Q .e8 H',rt:=Q } (start N vs) H):nO P w K mg base xH (k+1) f fd ps sp:=by
 obtain⟨oc,od,kV,doc,pm,an,dk,ct,Jw,rfl,lk,yR⟩:=F.ex
 refine FA lk yR S len λA outer s H vs Q E hr BK=>?_
 obtain⟨t,h,q⟩:=kW dk A outer s H vs Q E hr BK
 exact⟨t,h.wC,q⟩
theorem Fe.binds {x qual:aT} {st:cL} {f:ah} {fd:fJ} {ps:List aT} (F:Fe K x qual st f fd)
  (h:∀ (kV doc pm:ae) (an:Option ah) (dk ct:ae) (us:List ae),us.length=ps.length->oQ (lX x qual (jY st) (fk st) (aC st) .none kV doc pm an dk ct) ⟨us,[]⟩=pure (ps.zip us)):Binds K fd ps []:=by
 obtain⟨oc,od,kV,doc,pm,an,dk,ct,Jw,rfl,lk,yR⟩:=F.ex
 exact .all (h kV doc pm an dk ct)
theorem Kj {x qual:aT} {st:cL} {f:ah} {oc:ae} {od an:Option ah} {Jw:Array (Option ae)} {kV doc pm dk ct:ae} (l:K.lookup f=some ⟨oc,od,.func (lX x qual (jY st) (fk st) (aC st) .none kV doc pm an dk ct),Jw⟩)
  (c:xP K dk qual=true) (k:iX K (.ref f)=true):Fe K x qual st f (lX x qual (jY st) (fk st) (aC st) .none kV doc pm an dk ct):=⟨⟨oc,od,kV,doc,pm,an,dk,ct,Jw,rfl,l,c⟩,k⟩
end
section
variable {X:Cx}
theorem pv (i:Nat) {x:aT} {pos:gR} (hN:X.N[i]?=some x:=by rfl) (hv:Vis X.env.scope x:=by first | exact bi rfl | exact tI (bi rfl) | exact tI (tI rfl)) (hd:(x == ("__debug__" : aT))=false:=by decide)
  (yR:(x == ("__classdict__" : aT))=false:=by decide):PE X (.Name x pos) (Dp i):=Ud hN hv hd yR
end
theorem eJ {A B:Prop} (h:B):if false=true then A else B:=by
 rw[if_neg bg]
 exact h
theorem jc {A B:Prop} (h:A):if true=true then A else B:=by
 rw[if_pos rfl]
 exact h
theorem iO {c A B:Prop} [Decidable c] (h1:c->A) (h2:¬ c->B):if c then A else B:=by
 by_cases h:c
 ·rw[if_pos h]
  exact h1 h
 ·rw[if_neg h]
  exact h2 h
def bh (H H':Hp):Prop:=∀ b o,H b=some o->H' b=some o
theorem bh.refl (H:Hp):bh H H:=λ_ _ h=>h
theorem bh.trans {H H1 H2:Hp} (a:bh H H1) (b:bh H1 H2):bh H H2:=λc o h=>b c o (a c o h)
theorem bh.free {H H':Hp} (e:bh H H') {l:ah} (h:H' l=Fk):H l=Fk:=by
 cases q:H l with
 | none=>rfl
 | some o =>
  rw[e l o q] at h
  cases h
theorem bh.seq {K:ak} {H H':Hp} {a:ah} {xs:List V} (e:bh H H') (h:bI K H a xs):bI K H' a xs:=by
 rcases h with (h | ⟨o,h⟩) | h
 ·exact .inl (.inl (e _ _ h))
 ·exact .inl (.inr ⟨o,e _ _ h⟩)
 ·exact .inr h
section
variable {κ:Type} [DecidableEq κ]
end
theorem v7 {env:qA}:∀ (names:List (aT × qY)) (cs:List (aT × ah)),(∀ x∈names,x.2=.free->∃ c,env.cells.lookup x.1=some c)->(∀ x c,cs.lookup x=some c->env.cells.lookup x=some c) ->
  ∃ cl:List (aT × ah),(forIn names cs λx r=>if (x.snd == bQ)=true then (do let a ← cellOf env x.fst;pure (jw ((x.fst,a)::r)):RP (ForInStep (List (aT × ah)))) else pure (jw r))=pure cl /\
   (∀ x c,cl.lookup x=some c->env.cells.lookup x=some c)/\∀ x,((x,bQ)∈names\/∃ c,cs.lookup x=some c)->∃ c,cl.lookup x=some c
 | [],cs,_,h2=>⟨cs,rfl,h2,λx hx=>hx.elim (λz=>nomatch z) id⟩
 | (n, k)::r,cs,h1,h2=>by
  rw[yu]
  by_cases hk:k=.free
  ·subst hk
   obtain⟨c,hc⟩:=h1 (n,.free) aP rfl
   obtain⟨cl,e,q1,q2⟩:=v7 r ((n,c)::cs) (λx hx=>h1 x (bc _ hx)) (λx d hd=>by
    rw[cD] at hd
    split at hd
    ·rename_i hx
     cases hd
     have:x=n:=by simpa using hx
     subst this;exact hc
    ·exact h2 x d hd)
   refine⟨cl,?_,q1,λx hx=>q2 x ?_⟩
   ·simp only [beq_self_eq_true,if_true]
    rw[show cellOf env n=pure c by unfold cellOf;rw[hc]]
    simp only [pure_bind]
    exact e
   ·rcases hx with hx | ⟨d,hd⟩
    ·rcases aE.mp hx with z | z
     ·cases z
      exact .inr ⟨c,by rw[cD];simp⟩
     ·exact .inl z
    ·refine .inr ?_
     rw[cD]
     split
     ·exact⟨_,rfl⟩
     ·exact⟨d,hd⟩
  ·obtain⟨cl,e,q1,q2⟩:=v7 r cs (λx hx=>h1 x (bc _ hx)) h2
   have hb:(k == bQ)=false:=by simpa using hk
   refine⟨cl,?_,q1,λx hx=>q2 x ?_⟩
   ·simp only [hb,nE,if_false,pure_bind]
    exact e
   ·rcases hx with hx | hx
    ·rcases aE.mp hx with z | z
     ·cases z;exact absurd rfl hk
     ·exact .inl z
    ·exact .inr hx
theorem Ao {env:qA} {scope:ek} (h:∀ x∈scope.names,x.2=.free->∃ c,env.cells.lookup x.1=some c) :
  ∃ cl:List (aT × ah),closureFor scope env=pure cl/\(∀ x c,cl.lookup x=some c->env.cells.lookup x=some c)/\∀ x,(x,bQ)∈scope.names->∃ c,cl.lookup x=some c:=by
 obtain⟨cl,e,q1,q2⟩:=v7 scope.names [] h (λx c z=>by simp at z)
 refine⟨cl,?_,q1,λx hx=>q2 x (.inl hx)⟩
 simp only [closureFor]
 rw[e]
 rfl
theorem Hr {prog:aO} {w:bD} {A:bp} {R:qF->ai->Prop} {s:ai} {elt target iter:bR} {ifs:List bR} {scope:ek} {pos:gR} {it acc:ae} {env:qA} (I:Nat->ai->Prop)
  (turn : ∀ n s,I n s->wpAny (aS prog w) A (jQ it) (λr s₁=>match r with
   | none=>R (.ok .next) s₁
   | some v=>wpAny (aS prog w) A (tM target it v) (λ_ s₁'=>wpAny (aS prog w) A (xR target env v) (λ_ s₂ =>
     wpAny (aS prog w) A (forIn ifs true λc r=>if r=true then do let ok ← OI c env (dU c env);pure (jw ok) else pure (jw r)) (λok s₃ =>
      if ok=true then wpAny (aS prog w) A (dU elt env) (λx s₄ =>
       wpAny (aS prog w) A (qH (.builtin "list.append") [acc,x]) (λ_ s₅=>∃ m,m<n/\I m s₅) (λ_ _=>False) s₄) (λ_ _=>False) s₃
      else ∃ m,m<n/\I m s₃) (λ_ _=>False) s₂) (λ_ _=>False) s₁') (λ_ _=>False) s₁) (λ_ _=>False) s)
  (n:Nat) (h:I n s) :
  codeAny (aS prog w) A (.compLoop (.ListComp elt [⟨target,iter,ifs,0⟩] scope pos) 0 it acc env) R s:=by
 refine codeAny_loop rfl I (λn s hI=>?_) n h
 show wpAny _ A ((compTurn (.ListComp elt [⟨target,iter,ifs,0⟩] scope pos) 0 it acc env).onRaise (λx=>do noteFrame x env;theTreesLotGoes x)) _ _ s
 refine wpAny_noted ?_
 rw[compTurn_list]
 refine aa (xz (aa (cf (turn n s hI) (λr s₁ h₁=>?_) λ_ _ h'=>h'.elim)))
 cases r with
 | none=>exact aq h₁
 | some v =>
  refine aa (cf h₁ (λ_ s₁' h₁'=>?_) λ_ _ h'=>h'.elim)
  refine aa (cf h₁' (λ_ s₂ h₂=>aa (cf h₂ (λok s₃ h₃=>?_) λ_ _ h'=>h'.elim)) λ_ _ h'=>h'.elim)
  cases ok with
  | false=>exact aq ⟨rfl,h₃⟩
  | true =>
   exact aa (aa (cf h₃ (λx s₄ h₄=>aa (cf h₄ (λ_ s₅ h₅=>aq (aq ⟨rfl,h₅⟩)) λ_ _ h'=>h'.elim)) λ_ _ h'=>h'.elim))
abbrev gM (X:Cx) (scope:ek) (N:List aT) (cl:List (aT × ah)) (C:ah) (s:ai) (H:Hp) (ex:List ah) (pn:List (ah × d6)):Cx where
 prog:=X.prog
 w:=X.w
 K:=X.K
 mg:=X.mg
 base:=X.base
 A:=X.A
 N:=N
 s₀:=s
 H₀:=H
 env:=compEnvC scope cl C X.env
 outer:=X.stack
 stack:=X.stack
 ex:=ex
 calm:=X.calm
 fn:=λ_=>false
 pn:=pn
 xe:=λ_ _=>False
def NR (X:Cx) (ifs:List bR) (t:TT):Prop :=
 ∀ (pins:List (ah × d6)) (s:ai) (σ:St) (H:Hp) (Q:Bool->Hp->Prop),Inv X pins σ H s->t σ H Q ->
  wpAny (aS X.prog X.w) X.A (forIn ifs true λc r=>if r=true then do let ok ← OI c X.env (dU c X.env);pure (jw ok) else pure (jw r)) (TP X pins σ Q) X.xe s
def UG:TT:=λ_ H Q=>Q true H
theorem hV {X:Cx}:NR X [] UG:=λ_ _ _ H _ I h=>wpAny_tests_nil ⟨H,I,h⟩
theorem mU {X:Cx} {c:bR} {t:TT} (h:PT X c t):NR X [c] t:=λpins s σ H Q I hq=>wpAny_tests_one (h pins s σ H Q I hq)
abbrev DB:=V->Hp->(List V->Prop)->Prop
def Nf (X:Cx) (k:Nat) (tg:bR) (tt:DB):Prop :=
 ∀ (pins:List (ah × d6)) (s:ai) (σ:St) (H:Hp) (v:V) (u:ae) (Q:List V->Prop),Inv X pins σ H s->k<=σ.length->RelV v u->tt v H Q ->
  wpAny (aS X.prog X.w) X.A (xR tg X.env u) (λ_ s'=>∃ ws,ws.length=k/\Q ws/\Inv X pins (ws.map some++σ.drop k) H s') X.xe s
def MJ:DB:=λv _ Q=>Q [v]
theorem eH {X:Cx} {x:aT} {pos:gR} (hN:X.N.Nodup) (hi:X.N[0]?=some x) (hx:X.env.scope.names.lookup x=some .local):Nf X 1 (.Name x pos) MJ:=by
 intro pins s σ H v u Q I hl r h
 refine Bz (sY I hN hi (.inl hx) r (λs' I'=>⟨[v],rfl,h,?_⟩) (.inr hx))
 cases σ with
 | nil=>simp at hl
 | cons a t=>exact I'
def MK (K:ak) (n:Nat):DB:=λv H Q=>∃ a xs,v=.ref a/\gJ K H a xs/\xs.length=n/\Q xs
theorem PL {α:Type} (a b:α):∀ (σ:List α),2<=σ.length->(σ.set 0 a).set 1 b=[a,b]++σ.drop 2
 | _::_::_,_=>rfl
theorem OP {α:Type}:∀ (xs:List α),xs.length=2->∃ a b,xs=[a,b]
 | [a,b],_=>⟨a,b,rfl⟩
theorem LW {X:Cx} {x y:aT} {p1 p2 pos:gR} {k:Nat} (hc:X.calm=true) (hN:X.N.Nodup) (h0:X.N[0]?=some x) (h1:X.N[1]?=some y) (hx:X.env.scope.names.lookup x=some .local) (hy:X.env.scope.names.lookup y=some .local) :
  Nf X 2 (.Tuple [.Name x p1,.Name y p2] k pos) (MK X.K 2):=by
 have g:PG X (.Tuple [.Name x p1,.Name y p2] k pos) (Sf X.K 2 (wc (oH 0) (wc (oH 1) Of))):=by
  have a1:PG X (.Name x p1) (oH 0):=cE hN h0 (.inl hx) (.inr hx)
  have a2:PG X (.Name y p2) (oH 1):=cE hN h1 (.inl hy) (.inr hy)
  have a3:VL X [.Name x p1,.Name y p2] (wc (oH 0) (wc (oH 1) Of)):=dN a1 (dN a2 j5)
  exact ml hc a3
 intro pins s σ H v u Q I hl r h
 obtain⟨a,xs,rfl,hq,hlen,q⟩:=h
 obtain⟨x0,x1,e⟩:=OP xs hlen
 subst e
 have w:Sf X.K 2 (wc (oH 0) (wc (oH 1) Of)) (.ref a) σ H (λσ' H'=>σ'=(σ.set 0 (some x0)).set 1 (some x1)/\H'=H):=⟨a,[x0,x1],rfl,hq,rfl,x0,[x1],rfl,x1,[],rfl,rfl,rfl,rfl⟩
 refine fq (g pins s σ H _ _ _ I r w) ?_
 intro _ s' z
 obtain⟨σ',H',I',e1,e2⟩:=z
 subst e2
 rw[PL _ _ _ hl] at e1
 subst e1
 exact⟨[x0,x1],rfl,q,I'⟩
theorem o5.adopt {P:aO} {w:bD} {H:Hp} {h:bT} {a:ah} {o:HO} (x:o5 P w H h) (hn:H a=none) (new:gj P w (upd H a o) h a o):o5 P w (upd H a o) h:=λb u e=>by
 by_cases hb:b=a
 ·subst hb;rw[ar] at e;cases e;exact new
 ·rw[bB hb] at e
  exact (x b u e).xg (λc v _ q=>q) (λc q=>by rw[bB (cr q hn)];exact q) λc xs q=>by rw[bB (cr q hn)];exact q
theorem oC {env:qA} {x:aT}:∀ {names:List (aT × qY)},names.lookup x=some .free ->
  (names.map λ(n,k)=>if (k == bQ && env.scope.kind == .function && env.kindOf n == some .cell) then (n,fK) else (n,k)).lookup x=some .cell \/
  (names.map λ(n,k)=>if (k == bQ && env.scope.kind == .function && env.kindOf n == some .cell) then (n,fK) else (n,k)).lookup x=some .free
 | [],h=>by simp at h
 | (n,k)::r,h=>by
  have ih:=@oC env x r
  show (fw x ((if (k == bQ && env.scope.kind == .function && env.kindOf n == some .cell)=true then (n,fK) else (n,k))::_)=_)\/(fw x ((if (k == bQ && env.scope.kind == .function && env.kindOf n == some .cell)=true then (n,fK) else (n,k))::_)=_)
  cases hx:x == n with
  | true =>
   simp only [cD,hx] at h
   cases h
   split
   ·left;simp[cD,hx]
   ·right;simp[cD,hx]
  | false =>
   simp only [cD,hx] at h
   split
   ·simp only [cD,hx];exact ih h
   ·simp only [cD,hx];exact ih h
theorem sP {env:qA} {x:aT}:∀ {names:List (aT × qY)},(∀ y∈names,y.2≠.cell) ->
  ((names.map λ(n,k)=>if (k == bQ && env.scope.kind == .function && env.kindOf n == some .cell) then (n,fK) else (n,k)).lookup x=some .cell \/
  (names.map λ(n,k)=>if (k == bQ && env.scope.kind == .function && env.kindOf n == some .cell) then (n,fK) else (n,k)).lookup x=some .free)->(x,bQ)∈names
 | [],_,h=>by simp at h
 | (n, k)::r,hc,h=>by
  have ih:=@sP env x r (λy hy=>hc y (bc _ hy))
  have hk:k≠.cell:=hc (n,k) aP
  have h':(fw x ((if (k == bQ && env.scope.kind == .function && env.kindOf n == some .cell)=true then (n,fK) else (n,k))::_)=_)\/(fw x ((if (k == bQ && env.scope.kind == .function && env.kindOf n == some .cell)=true then (n,fK) else (n,k))::_)=_):=h
  cases hx:x == n with
  | true =>
   have e:x=n:=by simpa using hx
   subst e
   by_cases HQ:(k == bQ && env.scope.kind == .function && env.kindOf x == some .cell)=true
   ·have:k=.free:=by
     have:=(lN.mp (lN.mp HQ).1).1
     simpa using this
    subst this;exact aP
   ·rw[if_neg HQ] at h'
    simp only [cD,hx] at h'
    rcases h' with h' | h'
    ·exact absurd (cK h') hk
    ·cases h';exact aP
  | false =>
   refine bc _ (ih ?_)
   split at h' <;> (simp only [cD,hx] at h';exact h')
structure o9 (scope xx:ek) (N PN:List aT) (k:Nat) (cap:List Nat):Prop where
 kind:scope.kind=.function
 len:N.length=k+cap.length
 cell:∀ y∈scope.names,y.2≠.cell
 loc:∀ y∈scope.names,y.2=.local->scope.names.lookup y.1=some .local
 free:∀ y∈scope.names,y.2=.free->xx.names.lookup y.1=some .cell\/xx.names.lookup y.1=some .free
 cap:∀ j∈bO cap.length,∃ x i,N[k+j]?=some x/\cap[j]?=some i/\PN[i]?=some x/\scope.names.lookup x=some .free
 V7:∀ y∈scope.names,y.2=.free->scope.names.lookup y.1=some .free
def lH (σ:St) (cap:List Nat):St:=cap.map λj=>(σ[j]?).join
def zq (wi:TI) (tt:DB) (tc:TT) (te:TE) (cap:List Nat):TE:=λσ H Q=>wi σ H λJ H1 =>
 ∃ W : Nat->Nat->List V->Hp->Prop,(∃ m,W 0 m [] H1)/\∀ i m ys H2,W i m ys H2 ->
  (J.stop i H2/\ys.length<=aL/\∀ p,H2 p=none->Q (.ref p) (upd H2 p (.lst ys))) \/
  (J.go i H2/\∃ N:List V->Hp->Prop,(∀ BO H',N BO H'->BO.length<=aL/\∃ m',m'<m/\W (i+1) m' BO H') /\
   ∀ x H3,J.Dv i H2 x H3->tt x H3 λws=>tc (ws.map some++lH σ cap) H3 λb H4 =>
    if b=true then te (ws.map some++lH σ cap) H4 λy H5=>N (ys++[y]) H5 else N ys H4)
structure Blk (X:Cx) (pins:List (ah × d6)) (H:Hp) (s:ai) (C:ah):Prop where
 ns:∃ m,s.heap.Ns C m
 un:H C=none
 ne:C≠X.env.locals
 new:X.s₀.heap.objs.size<=C
 cells:∀ x c,X.env.cells.lookup x=some c->c≠C
 pins:∀ p∈X.pn++pins,p.1≠C
theorem Blk.turn {X:Cx} {pins:List (ah × d6)} {H:Hp} {σ:St} {s:ai} {C:ah} {h':bT} (B:Blk X pins H s C) (I:Inv X pins σ H s) (hs:fR C s.heap h'):Inv X pins σ H { s with heap:=h' } :=
 I.turned (t':=s.toks) (λb o hb e=>hs.extBut b o hb e) B.un B.ne (.inr B.new) B.cells B.pins
theorem DZ {X:Cx} {pins:List (ah × d6)} {σ:St} {H:Hp} {s:ai} {scope:ek} {N:List aT} {k:Nat} {cap:List Nat} {cl:List (aT × ah)} {h₁:bT} {fp:List ah} {tk:Nat} (I:Inv X pins σ H s) (S:o9 scope X.env.scope N X.N k cap)
  (rA:∀ x c,cl.lookup x=some c->X.env.cells.lookup x=some c) (Cv:∀ x,(x,bQ)∈scope.names->∃ c,cl.lookup x=some c)
  (hf:∀ b∈fp,m4 X pins H b) (ho:∀ b∈fp,∃ o,s.heap.get? b=some o)
  {m:aT->Option ae} (yS:h₁.Ns (s.heap.objs.size+1) m)
  (KM:∀ b o,(s.heap.push { cls:=.type "list",data:=.seq #[] }).get? b=some o->h₁.get? b=some o) :
  Inv (gM X scope N cl (s.heap.objs.size+1) { s with heap:=s.heap.push { cls:=.type "list",data:=.seq #[] } } H (s.heap.objs.size::fp) (X.pn++pins))
   [(s.heap.objs.size,{ cls:=.type "list",data:=.seq #[] })] (aH k none++lH σ cap) H { s with heap:=h₁,toks:=tk }:=by
 have Ik:Inv X pins σ H { s with heap:=s.heap.push { cls:=.type "list",data:=.seq #[] } }:=I.kept (t':=s.toks) λb o e=>al _ e
 have hold:∀ b o,s.heap.get? b=some o->h₁.get? b=some o:=λb o e=>KM b o (al _ e)
 have ltD:∀ {b o},s.heap.get? b=some o->b<s.heap.objs.size:=λe=>aD e
 have Q4:(s.heap.push { cls:=.type "list",data:=.seq #[] }).objs.size=s.heap.objs.size+1:=dW ..
 have nD:H s.heap.objs.size=none:=I.fresh
 have nC:H (s.heap.objs.size+1)=none:=I.cU.fresh (jj _)
 have v6:∀ x c,X.env.cells.lookup x=some c->c<s.heap.objs.size:=λx c e=>by
  obtain⟨v,q⟩:=I.cell x c e
  exact q.lt
 have xh:∀ b,b≠X.env.locals->b ∉ X.fs->b ∉ qO X.stack:=λb h1 h2 hb=>(aE.mp (I.xi b hb)).elim h1 h2
 have Kh:∀ b∈fp,b<s.heap.objs.size:=λb hb=>by obtain⟨o,e⟩:=ho b hb;exact aD e
 have Ww:∀ {x:aT},scope.names.lookup x=some .free->(x,bQ)∈scope.names:=λe=>eL e
 refine⟨⟨I.ok.mod,S.kind,I.ok.glob,I.ok.blt,?_,λx y c h1 h2=>I.ok.inj x y c (rA x c h1) (rA y c h2),λx hx=>Cv x (sP S.cell hx),λx c z=>(by cases z),I.ok.hd,I.ok.frames,.inl rfl,?_,?_,?_,?_,?_,Ik.stack,I.Bv⟩,
  rfl,I.bare,Un.kept KM,?_,?_,nC,λx c e=>I.lZ x c (rA x c e),?_,I.cU.kept hold,?_⟩
 ·exact G3 Q4
 ·intro b hb
  rcases aE.mp hb with rfl | hb
  ·exact⟨aR (de _),λx c e=>aR (v6 x c (rA x c e))⟩
  ·exact⟨aR (di (Kh b hb)),λx c e=>(hf b hb).2.2.2.2.1 x c (rA x c e)⟩
 ·intro b o e
  obtain⟨e1,e2⟩:=I.bs b o e
  exact⟨al _ e1,e2⟩
 ·show X.base.objs.size<=(s.heap.push _).objs.size
  rw[Q4]
  exact Qu (cq I.ok.Jo I.sz)
 ·intro b o e hb
  obtain⟨e1,e2⟩:=I.bs b o e
  rcases aE.mp hb with rfl | hb
  ·exact absurd (ltD e1) (jU _)
  ·rcases (hf b hb).2.2.2.1 with z | z
   ·exact I.ok.mH b o e z
   ·exact absurd (b8 (aD (I.ok.bs b o e).1) z) (jU _)
 ·intro b hb
  rcases aE.mp hb with rfl | hb
  ·exact xh _ (bY I.lt) (I.OT (aA _))
  ·exact xh b (hf b hb).2.1 (hf b hb).2.2.1
 ·refine⟨m,yS,λi x v h1 h2 h3=>?_⟩
  have ZD:k<=i:=by
   refine pq λji=>?_
   rw[b9 (by simpa using ji),ie] at h2
   split at h2 <;> cases h2
  obtain⟨j,rfl⟩:=Nat.exists_eq_add_of_le ZD
  rw[cx (by simp),gh,Nat.add_sub_cancel_left] at h2
  have hj:j<cap.length:=by
   have:=(ag.mp h2).1
   simpa [lH] using this
  obtain⟨x',i,e1,e2,e3,e4⟩:=S.cap j (d8.mpr hj)
  rw[show N[k+j]?=some x from h1] at e1
  cases e1
  have QE:σ[i]?=some (some v):=by
   unfold lH at h2
   rw[aB,e2] at h2
   have QE:(σ[i]?).join=some v:=cK h2
   cases q:σ[i]? with
   | none=>rw[q] at QE;cases QE
   | some z=>rw[q] at QE;exact congrArg some QE
  have hfm:=Ww e4
  have pk:=S.free _ hfm rfl
  obtain⟨m0,_,hl⟩:=I.loc
  obtain⟨u,r,lk⟩:=hl i x v e3 QE (pk.elim (λz=>.inr (.inl z)) λz=>.inr (.inr z))
  refine⟨u,r,?_⟩
  rcases lk with ⟨kl,_⟩ | ⟨_,c,e,ic⟩
  ·rcases pk with z | z
   ·have:X.env.scope.names.lookup x=some .local:=kl
    rw[z] at this;cases this
   ·have:X.env.scope.names.lookup x=some .local:=kl
    rw[z] at this;cases this
  ·obtain⟨c',ec⟩:=Cv x hfm
   have:=rA x c' ec
   rw[e] at this;cases this
   refine .inr ⟨?_,c,ec,?_⟩
   ·exact oC e4
   ·obtain⟨ob,h3,h4⟩:=ic
    exact⟨ob,hold _ _ h3,h4⟩
 ·intro x c e
  obtain⟨v,ob,h3,h4⟩:=I.cell x c (rA x c e)
  exact⟨v,ob,hold _ _ h3,h4⟩
 ·intro p hp
  rcases bo.mp hp with hp | hp
  ·obtain⟨e,n,ne,nf,d⟩:=I.pin p hp
   exact⟨hold _ _ e,n,aR (di (ltD e)),xh _ ne nf,d⟩
  ·have:p=(s.heap.objs.size,{ cls:=.type "list",data:=.seq #[] }):=by simpa using hp
   subst this
   refine⟨KM _ _ (aF _ rfl),nD,aR (de _),xh _ (bY I.lt) (I.OT (aA _)),λv z=>by cases z⟩
 ·show _=N.length
  rw[S.len]
  simp[lH]
theorem yM {X:Cx} {elt tg iter:bR} {ifs:List bR} {scope:ek} {pos:gR} {N:List aT} {k:Nat} {cap:List Nat} {wi:TI} {tt:DB} {tc:TT} {te:TE} {cl:List (aT × ah)}
  (hc:X.calm=true) (hi:PI X tg iter wi) (hg:∀ cl C s H ex pn,Nf (gM X scope N cl C s H ex pn) k tg tt) (ht:∀ cl C s H ex pn,NR (gM X scope N cl C s H ex pn) ifs tc)
  (he:∀ cl C s H ex pn,PE (gM X scope N cl C s H ex pn) elt te) (S:o9 scope X.env.scope N X.N k cap)
  (rA:∀ x c,cl.lookup x=some c->X.env.cells.lookup x=some c) (Cv:∀ x,(x,bQ)∈scope.names->∃ c,cl.lookup x=some c)
  {pins:List (ah × d6)} {s:ai} {σ:St} {H:Hp} {Q:VK} (I:Inv X pins σ H s) (h:zq wi tt tc te cap σ H Q) {RR:ae->ah->qF->ai->Prop}
  (hRR:∀ D C s1 H',Inv X pins σ H' s1->Blk X pins H' s1 C->Q (.ref D) H'->RR (.ref D) C (.ok .next) s1) :
  wpAny (aS X.prog X.w) X.A (dU iter X.env) (λx s₁=>wpAny (aS X.prog X.w) X.A (IE x) (λit s₂=>wpAny (aS X.prog X.w) X.A (newList []) (λacc s₃ =>
   wpAny (aS X.prog X.w) X.A (newFunctionEnv scope X.env.globals cl [] X.env.qual none .none (some X.env)) (λV0 s₄ =>
    codeAny (aS X.prog X.w) X.A (.compStart (.ListComp elt [⟨tg,iter,ifs,0⟩] scope pos) 0 it acc { V0 with scope:=aak scope X.env }) (RR acc V0.locals) s₄) X.xe s₃) X.xe s₂) X.xe s₁) X.xe s:=by
 refine fq (hi pins s σ H _ I h) λv s1 h1=>fq h1 λitv s2 h2=>?_
 obtain⟨it,fp,tn,J,H2,e,I2,T,YE,f2,W,⟨m0,w0⟩,turn⟩:=h2
 subst e
 refine fW (UP S.cell (by intro y hy;simp at hy) (λh₁ Ot Ox=>?_) S.kind)
 dsimp only at Ot Ox ⊢
 have hP:s2.heap.push { cls:=.type "list",dict:=none,data:=.seq ([]:List ae).toArray }=s2.heap.push { cls:=.type "list",data:=.seq #[] }:=rfl
 rw[hP] at Ot Ox ⊢
 have hC:(s2.heap.push { cls:=.type "list",data:=.seq #[] }).objs.size=s2.heap.objs.size+1:=dW ..
 rw[hC] at Ot Ox ⊢
 have KM:∀ b o,(s2.heap.push { cls:=.type "list",data:=.seq #[] }).get? b=some o->h₁.get? b=some o:=λb o e =>
  Ox.extBut b o (by have:=aD e;rw[hC] at this;exact aR this) (al _ e)
 have hob:∀ b∈fp,∃ o,s2.heap.get? b=some o:=λb hb=>by obtain⟨o,e,_⟩:=T.obj _ _ YE b hb;exact⟨o,e⟩
 have IY:=DZ (N:=N) (k:=k) (cap:=cap) (tk:=s2.toks+([]:List (aT × ae)).length) I2 S rA Cv f2 hob Ot KM
 generalize hY:gM X scope N cl (s2.heap.objs.size+1) { s2 with heap:=s2.heap.push { cls:=.type "list",data:=.seq #[] } } H2 (s2.heap.objs.size::fp) (X.pn++pins)=Y at IY
 have yp:Y.prog=X.prog:=by rw[← hY]
 have yw:Y.w=X.w:=by rw[← hY]
 have yK:Y.K=X.K:=by rw[← hY]
 have yA:Y.A=X.A:=by rw[← hY]
 have yc:Y.calm=true:=by rw[← hY];exact hc
 have yl:Y.env.locals=s2.heap.objs.size+1:=by rw[← hY];rfl
 have UT:Y.env=compEnvC scope cl (s2.heap.objs.size+1) X.env:=by rw[← hY]
 have yex:Y.ex=s2.heap.objs.size::fp:=by rw[← hY]
 have yfs:Y.fs=qO X.stack:=by rw[← hY]
 have ypn:Y.pn=X.pn++pins:=by rw[← hY]
 have ycl:Y.env.cells=cl:=by rw[← hY];rfl
 have yxe:Y.xe=λ_ _=>False:=by rw[← hY]
 have gT:Nf Y k tg tt:=by rw[← hY];exact hg _ _ _ _ _ _
 have gC:NR Y ifs tc:=by rw[← hY];exact ht _ _ _ _ _ _
 have gE:PE Y elt te:=by rw[← hY];exact he _ _ _ _ _ _
 have yH:Y.H₀=H2:=by rw[← hY]
 have ys0:Y.s₀={ s2 with heap:=s2.heap.push { cls:=.type "list",data:=.seq #[] } }:=by rw[← hY]
 have Kh:∀ b∈fp,b<s2.heap.objs.size:=λb hb=>by obtain⟨o,e⟩:=hob b hb;exact aD e
 have LS:∀ p∈X.pn++pins,p.1<s2.heap.objs.size:=λp hp=>aD (I2.pin p hp).1
 have v6:∀ x c,X.env.cells.lookup x=some c->c<s2.heap.objs.size:=λx c e=>by
  obtain⟨v,q⟩:=I2.cell x c e
  exact q.lt
 have xh:∀ b,b≠X.env.locals->b ∉ X.fs->b ∉ qO X.stack:=λb h1 h2 hb=>(aE.mp (I2.xi b hb)).elim h1 h2
 have fpY:∀ {H':Hp} {pl:List (ah × d6)},(∀ b∈fp,H' b=none)->(∀ p∈pl,p.1=s2.heap.objs.size)->∀ b∈fp,m4 Y pl H' b:=λ{H' pl} hn oT b hb=>by
  refine⟨hn b hb,?_,?_,.inl ?_,λx c e=>?_,λp hp=>?_⟩
  ·rw[yl];exact aR (di (Kh b hb))
  ·rw[yfs];exact xh b (f2 b hb).2.1 (f2 b hb).2.2.1
  ·rw[yex];exact bc _ hb
  ·rw[ycl] at e;exact (f2 b hb).2.2.2.2.1 x c (rA x c e)
  ·rcases bo.mp hp with hp | hp
   ·rw[ypn] at hp;exact (f2 b hb).2.2.2.2.2 p hp
   ·rw[oT p hp];exact bY (Kh b hb)
 have loop:∀ s₃:ai,s₃={ s2 with heap:=h₁,toks:=s2.toks+([]:List (aT × ae)).length } ->
   codeAny (aS X.prog X.w) X.A (.compLoop (.ListComp elt [⟨tg,iter,ifs,0⟩] scope pos) 0 (.ref it) (.ref s2.heap.objs.size) (compEnvC scope cl (s2.heap.objs.size+1) X.env)) (RR (.ref s2.heap.objs.size) (s2.heap.objs.size+1)) s₃:=by
  rintro s₃ rfl
  refine Hr (λn s'=>∃ i ys cH H' c,Inv Y [(s2.heap.objs.size,{ cls:=.type "list",data:=.seq (List.toArray cH) c })] (aH k none++lH σ cap) H' s'/\tn i s'.heap/\(∀ b∈fp,H' b=none)/\Vals ys cH/\W i n ys H') ?_ m0
   ⟨0,[],[],H2,_,IY,T.keep _ _ _ YE λb hb o e=>KM b o (al _ e),λb hb=>(f2 b hb).1,.nil,w0⟩
  rintro n s3 ⟨i,ys,cH,H3,c3,I3,YF,V6,Um,w3⟩
  have LB:∀ p∈[(s2.heap.objs.size,({ cls:=.type "list",data:=.seq cH.toArray c3 }:d6))],p.1=s2.heap.objs.size:=λp hp=>by
   have:p=(s2.heap.objs.size,{ cls:=.type "list",data:=.seq cH.toArray c3 }):=by simpa using hp
   rw[this]
  have Yg:∀ {pl:List (ah × d6)} {σ':St} {H':Hp} {s':ai},Inv Y ([(s2.heap.objs.size,({ cls:=.type "list",data:=.seq cH.toArray c3 }:d6))]++pl) σ' H' s'->s'.heap.get? s2.heap.objs.size=some { cls:=.type "list",data:=.seq cH.toArray c3 }/\H' s2.heap.objs.size=none:=λI'=>by
   obtain⟨e,n,_⟩:=I'.pin (s2.heap.objs.size,{ cls:=.type "list",data:=.seq cH.toArray c3 }) (br _ (ck _ (by simp)))
   exact⟨e,n⟩
  rcases turn i n ys H3 w3 with ⟨stop,hz,qn⟩ | ⟨go,Nx,hNx,step⟩
  ·have hd:=T.done Y yp yw yK yc i _ s3 _ H3 (λ_ _=>False) I3 (fpY V6 LB) YF stop
   rw[yA] at hd
   refine fq hd λr s4 c6=>?_
   obtain⟨hr,I4⟩:=c6
   subst hr
   obtain⟨eD,nD⟩:=Yg (pl:=[]) (by simpa using I4)
   have nC:H3 (s2.heap.objs.size+1)=none:=by have:=I4.free;rw[yl] at this;exact this
   obtain⟨mC,nsC,_⟩:=I4.loc
   rw[yl] at nsC
   have U:=I4.base
   rw[yfs,yex,yH,ys0] at U
   have old:∀ {b o},s2.heap.get? b=some o->b<s2.heap.objs.size:=λe=>aD e
   have Un2:Un (qO X.stack) (s2.heap.objs.size::fp) H2 (upd H3 s2.heap.objs.size (.lst ys)) s2.heap s4.heap :=
    ⟨λb o e n hb hx=>U.keep b o (al _ e) n hb hx,λb o e n hb hx=>U.slot b o (al _ e) n hb hx,
     λb o e n hx=>by rw[bB (aR (old e))];exact U.free b o (al _ e) n hx,λb o e hx=>U.there b o (al _ e) hx,
     λb xs e=>by have q:=U.tu b xs e;rw[bB (cr q nD)];exact q,λb o u e=>by have q:=U.rq b o u e;rw[bB (cr q nD)];exact q,
     λb ps e=>by obtain⟨mo,q⟩:=U.rL b ps e;exact⟨mo,by rw[bB (cr q nD)];exact q⟩⟩
   have W0:=I4.cU
   rw[yp,yw] at W0
   have IX:Inv X pins σ (upd H3 s2.heap.objs.size (.lst ys)) s4:=by
    refine I2.JZ (ch:=s2.heap.objs.size::fp) ?_ Un2 (W0.adopt nD ⟨hz,cH,c3,Um,eD⟩) I4.bare λb hb=>?_
    ·have:=I4.os;rw[ys0] at this;exact this
    ·rcases aE.mp hb with rfl | hb
     ·exact⟨.inr I2.sz,bY I2.lt,λx c e=>aR (v6 x c e),λp hp=>aR (LS p hp)⟩
     ·exact⟨(f2 b hb).2.2.2.1,(f2 b hb).2.1,(f2 b hb).2.2.2.2.1,(f2 b hb).2.2.2.2.2⟩
   refine hRR _ _ s4 _ IX ⟨⟨mC,nsC⟩,?_,?_,Qu I2.sz,λx c e=>aR (di (v6 x c e)),λp hp=>aR (di (LS p hp))⟩ (qn _ nD)
   ·rw[bB (px _)];exact nC
   ·exact bY (di I2.lt)
  ·have hd := T.item Y yp yw yK yc i _ s3 _ H3 (λ_ _=>False) I3 (fpY V6 LB) YF go
   rw[yA] at hd
   refine fq hd λr s4 c6=>?_
   obtain⟨u,hr,h4⟩:=c6
   subst hr
   refine fq h4 λ_ s5 c6=>?_
   obtain⟨x,H5,I5,r5,y5,Uu,fr5⟩:=c6
   have I5':=I5.pinned (fpY fr5 LB) (T.obj _ _ Uu)
   have a5:=gT _ s5 _ H5 x u _ I5' (by simp) r5 (step x H5 y5)
   rw[yp,yw,yA,yxe,UT] at a5
   refine fq a5 λ_ s6 c6=>?_
   obtain⟨ws,hlw,q6,I6⟩:=c6
   have dr:(aH k (none:Option V)++lH σ cap).drop k=lH σ cap:=by
    rw[List.drop_append_of_le_length (by simp)];simp
   rw[dr] at I6
   have a6:=gC _ s6 _ H5 _ I6 q6
   rw[yp,yw,yA,yxe,UT] at a6
   refine fq a6 λok s7 c6=>?_
   obtain⟨H7,I7,q7⟩:=c6
   have wk:∀ (j:Nat) v,(aH k (none:Option V)++lH σ cap)[j]?=some (some v)->(ws.map some++lH σ cap)[j]?=some (some v):=λj v e=>by
    have ZD:k<=j:=by
     refine pq λji=>?_
     rw[b9 (by simpa using ji),ie] at e
     split at e <;> cases e
    rw[cx (by simpa using ZD),gh] at e
    rw[cx (by simpa [hlw] using ZD),aj,hlw]
    exact e
   have wl:(aH k (none:Option V)++lH σ cap).length=(ws.map some++lH σ cap).length:=by simp[hlw]
   have stn:∀ {H':Hp} {s':ai},Inv Y ([(s2.heap.objs.size,({ cls:=.type "list",data:=.seq cH.toArray c3 }:d6))]++wM fp s5.heap) (ws.map some++lH σ cap) H' s'->tn (i+1) s'.heap/\∀ b∈fp,H' b=none:=λ{H' s'} I'=>by
    refine⟨T.keep _ _ _ Uu λb hb o e=>(I'.pin (b,o) (br _ (br _ (oy hb e)))).1,λb hb=>?_⟩
    obtain⟨o,e,d⟩:=T.obj _ _ Uu b hb
    exact (I'.pin (b,o) (br _ (br _ (oy hb e)))).2.1
   cases ok with
   | false =>
    obtain⟨_,m',hm,w'⟩:=hNx _ _ q7
    obtain⟨t7,f7⟩:=stn I7
    exact⟨m',hm,i+1,ys,cH,H7,c3,(I7.weak wl wk).tw,t7,f7,Um,w'⟩
   | true =>
    have a7:=gE _ s7 _ H7 _ I7 q7
    rw[yp,yw,yA,yxe,UT] at a7
    rw[if_pos rfl]
    refine fq a7 λyv s8 c6=>?_
    obtain⟨y,H8,I8,r8,q8⟩:=c6
    obtain⟨hz8,m',hm,w'⟩:=hNx _ _ q8
    rw[aJ,da] at hz8
    obtain⟨eD,nD⟩:=Yg I8
    obtain⟨t8,f8⟩:=stn I8
    refine wpAny_list_append_plain (hsz:=by rw[bu,← Um.length];omega) ⟨c3,eD⟩ λh9 pl9 sb9=>?_
    obtain⟨c9,e9⟩:=pl9
    have I8':Inv Y [] (aH k none++lH σ cap) H8 s8:=(I8.weak wl wk).mT λp hp=>by cases hp
    have I9:Inv Y [] (aH k none++lH σ cap) H8 { s8 with heap:=h9 } :=
     I8'.turned (t':=s8.toks) (it:=s2.heap.objs.size) (λb o hb e=>sb9.extBut b o hb e) nD (by rw[yl];exact aR (de _)) (.inl (by rw[yex];exact aP)) (λx c e=>by rw[ycl] at e;exact aR (v6 x c (rA x c e)))
      λp hp=>by
       rw[ef,ypn] at hp
       exact aR (LS p hp)
    have e9':h9.get? s2.heap.objs.size=some { cls:=.type "list",data:=.seq (cH++[yv]).toArray c9 }:=by rw[e9];simp
    refine⟨m',hm,i+1,ys++[y],cH++[yv],H8,c9,I9.mT λp hp=>?_,T.keep _ _ _ t8 λb hb o e=>sb9.extBut b o (aR (Kh b hb)) e,f8,Um.append (.cons r8 .nil),w'⟩
    have:p=(s2.heap.objs.size,{ cls:=.type "list",data:=.seq (cH++[yv]).toArray c9 }):=by simpa using hp
    subst this
    refine⟨e9',nD,?_,?_,λv z=>by cases z⟩
    ·rw[yl];exact aR (de _)
    ·rw[yfs];exact xh _ (bY I2.lt) (I2.OT (aA _))
 exact codeAny_compStart_list (loop _ rfl) (T.self _ 0 _ _ _ (T.keep _ _ _ YE λb hb o e=>KM b o (al _ e)) (loop _ rfl))
section
variable {X:Cx} {elt tg iter:bR} {ifs:List bR} {scope:ek} {pos:gR} {N:List aT} {k:Nat} {cap:List Nat} {wi:TI} {tt:DB} {tc:TT} {te:TE}
theorem F6 (hc:X.calm=true) (S:o9 scope X.env.scope N X.N k cap) (hi:PI X tg iter wi) (hg:∀ cl C s H ex pn,Nf (gM X scope N cl C s H ex pn) k tg tt) (ht:∀ cl C s H ex pn,NR (gM X scope N cl C s H ex pn) ifs tc)
  (he:∀ cl C s H ex pn,PE (gM X scope N cl C s H ex pn) elt te) (hs:∀ x,jy iter X.env x=pure x:=by intro _;rfl) :
  PE X (.ListComp elt [⟨tg,iter,ifs,0⟩] scope pos) (zq wi tt tc te cap):=by
 intro pins s σ H Q I h
 obtain⟨cl,Ks,rA,Cv⟩:=Ao (scope:=scope) (env:=X.env) λy hy hf=>I.ok.has y.1 (S.free y hy hf)
 rw[eval_ListComp]
 refine MT (use:=none) rfl hs Ks S.kind S.loc ?_
 refine yM hc hi hg ht he S rA Cv I h λD C s1 H' I1 B q=>?_
 obtain⟨m,hm⟩:=B.ns
 exact⟨m,hm,λh' sb=>⟨.ref D,H',B.turn I1 sb,rfl,q⟩⟩
theorem Pj {i:Nat} {y:aT} {py Mv:gR} (hc:X.calm=true) (S:o9 scope X.env.scope N X.N k cap) (hN:X.N.Nodup) (hiy:X.N[i]?=some y) (hy:X.env.scope.names.lookup y=some .local) (hi:PI X tg iter wi)
  (hg:∀ cl C s H ex pn,Nf (gM X scope N cl C s H ex pn) k tg tt) (ht:∀ cl C s H ex pn,NR (gM X scope N cl C s H ex pn) ifs tc)
  (he:∀ cl C s H ex pn,PE (gM X scope N cl C s H ex pn) elt te)
  (Xa:rK (.ListComp elt [⟨tg,iter,ifs,0⟩] scope pos) (some (.Name y py)) Mv.line X.env=pure true:=by rfl) (hs:∀ x,jy iter X.env x=pure x:=by intro _;rfl) :
  PS X (.Assign [.Name y py] (.ListComp elt [⟨tg,iter,ifs,0⟩] scope pos) Mv) (PV (zq wi tt tc te cap) (oH i)):=by
 intro pins s σ H D I h
 obtain⟨cl,Ks,rA,Cv⟩:=Ao (scope:=scope) (env:=X.env) λy hy hf=>I.ok.has y.1 (S.free y hy hf)
 rw[exec_Assign_Name_used _ _ _ _ Xa]
 refine aa (xz (aa ?_))
 show wpAny _ X.A (do let _ ← comprehension (.ListComp elt [⟨tg,iter,ifs,0⟩] scope pos) scope X.env _ (newList []) false (dU iter X.env) (some (xR (.Name y py) X.env))) _ _ s
 refine aa (cf (MT (use:=some (xR (.Name y py) X.env)) (Q:=λ_ s'=>SP X pins D .next s') rfl hs Ks S.kind S.loc ?_) (λ_ s' hq=>aq (aq hq)) λ_ _ e=>e)
 refine yM hc hi hg ht he S rA Cv I h λDa C s1 H' I1 B q=>?_
 show wpAny _ X.A (xR (.Name y py) X.env (.ref Da)) _ _ _
 refine Bz (zp (v:=.ref Da) I1 hN hiy (.inl hy) rfl (λs' I' z=>?_) (.inr hy))
 obtain⟨a,KM,ha⟩:=z
 have hCa:C≠a:=by
  rcases ha with rfl | ha
  ·exact B.ne
  ·exact λe=>B.cells _ _ ha e.symm
 obtain⟨m,hm⟩:=B.ns
 refine⟨m,hm.sameBut KM hCa,λh' sb=>?_⟩
 exact⟨_,H',I'.turned (t':=s'.toks) (λb o hb e=>sb.extBut b o hb e) B.un B.ne (.inr B.new) B.cells B.pins,q⟩
end
abbrev Rel (α:Type):=Hp->α->V->Prop
def gG:Rel Int:=λ_ i v=>v=.int i
def QY:Rel Bool:=λ_ b v=>v=.bl b
def Uj {α:Type} (R:Rel α):Rel (Option α):=λH o v=>match o with
 | none=>v=.e8
 | some x=>R H x v
def gb {α:Type} (R:Rel α):Rel (List α):=λH xs v=>∃ a vs,v=.ref a/\H a=some (.lst vs)/\dP (R H) xs vs
def Uk {α β:Type} (R:Rel α) (S:Rel β):Rel (α × β):=λH p v=>∃ a x y,v=.ref a/\H a=some (.tup [x,y])/\R H p.1 x/\S H p.2 y
def rT3 {α β γ:Type} (R:Rel α) (S:Rel β) (T:Rel γ):Rel (α × β × γ):=λH p v=>∃ a x y z,v=.ref a/\H a=some (.tup [x,y,z])/\R H p.1 x/\S H p.2.1 y/\T H p.2.2 z
structure io {α:Type} (R:Rel α):Prop where
 go:∀ (H H':Hp) (x:α) (v:V),bh H H'->R H x v->R H' x v
theorem io.up {α:Type} {R:Rel α} (m:io R) {H H':Hp} {x:α} {v:V} (s:bh H H') (h:R H x v):R H' x v:=m.go H H' x v s h
theorem cR:io gG:=⟨λ_ _ _ _ _ h=>h⟩
theorem ee {α:Type} {R:Rel α} (m:io R) {H H':Hp} (s:bh H H') {xs:List α} {vs:List V} (p:dP (R H) xs vs):dP (R H') xs vs:=Paired.TJ p λ_ _ q=>m.up s q
theorem cN {α:Type} {R:Rel α} (m:io R):io (gb R):=⟨λH H' x v s h=>by
 obtain⟨a,vs,e,h1,p⟩:=h
 exact⟨a,vs,e,s _ _ h1,ee m s p⟩⟩
theorem ql {α β:Type} {R:Rel α} {S:Rel β} (m:io R) (n:io S):io (Uk R S):=⟨λH H' x v s h=>by
 obtain⟨a,x,y,e,h1,p,q⟩:=h
 exact⟨a,x,y,e,s _ _ h1,m.up s p,n.up s q⟩⟩
theorem OR {α β γ:Type} {R:Rel α} {S:Rel β} {T:Rel γ} (m:io R) (n:io S) (o:io T):io (rT3 R S T):=⟨λH H' x v s h=>by
 obtain⟨a,x,y,z,e,h1,p,q,r⟩:=h
 exact⟨a,x,y,z,e,s _ _ h1,m.up s p,n.up s q,o.up s r⟩⟩
theorem wJ {α β:Type} {F:α->β->Prop} {f:α->β} (h:∀ a,F a (f a)):∀ xs:List α,dP F xs (xs.map f)
 | []=>.nil
 | a::r=>.cons (h a) (wJ h r)
theorem a0m {H:Hp}:∀ {xs:List Int} {vs:List V},dP (gG H) xs vs->vs=xs.map V.int
 | _,_,.nil=>rfl
 | _,_,.cons h t=>by rw[dg,← a0m t];exact congrArg (·::_) h
theorem CD {H:Hp} (xs:List Int):dP (gG H) xs (xs.map V.int):=wJ (F:=gG H) (f:=V.int) (λ_=>rfl) xs
theorem fL {H:Hp} {xs:List Int} {v:V}:gb gG H xs v↔∃ a,v=.ref a/\H a=some (.lst (xs.map V.int)):=by
 constructor
 ·rintro⟨a,vs,rfl,h,p⟩
  rw[a0m p] at h
  exact⟨a,rfl,h⟩
 ·rintro⟨a,rfl,h⟩
  exact⟨a,_,rfl,h,CD xs⟩
theorem Paired.at {α β:Type} {F:α->β->Prop}:∀ {xs:List α} {ys:List β} {i:Nat} {x:α},dP F xs ys->xs[i]?=some x->∃ y,ys[i]?=some y/\F x y
 | _,_,_,_,.nil,e=>by simp at e
 | _,_,0,_,.cons r _,e=>by simp at e;subst e;exact⟨_,rfl,r⟩
 | _,_,i+1,x,.cons _ t,e=>by
  obtain⟨u,h1,h2⟩:=Paired.at (i:=i) (x:=x) t (by simpa using e)
  exact⟨u,by simpa using h1,h2⟩
theorem Paired.ta {α β:Type} {F:α->β->Prop}:∀ {xs:List α} {ys:List β} {i:Nat} {y:β},dP F xs ys->ys[i]?=some y->∃ x,xs[i]?=some x/\F x y
 | _,_,_,_,.nil,e=>by simp at e
 | _,_,0,_,.cons r _,e=>by simp at e;subst e;exact⟨_,rfl,r⟩
 | _,_,i+1,x,.cons _ t,e=>by
  obtain⟨u,h1,h2⟩:=Paired.ta (i:=i) (y:=x) t (by simpa using e)
  exact⟨u,by simpa using h1,h2⟩
theorem Paired.app {α β:Type} {F:α->β->Prop}:∀ {xs xs':List α} {ys BO:List β},dP F xs ys->dP F xs' BO->dP F (xs++xs') (ys++BO)
 | _,_,_,_,.nil,s=>s
 | _,_,_,_,.cons r t,s=>.cons r (Paired.app t s)
structure NK {α:Type} (n:Nat) (R:Rel α):Prop where
 go:∀ (X:Cx) (pins:List (ah × d6)) (σ:St) (H:Hp) (s:ai) (A:bp) (x:α) (v w:V) (u1 u2:ae),
  Inv X pins σ H s->A.units+n<jx->R H x v->R H x w->RelV v u1->RelV w u2->jV A s u1 u2 true
theorem NK.at {α:Type} {n:Nat} {R:Rel α} (h:NK n R) {X:Cx} {pins:List (ah × d6)} {σ:St} {H:Hp} {s:ai} {A:bp} {x:α} {v w:V} {u1 u2:ae} (I:Inv X pins σ H s) (hu:A.units+n<jx) (h1:R H x v) (h2:R H x w) (r1:RelV v u1) (r2:RelV w u2):jV A s u1 u2 true :=
 h.go X pins σ H s A x v w u1 u2 I hu h1 h2 r1 r2
structure NX {α:Type} (n:Nat) (R:Rel α):Prop where
 go:∀ (X:Cx) (pins:List (ah × d6)) (σ:St) (H:Hp) (s:ai) (A:bp) (x:α) (v w:V) (u1 u2:ae),
  Inv X pins σ H s->A.units+n<jx->R H x v->R H x w->RelV v u1->RelV w u2->JR A s u1 u2 true/\DS A s u1 u2 false
theorem NX.at {α:Type} {n:Nat} {R:Rel α} (h:NX n R) {X:Cx} {pins:List (ah × d6)} {σ:St} {H:Hp} {s:ai} {A:bp} {x:α} {v w:V} {u1 u2:ae} (I:Inv X pins σ H s) (hu:A.units+n<jx) (h1:R H x v) (h2:R H x w) (r1:RelV v u1) (r2:RelV w u2):JR A s u1 u2 true/\DS A s u1 u2 false :=
 h.go X pins σ H s A x v w u1 u2 I hu h1 h2 r1 r2
theorem HJ:NK 0 QY:=by
 refine⟨λX pins σ H s A x v w u1 u2 I hu h1 h2 r1 r2=>?_⟩
 have e1:v=.bl x:=h1
 have e2:w=.bl x:=h2
 subst e1;subst e2
 have:=ud (A:=A) (s:=s) r1 r2 rfl rfl
 simpa [D4] using this
theorem a0D (n:Nat):(bO n).all (λ_=>true)=true:=by simp
theorem MN {α:Type} {R:Rel α} {H:Hp} {xs:List α} {vs ws:List V} {P7 Rf:List ae} (p1:dP (R H) xs vs) (p2:dP (R H) xs ws) (r1:Vals vs P7) (r2:Vals ws Rf) :
  P7.length=Rf.length/\∀ (j:Nat) (a b:ae),P7[j]?=some a->Rf[j]?=some b->∃ x v w,R H x v/\R H x w/\RelV v a/\RelV w b:=by
 induction p1 generalizing ws P7 Rf with
 | nil =>
  cases p2
  cases r1;cases r2
  exact⟨rfl,λj a b e=>by simp at e⟩
 | cons h t ih =>
  cases p2 with
  | cons h' t' =>
   cases r1 with
   | cons q1 s1 =>
    cases r2 with
    | cons q2 s2 =>
     obtain⟨e,f⟩:=ih t' s1 s2
     refine⟨by simp[e],λj a b ea eb=>?_⟩
     cases j with
     | zero=>simp at ea eb;subst ea;subst eb;exact⟨_,_,_,h,h',q1,q2⟩
     | succ j=>exact f j a b (by simpa using ea) (by simpa using eb)
theorem L6 {α:Type} {n:Nat} {R:Rel α} (h:NK n R):NX (n+1) (gb R):=by
 refine⟨λX pins σ H s A xs v w u1 u2 I hu h1 h2 r1 r2=>?_⟩
 obtain⟨a,vs,e1,ha,p1⟩:=h1
 obtain⟨b,ws,e2,hb,p2⟩:=h2
 subst e1;subst e2
 cases r1;cases r2
 obtain⟨cH,n1,rv1,o1,z1⟩:=I.lst ha
 obtain⟨l6,n2,II,o2,z2⟩:=I.lst hb
 obtain⟨el,f⟩:=MN p1 p2 rv1 II
 have oJ:s.heap.IsList a cH.toArray:=⟨_,o1,rfl,n1,rfl⟩
 have qP:s.heap.IsList b l6.toArray:=⟨_,o2,rfl,n2,rfl⟩
 have he:∀ j (h1:j<cH.toArray.size) (h2:j<l6.toArray.size),jV A.in1 s cH.toArray[j] l6.toArray[j] ((λ_=>true) j):=λj h1 h2=>by
  obtain⟨x,v,w,q1,q2,q3,q4⟩:=f j (cH.toArray[j]) (l6.toArray[j]) (by simp) (by simp)
  exact h.at I (by show A.units+1+n<jx;omega) q1 q2 q3 q4
 have A1:=Fn oJ qP (by simpa using el) (by omega) he
 have A2:=BI oJ qP (by simpa using el) (by omega) he
 rw[a0D] at A1 A2
 exact⟨A1,A2⟩
section
variable {X:Cx}
theorem T8 {α:Type} {n:Nat} {R:Rel α} (ok:NX n R) (hu:X.A.units+n<jx):uX X (dz .NotEq) (λv w H Q=>∃ x,R H x v/\R H x w/\Q (.bl false) H):=by
 intro pins s σ H v w u1 u2 Q I r1 r2 h
 obtain⟨x,h1,h2,q⟩:=h
 exact (ok.at I hu h1 h2 r1 r2).2 _ _ _ _ ⟨.bl false,H,I,rfl,q⟩
def FP (H:Hp):V->String->Prop
 | .e8,T=>T = "NoneType"
 | .bl _,T=>T = "bool"
 | .int _,T=>T = "int"
 | .str _,T=>T = "str"
 | .ref a,T=>(T = "list" /\ ((∃ xs,H a=some (.lst xs))\/∃ o xs,H a=some (.Au o (.lst xs))))\/(T = "tuple" /\ ∃ xs,H a=some (.tup xs))\/(T = "dict" /\ ∃ fv,H a=some (.dK fv))
 | _,_=>False
theorem FP.ty {K:ak} {H:Hp} {x:V} {T:String} (h:FP H x T):tZ K H x (.type T):=by
 cases x with
 | e8=>cases (show T = "NoneType" from h);exact .e8
 | bl b=>cases (show T = "bool" from h);exact .bl b
 | int i=>cases (show T = "int" from h);exact .int i
 | str z=>cases (show T = "str" from h);exact .str z
 | ref a =>
  rcases h with ⟨rfl,⟨xs,e⟩ | ⟨o,xs,e⟩⟩ | ⟨rfl,xs,e⟩ | ⟨rfl,fv,e⟩
  ·exact .lst e
  ·exact .Au e
  ·exact .tup e
  ·exact .dK e
 | _=>exact dR h
theorem J0 {T:String}:jG X (.builtin "isinstance") (λxs H Q=>∃ x S b,xs=[x,.ty T]/\FP H x S/\cF X.K (.type S) (.type T)=some b/\Q (.bl b) H):=by
 intro pins s σ H xs us Q I r h
 obtain⟨x,S,b,rfl,hk,e,q⟩:=h
 obtain⟨u,c,rfl,ru,rc⟩:=r.two
 cases (show c=jb T from rc)
 exact Ig I ru hk.ty e λtk=>⟨.bl b,H,I.tok _,rfl,q⟩
theorem CF {K:ak} (T:String):cF K (.type T) (.type T)=some true:=by
 unfold cF
 rw[if_pos (by simp)]
theorem AE {K:ak}:cF K (.type "int") (.type "bool")=some false:=rfl
end
def se (scope xx:ek) (N PN:List aT) (k:Nat) (cap:List Nat):Bool :=
 (scope.kind == .function) && (N.length == k+cap.length) &&
 (scope.names.all λy=>(y.2 != .cell) && (y.2 != .local || scope.names.lookup y.1 == some .local) &&
  (y.2 != .free || (scope.names.lookup y.1 == some .free && (xx.names.lookup y.1 == some .cell || xx.names.lookup y.1 == some .free)))) &&
 ((bO cap.length).all λj=>match N[k+j]?,cap[j]? with
  | some x,some i=>PN[i]? == some x && scope.names.lookup x == some .free
  | _,_=>false)
theorem t6 {scope xx:ek} {N PN:List aT} {k:Nat} {cap:List Nat} (h:se scope xx N PN k cap=true):o9 scope xx N PN k cap:=by
 unfold se at h
 simp only [bU] at h
 obtain⟨⟨⟨h1,h2⟩,h3⟩,h4⟩:=h
 rw[fZ] at h3 h4
 have q:∀ y∈scope.names,y.2≠.cell/\(y.2=.local->scope.names.lookup y.1=some .local)/\(y.2=.free->scope.names.lookup y.1=some .free/\(xx.names.lookup y.1=some .cell\/xx.names.lookup y.1=some .free)):=λy hy=>by
  have:=h3 y hy
  simp only [bU,Rp,bne_iff_ne,beq_iff_eq] at this
  obtain⟨⟨a,b⟩,c⟩:=this
  exact⟨a,λe=>b.elim (λz=>absurd e z) id,λe=>c.elim (λz=>absurd e z) id⟩
 refine⟨by simpa using h1,by simpa using h2,λy hy=>(q y hy).1,λy hy=>(q y hy).2.1,λy hy e=>((q y hy).2.2 e).2,λj hj=>?_,λy hy e=>((q y hy).2.2 e).1⟩
 have:=h4 j hj
 split at this
 ·rename_i x i e1 e2
  simp only [bU,beq_iff_eq] at this
  exact⟨x,i,e1,e2,this.1,this.2⟩
 ·cases this
section
variable {X:Cx} {elt tg iter:bR} {ifs:List bR} {scope:ek} {pos:gR} {wi:TI} {tt:DB} {tc:TT} {te:TE}
theorem qS (xx:ek) (PN N:List aT) (k:Nat) (cap:List Nat) (hi:PI X tg iter wi) (hg:∀ cl C s H ex pn,Nf (gM X scope N cl C s H ex pn) k tg tt) (ht:∀ cl C s H ex pn,NR (gM X scope N cl C s H ex pn) ifs tc)
  (he:∀ cl C s H ex pn,PE (gM X scope N cl C s H ex pn) elt te) (hc:X.calm=true:=by rfl) (h1:X.env.scope=xx:=by rfl) (h2:X.N=PN:=by rfl) (S:se scope xx N PN k cap=true:=by decide +kernel)
  (hs:∀ x,jy iter X.env x=pure x:=by intro _;rfl) :
  PE X (.ListComp elt [⟨tg,iter,ifs,0⟩] scope pos) (zq wi tt tc te cap):=F6 hc (by rw[h1,h2];exact t6 S) hi hg ht he hs
theorem pX {i:Nat} {y:aT} {py Mv:gR} (xx:ek) (PN N:List aT) (k:Nat) (cap:List Nat) (hN:X.N.Nodup) (hiy:X.N[i]?=some y) (hy:X.env.scope.names.lookup y=some .local) (hi:PI X tg iter wi)
  (hg:∀ cl C s H ex pn,Nf (gM X scope N cl C s H ex pn) k tg tt) (ht:∀ cl C s H ex pn,NR (gM X scope N cl C s H ex pn) ifs tc)
  (he:∀ cl C s H ex pn,PE (gM X scope N cl C s H ex pn) elt te) (hc:X.calm=true:=by rfl) (h1:X.env.scope=xx:=by rfl) (h2:X.N=PN:=by rfl) (S:se scope xx N PN k cap=true:=by decide +kernel)
  (Xa:rK (.ListComp elt [⟨tg,iter,ifs,0⟩] scope pos) (some (.Name y py)) Mv.line X.env=pure true:=by rfl) (hs:∀ x,jy iter X.env x=pure x:=by intro _;rfl) :
  PS X (.Assign [.Name y py] (.ListComp elt [⟨tg,iter,ifs,0⟩] scope pos) Mv) (PV (zq wi tt tc te cap) (oH i)):=Pj hc (by rw[h1,h2];exact t6 S) hN hiy hy hi hg ht he Xa hs
end
structure Dn (P:aO) (w:bD) (K:ak) (mg:aT->Option ae) (base:bT) (x:aT) (n:Nat) (ps:List aT) (sp:Sp):Prop where
 ex:∃ f fd,nO P w K mg base xH n f fd ps sp/\mg x=some (.ref f)/\iX K (.ref f)=true/\Binds K fd ps []
structure bz (K:ak) (mg:aT->Option ae) (x:aT) (st:cL) (ps:List aT):Prop where
 ex:∃ f fd,Fe K x x st f fd/\mg x=some (.ref f)/\Binds K fd ps []
section
variable {P:aO} {w:bD} {K:ak} {mg:aT->Option ae} {base:bT}
theorem bz.ok {x:aT} {st:cL} {N ps:List aT} {k:Nat} {sp:Sp} (F:bz K mg x st ps) (S:bG N ps (aC st)) (len:∀ vs H Q E,sp vs H Q E->vs.length=ps.length)
  (kW:∀ (f:ah) (dk:ae) (A:bp) (outer:List qA) (s:ai) (H:Hp) (vs:List V) (Q:VK) (E:XK),eP k (A.deeper (lI x (aC st) s.heap.objs.size f dk))->sp vs H Q E ->
   ∃ t,uY (rj xH P w K mg base N x (aC st) f dk A outer s H E).wC (fk st) t/\t { nx:=λ_ H'=>Q .e8 H',rt:=Q } (start N vs) H):Dn P w K mg base x (k+1) ps sp:=by
 obtain⟨f,fd,F,hm,hb⟩:=F.ex
 exact⟨f,fd,F.ok S len λdk A outer s H vs Q E=>kW f dk A outer s H vs Q E,hm,F.kp,hb⟩
end
theorem cO {X:Cx} {x:aT} {n k:Nat} {ps:List aT} {sp:Sp} {e:bR} {es:List bR} {t:TA} {p pos:gR} (D:Dn X.prog X.w X.K X.mg X.base x n ps sp) (hr:eP k X.A) (ha:PA X (e::es) t) (hk:n<=k:=by decide) (hg:Gl X x:=by rfl)
  (Cy:(x == ("__debug__" : aT))=false:=by decide) (he:aV (e::es) X.env=(false,dU e X.env)::aV es X.env:=by rfl) (oT:(d9 pos (aV es X.env)).any (·.1)=false:=by rfl) :
  PE X (.Call (.Name x p) (e::es) [] pos) (MB sp [] E0 t):=by
 obtain⟨f,fd,F,hm,kp,hb⟩:=D.ex
 exact F5 F (hr.mono hk) hg hm kp hb .nil LJ ha Cy he oT
theorem AD {A:bp} {k:Nat} (hr:eP k A) (n:Nat) (h:n<=64:=by decide):A.units+n<jx:=NQ (Nat.add_le_add_left h _) hr.units
def YT (t u:TS):TS:=λD σ H=>∃ M:St->Hp->Prop,t { D with nx:=M } σ H/\∀ σ' H',M σ' H'->u D σ' H'
theorem Gg {X:Cx} {st:cL} {rest:List cL} {t u:TS} (h1:PS X st t) (h2:uY X rest u):uY X (st::rest) (YT t u):=by
 intro pins s σ H D I h
 obtain⟨M,h,k⟩:=h
 refine kj (fq (h1 pins s σ H { D with nx:=M } I h) λf s1 q=>?_)
 cases f with
 | next =>
  obtain⟨σ',H',I',q⟩:=q
  exact h2 pins s1 σ' H' D I' (k σ' H' q)
 | ret v=>exact q
 | brk=>exact q
 | cont=>exact q
def nW (H H':Hp):Hp:=λb=>match H b with
 | none=>H' b
 | some _=>none
theorem ur (H H':Hp):bh (nW H H') H':=λb o e=>by
 unfold nW at e
 cases q:H b with
 | none=>rw[q] at e;exact e
 | some u=>rw[q] at e;cases e
theorem uq {H H':Hp} {b:ah} {o:HO} (h:H b=some o):nW H H' b=none:=by unfold nW;rw[h]
theorem hU {H H':Hp} {b:ah} (h:H b=none):nW H H' b=H' b:=by unfold nW;rw[h]
theorem uo {H H1 H' H2:Hp} (a:bh H H1) (b:bh H' H2):bh (nW H1 H') (nW H H2):=λc o e=>by
 cases q:H1 c with
 | some u=>rw[uq q] at e;cases e
 | none =>
  rw[hU q] at e
  rw[hU (a.free q)]
  exact b c o e
theorem az {H:Hp} {p:ah} (h:H p=none) (o:HO):bh H (upd H p o):=λb u q=>by rw[bB (cr q h)];exact q
theorem bh.put {Hs H:Hp} {p:ah} (s:bh Hs H) (h:Hs p=none) (o:HO):bh Hs (upd H p o):=λb u q=>by
 rw[bB (cr q h)];exact s b u q
theorem a0b {n m:Nat} (h:n<=m) (hm:m<=1000000:=by decide):n<=aL:=cq h (cq hm (by decide))
theorem ix {x:V} {H:Hp} {f:List V->St} {A B:List V->Hp->Prop} (h:A [x] H):MJ x H λws=>UG (f ws) H λb H4=>if b=true then A ws H4 else B ws H4:=by
 show if true=true then A [x] H else B [x] H
 rw[if_pos rfl];exact h
theorem uc {K:ak} {n:Nat} {a:ah} {xs:List V} {H:Hp} {f:List V->St} {A B:List V->Hp->Prop} (hq:gJ K H a xs) (hn:xs.length=n) (h:A xs H):MK K n (.ref a) H λws=>UG (f ws) H λb H4=>if b=true then A ws H4 else B ws H4:=by
 refine⟨a,xs,rfl,hq,hn,?_⟩
 show if true=true then A xs H else B xs H
 rw[if_pos rfl];exact h
theorem a0x:∀ (vs:List ae),(∀ v∈vs,∃ k t,v=gY k t)->∃ ns,cv vs ns
 | [],_=>⟨[],.nil⟩
 | v::r,h=>by
  obtain⟨k,t,rfl⟩:=h v aP
  obtain⟨ns,q⟩:=a0x r λu hu=>h u (bc _ hu)
  exact⟨k::ns,.cons k t q⟩
theorem vI:∀ {vs:List ae} {ns:List Int},cv vs ns->Vals (ns.map V.int) vs
 | _,_,.nil=>.nil
 | _,_,.cons _ t r=>.cons ⟨t,rfl⟩ (vI r)
section
variable {prog:aO} {w:bD} {A:bp} {E:ae->ai->Prop} {s:ai} {T:String} {r d:ah} {n:Nat} {P:Nat->ae->Prop} {OK:bT->Prop} {Q:ae->ai->Prop}
end
section
variable {X:Cx}
theorem sd:jG X (.builtin "sorted") (λxs H Q=>∃ (a:ah) (ks:List Int),xs=[.ref a]/\bI X.K H a (ks.map V.int)/\ks.length<64 /\
  ∀ (p:ah) (ns:List Int),H p=none->ns.Perm ks->ns.Pairwise (·<=·)->Q (.ref p) (upd H p (.lst (ns.map V.int)))):=by
 intro pins s σ H xs us Q I r h
 obtain⟨a,ks,rfl,ha,Og,q⟩:=h
 obtain⟨u,rfl,ru⟩:=a0h r
 cases ru
 obtain⟨cH,rv,pl,hz⟩:=I.list ha
 have hi:cv cH ks:=a0c rv
 refine sorted_ints pl.isList hi (by rw[hi.length];exact Og) λout rF i2 pm pw=>?_
 obtain⟨e,he⟩:=sortedAll_at s.heap cH out
 have hz:(rF.map V.int).length<=aL:=by rw[aj,pm.length_eq];exact a0b (m:=64) (kS Og)
 have k0:∀ b o,s.heap.get? b=some o->(sortedAll s.heap cH out).get? b=some o:=λb o=>sortedAll_old
 have I1:Inv X pins σ H { s with heap:=sortedAll s.heap cH out }:=I.kept (t':=s.toks) k0
 have f1:H (s.heap.objs.size+1)=none:=I.cU.fresh (jj _)
 refine⟨.ref (s.heap.objs.size+1),_,I.laid (t':=s.toks) (o:=.lst (rF.map V.int)) k0 (jj _) ⟨hz,out.toList,e,vI i2,by simpa using he⟩,rfl,q _ rF f1 pm pw⟩
def UE (ta:TA):TE:=λσ H Q=>ta σ H λvs H1=>∃ j:Int,vs=[.int j]/\∀ p,H1 p=none->Q (.ref p) (upd H1 p (.oO 0 j))
theorem IB {a:bR} {ta:TA} {p pos:gR} (hg:Gl X "range") (hm:X.mg "range" = none) (ha:PA X [a] ta) (hs:aV [a] X.env=[(false,dU a X.env)]:=by rfl):PE X (.Call (.Name "range" p) [a] [] pos) (UE ta):=by
 intro pins s σ H Q I h
 refine Ru (lq I hg hm boot_range (dy (fq (ha pos pins s σ H _ I h) λus s1 c6=>?_) hs rfl))
 obtain⟨vs,H1,I1,r1,q1⟩:=c6
 obtain⟨j,e,q⟩:=q1
 subst e
 cases r1 with
 | cons r rr =>
  cases rr
  obtain⟨t,rfl⟩:=r
  refine call_range_1 ⟨.ref s1.heap.objs.size,_,I1.laid (o:=.oO 0 j) (λb o e=>al _ e) (aA _) ⟨_,_,_,aF _ rfl⟩,rfl,q _ I1.fresh⟩
theorem xS (hc:X.calm=true):jG X (.type "list") (λxs H Q=>∃ (a:ah) (j:Int),xs=[.ref a]/\H a=some (.oO 0 j)/\j<=100000/\-100000<=j /\
  ∀ p,H p=none->Q (.ref p) (upd H p (.lst (((bO j.toNat).map λ(i:Nat)=>(i:Int)).map V.int)))):=by
 intro pins s σ H xs us Q I r h
 obtain⟨a,j,rfl,ha,hj,HW,q⟩:=h
 obtain⟨u,rfl,ru⟩:=a0h r
 cases ru
 obtain⟨t,u,v,ho⟩:=I.cU a _ ha
 have hn:vt 0 j 1=((j.toNat:Nat):Int):=by rw[rangeSize_one];split <;> omega
 refine call_list_range (n:=j.toNat) (I.ok.hd hc) ho (small_one (by decide) (by decide) (by omega) (by omega)) hn (by omega) λh' tk acc c' k ug HN=>?_
 have hI:cv acc.toList ((bO j.toNat).map λ(i:Nat)=>(i:Int)):=by
  obtain⟨ns,yS⟩:=a0x acc.toList λv hv=>by
   obtain⟨i,hi⟩:=cg hv
   obtain⟨t,e⟩:=HN.2 i v (by rw[← cp];exact hi)
   exact⟨_,t,e⟩
  have e:ns=(bO j.toNat).map λ(i:Nat)=>(i:Int):=by
   have hl:=yS.length
   have hs:acc.toList.length=j.toNat:=by rw[bj];exact HN.1
   refine cV λi=>?_
   by_cases hi:i<acc.toList.length
   ·obtain⟨w',hw⟩:∃ w',acc.toList[i]?=some w':=⟨acc.toList[i],by simp⟩
    obtain⟨t,e1⟩:=HN.2 i w' (by rw[← cp];exact hw)
    obtain⟨t',e2⟩:=IntsAre.int_at yS i _ hw
    rw[e1] at e2
    injection e2 with e2 _
    have h1:i<ns.length:=by (clear hc hj HW q hn e2 k hs;omega)
    have h2:i<j.toNat:=by (clear hc hj HW q hn k e2 h1 hl;omega)
    have h3:ns.getD i 0=(i:Int):=by rw[← e2];(clear hc hj HW q hn k hl hs hi e2 h1 h2;omega)
    simp[DP,h1] at h3
    simp[h1,h2,h3]
   ·rw[aU (by (clear hc hj HW q hn k hs;omega)),aU (by simp;(clear hc hj HW q hn k hl;omega))]
  rw[← e];exact yS
 have hz:(((bO j.toNat).map λ(i:Nat)=>(i:Int)).map V.int).length<=aL:=by simp only [aj,n9];exact a0b (m:=100000) (by omega)
 refine⟨.ref s.heap.objs.size,_,I.laid (t':=tk) (o:=.lst _) k (aA _) ⟨hz,acc.toList,c',vI hI,by simpa using ug⟩,rfl,q _ I.fresh⟩
theorem Hm (hc:X.calm=true):jG X (.builtin "max") (λxs H Q=>∃ (a:ah) (ks:List Int),xs=[.ref a]/\bI X.K H a (ks.map V.int)/\ks≠[]/\∀ M,M∈ks->(∀ k∈ks,k<=M)->Q (.int M) H):=by
 intro pins s σ H xs us Q I r h
 obtain⟨a,ks,rfl,ha,kx,q⟩:=h
 obtain⟨u,rfl,ru⟩:=a0h r
 cases ru
 obtain⟨cH,rv,pl,hz⟩:=I.list ha
 have hi:cv cH ks:=a0c rv
 obtain⟨xs,e⟩:=hi.allInts.items
 have yS:ks=xs.toList.map (·.1):=by rw[← hi.numsOf,← nums_intItems,← e]
 have hsz:0<xs.size:=by
  have h3:0<ks.length:=b7.mpr kx
  rw[yS,aj,bj] at h3;exact h3
 have hl:=pl.isList
 rw[e] at hl
 refine max_intList (I.ok.hd hc) hl hsz λv h' tk hv hk=>?_
 obtain⟨t,rfl⟩:=intItems_at hv
 obtain⟨h1,h2⟩:=argBest_gt (numAt xs) (xs.size-1)
 refine⟨.int _,H,I.kept (t':=tk) hk,⟨t,rfl⟩,q _ ?_ λk hk=>?_⟩
 ·rw[yS,TU];exact RN (by rw[aj,bj];(clear hc kx q hz hk h2;omega))
 ·rw[yS] at hk
  obtain⟨j,hj,rfl⟩:=RO hk
  rw[aj,bj] at hj
  rw[← TU];exact h2 j (by (clear hc kx q hz hsz h1 h2;omega))
end
def Jn (xs:List Nat):Prop:=xs.Pairwise (·<·)
theorem Jn.lt {xs:List Nat} (h:Jn xs) {i j a b:Nat} (FE:i<j) (ha:xs[i]?=some a) (hb:xs[j]?=some b):a<b:=by
 obtain⟨h1,e1⟩:=ag.mp ha
 obtain⟨h2,e2⟩:=ag.mp hb
 have:=List.pairwise_iff_getElem.mp h i j h1 h2 FE
 rw[e1,e2] at this;exact this
theorem v3 (xs:Array Nat) (hr:Jn xs.toList) (j:Nat):∀ (fuel lo hi:Nat),hi-lo<=fuel->lo<=hi->hi<=xs.size->(∀ (i v:Nat),i<lo->xs.toList[i]?=some v->v<j)->(∀ (i v:Nat),hi<=i->xs.toList[i]?=some v->j<=v) ->
  lE xs j fuel lo hi<=xs.size/\(∀ (i v:Nat),i<lE xs j fuel lo hi->xs.toList[i]?=some v->v<j)/\∀ (i v:Nat),lE xs j fuel lo hi<=i->xs.toList[i]?=some v->j<=v
 | 0,lo,hi,h1,h2,h3,h4,h5=>by
  have e:lo=hi:=by omega
  subst e
  exact⟨h3,h4,h5⟩
 | fuel+1,lo,hi,h1,h2,h3,h4,h5=>by
  rw[lE]
  by_cases hl:lo<hi
  ·rw[if_pos hl]
   have hm:(lo+hi) / 2<xs.size:=by (clear h1 h2 h4 h5;omega)
   have hg:xs.toList[(lo+hi) / 2]?=some (xs.getD ((lo+hi) / 2) j):=by
    rw[cp,nM hm]
    simp[Array.getD,hm]
   dsimp only
   by_cases hc:xs.getD ((lo+hi) / 2) j<j
   ·rw[if_pos hc]
    refine v3 xs hr j fuel _ _ (by (clear h5 hl hm hc h3 h4 h2;omega)) (by (clear h1 h2 h3 h4 hm hc h5;omega)) h3 (λi v QL hv=>?_) h5
    by_cases e:i=(lo+hi) / 2
    ·subst e;rw[hg] at hv;cases hv;exact hc
    ·exact m7 (hr.lt (by (clear h1 h2 h3 h4 h5 hl hm hc;omega)) hv hg) hc
   ·rw[if_neg hc]
    refine v3 xs hr j fuel _ _ (by (clear h5 hl hm hc h3 h4 h2;omega)) (by (clear h1 h2 h3 h4 hm hc h5;omega)) (by (clear h1 h2 h3 h4 h5 hl hc;omega)) h4 (λi v QL hv=>?_)
    by_cases e:i=(lo+hi) / 2
    ·subst e;rw[hg] at hv;cases hv;(clear h1 h2 h3 h4 h5 QL hl hm;omega)
    ·have:=hr.lt (by (clear h1 h2 h3 h4 h5 hl hm hc;omega):(lo+hi) / 2<i) hg hv;(clear h1 h2 h3 h4 h5 hl QL e hm;omega)
  ·rw[if_neg hl]
   have e:lo=hi:=by (clear h3 h4 h1 h5;omega)
   subst e
   exact⟨h3,h4,h5⟩
theorem re (xs:Array Nat) (hr:Jn xs.toList) (j:Nat):bH xs j<=xs.size/\(∀ (i v:Nat),i<bH xs j->xs.toList[i]?=some v->v<j)/\∀ (i v:Nat),bH xs j<=i->xs.toList[i]?=some v->j<=v :=
 v3 xs hr j xs.size 0 xs.size (by omega) (bE _) (aA _) (λi v h=>by omega) (λi v h e=>by
  have:=(ag.mp e).1
  rw[bj] at this;omega)
theorem a0v {xs:Array Nat} (hr:Jn xs.toList) {k v:Nat} (h:xs.toList[k]?=some v):bH xs (v+1)=k+1:=by
 obtain⟨h1,h2,h3⟩:=re xs hr (v+1)
 have hk:=(ag.mp h).1
 rw[bj] at hk
 rcases Qv (bH xs (v+1)) (k+1) with ji | he | WC
 ·have:=h3 k v (by omega) h;omega
 ·exact he
 ·have hk1:k+1<xs.size:=by omega
  obtain⟨u,hu⟩:∃ u,xs.toList[k+1]?=some u:=⟨xs[k+1],by rw[cp,nM hk1]⟩
  have a:=h2 (k+1) u WC hu
  have b:=hr.lt (de k) h hu
  (clear h1 h2 h3 hk WC hk1;omega)
theorem v4 {xs:Array Nat} (hr:Jn xs.toList):bH xs 0=0:=by
 obtain⟨h1,h2,_⟩:=re xs hr 0
 cases e:bH xs 0 with
 | zero=>rfl
 | succ k =>
  have hk:0<xs.size:=by omega
  have:=h2 0 xs[0] (by omega) (by rw[cp,nM hk])
  omega
theorem EI {xs:Array Nat} (hr:Jn xs.toList) {j:Nat} (hn:xs[bH xs j]?≠some j):Jn (SetTable.insertAt xs (bH xs j) j).toList:=by
 obtain⟨h1,h2,h3⟩:=re xs hr j
 rw[SetTable.toList_insertAt]
 have ji:∀ a∈xs.toList.take (bH xs j),a<j:=λa ha=>by
  obtain⟨i,hi⟩:=cg ha
  have QL:i<bH xs j:=by
   have:=(ag.mp hi).1
   rw[eE] at this;omega
  rw[Dw QL] at hi
  exact h2 i a QL hi
 have WC : ∀ b∈xs.toList.drop (bH xs j),j<b:=λb hb=>by
  obtain⟨i,hi⟩:=cg hb
  rw[km] at hi
  have hle:=h3 _ b (d4 _ i) hi
  rcases Nat.lt_or_eq_of_le hle with z | z
  ·exact z
  ·subst z
   exfalso
   cases i with
   | zero=>rw[Nat.add_zero,cp] at hi;exact hn hi
   | succ i =>
    obtain⟨u,hu⟩:∃ u,xs.toList[bH xs j]?=some u:=by
     have hs:=(ag.mp hi).1
     have:bH xs j<xs.toList.length:=by (clear hn h1 h2 h3 ji hle;omega)
     exact⟨xs.toList[bH xs j],by simp⟩
    have a:=h3 _ u (aA _) hu
    have b:=hr.lt (by omega:bH xs j<bH xs j+(i+1)) hu hi
    omega
 refine List.pairwise_append.mpr ⟨hr.sublist (NO _ _),nI.mpr ⟨WC,hr.sublist (List.drop_sublist _ _)⟩,λa ha b hb=>?_⟩
 rcases aE.mp hb with rfl | hb
 ·exact ji a ha
 ·exact m7 (ji a ha) (WC b hb)
structure Tab (led:Bool) (t:d7):Prop where
 led:t.led=led
 dum:t.dummies=#[]
 Yr:Jn t.place.toList
theorem Tab.standIn {led:Bool} {t:d7} (h:Tab led t) (n:Nat):Tab led (t.standIn n):=⟨h.led,rfl,by
 show Jn (Array.range n).toList
 rw[Array.toList_range]
 exact kM⟩
theorem FD (j:Nat):tJ #[] j=false:=by
 unfold tJ
 simp
theorem Gv (t:d7) (j:Nat):t.slot j=if (t.place[bH t.place j]? == some j)=true then .live (bH t.place j) else if tJ t.dummies j=true then .dummy else .empty:=rfl
theorem wN {t:d7} (hd:t.dummies=#[]) (f:Nat->Int) (h:Int):∀ (fuel:Nat) (p:SetTable.Probe) (j:Nat) (d:Option Nat),p.dummy=none->qh t f h fuel p=some (.empty j d)->d=none/\t.place[bH t.place j]?≠some j
 | 0,p,j,d,_,e=>by rw[qh] at e;cases e
 | fuel+1,p,j,d,hp,e=>by
  rw[qh] at e
  have abQ:(t.advance p).dummy=none:=by
   unfold SetTable.advance
   split
   ·exact hp
   ·exact hp
  split at e
  ·rename_i hs
   cases e
   refine⟨hp,λhc=>?_⟩
   rw[Gv,hc] at hs
   simp at hs
  ·rename_i hs
   rw[Gv,hd,FD] at hs
   exfalso
   by_cases hb:(t.place[bH t.place p.j]? == some p.j)=true
   ·rw[if_pos hb] at hs;cases hs
   ·rw[if_neg hb] at hs;simp at hs
  ·split at e
   ·cases e
   ·exact wN hd f h fuel _ j d abQ e
theorem Tab.layNew {led:Bool} {t:d7} (T:Tab led t) (es:Array (Int × ae)) (h:Int) (x:ae):Tab led (layNew t es h x).2.1:=by
 unfold PySem.layNew
 cases e:t.freeSlot h with
 | none=>exact T.standIn _
 | some sw =>
  obtain⟨slot,wd⟩:=sw
  dsimp only
  have key:Tab led (t.put slot).1:=by
   have kx:t.place[bH t.place slot]?≠some slot:=by
    unfold SetTable.freeSlot at e
    split at e
    ·rename_i j d hp
     cases e
     unfold SetTable.probe at hp
     obtain⟨e1,e2⟩:=wN T.dum _ _ _ _ _ _ rfl hp
     subst e1
     exact e2
    ·cases e
   refine⟨T.led,?_,EI T.Yr kx⟩
   show (if tJ t.dummies slot then _ else t.dummies)=#[]
   rw[T.dum,FD];rfl
  unfold SetTable.orStandIn
  split
  ·exact key
  ·exact key.standIn _
theorem qI (f:Nat->Option Nat) (n:Nat):Jn (((bO n).filterMap λj=>(f j).map λk=>(j,k)).map (·.1)):=by
 have:Jn (((bO n).filterMap λj=>(f j).map λk=>(j,k)).map (·.1)):=by
  have e:((bO n).filterMap λj=>(f j).map λk=>(j,k)).map (·.1)=(bO n).filter λj=>(f j).isSome:=by
   induction (bO n) with
   | nil=>rfl
   | cons a r ih =>
    cases h:f a with
    | none=>simp[gX,h,ih]
    | some k=>simp[gX,h,ih]
  rw[e]
  exact kM.sublist List.filter_sublist
 exact this
theorem Tab.Yp {led:Bool} {t:d7} (T:Tab led t) (es:Array (Int × ae)) (wanted:Nat):Tab led (AY t es wanted).2.1:=by
 unfold AY
 cases e:t.relaid (es.map (·.1)) wanted with
 | none=>exact T.standIn _
 | some q =>
  obtain⟨t',order⟩:=q
  dsimp only
  split
  ·unfold SetTable.relaid SetTable.laid at e
   cases e2:SetTable.layClean (Fo wanted-1) (es.map (·.1)) with
   | none=>rw[e2] at e;cases e
   | some owner =>
    rw[e2] at e
    cases e
    refine⟨T.led,rfl,?_⟩
    have:=qI (λj=>owner.getD j none) (Fo wanted-1+1)
    simpa using this
  ·exact T.standIn _
def nR (P:aO) (w:bD) (h:bT) (a:ah) (led:Bool) (ks:List Int):Prop :=
 ∃ (o:d6) (es:Array (Int × ae)) (ep:Nat) (t:d7) (ns:List Int),h.get? a=some o/\o.ExactSet/\o.data=.set es ep t/\ElemsOf (kP P w) es.toList/\cv (es.toList.map (·.2)) ns/\ns.Nodup/\(∀ k,k∈ns↔k∈ks) /\
  es.size<mJ/\t.fits es.size=true/\Tab led t
theorem nR.keep {P:aO} {w:bD} {h h':bT} {a:ah} {led:Bool} {ks:List Int} (S:nR P w h a led ks) (k:∀ o,h.get? a=some o->h'.get? a=some o):nR P w h' a led ks:=by
 obtain⟨o,es,ep,t,ns,e,r⟩:=S
 exact⟨o,es,ep,t,ns,k o e,r⟩
theorem yV:∀ {l l':List ae} {ns:List Int},l'.Perm l->cv l ns->∃ rF,cv l' rF/\rF.Perm ns:=by
 intro l l' ns hp
 induction hp generalizing ns with
 | nil=>intro h;exact⟨ns,h,.refl _⟩
 | cons x _ ih =>
  intro h
  cases h with
  | cons n t r =>
   obtain⟨rF,h1,h2⟩:=ih r
   exact⟨n::rF,.cons n t h1,h2.cons n⟩
 | swap x y l =>
  intro h
  cases h with
  | cons n t r =>
   cases r with
   | cons m u r=>exact⟨m::n::_,.cons m u (.cons n t r),.swap n m _⟩
 | trans _ _ ih1 ih2 =>
  intro h
  obtain⟨n1,a1,a2⟩:=ih2 h
  obtain⟨n2,b1,b2⟩:=ih1 a1
  exact⟨n2,b1,b2.trans a2⟩
theorem ni {l l':List (Int × ae)} {ns:List Int} (hp:l'.Perm l) (h:cv (l.map (·.2)) ns):∃ rF,cv (l'.map (·.2)) rF/\rF.Perm ns:=yV (hp.map _) h
theorem iA:∀ (l1 l2:List Int),l1.Nodup->(∀ x∈l1,x∈l2)->l1.length<=l2.length
 | [],_,_,_=>bE _
 | x::l1,l2,hn,hs=>by
  have hx:x∈l2:=hs x aP
  have hxn:=(dc.mp hn).1
  have:=iA l1 (l2.erase x) (dc.mp hn).2 λy hy=>(Jf (λe=>by subst e;exact hxn hy)).mpr (hs y (bc _ hy))
  rw[Dx hx] at this
  have hp:0<l2.length:=Fi hx
  rw[bK];omega
theorem a0q {k:Int} {t:Nl}:∀ {vs:List ae} {ns:List Int},cv vs ns->cv (vs++[.int k t]) (ns++[k])
 | _,_,.nil=>.cons k t .nil
 | _,_,.cons n u r=>.cons n u (a0q r)
theorem uh {P:aO} {w:bD} {k:Int}:∀ {l:List (Int × ae)} {ns:List Int},cv (l.map (·.2)) ns->((∃ e∈l,(kP P w).is k e.2=true)↔k∈ns)
 | [],_,h=>by cases h;simp
 | (hh,v)::l,_,h=>by
  cases h with
  | cons n t r =>
   have ih:=uh (P:=P) (w:=w) (k:=k) r
   rw[aE,← ih]
   constructor
   ·rintro⟨e,he,q⟩
    rcases aE.mp he with rfl | he
    ·obtain⟨u,z⟩:=Nm (k:=k) (v:=gY n t) q
     injection z with z _
     exact .inl z.symm
    ·exact .inr ⟨e,he,q⟩
   ·rintro (rfl | ⟨e,he,q⟩)
    ·exact⟨_,aP,by simp[kP,Ha]⟩
    ·exact⟨e,bc _ he,q⟩
theorem stored {h:bT} {a:ah} {ob:d6} {es:Array (Int × ae)} {ep:Nat} {t:d7} (ho:h.get? a=some ob) (hd:ob.data=.set es ep t) (Kd:Array (Int × ae)) (t2:d7) :
  (h.update a (B7 Kd t2)).get? a=some { ob with data:=.set Kd (ep+1) t2 }:=by
 have z:=eX (B7 Kd t2) ho (by rw[putSet_of Kd t2 hd];rfl)
 rwa [putSet_of Kd t2 hd] at z
section
variable {P:aO} {w:bD} {A:bp} {E:ae->ai->Prop}
theorem Cc {s:ai} {g:Bool->RP Unit} (hg:∀ (b:Bool) (s1:ai) (Q1:Unit->ai->Prop),Q1 () s1->wpAny (aS P w) A (g b) Q1 E s1) {a:ah} {ob:d6} {es:Array (Int × ae)} {ep:Nat} {t:d7}
  (ho:s.heap.get? a=some ob) (hex:ob.ExactSet) (hd:ob.data=.set es ep t) {led:Bool} {ks:List Int} {sg:Array (Int × ae)} {t2:d7} {ns:List Int} (QH:ElemsOf (kP P w) sg.toList)
  (hi:cv (sg.toList.map (·.2)) ns) (nd:ns.Nodup) (hm:∀ k,k∈ns↔k∈ks) (hb:sg.size<mJ) (hf:t2.fits sg.size=true) (hT:Tab led t2) {wd:Bool} {R:Option Bool->ai->Prop}
  (h:∀ h',fR a s.heap h'->nR P w h' a led ks->R (some true) { s with heap:=h' }) :
  wpAny (aS P w) A (storeSet a sg t2 >>= λ_=>if (!wd && t2.tooFull)=true then (g (AY t2 sg (iS sg.size)).2.2 >>= λ_ =>
   storeSet a (AY t2 sg (iS sg.size)).1 (AY t2 sg (iS sg.size)).2.1 >>= λ_=>pure (some true)) else pure (some true)) R E s:=by
 refine aa (aaG ho hd ?_ (qj hb))
 have g1:=stored ho hd sg t2
 have sb:=fj s.heap a (B7 sg t2)
 have S1:nR P w (s.heap.update a (B7 sg t2)) a led ks:=⟨_,sg,ep+1,t2,ns,g1,hex,rfl,QH,hi,nd,hm,hb,hf,hT⟩
 by_cases hc:(!wd && t2.tooFull)=true
 ·rw[if_pos hc]
  have pm:=relayAll_perm t2 sg (iS sg.size)
  have ft:=relayAll_fits t2 sg (iS sg.size)
  have T3:=hT.Yp sg (iS sg.size)
  generalize AY t2 sg (iS sg.size)=q at pm ft T3 ⊢
  obtain⟨Kd,t3,gv⟩:=q
  dsimp only at pm ft T3 ⊢
  obtain⟨ns2,i2,p2⟩:=ni pm hi
  have sz:Kd.size=sg.size:=by rw[← bj,pm.length_eq,bj]
  have So:Kd.size<mJ:=by omega
  refine aa (hg _ _ _ (aa (aaG g1 rfl ?_ (qj So))))
  have g2:=stored g1 rfl Kd t3
  refine aq (h _ (sb.trans (fj _ a _)) ⟨_,Kd,ep+1+1,t3,ns2,g2,hex,rfl,QH.perm pm,i2,p2.symm.nodup nd,λk=>(p2.mem_iff).trans (hm k),So,ft,T3⟩)
 ·rw[if_neg hc]
  exact aq (h _ sb S1)
theorem PH {s:ai} {a:ah} {led:Bool} {ks:List Int} {k:Int} {tk:Nl} {Q:Bool->ai->Prop} (S:nR P w s.heap a led ks) (afZ:ks.length+1<mJ)
  (h:∀ b h',fR a s.heap h'->nR P w h' a led (ks++[k])->Q b { s with heap:=h' }) :
  wpAny (aS P w) A (setAddHashed a (.int k tk) ((kP P w).hash k)) Q E s:=by
 obtain⟨ob,es,ep,t,ns,ho,hex,hd,QH,hi,nd,hm,hb,hf,hT⟩:=S
 have Op:(kP P w).is k (.int k tk)=true:=intKind_is _ _ _ _
 have hsc:(gY k tk).scannable=true:=rfl
 have sv:ns.length<=ks.length:=iA ns ks nd λx hx=>(hm x).mp hx
 have Oj:es.size=ns.length:=by
  have:=hi.length
  rw[aj,bj] at this;exact this
 unfold setAddHashed setAddHashedIn
 refine db (aa (jz ho hd hf ?_))
 dsimp only
 rw[byScan_of hsc hb QH]
 simp only [↓reduceIte]
 unfold setAddByScan
 refine aa (aa (tF (aa (wpAny_setScan_of Op ho hd hf QH ?_))))
 cases hr:List.findIdx? (λe=>(kP P w).is k e.2) es.toList with
 | some j =>
  dsimp only
  obtain⟨hj,hpj,_⟩:=List.findIdx?_eq_some_iff_getElem.mp hr
  have ot:k∈ns:=(uh (P:=P) (w:=w) hi).mp ⟨es.toList[j],cA hj,hpj⟩
  refine aq (aq ?_)
  have z:=h false s.heap (Heap.SameBut.refl a s.heap) ⟨ob,es,ep,t,ns,ho,hex,hd,QH,hi,nd,λx=>?_,hb,hf,hT⟩
  ·exact z
  ·rw[bo,be,hm x]
   exact⟨.inl,λq=>q.elim id λe=>by subst e;exact (hm _).mp ot⟩
 | none =>
  dsimp only
  have acB:k ∉ ns:=λhk=>by
   obtain⟨e,he,q⟩:=(uh (P:=P) (w:=w) hi).mpr hk
   have:=List.findIdx?_eq_none_iff.mp hr e he
   rw[q] at this;cases this
  have hgw:∀ (b:Bool) (s1:ai) (Q1:Unit->ai->Prop),Q1 () s1->wpAny (aS P w) A (match b with | true=>rule "set.scan.the-table-gave-way" | false=>pure ()) Q1 E s1:=λb s1 Q1 hq=>by
   cases b
   ·exact aq hq
   ·exact tF hq
  have pm:=layNew_perm t es ((kP P w).hash k) (.int k tk)
  have ft:=layNew_fits t es ((kP P w).hash k) (.int k tk)
  have T1:=hT.layNew es ((kP P w).hash k) (.int k tk)
  generalize layNew t es ((kP P w).hash k) (.int k tk)=q at pm ft T1 ⊢
  obtain⟨sg,t1,wd,gv⟩:=q
  dsimp only at pm ft T1 ⊢
  rw[M5] at pm
  have Wv:ElemsOf (kP P w) sg.toList:=(QH.push Op hsc).perm pm
  obtain⟨ns1,i1,p1⟩:=ni pm (ns:=ns++[k]) (by rw[aM];exact a0q hi)
  have nd1:ns1.Nodup:=p1.symm.nodup (fB.mpr ⟨nd,by simp,λx hx y hy=>by
   have:y=k:=by simpa using hy
   subst this
   exact λe=>acB (e ▸ hx)⟩)
  have CA:∀ x,x∈ns1↔x∈ks++[k]:=λx=>by rw[p1.mem_iff,bo,bo,hm x]
  have Vs:sg.size=es.size+1:=by rw[← bj,pm.length_eq,aJ,bj];rfl
  have hb1:sg.size<mJ:=by omega
  refine aa (hgw _ _ _ ?_)
  have fin:∀ h',fR a s.heap h'->nR P w h' a led (ks++[k])->Q true { s with heap:=h' }:=λh' sb S'=>h true h' sb S'
  split
  ·refine aa ?_
   rw[hashByValue_scannable 8 hsc]
   refine aq ?_
   have e1:plainKind (gY k tk)=true:=rfl
   rw[e1]
   refine Cc (g:=λb=>match b with | true=>rule "set.scan.the-table-gave-way" | false=>pure ()) hgw ho hex hd Wv i1 nd1 CA hb1 ft T1 λh' sb S'=>?_
   exact aq (fin h' sb S')
  ·refine aa (aq ?_)
   refine Cc (g:=λb=>match b with | true=>rule "set.scan.the-table-gave-way" | false=>pure ()) hgw ho hex hd Wv i1 nd1 CA hb1 ft T1 λh' sb S'=>?_
   exact aq (fin h' sb S')
end
end L2
namespace PySem
section
variable {prog:aO} {w:bD} {A:bp} {E:ae->ai->Prop} {s:ai}
theorem C6 (v:ae) {Qn:ae->ai->Prop}
  (h:Qn (.ref s.heap.objs.size) { s with heap:=s.heap.push { cls:=.type "set",dict:=none,data:=.set #[] 0 (.fresh 0 0 (!w.params.followText "set-order")) } }) :
  codeAny (aS prog w) A (.call (.builtin "set.__new__") ⟨[.type "set",v],[]⟩) (wants Qn E) s:=by
 refine codeAny_of_tree ?_
 show wpAny _ A.in1 (rh "set.__new__" ⟨[.type "set",v],[]⟩ >>= λ_=>again (.builtin "set.__new__" ⟨[.type "set",v],[]⟩)) _ _ s
 refine aa (UQ (F.newCall_set_1 v) (aq ⟨kH Zd _,dF F.entry_set_new ?_⟩))
 rw[fh Zd _]
 unfold eF.«set.__new__» Rr
 have sv:=sub_set_self
 obtain⟨hp,g,d,tk,os⟩:=s
 dsimp only
 wp_walk
 refine ki (aq ?_)
 dsimp only
 simp only [newObj]
 refine aa (wpAny_alloc (aq ?_))
 exact aq h
end
end PySem
namespace L2
open PySem PySem.Spec PyProof.Rows
section
variable {P:aO} {w:bD} {A:bp} {R:qF->ai->Prop} {I:ah} {fp wr:List ah} {G:Array G2->Array G2->Prop} {n:Nat} {Pv:Nat->ae->Prop} {St:Nat->ai->Prop}
theorem Md (W:WalksS P w A.in1 I fp wr G n Pv St) (a:ah) (Zu:a ∉ fp) (led:Bool) (val:Nat->Int) (Td:∀ i v,Pv i v->∃ t,v=.int (val i) t) (hb:n+1<mJ) :
  ∀ (k i:Nat) (s:ai),n-i=k->i<=n->St i s->nR P w s.heap a led ((bO i).map val) ->
   (∀ s',Moved (a::wr) G s s'->nR P w s'.heap a led ((bO n).map val)->R (.ok (.ret .none)) s') ->
   codeAny (aS P w) A (.builtin "set.update.loop" ⟨[.ref a,.ref I],[]⟩) R s:=by
 have hSw:a ∉ wr:=λh=>Zu (W.sub _ h)
 have sv:∀ b∈wr,b∈a::wr:=λb hb=>bc _ hb
 intro k
 induction k with
 | zero =>
  intro i s hk hi o7 hS hR
  obtain rfl:i=n:=by omega
  refine dF Jd ?_
  rw[fh qB _]
  show wpAny _ A.in1 (jQ (.ref I) >>= _) _ _ s
  refine aa (W.done s _ _ o7 λs' hm=>?_)
  show wpAny _ A.in1 (ret iE) _ _ s'
  exact aq (hR s' (hm.mono sv) (hS.keep λo e=>hm.heap a o hSw e))
 | succ k ih =>
  intro i s hk hi o7 hS hR
  have ji:i<n:=by omega
  refine dF Jd ?_
  rw[fh qB _]
  show wpAny _ A.in1 (jQ (.ref I) >>= _) _ _ s
  refine aa (W.item i s _ _ ji o7 λv s1 hP acW hm=>?_)
  obtain⟨t,rfl⟩:=Td i v hP
  have S1:nR P w s1.heap a led ((bO i).map val):=hS.keep λo e=>hm.heap a o hSw e
  show wpAny _ A.in1 (gK [gY (val i) t] (setAdd a (.int (val i) t)) >>= _) _ _ s1
  refine aa (db ?_)
  unfold setAdd
  refine db (aa ((kP P w).pyHash (k:=val i) (intKind_is _ _ _ _) ?_))
  refine PH (s:={ s1 with toks:=s1.toks+1 }) S1 (by rw[aj,n9];omega) λb h2 sb S2=>?_
  have S3:nR P w h2 a led ((bO (i+1)).map val):=by
   rw[iI,aM];exact S2
  refine aq ⟨kH qB _,ih (i+1) _ (by omega) ji (W.frame _ s1 _ _ acW (jj _) λc hc o e=>?_) S3 λs2 WU S4=>?_⟩
  ·rw[sb.2 c (λz:c=a=>Zu (by rw[← z];exact hc))];exact e
  ·refine hR s2 (Moved.trans W.gtrans ((hm.mono sv).then_heap (jj _) λc o hc e=>?_) WU) S4
   rw[sb.2 c (λz:c=a=>hc (by rw[z];exact aP))];exact e
end
theorem Mc {P:aO} {w:bD} {h:bT} {a:ah} {led:Bool} (e:h.get? a=some { cls:=.type "set",dict:=none,data:=.set #[] 0 (.fresh 0 0 led) }):nR P w h a led [] :=
 ⟨_,#[],0,.fresh 0 0 led,[],e,⟨rfl,rfl,rfl⟩,rfl,λe he=>by simp at he,.nil,nH,λk=>Iff.rfl,by decide,rfl,⟨rfl,rfl,BD⟩⟩
end L2
namespace PySem
open L2
section
variable {prog:aO} {w:bD} {A:bp} {E:ae->ai->Prop} {s:ai}
theorem AN {l:ah} {items:Array ae} {ns:List Int} {Q:ae->ai->Prop} (hh:A.handled=none) (hl:s.heap.IsList l items) (hi:PyProof.Rows.IntsAre items.toList ns) (hb:items.size+1<mJ)
  (h:∀ (h':bT) (tk:Nat),nR prog w h' s.heap.objs.size (!w.params.followText "set-order") ((bO items.size).map λi=>ns.getD i 0)->(∀ b o,s.heap.get? b=some o->h'.get? b=some o)->Q (.ref s.heap.objs.size) { s with heap:=h',toks:=tk }) :
  wpAny (aS prog w) A (qH (.type "set") [.ref l]) Q E s:=by
 obtain⟨cc,tl,aiV⟩:=jP.mro
 have afI:=jP.made
 have sv:=jP.sub
 refine yq (codeAny_of_tree ?_)
 show wpAny _ _ (callAny (.type "set") _) _ _ _
 refine aq ⟨M7 _ (by decide +kernel),dF F.entry_type_call ?_⟩
 rw[Around.under_plain (weight_type_call_type "set" [.ref l] []) rfl]
 have hnt:=jP.notType
 have Nr:=jP.canCreate
 have hct:=F.typeCall_set_1 (.ref l)
 repeat (any_goals (first | assumption | wp_step))
 refine iY (C6 (.ref l) (E:=E) (Qn:=λob s1=>ob=.ref s.heap.objs.size/\s1={ s with heap:=s.heap.push { cls:=.type "set",dict:=none,data:=.set #[] 0 (.fresh 0 0 (!w.params.followText "set-order")) } }) ⟨rfl,rfl⟩) λr s1 hr=>?_
 generalize aiT:(!w.params.followText "set-order")=led at hr h
 cases r with
 | error e=>exact hr
 | ok fl =>
  cases fl with
  | ret ob =>
   obtain⟨rfl,rfl⟩:=hr
   have hS:(s.heap.push { cls:=.type "set",dict:=none,data:=.set #[] 0 (.fresh 0 0 led) }).get? s.heap.objs.size=some { cls:=.type "set",dict:=none,data:=.set #[] 0 (.fresh 0 0 led) }:=aF _ rfl
   have hT:Shared.TypeIs { s with heap:=s.heap.push { cls:=.type "set",dict:=none,data:=.set #[] 0 (.fresh 0 0 led) } } (.ref s.heap.objs.size) "set" := ⟨_,hS,rfl⟩
   have hli:=jP.init.lookup
   have hbi:=jP.init.bind (.ref s.heap.objs.size)
   repeat (any_goals (first | assumption | wp_step))
   refine iY (vd (R:=wants (λr s2=>r=.none/\∃ h' tk,s2={ s with heap:=h',toks:=tk }/\nR prog w h' s.heap.objs.size led ((bO items.size).map λi=>ns.getD i 0) /\
     (∀ b o,s.heap.get? b=some o->h'.get? b=some o)) E) jP.init.plain F.entry_set_init (check_set_init_1 hT ?_)) λr2 s2 Vg=>?_
   ·obtain⟨ol,ZN,xV,nl,Oi⟩:=hl
    obtain⟨akd,XY,agt,T9⟩:=ol
    simp only at xV Oi
    subst xV;subst Oi
    have acF:(s.heap.push { cls:=.type "set",dict:=none,data:=.set #[] 0 (.fresh 0 0 led) }).get? l=some { cls:=.type "list",dict:=XY,data:=.seq items nl,slots:=T9 }:=al _ ZN
    have ajc:=F.sub_list_set
    have ajb:=F.sub_list_frozenset
    have Ve:(jb "list" == jb "dict")=false:=by decide
    have oJ:(s.heap.push { cls:=.type "set",dict:=none,data:=.set #[] 0 (.fresh 0 0 led) }).IsList l items:=⟨_,acF,rfl,nl,rfl⟩
    unfold eF.«set.__init__» noKeywords Rs
    generalize hPI:IE=PI
    wp_walk
    subst hPI
    refine fX oJ ?_
    refine aa (wpAny_runValue ?_)
    have hlS:l<s.heap.objs.size:=aD ZN
    have HU:A.in1.in1.in1.handled=none:=by simp[hh]
    have hsz:(s.heap.push { cls:=.type "set",dict:=none,data:=.set #[] 0 (.fresh 0 0 led) }).objs.size=s.heap.objs.size+1:=dW ..
    have acz:l≠(s.heap.push { cls:=.type "set",dict:=none,data:=.set #[] 0 (.fresh 0 0 led) }).objs.size:=by rw[hsz];exact aR (di hlS)
    have Zu:s.heap.objs.size ∉ [(s.heap.push { cls:=.type "set",dict:=none,data:=.set #[] 0 (.fresh 0 0 led) }).objs.size,l]:=by
     rw[hsz]
     intro z
     rcases aE.mp z with z | z
     ·exact absurd z (aR (de _))
     ·exact absurd (be.mp z) (bY hlS)
    have Td:∀ (i:Nat) (v:ae),items[i]?=some v->∃ t,v=.int ((λi=>ns.getD i 0) i) t:=λi v hv=>Ng hi i v (by rw[cp];exact hv)
    refine Md ((Walks.list HU _ l acz items).toS) s.heap.objs.size Zu led (λi=>ns.getD i 0) Td hb (items.size-0) 0 _ (by omega) (bE _) ⟨⟨_,aF _ rfl,rfl,rfl⟩,oJ.push _⟩ ?hS0 ?hR
    case hS0=>exact Mc (al _ hS)
    case hR =>
     intro s' hm hS'
     obtain⟨h',g',d',MI,os'⟩:=s'
     have eg:g'=s.gens:=hm.gens
     have ed:d'=s.drawn:=hm.drawn
     have eo:os'=s.os:=hm.os
     subst eg;subst ed;subst eo
     show wpAny _ _ _ _ _ _
     refine aq ?_
     show wpAny _ _ (ret iE) _ _ _
     refine aq ⟨rfl,h',MI,rfl,hS',λb o e=>hm.heap b o (λz=>?_) (al _ (al _ e))⟩
     have ji:=aD e
     rcases aE.mp z with z | z
     ·exact absurd z (aR ji)
     ·have z':=be.mp z
      rw[hsz] at z'
      exact absurd z' (aR (di ji))
   ·cases r2 with
    | error e=>exact Vg
    | ok V5 =>
     cases V5 with
     | ret r =>
      obtain⟨rfl,h',tk,rfl,hS',hk'⟩:=Vg
      repeat (any_goals (first | assumption | wp_step))
      exact h _ _ hS' hk'
     | _=>exact Vg.elim
  | _=>exact hr.elim
end
end PySem
namespace PySem.F
theorem ke:Slot "set_iterator" "__next__" "set_iterator.__next__" :=
 .of (owner := "set_iterator") (n := "__next__") (by rw[typeLookup_type,QA];kernel_rfl) (by decide +kernel) (by decide +kernel) (by decide +kernel) (by first | exact .inl (by decide +kernel) | exact .inr (by decide +kernel)) (by rw[oX];kernel_rfl)
theorem qr:R8 table "set_iterator.__next__" = some eF.«set_iterator.__next__»:=abo (by kernel_rfl)
theorem Dj:Manifest.owners.lookup (String.ofList ['r','o','t','a','r','e','t','i','_','t','e','s'].reverse)=some Manifest.sig_set_iterator:=by kernel_rfl
theorem qp (a:ae):NZ "set_iterator.__next__" ⟨[a],[]⟩:=by
 unfold NZ;rw[Mj (id := "set_iterator.__next__") (n:=['_','_','t','x','e','n','_','_']) (o:=['r','o','t','a','r','e','t','i','_','t','e','s']) (by kernel_rfl) Dj];kernel_rfl
theorem Gu:Slot "set_iterator" "__iter__" "set_iterator.__iter__" :=
 .of (owner := "set_iterator") (n := "__iter__") (by rw[typeLookup_type,QA];kernel_rfl) (by decide +kernel) (by decide +kernel) (by decide +kernel) (by first | exact .inl (by decide +kernel) | exact .inr (by decide +kernel)) (by rw[oX];kernel_rfl)
theorem IQ:R8 table "set_iterator.__iter__" = some eF.«dict_keyiterator.__iter__»:=entryFor_alias (id' := "dict_keyiterator.__iter__") (by kernel_rfl) rfl (by decide +kernel) (by kernel_rfl)
theorem IP (a:ae):NZ "set_iterator.__iter__" ⟨[a],[]⟩:=by
 unfold NZ;rw[Mj (id := "set_iterator.__iter__") (n:=['_','_','r','e','t','i','_','_']) (o:=['r','o','t','a','r','e','t','i','_','t','e','s']) (by kernel_rfl) Dj];kernel_rfl
theorem EO:R8 table "set.__iter__" = some eF.«frozenset.__iter__»:=entryFor_alias (id' := "frozenset.__iter__") (by kernel_rfl) rfl (by decide +kernel) (by kernel_rfl)
end PySem.F
namespace L2
open PySem PySem.Spec PyProof.Rows
section
variable {P:aO} {w:bD} {A:bp} {E:ae->ai->Prop} {s:ai}
theorem EC {M:tH} {src:Source} {n:Nat} {Q:Nat->ai->Prop} (hn:n≠0) (h:∀ i,i<n->Q i { s with drawn:=s.drawn.bump src }):wpAny M A (choose src n) Q E s :=
 λ_ _ _=>⟨hn,h _ (Nat.mod_lt _ (Nat.pos_of_ne_zero hn))⟩
theorem rm {α:Type}:∀ (l:List α) (i:Nat) (h:i<l.length),(l[i]::l.eraseIdx i).Perm l
 | x::l,0,_=>.refl _
 | x::l,i+1,h=>by
  have h':i<l.length:=by simpa using h
  have:=rm l i h'
  show ((x::l)[i+1]::x::l.eraseIdx i).Perm (x::l)
  exact (List.Perm.swap x _ _).trans (this.cons x)
theorem zf {α:Type} {M:tH}:∀ (n:Nat) (xs:List α) (s:ai) (Q:List α->ai->Prop),xs.length=n->(∀ ys d,ys.Perm xs->Q ys { s with drawn:=d })->wpAny M A (drawOrder n xs) Q E s
 | 0,xs,s,Q,hl,h=>by
  have:xs=[]:=ig.mp hl
  subst this
  exact aq (h [] s.drawn (.refl _))
 | n+1,[],s,Q,hl,h=>by simp at hl
 | n + 1,x::xs,s,Q,hl,h=>by
  rw[drawOrder]
  ·refine aa (EC (by simp) λi hi=>?_)
   have e:(x::xs)[i]?=some ((x::xs)[i]):=by simp[hi]
   rw[e]
   dsimp only
   refine aa (zf n _ _ _ ?_ λys d hp=>?_)
   ·rw[BF hi];simp at hl ⊢;exact hl
   ·refine aq (h _ d ?_)
    refine (hp.cons _).trans ?_
    exact rm _ i hi
  ·simp
structure G7 (h:bT) (a:ah) (es:Array (Int × ae)) (ep:Nat) (t:d7):Prop where
 ex:∃ o,h.get? a=some o/\o.ExactSet/\o.data=.set es ep t
 fits:t.fits es.size=true
theorem uL {a:ah} {es:Array (Int × ae)} {ep:Nat} {t:d7} {slot given:Nat} {Q:Option (ae × Nat)->ai->Prop} (S:G7 s.heap a es ep t) (hb:w.params.followText "set-order" = false) (hl:t.led=true) (hp:t.plain=true\/es.size<=1)
  (h:Q (match es[bH t.place slot]?,t.place[bH t.place slot]? with | some (_,x),some j=>some (x,j+1) | _,_=>none) s):wpAny (aS P w) A (vF a slot given ep) Q E s:=by
 obtain⟨o,ho,hex,hd⟩:=S.ex
 unfold vF
 refine aa (jz ho hd S.fits ?_)
 dsimp only
 unfold IN
 refine aa (aa (ki (aq ?_)))
 show wpAny _ _ (if w.params.followText "set-order" = true then _ else _) _ _ _
 rw[hb]
 simp only [nE,if_false]
 have hdr:(!t.plain && decide (es.size > 1))=false:=by
  rcases hp with hp | hp
  ·rw[hp];rfl
  ·rw[decide_eq_false (by omega),UV]
 refine fg (λhc=>?_) (λ_=>?_)
 ·have Kq:(!t.plain && decide (es.size > 1))=true:=hc
  rw[hdr] at Kq;cases Kq
 ·show wpAny _ _ ((if (!t.led && !es.isEmpty)=true then unsupported "set:maker-not-led" else pure ()) >>= λ_=>pure _) Q E s
  rw[hl]
  simp only [Bool.not_true,UW,nE,if_false]
  exact aa (aq (aq h))
theorem ze {a:ah} {es:Array (Int × ae)} {ep:Nat} {t:d7} {slot given:Nat} {Q:Option (ae × Nat)->ai->Prop} (S:G7 s.heap a es ep t) (hb:w.params.followText "set-order" = true)
  (h:Q (((mI (w.params.setOrder a ep) es)[given]?).map λe=>(e.2,slot)) s):wpAny (aS P w) A (vF a slot given ep) Q E s:=by
 obtain⟨o,ho,hex,hd⟩:=S.ex
 unfold vF
 refine aa (jz ho hd S.fits ?_)
 dsimp only
 unfold IN
 refine aa (aa (ki (aq ?_)))
 show wpAny _ _ (if w.params.followText "set-order" = true then _ else _) _ _ _
 rw[if_pos hb]
 refine fg (λhc=>by simp at hc) (λ_=>?_)
 unfold setWalk
 refine aa (aa (jz ho hd S.fits ?_))
 dsimp only
 unfold IN
 refine aa (aa (ki (aq ?_)))
 show wpAny _ _ (if w.params.followText "set-order" = true then _ else _) _ _ _
 rw[if_pos hb]
 refine aa (ki (aq ?_))
 exact aq h
theorem Es {a:ah} {es:Array (Int × ae)} {ep:Nat} {t:d7} {place:Nat} {e:Int × ae} {Q:ae->ai->Prop} (S:G7 s.heap a es ep t) (he:es[place]?=some e) (h:Q e.2 s):wpAny (aS P w) A (PF a place ep) Q E s:=by
 obtain⟨o,ho,hex,hd⟩:=S.ex
 unfold PF
 refine aa (jz ho hd S.fits ?_)
 dsimp only
 refine fg (λhc=>by simp at hc) (λ_=>?_)
 rw[he]
 exact aq h
theorem zj {α:Type} (f:Nat->Nat):∀ (fuel k:Nat) (left:List α) (out:Array α),left.length=fuel->(AW f fuel k left out).toList.Perm (out.toList++left)
 | 0,k,left,out,hl=>by
  have:left=[]:=ig.mp hl
  subst this
  rw[AW];simp
 | fuel+1,k,left,out,hl=>by
  rw[AW]
  have hi:f k % left.length<left.length:=Nat.mod_lt _ (by omega)
  have e:left[f k % left.length]?=some (left[f k % left.length]):=by simp[hi]
  rw[e]
  dsimp only
  refine (zj f fuel (k+1) _ _ (by rw[BF hi];omega)).trans ?_
  rw[M5,iW]
  exact List.Perm.append_left _ (by simpa using rm left _ hi)
theorem LR {α:Type} (f:Nat->Nat) (es:Array α):(mI f es).toList.Perm es.toList:=by
 have:=zj f es.size 0 es.toList #[] (by simp)
 simpa [mI] using this
end
def mV (first:ae) (S:ah) (i n ep:Nat):d6:={ cls:=.type "set_iterator",data:=.fields #[first,.int i 0,.ref S,.int n 0,.int ep 0] }
section
variable {P:aO} {w:bD} {A:bp} {E:ae->ai->Prop} {s:ai}
theorem Gs {I S:ah} {slot i n ep nx:Nat} {x:ae} {es:Array (Int × ae)} {t:d7} {Q:Option ae->ai->Prop} (hI:s.heap.get? I=some (mV (.int slot 0) S i n ep)) (hS:G7 s.heap S es ep t) (hn:es.size=n)
  (hN:∀ (A':bp) (E':ae->ai->Prop) (Q':Option (ae × Nat)->ai->Prop),Q' (some (x,nx)) s->wpAny (aS P w) A' (vF S slot i ep) Q' E' s)
  (h:∀ h',h'.get? I=some (mV (.int nx 0) S (i+1) n ep)->fR I s.heap h'->Q (some x) { s with heap:=h' }):wpAny (aS P w) A (jQ (.ref I)) Q E s:=by
 have hT:s.TypeIs (.ref I) "set_iterator" := ⟨_,hI,rfl⟩
 obtain⟨o,ho,hex,hd⟩:=hS.ex
 unfold jQ
 refine aa (kI (fV (name:=nc "__next__") hT F.ke (fA F.ke hT F.qr ?_ (F.qp _))))
 unfold eF.«set_iterator.__next__»
 refine aa (aq ?_)
 refine aa (vp hI rfl ?_)
 show wpAny _ _ (IM S >>= _) _ _ _
 refine aa (kz ho hd hS.fits ?_)
 refine fg (λhc=>by rw[hn] at hc;simp at hc) (λ_=>?_)
 show wpAny _ _ (vF S slot i ep >>= _) _ _ _
 refine aa (hN _ _ _ ?_)
 show wpAny _ _ (setField (.ref I) 0 (gU nx) >>= _) _ _ _
 refine aa (dB hI (by simp) λh1 g1 Yx=>?_)
 refine aa (dB (s:={ s with heap:=h1 }) g1 (by simp) λh2 g2 Pz=>?_)
 exact aq ⟨_,rfl,aq (h h2 (by simpa [mV,gU] using g2) (Yx.trans Pz))⟩
theorem Mh {I S:ah} {slot i n ep:Nat} {es:Array (Int × ae)} {t:d7} {Q:Option ae->ai->Prop} (hh:A.handled=none) (hI:s.heap.get? I=some (mV (.int slot 0) S i n ep)) (hS:G7 s.heap S es ep t) (hn:es.size=n)
  (hN:∀ (A':bp) (E':ae->ai->Prop) (Q':Option (ae × Nat)->ai->Prop),Q' none s->wpAny (aS P w) A' (vF S slot i ep) Q' E' s)
  (h:∀ h',aaR I s.heap h'->Q none { s with heap:=h' }):wpAny (aS P w) A (jQ (.ref I)) Q E s:=by
 have hT:s.TypeIs (.ref I) "set_iterator" := ⟨_,hI,rfl⟩
 obtain⟨o,ho,hex,hd⟩:=hS.ex
 unfold jQ
 refine aa (kI (fV (name:=nc "__next__") hT F.ke (fA F.ke hT F.qr ?_ (F.qp _))))
 unfold eF.«set_iterator.__next__»
 refine aa (aq ?_)
 refine aa (vp hI rfl ?_)
 show wpAny _ _ (IM S >>= _) _ _ _
 refine aa (kz ho hd hS.fits ?_)
 refine fg (λhc=>by rw[hn] at hc;simp at hc) (λ_=>?_)
 show wpAny _ _ (vF S slot i ep >>= _) _ _ _
 refine aa (hN _ _ _ ?_)
 show wpAny _ _ (setField (.ref I) 2 .none >>= _) _ _ _
 refine aa (dB hI (by simp) λh1 g1 Yx=>?_)
 show wpAny _ _ (newExc (.type "StopIteration") [] >>= _) _ _ _
 refine aa ?_
 simp only [newExc,newTuple]
 refine aa (fW ?_ (by size_fits))
 refine aa (m:=vf _ _) (UQ (a:=iE) (by first | rfl | (simp only [vf];rfl)) ?_)
 refine fW ?_ (by size_fits)
 simp only [raiseNew]
 refine aa (wpAny_handled ?_)
 rw[show A.in1.handled=none from hh]
 refine aa (aq (wpAny_throw ?_))
 refine aa (rO (T := "StopIteration") (b:=true) ⟨_,aF _ rfl,rfl⟩ isSubtype_stop ?_)
 exact aq (h _ ((Yx.extBut.push _).push _))
theorem PB {I S T:ah} {i n ep:Nat} {e:Int × ae} {pl:List Nat} {p:Nat} {es:Array (Int × ae)} {t:d7} {Q:Option ae->ai->Prop} (hI:s.heap.get? I=some (mV (.ref T) S i n ep)) (hS:G7 s.heap S es ep t) (hn:es.size=n)
  (hT':s.heap.get? T=some { cls:=.type "tuple",data:=.seq (pl.map λ(k:Nat)=>gU k).toArray }) (hp:pl[i]?=some p) (he:es[p]?=some e)
  (h:∀ h',h'.get? I=some (mV (.ref T) S (i+1) n ep)->fR I s.heap h'->Q (some e.2) { s with heap:=h' }):wpAny (aS P w) A (jQ (.ref I)) Q E s:=by
 have hT:s.TypeIs (.ref I) "set_iterator" := ⟨_,hI,rfl⟩
 obtain⟨o,ho,hex,hd⟩:=hS.ex
 unfold jQ
 refine aa (kI (fV (name:=nc "__next__") hT F.ke (fA F.ke hT F.qr ?_ (F.qp _))))
 unfold eF.«set_iterator.__next__»
 refine aa (aq ?_)
 refine aa (vp hI rfl ?_)
 show wpAny _ _ (IM S >>= _) _ _ _
 refine aa (kz ho hd hS.fits ?_)
 refine fg (λhc=>by rw[hn] at hc;simp at hc) (λ_=>?_)
 dsimp only
 refine aa ?_
 show wpAny _ _ (load T >>= _) _ _ _
 refine aa (tD hT' (aq ?_))
 dsimp only
 rw[show ((List.map (λ(k:Nat)=>gU k) pl).toArray)[((i:Nat):Int).toNat]?=some (gU p) by rw[bC];simp[hp]]
 show wpAny _ _ (PF S ((p:Nat):Int).toNat ((ep:Nat):Int).toNat >>= _) _ _ _
 rw[bC,bC]
 refine aa (Es hS he ?_)
 refine aa (dB hI (by simp) λh2 g2 Pz=>?_)
 exact aq ⟨_,rfl,aq (h h2 (by simpa [mV,gU] using g2) Pz)⟩
theorem Uq {I S T:ah} {i n ep:Nat} {pl:List Nat} {es:Array (Int × ae)} {t:d7} {Q:Option ae->ai->Prop} (hh:A.handled=none) (hI:s.heap.get? I=some (mV (.ref T) S i n ep)) (hS:G7 s.heap S es ep t) (hn:es.size=n)
  (hT':s.heap.get? T=some { cls:=.type "tuple",data:=.seq (pl.map λ(k:Nat)=>gU k).toArray }) (hp:pl[i]?=none)
  (h:∀ h',aaR I s.heap h'->Q none { s with heap:=h' }):wpAny (aS P w) A (jQ (.ref I)) Q E s:=by
 have hT:s.TypeIs (.ref I) "set_iterator" := ⟨_,hI,rfl⟩
 obtain⟨o,ho,hex,hd⟩:=hS.ex
 unfold jQ
 refine aa (kI (fV (name:=nc "__next__") hT F.ke (fA F.ke hT F.qr ?_ (F.qp _))))
 unfold eF.«set_iterator.__next__»
 refine aa (aq ?_)
 refine aa (vp hI rfl ?_)
 show wpAny _ _ (IM S >>= _) _ _ _
 refine aa (kz ho hd hS.fits ?_)
 refine fg (λhc=>by rw[hn] at hc;simp at hc) (λ_=>?_)
 dsimp only
 refine aa ?_
 show wpAny _ _ (load T >>= _) _ _ _
 refine aa (tD hT' (aq ?_))
 dsimp only
 rw[show ((List.map (λ(k:Nat)=>gU k) pl).toArray)[((i:Nat):Int).toNat]?=none by rw[bC];simpa using hp]
 dsimp only
 refine aa (dB hI (by simp) λh0 g0 sb0=>?_)
 refine aa (dB (s:={ s with heap:=h0 }) g0 (by simp) λh1 g1 Yx=>?_)
 show wpAny _ _ (newExc (.type "StopIteration") [] >>= _) _ _ _
 refine aa ?_
 simp only [newExc,newTuple]
 refine aa (fW ?_ (by size_fits))
 refine aa (m:=vf _ _) (UQ (a:=iE) (by first | rfl | (simp only [vf];rfl)) ?_)
 refine fW ?_ (by size_fits)
 simp only [raiseNew]
 refine aa (wpAny_handled ?_)
 rw[show A.in1.handled=none from hh]
 refine aa (aq (wpAny_throw ?_))
 refine aa (rO (T := "StopIteration") (b:=true) ⟨_,aF _ rfl,rfl⟩ isSubtype_stop ?_)
 exact aq (h _ (((sb0.trans Yx).extBut.push _).push _))
theorem Bm {I S:ah} {first:ae} {i n ep:Nat} {Q:ae->ai->Prop} (hI:s.heap.get? I=some (mV first S i n ep)) (h:Q (.ref I) s):wpAny (aS P w) A (IE (.ref I)) Q E s:=by
 have hT:s.TypeIs (.ref I) "set_iterator" := ⟨_,hI,rfl⟩
 refine aaE hT F.Gu (fA F.Gu hT F.IQ ?_ (F.IP _))
 show wpAny _ _ (ret (.ref I)) _ _ s
 exact aq ⟨_,rfl,"set_iterator",_,hT,F.ke.lookup,h⟩
theorem G7.keep {h h':bT} {a:ah} {es:Array (Int × ae)} {ep:Nat} {t:d7} (x:G7 h a es ep t) (k:∀ o,h.get? a=some o->h'.get? a=some o):G7 h' a es ep t:=by
 obtain⟨o,e,r⟩:=x.ex
 exact⟨⟨o,k o e,r⟩,x.fits⟩
theorem a0t {l:List Nat} {i:Nat} (h:i<l.length):l[i]?=some (l.getD i 0):=by simp[DP,h]
def Bo (t:d7):Nat->Nat
 | 0=>0
 | i+1=>t.place.toList.getD i 0+1
theorem By (hh:A.handled=none) (hb:w.params.followText "set-order" = false) {I S:ah} (kx:S≠I) {es:Array (Int × ae)} {ep:Nat} {t:d7} (T:Tab true t) (hf:t.fits es.size=true) (hp:t.plain=true\/es.size<=1) :
  Walks P w A I [I,S] [I] es.toList.length (λi v=>(es.toList[i]?).map (·.2)=some v) (λi h=>h.get? I=some (mV (.int (Bo t i) 0) S i es.size ep)/\G7 h S es ep t/\i<=es.size) where
 sub:=λb hb=>by simp at hb;simp[hb]
 frame:=λi h h' st hk=>⟨hk I (by simp) _ st.1,st.2.1.keep λo e=>hk S (by simp) o e,st.2.2⟩
 item:=λi s Q E hi st hQ=>by
  rw[bj] at hi
  have hsz:t.place.size=es.size:=by unfold NY at hf;simp at hf;exact hf.1
  have oT:t.place.toList[i]?=some (t.place.toList.getD i 0):=by
   have:i<t.place.toList.length:=by rw[bj];omega
   exact a0t this
  have Zy:bH t.place (Bo t i)=i:=by
   cases i with
   | zero=>exact v4 T.Yr
   | succ j =>
    refine a0v T.Yr ?_
    have:j<t.place.toList.length:=by rw[bj];omega
    exact a0t this
  have Oj:es[i]?=some (es[i]):=by simp[hi]
  refine Gs (x:=(es[i]).2) (nx:=Bo t (i+1)) st.1 st.2.1 rfl (λA' E' Q' q=>uL st.2.1 hb T.led hp ?_) λh' g sb=>?_
  ·rw[Zy,Oj,← cp,oT];exact q
  ·refine hQ _ h' s.toks ?_ ⟨g,st.2.1.keep λo e=>sb.extBut S o kx e,hi⟩ λb o hb e=>sb.extBut b o (λz=>hb (by simp[z])) e
   rw[cp,Oj];rfl
 done:=λs Q E st hQ=>by
  rw[bj] at st
  have hsz:t.place.size=es.size:=by unfold NY at hf;simp at hf;exact hf.1
  have Zy:bH t.place (Bo t es.size)=es.size:=by
   cases e:es.size with
   | zero=>exact v4 T.Yr
   | succ j =>
    refine a0v T.Yr ?_
    have:j<t.place.toList.length:=by rw[bj];omega
    exact a0t this
  refine Mh hh st.1 st.2.1 rfl (λA' E' Q' q=>uL st.2.1 hb T.led hp ?_) λh' eb=>hQ h' s.toks λb o hb e=>eb b o (λz=>hb (by simp[z])) e
  rw[Zy,show es[es.size]?=none by simp];exact q
 self:=λ_ _ _ _ st hQ=>Bm st.1 hQ
theorem Fa (hh:A.handled=none) (hb:w.params.followText "set-order" = true) {I S:ah} (kx:S≠I) {es:Array (Int × ae)} {ep:Nat} {t:d7} {slot:Nat} :
  Walks P w A I [I,S] [I] (mI (w.params.setOrder S ep) es).toList.length (λi v=>((mI (w.params.setOrder S ep) es).toList[i]?).map (·.2)=some v) (λi h=>h.get? I=some (mV (.int slot 0) S i es.size ep)/\G7 h S es ep t) where
 sub:=λb hb=>by simp at hb;simp[hb]
 frame:=λi h h' st hk=>⟨hk I (by simp) _ st.1,st.2.keep λo e=>hk S (by simp) o e⟩
 item:=λi s Q E hi st hQ=>by
  have Oj:(mI (w.params.setOrder S ep) es).toList[i]?=some ((mI (w.params.setOrder S ep) es).toList[i]):=by simp
  refine Gs (x:=((mI (w.params.setOrder S ep) es).toList[i]).2) (nx:=slot) st.1 st.2 rfl (λA' E' Q' q=>ze st.2 hb ?_) λh' g sb=>?_
  ·rw[← cp,Oj];exact q
  ·refine hQ _ h' s.toks (by rw[Oj];rfl) ⟨g,st.2.keep λo e=>sb.extBut S o kx e⟩ λb o hb e=>sb.extBut b o (λz=>hb (by simp[z])) e
 done:=λs Q E st hQ=>by
  refine Mh hh st.1 st.2 rfl (λA' E' Q' q=>ze st.2 hb ?_) λh' eb=>hQ h' s.toks λb o hb e=>eb b o (λz=>hb (by simp[z])) e
  rw[← cp,aU (aA _)];exact q
 self:=λ_ _ _ _ st hQ=>Bm st.1 hQ
theorem Du (hh:A.handled=none) {I S T:ah} (kx:S≠I) (hnt:T≠I) {es:Array (Int × ae)} {ep:Nat} {t:d7} {pl:List Nat} (hp:pl.Perm (bO es.size)) :
  Walks P w A I [I,S,T] [I] pl.length (λi v=>∃ p e,pl[i]?=some p/\es.toList[p]?=some e/\v=e.2) (λi h=>h.get? I=some (mV (.ref T) S i es.size ep)/\G7 h S es ep t/\h.get? T=some { cls:=.type "tuple",data:=.seq (pl.map λ(k:Nat)=>gU k).toArray }) where
 sub:=λb hb=>by simp at hb;simp[hb]
 frame:=λi h h' st hk=>⟨hk I (by simp) _ st.1,st.2.1.keep λo e=>hk S (by simp) o e,hk T (by simp) _ st.2.2⟩
 item:=λi s Q E hi st hQ=>by
  have oT:pl[i]?=some pl[i]:=by simp[hi]
  have ji:pl[i]<es.size:=d8.mp (hp.mem_iff.mp (cA hi))
  have Oj:es[pl[i]]?=some (es[pl[i]]):=by simp[ji]
  refine PB st.1 st.2.1 rfl st.2.2 oT Oj λh' g sb=>?_
  exact hQ _ h' s.toks ⟨_,_,oT,by rw[cp];exact Oj,rfl⟩ ⟨g,st.2.1.keep λo e=>sb.extBut S o kx e,sb.extBut T _ hnt st.2.2⟩ λb o hb e=>sb.extBut b o (λz=>hb (by simp[z])) e
 done:=λs Q E st hQ=>Uq hh st.1 st.2.1 rfl st.2.2 (by simp) λh' eb=>hQ h' s.toks λb o hb e=>eb b o (λz=>hb (by simp[z])) e
 self:=λ_ _ _ _ st hQ=>Bm st.1 hQ
end
section
variable {P:aO} {w:bD} {A:bp} {E:ae->ai->Prop} {s:ai}
theorem KC {S:ah} {Q:Bool->ai->Prop} (hT:s.TypeIs (.ref S) "set") (h:Q false s):wpAny (aS P w) A (tR (.ref S)) Q E s:=by
 unfold tR
 refine aa (wpAny_specialOf hT PySem.F.slot_set_len.lookup ?_)
 generalize hid:("set.__len__" : String)=id0
 wp_delta
 rw[show splitId id0=some ("set","__len__") from by subst hid;decide +kernel]
 subst hid
 refine aa (rO (T := "set") (b:=true) hT (by rw[oX];kernel_rfl) ?_)
 refine fg (λhab=>absurd hab (by decide)) (λ_=>?_)
 refine fg (λ_=>?_) (λhab=>absurd (by decide +kernel) hab)
 exact aa (BA hT (aq h))
theorem a0u {α:Type} (d:α) (L:List α):(bO L.length).map (λp=>L.getD p d)=L:=by
 refine cV λi=>?_
 by_cases h:i<L.length
 ·simp[DP,h]
 ·rw[aU (by simp;omega),aU (by omega)]
def RK (n:Nat) (Pv:Nat->ae->Prop) (ks:List Int):Prop:=∀ vs:List ae,vs.length=n->(∀ (j:Nat) v,vs[j]?=some v->Pv j v)->∃ ns,cv vs ns/\ns.Nodup/\∀ k,k∈ns↔k∈ks
theorem F3 {es ord:List (Int × ae)} {ns ks:List Int} (hi:cv (es.map (·.2)) ns) (nd:ns.Nodup) (hm:∀ k,k∈ns↔k∈ks) (hp:ord.Perm es):RK ord.length (λi v=>(ord[i]?).map (·.2)=some v) ks:=λvs hl hv=>by
 have e:vs=ord.map (·.2):=by
  refine cV λi=>?_
  by_cases h:i<vs.length
  ·have Xg:=hv i vs[i] (by simp)
   rw[aB,Xg];simp
  ·rw[aU (by omega),aU (by simp;omega)]
 obtain⟨rF,h1,h2⟩:=ni hp hi
 exact⟨rF,e ▸ h1,h2.symm.nodup nd,λk=>(h2.mem_iff).trans (hm k)⟩
theorem EB {es:List (Int × ae)} {ns ks:List Int} {pl:List Nat} (hi:cv (es.map (·.2)) ns) (nd:ns.Nodup) (hm:∀ k,k∈ns↔k∈ks) (hp:pl.Perm (bO es.length)):RK pl.length (λi v=>∃ p e,pl[i]?=some p/\es[p]?=some e/\v=e.2) ks:=λvs hl hv=>by
 have e:vs=pl.map (λp=>(es.map (·.2)).getD p .none):=by
  refine cV λi=>?_
  by_cases h:i<vs.length
  ·obtain⟨p,en,h1,h2,h3⟩:=hv i vs[i] (by simp)
   rw[aB,h1,ao h,h3]
   simp[DP,h2]
  ·rw[aU (by omega),aU (by simp;omega)]
 have hp2:vs.Perm (es.map (·.2)):=by
  rw[e]
  have:=hp.map (λp=>(es.map (·.2)).getD p iE)
  rw[show bO es.length=bO (es.map (·.2)).length by simp,a0u] at this
  exact this
 obtain⟨rF,h1,h2⟩:=yV hp2 hi
 exact⟨rF,h1,h2.symm.nodup nd,λk=>(h2.mem_iff).trans (hm k)⟩
theorem Me {S:ah} {ks:List Int} {Q:ae->ai->Prop} (hh:A.handled=none) (hS:nR P w s.heap S (!w.params.followText "set-order") ks)
  (h:∀ (I:ah) (h2:bT) (dr:M9) (fp:List ah) (n:Nat) (Pv:Nat->ae->Prop) (St:Nat->bT->Prop),(∀ b o,s.heap.get? b=some o->h2.get? b=some o)->Walks P w A I fp [I] n Pv St->St 0 h2->(∀ b∈fp,b=S\/s.heap.get? b=none)->s.heap.get? I=none->n<mJ->RK n Pv ks ->
   Q (.ref I) { s with heap:=h2,drawn:=dr }):wpAny (aS P w) A (IE (.ref S)) Q E s:=by
 obtain⟨o,es,ep,t,ns,ho,hex,hd,QH,hi,nd,hm,hb,hf,hT⟩:=hS
 have Wm:s.TypeIs (.ref S) "set" := ⟨o,ho,hex.1⟩
 have Wi:=aD ho
 refine aaE Wm Zf (fA Zf Wm F.EO ?_ (F.args_set_iter_1 _))
 unfold eF.«frozenset.__iter__»
 refine aa (aq ?_)
 show wpAny _ _ (rY S >>= _) _ _ _
 unfold rY
 refine aa (aa (kz ho hd hf (aq ?_)))
 unfold setDrawn
 refine aa (aa (jz ho hd hf ?_))
 dsimp only
 unfold IN
 refine aa (aa (ki (aq (aq ?_))))
 show wpAny _ _ (if (!w.params.followText "set-order" && (!t.plain && decide (es.size > 1)))=true then _ else _) _ _ _
 have afM:∀ {h':bT} {b:ah},s.heap.objs.size<=b->s.heap.get? b=none:=λhb=>eC hb
 by_cases hc:(!w.params.followText "set-order" && (!t.plain && decide (es.size > 1)))=true
 ·rw[if_pos hc]
  refine aa (zf es.size (bO es.size) _ _ (by simp) λpl dr hp=>?_)
  have oT:pl.length=es.size:=by rw[hp.length_eq,n9]
  refine aa (wpAny_newTuple ?_ (by rw[aj,oT];exact qj hb))
  refine aa (aaF (s:={ s with heap:=s.heap.push { cls:=.type "tuple",data:=.seq (pl.map λ(k:Nat)=>gU k).toArray },drawn:=dr }) (al _ ho) hd hf ?_)
  refine aa (fW (aq ⟨_,rfl,"set_iterator",_,⟨_,aF _ rfl,rfl⟩,F.ke.lookup,?_⟩))
  have hsz:(s.heap.push { cls:=.type "tuple",data:=.seq (pl.map λ(k:Nat)=>gU k).toArray }).objs.size=s.heap.objs.size+1:=dW ..
  have e2:∀ b ob,s.heap.get? b=some ob->((s.heap.push { cls:=.type "tuple",data:=.seq (pl.map λ(k:Nat)=>gU k).toArray }).push (mV (.ref s.heap.objs.size) S 0 es.size ep)).get? b=some ob:=λb ob e=>al _ (al _ e)
  refine h _ _ dr [_,S,s.heap.objs.size] pl.length _ _ e2 (Du (t:=t) hh ?_ ?_ hp) ⟨?_,⟨⟨o,e2 _ _ ho,hex,hd⟩,hf⟩,?_⟩ ?_ ?_ (by rw[oT];exact hb) (EB hi nd hm (by simpa using hp))
  ·rw[hsz];exact aR (di Wi)
  ·rw[hsz];exact aR (de _)
  ·exact aF _ rfl
  ·exact al _ (aF _ rfl)
  ·intro b Aw
   simp only [aE,dC,or_false] at Aw
   rcases Aw with rfl | rfl | rfl
   ·exact .inr (eC (by rw[hsz];exact jj _))
   ·exact .inl rfl
   ·exact .inr (eC (aA _))
  ·exact eC (by rw[hsz];exact jj _)
 ·rw[if_neg hc]
  refine aa (aq (aa (aaF ho hd hf ?_)))
  refine aa (fW (aq ⟨_,rfl,"set_iterator",_,⟨_,aF _ rfl,rfl⟩,F.ke.lookup,?_⟩))
  have e2:∀ b ob,s.heap.get? b=some ob->(s.heap.push (mV (.int 0 0) S 0 es.size ep)).get? b=some ob:=λb ob e=>al _ e
  have kx:S≠s.heap.objs.size:=aR Wi
  have Zz:∀ b∈[s.heap.objs.size,S],b=S\/s.heap.get? b=none:=λb Aw=>by
   simp only [aE,dC,or_false] at Aw
   rcases Aw with rfl | rfl
   ·exact .inr (eC (aA _))
   ·exact .inl rfl
  cases ht:w.params.followText "set-order" with
  | true =>
   have pm:=LR (w.params.setOrder S ep) es
   have hlen:(mI (w.params.setOrder S ep) es).toList.length<mJ:=by rw[pm.length_eq,bj];exact hb
   exact h _ _ s.drawn [s.heap.objs.size,S] _ _ _ e2 (Fa (t:=t) (slot:=0) hh ht kx) ⟨aF _ rfl,⟨⟨o,e2 _ _ ho,hex,hd⟩,hf⟩⟩ Zz (eC (aA _)) hlen (F3 hi nd hm pm)
  | false =>
   rw[ht] at hT hc
   have hp:t.plain=true\/es.size<=1:=by
    cases oT:t.plain with
    | true=>exact .inl rfl
    | false =>
     rw[oT] at hc
     refine .inr (pq λz=>hc ?_)
     simpa using z
   exact h _ _ s.drawn [s.heap.objs.size,S] _ _ _ e2 (By hh ht kx hT hf hp) ⟨aF _ rfl,⟨⟨o,e2 _ _ ho,hex,hd⟩,hf⟩,bE _⟩ Zz (eC (aA _)) (by rw[bj];exact hb) (F3 hi nd hm (.refl _))
end
section
variable {P:aO} {w:bD} {A:bp} {E:ae->ai->Prop} {s:ai}
theorem EN {S D:ah} {ks:List Int} {R:qF->ai->Prop} (hh:A.handled=none) (hS:nR P w s.heap S (!w.params.followText "set-order") ks) (kx:D≠S) (res:ae) {c0:Nat} (hD:s.heap.get? D=some { cls:=.type "list",data:=.seq #[] c0 })
  (hR:∀ (h':bT) (tk:Nat) (dr:M9) (acc:Array ae) (c:Nat) (ns:List Int),(∀ b o,b≠D->s.heap.get? b=some o->h'.get? b=some o)->h'.get? D=some { cls:=.type "list",dict:=none,data:=.seq acc c,slots:=#[] }->cv acc.toList ns->ns.Nodup->(∀ k,k∈ns↔k∈ks) ->
   R (.ok (.ret res)) { s with heap:=h',toks:=tk,drawn:=dr }) :
  wpAny (aS P w) A.in1 (k9 (.ref D) (.ref S) res) (λfin s'=>match fin with | .done f=>R (.ok f) s' | .again c'=>c'.quiet=true/\codeAny (aS P w) A c' R s') (λe s'=>R (.error e) s') s:=by
 have Wm:s.TypeIs (.ref S) "set" := by
  obtain⟨o,es,ep,t,ns,ho,hex,_⟩:=hS
  exact⟨o,ho,hex.1⟩
 unfold k9
 refine aa (BA (T := "set") Wm ?_)
 have h1:vq (.ref D) (.ref S)=false:=by simp[vq,kx]
 have h2:(jb "set" == jb "list")=false:=by decide
 have h3:(jb "set" == jb "tuple")=false:=by decide
 simp only [h1,h2,h3,Bool.or_false,nE,if_false]
 refine aa (Me (A:=A.in1) hh hS λI hp dr fp n Pv St kp W st Zz hI hn outs=>?_)
 have hDp:=kp _ _ hD
 have hDf:D ∉ fp:=λhm=>by
  rcases Zz D hm with e | e
  ·exact kx e
  ·rw[hD] at e;cases e
 have key:∀ (h4:bT) (c4 tk:Nat),St 0 h4->(∀ b o,b≠D->s.heap.get? b=some o->h4.get? b=some o)->h4.get? D=some { cls:=.type "list",data:=.seq #[] c4 } ->
   codeAny (aS P w) A (.builtin "list.extend.loop" ⟨[.ref D,.ref I,res],[]⟩) R { s with heap:=h4,toks:=tk,drawn:=dr }:=by
  intro h4 c4 tk st4 k4 hD4
  refine codeAny_extend_loopS W.toS (qj hn) D hDf res n 0 _ #[] c4 rfl (bE _) st4 hD4 (ItemsOf.nil _) λs5 acc c5 hm hD5 HN=>?_
  obtain⟨ns,i1,i2,i3⟩:=outs acc.toList (by rw[bj];exact HN.1) λj v e=>HN.2 j v (by rw[← cp];exact e)
  rw[Moved.eq_with hm]
  refine hR s5.heap s5.toks dr acc c5 ns (λb o hb e=>hm.heap b o (λacx=>?_) (k4 b o hb e)) hD5 i1 i2 i3
  rcases aE.mp acx with z | z
  ·exact hb z
  ·rw[be.mp z] at e;rw[hI] at e;cases e
 refine aa (db (KC (s:={ s with heap:=hp,drawn:=dr }) (by obtain⟨o,ho,hc⟩:=Wm;exact⟨o,kp _ _ ho,hc⟩) ?_))
 refine fg (λ_=>?_) (λ_=>aq ⟨kH yy _,key hp c0 _ st (λb o _ e=>kp b o e) hDp⟩)
 refine aa (tF (aa ?_))
 show wpAny _ _ (kh D (·.push .none) >>= λ_=>kh D (·.pop)) _ _ _
 refine aa (jg hDp rfl ?_)
 have g2:=eX (eO (·.push iE)) hDp rfl
 refine jg (hz:=by seq_fits) g2 rfl ?_
 have g3:=eX (eO (·.pop)) g2 rfl
 refine aq ⟨kH yy _,key _ _ _ (W.frame 0 _ _ st λb hb o e=>?_) (λb o hb e=>?_) g3⟩
 ·have hbD:b≠D:=λz=>hDf (z ▸ hb)
  exact (fT _ _ (cS hbD)).trans ((fT _ _ (cS hbD)).trans e)
 ·exact (fT _ _ (cS hb)).trans ((fT _ _ (cS hb)).trans (kp b o e))
theorem Di {S:ah} {ks:List Int} {R:List ae->ai->Prop} (hh:A.handled=none) (hS:nR P w s.heap S (!w.params.followText "set-order") ks)
  (h:∀ (h':bT) (tk:Nat) (dr:M9) (vs:List ae) (ns:List Int),(∀ b o,s.heap.get? b=some o->h'.get? b=some o)->cv vs ns->ns.Nodup->(∀ k,k∈ns↔k∈ks)->R vs { s with heap:=h',toks:=tk,drawn:=dr }) :
  wpAny (aS P w) A (collect (.ref S)) R E s:=by
 have ji:S<s.heap.objs.size:=by
  obtain⟨o,es,ep,t,ns,ho,_⟩:=hS
  exact aD ho
 unfold collect
 refine aa (wpAny_runValue (dF entry_proto_collect' ?_))
 rw[fh PySem.F.plain_proto_collect _]
 show wpAny _ A.in1 (newList [] >>= λl=>again (.builtin "list.__iadd__" ⟨[l,.ref S],[]⟩)) _ _ s
 refine aa (fW (aq ⟨kH BH _,dF entry_list_iadd' ?_⟩))
 rw[fh BH _]
 have hD:(s.heap.push { cls:=.type "list",data:=.seq ([]:List ae).toArray }).get? s.heap.objs.size=some { cls:=.type "list",data:=.seq #[] }:=aF _ rfl
 show wpAny _ A.in1 (k9 (.ref s.heap.objs.size) (.ref S) (.ref s.heap.objs.size)) _ _ _
 have key:=EN (A:=A) (s:={ s with heap:=s.heap.push { cls:=.type "list",data:=.seq ([]:List ae).toArray } }) (ks:=ks)
  (R:=λ(q:qF) (s':ai)=>∃ (h':bT) (tk:Nat) (dr:M9) (acc:Array ae) (c:Nat) (ns:List Int),q=.ok (.ret (.ref s.heap.objs.size))/\s'={ s with heap:=h',toks:=tk,drawn:=dr }/\(∀ b o,s.heap.get? b=some o->h'.get? b=some o) /\
   h'.get? s.heap.objs.size=some { cls:=.type "list",dict:=none,data:=.seq acc c,slots:=#[] }/\cv acc.toList ns/\ns.Nodup/\∀ k,k∈ns↔k∈ks)
  hh (hS.keep λo e=>al _ e) (bY ji) (.ref s.heap.objs.size) hD
  (λh' tk dr acc c ns hk g i1 i2 i3=>⟨h',tk,dr,acc,c,ns,rfl,rfl,λb o e=>hk b o (aR (aD e)) (al _ e),g,i1,i2,i3⟩)
 refine cf key (λfin s' x=>?_) λe s' x=>?_
 ·cases fin with
  | done f =>
   obtain⟨h',tk,dr,acc,c,ns,e,rfl,hk,g,i1,i2,i3⟩:=x
   cases e
   show wpAny _ A (load s.heap.objs.size >>= _) _ _ _
   exact aa (tD g (aq (h h' tk dr acc.toList ns hk i1 i2 i3)))
  | again c1 =>
   refine⟨x.1,iY x.2 λq s2 y=>?_⟩
   obtain⟨h',tk,dr,acc,c,ns,rfl,rfl,hk,g,i1,i2,i3⟩:=y
   show wpAny _ A (load s.heap.objs.size >>= _) _ _ _
   exact aa (tD g (aq (h h' tk dr acc.toList ns hk i1 i2 i3)))
 ·obtain⟨_,_,_,_,_,_,z,_⟩:=x
  cases z
theorem EQ {S:ah} {ks:List Int} {Q:ae->ai->Prop} (hh:A.handled=none) (hS:nR P w s.heap S (!w.params.followText "set-order") ks) (Og:∀ ns:List Int,ns.Nodup->(∀ k∈ns,k∈ks)->ns.length<64)
  (h:∀ (h1 h2:bT) (tk:Nat) (dr:M9) (out:List ae) (ns:List Int) (e:Nat),(∀ b o,s.heap.get? b=some o->h1.get? b=some o)->(∀ b o,h1.get? b=some o->h2.get? b=some o)->cv out ns->ns.Nodup->ns.Pairwise (·<=·)->(∀ k,k∈ns↔k∈ks) ->
   h2.get? h1.objs.size=some { cls:=.type "list",data:=.seq out.toArray e }->Q (.ref h1.objs.size) { s with heap:=h2,toks:=tk,drawn:=dr }) :
  wpAny (aS P w) A (qH (.builtin "sorted") [.ref S]) Q E s:=by
 refine Calls.call_function_entry kind_sorted plain_sorted entry_sorted (args_sorted1 _) ?_
 unfold eF.«sorted»
 refine aa (m:=checkCount "sorted" 1 1 _) (aq ?_)
 refine aa (Di (A:=A.in1) hh hS λh' tk dr vs ns hk i1 i2 i3=>?_)
 have hl:vs.length<64:=by rw[i1.length];exact Og ns i2 λk hk=>(i3 k).mp hk
 refine aa (MU ?_ (a0b (m:=64) (kS hl)))
 have Vf:(h'.push (seqObj "list" vs.toArray 0)).get? h'.objs.size=some (seqObj "list" vs.toArray 0):=aF _ rfl
 refine aa (db (fA slot_list_sort ⟨_,Vf,rfl⟩ entry_list_sort (list_sort_tree (n:=0) Vf i1 hl λout rF a1 a2 a3=>⟨_,rfl,?_⟩) (args_list_sort _)))
 obtain⟨e,he⟩:=sortedHeap_at (out:=out) Vf
 refine aq ⟨_,rfl,h h' _ tk dr out.toList rF e hk (λb o q1=>?_) a1 (a2.symm.nodup i2) a3 (λk=>a2.mem_iff.trans (i3 k)) (by simpa using he)⟩
 rw[sortedHeap_old (aR (aD q1)) (by rw[size_push'];exact di (aD q1))]
 exact al _ q1
end
theorem Gk {ns:List Int} (h:ns.Pairwise (·<=·)) (d:ns.Nodup):ns.Pairwise (·<·):=by
 refine (h.and d).imp λc6=>?_
 obtain⟨a,b⟩:=c6
 omega
def Q9 (K:ak) (ta:TA):TE:=λσ H Q=>ta σ H λvs H1=>∃ (a:ah) (ks:List Int),vs=[.ref a]/\bI K H1 a (ks.map V.int)/\ks.length+1<4096/\(∀ ns:List Int,ns.Nodup->(∀ k∈ns,k∈ks)->ns.length<64) /\
 ∀ (p:ah) (ns:List Int),H1 p=none->ns.Pairwise (·<·)->(∀ k,k∈ns↔k∈ks)->Q (.ref p) (upd H1 p (.lst (ns.map V.int)))
theorem x6 {X:Cx} {e:bR} {ta:TA} {p1 p2 Ue AX:gR} (hc:X.calm=true) (hg:Gl X "sorted") (hm:X.mg "sorted" = none) (Kv:Gl X "set") (WU:X.mg "set" = none) (he:PA X [e] ta)
  (h1:aV [e] X.env=[(false,dU e X.env)]:=by rfl) (h2:aV [.Call (.Name "set" p2) [e] [] AX] X.env=[(false,dU (.Call (.Name "set" p2) [e] [] AX) X.env)]:=by rfl) :
  PE X (.Call (.Name "sorted" p1) [.Call (.Name "set" p2) [e] [] AX] [] Ue) (Q9 X.K ta):=by
 intro pins s σ H Q I h
 have inner:wpAny (aS X.prog X.w) X.A (dU (.Call (.Name "set" p2) [e] [] AX) X.env) (λv s1=>∃ (S:ah) (H1:Hp) (ks:List Int),v=.ref S/\Inv X pins σ H1 s1/\nR X.prog X.w s1.heap S (!X.w.params.followText "set-order") ks/\(∀ ns:List Int,ns.Nodup->(∀ k∈ns,k∈ks)->ns.length<64) /\
   ∀ (p:ah) (ns:List Int),H1 p=none->ns.Pairwise (·<·)->(∀ k,k∈ns↔k∈ks)->Q (.ref p) (upd H1 p (.lst (ns.map V.int)))) X.xe s:=by
  refine Ru (lq I Kv WU PyProof.Rows.boot_set (dy (fq (he AX pins s σ H _ I h) λus s1 c6=>?_) h1 rfl))
  obtain⟨vs,H1,I1,r,q⟩:=c6
  obtain⟨a,ks,rfl,ha,hz,Og,q⟩:=q
  obtain⟨u,rfl,ru⟩:=a0h r
  cases ru
  obtain⟨cH,rv,pl,_⟩:=I1.list ha
  have hi:cv cH ks:=a0c rv
  have hs:cH.toArray.size=ks.length:=by rw[bu];exact hi.length
  refine PySem.AN (I1.ok.hd hc) pl.isList (by simpa using hi) (by rw[hs];exact hz) λh' tk sI k=>?_
  rw[hs,a0u] at sI
  exact⟨_,H1,ks,rfl,I1.kept (t':=tk) k,sI,Og,q⟩
 refine Ru (lq I hg hm mz (rT (by
  rw[h2]
  refine JG (fq inner λv s1 x=>M6 ?_)
  obtain⟨S,H1,ks,rfl,I1,sI,Og,q⟩:=x
  refine EQ (I1.ok.hd hc) sI Og λh1 h2 tk dr out ns e k1 k2 i1 nd pw mem ho=>?_
  have I2:Inv X pins σ H1 { s1 with heap:=h1,toks:=tk,drawn:=dr }:=I1.JZ (s':={ s1 with heap:=h1,toks:=tk,drawn:=dr }) (ch:=[]) rfl (Un.kept k1) (I1.cU.kept k1) I1.bare (λ_ z=>nomatch z)
  have hz:(ns.map V.int).length<=aL:=by rw[aj];exact a0b (m:=64) (kS (Og ns nd λk hk=>(mem k).mp hk))
  exact⟨.ref h1.objs.size,_,I2.laid (t':=tk) (o:=.lst (ns.map V.int)) k2 (aA _) ⟨hz,out,e,vI i1,ho⟩,rfl,q _ ns I2.fresh (Gk pw nd) mem⟩) h2 rfl))
theorem ue (ns:List Int):(ns.map V.int).all si=true:=by rw[fZ];intro v hv;obtain⟨i,_,rfl⟩:=bL.mp hv;rfl
theorem wp (x:Int) (ns:List Int):XA (.int x) (ns.map V.int)=decide (x∈ns):=by
 unfold XA
 rw[List.any_map,eQ,decide_eq_true_iff,lx]
 constructor
 ·rintro⟨y,hy,e⟩
  have:y=x:=by simpa [D4] using e
  exact this ▸ hy
 ·intro h
  exact⟨x,h,by simp[D4]⟩
theorem fm {ns:List Int} {i:Nat} {x:V} (h:(ns.map V.int)[i]?=some x):∃ z,ns[i]?=some z/\x=.int z:=by
 rw[aB] at h
 cases e:ns[i]? with
 | none=>rw[e] at h;cases h
 | some z=>rw[e] at h;exact⟨z,rfl,(cK h).symm⟩
theorem mK {n m:Nat} (h:n<=m) (hm:m+1<=1000000:=by decide):n<aL:=a0b (n:=n+1) (m:=m+1) (Nat.succ_le_succ h) hm
theorem cJ {xs:List Int} {i:Nat} {z:Int} (h:xs[i]?=some z) {x:Int}:x∈xs.take (i+1)↔x∈xs.take i\/x=z:=by
 rw[bv,h];simp
def del (H:Hp) (g:ah):Hp:=λb=>if b=g then none else H b
theorem dJ {H:Hp} {g b:ah} (h:b≠g):del H g b=H b:=if_neg h
theorem iZ {H:Hp} {g:ah} {o:HO}:del (upd H g o) g=del H g:=by
 funext b
 by_cases e:b=g
 ·unfold del;rw[if_pos e,if_pos e]
 ·rw[dJ e,dJ e,bB e]
theorem jn (H:Hp) (g:ah):bh (del H g) H:=λb o e=>by
 by_cases q:b=g
 ·unfold del at e;rw[if_pos q] at e;cases e
 ·rw[dJ q] at e;exact e
theorem jm {H H':Hp} (s:bh H H') (g:ah):bh (del H g) (del H' g):=λb o e=>by
 by_cases q:b=g
 ·unfold del at e;rw[if_pos q] at e;cases e
 ·rw[dJ q] at e;rw[dJ q];exact s b o e
def KI (H H2:Hp) (g:ah):Hp:=nW H (del H2 g)
structure zN {α:Type} (R:Rel α) (H H2:Hp) (g:ah) (xs:List α):Prop where
 g0:H g=none
 s:bh H H2
 ex:∃ vs,H2 g=some (.lst vs)/\dP (R (KI H H2 g)) xs vs
section
variable {α:Type} {R:Rel α} {H H1 H2 H3:Hp} {g:ah} {xs:List α}
theorem zN.start (s:bh H H1) (h:H1 g=none):zN R H (upd H1 g (.lst [])) g []:=⟨s.free h,s.trans (az h _),[],ar,.nil⟩
theorem zN.go (m:io R) (b:zN R H H2 g xs) (s:bh H2 H3):zN R H H3 g xs:=by
 obtain⟨g0,s0,vs,h,p⟩:=b
 exact⟨g0,s0.trans s,vs,s _ _ h,ee m (uo (bh.refl _) (jm s g)) p⟩
theorem zN.push (m:io R) (b:zN R H H2 g xs) (s:bh H2 H3) {x:α} {v:V} (r:R (nW H2 H3) x v):∃ vs,H3 g=some (.lst vs)/\vs.length=xs.length/\zN R H (upd H3 g (.lst (vs++[v]))) g (xs++[x]):=by
 have b3:=b.go m s
 obtain⟨g0,s0,vs,h,p⟩:=b3
 refine⟨vs,h,p.length.symm,g0,s0.put g0 _,vs++[v],ar,?_⟩
 have e:KI H (upd H3 g (.lst (vs++[v]))) g=KI H H3 g:=by unfold KI;rw[iZ]
 rw[e]
 refine Paired.app p (.cons (m.up (λc o q=>?_) r) .nil)
 have HQ:H2 c=none:=by
  cases z:H2 c with
  | none=>rfl
  | some u=>rw[uq z] at q;cases q
 rw[hU HQ] at q
 have hcg:c≠g:=λz=>by subst z;rw[b.ex.choose_spec.1] at HQ;cases HQ
 unfold KI
 rw[hU (b.s.free HQ),dJ hcg];exact q
theorem zN.done (m:io R) (b:zN R H H2 g xs):gb R (nW H H2) xs (.ref g):=by
 obtain⟨g0,s0,vs,h,p⟩:=b
 exact⟨g,vs,rfl,by rw[hU g0];exact h,ee m (uo (bh.refl _) (jn _ _)) p⟩
theorem zN.sq (b:zN R H H2 g xs):∃ vs,H2 g=some (.lst vs)/\vs.length=xs.length:=by
 obtain⟨vs,h,p⟩:=b.ex
 exact⟨vs,h,p.length.symm⟩
end
theorem AJ {H H1 H2:Hp} (s:bh H1 H2):bh (nW H H1) (nW H H2):=uo (bh.refl _) s
theorem CT {H H':Hp} {p:ah} {ns:List Int} (h:H p=none) (h':H' p=some (.lst (ns.map V.int))):gb gG (nW H H') ns (.ref p):=fL.mpr ⟨p,rfl,by rw[hU h];exact h'⟩
abbrev Row:=Int × Int × List Int
abbrev LX:Rel Row:=rT3 gG gG (gb gG)
abbrev oN:Rel (List Row):=gb LX
theorem wz:io LX:=OR cR cR (cN cR)
theorem jL:io oN:=cN wz
theorem IH {H:Hp} {r:Row} {v:V} (h:LX H r v):∃ t wa,v=.ref t/\H t=some (.tup [.int r.1,.int r.2.1,.ref wa])/\H wa=some (.lst (r.2.2.map V.int)):=by
 obtain⟨t,x,y,z,rfl,h1,h2,h3,h4⟩:=h
 obtain⟨wa,rfl,h5⟩:=fL.mp h4
 cases h2;cases h3
 exact⟨t,wa,rfl,h1,h5⟩
theorem Pu {H H1:Hp} {h r:Int} {ws:List Int} {wa t:ah} (s:bh H H1) (h1:H wa=none) (h2:H1 wa=some (.lst (ws.map V.int))) (ht:H1 t=none):LX (nW H (upd H1 t (.tup [.int h,.int r,.ref wa]))) (h,r,ws) (.ref t):=by
 refine⟨t,_,_,_,rfl,?_,rfl,rfl,CT h1 ?_⟩
 ·rw[hU (s.free ht),ar]
 ·rw[bB (cr h2 ht)];exact h2
theorem fu {H:Hp} {G:List Row} {v:V} (h:oN H G v):∃ g vs,v=.ref g/\H g=some (.lst vs)/\vs.length=G.length /\
  ∀ (i:Nat) (r:Row),G[i]?=some r->∃ t wa,vs[i]?=some (.ref t)/\H t=some (.tup [.int r.1,.int r.2.1,.ref wa])/\H wa=some (.lst (r.2.2.map V.int)):=by
 obtain⟨g,vs,rfl,h1,p⟩:=h
 refine⟨g,vs,rfl,h1,p.length.symm,λi r hr=>?_⟩
 obtain⟨y,hy,ry⟩:=Paired.at p hr
 obtain⟨t,wa,rfl,h2,h3⟩:=IH ry
 exact⟨t,wa,hy,h2,h3⟩
theorem abx {α:Type} {xs:List α} {z:Int} (h0:0<=z) (h1:z<xs.length):∃ x,xs[z.toNat]?=some x:=⟨xs[z.toNat]'(by omega),by simp⟩
theorem gq {vs:List V} {z:Int} {v:V} (h0:0<=z) (h:vs[z.toNat]?=some v):o6 vs z=some v:=by
 have:=bV h
 rwa [mO h0] at this
section
variable {X:Cx} {K:ak} (hK:X.K=K)
include hK
theorem lA:VF X (Yl K):=by subst hK;exact OJ
theorem mQ:VF X (Ym K):=by subst hK;exact Tw
theorem slL:SlR X (Yo K):=by subst hK;exact PM
theorem Et:uX X (dz .NotIn) (rIn K true):=by subst hK;exact AM
theorem iu:jG X (.builtin "len") (λxs H Q=>∃ p ys,xs=[.ref p]/\(bI K H p ys\/gJ K H p ys)/\Q (.int ys.length) H):=by subst hK;exact Al
theorem DY:jG X (.type "list") (λxs H Q=>∃ p ys,xs=[.ref p]/\(bI K H p ys\/gJ K H p ys)/\∀ l,H l=none->Q (.ref l) (upd H l (.lst ys))):=by subst hK;exact Am
theorem J3 {T:String}:jG X (.builtin "isinstance") (λxs H Q=>∃ x S b,xs=[x,.ty T]/\FP H x S/\cF K (.type S) (.type T)=some b/\Q (.bl b) H):=by subst hK;exact J0
theorem Pl {x y:aT} {p1 p2 pos:gR} {k:Nat} (hc:X.calm=true) (hN:X.N.Nodup) (h0:X.N[0]?=some x) (h1:X.N[1]?=some y) (hx:X.env.scope.names.lookup x=some .local) (hy:X.env.scope.names.lookup y=some .local) :
  Nf X 2 (.Tuple [.Name x p1,.Name y p2] k pos) (MK K 2):=by subst hK;exact LW hc hN h0 h1 hx hy
end
theorem c8 {K:ak} {a:ah} {xs:List V} {tt:DB} {tc:TT} {te:TE} {cap:List Nat} {σ:St} {H:Hp} {D:ah->List V->Hp->Prop} (Pv:Nat->List V->Hp->Prop) (h0:Pv 0 [] H) (hz:xs.length<=aL) (hl:∀ i ys H,i<=xs.length->Pv i ys H->bI K H a xs/\ys.length<=i)
  (hs:∀ i x ys H,xs[i]?=some x->Pv i ys H->tt x H λws=>tc (ws.map some++lH σ cap) H λb H4=>if b=true then te (ws.map some++lH σ cap) H4 λy H5=>Pv (i+1) (ys++[y]) H5 else Pv (i+1) ys H4)
  (hd:∀ ys H,Pv xs.length ys H->∀ p,H p=none->D p ys H) :
  ∃ W:Nat->Nat->List V->Hp->Prop,(∃ m,W 0 m [] H)/\∀ i m ys H2,W i m ys H2 ->
  ((yt K a).stop i H2/\ys.length<=aL/\∀ p,H2 p=none->D p ys H2) \/
  ((yt K a).go i H2/\∃ N:List V->Hp->Prop,(∀ BO H',N BO H'->BO.length<=aL/\∃ m',m'<m/\W (i+1) m' BO H') /\
   ∀ x H3,(yt K a).Dv i H2 x H3->tt x H3 λws=>tc (ws.map some++lH σ cap) H3 λb H4 =>
    if b=true then te (ws.map some++lH σ cap) H4 λy H5=>N (ys++[y]) H5 else N ys H4):=by
 refine⟨λi m ys H=>m=xs.length-i/\i<=xs.length/\Pv i ys H,⟨xs.length,by simp,bE _,h0⟩,?_⟩
 rintro i m ys H2 ⟨rfl,hi,p⟩
 obtain⟨q,hy⟩:=hl i ys H2 hi p
 by_cases ji:i<xs.length
 ·refine .inr ⟨⟨xs,xs[i],q,by simp[ji]⟩,Pv (i+1),λBO H' r=>?_,λx H3 y=>?_⟩
  ·obtain⟨_,h2⟩:=hl (i+1) BO H' ji r
   exact⟨by omega,xs.length-(i+1),by omega,rfl,ji,r⟩
  ·obtain⟨e,y⟩:=y
   subst e
   exact hs i x ys _ (y xs q) p
 ·have e:i=xs.length:=by omega
  subst e
  exact .inl ⟨⟨xs,q,aA _⟩,by omega,hd ys H2 p⟩
theorem pD {lo:Int} {n:Nat} {tt:DB} {tc:TT} {te:TE} {cap:List Nat} {σ:St} {H:Hp} {D:ah->List V->Hp->Prop} (Pv:Nat->List V->Hp->Prop) (h0:Pv 0 [] H) (hz:n<=aL) (hl:∀ i ys H,i<=n->Pv i ys H->ys.length<=i)
  (hs:∀ i ys H,i<n->Pv i ys H->tt (.int (lo+i)) H λws=>tc (ws.map some++lH σ cap) H λb H4=>if b=true then te (ws.map some++lH σ cap) H4 λy H5=>Pv (i+1) (ys++[y]) H5 else Pv (i+1) ys H4)
  (hd:∀ ys H,Pv n ys H->∀ p,H p=none->D p ys H) :
  ∃ W:Nat->Nat->List V->Hp->Prop,(∃ m,W 0 m [] H)/\∀ i m ys H2,W i m ys H2 ->
  ((NN lo n).stop i H2/\ys.length<=aL/\∀ p,H2 p=none->D p ys H2) \/
  ((NN lo n).go i H2/\∃ N:List V->Hp->Prop,(∀ BO H',N BO H'->BO.length<=aL/\∃ m',m'<m/\W (i+1) m' BO H') /\
   ∀ x H3,(NN lo n).Dv i H2 x H3->tt x H3 λws=>tc (ws.map some++lH σ cap) H3 λb H4 =>
    if b=true then te (ws.map some++lH σ cap) H4 λy H5=>N (ys++[y]) H5 else N ys H4):=by
 refine⟨λi m ys H=>m=n-i/\i<=n/\Pv i ys H,⟨n,by simp,bE _,h0⟩,?_⟩
 rintro i m ys H2 ⟨rfl,hi,p⟩
 have hy:=hl i ys H2 hi p
 by_cases ji:i<n
 ·refine .inr ⟨ji,Pv (i+1),λBO H' r=>?_,λx H3 y=>?_⟩
  ·have h2:=hl (i+1) BO H' ji r
   exact⟨by omega,n-(i+1),by omega,rfl,ji,r⟩
  ·obtain⟨e,y⟩:=y
   subst e;subst y
   exact hs i ys _ ji p
 ·have e:i=n:=by omega
  subst e
  exact .inl ⟨aA _,by omega,hd ys H2 p⟩
theorem Inv.qu {X:Cx} {pins:List (ah × d6)} {σ:St} {H:Hp} {s:ai} {h':bT} {t':Nat} {ch:List ah} (I:Inv X pins σ H s) (hf:∀ b∈ch,m4 X pins H b) (k:∀ b o,b ∉ ch->s.heap.get? b=some o->h'.get? b=some o) :
  Inv X pins σ H { s with heap:=h',toks:=t' }:=by
 have XN:∀ b u,H b=some u->b ∉ ch:=λb u e z=>by rw[(hf b z).1] at e;cases e
 refine I.step (g':=s.gens) (d':=s.drawn) (ch:=ch) (λb hb=>?_) (λb o _ _ hc e _=>k b o hc e) (λb o _ _ hc e _=>⟨o.slots,k b o hc e⟩) (λ_ _ _ _ n=>n)
  (λb o hc e=>⟨o,k b o hc e⟩) (λ_ _ e=>e) (λ_ _ _ e=>e) (λb ps e=>⟨#[],by rw[e];simp⟩) (λm hm=>?_) (λb u e=>?_) I.bare
 ·obtain⟨_,h1,_,h3,h4,h5⟩:=hf b hb
  exact⟨h3,h1,h4,h5⟩
 ·obtain⟨o,es,ep,ho,r⟩:=hm
  exact⟨o,es,ep,k _ o (λz=>(hf _ z).2.1 rfl) ho,r⟩
 ·refine (I.cU b u e).xg (λc v hc q=>k c v ?_ q) (λ_ q=>q) λ_ _ q=>q
  rcases hc with z | z
  ·rw[z];exact XN b u e
  ·exact XN c _ z
theorem Inv.adopt {X:Cx} {pins:List (ah × d6)} {σ:St} {H:Hp} {s:ai} {T:ah} {o:HO} (I:Inv X pins σ H s) (hf:m4 X pins H T) (new:gj X.prog X.w (upd H T o) s.heap T o):Inv X pins σ (upd H T o) s:=by
 obtain⟨h0,h1,h2,h3,h4,h5⟩:=hf
 refine I.step (h':=s.heap) (g':=s.gens) (d':=s.drawn) (t':=s.toks) (ch:=[T]) (λb hb=>?_) (λb u _ _ _ e _=>e) (λb u _ _ _ e _=>⟨u.slots,e⟩) (λb u hc e n=>?_)
  (λb u _ e=>⟨u,e⟩) (λb xs e=>?_) (λb u v e=>?_) (λb ps e=>⟨#[],?_⟩) (λm hm=>hm) (I.cU.adopt h0 new) I.bare
 ·have e:b=T:=by simpa using hb
  subst e
  exact⟨h3,h1,h4,h5⟩
 ·rw[bB (λz=>hc (by simp[z]))];exact n
 ·rw[bB (cr e h0)];exact e
 ·rw[bB (cr e h0)];exact e
 ·rw[bB (cr e h0),e];simp
def VE (K:ak) (a:ah):It :=
 ⟨λi H=>∃ xs x,bI K H a xs/\xs[i]?=some x,λi H v H'=>∃ T x,v=.ref T/\H T=none/\(∀ xs,bI K H a xs->xs[i]?=some x)/\H'=upd H T (.tup [.int (i:Nat),x]),λi H=>∃ xs,bI K H a xs/\xs.length<=i⟩
theorem IR {P:aO} {w:bD} {K:ak} {elts:List bR} {k:Nat} {pos:gR} (a e it:ah) (kx:e≠it):Turn P w K (.Tuple elts k pos) (VE K a) [e,it] e (λi h=>(∃ old,IsEnum h e it (i:Nat) old)/\h.IsListIter it a i) where
 mem:=by simp
 obj := λi h st b hb=>by
  obtain⟨⟨old,s1⟩,o,e1,c,d⟩:=st
  rcases aE.mp hb with z | z
  ·subst z
   exact⟨_,s1,λv z=>by cases z⟩
  ·have z:b=it:=by simpa using z
   subst z
   exact⟨o,e1,λv z=>by rw[d] at z;cases z⟩
 keep:=λi h h' st k=>⟨by obtain⟨⟨old,s1⟩,_⟩:=st;exact⟨old,k e (by simp) _ s1⟩,st.2.at λo q=>k it (by simp) o q⟩
 item:=by
  intro X hP hw hK hc i pins s σ H E I hf st hg
  subst hP hw hK
  obtain⟨xs,x,hq,hx⟩:=hg
  obtain⟨cH,rv,p,hz⟩:=I.list hq
  obtain⟨u,hu,ru⟩:=rv.get hx
  obtain⟨⟨old,s1⟩,s2⟩:=st
  have le:e<s.heap.objs.size:=aD s1
  refine wpAny_pyNext_enum_item s1 s2 p.isList (x:=u) (by simpa using hu) kx λh' ho QL ht hsz kp=>?_
  refine⟨_,rfl,wpAny_letOwnedTupleGo_enum ho λh2 he2 sb=>?_⟩
  have I1:Inv X pins σ H { s with heap:=h2,toks:=s.toks+1 }:=I.qu (t':=s.toks+1) (ch:=[e,it]) hf λb o hb q=>by
   have Nq:b≠e:=λz=>hb (by simp[z])
   have hbi:b≠it:=λz=>hb (by simp[z])
   exact (sb.2 b Nq).trans (kp b o Nq hbi q)
  have hT:h2.get? s.heap.objs.size=some { cls:=.type "tuple",data:=.seq #[gY (i:Nat) s.toks,u] }:=(sb.2 _ (bY le)).trans ht
  have QI:H s.heap.objs.size=none:=I.cU.fresh (aA _)
  have vs2:Vals [V.int (i:Nat),x] [gY (i:Nat) s.toks,u]:=.cons ⟨s.toks,rfl⟩ (.cons ru .nil)
  have I2:=I1.adopt (o:=.tup [.int (i:Nat),x]) (I.vg (aA _) QI) ⟨(by show 2<=aL;decide),[gY (i:Nat) s.toks,u],vs2,⟨_,hT,rfl,_,rfl⟩⟩
  have en:IsEnum h2 e it ((i+1:Nat):Int) u:=by
   have e1:((i+1:Nat):Int)=((i:Nat):Int)+1:=by omega
   rw[e1];exact he2
  refine⟨.ref s.heap.objs.size,_,I2,rfl,⟨_,x,rfl,QI,λys hy=>by rw[I.l7 hy hq];exact hx,rfl⟩,⟨⟨u,en⟩,QL.at λo q=>(sb.2 it (cS kx)).trans q⟩,λb hb=>?_⟩
  rw[bB (λz=>?_)]
  ·exact (hf b hb).1
  ·subst z
   rcases aE.mp hb with z | z
   ·exact absurd z (bY le)
   ·have z:s.heap.objs.size=it:=by simpa using z
    obtain⟨o,q,_⟩:=s2
    exact absurd z (bY (aD q))
 done:=by
  intro X hP hw hK hc i pins s σ H E I hf st hg
  subst hP hw hK
  obtain⟨xs,hq,hx⟩:=hg
  obtain⟨cH,rv,p,hz⟩:=I.list hq
  obtain⟨⟨old,s1⟩,s2⟩:=st
  have hl:=rv.length
  refine wpAny_pyNext_enum_end (I.ok.hd hc) s1 s2 p.isList (by simp;omega) λh' eb=>⟨rfl,?_⟩
  exact I.qu (t':=s.toks) (ch:=[it]) (λb hb=>hf b (bc _ hb)) λb o hb q=>eb b o (λz=>hb (by simp[z])) q
 self:=λ_ _ _ _ _ st h=>aaD st.1.choose_spec h
def Xv (K:ak) (ta:TA):TI:=λσ H R=>ta σ H λvs H1=>∃ a,vs=[.ref a]/\(∃ xs,bI K H1 a xs)/\R (VE K a) H1
theorem AV {X:Cx} {K:ak} {elts:List bR} {k:Nat} {rM:gR} {l:bR} {ta:TA} {p pos:gR} (hK:X.K=K) (hg:Gl X "enumerate") (hm:X.mg "enumerate" = none) (ha:PA X [l] ta) (hs:aV [l] X.env=[(false,dU l X.env)]:=by rfl) :
  PI X (.Tuple elts k rM) (.Call (.Name "enumerate" p) [l] [] pos) (Xv K ta):=by
 subst hK
 intro pins s σ H R I h
 refine Ru (lq I hg hm PyProof.Rows.boot_enumerate (dy (fq (ha pos pins s σ H _ I h) λus s1 c6=>?_) hs rfl))
 obtain⟨vs,H1,I1,r1,q1⟩:=c6
 obtain⟨a,rfl,⟨xs,hq⟩,q⟩:=q1
 obtain⟨u,rfl,ru⟩:=a0h r1
 cases ru
 obtain⟨cH,rv,p,hz⟩:=I1.list hq
 refine call_enumerate_list p.isList λh' he hi hsz kp=>?_
 refine aaD he ?_
 refine⟨s1.heap.objs.size+1,[s1.heap.objs.size+1,s1.heap.objs.size],_,_,H1,rfl,I1.kept (t':=s1.toks) kp,IR a _ _ (px _),⟨⟨_,he⟩,hi⟩,λb hb=>?_,q⟩
 have Aw:s1.heap.objs.size<=b:=by
  rcases aE.mp hb with z | z
  ·rw[z];exact jj _
  ·have z:b=s1.heap.objs.size:=by simpa using z
   rw[z];exact aA _
 exact I1.vg Aw (I1.cU.fresh Aw)
theorem wb {K:ak} {a:ah} {xs:List V} {g:TG} {tb:TS} {D:Ends} {σ:St} {H:Hp} (Pv:Nat->St->Hp->Prop) (h0:Pv 0 σ H) (hl:∀ i σ H,i<=xs.length->Pv i σ H->bI K H a xs)
  (hs:∀ i x σ H T,xs[i]?=some x->Pv i σ H->H T=none->g (.ref T) σ (upd H T (.tup [.int (i:Nat),x])) λσ2 H2=>tb { D with nx:=Pv (i+1),ct:=Pv (i+1),bk:=D.nx } σ2 H2) (hd:∀ σ H,Pv xs.length σ H->D.nx σ H) :
  ∃ W:Nat->Nat->St->Hp->Prop,(∃ m,W 0 m σ H)/\∀ i m σ H,W i m σ H ->
   ((VE K a).stop i H/\D.nx σ H)\/((VE K a).go i H/\∃ N:St->Hp->Prop,(∀ σ' H',N σ' H'->∃ m',m'<m/\W (i+1) m' σ' H')/\∀ x H',(VE K a).Dv i H x H'->g x σ H' λσ2 H2=>tb { D with nx:=N,ct:=N,bk:=D.nx } σ2 H2):=by
 refine⟨λi m σ H=>m=xs.length-i/\i<=xs.length/\Pv i σ H,⟨xs.length,by simp,bE _,h0⟩,?_⟩
 rintro i m σ H ⟨rfl,hi,p⟩
 have q:=hl i σ H hi p
 by_cases ji:i<xs.length
 ·refine .inr ⟨⟨xs,xs[i],q,by simp[ji]⟩,Pv (i+1),λσ' H' p'=>⟨xs.length-(i+1),by omega,rfl,ji,p'⟩,λx H' y=>?_⟩
  obtain⟨T,z,rfl,hT,y,rfl⟩:=y
  exact hs i z σ _ T (y xs q) p hT
 ·have e:i=xs.length:=by omega
  subst e
  exact .inl ⟨⟨xs,q,aA _⟩,hd σ H p⟩
end L2
namespace L2
open PySem
theorem zg {α β:Type} {F:α->β->Prop}:∀ {xs:List α} {ys:List β},xs.length=ys.length->(∀ (i:Nat) x y,xs[i]?=some x->ys[i]?=some y->F x y)->dP F xs ys
 | [],[],_,_=>.nil
 | x::xs,y::ys,hl,h=>.cons (h 0 x y rfl rfl) (zg (by simpa using hl) λi a b ha hb=>h (i+1) a b (by simpa using ha) (by simpa using hb))
 | [],_::_,hl,_=>by cases hl
 | _::_,[],hl,_=>by cases hl
structure Cells (H:Hp) (r:ah) (as:List ah) (Ls:List (List Int)):Prop where
 hd:H r=some (.lst (as.map V.ref))
 nd:as.Nodup
 rn:r ∉ as
 len:as.length=Ls.length
 cell:∀ (i:Nat) a,as[i]?=some a->∃ L,Ls[i]?=some L/\H a=some (.lst (L.map V.int))
theorem qm {α:Type} {as:List α} (h:as.Nodup) {i j:Nat} {a:α} (h1:as[i]?=some a) (h2:as[j]?=some a):i=j:=by
 obtain⟨l1,e1⟩:=ag.mp h1
 obtain⟨l2,e2⟩:=ag.mp h2
 exact (Qq h).mp (e1.trans e2.symm)
section
variable {H H':Hp} {r:ah} {as:List ah} {Ls:List (List Int)}
theorem Cells.up (c:Cells H r as Ls) (s:bh H H'):Cells H' r as Ls:=⟨s _ _ c.hd,c.nd,c.rn,c.len,λi a h=>by
 obtain⟨L,h1,h2⟩:=c.cell i a h
 exact⟨L,h1,s _ _ h2⟩⟩
theorem Cells.put (c:Cells H r as Ls) {i:Nat} {a:ah} (h:as[i]?=some a) (L:List Int):Cells (upd H a (.lst (L.map V.int))) r as (Ls.set i L):=by
 refine⟨?_,c.nd,c.rn,by rw[fH];exact c.len,λj b hb=>?_⟩
 ·rw[bB (λz=>c.rn (by rw[z];exact am h))];exact c.hd
 ·by_cases e:j=i
  ·subst e
   rw[h] at hb;cases hb
   refine⟨L,?_,ar⟩
   have:=(ag.mp h).1
   rw[cX (by rw[← c.len];exact this)]
  ·obtain⟨L',h1,h2⟩:=c.cell j b hb
   refine⟨L',by rw[cW (cS e)];exact h1,?_⟩
   rw[bB (λz=>e (qm c.nd (a:=a) (by rw[← z];exact hb) h))];exact h2
theorem Cells.at (c:Cells H r as Ls) {z:Int} (h0:0<=z) (h1:z<Ls.length):∃ a L,as[z.toNat]?=some a/\Ls[z.toNat]?=some L/\o6 (as.map V.ref) z=some (.ref a)/\H a=some (.lst (L.map V.int)):=by
 obtain⟨a,ha⟩:=abx (xs:=as) h0 (by rw[c.len];exact h1)
 obtain⟨L,h2,h3⟩:=c.cell _ a ha
 exact⟨a,L,ha,h2,gq h0 (by rw[aB,ha];rfl),h3⟩
end
end L2
namespace L2
open PySem PySem.Spec PyProof.Rows
section
variable {X:Cx}
theorem wK {K:ak} {e:bR} {ta:TA} {p1 p2 Ue AX:gR} (hK:X.K=K) (hc:X.calm=true) (hg:Gl X "sorted") (hm:X.mg "sorted" = none) (Kv:Gl X "set") (WU:X.mg "set" = none) (he:PA X [e] ta)
  (h1:aV [e] X.env=[(false,dU e X.env)]:=by rfl) (h2:aV [.Call (.Name "set" p2) [e] [] AX] X.env=[(false,dU (.Call (.Name "set" p2) [e] [] AX) X.env)]:=by rfl) :
  PE X (.Call (.Name "sorted" p1) [.Call (.Name "set" p2) [e] [] AX] [] Ue) (Q9 K ta):=by subst hK;exact x6 hc hg hm Kv WU he h1 h2
end
theorem K5:∀ {xs ys:List Int},xs.Pairwise (·<·)->ys.Pairwise (·<·)->(∀ k,k∈xs↔k∈ys)->xs=ys
 | [],[],_,_,_=>rfl
 | [],y::ys,_,_,h=>by have:=(h y).mpr aP;cases this
 | x::xs,[],_,_,h=>by have:=(h x).mp aP;cases this
 | x :: xs,y::ys,hx,hy,h=>by
  obtain⟨a1,a2⟩:=nI.mp hx
  obtain⟨b1,b2⟩:=nI.mp hy
  have e:x=y:=by
   rcases aE.mp ((h x).mp aP) with z | z
   ·exact z
   ·rcases aE.mp ((h y).mpr aP) with z2 | z2
    ·exact z2.symm
    ·have:=b1 x z;have:=a1 y z2;omega
  subst e
  have:xs=ys:=K5 a2 b2 λk=>by
   constructor
   ·intro hk
    rcases aE.mp ((h k).mp (bc _ hk)) with z | z
    ·subst z;have:=a1 _ hk;omega
    ·exact z
   ·intro hk
    rcases aE.mp ((h k).mpr (bc _ hk)) with z | z
    ·subst z;have:=b1 _ hk;omega
    ·exact z
  rw[this]
section
variable {X:Cx}
theorem Hn (hc:X.calm=true):jG X (.builtin "min") (λxs H Q=>∃ (a:ah) (ks:List Int),xs=[.ref a]/\bI X.K H a (ks.map V.int)/\ks≠[]/\∀ M,M∈ks->(∀ k∈ks,M<=k)->Q (.int M) H):=by
 intro pins s σ H xs us Q I r h
 obtain⟨a,ks,rfl,ha,kx,q⟩:=h
 obtain⟨u,rfl,ru⟩:=a0h r
 cases ru
 obtain⟨cH,rv,pl,hz⟩:=I.list ha
 have hi:cv cH ks:=a0c rv
 obtain⟨xs,e⟩:=hi.allInts.items
 have yS:ks=xs.toList.map (·.1):=by rw[← hi.numsOf,← nums_intItems,← e]
 have hsz:0<xs.size:=by
  have h3:0<ks.length:=b7.mpr kx
  rw[yS,aj,bj] at h3;exact h3
 have hl:=pl.isList
 rw[e] at hl
 refine min_intList (I.ok.hd hc) hl hsz λv h' tk hv hk=>?_
 obtain⟨t,rfl⟩:=intItems_at hv
 obtain⟨h1,h2⟩:=argBest_lt (numAt xs) (xs.size-1)
 refine⟨.int _,H,I.kept (t':=tk) hk,⟨t,rfl⟩,q _ ?_ λk hk=>?_⟩
 ·rw[yS,TU];exact RN (by rw[aj,bj];omega)
 ·rw[yS] at hk
  obtain⟨j,hj,rfl⟩:=RO hk
  rw[aj,bj] at hj
  rw[← TU];exact h2 j (by omega)
end
def Qo (K:ak) (a b:ah):It :=
 ⟨λi H=>∃ xs ys x y,bI K H a xs/\bI K H b ys/\xs[i]?=some x/\ys[i]?=some y,
  λi H v H'=>∃ T x y,v=.ref T/\H T=none/\(∀ xs,bI K H a xs->xs[i]?=some x)/\(∀ ys,bI K H b ys->ys[i]?=some y)/\H'=upd H T (.tup [x,y]),
  λi H=>∃ xs ys,bI K H a xs/\bI K H b ys/\(xs.length<=i\/ys.length<=i)⟩
structure VR (a b z TI TO i1 i2:ah) (i:Nat) (h:bT):Prop where
 zz:nZ h z TI TO .none
 ti:IsPair h TI (.ref i1) (.ref i2)
 to:∃ p q,IsPair h TO p q
 s1:h.IsListIter i1 a i
 s2:h.IsListIter i2 b i
theorem ML {P:aO} {w:bD} {K:ak} {elts:List bR} {k:Nat} {pos:gR} (a b z TI TO i1 i2:ah) (ap:ZipApart z TI TO i1 i2 a b):Turn P w K (.Tuple elts k pos) (Qo K a b) [z,TI,TO,i1,i2] z (VR a b z TI TO i1 i2) where
 mem:=by simp
 obj:=λi h st c hc=>by
  obtain⟨zz,ti,⟨p,q,to⟩,⟨o1,e1,c1,d1⟩,⟨o2,e2,c2,d2⟩⟩:=st
  simp only [aE,dC,or_false] at hc
  rcases hc with rfl | rfl | rfl | rfl | rfl
  ·exact⟨_,zz,λv z=>by cases z⟩
  ·exact⟨_,ti,λv z=>by cases z⟩
  ·exact⟨_,to,λv z=>by cases z⟩
  ·exact⟨o1,e1,λv z=>by rw[d1] at z;cases z⟩
  ·exact⟨o2,e2,λv z=>by rw[d2] at z;cases z⟩
 keep:=λi h h' st k=>by
  obtain⟨zz,ti,⟨p,q,to⟩,s1,s2⟩:=st
  exact⟨k z (by simp) _ zz,k TI (by simp) _ ti,⟨p,q,k TO (by simp) _ to⟩,s1.at λo q=>k i1 (by simp) o q,s2.at λo q=>k i2 (by simp) o q⟩
 item:=by
  intro X hP hw hK hc i pins s σ H E I hf st hg
  subst hP hw hK
  obtain⟨xs,ys,x,y,hq,KL,hx,hy⟩:=hg
  obtain⟨cH,rv,p,hz⟩:=I.list hq
  obtain⟨l6,II,p2,Ib⟩:=I.list KL
  obtain⟨u,hu,ru⟩:=rv.get hx
  obtain⟨u2,CC,Ul⟩:=II.get hy
  obtain⟨zz,ti,⟨pp,qq,to⟩,s1,s2⟩:=st
  have lz:z<s.heap.objs.size:=aD zz
  refine wpAny_pyNext_zip_item ap zz ti to s1 s2 p.isList p2.isList (x:=u) (y:=u2) (by simpa using hu) (by simpa using CC) λh' zo to' Vp s2' ht hsz kp=>?_
  refine⟨_,rfl,Jy zo λh2 zz2 sb=>?_⟩
  have I1:Inv X pins σ H { s with heap:=h2 }:=I.qu (t':=s.toks) (ch:=[z,TI,TO,i1,i2]) hf λc o hc q=>by
   simp only [aE,dC,or_false,not_or] at hc
   exact (sb.2 c hc.1).trans (kp c o hc.1 hc.2.2.1 hc.2.2.2.1 hc.2.2.2.2 q)
  have hT:h2.get? s.heap.objs.size=some { cls:=.type "tuple",data:=.seq #[u,u2] }:=(sb.2 _ (bY lz)).trans ht
  have QI:H s.heap.objs.size=none:=I.cU.fresh (aA _)
  have I2:=I1.adopt (o:=.tup [x,y]) (I.vg (aA _) QI) ⟨(by show 2<=aL;decide),[u,u2],.cons ru (.cons Ul .nil),⟨_,hT,rfl,_,rfl⟩⟩
  have hti:IsPair h2 TI (.ref i1) (.ref i2):=(sb.2 TI ap.TIz).trans (kp TI _ ap.TIz ap.TITO ap.TIi1 ap.TIi2 ti)
  refine⟨.ref s.heap.objs.size,_,I2,rfl,⟨_,x,y,rfl,QI,(λzs OE=>by rw[I.l7 OE hq];exact hx),(λzs OE=>by rw[I.l7 OE KL];exact hy),rfl⟩,
   ⟨zz2,hti,⟨u,u2,(sb.2 TO ap.TOz).trans to'⟩,Vp.at λo q=>(sb.2 i1 ap.i1z).trans q,s2'.at λo q=>(sb.2 i2 ap.i2z).trans q⟩,λc hc=>?_⟩
  rw[bB (λe=>?_)]
  ·exact (hf c hc).1
  ·subst e
   obtain⟨o1,e1,_⟩:=s1
   obtain⟨o2,e2,_⟩:=s2
   simp only [aE,dC,or_false] at hc
   rcases hc with h | h | h | h | h
   ·exact absurd h (bY lz)
   ·exact absurd h (bY (aD ti))
   ·exact absurd h (bY (aD to))
   ·exact absurd h (bY (aD e1))
   ·exact absurd h (bY (aD e2))
 done:=by
  intro X hP hw hK hc i pins s σ H E I hf st hg
  subst hP hw hK
  obtain⟨xs,ys,hq,KL,hx⟩:=hg
  obtain⟨cH,rv,p,hz⟩:=I.list hq
  obtain⟨l6,II,p2,Ib⟩:=I.list KL
  have hl:=rv.length
  have qP:=II.length
  obtain⟨zz,ti,⟨pp,qq,to⟩,s1,s2⟩:=st
  refine wpAny_pyNext_zip_end (I.ok.hd hc) ap zz ti to s1 s2 p.isList p2.isList ?_ λh' kp=>⟨rfl,?_⟩
  ·rcases hx with h | h
   ·exact .inl (by simp;(clear hc hf hz Ib qP;omega))
   ·exact .inr (by simp;(clear hc hf hz Ib hl;omega))
  ·exact I.qu (t':=s.toks) (ch:=[z,TI,TO,i1,i2]) hf λc o hc q=>by
    simp only [aE,dC,or_false,not_or] at hc
    exact kp c o hc.1 hc.2.2.1 hc.2.2.2.1 hc.2.2.2.2 q
 self:=λ_ _ _ _ _ st h=>rP st.zz h
theorem Jb (n a b:Nat) (la:a<n) (lb:b<n):ZipApart (n+4) (n+2) (n+3) n (n+1) a b:=by
 constructor
 all_goals (intro h;have h':(_:Nat)=_:=h;omega)
def adG (K:ak) (ta:TA):TI:=λσ H R=>ta σ H λvs H1=>∃ a b,vs=[.ref a,.ref b]/\(∃ xs,bI K H1 a xs)/\(∃ ys,bI K H1 b ys)/\R (Qo K a b) H1
theorem wL {X:Cx} {K:ak} {elts:List bR} {k:Nat} {rM:gR} {l l2:bR} {ta:TA} {p pos:gR} (hK:X.K=K) (hg:Gl X "zip") (hm:X.mg "zip" = none) (ha:PA X [l,l2] ta) (hs:aV [l,l2] X.env=(false,dU l X.env)::aV [l2] X.env:=by rfl)
  (Vi:(d9 pos (aV [l2] X.env)).any (·.1)=false:=by rfl) :
  PI X (.Tuple elts k rM) (.Call (.Name "zip" p) [l,l2] [] pos) (adG K ta):=by
 subst hK
 intro pins s σ H R I h
 refine Ru (lq I hg hm xM (dy (fq (ha pos pins s σ H _ I h) λus s1 c6=>?_) hs Vi))
 obtain⟨vs,H1,I1,r1,q1⟩:=c6
 obtain⟨a,b,rfl,⟨xs,hq⟩,⟨ys,KL⟩,q⟩:=q1
 cases r1 with
 | cons ra rr =>
  cases ra
  obtain⟨u,rfl,ru⟩:=a0h rr
  cases ru
  obtain⟨cH,rv,p,hz⟩:=I1.list hq
  obtain⟨l6,II,p2,Ib⟩:=I1.list KL
  have la:a<s1.heap.objs.size:=by obtain⟨o,e,_⟩:=p.isList;exact aD e
  have lb:b<s1.heap.objs.size:=by obtain⟨o,e,_⟩:=p2.isList;exact aD e
  refine call_zip_2 p.isList p2.isList λh' zz ti to i1 i2 hsz kp=>?_
  refine rP zz ?_
  refine⟨s1.heap.objs.size+4,[s1.heap.objs.size+4,s1.heap.objs.size+2,s1.heap.objs.size+3,s1.heap.objs.size,s1.heap.objs.size+1],_,_,H1,rfl,I1.kept (t':=s1.toks) kp,ML a b _ _ _ _ _ (Jb _ a b la lb),⟨zz,ti,⟨_,_,to⟩,i1,i2⟩,λc hc=>?_,q⟩
  have Kq:s1.heap.objs.size<=c:=by
   simp only [aE,dC,or_false] at hc
   rcases hc with rfl | rfl | rfl | rfl | rfl
   ·exact d4 _ _
   ·exact d4 _ _
   ·exact d4 _ _
   ·exact aA _
   ·exact d4 _ _
  exact I1.vg Kq (I1.cU.fresh Kq)
theorem vA {K:ak} {a b:ah} {xs ys:List V} {g:TG} {tb:TS} {D:Ends} {σ:St} {H:Hp} (hlen:xs.length=ys.length) (Pv:Nat->St->Hp->Prop) (h0:Pv 0 σ H) (hl:∀ i σ H,i<=xs.length->Pv i σ H->bI K H a xs/\bI K H b ys)
  (hs:∀ i x y σ H T,xs[i]?=some x->ys[i]?=some y->Pv i σ H->H T=none->g (.ref T) σ (upd H T (.tup [x,y])) λσ2 H2=>tb { D with nx:=Pv (i+1),ct:=Pv (i+1),bk:=D.nx } σ2 H2) (hd:∀ σ H,Pv xs.length σ H->D.nx σ H) :
  ∃ W:Nat->Nat->St->Hp->Prop,(∃ m,W 0 m σ H)/\∀ i m σ H,W i m σ H ->
   ((Qo K a b).stop i H/\D.nx σ H)\/((Qo K a b).go i H/\∃ N:St->Hp->Prop,(∀ σ' H',N σ' H'->∃ m',m'<m/\W (i+1) m' σ' H')/\∀ x H',(Qo K a b).Dv i H x H'->g x σ H' λσ2 H2=>tb { D with nx:=N,ct:=N,bk:=D.nx } σ2 H2):=by
 refine⟨λi m σ H=>m=xs.length-i/\i<=xs.length/\Pv i σ H,⟨xs.length,by simp,bE _,h0⟩,?_⟩
 rintro i m σ H ⟨rfl,hi,p⟩
 obtain⟨q,q2⟩:=hl i σ H hi p
 by_cases ji:i<xs.length
 ·refine .inr ⟨⟨xs,ys,xs[i],ys[i]'(by omega),q,q2,by simp[ji],by simp⟩,Pv (i+1),λσ' H' p'=>⟨xs.length-(i+1),by (clear hlen hl hs hd hi;omega),rfl,ji,p'⟩,λx H' y=>?_⟩
  obtain⟨T,u,v,rfl,hT,e1,e2,rfl⟩:=y
  exact hs i u v σ _ T (e1 xs q) (e2 ys q2) p hT
 ·have e:i=xs.length:=by (clear hlen hl hs hd;omega)
  subst e
  exact .inl ⟨⟨xs,ys,q,q2,.inl (aA _)⟩,hd σ H p⟩
section
variable {X:Cx}
end
section
variable {P:aO} {w:bD} {A:bp} {E:ae->ai->Prop} {s:ai}
end
end L2
namespace L2
open PySem PySem.Spec PySem.W PyProof.Rows PySem.Builtin PySem.Builtin.ObjectAttr PySem.Builtin.Getset_descriptor
structure Hd (K:Frag) (C:ah):Prop where
 ga:findIn K (.ref C) "__getattribute__" = some (some (.builtin "BaseException.__getattribute__"))
 gn:findIn K (.ref C) "__getattr__" = some none
 cl:findIn K (.ref C) "__class__" = some (some (.builtin "object.__class__"))
 sp:specialIn K (.builtin "object.__class__") "__get__" = some (some (.builtin "getset_descriptor.__get__"))
 tk:takesIn K (.builtin "object.__class__")=some true
 mo:mroIn K C (.type "object")=some true
 me:mroIn K C (.type "BaseException")=some true
 ci:(clsIn K C).isSome=true
def uZ (e C:ah) (h:bT):Prop:=∃ (o:d6) (vs:Array ae),h.get? e=some o/\o.cls=.ref C/\o.data=.fields vs
theorem uZ.ty {e C:ah} {h:bT} {M:tH} (x:uZ e C h):Looks M h (typeOf (.ref e)) (.ref C):=by
 obtain⟨o,vs,h1,h2,_⟩:=x
 rw[← h2]
 exact (Looks.ld h1).andThen .now
theorem uZ.keeps {e C:ah} {h h':bT} (x:uZ e C h) (k:∀ o,h.get? e=some o->h'.get? e=some o):uZ e C h':=let ⟨o,vs,h1,h2⟩:=x;⟨o,vs,k o h1,h2⟩
section
variable {prog:aO} {w:bD} {A:bp} {E:ae->ai->Prop} {s:ai} {K:Frag} {x C:ah}
theorem GR {M:tH} {h:bT} (Z:Hd K C) (X:K.In h):Looks M h (Qh (.ref x) (.ref C) "__class__") (.bind (.builtin "getset_descriptor.__get__") (.builtin "object.__class__")):=by
 have L3:=looks_takesIn (M:=M) X Z.tk
 have L4:Looks M h (Qg (some (.builtin "object.__class__")) (some (.builtin "getset_descriptor.__get__"))) (some (.builtin "getset_descriptor.__get__",.builtin "object.__class__")):=L3.andThen .now
 have L2:Looks M h (Qi (some (.builtin "object.__class__"))) (some (.builtin "getset_descriptor.__get__")):=looks_specialIn X Z.sp
 exact (looks_findIn X Z.cl).andThen (L2.andThen (L4.andThen (Looks.tag .now)))
theorem US {tp:ae} {R:qF->ai->Prop} (Z:Hd K C) (X:K.In s.heap) (I:uZ x C s.heap) (h:R (.ok (.ret (.ref C))) s) :
  codeAny (aS prog w) A (.call (.builtin "getset_descriptor.__get__") ⟨[.builtin "object.__class__",.ref x,tp],[]⟩) R s:=by
 obtain⟨hp,gs,dr,tk,os⟩:=s
 have T0:=I.ty (M:=aS prog w)
 have T1:=looks_mroIn (M:=aS prog w) X Z.mo
 refine vd KF.slot_gs.plain KF.entry_gs ?_
 refine KF.slot_gs.check _ _ _ _ _ _ _ _ KF.type_class (KF.args_gs _ _ _) ?_
 unfold eF.«getset_descriptor.__get__»
 unfold descrGet
 rw[dga_obj]
 apply aa
 apply aq
 unfold descrGetter descrCheckInstance
 unfold descrNameAndClass isInstance
 simp only [KF.owner_class]
 repeat lk
 constructor
 ·exact M7 _ (by decide +kernel)
 ·apply dF KF.entry_class
  unfold eF.«object.__class__»
  unfold shownTypeOf
  repeat lk
  exact h
theorem MW {nv:ae} {M:tH} {Q:Unit->ai->Prop} (Z:Hd K C) (X:K.In s.heap) (I:uZ x C s.heap) (h:Q () s):wpAny M A (rh "BaseException.__getattribute__" ⟨[.ref x,nv],[]⟩) Q E s:=by
 obtain⟨hh,g,d,t,os⟩:=s
 have L0:=I.ty (M:=M)
 have L1:=looks_mroIn (M:=M) X Z.me
 have k1:builtinKind "BaseException.__getattribute__" = some .slot:=by decide +kernel
 have k2:splitId "BaseException.__getattribute__" = some ("BaseException","__getattribute__"):=by decide +kernel
 have k3:=F.args_bexc_ga (.ref x) nv
 simp only [rh,k1,k2]
 refine aa ?_
 unfold isInstance
 repeat (first | with_reducible refine L0.at ?_ | with_reducible refine L1.at ?_ | wp_step)
 exact h
theorem Qb {tk:Nl} {R:qF->ai->Prop} (Z:Hd K C) (X:K.In s.heap) (I:uZ x C s.heap) (h:R (.ok (.ret (.ref C))) s) :
  codeAny (aS prog w) A (.call (.builtin "BaseException.__getattribute__") ⟨[.ref x,.str "__class__" tk],[]⟩) R s:=by
 refine vd NL.ga.plain F.entry_bexc_ga (MW Z X I ?_)
 obtain⟨hh,g,d,t,os⟩:=s
 have L0:=I.ty (M:=aS prog w)
 have L3:=GR (M:=aS prog w) (x:=x) Z X
 unfold eF.«object.__getattribute__»
 repeat (any_goals (first | assumption | with_reducible refine L0.at ?_ | with_reducible refine L3.at ?_ | wp_step))
 refine US Z X I ?_
 repeat (any_goals (first | assumption | wp_step))
theorem MX {Q:Option ae->ai->Prop} (Z:Hd K C) (X:K.In s.heap) (I:uZ x C s.heap) (h:Q (some (.ref C)) { s with toks:=s.toks+1 }):wpAny (aS prog w) A (Sh (.ref x) "__class__") Q E s:=by
 obtain⟨hh,g,d,t,os⟩:=s
 have L0:=I.ty (M:=aS prog w)
 have L1:=looks_findIn (M:=aS prog w) X Z.ga
 have L2:=looks_findIn (M:=aS prog w) X Z.gn
 have L3:=GR (M:=aS prog w) (x:=x) Z X
 unfold Sh getAttrBy? getAttrBy
 refine aa (wpAny_mkText (aa (kI (db (aa (L0.at (aa (L1.at ?_))))))))
 have f3:=NL.ga.bind (.ref x)
 have e0:(false && onTheHeap (iJ "BaseException.__getattribute__"))=false:=rfl
 have e2:(iJ "BaseException.__getattribute__" == iJ "object.__getattribute__")=false:=by decide +kernel
 have e1:(onTheHeap (bA C) && iJ "BaseException.__getattribute__" == iJ "object.__getattribute__")=false:=by rw[e2];rfl
 repeat (any_goals (first | assumption | with_reducible refine L0.at ?_ | with_reducible refine L1.at ?_ | with_reducible refine L2.at ?_ | wp_step))
 refine Qb Z X I ?_
 repeat (any_goals (first | assumption | wp_step))
end
theorem J4 {K:Frag} {C:ah} {h:bT} (X:K.In h) (z:(clsIn K C).isSome=true):∃ (o:d6) (cd:ClassData),h.get? C=some o/\o.data=.cls cd:=by
 obtain⟨cd,hc⟩:=BG.mp z
 unfold clsIn at hc
 split at hc
 ·rename_i ho
  exact⟨_,_,X _ _ ho,rfl⟩
 ·cases hc
theorem wu {K:Frag} {e C:ah} (Z:Hd K C):KitX K (.ref e) (.ref C) (uZ e C) where
 ty:=λ_ _ _ p=>p.ty
 it:=λM h X _=>by
  obtain⟨o,cd,ho,hd⟩:=J4 X Z.ci
  intro A' Q' E' s' k q
  unfold isType loadHead
  refine aa (wpAny_loadPart (k _ _ ho) ?_)
  rw[hd]
  exact aq q
 ne:=λh tp dd cH n sl X KO=>by
  obtain⟨o,cd,ho,hd⟩:=J4 X Z.ci
  refine NJ.mpr λq=>?_
  have e':C=tp:=Value.ref.inj (beq_iff_eq.mp q)
  subst e'
  rw[ho] at KO
  cases KO
  cases hd
 ca:=λX p k=>MX Z X p k
end L2
namespace L2
open PySem PySem.Spec PyProof.Rows
theorem gj.got {P:aO} {w:bD} {H:Hp} {h:bT} {a:ah} {o:HO} (x:gj P w H h a o):∃ ob,h.get? a=some ob:=by
 cases o with
 | lst xs=>obtain⟨_,_,_,_,e⟩:=x;exact⟨_,e⟩
 | tup xs=>obtain⟨_,_,_,_,e,_⟩:=x;exact⟨_,e⟩
 | dK fv=>obtain⟨_,_,_,_,_,_,_,e,_⟩:=x;exact⟨_,e⟩
 | dT fv=>obtain⟨_,_,_,_,_,_,_,e,_⟩:=x;exact⟨_,e⟩
 | set S n=>obtain⟨_,_,_,_,e,_⟩:=x;exact⟨_,e⟩
 | ins C dx fs=>obtain⟨_,_,_,e,_⟩:=x;exact⟨_,e⟩
 | own y=>exact x
 | xd fs=>obtain⟨_,⟨_,_,_,e,_⟩,_⟩:=x;exact⟨_,e⟩
 | oO lo hi=>obtain⟨_,_,_,e⟩:=x;exact⟨_,e⟩
 | Au ob u=>exact⟨_,x.1⟩
 | vo ps=>exact⟨_,x⟩
 | met f y=>exact⟨_,x⟩
 | ext φ=>exact x.2.1
theorem o5.by {P:aO} {w:bD} {H:Hp} {h h' B:bT} (x:o5 P w H h) (hB:∀ b u,H b=some u->∃ o,B.get? b=some o) (k1:∀ b o,B.get? b=some o->h.get? b=some o) (k2:∀ b o,B.get? b=some o->h'.get? b=some o):o5 P w H h':=λa o e =>
 (x a o e).xg (λb u hb q=>by
  have ht:∃ v,H b=some v:=by
   rcases hb with rfl | hb
   ·exact⟨_,e⟩
   ·exact⟨_,hb⟩
  obtain⟨v,hv⟩:=ht
  obtain⟨ob,ho⟩:=hB b v hv
  have:=k1 b ob ho
  rw[q] at this
  cases this
  exact k2 b _ ho) (λ_ q=>q) λ_ _ q=>q
def GY (P:aO) (w:bD):JF:=λouter H s E e s'=>∃ (ea C t:ah) (H':Hp) (B:bT),e=.ref ea/\s'.os=s.os/\n5 s'.gens/\Un (qO outer) [] H H' s.heap s'.heap/\o5 P w H' s'.heap /\
 vw B outer ea (.ref C) (.ref t) s'.heap/\(∀ b o,s.heap.get? b=some o->b ∉ qO outer->∃ o',B.get? b=some o')/\(∀ b u,H' b=some u->∃ o,B.get? b=some o)/\E (.ref C) none H'
theorem AQ {P:aO} {w:bD} {X:Cx}:a0f (GY P w) X E0:=λ_ _ _ _ _ _ _ ⟨_,_,_,_,_,_,_,_,_,_,_,_,_,h⟩=>h.elim
section
variable {X:Cx} {pins:List (ah × d6)} {σ:St} {H:Hp} {s:ai}
theorem Inv.AL (I:Inv X pins σ H s) {b:ah} {o:d6} (e:X.s₀.heap.get? b=some o) (h:b ∉ X.fs):b ∉ qO X.stack:=λz=>by
 rcases aE.mp (I.xi b z) with q | q
 ·exact absurd q (aR (b8 (aD e) I.ok.above))
 ·exact h q
theorem Inv.Mx (I:Inv X pins σ H s) {b:ah} (h:b∈X.fs):b∈qO X.stack:=by
 rcases I.ok.Uw with e | ⟨e,hf⟩
 ·rw[e];exact h
 ·rw[e];unfold qO;rw[gX,hf];exact bc _ h
theorem CK {M:tH} {E2:ae->ai->Prop} {h':bT} {e C:ah} {us:List ae} {E:XK} (I:Inv X pins σ H s) (o7:X.stack=X.env::X.outer) (hf:X.env.frame=some X.env.locals) (hex:X.ex=[])
  (hm:UZ s.heap h' e (.ref C) us) (hE:E (.ref C) none H):wpAny M X.A (leaving X.env (.ref e)) (λ_ Uo=>GY X.prog X.w X.outer X.H₀ X.s₀ E (.ref e) Uo) E2 { s with heap:=h' }:=by
 have ab7:=I.stack
 have ot:∀ env∈X.stack,∀ a,env.frame=some a->a∈qO X.stack:=λenv he a ha=>nG.mpr ⟨env,he,ha⟩
 have hB1:∀ b o,s.heap.get? b=some o->b ∉ qO X.stack->(jJ s.heap (qO X.stack)).get? b=some o:=λb o q n=>Fm _ q n
 have hB0:∀ b o,(jJ s.heap (qO X.stack)).get? b=some o->s.heap.get? b=some o:=λb o q=>G5 _ q
 have QJ:=PySem.W.funFrames_hide ab7 ot
 have mH:∀ b,b ∉ X.ex:=λb z=>by rw[hex] at z;cases z
 rw[o7] at QJ
 have UK:∀ b u,H b=some u->∃ o,(jJ s.heap (qO X.stack)).get? b=some o:=λb u q=>by
  obtain⟨o,ho⟩:=(I.cU b u q).got
  exact⟨o,hB1 b o ho λz=>by rw[I.Bv b z] at q;cases q⟩
 have old:∀ b o,X.s₀.heap.get? b=some o->b ∉ X.fs->∃ o',(jJ s.heap (qO X.stack)).get? b=some o':=λb o q n=>by
  obtain⟨o',ho⟩:=I.base.there b o q (mH b)
  exact⟨o',hB1 b o' ho (I.AL q n)⟩
 refine wpAny_leaves_madeW (base:=jJ s.heap (qO X.stack)) (o7 ▸ I.ok.frames) hf hB0 (o7 ▸ QJ) hm λh2 t x1 x2 x3 x4=>?_
 have fr:∀ b o,s.heap.get? b=some o->b∈X.fs->∃ sl,h2.get? b=some { o with slots:=sl }:=λb o q hb=>by
  obtain⟨_,o',ug,hd⟩:=I.pF.mem hb
  rw[q] at ug;cases ug
  exact x4 b o (hm.keeps b o q) hd
 refine⟨e,C,t,H,_,rfl,I.os,I.bare,⟨λb o q n hb _=>?_,λb o q n hb _=>?_,λb o q n _=>I.base.free b o q n (mH b),λb o q _=>?_,I.base.tu,I.base.rq,I.base.rL⟩,I.cU.by UK hB0 x1.1,x1,old,UK,hE⟩
 ·exact x1.1 b o (hB1 b o (I.base.keep b o q n hb (mH b)) (I.AL q hb))
 ·obtain⟨sl,e1⟩:=I.base.slot b o q n hb (mH b)
  obtain⟨DH,e2⟩:=fr b _ e1 hb
  exact⟨DH,e2⟩
 ·by_cases hb:b∈X.fs
  ·obtain⟨o',e1⟩:=I.base.there b o q (mH b)
   obtain⟨DH,e2⟩:=fr b _ e1 hb
   exact⟨_,e2⟩
  ·obtain⟨o',e1⟩:=old b o q hb
   exact⟨_,x1.1 b o' e1⟩
theorem Im {M:tH} {E2:ae->ai->Prop} {e:ae} {s':ai} {E:XK} (I:Inv X pins σ H s) (o7:X.stack=X.env::X.outer) (hf:X.env.frame=some X.env.locals) (hex:X.ex=[])
  (h:GY X.prog X.w X.stack H s E e s'):wpAny M X.A (leaving X.env e) (λ_ Uo=>GY X.prog X.w X.outer X.H₀ X.s₀ E e Uo) E2 s':=by
 obtain⟨ea,C,t,H',B,rfl,os,bare,un,cU,fl,b1,b2,hE⟩:=h
 have mH:∀ b,b ∉ X.ex:=λb z=>by rw[hex] at z;cases z
 have V4:=fl
 rw[o7] at V4
 refine wpAny_leaves_onW (o7 ▸ I.ok.frames) hf V4 λh2 x1 x2=>?_
 have NC:∀ b:ah,b ∉ ([]:List ah):=λb z=>by cases z
 have old:∀ b o,X.s₀.heap.get? b=some o->b ∉ X.fs->∃ o',B.get? b=some o':=λb o q n=>by
  obtain⟨o',ho⟩:=I.base.there b o q (mH b)
  exact b1 b o' ho (I.AL q n)
 have fr:∀ b o,s'.heap.get? b=some o->b∈X.fs->∃ sl,h2.get? b=some { o with slots:=sl }:=λb o q hb=>by
  obtain⟨_,o',ug,hd⟩:=fl.2.2.1.mem (I.Mx hb)
  rw[q] at ug;cases ug
  exact x2 b o q hd
 refine⟨ea,C,t,H',B,rfl,os.trans I.os,bare,⟨λb o q n hb _=>?_,λb o q n hb _=>?_,λb o q n _=>?_,λb o q _=>?_,λb xs q=>un.tu b xs (I.base.tu b xs q),λb o u q=>un.rq b o u (I.base.rq b o u q),λb ps q=>?_⟩,cU.by b2 fl.1 x1.1,x1,old,b2,hE⟩
 ·have e1:=I.base.keep b o q n hb (mH b)
  have e2:=un.keep b o e1 (I.base.free b o q n (mH b)) (I.AL q hb) (NC b)
  obtain⟨o',e3⟩:=old b o q hb
  have e4:=fl.1 b o' e3
  rw[e2] at e4;cases e4
  exact x1.1 b _ e3
 ·obtain⟨sl,e1⟩:=I.base.slot b o q n hb (mH b)
  obtain⟨sl1,e2⟩:=un.slot b _ e1 (I.base.free b o q n (mH b)) (I.Mx hb) (NC b)
  obtain⟨DH,e3⟩:=fr b _ e2 hb
  exact⟨DH,e3⟩
 ·obtain⟨o',e1⟩:=I.base.there b o q (mH b)
  exact un.free b o' e1 (I.base.free b o q n (mH b)) (NC b)
 ·by_cases hb:b∈X.fs
  ·obtain⟨o',e1⟩:=I.base.there b o q (mH b)
   obtain⟨o2,e2⟩:=un.there b o' e1 (NC b)
   obtain⟨DH,e3⟩:=fr b _ e2 hb
   exact⟨_,e3⟩
  ·obtain⟨o',e1⟩:=old b o q hb
   exact⟨_,x1.1 b o' e1⟩
 ·obtain⟨m1,e1⟩:=I.base.rL b ps q
  obtain⟨m2,e2⟩:=un.rL b _ e1
  exact⟨m1++m2,by rw[e2,JE]⟩
end
abbrev bmV:List ae:=[.type "ValueError",.type "Exception",.type "BaseException",.type "object"]
theorem Sa {K:ak} {h:bT} {C:ah} {bmB:List ae} {newId:String} (X:K.In h) (q:nQ K C bmB newId=true) :
  ∃ bm N nm qn bs hdct sn sub ab col dd k0 k1 k2 k3 k5 mN,h.get? C=some (excClassObj nm qn C N bs bm hdct sn sub ab col dd k0 k1 k2 k3 k5 newId)/\h.Ns N mN/\mN "__init__" = none/\OwnTail h bmB bm:=by
 unfold nQ at q
 split at q
 case h_2=>cases q
 case h_1 dd cd sl ho =>
  split at q
  case h_2=>cases q
  case h_1 C' bm k0 k1 k2 k3 n k5 hm hs =>
   simp only [bU,beq_iff_eq,kJ] at q
   obtain⟨⟨⟨⟨⟨z1,z2⟩,z3⟩,z4⟩,z5⟩,z6⟩:=q
   cases z1
   cases z2
   obtain⟨nm,bs,mro,ns,qn,hd,sn,sub,ab,col,del⟩:=cd
   cases hm
   cases z3
   have es:sl=#[k0,k1,k2,k3,some (.builtin newId),k5]:=by
    cases sl with
    | mk l=>simp only at hs;rw[hs]
   cases es
   exact⟨bm,ns,nm,qn,bs,hd,sn,sub,ab,col,dd,k0,k1,k2,k3,k5,_,X _ _ ho,Heap.Ns.of_isNs (PySem.W.isNs_of_in X z5),PySem.W.nsMap_none_of_in X z5 z6,PySem.W.tail_of_in X z4⟩
def a0C (X:Cx) (E:XK):Prop:=∀ (pins:List (ah × d6)) (σ:St) (H:Hp) (s:ai) (h':bT) (e C:ah) (us:List ae),Inv X pins σ H s->UZ s.heap h' e (.ref C) us->E (.ref C) none H->X.xe (.ref e) { s with heap:=h' }
def UD (t:TA) (C:ah) (E:XK):TS:=λ_ σ H=>t σ H λvs H1=>vs.length<=aL/\E (.ref C) none H1
section
variable {X:Cx}
theorem Dd {E:XK} {x:aT} {C:ah} {e0:bR} {rest:List bR} {t:TA} {np nS pos:gR} (hr:a0C X E) (hm:X.mg x=some (.ref C)) (q:nQ X.K C bmV "ValueError.__new__" = true) (ha:PA X (e0::rest) t) (hc:X.calm=true:=by rfl) (hg:Gl X x:=by rfl)
  (Cy:(x == ("__debug__" : aT))=false:=by decide) (he:aV (e0::rest) X.env=(false,dU e0 X.env)::aV rest X.env:=by rfl) (oT:(d9 nS (aV rest X.env)).any (·.1)=false:=by rfl) :
  PS X (.Raise (some (.Call (.Name x np) (e0::rest) [] nS)) none pos) (UD t C E):=by
 intro pins s σ H D I h
 obtain⟨tl,N,nm,qn,bs,hdct,sn,sub,ab,col,dd,k0,k1,k2,k3,k5,mN,hC,hN,hni,T⟩:=Sa I.mod.NB q
 refine wpAny_Raise_call_subT (C:=C) (nm:=nm) (q:=qn) (N:=N) (bs:=bs) (bm:=tl) (hdct:=hdct) (sn:=sn) (sub:=sub) (ab:=ab) (col:=col) (dd:=dd) (k0:=k0) (k1:=k1) (k2:=k2) (k3:=k3) (k5:=k5)
  xO (mN:=mN) (T.hasType xO.hasBase) (I.ok.hd hc) ?_ hni (sF I hg hm ⟨rfl,?_⟩ Cy)
 ·rw[he]
  show (false || (d9 nS (aV rest X.env)).any (·.1))=false
  rw[oT];rfl
 have h2:=ha nS pins s σ H _ I h
 rw[he] at h2 ⊢
 refine GZ (fq h2 λus s2 c6=>?_)
 obtain⟨vs,H1,I1,r1,q1,q2⟩:=c6
 exact⟨rfl,by rw[← r1.length];exact q1,I1.bk _ _ hC,hN.keeps I1.bk,T.keeps I1.bk,λh' e hm=>hr pins σ H1 s2 h' e C us I1 hm q2⟩
end
section
variable {P:aO} {w:bD} {K:ak} {mg:aT->Option ae} {base:bT}
abbrev U7 (P:aO) (w:bD) (K:ak) (mg:aT->Option ae) (base:bT) (N:List aT) (qual:aT) (scope:ek) (f:ah) (cd:ae) (A:bp) (outer:List qA) (s:ai) (H:Hp) (E:XK):Cx:=rj (GY P w) P w K mg base N qual scope f cd A outer s H E
theorem Gj {N:List aT} {qual:aT} {scope:ek} {f:ah} {cd:ae} {A:bp} {outer:List qA} {s:ai} {H:Hp} {E:XK}:a0C (U7 P w K mg base N qual scope f cd A outer s H E) E :=
 λpins σ H1 s1 h' e C us I hm hE=>CK (X:=U7 P w K mg base N qual scope f cd A outer s H E) I rfl rfl rfl hm hE
theorem zi {N:List aT} {qual:aT} {scope:ek} {f:ah} {cd:ae} {A:bp} {outer:List qA} {s:ai} {H:Hp} {E:XK}:a0f (GY P w) (U7 P w K mg base N qual scope f cd A outer s H E) E :=
 λpins σ H1 s1 e s' I h=>Im (X:=U7 P w K mg base N qual scope f cd A outer s H E) I rfl rfl rfl h
structure M8 (P:aO) (w:bD) (K:ak) (mg:aT->Option ae) (base:bT) (x:aT) (n:Nat) (ps:List aT) (sp:Sp):Prop where
 ex:∃ f fd,nO P w K mg base (GY P w) n f fd ps sp/\mg x=some (.ref f)/\iX K (.ref f)=true/\Binds K fd ps []
theorem bz.TV {x:aT} {st:cL} {N ps:List aT} {k:Nat} {sp:Sp} (F:bz K mg x st ps) (S:bG N ps (aC st)) (len:∀ vs H Q E,sp vs H Q E->vs.length=ps.length)
  (kW:∀ (f:ah) (dk:ae) (A:bp) (outer:List qA) (s:ai) (H:Hp) (vs:List V) (Q:VK) (E:XK),eP k (A.deeper (lI x (aC st) s.heap.objs.size f dk))->sp vs H Q E ->
   ∃ t,uY (U7 P w K mg base N x (aC st) f dk A outer s H E) (fk st) t/\t { nx:=λ_ H'=>Q .e8 H',rt:=Q } (start N vs) H):M8 P w K mg base x (k+1) ps sp:=by
 obtain⟨f,fd,F,hm,hb⟩:=F.ex
 have kp:=F.kp
 obtain⟨oc,od,kV,doc,pm,an,dk,ct,Jw,rfl,lk,yR⟩:=F.ex
 exact⟨f,_,FA lk yR S len λA outer s H vs Q E hr BK=>kW f dk A outer s H vs Q E hr BK,hm,kp,hb⟩
end
theorem ux {X:Cx} {E:XK} {x:aT} {n k:Nat} {ps:List aT} {sp:Sp} {e:bR} {es:List bR} {t:TA} {p pos:gR} (hx:a0f (GY X.prog X.w) X E) (D:M8 X.prog X.w X.K X.mg X.base x n ps sp) (hr:eP k X.A) (ha:PA X (e::es) t) (hk:n<=k:=by decide) (hg:Gl X x:=by rfl)
  (Cy:(x == ("__debug__" : aT))=false:=by decide) (he:aV (e::es) X.env=(false,dU e X.env)::aV es X.env:=by rfl) (oT:(d9 pos (aV es X.env)).any (·.1)=false:=by rfl) :
  PE X (.Call (.Name x p) (e::es) [] pos) (MB sp [] E t):=by
 obtain⟨f,fd,F,hm,kp,hb⟩:=D.ex
 exact F5 F (hr.mono hk) hg hm kp hb .nil hx ha Cy he oT
def GQ (e C:ah):HO:=.ext λh=>uZ e C h
theorem At {B h:bT} {l:List qA} {e C:ah} {a0:ae} (f:vw B l e (.ref C) a0 h):uZ e C h:=by
 obtain⟨_,_,_,oe,ws,_,_,_,he,hc,hd,_⟩:=f
 exact⟨oe,ws,he,hc.1,hd⟩
abbrev Cx.lD (X:Cx) (e:ah):Cx:={ X with A:=X.A.mark (some (.ref e)),calm:=false,xe:=λ_ _=>False }
section
variable {X:Cx} {pins:List (ah × d6)} {σ:St} {H:Hp} {s:ai}
theorem Inv.lD (I:Inv X pins σ H s) (e:ah):Inv (X.lD e) pins σ H s :=
 ⟨⟨I.ok.mod,I.ok.kind,I.ok.glob,I.ok.blt,I.ok.above,I.ok.inj,I.ok.has,I.ok.R1,(λz=>by cases z),I.ok.frames,I.ok.Uw,I.ok.Zs,I.ok.bs,I.ok.Jo,I.ok.mH,I.ok.HK,I.ok.pF,I.ok.Ki⟩,I.os,I.bare,I.base,I.loc,I.cell,I.free,I.lZ,I.pin,I.cU,I.len⟩
theorem Inv.P6 {e:ah} (hh:X.A.handled=none) (I:Inv (X.lD e) pins σ H s):Inv X pins σ H s :=
 ⟨⟨I.ok.mod,I.ok.kind,I.ok.glob,I.ok.blt,I.ok.above,I.ok.inj,I.ok.has,I.ok.R1,(λ_=>hh),I.ok.frames,I.ok.Uw,I.ok.Zs,I.ok.bs,I.ok.Jo,I.ok.mH,I.ok.HK,I.ok.pF,I.ok.Ki⟩,I.os,I.bare,I.base,I.loc,I.cell,I.free,I.lZ,I.pin,I.cU,I.len⟩
theorem Inv.forget {i:Nat} {n:aT} {h':bT} {v:Option ae} {m:aT->Option ae} {t':Nat} (I:Inv X pins σ H s) (hN:X.N.Nodup) (hi:X.N[i]?=some n) (hn:s.heap.Ns X.env.locals m) (WV:h'.Ns X.env.locals (λx=>if x=n then v else m x)) (hs:fR X.env.locals s.heap h') :
  Inv X pins (σ.set i none) H { s with heap:=h',toks:=t' }:=by
 obtain⟨oL,_,_,Vf,_⟩:=id hn
 have Vm:∀ b o,X.s₀.heap.get? b=some o->b≠X.env.locals:=λb o e=>aR (b8 (aD e) I.ok.above)
 have gen:∀ b o,b≠X.env.locals->s.heap.get? b=some o->h'.get? b=some o:=λb o hb e=>(hs.2 b hb).trans e
 refine⟨I.ok,I.os,I.bare,⟨λb o e n0 hb hx=>?_,λb o e n0 hb hx=>?_,I.base.free,λb o e hx=>?_,I.base.tu,I.base.rq,I.base.rL⟩,⟨_,WV,λj y v' e1 e2 e3=>?_⟩,λy c e=>?_,I.free,I.lZ,λp hp=>?_,λb ob e=>?_,by simpa using I.len⟩
 ·exact gen _ _ (Vm b o e) (I.base.keep b o e n0 hb hx)
 ·obtain⟨sl,e1⟩:=I.base.slot b o e n0 hb hx
  exact⟨sl,gen _ _ (Vm b o e) e1⟩
 ·obtain⟨o',e1⟩:=I.base.there b o e hx
  exact⟨o',gen _ _ (Vm b o e) e1⟩
 ·by_cases hj:j=i
  ·subst hj
   rw[List.getElem?_set] at e2
   simp only [if_true] at e2
   split at e2 <;> cases e2
  ·rw[cW (cS hj)] at e2
   obtain⟨m0,c6,hl⟩:=I.loc
   obtain⟨u',r',q⟩:=hl j y v' e1 e2 e3
   have hyn:y≠n:=λe=>hj (wA hN e1 (e ▸ hi))
   refine⟨u',r',?_⟩
   rcases q with ⟨k,e⟩ | ⟨k,c,e,z⟩
   ·refine .inl ⟨k,?_⟩
    have:m0 y=m y:=by
     obtain⟨o1,sg,ep1,p1,p2,_,p3⟩:=c6
     obtain⟨o2,Kd,ep2,q1,q2,_,q3⟩:=id hn
     rw[p1] at q1;cases q1
     rw[p2] at q2;cases q2
     rw[← p3 y,← q3 y]
    simp[hyn,← this,e]
   ·exact .inr ⟨k,c,e,z.sameBut hs (I.N6 y c e)⟩
 ·obtain⟨w',z⟩:=I.cell y c e
  exact⟨w',z.sameBut hs (I.N6 y c e)⟩
 ·obtain⟨e,n0,ne,nf,d⟩:=I.pin p hp
  exact⟨gen _ _ ne e,n0,ne,nf,d⟩
 ·refine (I.cU b ob e).xg (λc w' hc q=>gen c w' ?_ q) (λ_ q=>q) λ_ _ q=>q
  rintro rfl
  rcases hc with rfl | hc
  ·rw[I.free] at e;cases e
  ·rw[I.free] at hc;cases hc
theorem Fz {s':ai} {h5 B:bT} {ea C t:ah} {a5:ae} {H':Hp} (I:Inv X pins σ H s) (os:s'.os=s.os) (bare:n5 s'.gens) (un:Un (qO X.stack) [] H H' s.heap s'.heap) (cU:o5 X.prog X.w H' s'.heap)
  (fl:vw B X.stack ea (.ref C) (.ref t) s'.heap) (b1:∀ b o,s.heap.get? b=some o->b ∉ qO X.stack->∃ o',B.get? b=some o') (b2:∀ b u,H' b=some u->∃ o,B.get? b=some o)
  (Ke:vw B X.stack ea (.ref C) a5 h5) (u5:s'.heap.UpToSlots h5):H' ea=none/\Inv X pins σ (upd H' ea (GQ ea C)) { s' with heap:=h5 }:=by
 have NC:∀ b:ah,b ∉ ([]:List ah):=λb z=>by cases z
 have Nu:H' ea=none:=by
  cases q:H' ea with
  | none=>rfl
  | some u=>obtain⟨o,ho⟩:=b2 ea u q;rw[fl.2.1] at ho;cases ho
 have fr:∀ b o,s'.heap.get? b=some o->b∈qO X.stack->∃ sl,h5.get? b=some { o with slots:=sl }:=λb o q hb=>by
  obtain⟨_,o',ug,hd⟩:=fl.2.2.1.mem hb
  rw[q] at ug;cases ug
  exact u5 b o q hd
 have nea:∀ b o,s.heap.get? b=some o->b≠ea:=λb o q z=>by
  subst z
  by_cases hb:b∈qO X.stack
  ·obtain⟨_,o',ug,hd⟩:=fl.2.2.1.mem hb
   obtain⟨oe,ws,he,_,Oh⟩:=At fl
   rw[he] at ug;cases ug
   exact hd _ Oh
  ·obtain⟨o',ho⟩:=b1 b o q hb
   rw[fl.2.1] at ho;cases ho
 refine⟨Nu,I.JZ (s':={ s' with heap:=h5 }) (ch:=[]) os ⟨λb o q n hb _=>?_,λb o q n hb _=>?_,λb o q n _=>?_,λb o q _=>?_,λb xs q=>?_,λb o u q=>?_,λb ps q=>?_⟩ ?_ bare λb z=>absurd z (NC b)⟩
 ·have e2:=un.keep b o q n hb (NC b)
  obtain⟨o',e3⟩:=b1 b o q hb
  have e4:=fl.1 b o' e3
  rw[e2] at e4;cases e4
  exact Ke.1 b _ e3
 ·obtain⟨sl1,e2⟩:=un.slot b _ q n hb (NC b)
  obtain⟨DH,e3⟩:=fr b _ e2 hb
  exact⟨DH,e3⟩
 ·rw[bB (nea b o q)];exact un.free b o q n (NC b)
 ·by_cases hb:b∈qO X.stack
  ·obtain⟨o2,e2⟩:=un.there b o q (NC b)
   obtain⟨DH,e3⟩:=fr b _ e2 hb
   exact⟨_,e3⟩
  ·obtain⟨o',e1⟩:=b1 b o q hb
   exact⟨_,Ke.1 b o' e1⟩
 ·have:=un.tu b xs q
  rw[bB (cr this Nu)];exact this
 ·have:=un.rq b o u q
  rw[bB (cr this Nu)];exact this
 ·obtain⟨m2,e2⟩:=un.rL b _ q
  exact⟨m2,by rw[bB (cr e2 Nu)];exact e2⟩
 ·have ok5:=cU.by b2 fl.1 Ke.1
  intro b u e
  by_cases hb:b=ea
  ·subst hb
   rw[ar] at e;cases e
   have x:=At Ke
   obtain⟨oe,ws,he,r⟩:=id x
   exact⟨x,⟨oe,he⟩,λh1 h2 p k=>p.keeps k⟩
  ·rw[bB hb] at e
   exact (ok5 b u e).xg (λ_ _ _ q=>q) (λc q=>by rw[bB (cr q Nu)];exact q) λc xs q=>by rw[bB (cr q Nu)];exact q
theorem R3 {s':ai} {e:ae} {E:XK} {D:Ends} {i:Nat} {n g:aT} {G:ah} {b0:cL} {lD:List cL} {AA np:gR} {th:TS} (I:Inv X pins σ H s) (o7:X.stack=X.env::X.outer) (hf:X.env.frame=some X.env.locals) (hc:X.calm=true)
  (hN:X.N.Nodup) (hi:X.N[i]?=some n) (hl:X.env.scope.names.lookup n=some .local) (hg:Gl X g) (hm:X.mg g=some (.ref G)) (hs:∀ ea,uY (X.lD ea) (b0::lD) th) (Cy:(g == ("__debug__" : aT))=false)
  (hx:GY X.prog X.w X.stack H s E e s')
  (hE:∀ C H',E (.ref C) none H'->qC X.K (.ref C) (.ref G)=some true/\∀ ea,H' ea=none->th { D with nx:=λσ' H2=>D.nx (σ'.set i none) H2,bk:=λσ' H2=>D.bk (σ'.set i none) H2,ct:=λσ' H2=>D.ct (σ'.set i none) H2 } (σ.set i (some (.ref ea))) (upd H' ea (GQ ea C))) :
  wpAny (aS X.prog X.w) X.A (noteFrame e X.env) (λ_ s2=>wpAny (aS X.prog X.w) X.A (setFlight e none) (λ_ s3=>wpAny (aS X.prog X.w) X.A (handleBy e X.env [.ExceptHandler (some (.Name g np)) (some n) (b0::lD) AA]) (SP X pins D) X.xe s3) X.xe s2) X.xe s':=by
 obtain⟨ea,C,t,H',B,rfl,os,bare,un,cU,fl,b1,b2,hw⟩:=hx
 obtain⟨CA,hth⟩:=hE C H' hw
 have V4:=fl
 rw[o7] at V4
 have hh:=I.ok.hd hc
 have hk:=I.ok.kind
 refine wpAny_looks_onW (o7 ▸ I.ok.frames) hf V4 λh4 held u4=>?_
 refine wpAny_landsW held λh5 Ke u5=>?_
 rw[← o7] at Ke
 obtain⟨Nu,I5⟩:=Fz I os bare un cU fl b1 b2 Ke (u4.trans u5)
 refine wpAny_handleBy_cons (codeAny_handlers_test (sF (X:=X.lD ea) (I5.lD ea) hg hm ?_ Cy)) (by intro q;cases q)
 refine (PySem.W.exm_one I5.qQ (At Ke).ty CA).here ?_
 refine codeAny_handlers_suite_as ?_
 refine lands_againW Ke λh6 fl6 u6=>?_
 obtain⟨_,I6⟩:=Fz I os bare un cU fl b1 b2 fl6 ((u4.trans u5).trans u6)
 refine sY (X:=X) I6 hN hi (.inl hl) (v:=.ref ea) (u:=.ref ea) rfl (λs7 I7=>?_) (.inr hl)
 refine cf (hs ea pins s7 _ _ _ (I7.lD ea) (hth ea Nu)) (λf s8 q8=>?_) λ_ _ z=>dR z
 have key:∀ {σ':St} {H2:Hp} {R:Prop},Inv (X.lD ea) pins σ' H2 s8->(∀ s9,Inv X pins (σ'.set i none) H2 s9->SP X pins D f s9) ->
   wpAny (aS X.prog X.w) X.A (do bindName X.env n .none;unbindBehindTheSuite X.env n AA) (λ_ s9=>SP X pins D f s9) X.xe s8:=λ{σ' H2 R} J k=>by
  have J':=J.P6 hh
  obtain⟨m,hn,_⟩:=J'.loc
  refine wpAny_nameGoes_keeps hl hn (by rw[hk];rfl) λh' v WV KM=>k _ (J'.forget hN hi hn WV KM)
 cases f with
 | next=>obtain⟨σ',H2,J,q⟩:=q8;exact key (R:=True) J λs9 I9=>⟨_,H2,I9,q⟩
 | brk=>obtain⟨σ',H2,J,q⟩:=q8;exact key (R:=True) J λs9 I9=>⟨_,H2,I9,q⟩
 | cont=>obtain⟨σ',H2,J,q⟩:=q8;exact key (R:=True) J λs9 I9=>⟨_,H2,I9,q⟩
 | ret u=>obtain⟨v,σ',H2,J,r,q⟩:=q8;exact key (R:=True) J λs9 I9=>⟨v,_,H2,I9,r,q⟩
end
section
variable {X:Cx} {CX:JF} {k:Nat} {f:ah} {fd:fJ} {ps:List aT} {sp:Sp} {E:XK} {x:aT} {p pos:gR} {e:bR} {es:List bR} {t:TA} {pins:List (ah × d6)} {σ:St} {H:Hp} {s:ai} {Q:VK} {EE:ae->ai->Prop}
theorem Go {us:List ae} {vs:List V} (F:nO X.prog X.w X.K X.mg X.base CX k f fd ps sp) (hr:eP k X.A) (hb:Binds X.K fd ps []) (I:Inv X pins σ H s) (hx:∀ e s',CX X.stack H s E e s'->EE e s') (r:Vals vs us) (h:sp vs H Q E) :
  wpAny (aS X.prog X.w) X.A (qH (.ref f) us) (EP X pins σ Q) EE s:=by
 have hl:us.length=ps.length:=by rw[← r.length];exact F.len _ _ _ _ h
 have So:=hb s us I.qQ (by simpa using hl)
 rw[ef] at So
 refine yq (iY (F.run X.A X.stack s H ⟨us,[]⟩ us vs Q E hr I.HI So r h) λr s' hq=>?_)
 cases r with
 | error e=>exact hx e s' hq
 | ok fl =>
  cases fl with
  | ret u=>exact I.after hq
  | next=>cases hq
  | brk=>cases hq
  | cont=>cases hq
end
def V3 (K:ak) (G:ah) (th:TS) (i:Nat) (D:Ends) (σ:St):XK:=λc _ H'=>∃ C,c=.ref C/\qC K (.ref C) (.ref G)=some true/\∀ ea,H' ea=none ->
 th { D with nx:=λσ' H2=>D.nx (σ'.set i none) H2,bk:=λσ' H2=>D.bk (σ'.set i none) H2,ct:=λσ' H2=>D.ct (σ'.set i none) H2 } (σ.set i (some (.ref ea))) (upd H' ea (GQ ea C))
section
variable {X:Cx} {x y g n:aT} {i j m k:Nat} {ps:List aT} {sp:Sp} {p py pos R9 np AA rM:gR} {e:bR} {es:List bR} {t:TA} {th:TS} {G:ah} {b0:cL} {lD:List cL}
end
def kO (K:ak) (x:aT):ah:=match tY K bf x with
 | some (some (.ref C))=>C
 | _=>0
def xcB (K:ak) (C:ah):Bool :=
 dQ K (.ref C) "__getattribute__" == some (some (.builtin "BaseException.__getattribute__")) && dQ K (.ref C) "__getattr__" == some none &&
 dQ K (.ref C) "__class__" == some (some (.builtin "object.__class__")) && Jm K (.builtin "object.__class__") "__get__" == some (some (.builtin "getset_descriptor.__get__")) &&
 Nj K (.builtin "object.__class__") == some true && Ab K C (.type "object") == some true && Ab K C (.type "BaseException") == some true && (PySem.W.clsIn K C).isSome
def BB (K:ak) (top:aT) (rs ns:List aT):Bool :=
 (tY K bf top == some (some (.ref (kO K top)))) &&
 (ns.all λy=>tY K bf y == some (some (.ref (kO K y)))) &&
 rs.all λx=>(tY K bf x == some (some (.ref (kO K x)))) && xcB K (kO K x) && nQ K (kO K x) bmV "ValueError.__new__" &&
  (qC K (.ref (kO K x)) (.ref (kO K top)) == some true) && (cF K (.ref (kO K x)) (.type "ValueError") == some true) &&
  ns.all λy=>cF K (.ref (kO K x)) (.ref (kO K y)) == some (decide (x=y))
structure XT (K:ak) (mg:aT->Option ae) (top:aT) (rs ns:List aT):Prop where
 m:∀ x,(x=top\/x∈rs\/x∈ns)->mg x=some (.ref (kO K x))
 exc:∀ x∈rs,nQ K (kO K x) bmV "ValueError.__new__" = true
 k:∀ x∈rs,Hd K (kO K x)
 hit:∀ x∈rs,qC K (.ref (kO K x)) (.ref (kO K top))=some true
 val:∀ x∈rs,cF K (.ref (kO K x)) (.type "ValueError")=some true
 one:∀ x∈rs,∀ y∈ns,cF K (.ref (kO K x)) (.ref (kO K y))=some (decide (x=y))
theorem Y7 {K:ak} {h:bT} {mg:aT->Option ae} {top:aT} {rs ns:List aT} (X:K.In h) (G:h.Ns bf mg) (e:BB K top rs ns=true):XT K mg top rs ns:=by
 unfold BB at e
 simp only [bU,fZ,beq_iff_eq] at e
 obtain⟨⟨e1,e2⟩,e3⟩:=e
 refine⟨λx hx=>?_,λx hx=>(e3 x hx).1.1.1.2,λx hx=>?_,λx hx=>(e3 x hx).1.1.2,λx hx=>(e3 x hx).1.2,λx hx y hy=>(e3 x hx).2 y hy⟩
 ·rcases hx with rfl | hx | hx
  ·exact rV X G e1
  ·exact rV X G (e3 x hx).1.1.1.1.1
  ·exact rV X G (e2 x hx)
 ·have z:=(e3 x hx).1.1.1.1.2
  unfold xcB at z
  simp only [bU,beq_iff_eq] at z
  obtain⟨⟨⟨⟨⟨⟨⟨z1,z2⟩,z3⟩,z4⟩,z5⟩,z6⟩,z7⟩,z8⟩:=z
  exact⟨z1,z2,z3,z4,z5,z6,z7,z8⟩
theorem y7 {K:ak} {t:ae}:∀ {cs:List ae},(∀ c∈cs,cF K t c=some false)->NV K t cs=some false
 | [],_=>rfl
 | c::r,h=>by
  unfold NV
  rw[h c (aP ..)]
  exact y7 λd hd=>h d (bc _ hd)
theorem N4:lF "ValueError" = some (.type "ValueError"):=by decide +kernel
section
variable {X:Cx}
theorem Hi:jG X (.builtin "isinstance") (λxs H Q=>∃ e C D b,xs=[.ref e,.ref D]/\H e=some (GQ e C)/\Hd X.K C/\cF X.K (.ref C) (.ref D)=some b/\Q (.bl b) H):=by
 intro pins s σ H xs us Q I r h
 obtain⟨e,C,D,b,rfl,he,hk,hb,q⟩:=h
 obtain⟨u,c,rfl,ru,rc⟩:=r.two
 cases (show u=bA e from ru)
 cases (show c=bA D from rc)
 exact dt (wu hk) I.qQ (I.cU e _ he).1 hb (by intro z;cases z) λtk=>⟨.bl b,H,I.tok _,rfl,q⟩
theorem Hk {T:String}:jG X (.builtin "isinstance") (λxs H Q=>∃ e C b,xs=[.ref e,.ty T]/\H e=some (GQ e C)/\Hd X.K C/\cF X.K (.ref C) (.type T)=some b/\Q (.bl b) H):=by
 intro pins s σ H xs us Q I r h
 obtain⟨e,C,b,rfl,he,hk,hb,q⟩:=h
 obtain⟨u,c,rfl,ru,rc⟩:=r.two
 cases (show u=bA e from ru)
 cases (show c=jb T from rc)
 exact dt (wu hk) I.qQ (I.cU e _ he).1 hb (by intro z;cases z) λtk=>⟨.bl b,H,I.tok _,rfl,q⟩
theorem zx:∀ {cs:List ah} {us:List ae},Vals (cs.map V.ref) us->us=cs.map bA
 | [],_,.nil=>rfl
 | c::r,_,.cons h t=>by
  cases (show _=bA c from h)
  rw[zx t];rfl
theorem Hj:jG X (.builtin "isinstance") (λxs H Q=>∃ e C tp,∃ cs:List ah,xs=[.ref e,.ref tp]/\H e=some (GQ e C)/\Hd X.K C/\H tp=some (.tup (cs.map V.ref))/\(∀ c∈cs,cF X.K (.ref C) (.ref c)=some false)/\Q (.bl false) H):=by
 intro pins s σ H xs us Q I r h
 obtain⟨e,C,tp,cs,rfl,he,hk,KO,hb,q⟩:=h
 obtain⟨u,c,rfl,ru,rc⟩:=r.two
 cases (show u=bA e from ru)
 cases (show c=bA tp from rc)
 obtain⟨_,cH,rv,o,ho,xV,n,hd⟩:=I.cU tp _ KO
 rw[zx rv] at hd
 obtain⟨oc,od,odt,Jw⟩:=o
 cases xV
 cases hd
 exact PySem.W.kia_tup (wu hk) I.qQ (I.cU e _ he).1 ho (y7 λc hc=>by obtain⟨a,ha,rfl⟩:=bL.mp hc;exact hb a ha) (by intro z;cases z) λtk=>⟨.bl false,H,I.tok _,rfl,q⟩
end
section
variable {X:Cx}
end
section
variable {X:Cx}
end
section
variable {X:Cx}
end
section
variable {X:Cx} {pins:List (ah × d6)} {σ:St} {H:Hp} {s:ai}
end
end L2
namespace L2
open PySem PyProof.Rows
section
variable {prog:aO} {w:bD} {A:bp} {E:ae->ai->Prop} {s:ai}
end
section
variable {prog:aO} {w:bD} {A:bp} {E:ae->ai->Prop} {s:ai}
end
section
variable {prog:aO} {w:bD} {A:bp} {E:ae->ai->Prop} {s:ai}
end
section
variable {a₀:Array Keyed} {pd:Array (Nat × Nat × Nat)} {st:SortSt}
variable {prog:aO} {w:bD} {A:bp} {E:ae->ai->Prop} {s:ai}
end
section
variable {prog:aO} {w:bD} {A:bp} {E:ae->ai->Prop} {s:ai} {a₀:Array Keyed} {pd:Array (Nat × Nat × Nat)} {st:SortSt}
end
section
variable {prog:aO} {w:bD} {A:bp} {E:ae->ai->Prop} {s:ai} {a₀:Array Keyed} {st:SortSt}
end
end L2
namespace L2
open PySem PySem.Spec PyProof.Rows
section
variable {prog:aO} {w:bD} {A:bp} {E:ae->ai->Prop} {s:ai}
end
section
variable {X:Cx}
end
section
variable {P:aO} {w:bD} {K:ak} {mg:aT->Option ae} {base:bT}
end
def Yk (K:ak):V->V->Hp->VK->Prop:=λx y H Q=>∃ p xs i v,x=.ref p/\y=.int i/\bI K H p xs/\0<=i/\o6 xs i=some v/\Q v H
theorem Kk {X:Cx} {K:ak} (hK:X.K=K):VJ X (Yk K):=by
 subst hK
 intro pins s σ H x y v u Q I rx ry h
 obtain⟨p,xs,i,z,rfl,rfl,hq,h0,he,q⟩:=h
 cases rx
 obtain⟨t,rfl⟩:=ry
 obtain⟨cH,r,pl,hz⟩:=I.list hq
 obtain⟨j,h1,h2,h3,h4,h5⟩:=Af he
 obtain⟨w,ew,IJ⟩:=r.get h2
 have hl:=r.length
 have hn:=uk
 have hj:i.toNat=j:=by
  rw[DG h0 h5] at h1
  exact cK h1
 exact wpAny_getItem_list pl.isList h0 (by omega) (by rw[hj];simpa using ew) ⟨z,H,I,IJ,q⟩
def bm (n:Nat) (f:Int->Bool):List V:=(bO n).map λp=>V.bl (f ((p:Nat):Int))
theorem Ai (n:Nat) (f:Int->Bool):(bm n f).length=n:=by unfold bm;simp
theorem Ch {n:Nat} {f g:Int->Bool} (h:∀ p:Int,0<=p->p<n->f p=g p):bm n f=bm n g:=by
 unfold bm
 refine mD λp hp=>?_
 rw[h _ (by omega) (by have:=d8.mp hp;omega)]
theorem uI {n:Nat} {f:Int->Bool} {z:Int} (h0:0<=z) (h1:z<n):(bm n f)[z.toNat]?=some (.bl (f z)):=by
 unfold bm
 rw[aB,eM (by omega)]
 show some (V.bl (f ((z.toNat:Nat):Int)))=_
 rw[mO h0]
theorem R0 {n:Nat} {f:Int->Bool} {z:Int} (h0:0<=z) (h1:z<n):(bm n f).set z.toNat (.bl true)=bm n λx=>f x || decide (x=z):=by
 apply cV
 intro p
 by_cases hp:p<n
 ·by_cases e:p=z.toNat
  ·subst e
   rw[cX (by rw[Ai];exact hp),uI h0 h1]
   simp
  ·rw[cW (cS e)]
   have kx:¬ ((p:Nat):Int)=z:=by omega
   unfold bm
   rw[aB,aB,eM hp]
   simp[kx]
 ·rw[aU (by rw[fH,Ai];omega),aU (by rw[Ai];omega)]
theorem JY (n:Nat) (b:Bool):(aH n [V.bl b]).flatten=bm n λ_=>b:=by
 unfold bm
 induction n with
 | zero=>rfl
 | succ n ih=>rw[rS,fN,ih,iI,aM];rfl
def im (n:Nat) (f:Int->Int):List Int:=(bO n).map λp=>f ((p:Nat):Int)
theorem ng (n:Nat) (f:Int->Int):(im n f).length=n:=by unfold im;simp
theorem uK {n:Nat} {f:Int->Int} {z:Int} (h0:0<=z) (h1:z<n):(im n f)[z.toNat]?=some (f z):=by
 unfold im
 rw[aB,eM (by omega)]
 show some (f ((z.toNat:Nat):Int))=_
 rw[mO h0]
theorem Ee {n:Nat} {f:Int->Int} {z v:Int} (h0:0<=z) (h1:z<n):(im n f).set z.toNat v=im n λx=>if x=z then v else f x:=by
 apply cV
 intro p
 by_cases hp:p<n
 ·by_cases e:p=z.toNat
  ·subst e
   rw[cX (by rw[ng];exact hp),uK h0 h1,if_pos rfl]
  ·rw[cW (cS e)]
   have kx:¬ ((p:Nat):Int)=z:=by omega
   unfold im
   rw[aB,aB,eM hp]
   simp[kx]
 ·rw[aU (by rw[fH,ng];omega),aU (by rw[ng];omega)]
theorem pK {n:Nat} {f g:Int->Int} (h:∀ p:Int,0<=p->p<n->f p=g p):im n f=im n g:=by
 unfold im
 refine mD λp hp=>?_
 rw[h _ (by omega) (by have:=d8.mp hp;omega)]
theorem OF (n:Nat) (f:Int->Int):im (n+1) f=im n f++[f ((n:Nat):Int)]:=by unfold im;rw[iI,aM];rfl
theorem pR (l:List Int) (k:Nat) (v:Int):(l.map V.int).set k (.int v)=(l.set k v).map V.int:=by rw[Zj]
end L2
namespace Law
open PySem L2
def je (G:List Row) (k:Nat):List Int:=((G[k]?).getD (0,0,[])).2.2
theorem IW {G:List Row} {k:Nat} {r:Row} (h:G[k]?=some r):je G k=r.2.2:=by unfold je;rw[h];rfl
def XB (G:List Row) (p k:Nat):Bool:=decide ((p:Int)∈je G k)
def col (G:List Row) (i p:Nat):List Int:=((bO i).filter (XB G p)).map λ(k:Nat)=>(k:Int)
def wi (G:List Row) (i:Nat):List (List Int):=(bO G.length).map (col G i)
def GN (G:List Row) (i j:Nat):List (List Int):=(bO G.length).map λp=>col G i p++if (p:Int)∈(je G i).take j then [(i:Int)] else []
theorem MR (G:List Row) (i:Nat):(wi G i).length=G.length:=by simp[wi]
theorem GO (G:List Row) (i j:Nat):(GN G i j).length=G.length:=by simp[GN]
theorem Qa (G:List Row):wi G 0=aH G.length []:=by
 apply cV
 intro p
 by_cases h:p<G.length
 ·simp[wi,h];rfl
 ·simp[wi,h]
theorem MQ (G:List Row) (i:Nat):GN G i 0=wi G i:=by simp[GN,wi]
theorem P8 (G:List Row) (i:Nat):GN G i (je G i).length=wi G (i+1):=by
 unfold GN wi
 refine mD λp _=>?_
 rw[aZ]
 unfold col
 rw[iI,cZ,aM]
 congr 1
 by_cases h:(p:Int)∈je G i
 ·simp[h,XB]
 ·simp[h,XB]
theorem UO {G:List Row} {i j:Nat} {z:Int} (h:(je G i)[j]?=some z) (hn:(je G i).Nodup) (h0:0<=z) (h1:z<G.length):(GN G i j)[z.toNat]?=some (col G i z.toNat):=by
 have hz:z.toNat<G.length:=by omega
 have e:((z.toNat:Nat):Int)=z:=by omega
 have hni:z ∉ (je G i).take j:=λhm=>by
  obtain⟨k,hk⟩:=cg hm
  rw[kn] at hk
  split at hk
  ·have:=qm hn hk h;omega
  ·cases hk
 simp[GN,hz,e,hni]
theorem P9 {G:List Row} {i j:Nat} {z:Int} (h:(je G i)[j]?=some z) (h0:0<=z) (h1:z<G.length):(GN G i j).set z.toNat (col G i z.toNat++[(i:Int)])=GN G i (j+1):=by
 have hz:z.toNat<G.length:=by omega
 have e:((z.toNat:Nat):Int)=z:=by omega
 apply cV
 intro p
 by_cases hp:p=z.toNat
 ·subst hp
  rw[cX (by rw[GO];exact hz)]
  have:z∈(je G i).take (j+1):=(cJ h).mpr (.inr rfl)
  simp[GN,hz,e,this]
 ·rw[cW (cS hp)]
  by_cases hl:p<G.length
  ·have kx:(p:Int)≠z:=by omega
   have:(p:Int)∈(je G i).take (j+1)↔(p:Int)∈(je G i).take j:=by rw[cJ h];simp[kx]
   simp[GN,hl,this]
  ·simp[GN,hl]
def wy (G:List Row) (p:Int):List Int:=((G[p.toNat]?).getD (0,0,[])).2.2
def hd (G:List Row) (p:Int):Int:=((G[p.toNat]?).getD (0,0,[])).1
theorem xo {G:List Row} {p:Int} {r:Row} (h:G[p.toNat]?=some r):wy G p=r.2.2:=by unfold wy;rw[h];rfl
theorem Cw {G:List Row} {p:Int} {r:Row} (h:G[p.toNat]?=some r):hd G p=r.1:=by unfold hd;rw[h];rfl
def oO (n:Nat):List Int:=(bO n).map λ(i:Nat)=>(i:Int)
theorem g8 {n:Nat} {p:Int}:p∈oO n↔0<=p/\p<n:=by
 unfold oO
 rw[bL]
 constructor
 ·rintro⟨i,hi,rfl⟩
  have:=d8.mp hi
  omega
 ·rintro⟨h0,h1⟩
  exact⟨p.toNat,d8.mpr (by omega),by (clear h1;omega)⟩
theorem Ba (n:Nat):(oO n).Pairwise (·<·):=by
 unfold oO
 rw[vx]
 exact kM.imp λh=>by omega
theorem L8 (n:Nat):oO (n+1)=oO n++[(n:Int)]:=by unfold oO;rw[iI,aM];rfl
def Hc (G:List Row):Prop:=∀ row∈G,row.2.2.Pairwise (·<·)/\∀ x∈row.2.2,0<=x/\x<G.length
theorem MV {G:List Row} (h:Hc G) (p:Int):(wy G p).Nodup:=by
 unfold wy
 cases e:G[p.toNat]? with
 | none=>exact nH
 | some r=>exact (h r (am e)).1.imp λh=>by omega
theorem Rm {G:List Row} (h:Hc G) {p w:Int} (hw:w∈wy G p):0<=w/\w<G.length:=by
 unfold wy at hw
 cases e:G[p.toNat]? with
 | none=>rw[e] at hw;cases hw
 | some r=>rw[e] at hw;exact (h r (am e)).2 w hw
section
variable (G:List Row) (hand:Int) (ins:Int->Bool)
def chr (S:List Int) (p:Int):Bool:=ins p && decide (p ∉ S) && (if hd G p=hand then (wy G p).any (λw=>decide (w∈S)) else (wy G p).any ins && (wy G p).all λw=>!ins w || decide (w∈S))
def Eu (S:List Int):List Int:=(oO G.length).filter (chr G hand ins S)
def run:Nat->List (List Int)->List Int->List (List Int)
 | 0,Ls,_=>Ls
 | k+1,Ls,L=>if L=[] then Ls else run k (Ls++[L]) (Eu G hand ins (Ls.flatten++L))
def a0o (want:Int->Bool):List Int:=(oO G.length).filter λp=>ins p && want p
def kF (want:Int->Bool):List (List Int):=run G hand ins (G.length+1) [] (a0o G ins want)
end
section
variable {G:List Row} {hand:Int} {ins:Int->Bool}
theorem qo {S:List Int} {p:Int}:p∈Eu G hand ins S↔(0<=p/\p<G.length)/\chr G hand ins S p=true:=by
 unfold Eu;rw[bF,g8]
theorem Ev (S:List Int):(Eu G hand ins S).Pairwise (·<·):=(Ba _).filter _
theorem FZ {S:List Int} {p:Int} (h:p∈Eu G hand ins S):p ∉ S/\ins p=true:=by
 have:=(qo.mp h).2
 unfold chr at this
 simp only [bU,decide_eq_true_eq] at this
 exact⟨this.1.2,this.1.1⟩
structure LI (G:List Row) (hand:Int) (ins:Int->Bool) (Ls:List (List Int)) (L:List Int):Prop where
 nd:(Ls.flatten++L).Nodup
 rg:∀ p∈Ls.flatten++L,0<=p/\p<G.length
 Ic:∀ p∈Ls.flatten++L,ins p=true
theorem pQ {l:List Int} (h:l.Pairwise (·<·)):l.Nodup:=h.imp λh=>by omega
theorem LI.start (want:Int->Bool):LI G hand ins [] (a0o G ins want):=by
 refine⟨?_,λp hp=>?_,λp hp=>?_⟩
 ·exact pQ ((Ba _).filter _)
 ·exact g8.mp (bF.mp hp).1
 ·have:=(bF.mp hp).2
  simp only [bU] at this
  exact this.1
theorem LI.next {Ls:List (List Int)} {L:List Int} (h:LI G hand ins Ls L):LI G hand ins (Ls++[L]) (Eu G hand ins (Ls.flatten++L)):=by
 have e:(Ls++[L]).flatten=Ls.flatten++L:=by simp
 refine⟨?_,λp hp=>?_,λp hp=>?_⟩
 ·rw[fB]
  exact⟨by rw[e];exact h.nd,pQ (Ev _),λa ha b hb z=>(FZ hb).1 (by rw[← z];rw[e] at ha;exact ha)⟩
 ·rcases bo.mp hp with hp | hp
  ·rw[e] at hp;exact h.rg p hp
  ·exact (qo.mp hp).1
 ·rcases bo.mp hp with hp | hp
  ·rw[e] at hp;exact h.Ic p hp
  ·exact (FZ hp).2
theorem LI.len {Ls:List (List Int)} {L:List Int} (h:LI G hand ins Ls L):Ls.flatten.length+L.length<=G.length:=by
 have:=iA (Ls.flatten++L) (oO G.length) h.nd λx hx=>g8.mpr (h.rg x hx)
 rw[aJ] at this
 unfold oO at this
 simpa using this
end
section
variable (G:List Row) (hand:Int) (ins want:Int->Bool)
def cnt (S:List Int) (p:Int):Nat:=((wy G p).filter λw=>decide (w∈S)).length
def eZ (p:Int):Nat:=if ins p=false\/want p=true then 0 else if hd G p=hand then 1 else ((wy G p).filter ins).length
end
section
variable {G:List Row} {hand:Int} {ins want:Int->Bool}
theorem v8 {l:List Int} {p q:Int->Bool} (h:∀ x,p x=true->q x=true):(l.filter p).length<=(l.filter q).length:=by
 induction l with
 | nil=>simp
 | cons a l ih =>
  cases e1:p a with
  | true=>rw[bJ e1,bJ (h a e1)];simpa using ih
  | false =>
   rw[bS (by simp[e1])]
   cases e2:q a with
   | true=>rw[bJ e2,bK];omega
   | false=>rw[bS (by simp[e2])];exact ih
theorem Cm {S T:List Int} (h:∀ x∈S,x∈T) (p:Int):cnt G S p<=cnt G T p:=by
 unfold cnt
 exact v8 λw hw=>by simp only [decide_eq_true_eq] at hw ⊢;exact h w hw
theorem ve {l:List Int} (nd:l.Nodup) {S:List Int} {x:Int} (hx:x ∉ S):(l.filter λw=>decide (w∈S++[x])).length=(l.filter λw=>decide (w∈S)).length+if x∈l then 1 else 0:=by
 induction l with
 | nil=>simp
 | cons a l ih =>
  obtain⟨na,nl⟩:=dc.mp nd
  have ih:=ih nl
  by_cases e:a=x
  ·subst e
   rw[bJ (by simp),bS (by simpa using hx),bK,ih,if_neg na,if_pos (by simp)]
  ·have h1:(x∈a::l)↔x∈l:=by rw[aE];exact⟨λz=>z.resolve_left λz=>e z.symm,.inr⟩
   by_cases c:a∈S
   ·rw[bJ (by simp[c]),bJ (by simp[c]),bK,bK,ih]
    simp only [h1];(clear hx na ih e h1;omega)
   ·rw[bS (by simp[c,e]),bS (by simpa using c),ih]
    simp only [h1]
theorem J5 (h:Hc G) {S:List Int} {x:Int} (hx:x ∉ S) (p:Int):cnt G (S++[x]) p=cnt G S p+if x∈wy G p then 1 else 0:=ve (MV h p) hx
def Seen (G:List Row) (hand:Int) (ins want:Int->Bool) (S0 S:List Int):Prop:=∀ p:Int,0<=p/\p<G.length->(p∈S↔(ins p=true/\want p=true)\/(1<=eZ G hand ins want p/\eZ G hand ins want p<=cnt G S0 p))
theorem DT {l:List Int} {p q:Int->Bool} (hpq:∀ x,q x=true->p x=true):((l.filter p).length<=(l.filter q).length↔∀ x∈l,p x=true->q x=true):=by
 induction l with
 | nil=>simp
 | cons a l ih =>
  have hle:(l.filter q).length<=(l.filter p).length:=v8 λx hx=>hpq x hx
  cases e1:p a with
  | true =>
   cases e2:q a with
   | true=>rw[bJ e1,bJ e2];simp[ih,e2]
   | false =>
    rw[bJ e1,bS (by simp[e2]),bK]
    constructor
    ·intro h;omega
    ·intro h;have:=h a (by simp) e1;rw[e2] at this;cases this
  | false =>
   have e2:q a=false:=by
    cases z:q a with
    | false=>rfl
    | true=>rw[hpq a z] at e1;cases e1
   rw[bS (by simp[e1]),bS (by simp[e2]),ih]
   simp[e1]
theorem t4 (hG:Hc G) {S0 S:List Int} (hS:Seen G hand ins want S0 S) (ot:∀ x∈S,ins x=true) (h0:∀ x∈S0,x∈S) {p:Int} (hp:0<=p/\p<G.length):chr G hand ins S p=true↔1<=eZ G hand ins want p/\cnt G S0 p<eZ G hand ins want p/\eZ G hand ins want p<=cnt G S p:=by
 have key:ins p=true->want p=false->((if hd G p=hand then (wy G p).any (λw=>decide (w∈S)) else (wy G p).any ins && (wy G p).all λw=>!ins w || decide (w∈S))=true↔1<=eZ G hand ins want p/\eZ G hand ins want p<=cnt G S p):=λhi hw=>by
  have hl:eZ G hand ins want p=if hd G p=hand then 1 else ((wy G p).filter ins).length:=by unfold eZ;rw[if_neg (by rw[hi,hw];simp)]
  rw[hl]
  by_cases ho:hd G p=hand
  ·simp only [if_pos ho]
   unfold cnt
   rw[lx]
   constructor
   ·rintro⟨w,h1,h2⟩
    exact⟨aA _,b7.mpr (Nb (bF.mpr ⟨h1,h2⟩))⟩
   ·rintro⟨_,h⟩
    obtain⟨w,hw⟩:=xK h
    exact⟨w,(bF.mp hw).1,(bF.mp hw).2⟩
  ·simp only [if_neg ho]
   rw[bU,lx,fZ]
   unfold cnt
   rw[DT (p:=ins) (q:=λw=>decide (w∈S)) λx hx=>ot x (of_decide_eq_true hx)]
   constructor
   ·rintro⟨⟨w,h1,h2⟩,h3⟩
    refine⟨b7.mpr (Nb (bF.mpr ⟨h1,h2⟩)),λx hx hi=>?_⟩
    have:=h3 x hx
    rw[hi] at this
    simpa using this
   ·rintro⟨h1,h2⟩
    obtain⟨w,hw⟩:=xK h1
    refine⟨⟨w,(bF.mp hw).1,(bF.mp hw).2⟩,λx hx=>?_⟩
    cases e:ins x with
    | false=>rfl
    | true=>have:=h2 x hx e;simpa using this
 have hs:=hS p hp
 unfold chr
 rw[bU,bU,decide_eq_true_eq]
 constructor
 ·rintro⟨⟨hi,hn⟩,hc⟩
  have hw:want p=false:=by
   cases e:want p with
   | false=>rfl
   | true=>exact absurd (hs.mpr (.inl ⟨hi,e⟩)) hn
  obtain⟨k1,k2⟩:=(key hi hw).mp hc
  refine⟨k1,?_,k2⟩
  rcases cY (cnt G S0 p) (eZ G hand ins want p) with z | z
  ·exact z
  ·exact absurd (hs.mpr (.inr ⟨k1,z⟩)) hn
 ·rintro⟨h1,h2,h3⟩
  have WI:ins p=true/\want p=false:=by
   unfold eZ at h1
   by_cases c:ins p=false\/want p=true
   ·rw[if_pos c] at h1;omega
   ·constructor
    ·cases e:ins p with
     | true=>rfl
     | false=>exact absurd (.inl e) c
    ·cases e:want p with
     | false=>rfl
     | true=>exact absurd (.inr e) c
  refine⟨⟨WI.1,λhm=>?_⟩,(key WI.1 WI.2).mpr ⟨h1,h3⟩⟩
  rcases hs.mp hm with z | z
  ·rw[WI.2] at z;cases z.2
  ·(clear ot h0 hp key hs h3 WI h1;omega)
theorem Seen.start:Seen G hand ins want [] (a0o G ins want):=λp hp=>by
 unfold a0o
 rw[bF,g8,bU]
 have:cnt G [] p=0:=by unfold cnt;simp
 rw[this]
 constructor
 ·rintro⟨_,h⟩;exact .inl h
 ·rintro (h | h)
  ·exact⟨hp,h⟩
  ·(clear hp this;omega)
theorem Seen.next (hG:Hc G) {S0 S:List Int} (hS:Seen G hand ins want S0 S) (ot:∀ x∈S,ins x=true) (h0:∀ x∈S0,x∈S):Seen G hand ins want S (S++Eu G hand ins S):=λp hp=>by
 have hm:=Cm (G:=G) h0 p
 rw[bo,hS p hp,qo,t4 hG hS ot h0 hp]
 constructor
 ·rintro ((h | h) | ⟨_,h⟩)
  ·exact .inl h
  ·exact .inr ⟨h.1,by (clear ot h0 hp;omega)⟩
  ·exact .inr ⟨h.1,h.2.2⟩
 ·rintro (h | ⟨h1,h2⟩)
  ·exact .inl (.inl h)
  ·by_cases c:eZ G hand ins want p<=cnt G S0 p
   ·exact .inl (.inr ⟨h1,c⟩)
   ·exact .inr ⟨hp,h1,by (clear ot h0 hp hm h1 h2;omega),h2⟩
end
def lv (R:List (List Int)) (k:Nat) (p:Int):Prop:=∃ L,R[k]?=some L/\p∈L
theorem CP {R:List (List Int)} {k:Nat} {p:Int} (h:lv R k p):k<R.length:=by
 obtain⟨L,h,_⟩:=h
 exact (ag.mp h).1
theorem mR {R:List (List Int)} {k:Nat} {p:Int}:p∈(R.take k).flatten↔∃ j,j<k/\lv R j p:=by
 rw[xq]
 constructor
 ·rintro⟨L,hL,hp⟩
  obtain⟨j,hj⟩:=cg hL
  rw[kn] at hj
  by_cases c:j<k
  ·rw[if_pos c] at hj;exact⟨j,c,L,hj,hp⟩
  ·rw[if_neg c] at hj;cases hj
 ·rintro⟨j,c,L,hj,hp⟩
  exact⟨L,am (i:=j) (by rw[kn,if_pos c];exact hj),hp⟩
theorem sH {R:List (List Int)} {p:Int}:p∈R.flatten↔∃ j,lv R j p:=by
 have h:=mR (R:=R) (k:=R.length) (p:=p)
 rw[aZ] at h
 rw[h]
 exact⟨λ⟨j,_,h⟩=>⟨j,h⟩,λ⟨j,h⟩=>⟨j,CP h,h⟩⟩
theorem QT {R:List (List Int)} {j k:Nat} {p:Int} (nd:R.flatten.Nodup) (c:j<k) (h1:lv R j p) (h2:lv R k p):False:=by
 have e:R.flatten=(R.take k).flatten++(R.drop k).flatten:=by rw[← fN,gi]
 rw[e,fB] at nd
 obtain⟨L,hL,hp⟩:=h2
 refine nd.2.2 p (mR.mpr ⟨j,c,h1⟩) p ?_ rfl
 rw[xq]
 exact⟨L,am (i:=0) (by rw[km];exact hL),hp⟩
theorem nq {R:List (List Int)} {j k:Nat} {p:Int} (nd:R.flatten.Nodup) (h1:lv R j p) (h2:lv R k p):j=k:=by
 rcases Qv j k with h | h | h
 ·exact (QT nd h h1 h2).elim
 ·exact h
 ·exact (QT nd h h2 h1).elim
section
variable (G:List Row) (hand:Int) (ins want:Int->Bool)
def nx (Ls:List (List Int)):List Int:=if Ls=[] then a0o G ins want else Eu G hand ins Ls.flatten
def a0y (Ls:List (List Int)):Prop:=∀ k L,Ls[k]?=some L->L=nx G hand ins want (Ls.take k)/\L≠[]
structure Lay (R:List (List Int)):Prop where
 ch:a0y G hand ins want R
 nil:nx G hand ins want R=[]
 li:LI G hand ins R []
end
section
variable {G:List Row} {hand:Int} {ins want:Int->Bool}
theorem a0w {Ls:List (List Int)} {L:List Int} (h:a0y G hand ins want Ls) (e:L=nx G hand ins want Ls) (kx:L≠[]):a0y G hand ins want (Ls++[L]):=by
 intro k M hk
 by_cases c:k<Ls.length
 ·rw[b9 c] at hk
  rw[lO (by omega)]
  exact h k M hk
 ·have h2:=(ag.mp hk).1
  rw[aJ,da] at h2
  have SD:k=Ls.length:=by omega
  subst SD
  rw[cx (aA _),m8] at hk
  have:L=M:=cK hk
  subst this
  rw[lO (aA _),aZ]
  exact⟨e,kx⟩
theorem Pw (k:Nat):∀ (Ls:List (List Int)) (L:List Int),LI G hand ins Ls L->a0y G hand ins want Ls->L=nx G hand ins want Ls->G.length+1<=k+Ls.flatten.length->Lay G hand ins want (run G hand ins k Ls L):=by
 induction k with
 | zero=>intro Ls L h1 _ _ h4;have:=h1.len;omega
 | succ k ih =>
  intro Ls L h1 h2 h3 h4
  show Lay G hand ins want (if L=[] then Ls else run G hand ins k (Ls++[L]) (Eu G hand ins (Ls.flatten++L)))
  by_cases c:L=[]
  ·rw[if_pos c]
   subst c
   exact⟨h2,h3.symm,h1⟩
  ·rw[if_neg c]
   have Jp:(Ls++[L]).flatten=Ls.flatten++L:=by simp
   have:0<L.length:=b7.mpr c
   refine ih _ _ h1.next (a0w h2 h3 c) ?_ (by rw[Jp,aJ];omega)
   unfold nx
   rw[if_neg (by simp),Jp]
theorem rE:Lay G hand ins want (kF G hand ins want) :=
 Pw _ _ _ (LI.start want) (λk L h=>by simp at h) (by unfold nx;rw[if_pos rfl]) (by simp)
variable {R:List (List Int)}
theorem Lay.nd (h:Lay G hand ins want R):R.flatten.Nodup:=by have:=h.li.nd;rwa [ef] at this
theorem GJ {k:Nat} (h0:1<=k) (h1:k<=R.length):R.take k≠[]:=λz=>by
 have:=congrArg rR z
 rw[eE] at this
 simp at this
 rcases this with h | h
 ·omega
 ·subst h;simp at h1;omega
theorem Lay.zero (h:Lay G hand ins want R) {p:Int} (hp:0<=p/\p<G.length):lv R 0 p↔ins p=true/\want p=true:=by
 have e:p∈a0o G ins want↔ins p=true/\want p=true:=by
  unfold a0o
  rw[bF,g8,bU]
  exact⟨λz=>z.2,λz=>⟨hp,z⟩⟩
 rw[← e]
 constructor
 ·rintro⟨L,h1,h2⟩
  have:=(h.ch 0 L h1).1
  rw[this] at h2
  unfold nx at h2
  rw[ii,if_pos rfl] at h2
  exact h2
 ·intro h1
  cases c:R with
  | nil =>
   have:=h.nil
   rw[c] at this
   unfold nx at this
   rw[if_pos rfl] at this
   rw[this] at h1;cases h1
  | cons L R' =>
   refine⟨L,rfl,?_⟩
   have:=(h.ch 0 L (by rw[c];rfl)).1
   unfold nx at this
   rw[ii,if_pos rfl] at this
   rw[this];exact h1
theorem Lay.on (h:Lay G hand ins want R) {k:Nat} {p:Int} (hp:0<=p/\p<G.length) (h0:1<=k) (h1:k<=R.length) (hc:chr G hand ins (R.take k).flatten p=true):lv R k p:=by
 have hn:=GJ h0 h1
 have hm:p∈nx G hand ins want (R.take k):=by unfold nx;rw[if_neg hn];exact qo.mpr ⟨hp,hc⟩
 by_cases c:k<R.length
 ·have e:R[k]?=some R[k]:=by simp
  exact⟨_,e,by rw[(h.ch k _ e).1];exact hm⟩
 ·have:k=R.length:=by (clear hp h0 hc hn;omega)
  subst this
  rw[aZ,h.nil] at hm;cases hm
theorem Lay.chr (h:Lay G hand ins want R) {k:Nat} {p:Int} (h0:1<=k) (hl:lv R k p):chr G hand ins (R.take k).flatten p=true:=by
 obtain⟨L,h1,h2⟩:=hl
 have h3:=(h.ch k L h1).1
 have h4:=(ag.mp h1).1
 unfold nx at h3
 rw[if_neg (GJ h0 (by omega))] at h3
 rw[h3] at h2
 exact (qo.mp h2).2
theorem vz {S:List Int} {p:Int}:Law.chr G hand ins S p=true↔ins p=true/\p ∉ S/\(if hd G p=hand then ∃ w∈wy G p,w∈S else (∃ w∈wy G p,ins w=true)/\∀ w∈wy G p,ins w=true->w∈S):=by
 unfold Law.chr
 by_cases c:hd G p=hand
 ·rw[if_pos c,if_pos c];simp[and_assoc]
 ·rw[if_neg c,if_neg c]
  simp only [bU,decide_eq_true_eq,lx,fZ,Rp,kJ,and_assoc]
  refine⟨λ⟨a,b,c,d⟩=>⟨a,b,c,λw hw hi=>(d w hw).resolve_left (by rw[hi];simp)⟩,λ⟨a,b,c,d⟩=>⟨a,b,c,λw hw=>?_⟩⟩
  cases e:ins w with
  | false=>exact .inl rfl
  | true=>exact .inr (d w hw e)
theorem Lay.own (h:Lay G hand ins want R) {p:Int} (hp:0<=p/\p<G.length) (hi:ins p=true) (hw:want p=false) (ho:hd G p=hand) :
  (∀ k,lv R k p->∃ j,k=j+1/\(∃ w∈wy G p,lv R j w)/\∀ w∈wy G p,∀ i,lv R i w->j<=i)/\((∀ k,¬ lv R k p)->∀ w∈wy G p,∀ i,¬ lv R i w):=by
 have mk:∀ i w,w∈wy G p->lv R i w->(∀ j,j<=i->¬ lv R j p)->lv R (i+1) p:=λi w nT hl vi=>by
  refine h.on hp (by (clear hp hi hw ho vi;omega)) (CP hl) (vz.mpr ⟨hi,λz=>?_,?_⟩)
  ·obtain⟨j,hj,qP⟩:=mR.mp z
   exact vi j (by (clear hp hi hw ho vi;omega)) qP
  ·rw[if_pos ho]
   exact⟨w,nT,mR.mpr ⟨i,by (clear hp hi hw ho vi;omega),hl⟩⟩
 constructor
 ·intro k hk
  cases k with
  | zero=>rw[((h.zero hp).mp hk).2] at hw;cases hw
  | succ j =>
   obtain⟨_,c2,c3⟩:=vz.mp (h.chr (by (clear hp hi hw ho mk;omega)) hk)
   rw[if_pos ho] at c3
   have least:∀ w∈wy G p,∀ i,lv R i w->j<=i:=λw nT i hl=>by
    rcases cY i j with c | c
    ·have:=mk i w nT hl λj' hj' Nv=>by have:=nq h.nd Nv hk;(clear hp hi hw ho mk c2;omega)
     have:=nq h.nd this hk
     (clear hp hi hw ho mk c2 c;omega)
    ·exact c
   obtain⟨w,nT,oM⟩:=c3
   obtain⟨i,WG,hl⟩:=mR.mp oM
   have:=least w nT i hl
   have e:i=j:=by (clear hp hi hw ho mk c2 least;omega)
   subst e
   exact⟨i,rfl,⟨w,nT,hl⟩,least⟩
 ·intro vi w nT i hl
  exact vi _ (mk i w nT hl λj _=>vi j)
theorem Lay.oth (h:Lay G hand ins want R) {p:Int} (hp:0<=p/\p<G.length) (hi:ins p=true) (hw:want p=false) (ho:¬ hd G p=hand) :
  (∀ k,lv R k p->∃ j,k=j+1/\(∃ w∈wy G p,ins w=true/\lv R j w)/\∀ w∈wy G p,ins w=true->∃ i,i<=j/\lv R i w) /\
  ((∀ k,¬ lv R k p)->(∀ w∈wy G p,ins w=false)\/∃ w∈wy G p,ins w=true/\∀ i,¬ lv R i w):=by
 have mk:∀ k,1<=k->k<=R.length->(∃ w∈wy G p,ins w=true)->(∀ w∈wy G p,ins w=true->∃ i,i<k/\lv R i w)->(∀ j,j<k->¬ lv R j p)->lv R k p:=λk k0 k1 he ha vi=>by
  refine h.on hp k0 k1 (vz.mpr ⟨hi,λz=>?_,?_⟩)
  ·obtain⟨j,hj,qP⟩:=mR.mp z
   exact vi j hj qP
  ·rw[if_neg ho]
   exact⟨he,λw nT oM=>mR.mpr (ha w nT oM)⟩
 constructor
 ·intro k hk
  cases k with
  | zero=>rw[((h.zero hp).mp hk).2] at hw;cases hw
  | succ j =>
   obtain⟨_,c2,c3⟩:=vz.mp (h.chr (by (clear hp hi hw ho mk;omega)) hk)
   rw[if_neg ho] at c3
   obtain⟨he,ha⟩:=c3
   have Kn:∀ w∈wy G p,ins w=true->∃ i,i<j+1/\lv R i w:=λw nT oM=>mR.mp (ha w nT oM)
   refine⟨j,rfl,?_,λw nT oM=>by obtain⟨i,a,b⟩:=Kn w nT oM;exact⟨i,by (clear hp hi hw ho mk c2 ha Kn oM;omega),b⟩⟩
   refine b6 λvi=>?_
   have hl:∀ w∈wy G p,ins w=true->∃ i,i<j/\lv R i w:=λw nT oM=>by
    obtain⟨i,a,b⟩:=Kn w nT oM
    rcases cY i j with c | c
    ·exact⟨i,c,b⟩
    ·have:i=j:=by (clear hp hi hw ho mk c2 ha Kn vi oM;omega)
     subst this
     exact (vi ⟨w,nT,oM,b⟩).elim
   obtain⟨w,nT,oM⟩:=he
   obtain⟨i,FE,_⟩:=hl w nT oM
   have:=CP hk
   have h2:=mk j (by (clear hp hi hw ho mk c2 ha Kn vi hl oM this;omega)) (by (clear hp hi hw ho mk c2 ha Kn vi hl oM FE;omega)) ⟨w,nT,oM⟩ hl λj' hj' Nv=>by have:=nq h.nd Nv hk;(clear hp hi hw ho mk c2 ha Kn vi hl oM FE;omega)
   have:=nq h.nd h2 hk
   (clear hp hi hw ho mk c2 ha Kn vi hl oM FE;omega)
 ·intro vi
  refine b6 λhn=>?_
  have he:∃ w∈wy G p,ins w=true:=b6 λz=>hn (.inl λw nT=>by
   cases e:ins w with
   | false=>rfl
   | true=>exact (z ⟨w,nT,e⟩).elim)
  have ha:∀ w∈wy G p,ins w=true->∃ i,i<R.length/\lv R i w:=λw nT oM=>b6 λz=>hn (.inr ⟨w,nT,oM,λi hl=>z ⟨i,CP hl,hl⟩⟩)
  obtain⟨w,nT,oM⟩:=he
  obtain⟨i,FE,_⟩:=ha w nT oM
  exact vi _ (mk R.length (by (clear hp hi hw ho mk vi hn ha oM;omega)) (aA _) ⟨w,nT,oM⟩ ha λj _=>vi j)
end
end Law
namespace L2
open PySem PySem.Spec PyProof.Rows
theorem Kg {K:ak} {a b:ah} {xs ys:List V} {g:TG} {tb:TS} {D:Ends} {σ:St} {H:Hp} (n:Nat) (NA:n<=xs.length) (KH:n<=ys.length) (hn:n=xs.length\/n=ys.length) (Pv:Nat->St->Hp->Prop) (h0:Pv 0 σ H) (hl:∀ i σ H,i<=n->Pv i σ H->bI K H a xs/\bI K H b ys)
  (hs:∀ i x y σ H T,i<n->xs[i]?=some x->ys[i]?=some y->Pv i σ H->H T=none->g (.ref T) σ (upd H T (.tup [x,y])) λσ2 H2=>tb { D with nx:=Pv (i+1),ct:=Pv (i+1),bk:=D.nx } σ2 H2) (hd:∀ σ H,Pv n σ H->D.nx σ H) :
  ∃ W:Nat->Nat->St->Hp->Prop,(∃ m,W 0 m σ H)/\∀ i m σ H,W i m σ H ->
   ((Qo K a b).stop i H/\D.nx σ H)\/((Qo K a b).go i H/\∃ N:St->Hp->Prop,(∀ σ' H',N σ' H'->∃ m',m'<m/\W (i+1) m' σ' H')/\∀ x H',(Qo K a b).Dv i H x H'->g x σ H' λσ2 H2=>tb { D with nx:=N,ct:=N,bk:=D.nx } σ2 H2):=by
 refine⟨λi m σ H=>m=n-i/\i<=n/\Pv i σ H,⟨n,by simp,bE _,h0⟩,?_⟩
 rintro i m σ H ⟨rfl,hi,p⟩
 obtain⟨q,q2⟩:=hl i σ H hi p
 by_cases ji:i<n
 ·refine .inr ⟨⟨xs,ys,xs[i]'(by omega),ys[i]'(by omega),q,q2,by simp,by simp⟩,Pv (i+1),λσ' H' p'=>⟨n-(i+1),by (clear NA KH hn hl hs hd hi;omega),rfl,ji,p'⟩,λx H' y=>?_⟩
  obtain⟨T,u,v,rfl,hT,e1,e2,rfl⟩:=y
  exact hs i u v σ _ T ji (e1 xs q) (e2 ys q2) p hT
 ·have e:i=n:=by (clear NA KH hn hl hs hd;omega)
  subst e
  refine .inl ⟨⟨xs,ys,q,q2,?_⟩,hd σ H p⟩
  rcases hn with h | h
  ·exact .inl (by omega)
  ·exact .inr (by omega)
theorem yN (xs:List V):Ht xs (some 1) none=xs.drop 1:=by
 unfold Ht
 show List.take _ (List.drop (HT.BM xs.length 0 (some ((1:Nat):Int))) xs)=_
 rw[HT.Py,HT.Ma]
 cases xs with
 | nil=>rfl
 | cons x xs =>
  have:min 1 (x::xs).length=1:=by simp
  show List.take ((x::xs).length-min 1 (x::xs).length) (List.drop (min 1 (x::xs).length) (x::xs))=_
  rw[this]
  refine qg ?_
  simp
def oW:Option Int->V
 | none=>.e8
 | some z=>.int z
def om (n:Nat) (f:Int->Option Int):List V:=(bO n).map λp=>oW (f ((p:Nat):Int))
theorem nu (n:Nat) (f:Int->Option Int):(om n f).length=n:=by unfold om;simp
theorem C3 {n:Nat} {f g:Int->Option Int} (h:∀ p:Int,0<=p->p<n->f p=g p):om n f=om n g:=by
 unfold om
 refine mD λp hp=>?_
 rw[h _ (by omega) (by have:=d8.mp hp;omega)]
theorem F1 {n:Nat} {f:Int->Option Int} {z:Int} (h0:0<=z) (h1:z<n):(om n f)[z.toNat]?=some (oW (f z)):=by
 unfold om
 rw[aB,eM (by omega)]
 show some (oW (f ((z.toNat:Nat):Int)))=_
 rw[mO h0]
theorem T5 {n:Nat} {f:Int->Option Int} {z v:Int} (h0:0<=z) (h1:z<n):(om n f).set z.toNat (.int v)=om n λx=>if x=z then some v else f x:=by
 apply cV
 intro p
 by_cases hp:p<n
 ·by_cases e:p=z.toNat
  ·subst e
   rw[cX (by rw[nu];exact hp),F1 h0 h1,if_pos rfl];rfl
  ·rw[cW (cS e)]
   have kx:¬ ((p:Nat):Int)=z:=by (clear h0 h1 hp;omega)
   unfold om
   rw[aB,aB,eM hp]
   simp[kx]
 ·rw[aU (by rw[fH,nu];omega),aU (by rw[nu];omega)]
theorem LA (n:Nat):(aH n [V.e8]).flatten=om n λ_=>none:=by
 unfold om
 induction n with
 | zero=>rfl
 | succ n ih=>rw[rS,fN,ih,iI,aM];rfl
end L2
namespace Law
open PySem L2
def CZ (R:List (List Int)) (k:Nat):List Int:=(R[k]?).getD []
theorem K6 {R:List (List Int)} {k:Nat} {p:Int}:lv R k p↔p∈CZ R k:=by
 unfold lv CZ
 cases e:R[k]? with
 | none=>simp
 | some L=>simp
def Dc (G:List Row) (R:List (List Int)) (p:Int) (k:Nat):Option Int:=((wy G p).filter λw=>decide (w∈CZ R k)).head?
def PR (G:List Row) (R:List (List Int)) (S:Nat->Int->Prop) (X:Int->Option Int):Prop:=∀ p:Int,0<=p->p<G.length->(∀ k,S k p->X p=Dc G R p k)/\((∀ k,¬ S k p)->X p=none)
section
variable {G:List Row} {hand:Int} {ins want:Int->Bool} {R:List (List Int)}
theorem PR.congr {S S':Nat->Int->Prop} {X:Int->Option Int} (h:PR G R S X) (e:∀ k p,S k p↔S' k p):PR G R S' X:=λp p0 p1=>by
 obtain⟨a,b⟩:=h p p0 p1
 exact⟨λk hk=>a k ((e k p).mpr hk),λhn=>b λk hk=>hn k ((e k p).mp hk)⟩
theorem PR.set {S S':Nat->Int->Prop} {X:Int->Option Int} {z v:Int} {i:Nat} (h:PR G R S X) (e:∀ k p,p≠z->(S' k p↔S k p)) (hz:∀ k,S' k z↔k=i) (hv:Dc G R z i=some v):PR G R S' (λx=>if x=z then some v else X x):=λp p0 p1=>by
 by_cases c:p=z
 ·subst c
  show (∀ k,S' k p->(if p=p then some v else X p)=_)/\((∀ k,¬ S' k p)->(if p=p then some v else X p)=none)
  rw[if_pos rfl]
  refine⟨λk hk=>?_,λhn=>(hn i ((hz i).mpr rfl)).elim⟩
  rw[(hz k).mp hk,hv]
 ·show (∀ k,S' k p->(if p=z then some v else X p)=_)/\((∀ k,¬ S' k p)->(if p=z then some v else X p)=none)
  rw[if_neg c]
  obtain⟨a,b⟩:=h p p0 p1
  exact⟨λk hk=>a k ((e k p c).mp hk),λhn=>b λk hk=>hn k ((e k p c).mpr hk)⟩
theorem PR.zero (S:Nat->Int->Prop) (h:∀ k p,¬ S k p):PR G R S (λ_=>none):=λp _ _=>⟨λk hk=>(h k p hk).elim,λ_=>rfl⟩
theorem Lay.Ic (hL:Lay G hand ins want R) {i:Nat} {w:Int} (h:lv R i w):ins w=true:=hL.li.Ic w (ck _ (sH.mpr ⟨i,h⟩))
theorem Lay.rg (hL:Lay G hand ins want R) {i:Nat} {w:Int} (h:lv R i w):0<=w/\w<G.length:=hL.li.rg w (ck _ (sH.mpr ⟨i,h⟩))
theorem Lay.QW (hL:Lay G hand ins want R) {i:Nat} {p:Int} (h:lv R (i+1) p):want p=false:=by
 cases e:want p with
 | false=>rfl
 | true =>
  have h0:=(hL.zero (hL.rg h)).mpr ⟨hL.Ic h,e⟩
  have:=nq hL.nd h0 h
  omega
theorem Lay.pick (hL:Lay G hand ins want R) {i:Nat} {p:Int} (h:lv R (i+1) p) (ho:hd G p=hand):∃ v,Dc G R p i=some v/\v∈wy G p/\lv R i v:=by
 obtain⟨j,e,⟨w,nT,oM⟩,_⟩:=(hL.own (hL.rg h) (hL.Ic h) (hL.QW h) ho).1 _ h
 have:i=j:=by (clear ho;omega)
 subst this
 have hm:w∈(wy G p).filter λw=>decide (w∈CZ R i):=bF.mpr ⟨nT,decide_eq_true (K6.mp oM)⟩
 unfold Dc
 cases e:(wy G p).filter λw=>decide (w∈CZ R i) with
 | nil=>rw[e] at hm;cases hm
 | cons v vs =>
  have hv:v∈(wy G p).filter λw=>decide (w∈CZ R i):=by rw[e];exact aP ..
  obtain⟨a,b⟩:=bF.mp hv
  exact⟨v,rfl,a,K6.mpr (of_decide_eq_true b)⟩
theorem D6 {l:List Int} (h:l.Pairwise (·<·)) {M v:Int} (hv:l.head?=some v) (hM:M∈l) (SL:∀ k∈l,M<=k):M=v:=by
 cases l with
 | nil=>cases hM
 | cons a l =>
  have:a=v:=by simpa using hv
  subst this
  rcases aE.mp hM with e | e
  ·exact e
  ·have:=SL a (aP ..)
   have:=(nI.mp h).1 M e
   omega
end
end Law
namespace L2
open PySem PySem.Spec PyProof.Rows
theorem N3 {α:Type} [DecidableEq α] (x y:α):(x == y)=decide (x=y):=by rw[eQ];simp
structure EqD {α:Type} [DecidableEq α] (n:Nat) (R:Rel α):Prop where
 go:∀ (X:Cx) (pins:List (ah × d6)) (σ:St) (H:Hp) (s:ai) (A:bp) (x y:α) (v w:V) (u1 u2:ae),
  Inv X pins σ H s->A.units+n<jx->R H x v->R H y w->RelV v u1->RelV w u2->jV A s u1 u2 (decide (x=y))
 inj:∀ (H:Hp) (x y:α) (v:V),R H x v->R H y v->x=y
structure RcD {α:Type} [DecidableEq α] (n:Nat) (R:Rel α):Prop where
 go:∀ (X:Cx) (pins:List (ah × d6)) (σ:St) (H:Hp) (s:ai) (A:bp) (x y:α) (v w:V) (u1 u2:ae),
  Inv X pins σ H s->A.units+n<jx->R H x v->R H y w->RelV v u1->RelV w u2->JR A s u1 u2 (decide (x=y))/\DS A s u1 u2 (!decide (x=y))
 inj:∀ (H:Hp) (x y:α) (v:V),R H x v->R H y v->x=y
theorem Kc:EqD 0 (Uj gG):=by
 refine⟨λX pins σ H s A x y v w u1 u2 I hu h1 h2 r1 r2=>?_,λH x y v h1 h2=>?_⟩
 ·cases x with
  | none =>
   have e1:v=.e8:=h1
   subst e1
   cases y with
   | none =>
    have e2:w=.e8:=h2
    subst e2
    have:=ud (A:=A) (s:=s) r1 r2 rfl rfl
    simpa [D4,N3] using this
   | some y =>
    have e2:w=.int y:=h2
    subst e2
    have:=ud (A:=A) (s:=s) r1 r2 rfl rfl
    simpa [D4,N3] using this
  | some x =>
   have e1:v=.int x:=h1
   subst e1
   cases y with
   | none =>
    have e2:w=.e8:=h2
    subst e2
    have:=ud (A:=A) (s:=s) r1 r2 rfl rfl
    simpa [D4,N3] using this
   | some y =>
    have e2:w=.int y:=h2
    subst e2
    have:=ud (A:=A) (s:=s) r1 r2 rfl rfl
    simpa [D4,N3] using this
 ·cases x with
  | none =>
   have e1:v=.e8:=h1
   cases y with
   | none=>rfl
   | some y=>have e2:v=.int y:=h2;rw[e1] at e2;cases e2
  | some x =>
   have e1:v=.int x:=h1
   cases y with
   | none=>have e2:v=.e8:=h2;rw[e1] at e2;cases e2
   | some y=>have e2:v=.int y:=h2;rw[e1] at e2;injection e2 with e;rw[e]
theorem wI {α:Type} {R:Rel α} {H:Hp} (hj:∀ (x y:α) (v:V),R H x v->R H y v->x=y):∀ {xs ys:List α} {vs:List V},dP (R H) xs vs->dP (R H) ys vs->xs=ys
 | _,_,_,.nil,.nil=>rfl
 | _,_,_,.cons r t,.cons r' t'=>by rw[hj _ _ _ r r',wI hj t t']
theorem IV {α:Type} {R:Rel α} {H:Hp} {xs ys:List α} {vs ws:List V} {P7 Rf:List ae} (p1:dP (R H) xs vs) (p2:dP (R H) ys ws) (r1:Vals vs P7) (r2:Vals ws Rf) :
  P7.length=xs.length/\Rf.length=ys.length/\∀ (j:Nat) (a b:ae),P7[j]?=some a->Rf[j]?=some b->∃ x y v w,xs[j]?=some x/\ys[j]?=some y/\R H x v/\R H y w/\RelV v a/\RelV w b:=by
 have l1:=p1.length
 have l2:=p2.length
 have l3:=r1.length
 have l4:=r2.length
 refine⟨by omega,by (clear l1 l3;omega),λj a b ha hb=>?_⟩
 have hja:=(ag.mp ha).1
 have hjb:=(ag.mp hb).1
 have e1:xs[j]?=some (xs[j]'(by (clear l2 l4 hjb;omega))):=by simp
 have e2:ys[j]?=some (ys[j]'(by omega)):=by simp
 obtain⟨v,hv,rv⟩:=Paired.at p1 e1
 obtain⟨w,hw,IJ⟩:=Paired.at p2 e2
 obtain⟨a',Kn,ra⟩:=r1.get hv
 obtain⟨b',Aw,rb⟩:=r2.get hw
 rw[ha] at Kn;cases Kn
 rw[hb] at Aw;cases Aw
 exact⟨_,_,v,w,e1,e2,rv,IJ,ra,rb⟩
theorem RU {α:Type} [DecidableEq α]:∀ (xs ys:List α),xs.length=ys.length->((bO xs.length).all λj=>decide (xs[j]?=ys[j]?))=decide (xs=ys):=λxs ys hl=>by
 rw[eQ,fZ,decide_eq_true_eq]
 constructor
 ·intro h
  apply cV
  intro j
  by_cases c:j<xs.length
  ·exact of_decide_eq_true (h j (d8.mpr c))
  ·rw[aU (by (clear hl h;omega)),aU (by omega)]
 ·rintro rfl j _;simp
theorem Pq {α:Type} [DecidableEq α] {n:Nat} {R:Rel α} (h:EqD n R):RcD (n+1) (gb R):=by
 refine⟨λX pins σ H s A xs ys v w u1 u2 I hu h1 h2 r1 r2=>?_,λH xs ys v h1 h2=>?_⟩
 ·obtain⟨a,vs,e1,ha,p1⟩:=h1
  obtain⟨b,ws,e2,hb,p2⟩:=h2
  subst e1;subst e2
  cases r1;cases r2
  obtain⟨cH,n1,rv1,o1,z1⟩:=I.lst ha
  obtain⟨l6,n2,II,o2,z2⟩:=I.lst hb
  obtain⟨el1,el2,f⟩:=IV p1 p2 rv1 II
  have oJ:s.heap.IsList a cH.toArray:=⟨_,o1,rfl,n1,rfl⟩
  have qP:s.heap.IsList b l6.toArray:=⟨_,o2,rfl,n2,rfl⟩
  by_cases hl:xs.length=ys.length
  ·have he:∀ j (h1:j<cH.toArray.size) (h2:j<l6.toArray.size),jV A.in1 s cH.toArray[j] l6.toArray[j] ((λj=>decide (xs[j]?=ys[j]?)) j):=λj h1 h2=>by
    obtain⟨x,y,v,w,e1,e2,q1,q2,q3,q4⟩:=f j (cH.toArray[j]) (l6.toArray[j]) (by simp) (by simp)
    have:=h.go X pins σ H s A.in1 x y v w _ _ I (by show A.units+1+n<jx;omega) q1 q2 q3 q4
    show jV A.in1 s _ _ (decide (xs[j]?=ys[j]?))
    rw[e1,e2]
    have e9:decide (some x=some y)=decide (x=y):=by simp
    rw[e9];exact this
   have A1:=Fn oJ qP (by simp;(clear hu z1 z2 f he;omega)) (by omega) he
   have A2:=BI oJ qP (by simp;(clear hu z1 z2 f he;omega)) (by omega) he
   have es:cH.toArray.size=xs.length:=by simp;omega
   rw[es,RU xs ys hl] at A1 A2
   exact⟨A1,A2⟩
  ·have kx:(cH.toArray.size != l6.toArray.size)=true:=by
    simp only [bu,bne_iff_ne];(clear hu z1 z2 f;omega)
   have e9:decide (xs=ys)=false:=decide_eq_false λz=>hl (by rw[z])
   rw[e9]
   exact⟨SeqAt.RcAt.lists_lengths oJ qP kx (by omega),SeqAt.RcNeAt.lists_lengths oJ qP kx (by omega)⟩
 ·obtain⟨a,vs,e1,ha,p1⟩:=h1
  obtain⟨b,ws,e2,hb,p2⟩:=h2
  rw[e1] at e2;cases e2
  rw[ha] at hb;cases hb
  exact wI (h.inj H) p1 p2
section
variable {X:Cx}
theorem T7 {α:Type} [DecidableEq α] {n:Nat} {R:Rel α} (ok:RcD n R) (hu:X.A.units+n<jx):uX X (dz .NotEq) (λv w H Q=>∃ x y,R H x v/\R H y w/\Q (.bl (!decide (x=y))) H):=by
 intro pins s σ H v w u1 u2 Q I r1 r2 h
 obtain⟨x,y,h1,h2,q⟩:=h
 exact (ok.go X pins σ H s _ x y v w u1 u2 I hu h1 h2 r1 r2).2 _ _ _ _ ⟨.bl (!decide (x=y)),H,I,rfl,q⟩
end
end L2
namespace Law
open PySem L2
def NE (G:List Row):Prop:=∀ row∈G,row.2.2≠[]
def VC (G:List Row):Prop:=∀ row∈G,row.1=0\/row.1=1
theorem Y6 {G:List Row} (h:NE G) {p:Int} (hp:0<=p/\p<G.length):∃ w,w∈wy G p:=by
 obtain⟨row,iT⟩:∃ row,G[p.toNat]?=some row:=⟨G[p.toNat]'(by omega),by simp⟩
 rw[xo iT]
 have:=h row (am iT)
 cases e:row.2.2 with
 | nil=>exact absurd e this
 | cons a l=>exact⟨a,aP ..⟩
theorem Wr {G:List Row} (h:VC G) {p:Int} (hp:0<=p/\p<G.length):hd G p=0\/hd G p=1:=by
 obtain⟨row,iT⟩:∃ row,G[p.toNat]?=some row:=⟨G[p.toNat]'(by omega),by simp⟩
 rw[Cw iT]
 exact h row (am iT)
section
variable {G:List Row} {hand:Int} {want:Int->Bool} {R:List (List Int)}
end
def y8 (G:List Row) (hand:Int) (S:List Int) (p:Int):Option Int:=if decide (p∈S) && decide (hd G p=hand) then ((wy G p).filter λw=>decide (w∈S)).head? else none
theorem FQ {G:List Row} {hand:Int} {S:List Int} {p:Int} (h1:p∈S) (h2:hd G p=hand) (h3:∃ w∈wy G p,w∈S):∃ v,((wy G p).filter λw=>decide (w∈S)).head?=some v/\y8 G hand S p=some v/\v∈wy G p/\v∈S:=by
 obtain⟨w,nT,oM⟩:=h3
 have hm:w∈(wy G p).filter λw=>decide (w∈S):=bF.mpr ⟨nT,decide_eq_true oM⟩
 unfold y8
 rw[decide_eq_true h1,decide_eq_true h2]
 cases e:(wy G p).filter λw=>decide (w∈S) with
 | nil=>rw[e] at hm;cases hm
 | cons v vs =>
  have hv:v∈(wy G p).filter λw=>decide (w∈S):=by rw[e];exact aP ..
  obtain⟨a,b⟩:=bF.mp hv
  exact⟨v,rfl,rfl,a,of_decide_eq_true b⟩
theorem a0A {G:List Row} {hand:Int} {S:List Int} {p:Int} (h:¬ (p∈S/\hd G p=hand)):y8 G hand S p=none:=by
 unfold y8
 rw[if_neg]
 rw[bU,decide_eq_true_eq,decide_eq_true_eq];exact h
end Law
namespace L2
open PySem PySem.Spec PyProof.Rows
structure ClsAt (K:ak) (mg:aT->Option ae) (x:aT) (C:ah) (fs:List aT):Prop where
 cl:BC K C
 mgC:mg x=some (.ref C)
 na:∀ f∈fs,lW K C f
structure iG (K:ak) (C:ah) (m qual:aT) (st:cL) (ps:List aT):Prop where
 ex:∃ f fd,Fe K m qual st f fd/\Meth K C m f/\Binds K fd ps []
structure uW (K:ak) (C:ah) (qual:aT) (st:cL) (ps:List aT):Prop where
 ex:∃ f fd,Fe K "__init__" qual st f fd/\Mk K C f/\Binds K fd ps []
structure xI (P:aO) (w:bD) (K:ak) (mg:aT->Option ae) (base:bT) (C:ah) (m:aT) (n:Nat) (ps:List aT) (sp:Sp):Prop where
 ex:∃ f fd,nO P w K mg base xH n f fd ps sp/\Meth K C m f/\Binds K fd ps []
structure Qk (P:aO) (w:bD) (K:ak) (mg:aT->Option ae) (base:bT) (C:ah) (n:Nat) (ps:List aT) (sp:Sp):Prop where
 ex:∃ f fd,nO P w K mg base xH n f fd ps sp/\Mk K C f/\Binds K fd ps []
section
variable {P:aO} {w:bD} {K:ak} {mg:aT->Option ae} {base:bT}
theorem iG.ok {C:ah} {m qual:aT} {st:cL} {N ps:List aT} {k:Nat} {sp:Sp} (F:iG K C m qual st ps) (S:bG N ps (aC st)) (len:∀ vs H Q E,sp vs H Q E->vs.length=ps.length)
  (kW:∀ (f:ah) (dk:ae) (A:bp) (outer:List qA) (s:ai) (H:Hp) (vs:List V) (Q:VK) (E:XK),eP k (A.deeper (lI qual (aC st) s.heap.objs.size f dk))->sp vs H Q E ->
   ∃ t,uY (rj xH P w K mg base N qual (aC st) f dk A outer s H E).wC (fk st) t/\t { nx:=λ_ H'=>Q .e8 H',rt:=Q } (start N vs) H):xI P w K mg base C m (k+1) ps sp:=by
 obtain⟨f,fd,F,hm,hb⟩:=F.ex
 exact⟨f,fd,F.ok S len λdk A outer s H vs Q E=>kW f dk A outer s H vs Q E,hm,hb⟩
theorem uW.ok {C:ah} {qual:aT} {st:cL} {N ps:List aT} {k:Nat} {sp:Sp} (F:uW K C qual st ps) (S:bG N ps (aC st)) (len:∀ vs H Q E,sp vs H Q E->vs.length=ps.length)
  (kW:∀ (f:ah) (dk:ae) (A:bp) (outer:List qA) (s:ai) (H:Hp) (vs:List V) (Q:VK) (E:XK),eP k (A.deeper (lI qual (aC st) s.heap.objs.size f dk))->sp vs H Q E ->
   ∃ t,uY (rj xH P w K mg base N qual (aC st) f dk A outer s H E).wC (fk st) t/\t { nx:=λ_ H'=>Q .e8 H',rt:=Q } (start N vs) H):Qk P w K mg base C (k+1) ps sp:=by
 obtain⟨f,fd,F,hm,hb⟩:=F.ex
 exact⟨f,fd,F.ok S len λdk A outer s H vs Q E=>kW f dk A outer s H vs Q E,hm,hb⟩
end
section
variable {X:Cx}
theorem mh {C:ah} {m:aT} {n k:Nat} {ps:List aT} {sp:Sp} {o e:bR} {es:List bR} {ta:TE} {t:TA} {apos pos:gR} {pl:RP Bool} (cl:BC X.K C) (D:xI X.prog X.w X.K X.mg X.base C m n ps sp) (hr:eP k X.A) (he:PE X o ta) (ha:PA X (e::es) t) (hk:n<=k:=by decide)
  (o7:aV (e::es) X.env=(false,dU e X.env)::aV es X.env:=by rfl) (oT:(d9 pos (aV es X.env)).any (·.1)=false:=by rfl)
  (ht:dU (.Call (.Attribute o m apos) (e::es) [] pos) X.env=(do
   let ov ← dU o X.env
   oF apos.atName
   let (f,first) ← gK [ov] (mG ov m pl)
   u9 pos f first (d9 pos (aV (e::es) X.env)) (gF pos (d5 [] X.env))):=by rfl) :
  PE X (.Call (.Attribute o m apos) (e::es) [] pos) (sZ C m sp [] E0 ta t):=by
 obtain⟨f,fd,F,hm,hb⟩:=D.ex
 exact F9 he cl hm F (hr.mono hk) hb .nil LJ ha o7 oT ht
theorem EF {C:ah} {x:aT} {fs:List aT} {n k:Nat} {ps:List aT} {sp:Sp} {e:bR} {es:List bR} {t:TA} {p pos:gR} (CL:ClsAt X.K X.mg x C fs) (D:Qk X.prog X.w X.K X.mg X.base C n ps sp) (hr:eP k X.A) (ha:PA X (e::es) t) (hk:n+1<=k:=by decide) (hg:Gl X x:=by rfl)
  (Cy:(x == ("__debug__" : aT))=false:=by decide) (he:aV (e::es) X.env=(false,dU e X.env)::aV es X.env:=by rfl) (oT:(d9 pos (aV es X.env)).any (·.1)=false:=by rfl) :
  PE X (.Call (.Name x p) (e::es) [] pos) (Q7 C sp [] E0 t):=by
 obtain⟨f,fd,F,hm,hb⟩:=D.ex
 exact Pd hm F (hr.mono hk) hg CL.mgC hb .nil LJ ha Cy he oT
theorem bW {K:ak} {e:bR} {f:aT} {pos:gR} {ta:TE} (hK:X.K=K) (he:PE X e ta) (hb:qG e f X.env (dU e X.env)=dU e X.env):PE X (.Attribute e f pos) (YM K ta f):=by
 subst hK;exact Ub he hb
theorem fU {K:ak} {o value:bR} {f:aT} {pos pos':gR} {ta tv:TE} (hK:X.K=K) (ha:PE X o ta) (hv:PE X value tv) (hs:rK value (some (.Attribute o f pos')) pos.line X.env=pure false):PS X (.Assign [.Attribute o f pos'] value pos) (Yw K ta tv f):=by
 subst hK;exact Uf ha hv hs
end
def mn (H:Hp) (a b:ah):Hp:=del (del H a) b
section
variable {H H':Hp} {a b c:ah}
theorem pT (h1:c≠a) (h2:c≠b):mn H a b c=H c:=by unfold mn;rw[dJ h2,dJ h1]
theorem Lc:mn H a b a=none:=by
 unfold mn del
 by_cases c:a=b
 ·rw[if_pos c]
 ·rw[if_neg c,if_pos rfl]
theorem Ld:mn H a b b=none:=by unfold mn del;rw[if_pos rfl]
theorem FT {o:HO} (h:mn H a b c=some o):c≠a/\c≠b:=⟨λz=>(by rw[z,Lc] at h;cases h),λz=>(by rw[z,Ld] at h;cases h)⟩
theorem kQ:bh (mn H a b) H:=λc o h=>by
 obtain⟨h1,h2⟩:=FT h
 rw[pT h1 h2] at h;exact h
theorem j3 (s:bh H H'):bh (mn H a b) (mn H' a b):=λc o h=>by
 obtain⟨h1,h2⟩:=FT h
 rw[pT h1 h2] at h ⊢;exact s _ _ h
theorem pU (s:bh (mn H a b) H'):bh (mn H a b) (mn H' a b):=λc o h=>by
 obtain⟨h1,h2⟩:=FT h
 rw[pT h1 h2];exact s _ _ h
theorem XI (s:bh H H') (h1:H a=none) (h2:H b=none):bh H (mn H' a b):=λc o h=>by
 rw[pT (λz=>by rw[z,h1] at h;cases h) (λz=>by rw[z,h2] at h;cases h)];exact s _ _ h
theorem FW {o1 o2:HO} (h1:H a=some o1) (h2:H b=some o2):bh (nW H H') (mn H' a b):=λc o h=>by
 have hc:H c=none:=by
  cases e:H c with
  | none=>rfl
  | some u=>rw[uq e] at h;cases h
 rw[hU hc] at h
 rw[pT (λz=>by rw[z,h1] at hc;cases hc) (λz=>by rw[z,h2] at hc;cases hc)];exact h
theorem l8 {xs:List V} (h:H c=some (.lst xs)) (h1:c≠a) (h2:c≠b):mn H a b c=some (.lst xs):=by rw[pT h1 h2];exact h
theorem e7 {o:HO} (h:H a=some o) (hn:H c=none):c≠a:=λz=>by rw[z,h] at hn;cases hn
end
theorem Tq (n:Nat) (z:Int):(aH n [V.int z]).flatten=(im n λ_=>z).map V.int:=by
 unfold im
 induction n with
 | zero=>rfl
 | succ n ih=>rw[rS,fN,ih,iI,aM,aM];rfl
theorem Lz {n:Nat} {f:Int->Option Int} {z:Int} {o:Option Int} (h0:0<=z) (h1:z<n):(om n f).set z.toNat (oW o)=om n λx=>if x=z then o else f x:=by
 apply cV
 intro p
 by_cases hp:p<n
 ·by_cases e:p=z.toNat
  ·subst e
   rw[cX (by rw[nu];exact hp),F1 h0 h1,if_pos rfl]
  ·rw[cW (cS e)]
   have kx:¬ ((p:Nat):Int)=z:=by omega
   unfold om
   rw[aB,aB,eM hp]
   simp[kx]
 ·rw[aU (by rw[fH,nu];omega),aU (by rw[nu];omega)]
section
variable {K:ak} {i j:Nat} {σ:St} {H:Hp} {Q:VK} {a b C dx:ah} {xs ys:List V} {z c:Int} {v u:V} {f:aT} {fs:List (aT × V)}
end
theorem fe {t u:TS} {D:Ends} {σ:St} {H:Hp} (h:∀ E:Ends,E={ D with nx:=u D }->t E σ H):YS t u D σ H:=h _ rfl
theorem ff {u:TS} {E D:Ends} {σ:St} {H:Hp} (e:E={ D with nx:=u D }) (h:u D σ H):E.nx σ H:=by subst e;exact h
end L2
namespace L2
inductive Ql {A0 A1:Type} (p:A0->A1->Prop):Prop
 | mk (a0:A0) (a1:A1) (h:p a0 a1):Ql p
inductive Ex3 {A0 A1 A2:Type} (p:A0->A1->A2->Prop):Prop
 | mk (a0:A0) (a1:A1) (a2:A2) (h:p a0 a1 a2):Ex3 p
inductive Ex4 {A0 A1 A2 A3:Type} (p:A0->A1->A2->A3->Prop):Prop
 | mk (a0:A0) (a1:A1) (a2:A2) (a3:A3) (h:p a0 a1 a2 a3):Ex4 p
inductive Zc {A0 A1 A2 A3 A4:Type} (p:A0->A1->A2->A3->A4->Prop):Prop
 | mk (a0:A0) (a1:A1) (a2:A2) (a3:A3) (a4:A4) (h:p a0 a1 a2 a3 a4):Zc p
inductive Ex6 {A0 A1 A2 A3 A4 A5:Type} (p:A0->A1->A2->A3->A4->A5->Prop):Prop
 | mk (a0:A0) (a1:A1) (a2:A2) (a3:A3) (a4:A4) (a5:A5) (h:p a0 a1 a2 a3 a4 a5):Ex6 p
inductive Ex7 {A0 A1 A2 A3 A4 A5 A6:Type} (p:A0->A1->A2->A3->A4->A5->A6->Prop):Prop
 | mk (a0:A0) (a1:A1) (a2:A2) (a3:A3) (a4:A4) (a5:A5) (a6:A6) (h:p a0 a1 a2 a3 a4 a5 a6):Ex7 p
inductive Ex9 {A0 A1 A2 A3 A4 A5 A6 A7 A8:Type} (p:A0->A1->A2->A3->A4->A5->A6->A7->A8->Prop):Prop
 | mk (a0:A0) (a1:A1) (a2:A2) (a3:A3) (a4:A4) (a5:A5) (a6:A6) (a7:A7) (a8:A8) (h:p a0 a1 a2 a3 a4 a5 a6 a7 a8):Ex9 p
inductive Vx {A0 A1 A2 A3 A4 A5 A6 A7 A8 A9:Type} (p:A0->A1->A2->A3->A4->A5->A6->A7->A8->A9->Prop):Prop
 | mk (a0:A0) (a1:A1) (a2:A2) (a3:A3) (a4:A4) (a5:A5) (a6:A6) (a7:A7) (a8:A8) (a9:A9) (h:p a0 a1 a2 a3 a4 a5 a6 a7 a8 a9):Vx p
inductive Rx {A0 A1 A2 A3 A4 A5 A6 A7 A8 A9 M4:Type} (p:A0->A1->A2->A3->A4->A5->A6->A7->A8->A9->M4->Prop):Prop
 | mk (a0:A0) (a1:A1) (a2:A2) (a3:A3) (a4:A4) (a5:A5) (a6:A6) (a7:A7) (a8:A8) (a9:A9) (VS:M4) (h:p a0 a1 a2 a3 a4 a5 a6 a7 a8 a9 VS):Rx p
inductive Vy {A0 A1 A2 A3 A4 A5 A6 A7 A8 A9 M4 Rn:Type} (p:A0->A1->A2->A3->A4->A5->A6->A7->A8->A9->M4->Rn->Prop):Prop
 | mk (a0:A0) (a1:A1) (a2:A2) (a3:A3) (a4:A4) (a5:A5) (a6:A6) (a7:A7) (a8:A8) (a9:A9) (VS:M4) (a11:Rn) (h:p a0 a1 a2 a3 a4 a5 a6 a7 a8 a9 VS a11):Vy p
inductive Ry {A0 A1 A2 A3 A4 A5 A6 A7 A8 A9 M4 Rn Y8 Y9:Type} (p:A0->A1->A2->A3->A4->A5->A6->A7->A8->A9->M4->Rn->Y8->Y9->Prop):Prop
 | mk (a0:A0) (a1:A1) (a2:A2) (a3:A3) (a4:A4) (a5:A5) (a6:A6) (a7:A7) (a8:A8) (a9:A9) (VS:M4) (a11:Rn) (a12:Y8) (a13:Y9) (h:p a0 a1 a2 a3 a4 a5 a6 a7 a8 a9 VS a11 a12 a13):Ry p
inductive GW (p0 p1 p2 p3:Prop):Prop
 | mk (h0:p0) (h1:p1) (h2:p2) (h3:p3):GW p0 p1 p2 p3
inductive GX (p0 p1 p2 p3 p4:Prop):Prop
 | mk (h0:p0) (h1:p1) (h2:p2) (h3:p3) (h4:p4):GX p0 p1 p2 p3 p4
inductive NH (p0 p1 p2 p3 p4 p5:Prop):Prop
 | mk (h0:p0) (h1:p1) (h2:p2) (h3:p3) (h4:p4) (h5:p5):NH p0 p1 p2 p3 p4 p5
inductive JD (p0 p1 p2 p3 p4 p5 p6:Prop):Prop
 | mk (h0:p0) (h1:p1) (h2:p2) (h3:p3) (h4:p4) (h5:p5) (h6:p6):JD p0 p1 p2 p3 p4 p5 p6
inductive Ro (p0 p1 p2 p3 p4 p5 p6 p7:Prop):Prop
 | mk (h0:p0) (h1:p1) (h2:p2) (h3:p3) (h4:p4) (h5:p5) (h6:p6) (h7:p7):Ro p0 p1 p2 p3 p4 p5 p6 p7
inductive Vv (p0 p1 p2 p3 p4 p5 p6 p7 p8:Prop):Prop
 | mk (h0:p0) (h1:p1) (h2:p2) (h3:p3) (h4:p4) (h5:p5) (h6:p6) (h7:p7) (h8:p8):Vv p0 p1 p2 p3 p4 p5 p6 p7 p8
inductive JB (p0 p1 p2 p3 p4 p5 p6 p7 p8 p9:Prop):Prop
 | mk (h0:p0) (h1:p1) (h2:p2) (h3:p3) (h4:p4) (h5:p5) (h6:p6) (h7:p7) (h8:p8) (h9:p9):JB p0 p1 p2 p3 p4 p5 p6 p7 p8 p9
inductive JC (p0 p1 p2 p3 p4 p5 p6 p7 p8 p9 QX:Prop):Prop
 | mk (h0:p0) (h1:p1) (h2:p2) (h3:p3) (h4:p4) (h5:p5) (h6:p6) (h7:p7) (h8:p8) (h9:p9) (Wg:QX):JC p0 p1 p2 p3 p4 p5 p6 p7 p8 p9 QX
inductive Qe (p0 p1 p2 p3 p4 p5 p6 p7 p8 p9 QX Yb Yc:Prop):Prop
 | mk (h0:p0) (h1:p1) (h2:p2) (h3:p3) (h4:p4) (h5:p5) (h6:p6) (h7:p7) (h8:p8) (h9:p9) (Wg:QX) (h11:Yb) (h12:Yc):Qe p0 p1 p2 p3 p4 p5 p6 p7 p8 p9 QX Yb Yc
inductive Qf (p0 p1 p2 p3 p4 p5 p6 p7 p8 p9 QX Yb Yc p13 p14 p15:Prop):Prop
 | mk (h0:p0) (h1:p1) (h2:p2) (h3:p3) (h4:p4) (h5:p5) (h6:p6) (h7:p7) (h8:p8) (h9:p9) (Wg:QX) (h11:Yb) (h12:Yc) (h13:p13) (h14:p14) (h15:p15):Qf p0 p1 p2 p3 p4 p5 p6 p7 p8 p9 QX Yb Yc p13 p14 p15
end L2
namespace Law
open PySem L2
def rk (G:List Row) (p:Int):Int:=((G[p.toNat]?).getD (0,0,[])).2.1
theorem Q3 {G:List Row} {p:Int} {r:Row} (h:G[p.toNat]?=some r):rk G p=r.2.1:=by unfold rk;rw[h];rfl
inductive TG (r:Int->Int->Prop):Int->Int->Prop
 | one {a b:Int}:r a b->TG r a b
 | cons {a b c:Int}:r a b->TG r b c->TG r a c
theorem TG.imp {r s:Int->Int->Prop} (h:∀ x y,r x y->s x y) {a b:Int} (t:TG r a b):TG s a b:=by
 induction t with
 | one e=>exact .one (h _ _ e)
 | cons e _ ih=>exact .cons (h _ _ e) ih
theorem TG.fwd {r s:Int->Int->Prop} {Q:Int->Prop} (h:∀ x y,r x y->Q x->Q y/\s x y) {a b:Int} (t:TG r a b) (qa:Q a):Q b/\TG s a b:=by
 induction t with
 | one e=>exact⟨(h _ _ e qa).1,.one (h _ _ e qa).2⟩
 | cons e _ ih =>
  obtain⟨h1,h2⟩:=h _ _ e qa
  obtain⟨h3,h4⟩:=ih h1
  exact⟨h3,.cons h2 h4⟩
theorem TG.bwd {r s:Int->Int->Prop} {Q:Int->Prop} (h:∀ x y,r x y->Q y->Q x/\s x y) {a b:Int} (t:TG r a b) (qb:Q b):Q a/\TG s a b:=by
 induction t with
 | one e=>exact⟨(h _ _ e qb).1,.one (h _ _ e qb).2⟩
 | cons e _ ih =>
  obtain⟨h3,h4⟩:=ih qb
  obtain⟨h1,h2⟩:=h _ _ e h3
  exact⟨h1,.cons h2 h4⟩
def ed (G:List Row) (wf:Int->Option Int) (h:Int) (x y:Int):Prop:=if hd G x=h then wf x=some y else y∈wy G x
theorem D3 {G:List Row} {wf:Int->Option Int} {h x y:Int} (e:hd G x=h):ed G wf h x y↔wf x=some y:=by unfold ed;rw[if_pos e]
theorem Ar {G:List Row} {wf:Int->Option Int} {h x y:Int} (e:¬ hd G x=h):ed G wf h x y↔y∈wy G x:=by unfold ed;rw[if_neg e]
theorem sf {G:List Row} {wf wf':Int->Option Int} {h x y:Int} (e:wf x=wf' x):ed G wf h x y↔ed G wf' h x y:=by unfold ed;rw[e]
def aaV (G:List Row) (wf:Int->Option Int) (h:Int) (D:Int->Prop):Prop:=∀ p,D p->rk G p % 2≠h->¬ TG (λx y=>(D x/\D y/\ed G wf h x y)/\rk G x<=rk G p/\rk G y<=rk G p) p p
structure yz (G:List Row) (P:Int->Prop) (wf:Int->Option Int) (h:Int) (D:Int->Prop):Prop where
 sub:∀ p,D p->P p
 own:∀ p,D p->hd G p=h->∃ q,wf p=some q/\q∈wy G p/\D q
 oth:∀ p,D p->¬ hd G p=h->wf p=none/\∀ q∈wy G p,P q->D q
 nb:aaV G wf h D
theorem yz.congr {G:List Row} {P:Int->Prop} {wf wf':Int->Option Int} {h:Int} {D D':Int->Prop} (w:yz G P wf h D) (e:∀ p,D p->wf p=wf' p) (Np:∀ p,D p↔D' p):yz G P wf' h D':=by
 refine⟨λp hp=>w.sub p ((Np p).mpr hp),λp hp ho=>?_,λp hp ho=>?_,λp hp hr t=>?_⟩
 ·obtain⟨q,a,b,c⟩:=w.own p ((Np p).mpr hp) ho
  exact⟨q,by rw[← e p ((Np p).mpr hp)];exact a,b,(Np q).mp c⟩
 ·obtain⟨a,b⟩:=w.oth p ((Np p).mpr hp) ho
  exact⟨by rw[← e p ((Np p).mpr hp)];exact a,λq hq hP=>(Np q).mp (b q hq hP)⟩
 ·refine w.nb p ((Np p).mpr hp) hr (t.imp λx y z=>?_)
  obtain⟨⟨a,b,c⟩,d⟩:=z
  have ax:=(Np x).mpr a
  exact⟨⟨ax,(Np y).mpr b,(sf (e x ax)).mpr c⟩,d⟩
structure RQ (G:List Row) (P:Int->Prop) (hf:Int->Int) (wf:Int->Option Int):Prop where
 n4:∀ p,P p->hf p=0\/hf p=1
 won:∀ h,h=0\/h=1->yz G P wf h (λp=>P p/\hf p=h)
theorem yz.empty {G:List Row} {P:Int->Prop} {wf:Int->Option Int} {h:Int} {D:Int->Prop} (e:∀ p,¬ D p):yz G P wf h D :=
 ⟨λp hp=>(e p hp).elim,λp hp=>(e p hp).elim,λp hp=>(e p hp).elim,λp hp=>(e p hp).elim⟩
def Zq (G:List Row) (P:Int->Prop):Prop:=∀ p,P p->∃ w∈wy G p,P w
section
variable {G:List Row} {hand:Int} {left:List Int} {want:Int->Bool} {R:List (List Int)}
theorem F0 (hL:Lay G hand (λx=>decide (x∈left)) want R) (hr:∀ x∈left,0<=x/\x<G.length) (ht:Zq G (·∈left)) {rest:List Int} (su:∀ p,p∈rest↔p∈left/\∀ k,¬ lv R k p) :
  Zq G (·∈rest)/\∀ p∈rest,hd G p=hand->∀ w∈wy G p,w∈left->w∈rest:=by
 have hnw:∀ p∈rest,want p=false:=λp hp=>by
  obtain⟨a,b⟩:=(su p).mp hp
  cases e:want p with
  | false=>rfl
  | true=>exact (b 0 ((hL.zero (hr p a)).mpr ⟨decide_eq_true a,e⟩)).elim
 have own:∀ p∈rest,hd G p=hand->∀ w∈wy G p,w∈left->w∈rest:=λp hp ho w hw hl=>by
  obtain⟨a,b⟩:=(su p).mp hp
  exact (su w).mpr ⟨hl,λi=>(hL.own (hr p a) (decide_eq_true a) (hnw p hp) ho).2 b w hw i⟩
 refine⟨λp hp=>?_,own⟩
 obtain⟨a,b⟩:=(su p).mp hp
 obtain⟨w,hw,rD⟩:=ht p a
 by_cases ho:hd G p=hand
 ·exact⟨w,hw,own p hp ho w hw rD⟩
 ·rcases (hL.oth (hr p a) (decide_eq_true a) (hnw p hp) ho).2 b with h1 | ⟨u,h1,h2,h3⟩
  ·exact absurd (h1 w hw) (by simp[rD])
  ·exact⟨u,h1,(su u).mpr ⟨of_decide_eq_true h2,h3⟩⟩
theorem CI (hL:Lay G hand (λx=>decide (x∈left)) want R) {wf:Int->Option Int} (hw:∀ p k,lv R (k+1) p->hd G p=hand->∃ v,wf p=some v/\lv R k v) {x y:Int} {k:Nat} (hx:lv R (k+1) x) (hy:y∈left) (e:ed G wf hand x y):∃ i,i<=k/\lv R i y:=by
 by_cases ho:hd G x=hand
 ·obtain⟨v,h1,h2⟩:=hw x k hx ho
  rw[D3 ho,h1] at e
  cases e
  exact⟨k,aA _,h2⟩
 ·rw[Ar ho] at e
  obtain⟨j,ej,_,all⟩:=(hL.oth (hL.rg hx) (hL.Ic hx) (hL.QW hx) ho).1 _ hx
  obtain⟨i,h1,h2⟩:=all y e (decide_eq_true hy)
  exact⟨i,by omega,h2⟩
theorem yz.Ye {P Done lost:Int->Prop} {oth:List Int} {wf wf0 wf':Int->Option Int} (hL:Lay G hand (λx=>decide (x∈left)) want R)
  (hP:∀ p,P p↔Done p\/p∈left) (Ws:∀ p,Done p->p ∉ left) (wD:yz G P wf hand Done) (wl:yz G (·∈oth) wf0 hand lost) (ZN:∀ p∈oth,p∈left)
  (QQ:∀ p∈oth,¬ hd G p=hand->∀ w∈wy G p,w∈left->w∈oth)
  (oK:∀ p,lost p↔lv R 0 p) (e1:∀ p,Done p->wf' p=wf p) (e2:∀ p,lv R 0 p->wf' p=wf0 p)
  (e3:∀ p k,lv R (k+1) p->hd G p=hand->∃ v,wf' p=some v/\v∈wy G p/\lv R k v) (e4:∀ p k,lv R (k+1) p->¬ hd G p=hand->wf' p=none) :
  yz G P wf' hand (λp=>Done p\/∃ k,lv R k p):=by
 have inl:∀ {k p},lv R k p->p∈left:=λh=>of_decide_eq_true (hL.Ic h)
 have FS:∀ {p},lv R 0 p->p∈oth:=λh=>wl.sub _ ((oK _).mpr h)
 have Mf:∀ p,lv R 0 p->¬ hd G p=hand->∀ q∈wy G p,q∈left->lv R 0 q:=λp hp ho q hq hql =>
  (oK q).mp ((wl.oth p ((oK p).mpr hp) ho).2 q hq (QQ p (FS hp) ho q hq hql))
 have Mw:∀ x y,lv R 0 x->y∈left->ed G wf' hand x y->lv R 0 y:=λx y hx hy e=>by
  by_cases ho:hd G x=hand
  ·obtain⟨q,a,_,c⟩:=wl.own x ((oK x).mpr hx) ho
   rw[D3 ho,e2 x hx,a] at e
   cases e
   exact (oK _).mp c
  ·rw[Ar ho] at e
   exact Mf x hx ho y e hy
 have sX:∀ x y k,lv R (k+1) x->y∈left->ed G wf' hand x y->∃ i,i<=k/\lv R i y:=λx y k hx hy e =>
  CI hL (λp k h1 h2=>by obtain⟨v,a,_,c⟩:=e3 p k h1 h2;exact⟨v,a,c⟩) hx hy e
 refine⟨λp hp=>?_,λp hp ho=>?_,λp hp ho=>?_,λp hp hr t=>?_⟩
 ·rcases hp with h | ⟨k,h⟩
  ·exact (hP p).mpr (.inl h)
  ·exact (hP p).mpr (.inr (inl h))
 ·rcases hp with h | ⟨k,h⟩
  ·obtain⟨q,a,b,c⟩:=wD.own p h ho
   exact⟨q,by rw[e1 p h];exact a,b,.inl c⟩
  ·cases k with
   | zero =>
    obtain⟨q,a,b,c⟩:=wl.own p ((oK p).mpr h) ho
    exact⟨q,by rw[e2 p h];exact a,b,.inr ⟨0,(oK q).mp c⟩⟩
   | succ k =>
    obtain⟨v,a,b,c⟩:=e3 p k h ho
    exact⟨v,a,b,.inr ⟨k,c⟩⟩
 ·rcases hp with h | ⟨k,h⟩
  ·obtain⟨a,b⟩:=wD.oth p h ho
   exact⟨by rw[e1 p h];exact a,λq hq Sj=>.inl (b q hq Sj)⟩
  ·cases k with
   | zero =>
    refine⟨by rw[e2 p h];exact (wl.oth p ((oK p).mpr h) ho).1,λq hq Sj=>?_⟩
    rcases (hP q).mp Sj with z | z
    ·exact .inl z
    ·exact .inr ⟨0,Mf p h ho q hq z⟩
   | succ k =>
    refine⟨e4 p k h ho,λq hq Sj=>?_⟩
    rcases (hP q).mp Sj with z | z
    ·exact .inl z
    ·obtain⟨i,_,hi⟩:=sX p q k h z ((Ar ho).mpr hq)
     exact .inr ⟨i,hi⟩
 ·-- a ring
  have Mg:∀ x y,Done x->P y->ed G wf' hand x y->Done y:=λx y hx hy e=>by
   by_cases ho:hd G x=hand
   ·obtain⟨q,a,_,c⟩:=wD.own x hx ho
    rw[D3 ho,e1 x hx,a] at e
    cases e;exact c
   ·rw[Ar ho] at e
    exact (wD.oth x hx ho).2 y e hy
  have TK:∀ y,(Done y\/∃ k,lv R k y)->P y:=λy hy=>by
   rcases hy with h | ⟨k,h⟩
   ·exact (hP y).mpr (.inl h)
   ·exact (hP y).mpr (.inr (inl h))
  rcases hp with h | ⟨k,h⟩
  ·obtain⟨_,t2⟩:=t.fwd (Q:=Done) (s:=λx y=>(Done x/\Done y/\ed G wf hand x y)/\rk G x<=rk G p/\rk G y<=rk G p) (λx y z hx=>by
    obtain⟨⟨_,b,c⟩,d⟩:=z
    have hy:=Mg x y hx (TK y b) c
    exact⟨hy,⟨hx,hy,(sf (e1 x hx)).mp c⟩,d⟩) h
   exact wD.nb p h hr t2
  ·have hnD:¬ Done p:=λz=>Ws p z (inl h)
   obtain⟨_,t2⟩:=t.bwd (Q:=λx=>¬ Done x) (s:=λx y=>((∃ k,lv R k x)/\(∃ k,lv R k y)/\ed G wf' hand x y)/\rk G x<=rk G p/\rk G y<=rk G p) (λx y z hy=>by
    obtain⟨⟨a,b,c⟩,d⟩:=z
    have hx:¬ Done x:=λz=>hy (Mg x y z (TK y b) c)
    exact⟨hx,⟨a.resolve_left hx,b.resolve_left hy,c⟩,d⟩) hnD
   cases k with
   | zero =>
    obtain⟨_,t3⟩:=t2.fwd (Q:=λx=>lv R 0 x) (s:=λx y=>(lost x/\lost y/\ed G wf0 hand x y)/\rk G x<=rk G p/\rk G y<=rk G p) (λx y z hx=>by
     obtain⟨⟨_,⟨j,b⟩,c⟩,d⟩:=z
     have hy:=Mw x y hx (inl b) c
     exact⟨hy,⟨(oK x).mpr hx,(oK y).mpr hy,(sf (e2 x hx)).mp c⟩,d⟩) h
    exact wl.nb p ((oK p).mpr h) hr t3
   | succ k =>
    have near:∀ x y,((∃ k,lv R k x)/\(∃ k,lv R k y)/\ed G wf' hand x y)->(∃ i,i<=k+1/\lv R i x)->∃ i,i<=k/\lv R i y:=λx y z hx=>by
     obtain⟨_,⟨j,b⟩,c⟩:=z
     obtain⟨i,hi,hx⟩:=hx
     cases i with
     | zero=>exact⟨0,bE _,Mw x y hx (inl b) c⟩
     | succ i =>
      obtain⟨i',h1,h2⟩:=sX x y i hx (inl b) c
      exact⟨i',by omega,h2⟩
    have far:∃ i,i<=k/\lv R i p:=by
     cases t2 with
     | one z=>exact near p p z.1 ⟨k+1,aA _,h⟩
     | cons z t =>
      have h1:=near _ _ z.1 ⟨k+1,aA _,h⟩
      exact (t.fwd (Q:=λx=>∃ i,i<=k/\lv R i x) (s:=λ_ _=>True) (λx y z hx=>by
       obtain⟨i,hi,hx⟩:=hx
       exact⟨near x y z.1 ⟨i,by (clear hP Ws ZN QQ oK e1 e2 e3 e4 inl FS Mf Mw sX hr Mg TK hnD near z;omega),hx⟩,trivial⟩) h1).1
    obtain⟨i,hi,hx⟩:=far
    have:=nq hL.nd hx h
    omega
theorem yz.final {P:Int->Prop} {oth:List Int} {wf0 wf':Int->Option Int} {top:Int} (hL:Lay G hand (λx=>decide (x∈left)) want R)
  (WL:∀ p∈left,P p) (uJ:∀ p∈left,¬ hd G p=hand->∀ w∈wy G p,P w->w∈left)
  (KN:∀ p∈left,rk G p<=top) (KJ:top % 2=hand) (KQ:∀ p,lv R 0 p↔p∈left/\rk G p=top)
  (D8:∀ p,p∈oth↔p∈left/\∀ k,¬ lv R k p) (wo:yz G (·∈oth) wf0 hand (·∈oth))
  (e0:∀ p,lv R 0 p->hd G p=hand->∃ v,wf' p=some v/\v∈wy G p/\v∈left) (V1:∀ p,lv R 0 p->¬ hd G p=hand->wf' p=none)
  (e2:∀ p∈oth,wf' p=wf0 p)
  (e3:∀ p k,lv R (k+1) p->hd G p=hand->∃ v,wf' p=some v/\v∈wy G p/\lv R k v) (e4:∀ p k,lv R (k+1) p->¬ hd G p=hand->wf' p=none) :
  yz G P wf' hand (·∈left):=by
 have inl:∀ {k p},lv R k p->p∈left:=λh=>of_decide_eq_true (hL.Ic h)
 have split:∀ p∈left,p∈oth\/∃ k,lv R k p:=λp hp=>by
  by_cases c:∃ k,lv R k p
  ·exact .inr c
  ·exact .inl ((D8 p).mpr ⟨hp,λk hk=>c ⟨k,hk⟩⟩)
 refine⟨WL,λp hp ho=>?_,λp hp ho=>?_,λp hp hr t=>?_⟩
 ·rcases split p hp with h | ⟨k,h⟩
  ·obtain⟨q,a,b,c⟩:=wo.own p h ho
   exact⟨q,by rw[e2 p h];exact a,b,((D8 q).mp c).1⟩
  ·cases k with
   | zero=>exact e0 p h ho
   | succ k =>
    obtain⟨v,a,b,c⟩:=e3 p k h ho
    exact⟨v,a,b,inl c⟩
 ·refine⟨?_,λq hq Sj=>uJ p hp ho q hq Sj⟩
  rcases split p hp with h | ⟨k,h⟩
  ·rw[e2 p h];exact (wo.oth p h ho).1
  ·cases k with
   | zero=>exact V1 p h ho
   | succ k=>exact e4 p k h ho
 ·-- no place of Rb ring has Rb Wc rank
  have ji:rk G p<top:=by
   have:=KN p hp
   rcases NM this with h | h
   ·exact h
   ·rw[h] at hr;exact absurd KJ hr
  have Vn:∀ x,rk G x<=rk G p->¬ lv R 0 x:=λx hx z=>by
   have:=((KQ x).mp z).2
   (clear WL uJ KN KJ KQ D8 e0 V1 e2 e3 e4 inl split hr;omega)
  have sX:∀ x y k,lv R (k+1) x->y∈left->ed G wf' hand x y->∃ i,i<=k/\lv R i y:=λx y k hx hy e =>
   CI hL (λp k h1 h2=>by obtain⟨v,a,_,c⟩:=e3 p k h1 h2;exact⟨v,a,c⟩) hx hy e
  rcases split p hp with h | ⟨k,h⟩
  ·obtain⟨_,t2⟩:=t.bwd (Q:=λx=>x∈oth) (s:=λx y=>(x∈oth/\y∈oth/\ed G wf0 hand x y)/\rk G x<=rk G p/\rk G y<=rk G p) (λx y z hy=>by
    obtain⟨⟨a,b,c⟩,d1,d2⟩:=z
    rcases split x a with hx | ⟨k,hx⟩
    ·exact⟨hx,⟨hx,hy,(sf (e2 x hx)).mp c⟩,d1,d2⟩
    ·cases k with
     | zero=>exact (Vn x d1 hx).elim
     | succ k =>
      obtain⟨i,_,h2⟩:=sX x y k hx b c
      exact (((D8 y).mp hy).2 i h2).elim) h
   exact wo.nb p h hr t2
  ·cases k with
   | zero=>exact Vn p (gL _) h
   | succ k =>
    have near:∀ x y,((x∈left/\y∈left/\ed G wf' hand x y)/\rk G x<=rk G p/\rk G y<=rk G p)->(∃ i,i<=k+1/\lv R i x)->∃ i,i<=k/\lv R i y:=λx y z hx=>by
     obtain⟨⟨a,b,c⟩,d1,d2⟩:=z
     obtain⟨i,hi,hx⟩:=hx
     cases i with
     | zero=>exact (Vn x d1 hx).elim
     | succ i =>
      obtain⟨i',h1,h2⟩:=sX x y i hx b c
      exact⟨i',by (clear WL uJ KN KJ KQ D8 e0 V1 e2 e3 e4 inl split hr ji Vn sX d1 d2;omega),h2⟩
    have far:∃ i,i<=k/\lv R i p:=by
     cases t with
     | one z=>exact near p p z ⟨k+1,aA _,h⟩
     | cons z t =>
      have h1:=near _ _ z ⟨k+1,aA _,h⟩
      exact (t.fwd (Q:=λx=>∃ i,i<=k/\lv R i x) (s:=λ_ _=>True) (λx y z hx=>by
       obtain⟨i,hi,hx⟩:=hx
       exact⟨near x y z ⟨i,by (clear WL uJ KN KJ KQ D8 e0 V1 e2 e3 e4 inl split hr ji Vn sX near z;omega),hx⟩,trivial⟩) h1).1
    obtain⟨i,hi,hx⟩:=far
    have:=nq hL.nd hx h
    (clear WL uJ KN KJ KQ D8 e0 V1 e2 e3 e4 inl split hr ji Vn sX near;omega)
end
section
variable {G:List Row} {P D0 D1:Int->Prop} {wf wf':Int->Option Int}
end
def xQ (G:List Row) (p:Int):Prop:=0<=p/\p<G.length
section
variable {G:List Row} {hf:Int->Int} {wf:Int->Option Int} {c:Int}
end
end Law
namespace L2
open PySem PySem.W PySem.Spec PyProof.Rows
section
variable {k:Nat->Int} {n:Nat} {cmp:Nat->Nat->(Bool->ai->Prop)->ai->Prop} {s:ai}
end
end L2
namespace L2
open PySem PySem.Spec PyProof.Rows
section
variable {prog:aO} {w:bD} {A:bp} {E:ae->ai->Prop} {s:ai}
end
section
variable {X:Cx}
end
section
variable {X:Cx} {elt tg iter:bR} {ifs:List bR} {scope:ek} {pos:gR} {wi:TI} {tt:DB} {tc:TT} {te:TE}
end
end L2
namespace L2
open PySem
section
variable {P:List ae->Prop}
theorem JV {n:Nat} (h:∀ a (us:List ae),us.length=n->P (a::us)) (us:List ae) (e:us.length=n+1):P us:=by
 cases us with
 | nil=>exact absurd e (Nat.succ_ne_zero n).symm
 | cons a us=>exact h a us (Nat.succ.inj e)
theorem abf (h:P []) (us:List ae) (e:us.length=0):P us:=by
 rw[ig.mp e];exact h
theorem u7 (h:∀ a,P [a]):∀ us:List ae,us.length=1->P us:=JV λa=>abf (h a)
theorem lY (h:∀ a b,P [a,b]):∀ us:List ae,us.length=2->P us:=JV λa=>u7 (P:=λus=>P (a::us)) (h a)
theorem vZ (h:∀ a b c,P [a,b,c]):∀ us:List ae,us.length=3->P us:=JV λa=>lY (P:=λus=>P (a::us)) (h a)
theorem JU (h:∀ a b c d,P [a,b,c,d]):∀ us:List ae,us.length=4->P us:=JV λa=>vZ (P:=λus=>P (a::us)) (h a)
theorem VV (h:∀ a b c d e,P [a,b,c,d,e]):∀ us:List ae,us.length=5->P us:=JV λa=>JU (P:=λus=>P (a::us)) (h a)
end
end L2
namespace L2
open PySem PySem.Spec PyProof.Rows
section
variable {X:Cx}
end
section
variable {X:Cx}
end
abbrev K0:ak:=[]
theorem bI.k0 {K:ak} {H:Hp} {a:ah} {xs:List V} (h:bI K0 H a xs):bI K H a xs:=by
 rcases h with h | ⟨o,_,_,hk,_⟩
 ·exact .inl h
 ·cases hk
section
variable {X:Cx}
theorem yt.le (a:ah) {K:ak}:(∀ i H,(yt K0 a).go i H->(yt K a).go i H)/\(∀ i H x H',(yt K a).Dv i H x H'->(yt K0 a).Dv i H x H')/\∀ i H,(yt K0 a).stop i H->(yt K a).stop i H :=
 ⟨λi H ⟨xs,x,h1,h2⟩=>⟨xs,x,h1.k0,h2⟩,λi H x H' ⟨e,h⟩=>⟨e,λxs hx=>h xs hx.k0⟩,λi H ⟨xs,h1,h2⟩=>⟨xs,h1.k0,h2⟩⟩
theorem Turn.le {P:aO} {w:bD} {K:ak} {tg:bR} {J J':It} {fp:List ah} {it:ah} {tn:Nat->bT->Prop} (t:Turn P w K tg J fp it tn) (h:(∀ i H,J'.go i H->J.go i H)/\(∀ i H x H',J.Dv i H x H'->J'.Dv i H x H')/\∀ i H,J'.stop i H->J.stop i H):Turn P w K tg J' fp it tn where
 mem:=t.mem
 obj:=t.obj
 keep:=t.keep
 item:=λX e1 e2 e3 e4 i pins s σ H E I hf ht hg=>by
  refine cf (t.item X e1 e2 e3 e4 i pins s σ H E I hf ht (h.1 i H hg)) (λr s1 c6=>?_) λ_ _ z=>z
  obtain⟨u,e,q⟩:=c6
  refine⟨u,e,?_⟩
  refine cf q (λ_ s2 c6=>?_) λ_ _ z=>z
  obtain⟨x,H',I',r',y,z⟩:=c6
  exact⟨x,H',I',r',h.2.1 i H x H' y,z⟩
 done:=λX e1 e2 e3 e4 i pins s σ H E I hf ht hg=>t.done X e1 e2 e3 e4 i pins s σ H E I hf ht (h.2.2 i H hg)
 self:=t.self
theorem VM.le {pins:List (ah × d6)} {σ:St} {tg:bR} {R R':It->Hp->Prop} {v:ae} {s:ai} (h:VM X pins σ tg R' v s) (f:∀ J H,R' J H->∃ J',((∀ i H,J'.go i H->J.go i H)/\(∀ i H x H',J.Dv i H x H'->J'.Dv i H x H')/\∀ i H,J'.stop i H->J.stop i H)/\R J' H):VM X pins σ tg R v s:=by
 obtain⟨it,fp,tn,J,H',e,I,t,z,g,r⟩:=h
 obtain⟨J',l,r'⟩:=f J H' r
 exact⟨it,fp,tn,J',H',e,I,t.le l,z,g,r'⟩
theorem PE.qK {e:bR} {t:TE} (h:PE X e t) (Q0:V->Hp->Prop):PE X e (λσ H Q=>t σ H Q0/\∀ x H1,Q0 x H1->Q x H1):=λpins s σ H Q I ⟨h1,h2⟩=>cf (h pins s σ H Q0 I h1) (λ_ _ ⟨x,H1,I1,r1,q1⟩=>⟨x,H1,I1,r1,h2 x H1 q1⟩) λ_ _ z=>z
theorem Db {tg l:bR} {tl:TE} (hl:PE X l tl):PI X tg l (QR K0 tl):=λpins s σ H R I h =>
 cf (dm (hl.qK (λx H1=>∃ a,x=.ref a/\(∃ xs,bI K0 H1 a xs)/\R (yt K0 a) H1)) pins s σ H (λJ H'=>∃ a,J=yt X.K a/\R (yt K0 a) H') I ⟨h,λx H1 ⟨a,e,⟨xs,hx⟩,r⟩=>⟨a,e,⟨xs,hx.k0⟩,a,rfl,r⟩⟩)
  (λ_ _ q=>cf q (λ_ _ p=>p.le λJ H' ⟨a,e,r⟩=>⟨yt K0 a,by subst e;exact yt.le a,r⟩) λ_ _ z=>z) λ_ _ z=>z
end
end L2
namespace L2
open PySem
section
variable {X:Cx} {pins:List (ah × d6)} {σ:St} {H:Hp} {s:ai} {a:ah} {fv:List (Key × V)} {k:Key} {u:ae} {A:bp} {E:ae->ai->Prop}
end
section
variable {X:Cx} {o e f:bR} {apos nS:gR} {td ty tx:TE}
end
end L2
namespace L2
open PySem PySem.Spec PyProof.Rows
section
variable {X:Cx}
end
section
variable {X:Cx}
end
section
variable {X:Cx} {o i:bR} {pos:gR} {td ty:TE}
end
section
variable {X:Cx} {elt tg iter:bR} {ifs:List bR} {scope:ek} {pos:gR} {N:List aT} {k:Nat} {cap:List Nat} {wi:TI} {tt:DB} {tc:TT} {te:TE}
end
section
variable {X:Cx} {elt tg iter:bR} {ifs:List bR} {scope:ek} {pos:gR} {wi:TI} {tt:DB} {tc:TT} {te:TE}
end
section
variable {X:Cx} {elt tg iter:bR} {ifs:List bR} {scope:ek} {pos:gR} {wi:TI} {tt:DB} {tc:TT} {te:TE}
theorem EH {sc:ek} {env:qA} {x:aT} (h:sc.names.lookup x=some .cell\/sc.names.lookup x=some .free):(aak sc env).names.lookup x=some .cell\/(aak sc env).names.lookup x=some .free:=by
 rcases h with h | h
 ·left
  have go:∀ (names:List (aT × qY)),names.lookup x=some .cell->(names.map λ(n,k)=>if (k == bQ && env.scope.kind == .function && env.kindOf n == some .cell) then (n,fK) else (n,k)).lookup x=some .cell:=by
   intro names
   induction names with
   | nil=>intro h;simp at h
   | cons z r ih =>
    obtain⟨n,k⟩:=z
    intro h
    show fw x ((if (k == bQ && env.scope.kind == .function && env.kindOf n == some .cell)=true then (n,fK) else (n,k))::_)=_
    cases hx:x == n with
    | true =>
     simp only [cD,hx] at h
     cases h
     split <;> simp[cD,hx]
    | false =>
     simp only [cD,hx] at h
     split <;> (simp only [cD,hx];exact ih h)
  exact go _ h
 ·exact oC h
theorem o9.relabel {scope xx:ek} {N PN:List aT} {k:Nat} {cap:List Nat} {env:qA} (h:o9 scope xx N PN k cap):o9 scope (aak xx env) N PN k cap :=
 ⟨h.kind,h.len,h.cell,h.loc,λy hy hf=>EH (h.free y hy hf),h.cap,h.V7⟩
theorem F8 {xx:ek} {HI:qA} (PN N:List aT) (k:Nat) (cap:List Nat) (hi:PI X tg iter wi) (hg:∀ cl C s H ex pn,Nf (gM X scope N cl C s H ex pn) k tg tt) (ht:∀ cl C s H ex pn,NR (gM X scope N cl C s H ex pn) ifs tc)
  (he:∀ cl C s H ex pn,PE (gM X scope N cl C s H ex pn) elt te) (hc:X.calm=true:=by rfl) (h2:X.N=PN:=by rfl) (h1:X.env.scope=PySem.relabel xx HI:=by rfl) (S:se scope xx N PN k cap=true:=by decide +kernel)
  (hs:∀ x,jy iter X.env x=pure x:=by intro _;rfl) :
  PE X (.ListComp elt [⟨tg,iter,ifs,0⟩] scope pos) (zq wi tt tc te cap):=F6 hc (by rw[h2,h1];exact (t6 S).relabel) hi hg ht he hs
end
theorem AG:Y1 (.type "list") "keys" = pure none:=am_miss_of_fast (by decide +kernel)
theorem AK {prog:aO} {w:bD} {A:bp} {E:ae->ai->Prop} {s:ai} {a:ah} {o:d6} {xs:Array ae} {k:Nat} {Q:Option ae->ai->Prop}
  (hx:s.heap.get? a=some o) (hc:o.cls=.type "list") (Oh:o.data=.seq xs k) (hd:o.dict=none) (hA:A.handled=none)
  (h:∀ h' tk,(∀ b ob,s.heap.get? b=some ob->h'.get? b=some ob)->Q none { s with heap:=h',toks:=tk }) :
  wpAny (aS prog w) A (Sh (.ref a) "keys") Q E s:=by
 obtain⟨c,dct,dat,sl⟩:=o
 simp only at hc Oh hd
 subst hc Oh hd
 obtain⟨hp,g,d,tk,os⟩:=s
 have hT:∀ MI,(⟨hp,g,d,MI,os⟩:ai).TypeIs (.ref a) "list" := λ_=>⟨_,hx,rfl⟩
 have f1:=sub_AttributeError
 have f3:=pj.lookup
 have f4:=pj.bind (.ref a)
 have f5:=am_list_getattr_none
 unfold Sh getAttrBy? getAttrBy
 repeat (any_goals (first | assumption | exact hT _ | ((with_reducible show wpAny _ _ (qH (iJ "list.__getattribute__") _ _) _ _ _);refine xT pj (hT _) am_entry_list_getattribute (F.args_list_getattribute_2 _ _) (meets_getattribute_miss_list a xs k sl "keys" _ AG (by decide +kernel) (by size_fits)) ⟨hx,hA,λh' MI e Xq=>?_⟩) | wp_step))
 obtain⟨t',u',he⟩:=Xq.there
 show wpAny _ _ (Wa _ _ _ _ _ _ _) _ _ _
 unfold Wa
 repeat (any_goals (first | assumption | wp_step))
 exact h _ _ Xq.keeps
theorem jZ:R8 table "dict.update.loop" = some eF.«dict.update.loop»:=abo (by kernel_rfl)
theorem fC:plainId "dict.update.loop" = true:=by decide +kernel
def a0j:List (Key × V)->List (Key × V)->List (Key × V):=BE λc p=>a0p c p.1 p.2
def NS (P:aO) (w:bD) (h:bT) (d it:ah) (items:List ae) (kys:List (Key × V)):Prop :=
 ∀ (j:Nat) (ky:Key × V),kys[j]?=some ky->∃ (t:ah) (ku vu:ae),items[j]?=some (.ref t)/\h.IsTuple t #[ku,vu]/\(gu P w).is ky.1 ku=true/\RelV ky.2 vu/\t≠d/\t≠it
theorem MM {P:aO} {w:bD} {A:bp} {d it l:ah} {items:List ae} {kys:List (Key × V)} (hh:A.handled=none) (hlen:items.length=kys.length) (hz:kys.length<=aL) (hdi:d≠it) (hld:l≠d) (hli:l≠it) :
  ∀ (n i:Nat) (s:ai) (cur:List (Key × V)) (vs:List (Key × ae)) (tk:Nl) (R:qF->ai->Prop),kys.length-i=n->i<=kys.length->s.heap.IsListIter it l i->s.heap.IsList l items.toArray->NS P w s.heap d it items kys->KV cur vs->s.heap.DictOf (gu P w) d vs->cur.length<=i ->
   (∀ h' t' Y2,KV (a0j cur (kys.drop i)) Y2->h'.DictOf (gu P w) d Y2->(a0j cur (kys.drop i)).length<=kys.length->(∀ b o,b≠d->b≠it->s.heap.get? b=some o->h'.get? b=some o)->R (.ok (.ret .none)) { s with heap:=h',toks:=t' }) ->
   codeAny (aS P w) A (.builtin "dict.update.loop" ⟨[.ref d,.ref it,.int (i:Int) tk,.none],[]⟩) R s:=by
 intro n
 induction n with
 | zero =>
  intro i s cur vs tk R hn hi hit hl hp ZH hd hc hR
  have e:i=kys.length:=by omega
  subst e
  refine dF jZ ?_
  rw[fh fC _]
  show wpAny _ A.in1 (jQ (.ref it) >>= _) _ _ s
  refine aa (mB hh hit hl (by simp;omega) λh' eb=>?_)
  show wpAny _ A.in1 (Builtin.Dict.addKeywords d [] >>= _) _ _ _
  refine aa (aq ?_)
  rw[List.drop_length] at hR
  exact aq (hR h' s.toks vs ZH (hd.extBut eb hdi) hc λb o _ h2 h3=>eb b o h2 h3)
 | succ n ih =>
  intro i s cur vs tk R hn hi hit hl hp ZH hd hc hR
  obtain⟨ky,hky⟩:∃ ky,kys[i]?=some ky:=⟨kys[i]'(by omega),by simp⟩
  obtain⟨t,ku,vu,h1,h2,h3,h4,h5,h6⟩:=hp i ky hky
  refine dF jZ ?_
  rw[fh fC _]
  show wpAny _ A.in1 (jQ (.ref it) >>= _) _ _ s
  refine aa (lL hit hl (x:=.ref t) (by simpa using h1) λh' Ut sb=>?_)
  have QE:h'.IsTuple t #[ku,vu]:=by
   obtain⟨o,e1,e2,n1,e3⟩:=h2
   exact⟨o,(sb.2 t h6).trans e1,e2,n1,e3⟩
  obtain⟨o,e1,e2,n1,e3⟩:=id QE
  have Wq:h'.DictOf (gu P w) d vs:=by
   obtain⟨q,es,ep,hq,r⟩:=hd
   exact⟨q,es,ep,(sb.2 d hdi).trans hq,r⟩
  show wpAny _ A.in1 (gK [bA t] _ >>= _) _ _ _
  refine aa (db (aa (gH ?_)))
  unfold Builtin.Dict.pairItems
  refine aa (BA (T := "tuple") ⟨o,e1,e2⟩ ?_)
  rw[if_pos (by decide +kernel)]
  refine aa (jR (s:={ s with heap:=h' }) e1 e3 (aq ?_))
  show wpAny _ A.in1 (gK [ku,vu] (dictSet d ku vu)) _ _ _
  refine db (wpAny_dictSet_pairs (s:={ s with heap:=h' }) (hsz:=by rw[← ZH.length];omega) h3 Wq λh'' abZ sb'=>?_)
  have eR:gU ((i:Int)+1)=.int ((i+1:Nat):Int) 0:=rfl
  refine aq ⟨kH fC _,?_⟩
  rw[eR]
  have oJ:=CN cur ky.1 ky.2
  have ed:kys.drop i=ky::kys.drop (i+1):=by
   obtain⟨ji,e⟩:=ag.mp hky
   rw[jC ji,e]
  refine ih (i+1) _ (a0p cur ky.1 ky.2) _ _ R (by omega) (by omega) ?_ ?_ (λj ky' hj=>?_) (ZH.put ky.1 h4) abZ (by omega) λh3' t' Y2 k1 k2 k3 k4=>?_
  ·obtain⟨q,q1,q2,q3⟩:=Ut
   exact⟨q,(sb'.2 it (cS hdi)).trans q1,q2,q3⟩
  ·obtain⟨q,q1,q2,q3⟩:=hl
   exact⟨q,(sb'.2 l hld).trans ((sb.2 l hli).trans q1),q2,q3⟩
  ·obtain⟨t2,ku2,vu2,g1,⟨q,q1,q2,q3⟩,g3,g4,g5,g6⟩:=hp j ky' hj
   exact⟨t2,ku2,vu2,g1,⟨q,(sb'.2 t2 g5).trans ((sb.2 t2 g6).trans q1),q2,q3⟩,g3,g4,g5,g6⟩
  ·have ep:a0j (a0p cur ky.1 ky.2) (kys.drop (i+1))=a0j cur (kys.drop i):=by rw[ed];rfl
   rw[ep] at k1 k3
   exact hR h3' t' Y2 k1 k2 k3 λb o b1 b2 hb=>k4 b o b1 b2 ((sb'.2 b b1).trans ((sb.2 b b2).trans hb))
theorem lp {X:Cx} {K:ak} (hK:X.K=K) (hc:X.calm=true):jG X (.type "dict") (λxs H Q=>∃ (a:ah) (ts:List (ah × Key × V)),xs=[.ref a]/\bI K H a (ts.map λt=>V.ref t.1)/\(∀ t∈ts,gJ K H t.1 [kV t.2.1,t.2.2])/\∀ p,H p=none->Q (.ref p) (upd H p (.dK (a0j [] (ts.map λt=>t.2))))):=by
 intro pins s σ H xs us Q I r h
 subst hK
 obtain⟨a,ts,rfl,ha,ht,q⟩:=h
 obtain⟨u,rfl,ru⟩:=a0h r
 cases ru
 obtain⟨cH,rv,pl,hz⟩:=I.list ha
 have hl:cH.length=(ts.map λt=>t.2).length:=by rw[aj,← rv.length,aj]
 have hz':(ts.map λt=>t.2).length<=aL:=by rw[aj] at hz ⊢;exact hz
 have hal:a<s.heap.objs.size:=by
  obtain⟨o,h1,_⟩:=pl.isList
  exact aD h1
 have hh:X.A.handled=none:=I.ok.hd hc
 refine callType_codes (Q₁:=λobj s₁=>obj=.ref s.heap.objs.size/\s₁={ s with heap:=s.heap.push { cls:=.type "dict",data:=.dict #[] } }) PySem.F.kt_called_dict (PySem.F.kt_typeCall_dict_1 _) PySem.F.entry_dict_init (kt_code_dict_new _ ⟨rfl,rfl⟩) ?_
 rintro obj s₁ ⟨rfl,rfl⟩
 have CB:(s.heap.push { cls:=.type "dict",data:=.dict #[] }).DictOf (gu X.prog X.w) s.heap.objs.size []:=Heap.DictOf.new s.heap
 refine⟨CB.typeIs,PySem.F.args_dict_init_2 _ _,?_⟩
 unfold eF.«dict.__init__»
 refine aa ?_
 unfold Builtin.Dict.selfAndRest
 refine aa (wpAny_notOrdered_dict CB.typeIs ?_)
 show wpAny _ _ (pure (s.heap.objs.size,[bA a])) _ _ _
 refine aq ?_
 show wpAny _ _ (vM "dict.__init__" s.heap.objs.size (.ref a) [] .none) _ _ _
 unfold vM
 obtain⟨o,n,e1,e2,e3,e4⟩:=pl
 refine aa (BA (T := "list") ⟨o,al _ e1,e2⟩ ?_)
 rw[if_pos (by decide)]
 refine aa (AK (s:={ s with heap:=s.heap.push { cls:=.type "dict",data:=.dict #[] } }) (al _ e1) e2 e4 e3 hh λh' tk kp=>?_)
 rw[if_pos (show (none:Option ae).isNone=true from rfl)]
 refine aa (tF ?_)
 have Nv:h'.IsList a cH.toArray:=⟨o,kp _ _ (al _ e1),e2,n,e4⟩
 refine aa (fX Nv ?_)
 have Oi:s.heap.objs.size<h'.objs.size:=aD (kp _ _ (aF _ rfl))
 have kq:∀ b ob,s.heap.get? b=some ob->(h'.push { cls:=.type "list_iterator",data:=.fields #[.ref a,.int 0 0] }).get? b=some ob:=λb ob e=>al _ (kp _ _ (al _ e))
 refine aq ⟨kH fC _,?_⟩
 refine MM (kys:=ts.map λt=>t.2) (l:=a) (A:=X.A.in1) hh hl hz' (aR Oi) (aR hal) (aR (m7 hal Oi)) _ 0 _ [] [] 0 _ rfl (bE _) ⟨_,aF _ rfl,rfl,rfl⟩ ?_ ?_ .nil ?_ (bE _) ?_
 ·exact⟨o,kq _ _ e1,e2,n,e4⟩
 ·intro j ky hj
  rw[aB] at hj
  cases et:ts[j]? with
  | none=>rw[et] at hj;cases hj
  | some t =>
   rw[et] at hj;cases hj
   obtain⟨u,hu,ru⟩:=rv.get (i:=j) (x:=V.ref t.1) (by rw[aB,et];rfl)
   cases ru
   obtain⟨l6,II,tp,_⟩:=I.tuple (ht t (am et))
   obtain⟨k1,k2,rfl,r1,r2⟩:=a0H II
   obtain⟨o2,g1,g2,n2,g3⟩:=tp
   have ji:=aD g1
   exact⟨t.1,k1,k2,hu,⟨o2,kq _ _ g1,g2,n2,g3⟩,FN r1,r2,aR ji,aR (m7 ji Oi)⟩
 ·exact Heap.DictOf.push (by
   obtain⟨q,es,ep,hq,r⟩:=CB
   exact⟨q,es,ep,kp _ _ hq,r⟩) _
 ·intro h3 t3 Y2 k1 k2 k3 k4
  rw[List.drop_zero] at k1 k3
  refine⟨rfl,.ref s.heap.objs.size,_,?_,rfl,q _ (I.cU.fresh (aA _))⟩
  refine I.laid (a:=s.heap.objs.size) (λb ob e=>?_) (aA _) (R7 (cq k3 hz') (beq_eq_false_iff_ne.mpr (cS (aR I.big))) k1 k2)
  have ji:=aD e
  exact k4 b ob (aR ji) (aR (m7 ji Oi)) (kq _ _ e)
section
variable {X:Cx}
end
section
variable {P:aO} {w:bD} {A:bp} {E:ae->ai->Prop} {s:ai}
theorem a0F:isSubtype (.type "zip") (.type "zip")=pure true:=by rw[oX];kernel_rfl
theorem Mz:isSubtype (.type "StopIteration") (.type "StopIteration")=pure true:=by rw[oX];kernel_rfl
end
section
variable {X:Cx} {K:ak}
theorem LK {o e:bR} {es:List bR} {to:TE} {t:TA} {name:aT} {apos nS:gR} {T id:String} {r:V->List V->Hp->VK->Prop} (hK:X.K=K) (pa:PlainAttrs T) (slot:Slot T name id) (hty:typeOf (.builtin id)=pure (.type "method_descriptor")) (hm:MtM X id r) (ho:PE X o to) (ha:PA X (e::es) t)
  (Kp:qG o name X.env (dU o X.env)=dU o X.env:=by rfl)
  (Su:((d9 nS (aV (e::es) X.env)).all (λx=>!x.1) && (gF nS (d5 [] X.env)).all (λx=>x.1.isSome)
   && decide ((e::es).length+([]:List Ff).length+(if ([]:List Ff).isEmpty then 0 else 1)<30))=true:=by rfl)
  (KD:(apos.endLine == nS.line)=true:=by rfl) (hs:aV (e::es) X.env=(false,dU e X.env)::aV es X.env:=by rfl) (D9:(d9 nS (aV es X.env)).any (·.1)=false:=by rfl) :
  PE X (.Call (.Attribute o name apos) (e::es) [] nS) (tBM K T r to t):=by subst hK;exact jp pa slot hty hm ho ha Kp Su KD hs D9
end
section
variable {M:tH} {A:bp} {E:ae->ai->Prop} {s:ai} {B:bT} {env:qA} {outer:List qA} {l:List qA} {L e:ah} {cls a0 fl:ae}
end
section
variable {X:Cx} {pins:List (ah × d6)} {σ:St} {H:Hp} {s:ai}
end
section
variable {X:Cx} {elt tg iter:bR} {ifs:List bR} {scope:ek} {pos:gR} {N:List aT} {k:Nat} {cap:List Nat} {wi:TI} {tt:DB} {tc:TT} {te:TE}
end
section
variable {X:Cx} {elt tg iter:bR} {ifs:List bR} {scope:ek} {pos:gR} {N:List aT} {k:Nat} {cap:List Nat} {wi:TI} {tt:DB} {tc:TT} {te:TE}
end
section
variable {X:Cx} {elt tg iter:bR} {ifs:List bR} {scope:ek} {pos:gR} {wi:TI} {tt:DB} {tc:TT} {te:TE}
end
structure pi (P:aO) (w:bD) (K:ak) (mg:aT->Option ae) (base:bT) (C:ah) (m:aT) (n:Nat) (ps:List aT) (sp:Sp):Prop where
 ex:∃ f fd,nO P w K mg base (GY P w) n f fd ps sp/\Meth K C m f/\Binds K fd ps []
section
variable {P:aO} {w:bD} {K:ak} {mg:aT->Option ae} {base:bT}
theorem iG.TV {C:ah} {m qual:aT} {st:cL} {N ps:List aT} {k:Nat} {sp:Sp} (F:iG K C m qual st ps) (S:bG N ps (aC st)) (len:∀ vs H Q E,sp vs H Q E->vs.length=ps.length)
  (kW:∀ (f:ah) (dk:ae) (A:bp) (outer:List qA) (s:ai) (H:Hp) (vs:List V) (Q:VK) (E:XK),eP k (A.deeper (lI qual (aC st) s.heap.objs.size f dk))->sp vs H Q E ->
   ∃ t,uY (U7 P w K mg base N qual (aC st) f dk A outer s H E) (fk st) t/\t { nx:=λ_ H'=>Q .e8 H',rt:=Q } (start N vs) H):pi P w K mg base C m (k+1) ps sp:=by
 obtain⟨f,fd,F,hm,hb⟩:=F.ex
 obtain⟨oc,od,kV,doc,pm,an,dk,ct,Jw,rfl,lk,yR⟩:=F.ex
 exact⟨f,_,FA lk yR S len λA outer s H vs Q E hr BK=>kW f dk A outer s H vs Q E hr BK,hm,hb⟩
end
section
variable {X:Cx} {E:XK}
theorem F7 {C:ah} {m:aT} {n k:Nat} {ps:List aT} {sp:Sp} {o e:bR} {es:List bR} {ta:TE} {t:TA} {apos pos:gR} {pl:RP Bool} (hx:a0f (GY X.prog X.w) X E) (cl:BC X.K C) (D:pi X.prog X.w X.K X.mg X.base C m n ps sp) (hr:eP k X.A) (he:PE X o ta) (ha:PA X (e::es) t) (hk:n<=k:=by decide)
  (o7:aV (e::es) X.env=(false,dU e X.env)::aV es X.env:=by rfl) (oT:(d9 pos (aV es X.env)).any (·.1)=false:=by rfl)
  (ht:dU (.Call (.Attribute o m apos) (e::es) [] pos) X.env=(do
   let ov ← dU o X.env
   oF apos.atName
   let (f,first) ← gK [ov] (mG ov m pl)
   u9 pos f first (d9 pos (aV (e::es) X.env)) (gF pos (d5 [] X.env))):=by rfl) :
  PE X (.Call (.Attribute o m apos) (e::es) [] pos) (sZ C m sp [] E ta t):=by
 obtain⟨f,fd,F,hm,hb⟩:=D.ex
 exact F9 he cl hm F (hr.mono hk) hb .nil hx ha o7 oT ht
end
abbrev Vz (X:Cx) (pins:List (ah × d6)) (σ:St) (E:XK):ae->ai->Prop:=λx s'=>∃ H1 s1,Inv X pins σ H1 s1/\GY X.prog X.w X.stack H1 s1 E x s'
def U3 (X:Cx) (e:bR) (te:XK->TE):Prop:=∀ (pins:List (ah × d6)) (s:ai) (σ:St) (H:Hp) (Q:VK) (E:XK),Inv X pins σ H s->te E σ H Q->wpAny (aS X.prog X.w) X.A (dU e X.env) (EP X pins σ Q) (Vz X pins σ E) s
abbrev TX:=Ends->(St->XK)->St->Hp->Prop
def PX (X:Cx) (st:cL) (t:TX):Prop:=∀ (pins:List (ah × d6)) (s:ai) (σ:St) (H:Hp) (D:Ends) (Ex:St->XK),Inv X pins σ H s->t D Ex σ H->wpAny (aS X.prog X.w) X.A (exec st X.env) (SP X pins D) (λx s'=>∃ σ',Vz X pins σ' (Ex σ') x s') s
section
variable {X:Cx} {k n:Nat} {f C:ah} {fd:fJ} {ps fs:List aT} {sp:Sp} {x m:aT} {p pos apos:gR} {e o:bR} {es:List bR} {ta:TE} {t:TA}
theorem Ga {pl:RP Bool} (cl:BC X.K C) (D:pi X.prog X.w X.K X.mg X.base C m n ps sp) (hr:eP k X.A) (he:PE X.wC o ta) (ha:PA X.wC (e::es) t) (hk:n<=k:=by decide)
  (o7:aV (e::es) X.env=(false,dU e X.env)::aV es X.env:=by rfl) (oT:(d9 pos (aV es X.env)).any (·.1)=false:=by rfl)
  (ht:dU (.Call (.Attribute o m apos) (e::es) [] pos) X.env=(do
   let ov ← dU o X.env
   oF apos.atName
   let (f,first) ← gK [ov] (mG ov m pl)
   u9 pos f first (d9 pos (aV (e::es) X.env)) (gF pos (d5 [] X.env))):=by rfl) :
  U3 X (.Call (.Attribute o m apos) (e::es) [] pos) (λE σ H Q=>ta σ H λx H1=>∃ a dx fs,x=.ref a/\H1 a=some (.ins C dx fs)/\fs.lookup m=none/\t σ H1 λvs H2=>sp (x::vs) H2 Q E):=by
 intro pins s σ H Q E I h
 obtain⟨f,fd,F,hm,hb⟩:=D.ex
 refine kN (pl:=pl) (cf (he pins s σ H _ (I.qK _) h) (λu s1 c6=>?_) λ_ _ z=>dR z) ht
 obtain⟨x,H1,J1,rx,a,dx,fs,ex,ea,l,q⟩:=c6
 have I1:Inv X pins σ H1 s1:=J1.lu
 subst ex
 obtain rfl:u=bA a:=rx
 refine oo I1 ea cl hm l ?_
 refine mF (first:=[.ref a]) (h₀:=X.base) I.ok.mod.NB hm.kp (cf (ha pos pins s1 σ H1 _ (I1.qK _) q) (λus s2 c6=>?_) λ_ _ z=>dR z) o7 oT
 obtain⟨vs,H2,J2,r,q2⟩:=c6
 have I2:Inv X pins σ H2 s2:=J2.lu
 exact⟨I2.qQ,Go (us:=.ref a::us) (vs:=.ref a::vs) F (hr.mono hk) hb I2 (λ_ _ z=>⟨H2,s2,I2,z⟩) (.cons rfl r) q2⟩
end
section
variable {X:Cx}
theorem Gi {c:bR} {te:XK->TE} {R9:gR} (he:U3 X c te) (Xa:rK c none R9.line X.env=pure false:=by rfl):PX X (.Expr c R9) (λD Ex σ H=>te (Ex σ) σ H λ_ H1=>D.nx σ H1):=by
 intro pins s σ H D Ex I h
 refine wpAny_Expr_any (cf (he pins s σ H _ (Ex σ) I h) (λv s1 z=>?_) λx s' z=>⟨σ,z⟩) I.quiet Xa
 obtain⟨u,H1,I1,r1,q1⟩:=z
 exact⟨σ,H1,I1,q1⟩
theorem Yj {c:bR} {a b:cL} {tc:TT} {t u:TX} {pos:gR} (hc:PT X.wC c tc) (ha:PX X a t) (hb:PX X b u):PX X (.If c [a] [b] pos) (λD Ex σ H=>tc σ H λd H1=>if d=true then t D Ex σ H1 else u D Ex σ H1):=by
 intro pins s σ H D Ex I h
 refine wpAny_If (cf (hc pins s σ H _ (I.qK _) h) (λd s1 c6=>?_) λ_ _ z=>dR z)
 obtain⟨H1,J1,q1⟩:=c6
 have I1:Inv X pins σ H1 s1:=J1.lu
 cases d with
 | true =>
  refine kj (cf (ha pins s1 σ H1 D Ex I1 q1) (λf s2 z=>?_) λ_ _ z=>z)
  cases f with
  | next=>exact gW z
  | _=>exact z
 | false =>
  refine kj (cf (hb pins s1 σ H1 D Ex I1 q1) (λf s2 z=>?_) λ_ _ z=>z)
  cases f with
  | next=>exact gW z
  | _=>exact z
theorem Pk {st:cL} {t:TX} {th:TS} {g n:aT} {i:Nat} {G:ah} {b0:cL} {lD:List cL} {np AA rM:gR} (hb:PX X st t) (QN:X.mg g=some (.ref G)) (hs:∀ ea,uY (X.lD ea) (b0::lD) th) (hN:X.N.Nodup) (hi:X.N[i]?=some n) (hl:X.env.scope.names.lookup n=some .local)
  (hc:X.calm=true:=by rfl) (o7:X.stack=X.env::X.outer:=by rfl) (hf:X.env.frame=some X.env.locals:=by rfl) (Kw:Gl X g:=by rfl) (hdg:(g == ("__debug__" : aT))=false:=by decide) :
  PS X (.Try [st] [.ExceptHandler (some (.Name g np)) (some n) (b0::lD) AA] [] [] rM) (λD σ H=>t D (λσ'=>V3 X.K G th i D σ') σ H):=by
 intro pins s σ H D0 I h
 refine wpAny_Try_except (kj (cf (hb pins s σ H D0 _ I h) (λf s1 z=>?_) λx s' z=>?_))
 ·cases f with
  | next=>exact gW (gW z)
  | _=>exact z
 ·obtain⟨σ',H1,s1,J,z⟩:=z
  exact R3 (D:=D0) J o7 hf hc hN hi hl Kw QN hs hdg z λC H' ⟨C',e1,q1,q2⟩=>by cases e1;exact⟨q1,q2⟩
end
end L2
namespace L2
open PySem PySem.W PySem.Calls PyProof.Rows
def tm (tb:String->Option eF) (p:aO) (w:bD) (n₀:Nat) (ann:Option ae):Nat->SharedT->Thread->Option SharedT
 | 0,_,_=>none
 | n + 1,s,t=>match through t with
  | true=>some s
  | false=>match stepOk n₀ ann t with
   | false=>none
   | true=>match stepT (denote tb) p w s t with
    | some (s',t')=>tm tb p w n₀ ann n s' t'
    | none=>none
theorem zt {tb:String->Option eF} {p:aO} {w:bD} {n₀:Nat} {ann:Option ae}:∀ {n:Nat} {s s':SharedT} {t:Thread},tm tb p w n₀ ann n s t=some s'->topRun tb p w n₀ ann n s.abs t=some s'.abs
 | 0,_,_,_,h=>by cases h
 | n + 1,s,s',t,h=>by
  unfold tm at h
  unfold topRun
  cases he:through t with
  | true=>rw[he] at h;cases h;rfl
  | false =>
   rw[he] at h
   cases hk:stepOk n₀ ann t with
   | false=>rw[hk] at h;cases h
   | true =>
    rw[hk] at h
    cases hs:stepT (denote tb) p w s t with
    | none=>rw[hs] at h;cases h
    | some r=>obtain⟨s₂,t₂⟩:=r;rw[hs] at h;rw[stepT_spec hs];exact zt h
noncomputable def tj (p:aO) (w:bD) (n₀:Nat) (ann:Option ae):Nat->SharedT->Thread->Option SharedT
 | 0,_,_=>none
 | n + 1,s,t=>match through t with
  | true=>some s
  | false=>match PySem.W.Fast.tw6613529449190102663 n₀ ann t with
   | false=>none
   | true=>match PySem.W.Fast.tw10156331382660048174 (PySem.W.Fast.tw11892475500146522536 PySem.W.Fast.tw14364793385576792824) p w s t with
    | some (s',t')=>tj p w n₀ ann n s' t'
    | none=>none
theorem xm {p:aO} {w:bD} {n₀:Nat} {ann:Option ae}:∀ (n:Nat) (s:SharedT) (t:Thread),tj p w n₀ ann n s t=tm Dr p w n₀ ann n s t
 | 0,_,_=>rfl
 | n + 1,s,t=>by
  unfold tj tm
  rw[← PySem.W.Fast.te6613529449190102663,← PySem.W.Fast.te10156331382660048174,← PySem.W.Fast.te11892475500146522536,← PySem.W.Fast.te14364793385576792824]
  cases through t with
  | true=>rfl
  | false =>
   dsimp only
   cases stepOk n₀ ann t with
   | false=>rfl
   | true =>
    dsimp only
    cases stepT (denote Dr) p w s t with
    | none=>rfl
    | some r=>exact xm n r.1 r.2
def a0B:List d6->Nat->BT->BT
 | [],_,t=>t
 | o::l,n,t=>a0B l (n+1) (t.ins n o)
noncomputable def yJ (P:NT):BT:=a0B (boot_heap P).objs.toList 0 .nil
noncomputable def Bw {α:Type} (p q:aO) (loose:List aT) (Xt:ai->Bool) (g0:Bool) (Yf:ai->α) (H:bT) (s:ai) :=
 ((staticsOk (Ef p.main.body) H s.heap && namesBound p s.heap && gensDone s && laidKept H s.heap),PySem.W.Fast.tw4187177175401517315 q loose (Ef p.main.body) Xt g0 s,Yf s)
theorem Io {p q:aO} {loose:List aT} {Xt:ai->Bool} {α:Type} {Yf:ai->α} {Ya:bD->α} {N:Nat} {g0:Bool} {H₀:NT->bT} {gs₀:Array G2} {d₀:M9} {k₀:Nat} {m₀:Nat} {ann:Option ae} {M:Nat} {T₀:NT->BT} {n₀:Nat} {life:Life}
  (X8:∀ w:bD,(fencedOpening Dr p w N).map (λs=>(s.heap,s.gens,s.drawn,s.toks))=some (H₀ w.params,gs₀,d₀,k₀))
  (size:∀ w:bD,((H₀ w.params).isNs bf && gs₀.size == 0,(H₀ w.params).objs.size,(H₀ w.params).nsMap bf "__annotations__")=(true,m₀,ann))
  (tree:∀ P:NT,absHeap (T₀ P) n₀ life=H₀ P)
  (run:∀ (w:bD) (os:OsState),(tj p w m₀ ann M ⟨T₀ w.params,n₀,life,gs₀,d₀,k₀,os⟩ (topStub p)).map (λr=>Bw p q loose Xt g0 Yf (H₀ w.params) r.abs)=some (true,openGood q loose,Ya w))
  (le:Nat.ble M N=true):LeftO p q loose Xt Yf Ya N g0:=λw=>by
 obtain⟨⟨h,gs,d,k,os⟩,e,e'⟩:=dY.mp (X8 w)
 obtain⟨rfl,rfl,rfl,rfl⟩:h=H₀ w.params/\gs=gs₀/\d=d₀/\k=k₀:=by simpa using e'
 obtain⟨z1,z2,z3⟩:_/\_/\_:=by simpa only [Qy] using size w
 obtain⟨r,hr,hl⟩:=dY.mp (run w os)
 obtain⟨l1,l2,l3⟩:_/\_/\_:=by simpa only [Bw,← PySem.W.Fast.te4187177175401517315,Qy] using hl
 rw[xm] at hr
 have r2:=zt hr
 have ea:SharedT.abs ⟨T₀ w.params,n₀,life,gs,d,k,os⟩=⟨H₀ w.params,gs,d,k,os⟩:=by
  unfold SharedT.abs
  rw[tree]
 rw[ea] at r2
 have r3:=topRun_mono (N-M) _ _ _ _ r2
 rw[show M+(N-M)=N by have:=Nat.le_of_ble_eq_true le;omega] at r3
 have t:topFrom Dr p w N ⟨H₀ w.params,gs,d,k,os⟩=some r.abs:=by
  unfold topFrom
  dsimp only
  rw[z1,z2,z3,r3]
  show (match staticsOk (Ef p.main.body) (H₀ w.params) r.abs.heap && namesBound p r.abs.heap && gensDone r.abs && laidKept (H₀ w.params) r.abs.heap with | true=>_ | false=>_)=_
  rw[l1]
 unfold openEnds
 rw[e]
 show (topFrom Dr p w N _).map _=_
 rw[t]
 exact congrArg some (Prod.ext l2 l3)
def AO (as:List ah) (h:bT):Frag:=as.filterMap λa=>(h.get? a).map λo=>(a,o)
def a0K (s:cL):gR:=match s with
 | .FunctionDef _ _ _ _ _ _ _ _ _ p=>p
 | _=>⟨0,0,0,0⟩
def Oc (K:Frag):ae->Option (Option (List ae))
 | .none=>some none
 | .ref T=>match K.lookup T with
  | some ⟨_,_,.seq vs _,_⟩=>some (some vs.toList)
  | _=>none
 | _=>none
abbrev Sig:=(aT × aT × ah × List (aT × ah) × Option (Option (List ae)) × ah) × (Bool × Bool) × jh × FuncBody × ek
def uf (K:Frag) (v:Option (Option ae)) (qual:aT):Option Sig:=match v with
 | some (some (.ref f))=>match K.lookup f with
  | some ⟨_,_,.func fd,_⟩=>some ((fd.name,fd.qualname,fd.globals,fd.closure,Oc K fd.defaults,fd.builtins),(codeIn K fd.code qual,isFn K (.ref f)),fd.params,fd.body,fd.scope)
  | _=>none
 | _=>none
def Mi (x qual:aT) (st:cL) (df:Option (List ae)):Sig:=((x,qual,bf,[],some df,kT),(true,true),jY st,.stmts (fk st),aC st)
theorem FO {K:Frag} {f:ah} {oc:ae} {od:Option ah} {fd:fJ} {sl:Array (Option ae)} (l:K.lookup f=some ⟨oc,od,.func fd,sl⟩):keepIn K (.ref f)=true:=by
 unfold keepIn
 simp only [l]
theorem yQ {K:Frag} {v:Option (Option ae)} {x qual:aT} {st:cL} {df:Option (List ae)} (e:uf K v qual=some (Mi x qual st df)) :
  ∃ (f:ah) (oc:ae) (od:Option ah) (dV kV doc pm:ae) (an:Option ah) (dk ct:ae) (sl:Array (Option ae)),v=some (some (.ref f))/\K.lookup f=some ⟨oc,od,.func (fnOf x qual (jY st) (fk st) (aC st) dV kV doc pm an dk ct),sl⟩ /\
   codeIn K dk qual=true/\isFn K (.ref f)=true/\Oc K dV=some df:=by
 unfold uf at e
 split at e
 ·rename_i f
  split at e
  ·rename_i oc od fd sl hl
   obtain⟨nm,qn,ps,bd,sc,gl,cl,dV,kV,doc,pm,an,cd,ct,bl⟩:=fd
   injection e with e
   injection e with e1 e2
   injection e1 with a1 e1
   injection e1 with a2 e1
   injection e1 with a3 e1
   injection e1 with a4 e1
   injection e1 with a5 a6
   injection e2 with e3 e4
   injection e3 with b1 b2
   injection e4 with c1 e4
   injection e4 with c2 c3
   dsimp only at a1 a2 a3 a4 a5 a6 b1 b2 c1 c2 c3
   subst a1 a2 a3 a4 a6 c1 c2 c3
   exact⟨f,oc,od,dV,kV,doc,pm,an,cd,ct,sl,rfl,hl,b1,b2,a5⟩
  ·cases e
 ·cases e
theorem yO {K:Frag} {v:ae} (e:Oc K v=some none):v=.none:=by
 unfold Oc at e
 split at e
 ·rfl
 ·split at e <;> cases e
 ·cases e
theorem rp {K:Frag} {v:Option (Option ae)} {x qual:aT} {st:cL} (e:uf K v qual=some (Mi x qual st none)):∃ f fd,v=some (some (.ref f))/\Fe K x qual st f fd/\isFn K (.ref f)=true:=by
 obtain⟨f,oc,od,dV,kV,doc,pm,an,dk,ct,sl,hv,l,c,i,d⟩:=yQ e
 obtain rfl:=yO d
 exact⟨f,_,hv,Kj l c (FO l),i⟩
inductive Ky where
 | df (x:aT)
 | me (c m qual:aT)
def Ky.val (K:Frag):Ky->Option (Option ae)
 | .df x=>nsIn K bf x
 | .me c m _=>match nsIn K bf c with
  | some (some v)=>findIn K v m
  | _=>none
def Ky.qual:Ky->aT
 | .df x=>x
 | .me _ _ q=>q
def Ky.nm:Ky->aT
 | .df x=>x
 | .me _ m _=>m
def Ap (K:Frag) (c:aT × List aT):Option (Bool × Option (Option ae) × List (Option (Option ae))):=match nsIn K bf c.1 with
 | some (some (.ref C))=>some (plainGet K C Str.empty && hasDictIn K C && plainOver K C && makesIn K C && keepIn K (.ref C),findIn K (.ref C) "__setattr__",c.2.map λf=>findIn K (.ref C) f)
 | _=>none
def OG (K:Frag) (x:aT):Option Int:=match nsIn K bf x with
 | some (some (.int v _))=>some v
 | _=>none
def PP (K:Frag) (x:aT):Option aT:=match nsIn K bf x with
 | some (some (.str v _))=>some v
 | _=>none
structure lR (β:Type) where
 ks:List (Ky × cL × Option (List ae))
 cs:List (aT × List aT):=[]
 is:List (aT × Int):=[]
 ss:List (aT × aT):=[]
 bs:List aT:=[]
 xc:Frag->Bool:=λ_=>true
 ext:Frag->β
 Sb:bD->β
section
variable {β:Type} (A:lR β)
def lR.look (K:Frag):=(A.ks.map λk=>uf K (k.1.val K) k.1.qual,A.cs.map (Ap K),A.is.map λx=>OG K x.1,A.ss.map λx=>PP K x.1,A.bs.map λx=>nsIn K bf x,A.xc K,A.ext K)
def lR.want (w:bD):=(A.ks.map λk=>some (Mi k.1.nm k.1.qual k.2.1 k.2.2),A.cs.map λc=>some (true,some (some (iJ "object.__setattr__")),c.2.map λ_=>some (none:Option ae)),A.is.map λx=>some x.2,A.ss.map λx=>some x.2,A.bs.map λ_=>some (none:Option ae),true,A.Sb w)
def lR.Ok (w:bD) (K:Frag):Prop:=A.look K=A.want w
end
theorem AH {α γ:Type} {l:List α} {f g:α->γ} (e:l.map f=l.map g) {i:Nat} {a:α} (h:l[i]?=some a):f a=g a:=by
 have z:=congrArg (λl=>l[i]?) e
 simp only [aB,h,Option.map_some] at z
 injection z
section
variable {β:Type} {A:lR β} {w:bD} {K:Frag} {h:bT} {mg:aT->Option ae}
theorem lR.Ok.fn (e:A.Ok w K) {i:Nat} {k:Ky} {st:cL} {df:Option (List ae)} (hi:A.ks[i]?=some (k,st,df)):uf K (k.val K) k.qual=some (Mi k.nm k.qual st df):=AH (f:=λk:Ky × cL × Option (List ae)=>uf K (k.1.val K) k.1.qual) (g:=λk=>some (Mi k.1.nm k.1.qual k.2.1 k.2.2)) (congrArg Prod.fst e) hi
theorem lR.Ok.defAt (e:A.Ok w K) (X:K.In h) (G:h.Ns bf mg) (i:Nat) {x:aT} {st:cL} {ps:List aT} (hi:A.ks[i]?=some (.df x,st,none))
  (hb:∀ (kV doc pm:ae) (an:Option ah) (dk ct:ae) (us:List ae),us.length=ps.length->oQ (fnOf x x (jY st) (fk st) (aC st) .none kV doc pm an dk ct) ⟨us,[]⟩=pure (ps.zip us)):bz K mg x st ps:=by
 obtain⟨f,fd,hv,F,_⟩:=rp (e.fn hi)
 exact⟨f,fd,F,mg_of X G hv,F.binds hb⟩
theorem lR.Ok.law (e:A.Ok w K) (X:K.In h) (G:h.Ns bf mg) (i:Nat) {x:aT} {st:cL} {fa:ah} (hi:A.ks[i]?=some (.df x,st,none)) (hm:mg x=some (.ref fa)) :
  ∃ kV doc pm an dk ct,Fe K x x st fa (fnOf x x (jY st) (fk st) (aC st) .none kV doc pm an dk ct):=by
 obtain⟨f,oc,od,dV,kV,doc,pm,an,dk,ct,sl,hv,l,c,_,d⟩:=yQ (e.fn hi)
 obtain rfl:=yO d
 have z:=hm.symm.trans (mg_of X G hv)
 injection z with z
 injection z with z
 subst z
 exact⟨kV,doc,pm,an,dk,ct,Kj l c (FO l)⟩
theorem lR.Ok.cls (e:A.Ok w K) (X:K.In h) (G:h.Ns bf mg) (i:Nat) {x:aT} {fs:List aT} (hi:A.cs[i]?=some (x,fs)):∃ C,nsIn K bf x=some (some (.ref C))/\makesIn K C=true/\keepIn K (.ref C)=true/\ClsAt K mg x C fs:=by
 have z:=AH (f:=Ap K) (g:=λc=>some (true,some (some (iJ "object.__setattr__")),c.2.map λ_=>some (none:Option ae))) (congrArg (λp=>p.2.1) e) hi
 unfold Ap at z
 split at z
 ·rename_i C hC
  injection z with z
  injection z with z1 z2
  injection z2 with z2 z3
  simp only [bU] at z1
  obtain⟨⟨⟨⟨g1,g2⟩,g3⟩,g4⟩,g5⟩:=z1
  refine⟨C,hC,g4,g5,⟨g1,g2,g3,z2⟩,mg_of X G hC,λf hf=>?_⟩
  obtain⟨j,hj⟩:=List.mem_iff_getElem?.mp hf
  exact AH (f:=λf=>findIn K (.ref C) f) (g:=λ_=>some (none:Option ae)) z3 hj
 ·cases z
theorem lR.Ok.xY (e:A.Ok w K) (i:Nat) {c m qual:aT} {C:ah} {st:cL} {ps:List aT} (hC:nsIn K bf c=some (some (.ref C))) (hi:A.ks[i]?=some (.me c m qual,st,none))
  (hb:∀ (kV doc pm:ae) (an:Option ah) (dk ct:ae) (us:List ae),us.length=ps.length->oQ (fnOf m qual (jY st) (fk st) (aC st) .none kV doc pm an dk ct) ⟨us,[]⟩=pure (ps.zip us)):iG K C m qual st ps:=by
 obtain⟨f,fd,hv,F,i⟩:=rp (e.fn hi)
 have hv:(match nsIn K bf c with | some (some v)=>findIn K v m | _=>none)=some (some (.ref f)):=hv
 rw[hC] at hv
 exact⟨f,fd,F,⟨hv,i,F.kp⟩,F.binds hb⟩
theorem lR.Ok.TL (e:A.Ok w K) (i:Nat) {c qual:aT} {C:ah} {st:cL} {ps:List aT} (hC:nsIn K bf c=some (some (.ref C))) (hm:makesIn K C=true) (hk:keepIn K (.ref C)=true) (hi:A.ks[i]?=some (.me c "__init__" qual,st,none))
  (hb:∀ (kV doc pm:ae) (an:Option ah) (dk ct:ae) (us:List ae),us.length=ps.length->oQ (fnOf "__init__" qual (jY st) (fk st) (aC st) .none kV doc pm an dk ct) ⟨us,[]⟩=pure (ps.zip us)):uW K C qual st ps:=by
 obtain⟨f,fd,hv,F,i⟩:=rp (e.fn hi)
 have hv:(match nsIn K bf c with | some (some v)=>findIn K v "__init__" | _=>none)=some (some (.ref f)):=hv
 rw[hC] at hv
 exact⟨f,fd,F,⟨hm,hv,i,hk⟩,F.binds hb⟩
theorem lR.Ok.j4 (e:A.Ok w K) (X:K.In h) (G:h.Ns bf mg) (i:Nat) {x:aT} (hi:A.bs[i]?=some x):mg x=Fk :=
 mg_none_of X G (AH (f:=λx=>nsIn K bf x) (g:=λ_=>some (none:Option ae)) (congrArg (λp=>p.2.2.2.2.1) e) hi)
theorem lR.Ok.exc (e:A.Ok w K):A.xc K=true:=congrArg (λp=>p.2.2.2.2.2.1) e
theorem lR.Ok.more (e:A.Ok w K):A.ext K=A.Sb w:=congrArg (λp=>p.2.2.2.2.2.2) e
end
section
variable {w:bD} {K:Frag} {h:bT} {mg:aT->Option ae} {x:aT}
end
end L2
namespace L2
open PySem PySem.Spec PyProof.Rows
section
variable {X:Cx} {pos:gR}
end
section
variable {X:Cx} {pins:List (ah × d6)} {σ:St} {H:Hp} {s:ai}
end
section
variable {X:Cx}
end
end L2
namespace L2
open PySem PySem.Spec PyProof.Rows Builtin Builtin.Str
section
variable {prog:aO} {w:bD} {A:bp} {E:ae->ai->Prop} {s:ai} {x y z:aT} {t u v k:Nl} {Q:ae->ai->Prop}
end
section
variable {X:Cx}
end
section
variable {X:Cx} {K:ak}
theorem DW (hK:X.K=K):jG X (.builtin "isinstance") (λxs H Q=>∃ e C D b,xs=[.ref e,.ref D]/\H e=some (GQ e C)/\Hd K C/\cF K (.ref C) (.ref D)=some b/\Q (.bl b) H):=by subst hK;exact Hi
theorem DX {T:String} (hK:X.K=K):jG X (.builtin "isinstance") (λxs H Q=>∃ e C b,xs=[.ref e,.ty T]/\H e=some (GQ e C)/\Hd K C/\cF K (.ref C) (.type T)=some b/\Q (.bl b) H):=by subst hK;exact Hk
theorem v5 (hK:X.K=K):jG X (.builtin "isinstance") (λxs H Q=>∃ e C tp,∃ cs:List ah,xs=[.ref e,.ref tp]/\H e=some (GQ e C)/\Hd K C/\H tp=some (.tup (cs.map V.ref))/\(∀ c∈cs,cF K (.ref C) (.ref c)=some false)/\Q (.bl false) H):=by subst hK;exact Hj
end
end L2
namespace L2
open PySem
abbrev Wy:=Int × Int
abbrev Lf:=List (List Wy)
def gS (W:Lf) (x:Int):List Wy:=(W[x.toNat]?).getD []
def Wk (W:Lf):Int->List Wy->Int->Prop
 | x,[],y=>x=y
 | x,w::s,y=>w∈gS W x/\Wk W w.1 s y
def sm (s:List Wy):Int:=(s.map (·.2)).sum
theorem lr:sm []=0:=rfl
theorem kg (w:Wy) (s:List Wy):sm (w::s)=w.2+sm s:=by simp[sm]
theorem nA (a b:List Wy):sm (a++b)=sm a+sm b:=by
 induction a with
 | nil=>rw[iH,lr,vR]
 | cons w a ih=>rw[xp,kg,kg,ih,Int.add_assoc]
theorem Wk.app {W:Lf}:∀ {x y z:Int} {a b:List Wy},Wk W x a y->Wk W y b z->Wk W x (a++b) z
 | _,_,_,[],_,h1,h2=>by cases h1;exact h2
 | _,_,_,_::_,_,h1,h2=>⟨h1.1,Wk.app h1.2 h2⟩
theorem Wk.split {W:Lf}:∀ {x z:Int} {a b:List Wy},Wk W x (a++b) z->∃ y,Wk W x a y/\Wk W y b z
 | x,_,[],_,h=>⟨x,rfl,h⟩
 | _,_,w::a,b,h=>by
  obtain⟨y,h1,h2⟩:=Wk.split (a:=a) (b:=b) h.2
  exact⟨y,⟨h.1,h1⟩,h2⟩
theorem Wk.last {W:Lf} {x y:Int} {a:List Wy} {w:Wy} (h:Wk W x (a++[w]) y):y=w.1:=by
 obtain⟨z,_,h2⟩:=h.split
 exact h2.2.symm
def JO (g:Int) (s:List Wy):Prop:=∀ i,i<=s.length->0<=g+sm (s.take i)
theorem qw {α:Type} (f:α->Int):∀ {l:List α},¬ (l.map f).Nodup->∃ a u b v c,l=a++u::(b++v::c)/\f u=f v
 | [],h=>absurd nH h
 | u :: l,h=>by
  by_cases e:f u∈l.map f
  ·obtain⟨v,hv,ev⟩:=bL.mp e
   obtain⟨b,c,rfl⟩:=Na hv
   exact⟨[],u,b,v,c,rfl,ev.symm⟩
  ·have:¬ (l.map f).Nodup:=λz=>h (by rw[dg];exact dc.mpr ⟨e,z⟩)
   obtain⟨a,u',b,v,c,rfl,ev⟩:=qw f this
   exact⟨u::a,u',b,v,c,rfl,ev⟩
theorem AZ {W:Lf}:∀ (n:Nat) {x:Int} {s:List Wy},s.length<=n->s≠[]->Wk W x s x->0<=sm s->∃ y r,r≠[]/\Wk W y r y/\0<=sm r/\(r.map (·.1)).Nodup/\∀ w∈r,w∈s
 | 0,_,s,hl,hn,_,_=>absurd (xJ (by omega)) hn
 | n + 1,x,s,hl,hn,hw,hs=>by
  by_cases nd:(s.map (·.1)).Nodup
  ·exact⟨x,s,hn,hw,hs,nd,λ_ h=>h⟩
  obtain⟨a,u,b,v,c,rfl,e⟩:=qw (λw:Wy=>w.1) nd
  have e:u.1=v.1:=e
  have hlen:a.length+b.length+c.length+2<=n+1:=by simp at hl;omega
  have e1:a++u::(b++v::c)=(a++[u])++((b++[v])++c):=by simp
  rw[e1] at hw hs
  obtain⟨y,w1,w2⟩:=hw.split
  obtain⟨z,w3,w4⟩:=w2.split
  have ey:=w1.last
  have ez:=w3.last
  have hyz:y=z:=by omega
  subst hyz
  have hs:0<=sm (a++[u])+(sm (b++[v])+sm c):=by rw[← nA,← nA];exact hs
  by_cases c1:0<=sm (b++[v])
  ·obtain⟨y',r,r1,r2,r3,r4,r5⟩:=AZ n (by simp;omega) (by simp) w3 c1
   refine⟨y',r,r1,r2,r3,r4,λw hw=>?_⟩
   have:=r5 w hw
   simp at this ⊢;rcases this with h | h <;> simp[h]
  ·obtain⟨y',r,r1,r2,r3,r4,r5⟩:=AZ n (s:=(a++[u])++c) (by simp;omega) (by simp) (w1.app w4) (by rw[nA];omega)
   refine⟨y',r,r1,r2,r3,r4,λw hw=>?_⟩
   have:=r5 w hw
   simp at this ⊢;rcases this with h | h | h <;> simp[h]
theorem CJ (f:Nat->Int):∀ n,∃ k,k<=n/\∀ i,i<=n->f k<=f i
 | 0=>⟨0,aA _,λi hi=>by have:i=0:=(by omega);rw[this];exact gL _⟩
 | n + 1=>by
  obtain⟨k,h1,h2⟩:=CJ f n
  by_cases c:f k<=f (n+1)
  ·exact⟨k,by omega,λi hi=>by
    rcases cY i (n+1) with h | h
    ·exact h2 i (by omega)
    ·have:i=n+1:=(by omega)
     rw[this];exact c⟩
  ·refine⟨n+1,aA _,λi hi=>?_⟩
   rcases cY i (n+1) with h | h
   ·have:=h2 i (by omega);omega
   ·have:i=n+1:=(by omega)
    rw[this];exact gL _
theorem IU {W:Lf} {x:Int} {s:List Wy} (hn:s≠[]) (hw:Wk W x s x) (hs:0<=sm s):∃ z a b,s=a++b/\b++a≠[]/\Wk W z (b++a) z/\JO 0 (b++a):=by
 obtain⟨k,h1,h2⟩:=CJ (λi=>sm (s.take i)) s.length
 have BK:s=s.take k++s.drop k:=(gi k s).symm
 have oU:=hw
 rw[BK] at oU
 obtain⟨z,w1,w2⟩:=oU.split
 refine⟨z,s.take k,s.drop k,BK,λe=>hn (by rw[BK,(Fg.mp e).1,(Fg.mp e).2];rfl),w2.app w1,λi hi=>?_⟩
 have tot:sm (s.take k)+sm (s.drop k)=sm s:=by rw[← nA,gi]
 rw[List.take_append]
 rw[nA]
 rcases cY i (s.drop k).length with h | h
 ·have e0:i-(s.drop k).length=0:=by omega
  rw[e0,ii,lr]
  have e1:sm (s.take (k+i))=sm (s.take k)+sm ((s.drop k).take i):=by rw[← nA,← List.take_add]
  have:=h2 (k+i) (by rw[Qr] at h;omega)
  have this:sm (s.take k)<=sm (s.take (k+i)):=this
  omega
 ·rw[qg h,List.take_take]
  have h3:=h2 (min (i-(s.drop k).length) k) (by omega)
  have h3:sm (s.take k)<=sm (s.take (min (i-(s.drop k).length) k)):=h3
  omega
abbrev Tb:=Int->Option Int
def fP:Option Int->Option Int->Prop
 | _,none=>True
 | none,some _=>False
 | some a,some b=>a<=b
theorem fP.refl:∀ a,fP a a
 | none=>trivial
 | some a=>gL a
theorem fP.trans:∀ {a b c:Option Int},fP a b->fP b c->fP a c
 | _,_,none,_,_=>by unfold fP;trivial
 | _,none,some _,_,h=>h.elim
 | none,some _,some _,h,_=>h.elim
 | some _,some _,some _,h1,h2=>vQ (a:=_) h1 h2
theorem fP.total:∀ a b:Option Int,fP a b\/fP b a
 | _,none=>.inl (by unfold fP;trivial)
 | none,some _=>.inr trivial
 | some a,some b=>Int.le_total a b
theorem fP.VU:∀ {a b:Option Int},fP a b->fP b a->a=b
 | none,none,_,_=>rfl
 | none,some _,h,_=>h.elim
 | some _,none,_,h=>h.elim
 | some a,some b,h1,h2=>by have h1:a<=b:=h1;have h2:b<=a:=h2;rw[show a=b by omega]
def a0a (T:Tb) (w:Wy):Option Int:=(T w.1).map λv=>max (v-w.2) 0
theorem um {T T':Tb} {w:Wy} (h:fP (T w.1) (T' w.1)):fP (a0a T w) (a0a T' w):=by
 unfold a0a
 cases e':T' w.1 with
 | none=>exact (by unfold fP;trivial)
 | some b =>
  cases e:T w.1 with
  | none=>rw[e,e'] at h;exact h.elim
  | some a =>
   rw[e,e'] at h
   have h:a<=b:=h
   show max (a-w.2) 0<=max (b-w.2) 0
   omega
def cst:List Wy->Int
 | []=>0
 | w::s=>max (cst s-w.2) 0
theorem Fv:∀ s,0<=cst s
 | []=>gL _
 | w::s=>by show 0<=max (cst s-w.2) 0;omega
theorem pE {x y:List Wy} (h:cst x<=cst y):∀ a:List Wy,cst (a++x)<=cst (a++y)
 | []=>h
 | w::a=>by
  have:=pE h a
  show max (cst (a++x)-w.2) 0<=max (cst (a++y)-w.2) 0
  omega
theorem J6 (c:List Wy):∀ b:List Wy,cst c-sm b<=cst (b++c)
 | []=>by rw[lr,iH];omega
 | w::b=>by
  have:=J6 c b
  rw[kg]
  show _<=max (cst (b++c)-w.2) 0
  omega
def DO (W:Lf) (n:Nat):Prop:=∀ x,∀ w∈gS W x,0<=w.1/\w.1<(n:Int)
theorem Wk.inside {W:Lf} {n:Nat} (h:DO W n):∀ {x y:Int} {s:List Wy},Wk W x s y->∀ w∈s,0<=w.1/\w.1<(n:Int)
 | _,_,[],_,_,hw=>by cases hw
 | _,_,u::s,hk,w,hw=>by
  rcases aE.mp hw with e | e
  ·rw[e];exact h _ _ hk.1
  ·exact Wk.inside h hk.2 w e
theorem pV {n:Nat} {l:List Int} (h:l.Nodup) (hb:∀ x∈l,0<=x/\x<(n:Int)):l.length<=n:=by
 have:=iA l ((bO n).map λi=>((i:Nat):Int)) h λx hx=>bL.mpr ⟨x.toNat,d8.mpr (by have:=hb x hx;omega),by have:=hb x hx;omega⟩
 simpa using this
theorem oE {W:Lf} {n:Nat} {Z:Int->Prop} (ot:DO W n) (hZ:∀ x s,s≠[]->Wk W x s x->0<=sm s->∃ w∈s,Z w.1):∀ (m:Nat) {x z:Int} {s:List Wy},s.length<=m->0<=x->x<(n:Int)->Wk W x s z->Z z->∃ s' z',Wk W x s' z'/\Z z'/\cst s'<=cst s/\s'.length<n
 | 0,x,z,s,hl,x0,x1,hw,hz=>⟨s,z,hw,hz,gL _,by omega⟩
 | m + 1,x,z,s,hl,x0,x1,hw,hz=>by
  rcases cY s.length n with hs | hs
  ·exact⟨s,z,hw,hz,gL _,hs⟩
  have nd:¬ (((x,(0:Int))::s).map (λw:Wy=>w.1)).Nodup:=λh=>by
   have:=pV h λy hy=>by
    obtain⟨w,h1,h2⟩:=bL.mp hy
    rcases aE.mp h1 with e | e
    ·rw[← h2,e];exact⟨x0,x1⟩
    ·rw[← h2];exact hw.inside ot w e
   simp at this;omega
  obtain⟨a0,u,b,v,c,e,ev⟩:=qw (λw:Wy=>w.1) nd
  have ev:u.1=v.1:=ev
  obtain⟨a,hsa,rC⟩:∃ a,s=a++((b++[v])++c)/\∀ y,Wk W x a y->y=u.1:=by
   cases a0 with
   | nil =>
    simp only [iH,oG] at e
    refine⟨[],by rw[e.2];simp,λy hy=>?_⟩
    have hy:x=y:=hy
    rw[← hy,← e.1]
   | cons t a1 =>
    simp only [xp,oG] at e
    refine⟨a1++[u],by rw[e.2];simp,λy hy=>hy.last⟩
  subst hsa
  obtain⟨y,w1,w2⟩:=hw.split
  obtain⟨y2,w3,w4⟩:=w2.split
  have e1:=rC y w1
  have e2:=w3.last
  have e3:y=y2:=by omega
  subst e3
  have hlen:a.length+b.length+1+c.length<=m+1:=by simp at hl;omega
  by_cases cs:0<=sm (b++[v])
  ·obtain⟨w,hwm,Z2⟩:=hZ y _ (by simp) w3 cs
   by_cases cy:Z y
   ·obtain⟨s',z',h1,h2,h3,h4⟩:=oE ot hZ m (s:=a) (by omega) x0 x1 w1 cy
    refine⟨s',z',h1,h2,vQ h3 ?_,h4⟩
    have:=pE (x:=[]) (y:=(b++[v])++c) (Fv _) a
    rwa [ef] at this
   ·obtain⟨b1,b2,eb⟩:=Na hwm
    have So:b2≠[]:=λz0=>by
     rw[z0] at eb
     rw[eb] at w3
     exact cy (by rw[w3.last];exact Z2)
    have eb':b++[v]=(b1++[w])++b2:=by rw[eb];simp
    have w3':=w3
    rw[eb'] at w3'
    obtain⟨t,t1,t2⟩:=w3'.split
    have et:=t1.last
    have qP:b1.length+1+b2.length=b.length+1:=by have:=congrArg rR eb';simp at this;omega
    have aip:0<b2.length:=b7.mpr So
    obtain⟨s',z',h1,h2,h3,h4⟩:=oE ot hZ m (s:=a++(b1++[w])) (by simp;omega) x0 x1 (w1.app t1) (by rw[et];exact Z2)
    refine⟨s',z',h1,h2,vQ h3 ?_,h4⟩
    refine pE ?_ a
    rw[eb',iW]
    have:=pE (x:=[]) (y:=b2++c) (Fv _) (b1++[w])
    rwa [ef] at this
  ·obtain⟨s',z',h1,h2,h3,h4⟩:=oE ot hZ m (s:=a++c) (by simp;omega) x0 x1 (w1.app w4) hz
   refine⟨s',z',h1,h2,vQ h3 (pE ?_ a),h4⟩
   have:=J6 c (b++[v])
   omega
structure U5 (W:Lf) (p:Int) (T T':Tb):Prop where
 other:∀ q,q≠p->T' q=T q
 le:fP (T' p) (T p)
 by_:∀ w∈gS W p,fP (T' p) (a0a T w)
 V8:T' p=T p\/∃ w∈gS W p,T' p=a0a T w
theorem U5.down {W:Lf} {p:Int} {T T':Tb} (h:U5 W p T T') (q:Int):fP (T' q) (T q):=by
 by_cases e:q=p
 ·rw[e];exact h.le
 ·rw[h.other q e];exact fP.refl _
structure Tk (W:Lf) (Z:Int->Prop) (T:Tb):Prop where
 pos:∀ x v,T x=some v->0<=v
 zero:∀ x,Z x->T x=some 0
 real:∀ x v,T x=some v->∃ s z,Wk W x s z/\Z z/\cst s<=v
 way:∀ x v,T x=some v->Z x\/∃ w∈gS W x,fP (a0a T w) (some v)
theorem sJ {T:Tb} {w:Wy} {v:Int} (h:a0a T w=some v):0<=v/\∃ u,T w.1=some u/\u-w.2<=v:=by
 unfold a0a at h
 cases e:T w.1 with
 | none=>rw[e] at h;cases h
 | some u =>
  rw[e] at h
  have h:max (u-w.2) 0=v:=cK h
  exact⟨by omega,u,rfl,by omega⟩
theorem Tk.Vq {W:Lf} {Z:Int->Prop} {p:Int} {T T':Tb} (k:Tk W Z T) (h:U5 W p T T'):Tk W Z T':=by
 have key:∀ x v,T' x=some v->T x=some v\/x=p/\∃ w∈gS W p,a0a T w=some v:=λx v hv=>by
  by_cases e:x=p
  ·subst e
   rcases h.V8 with f | ⟨w,hw,f⟩
   ·exact .inl (by rw[← f];exact hv)
   ·exact .inr ⟨rfl,w,hw,by rw[← f];exact hv⟩
  ·exact .inl (by rw[← h.other x e];exact hv)
 refine⟨λx v hv=>?_,λx hx=>?_,λx v hv=>?_,λx v hv=>?_⟩
 ·rcases key x v hv with f | ⟨_,w,_,f⟩
  ·exact k.pos x v f
  ·exact (sJ f).1
 ·have h1:=k.zero x hx
  have h2:=h.down x
  rw[h1] at h2
  cases e:T' x with
  | none=>rw[e] at h2;exact h2.elim
  | some v =>
   rw[e] at h2
   have h2:v<=0:=h2
   have:0<=v:=by
    rcases key x v e with f | ⟨_,w,_,f⟩
    ·exact k.pos x v f
    ·exact (sJ f).1
   rw[show v=0 by omega]
 ·rcases key x v hv with f | ⟨rfl,w,hw,f⟩
  ·exact k.real x v f
  ·obtain⟨v0,u,hu,hle⟩:=sJ f
   obtain⟨s,z,h1,h2,h3⟩:=k.real _ u hu
   refine⟨w::s,z,⟨hw,h1⟩,h2,?_⟩
   show max (cst s-w.2) 0<=v
   omega
 ·rcases key x v hv with f | ⟨rfl,w,hw,f⟩
  ·rcases k.way x v f with g | ⟨w,hw,g⟩
   ·exact .inl g
   ·exact .inr ⟨w,hw,(um (h.down _)).trans g⟩
  ·exact .inr ⟨w,hw,(um (h.down _)).trans (by rw[f];exact fP.refl _)⟩
def Nk (W:Lf) (Z:Int->Prop) (n k:Nat) (T:Tb):Prop:=∀ x s z,0<=x->x<(n:Int)->Wk W x s z->Z z->s.length<=k->fP (T x) (some (cst s))
def RI (W:Lf) (Z:Int->Prop) (n k:Nat) (i:Nat) (T:Tb):Prop:=Nk W Z n k T/\∀ x s z,0<=x->x<(i:Int)->Wk W x s z->Z z->s.length<=k+1->fP (T x) (some (cst s))
theorem Nk.start {W:Lf} {Z:Int->Prop} {n:Nat} {T:Tb} (h:∀ x,Z x->T x=some 0):Nk W Z n 0 T:=λx s z _ _ hw hz hl=>by
 have e:=xJ (Nat.le_zero.mp hl)
 subst e
 cases hw
 rw[h x hz];exact fP.refl _
theorem Nk.mid {W:Lf} {Z:Int->Prop} {n k:Nat} {T:Tb} (h:Nk W Z n k T):RI W Z n k 0 T:=⟨h,λx s z h0 h1=>absurd h1 (by omega)⟩
theorem RI.Vq {W:Lf} {Z:Int->Prop} {n k i:Nat} {T T':Tb} (ot:DO W n) (k0:Tk W Z T') (h:RI W Z n k i T) (s:U5 W (i:Int) T T'):RI W Z n k (i+1) T':=by
 refine⟨λx t z x0 x1 hw hz hl=>(s.down x).trans (h.1 x t z x0 x1 hw hz hl),λx t z h0 h1 hw hz hl=>?_⟩
 by_cases e:x=(i:Int)
 ·subst e
  cases t with
  | nil =>
   cases hw
   rw[k0.zero _ hz];exact fP.refl _
  | cons w t =>
   refine (s.by_ w hw.1).trans ?_
   have hi:=ot _ w hw.1
   have:=h.1 w.1 t z hi.1 hi.2 hw.2 hz (by simp at hl;omega)
   unfold a0a
   cases e:T w.1 with
   | none=>rw[e] at this;exact this.elim
   | some u =>
    rw[e] at this
    have this:u<=cst t:=this
    show max (u-w.2) 0<=max (cst t-w.2) 0
    omega
 ·exact (s.down x).trans (h.2 x t z h0 (by omega) hw hz hl)
theorem RI.done {W:Lf} {Z:Int->Prop} {n k:Nat} {T:Tb} (h:RI W Z n k n T):Nk W Z n (k+1) T:=λx s z x0 x1 hw hz hl=>h.2 x s z x0 x1 hw hz hl
structure uH (W:Lf) (n:Nat) (T:Tb):Prop where
 pos:∀ x v,T x=some v->0<=v
 low:∀ x,0<=x->x<(n:Int)->∀ w∈gS W x,fP (T x) (a0a T w)
 way:∀ x v,0<=x->x<(n:Int)->T x=some v->∃ w∈gS W x,fP (a0a T w) (some v)
 ring:∀ x s,s≠[]->Wk W x s x->0<=sm s->∃ w∈s,T w.1=some 0
theorem zb {W:Lf} {n:Nat} {T:Tb} (ot:DO W n) (AA:∀ x v,T x=some v->0<=v) (WP:∀ x,0<=x->x<(n:Int)->∀ w∈gS W x,fP (T x) (a0a T w)) {z:Int} (hz:T z=some 0):∀ {x:Int} {s:List Wy} {g:Int},0<=x->x<(n:Int)->Wk W x s z->JO g s->fP (T x) (some g)
 | x,[],g,x0,x1,hw,ho=>by
  cases hw
  rw[hz]
  have:=ho 0 (bE _)
  rw[ii,lr] at this
  show (0:Int)<=g
  omega
 | x,w::s,g,x0,x1,hw,ho=>by
  have hi:=ot x w hw.1
  have ug:JO (g+w.2) s:=λi hi=>by
   have:=ho (i+1) (by simp;omega)
   rw[JN,kg] at this
   omega
  have ih:=zb ot AA WP hz hi.1 hi.2 hw.2 ug
  refine (WP x x0 x1 w hw.1).trans ?_
  have g0:0<=g:=by have:=ho 0 (bE _);rw[ii,lr] at this;omega
  unfold a0a
  cases e:T w.1 with
  | none=>rw[e] at ih;exact ih.elim
  | some u =>
   rw[e] at ih
   have ih:u<=g+w.2:=ih
   show max (u-w.2) 0<=g
   omega
theorem TQ {W:Lf} {n:Nat} {Z:Int->Prop} {T:Tb} (ot:DO W n) (hZ:∀ x s,s≠[]->Wk W x s x->0<=sm s->∃ w∈s,Z w.1) (hB:∀ z,Z z->0<=z/\z<(n:Int)/\∃ s,s≠[]/\Wk W z s z/\JO 0 s) (k:Tk W Z T) (r:Nk W Z n n T):uH W n T:=by
 have low:∀ x,0<=x->x<(n:Int)->∀ w∈gS W x,fP (T x) (a0a T w):=λx x0 x1 w hw=>by
  cases e:a0a T w with
  | none=>exact (by unfold fP;trivial)
  | some v =>
   obtain⟨v0,u,hu,hle⟩:=sJ e
   obtain⟨s,z,h1,h2,h3⟩:=k.real _ u hu
   obtain⟨s',z',g1,g2,g3,g4⟩:=oE ot hZ (s.length+1) (s:=w::s) (by simp) x0 x1 ⟨hw,h1⟩ h2
   have:=r x s' z' x0 x1 g1 g2 (by omega)
   refine this.trans ?_
   show cst s'<=v
   have:cst (w::s)=max (cst s-w.2) 0:=rfl
   omega
 refine⟨k.pos,low,λx v x0 x1 hv=>?_,λx s hs hw hm=>?_⟩
 ·rcases k.way x v hv with hz | h
  ·obtain⟨_,_,s,hs,hw,ho⟩:=hB x hz
   have ZY:=k.zero x hz
   rw[hv] at ZY
   cases ZY
   cases s with
   | nil=>exact absurd rfl hs
   | cons w s =>
    have hi:=ot x w hw.1
    have ug:JO (0+w.2) s:=λi hi=>by
     have:=ho (i+1) (by simp;omega)
     rw[JN,kg] at this
     omega
    have:=zb ot k.pos low (k.zero x hz) hi.1 hi.2 hw.2 ug
    refine⟨w,hw.1,?_⟩
    unfold a0a
    cases e:T w.1 with
    | none=>rw[e] at this;exact this.elim
    | some u =>
     rw[e] at this
     have this:u<=0+w.2:=this
     show max (u-w.2) 0<=0
     omega
  ·exact h
 ·obtain⟨w,hw,hz⟩:=hZ x s hs hw hm
  exact⟨w,hw,k.zero _ hz⟩
theorem JO.snoc {g:Int} {s:List Wy} {w:Wy} (h:JO g s) (hw:0<=g+(sm s+w.2)):JO g (s++[w]):=λi hi=>by
 rcases cY s.length i with c | c
 ·rw[qg (by simp;omega),nA,kg,lr];omega
 ·rw[lO c];exact h i c
def GoodG (W:Lf) (z:Int) (G:Tb):Prop:=∀ p g,G p=some g->∃ s,Wk W z s p/\JO 0 s/\sm s=g
theorem MS {W:Lf} {p:Int} {w:Wy} (h:w∈gS W p):Wk W p [w] w.1:=⟨h,rfl⟩
theorem GoodG.step {W:Lf} {z p g:Int} {w:Wy} {G:Tb} (h:GoodG W z G) (hg:G p=some g) (hw:w∈gS W p) (h0:0<=g+w.2):GoodG W z (λq=>if q=w.1 then some (g+w.2) else G q):=λq g' e=>by
 have e:(if q=w.1 then some (g+w.2) else G q)=some g':=e
 by_cases c:q=w.1
 ·rw[if_pos c] at e
  cases e
  obtain⟨s,h1,h2,h3⟩:=h p g hg
  exact⟨s++[w],by rw[c];exact h1.app (MS hw),h2.snoc (by omega),by rw[nA,kg,lr];omega⟩
 ·rw[if_neg c] at e
  exact h q g' e
theorem GoodG.start {W:Lf} {z:Int} {G:Tb} (h:∀ p g,G p=some g->p=z/\g=0):GoodG W z G:=λp g e=>by
 obtain⟨rfl,rfl⟩:=h p g e
 exact⟨[],rfl,λi hi=>by rw[List.take_nil,lr];decide,rfl⟩
def Rg (W:Lf) (z:Int) (r:List Wy):Prop:=r≠[]/\Wk W z r z/\JO 0 r
theorem GoodG.back {W:Lf} {z p g:Int} {w:Wy} {G:Tb} (h:GoodG W z G) (hg:G p=some g) (hw:w∈gS W p) (ez:w.1=z) (h0:0<=g+w.2):∃ r,Rg W z r:=by
 obtain⟨s,h1,h2,h3⟩:=h p g hg
 have:=h1.app (MS hw)
 rw[ez] at this
 exact⟨s++[w],by simp,this,h2.snoc (by omega)⟩
def Sg (a:Option Int) (v:Int):Prop:=∃ g,a=some g/\v<=g
def G8 (G G':Tb):Prop:=∀ p v,Sg (G p) v->Sg (G' p) v
theorem G8.refl (G:Tb):G8 G G:=λ_ _ h=>h
theorem G8.trans {A B C:Tb} (h1:G8 A B) (h2:G8 B C):G8 A C:=λp v h=>h2 p v (h1 p v h)
theorem G8.put {G:Tb} {q v:Int} (h:∀ g,G q=some g->g<=v):G8 G (λp=>if p=q then some v else G p):=λp u hu=>by
 by_cases c:p=q
 ·obtain⟨g,e,hg⟩:=hu
  rw[c] at e
  have:=h g e
  exact⟨v,if_pos c,by omega⟩
 ·obtain⟨g,e,hg⟩:=hu
  exact⟨g,(if_neg c).trans e,hg⟩
def Gd (z:Int) (r:List Wy) (j:Nat):Int:=if j=0 then z else ((r[j-1]?).map (·.1)).getD z
theorem sN {z:Int} {r:List Wy} {j:Nat} {w:Wy} (h:r[j]?=some w):Gd z r (j+1)=w.1:=by
 unfold Gd
 rw[if_neg (by omega),Nat.add_sub_cancel,h];rfl
theorem Ri {W:Lf}:∀ {z y:Int} {r:List Wy} {j:Nat} {w:Wy},Wk W z r y->r[j]?=some w->w∈gS W (Gd z r j)
 | _,_,[],_,_,_,h=>by cases h
 | z,y,u::r,0,w,hk,h=>by cases h;exact hk.1
 | z,y,u::r,j+1,w,hk,h=>by
  have h:r[j]?=some w:=h
  have ih:=Ri hk.2 h
  have e:Gd z (u::r) (j+1)=Gd u.1 r j:=by
   cases j with
   | zero=>rw[sN (w:=u) rfl];rfl
   | succ j =>
    obtain⟨w',oU⟩:∃ w',r[j]?=some w':=⟨r[j]'(by have:=(ag.mp h).1;omega),by simp⟩
    rw[sN (w:=w') (by simpa using oU),sN oU]
  rw[e];exact ih
theorem GK {r:List Wy} {j:Nat} {w:Wy} (h:r[j]?=some w):sm (r.take (j+1))=sm (r.take j)+w.2:=by
 rw[bv,h,nA]
 show _+sm [w]=_
 rw[kg,lr];omega
def JH (W:Lf) (z:Int) (t:Nat) (G:Tb):Prop:=∀ r,Rg W z r->t<r.length/\∀ j,j<=t->Sg (G (Gd z r j)) (sm (r.take j))
def tS (W:Lf) (z:Int) (t i:Nat) (G:Tb):Prop:=JH W z t G/\∀ r,Rg W z r->0<=Gd z r t->Gd z r t<(i:Int)->t+1<r.length/\Sg (G (Gd z r (t+1))) (sm (r.take (t+1)))
theorem JH.start {W:Lf} {z:Int} {G:Tb} (h:G z=some 0):JH W z 0 G:=λr hr=>⟨b7.mpr hr.1,λj hj=>by
 have:j=0:=by omega
 subst this
 exact⟨0,h,by rw[ii,lr];decide⟩⟩
theorem JH.mid {W:Lf} {z:Int} {t:Nat} {G:Tb} (h:JH W z t G):tS W z t 0 G:=⟨h,λr _ h0 h1=>absurd h1 (by omega)⟩
theorem tS.up {W:Lf} {z:Int} {t i:Nat} {G G':Tb} (h:tS W z t i G) (u:G8 G G'):tS W z t i G':=⟨λr hr=>⟨(h.1 r hr).1,λj hj=>u _ _ ((h.1 r hr).2 j hj)⟩,λr hr h0 h1=>⟨(h.2 r hr h0 h1).1,u _ _ (h.2 r hr h0 h1).2⟩⟩
theorem tS.skip {W:Lf} {z:Int} {t i:Nat} {G:Tb} (h:tS W z t i G) (hn:G (i:Int)=none):tS W z t (i+1) G:=⟨h.1,λr hr h0 h1=>by
 by_cases e:Gd z r t=(i:Int)
 ·obtain⟨g,e1,_⟩:=(h.1 r hr).2 t (aA _)
  rw[e,hn] at e1;cases e1
 ·exact h.2 r hr h0 (by omega)⟩
theorem tS.Vq {W:Lf} {z:Int} {t i:Nat} {G G':Tb} (h:tS W z t i G) (u:G8 G G') (hw:∀ w∈gS W (i:Int),∀ g,G (i:Int)=some g->0<=g+w.2->Sg (G' w.1) (g+w.2)) (hb:∀ w∈gS W (i:Int),w.1=z->∀ g,G' (i:Int)=some g->¬ 0<=g+w.2):tS W z t (i+1) G':=by
 have hu:=h.up u
 refine⟨hu.1,λr hr h0 h1=>?_⟩
 by_cases e:Gd z r t=(i:Int)
 ·obtain⟨ht,hj⟩:=h.1 r hr
  obtain⟨w,Xo⟩:∃ w,r[t]?=some w:=⟨r[t],by simp⟩
  have hwo:=Ri hr.2.1 Xo
  rw[e] at hwo
  obtain⟨g,e1,hg⟩:=hj t (aA _)
  rw[e] at e1
  have ok:=hr.2.2 (t+1) (by omega)
  rw[GK Xo] at ok
  have ji:t+1<r.length:=by
   refine Nat.lt_of_not_le λc=>?_
   have el:r.length=t+1:=by omega
   obtain⟨g',e2,Wx⟩:=u (i:Int) g ⟨g,e1,gL _⟩
   have esp:r=r.take t++[w]:=by
    have:=(gi t r).symm
    rw[jC (by omega),List.drop_of_length_le (by omega)] at this
    have oM:r[t]'(by omega)=w:=by have:=ag.mp Xo;exact this.2
    rw[oM] at this
    exact this
   have hk:=hr.2.1
   rw[esp] at hk
   have ez:=hk.last
   exact hb w hwo ez.symm g' e2 (by omega)
  refine⟨ji,?_⟩
  rw[sN Xo,GK Xo]
  obtain⟨g',e2,Wx⟩:=hw w hwo g e1 (by omega)
  exact⟨g',e2,by omega⟩
 ·exact hu.2 r hr h0 (by omega)
theorem tS.done {W:Lf} {z:Int} {n t:Nat} {G:Tb} (ot:DO W n) (hz:0<=z/\z<(n:Int)) (h:tS W z t n G):JH W z (t+1) G:=λr hr=>by
 have hp:0<=Gd z r t/\Gd z r t<(n:Int):=by
  unfold Gd
  by_cases c:t=0
  ·rw[if_pos c];exact hz
  ·rw[if_neg c]
   cases e:r[t-1]? with
   | none=>exact hz
   | some w=>exact hr.2.1.inside ot w (am e)
 obtain⟨h1,h2⟩:=h.2 r hr hp.1 hp.2
 exact⟨h1,λj hj=>by
  rcases cY j (t+1) with c | c
  ·exact (h.1 r hr).2 j (by omega)
  ·have:j=t+1:=by omega
   rw[this];exact h2⟩
theorem JH.none {W:Lf} {z:Int} {n:Nat} {G:Tb} (h:JH W z n G) {r:List Wy} (hr:Rg W z r) (hl:r.length<=n):False:=by have:=(h r hr).1;omega
theorem Ep {W:Lf} {n:Nat} {Z:Int->Prop} (ot:DO W n) (hc:∀ z,0<=z->z<(n:Int)->(∃ r,Rg W z r/\r.length<=n)->Z z):∀ x s,s≠[]->Wk W x s x->0<=sm s->∃ w∈s,Z w.1:=λx s hs hw hm=>by
 obtain⟨y,r,r1,r2,r3,r4,r5⟩:=AZ s.length (aA _) hs hw hm
 obtain⟨z,a,b,e,ne,w2,ok⟩:=IU r1 r2 r3
 have hlen:(b++a).length<=n:=by
  have h1:(r.map (·.1)).length<=n:=pV r4 λp hp=>by
   obtain⟨w,h1,h2⟩:=bL.mp hp
   rw[← h2];exact r2.inside ot w h1
  rw[aj,e] at h1
  simp at h1 ⊢;omega
 obtain⟨i,l,el⟩:∃ i l,b++a=i++[l]:=⟨(b++a).dropLast,(b++a).getLast ne,(List.dropLast_concat_getLast ne).symm⟩
 have ez:z=l.1:=by
  have:=w2
  rw[el] at this
  exact this.last
 have hlm:l∈b++a:=by rw[el];simp
 have Ay:=w2.inside ot l hlm
 refine⟨l,r5 l (by rw[e];simp at hlm ⊢;exact hlm.symm),?_⟩
 rw[← ez]
 exact hc z (by rw[ez];exact Ay.1) (by rw[ez];exact Ay.2) ⟨b++a,⟨ne,w2,ok⟩,hlen⟩
def r6 (R:Int->Wy->Prop):Int->List Wy->Int->Prop
 | x,[],y=>x=y
 | x,w::s,y=>R x w/\r6 R w.1 s y
section
variable {R:Int->Wy->Prop}
theorem r6.split:∀ {x z:Int} {a b:List Wy},r6 R x (a++b) z->∃ y,r6 R x a y/\r6 R y b z
 | x,_,[],_,h=>⟨x,rfl,h⟩
 | _,_,w::a,b,h=>by
  obtain⟨y,h1,h2⟩:=r6.split (a:=a) (b:=b) h.2
  exact⟨y,⟨h.1,h1⟩,h2⟩
theorem r6.last {x y:Int} {a:List Wy} {w:Wy} (h:r6 R x (a++[w]) y):y=w.1:=by
 obtain⟨z,_,h2⟩:=h.split
 exact h2.2.symm
theorem r6.wk {W:Lf} (hR:∀ x w,R x w->w∈gS W x):∀ {x y:Int} {s:List Wy},r6 R x s y->Wk W x s y
 | _,_,[],h=>h
 | _,_,_::_,h=>⟨hR _ _ h.1,r6.wk hR h.2⟩
theorem r6.inside {n:Nat} (hR:∀ x w,R x w->0<=w.1/\w.1<(n:Int)):∀ {x y:Int} {s:List Wy},r6 R x s y->∀ w∈s,0<=w.1/\w.1<(n:Int)
 | _,_,[],_,_,hw=>by cases hw
 | _,_,u::s,h,w,hw=>by
  rcases aE.mp hw with e | e
  ·rw[e];exact hR _ _ h.1
  ·exact r6.inside hR h.2 w e
theorem Ps {n:Nat} {B:Int->Prop} (hB:∀ x,B x->0<=x/\x<(n:Int)) (go:∀ x,B x->∃ w,R x w/\B w.1) (hR:∀ x w,R x w->B w.1) {x:Int} (hx:B x):∃ y s,s≠[]/\r6 R y s y/\B y:=by
 have long:∀ (m:Nat) x,B x->∃ s y,s.length=m/\r6 R x s y:=λm=>by
  induction m with
  | zero=>exact λx _=>⟨[],x,rfl,rfl⟩
  | succ m ih =>
   intro x hx
   obtain⟨w,h1,h2⟩:=go x hx
   obtain⟨s,y,h3,h4⟩:=ih w.1 h2
   exact⟨w::s,y,by simp[h3],h1,h4⟩
 obtain⟨s,z,hl,hw⟩:=long n x hx
 have nd:¬ (((x,(0:Int))::s).map (λw:Wy=>w.1)).Nodup:=λh=>by
  have:=pV h λy hy=>by
   obtain⟨w,h1,h2⟩:=bL.mp hy
   rcases aE.mp h1 with e | e
   ·rw[← h2,e];exact hB x hx
   ·rw[← h2];exact hw.inside (λx w h=>hB _ (hR x w h)) w e
  simp at this;omega
 obtain⟨a0,u,b,v,c,e,ev⟩:=qw (λw:Wy=>w.1) nd
 have ev:u.1=v.1:=ev
 obtain⟨a,hsa,rC⟩:∃ a,s=a++((b++[v])++c)/\∀ y,r6 R x a y->y=u.1:=by
  cases a0 with
  | nil =>
   simp only [iH,oG] at e
   refine⟨[],by rw[e.2];simp,λy hy=>?_⟩
   have hy:x=y:=hy
   rw[← hy,← e.1]
  | cons t a1 =>
   simp only [xp,oG] at e
   exact⟨a1++[u],by rw[e.2];simp,λy hy=>hy.last⟩
 subst hsa
 obtain⟨y,w1,w2⟩:=hw.split
 obtain⟨y2,w3,w4⟩:=w2.split
 have e1:=rC y w1
 have e2:=w3.last
 have e3:y=y2:=by omega
 subst e3
 refine⟨y,b++[v],by simp,w3,?_⟩
 obtain⟨t,t1,t2⟩:=w3.split
 have:B v.1:=hR _ _ t2.1
 rw[e2];exact this
theorem YX {f:Int->Int} (h:∀ x w,R x w->f w.1<=f x+w.2):∀ {x y:Int} {s:List Wy},r6 R x s y->f y<=f x+sm s
 | _,_,[],hw=>by cases hw;rw[lr];omega
 | x,y,w::s,hw=>by
  have h1:=h _ _ hw.1
  have h2:=YX h hw.2
  rw[kg];omega
theorem a0s {C:Int->Prop} (h:∀ x w,R x w->C x->C w.1):∀ {x y:Int} {s:List Wy},r6 R x s y->C x->C y/\∀ w∈s,C w.1
 | _,_,[],hw,c=>by cases hw;exact⟨c,λ_ z=>by cases z⟩
 | x,y,w::s,hw,c=>by
  have c1:=h _ _ hw.1 c
  obtain⟨h1,h2⟩:=a0s h hw.2 c1
  exact⟨h1,λu hu=>by
   rcases aE.mp hu with e | e
   ·rw[e];exact c1
   ·exact h2 u e⟩
theorem r6.and {R2:Int->Wy->Prop}:∀ {x y:Int} {s:List Wy},r6 R x s y->(∀ a w b,s=a++w::b->∀ t,r6 R x a t->R t w->R2 t w)->r6 R2 x s y
 | _,_,[],h,_=>h
 | x,y,w::s,h,g=>⟨g [] w s rfl x rfl h.1,r6.and h.2 λa u b e t ht hu=>g (w::a) u b (by rw[e];rfl) t ⟨h.1,ht⟩ hu⟩
end
theorem a0J {a b:Option Int} (h:¬ fP a b):fP b a:=(fP.total a b).resolve_left h
theorem rf {W W':Lf} {n:Nat} {T T':Tb} (Ay:DO W' n) (N:uH W n T) (N':uH W' n T') (h1:∀ x,0<=x->x<(n:Int)->∀ w∈gS W' x,w∈gS W x\/¬ fP (a0a T w) (T x)):∀ x,0<=x->x<(n:Int)->fP (T x) (T' x):=by
 refine λx x0 x1=>b6 λhx=>?_
 have low:∀ x,0<=x->x<(n:Int)->∀ w∈gS W' x,fP (T x) (a0a T w):=λx x0 x1 w hw=>by
  rcases h1 x x0 x1 w hw with h | h
  ·exact N.low x x0 x1 w h
  ·exact a0J h
 let B:Int->Prop:=λy=>(0<=y/\y<(n:Int))/\∃ u,T' y=some u/\¬ fP (T y) (some u)
 let R:Int->Wy->Prop:=λy w=>B y/\B w.1/\w∈gS W' y/\(T' w.1).getD 0<=(T' y).getD 0+w.2
 have hxB:B x:=by
  refine⟨⟨x0,x1⟩,?_⟩
  cases e:T' x with
  | none=>exact absurd (by rw[e];unfold fP;trivial) hx
  | some u=>exact⟨u,rfl,by rw[e] at hx;exact hx⟩
 have go:∀ y,B y->∃ w,R y w/\B w.1:=λy hy=>by
  obtain⟨⟨y0,y1⟩,u,hu,hn⟩:=hy
  have u0:=N'.pos y u hu
  obtain⟨w,hw,hle⟩:=N'.way y u y0 y1 hu
  have hi:=Ay y w hw
  have Xe:∃ u',T' w.1=some u'/\u'<=u+w.2:=by
   unfold a0a at hle
   cases e:T' w.1 with
   | none=>rw[e] at hle;exact hle.elim
   | some u' =>
    rw[e] at hle
    have hle:max (u'-w.2) 0<=u:=hle
    exact⟨u',rfl,by omega⟩
  obtain⟨u',e',acp⟩:=Xe
  have Zt:B w.1:=⟨hi,u',e',λz=>hn (by
   refine (low y y0 y1 w hw).trans ?_
   unfold a0a
   cases e:T w.1 with
   | none=>rw[e] at z;exact z.elim
   | some t =>
    rw[e] at z
    have z:t<=u':=z
    show max (t-w.2) 0<=u
    omega)⟩
  exact⟨w,⟨⟨⟨y0,y1⟩,u,hu,hn⟩,Zt,hw,by rw[e',hu];exact acp⟩,Zt⟩
 obtain⟨y,s,hs,hw,hyB⟩:=Ps (R:=R) (B:=B) (n:=n) (λx h=>h.1) go (λx w h=>h.2.1) hxB
 have s0:0<=sm s:=by
  have:=YX (R:=R) (f:=λp=>(T' p).getD 0) (λx w h=>h.2.2.2) hw
  omega
 have big:∀ z,B z->∀ t,T z=some t->0<t:=λz hz t ht=>by
  obtain⟨_,u,hu,hn⟩:=hz
  have:=N'.pos z u hu
  rw[ht] at hn
  have hn:¬ t<=u:=hn
  omega
 have sp:∀ x w,R x w->T x=none->T w.1=none:=λx w h e=>by
  have:=low x h.1.1.1 h.1.1.2 w h.2.2.1
  rw[e] at this
  unfold a0a at this
  cases e2:T w.1 with
  | none=>rfl
  | some t=>rw[e2] at this;exact this.elim
 have old:r6 (λx w=>w∈gS W x) y s y:=by
  refine hw.and λa w b e t ht hR=>?_
  rcases h1 t hR.1.1.1 hR.1.1.2 w hR.2.2.1 with h | h
  ·exact h
  exfalso
  have oM:=hw
  rw[e] at oM
  obtain⟨t',k1,k2⟩:=oM.split
  have k3:=k2.2
  cases ey:T y with
  | none =>
   have:=(a0s (C:=λp=>T p=none) sp ht ey).1
   rw[this] at h
   exact h (by unfold fP;trivial)
  | some ty =>
   have some_at:∀ p q l,r6 R p l q->r6 R q [] q->T q≠none->T p≠none:=λp q l hl _ hq hp=>hq (a0s (C:=λp=>T p=none) sp hl hp).1
   have Z3:T y≠none:=by rw[ey];exact λz=>by cases z
   have Z1:T w.1≠none:=some_at _ _ _ k3 rfl Z3
   have hR':∀ x u,R x u->T u.1≠none->(T x).getD 0+u.2<=(T u.1).getD 0:=λx u hr hu=>by
    have hl:=low x hr.1.1.1 hr.1.1.2 u hr.2.2.1
    unfold a0a at hl
    cases e2:T u.1 with
    | none=>exact absurd e2 hu
    | some t2 =>
     rw[e2] at hl
     cases e3:T x with
     | none=>rw[e3] at hl;exact hl.elim
     | some t3 =>
      rw[e3] at hl
      have hl:t3<=max (t2-u.2) 0:=hl
      have:=big x hr.1 t3 e3
      show t3+u.2<=t2
      omega
   have tl:∀ {p q:Int} {l:List Wy},r6 R p l q->T q≠none->(T p).getD 0+sm l<=(T q).getD 0:=λ{p q l} hl hq=>by
    induction l generalizing p with
    | nil=>cases hl;rw[lr];omega
    | cons u l ih =>
     have g1:=ih hl.2
     have g2:=hR' p u hl.1 (some_at _ _ _ hl.2 rfl hq)
     rw[kg];omega
   have htn:T t≠none:=λz=>Z1 (sp t w hR z)
   have g1:=tl ht htn
   have g2:=tl k3 Z3
   have g3:(T t).getD 0+w.2<(T w.1).getD 0:=by
    unfold a0a at h
    cases e2:T w.1 with
    | none=>exact absurd e2 Z1
    | some t2 =>
     rw[e2] at h
     cases e3:T t with
     | none=>exact absurd e3 htn
     | some t3 =>
      rw[e3] at h
      have h:¬ max (t2-w.2) 0<=t3:=h
      have:=big t hR.1 t3 e3
      show t3+w.2<t2
      omega
   have es:sm s=sm a+(w.2+sm b):=by rw[e,nA,kg]
   omega
 obtain⟨w,hwm,hz⟩:=N.ring y s hs (r6.wk (λ_ _ h=>h) old) s0
 have Zt:B w.1:=(a0s (R:=R) (C:=B) (λx w h _=>h.2.1) hw hyB).2 w hwm
 have:=big w.1 Zt 0 hz
 omega
theorem uH.single {W:Lf} {n:Nat} {T:Tb} (N:uH W n T) {x:Int} (x0:0<=x) (x1:x<(n:Int)) {w:Wy} (h:gS W x=[w]):T x=a0a T w:=by
 have l:=N.low x x0 x1 w (by rw[h];exact aP)
 cases e:T x with
 | none =>
  rw[e] at l
  cases e2:a0a T w with
  | none=>rfl
  | some v=>rw[e2] at l;exact l.elim
 | some v =>
  obtain⟨w',hw,g⟩:=N.way x v x0 x1 e
  rw[h] at hw
  have:w'=w:=by simpa using hw
  rw[this] at g
  rw[e] at l
  exact fP.VU l g
theorem uH.one {W:Lf} {n:Nat} {T T':Tb} (ot:DO W n) (N:uH W n T) (N':uH W n T') {x:Int} (x0:0<=x) (x1:x<(n:Int)):T x=T' x :=
 fP.VU (rf ot N N' (λ_ _ _ _ h=>.inl h) x x0 x1) (rf ot N' N (λ_ _ _ _ h=>.inl h) x x0 x1)
theorem OS {W W':Lf} {n:Nat} {T T':Tb} (Ay:DO W' n) (N':uH W' n T') (hb:∀ x,0<=x->x<(n:Int)->fP (T x) (T' x)) {x:Int} (x0:0<=x) (x1:x<(n:Int)) {w:Wy} (h:gS W' x=[w]) (hm:¬ fP (a0a T w) (T x)):¬ fP (T' x) (T x):=λz=>by
 have hi:=Ay x w (by rw[h];exact aP)
 rw[N'.single x0 x1 h] at z
 exact hm ((um (hb _ hi.1 hi.2)).trans z)
theorem Ih {T:Tb} {x p v:Int} {w:Wy} (h:fP (a0a T w) (T x)) (e:T x=some v) (hp:v<=p):∃ v',T w.1=some v'/\v'<=p+w.2:=by
 rw[e] at h
 unfold a0a at h
 cases e2:T w.1 with
 | none=>rw[e2] at h;exact h.elim
 | some v' =>
  rw[e2] at h
  have h:max (v'-w.2) 0<=v:=h
  exact⟨v',rfl,by omega⟩
theorem EV {T:Tb} {x p:Int} {w:Wy} (h:fP (T x) (a0a T w)) (p0:0<=p) (hn:¬ fP (T x) (some p)):¬ fP (T w.1) (some (p+w.2)):=λz=>hn (by
 refine h.trans ?_
 unfold a0a
 cases e:T w.1 with
 | none=>rw[e] at z;exact z.elim
 | some t =>
  rw[e] at z
  have z:t<=p+w.2:=z
  show max (t-w.2) 0<=p
  omega)
theorem wB {α:Type} [DecidableEq α]:∀ (l1 l2:List α),l1.Nodup->(∀ x∈l1,x∈l2)->l1.length<=l2.length
 | [],_,_,_=>bE _
 | x::l1,l2,hn,hs=>by
  have hx:x∈l2:=hs x aP
  have hxn:=(dc.mp hn).1
  have:=wB l1 (l2.erase x) (dc.mp hn).2 λy hy=>(Jf (λe=>by subst e;exact hxn hy)).mpr (hs y (bc _ hy))
  rw[Dx hx] at this
  have:=Fi hx
  simp;omega
def Rq (Wf:List (Option Int)->Lf) (n:Nat) (A:List (Option Int)) (L:List (List (Option Int))) (T:Tb):Prop :=
 L.Nodup/\∀ r∈L,r.length=n/\(∀ a∈r,a∈A)/\DO (Wf r) n/\∃ T0,uH (Wf r) n T0/\∀ x,0<=x->x<(n:Int)->fP (T0 x) (T x)
theorem Rq.start {Wf:List (Option Int)->Lf} {n:Nat} {A:List (Option Int)} {r:List (Option Int)} {T:Tb} (hl:r.length=n) (ha:∀ a∈r,a∈A) (ot:DO (Wf r) n) (N:uH (Wf r) n T):Rq Wf n A [r] T:=⟨by simp,λq hq=>by
 rw[be.mp hq]
 exact⟨hl,ha,ot,T,N,λx _ _=>fP.refl _⟩⟩
theorem Rq.next {Wf:List (Option Int)->Lf} {n:Nat} {A:List (Option Int)} {L:List (List (Option Int))} {r:List (Option Int)} {T T':Tb} (h:Rq Wf n A L T) (hl:r.length=n) (ha:∀ a∈r,a∈A) (ot:DO (Wf r) n) (N:uH (Wf r) n T') (hb:∀ x,0<=x->x<(n:Int)->fP (T x) (T' x)) (hm:∃ x,0<=x/\x<(n:Int)/\¬ fP (T' x) (T x)):Rq Wf n A (r::L) T':=by
 refine⟨dc.mpr ⟨λhr=>?_,h.1⟩,λq hq=>?_⟩
 ·obtain⟨_,_,hi,T0,N0,h0⟩:=h.2 r hr
  obtain⟨x,x0,x1,hx⟩:=hm
  rw[uH.one hi N N0 x0 x1] at hx
  exact hx (h0 x x0 x1)
 ·rcases aE.mp hq with e | e
  ·rw[e];exact⟨hl,ha,ot,T',N,λx _ _=>fP.refl _⟩
  ·obtain⟨g1,g2,g3,T0,g4,g5⟩:=h.2 q e
   exact⟨g1,g2,g3,T0,g4,λx x0 x1=>(g5 x x0 x1).trans (hb x x0 x1)⟩
abbrev cw:=Int × List Wy
def RV (ws:List Wy) (p:Int):Int:=((ws.find? λw=>w.1 == p).map (·.2)).getD 0
def eG (P:List cw) (r:List (Option Int)):Lf:=List.zipWith (λrow way=>match way with | none=>row.2 | some p=>[(p,RV row.2 p)]) P r
def vv (P:List cw):Prop:=∀ row∈P,row.2≠[]/\(row.2.map (·.1)).Nodup/\∀ w∈row.2,0<=w.1/\w.1<(P.length:Int)
def Ac (P:List cw) (r:List (Option Int)):Prop:=r.length=P.length/\∀ (i:Nat) row,P[i]?=some row->(row.1≠1->r[i]?=some none)/\(row.1=1->∃ w∈row.2,r[i]?=some (some w.1))
theorem vY:∀ {ws:List Wy} {w:Wy},(ws.map (·.1)).Nodup->w∈ws->RV ws w.1=w.2
 | u :: ws,w,nd,hw=>by
  rw[dg] at nd
  have nd:=dc.mp nd
  unfold RV
  by_cases c:u.1=w.1
  ·have:u=w:=by
    rcases aE.mp hw with e | e
    ·exact e.symm
    ·exact absurd (bL.mpr ⟨w,e,c.symm⟩) nd.1
   rw[gD,this];simp
  ·have oU:w∈ws:=by
    rcases aE.mp hw with e | e
    ·exact absurd (by rw[e]) c
    ·exact e
   rw[gD]
   have:(u.1 == w.1)=false:=by simpa using c
   rw[this]
   exact vY nd.2 oU
theorem CM {P:List cw} {r:List (Option Int)} (h:r.length=P.length):(eG P r).length=P.length:=by unfold eG;rw[JM];omega
theorem nV {P:List cw} {r:List (Option Int)} (h:Ac P r) {i:Nat} {row:cw} (hr:P[i]?=some row) (h1:row.1≠1):gS (eG P r) (i:Int)=row.2:=by
 have:=(h.2 i row hr).1 h1
 unfold gS eG
 rw[bC,lg,hr,this];rfl
theorem jD {P:List cw} {r:List (Option Int)} (g:vv P) {i:Nat} {row:cw} {w:Wy} (hr:P[i]?=some row) (hw:w∈row.2) (e:r[i]?=some (some w.1)):gS (eG P r) (i:Int)=[w]:=by
 unfold gS eG
 rw[bC,lg,hr,e]
 show [(w.1,RV row.2 w.1)]=[w]
 rw[vY (g row (am hr)).2.1 hw]
theorem wQ {P:List cw} {x:Int} (x0:0<=x) (x1:x<(P.length:Int)):∃ (i:Nat) (row:cw),x=(i:Int)/\P[i]?=some row:=⟨x.toNat,P[x.toNat]'(by omega),by omega,by simp⟩
theorem vC {P:List cw} {r:List (Option Int)} (g:vv P) (h:Ac P r):DO (eG P r) P.length:=λx w hw=>by
 rcases cY x.toNat P.length with c | c
 ·obtain⟨row,eU⟩:∃ row,P[x.toNat]?=some row:=⟨P[x.toNat],by simp⟩
  have ho:gS (eG P r) x=gS (eG P r) ((x.toNat:Nat):Int):=by unfold gS;rw[bC]
  rw[ho] at hw
  by_cases c1:row.1=1
  ·obtain⟨u,hu,e⟩:=(h.2 _ row eU).2 c1
   rw[jD g eU hu e] at hw
   rw[be.mp hw]
   exact (g row (am eU)).2.2 u hu
  ·rw[nV h eU c1] at hw
   exact (g row (am eU)).2.2 w hw
 ·unfold gS at hw
  rw[aU (by rw[CM h.1];exact c)] at hw
  cases hw
def DN (P:List cw) (r:List (Option Int)) (T:Tb) (r':List (Option Int)):Prop:=r'.length=P.length/\∀ (i:Nat) row,P[i]?=some row->(row.1≠1->r'[i]?=some none)/\(row.1=1->∃ own most,own∈row.2/\most∈row.2/\r[i]?=some (some own.1)/\(∀ w∈row.2,fP (a0a T w) (a0a T most))/\(fP (a0a T most) (a0a T own)/\r'[i]?=some (some own.1)\/¬ fP (a0a T most) (a0a T own)/\r'[i]?=some (some most.1)))
theorem DN.rule {P:List cw} {r r':List (Option Int)} {T:Tb} (b:DN P r T r'):Ac P r':=⟨b.1,λi row hr=>⟨(b.2 i row hr).1,λh=>by
 obtain⟨own,most,h1,h2,_,_,h5⟩:=(b.2 i row hr).2 h
 rcases h5 with h | h
 ·exact⟨own,h1,h.2⟩
 ·exact⟨most,h2,h.2⟩⟩⟩
theorem wH {P:List cw} {r:List (Option Int)} {T:Tb} (g:vv P) (N:uH (eG P r) P.length T) {i:Nat} {row:cw} (hr:P[i]?=some row) {own:Wy} (ho:own∈row.2) (e:r[i]?=some (some own.1)):T (i:Int)=a0a T own:=by
 have:=(ag.mp hr).1
 exact N.single (by omega) (by omega) (jD g hr ho e)
theorem DN.aeD {P:List cw} {r r':List (Option Int)} {T:Tb} (g:vv P) (h:Ac P r) (N:uH (eG P r) P.length T) (b:DN P r T r'):∀ x,0<=x->x<(P.length:Int)->∀ w∈gS (eG P r') x,w∈gS (eG P r) x\/¬ fP (a0a T w) (T x):=λx x0 x1 w hw=>by
 obtain⟨i,row,rfl,hr⟩:=wQ x0 x1
 by_cases c:row.1=1
 ·obtain⟨own,most,h1,h2,h3,_,h5⟩:=(b.2 i row hr).2 c
  rcases h5 with ⟨_,e⟩ | ⟨hn,e⟩
  ·rw[jD g hr h1 e] at hw
   exact .inl (by rw[jD g hr h1 h3];exact hw)
  ·rw[jD g hr h2 e] at hw
   rw[be.mp hw,wH g N hr h1 h3]
   exact .inr hn
 ·rw[nV b.rule hr c] at hw
  exact .inl (by rw[nV h hr c];exact hw)
theorem DN.more {P:List cw} {r r':List (Option Int)} {T T':Tb} (g:vv P) (h:Ac P r) (N:uH (eG P r) P.length T) (b:DN P r T r') (N':uH (eG P r') P.length T') (ne:r'≠r):(∀ x,0<=x->x<(P.length:Int)->fP (T x) (T' x))/\∃ x,0<=x/\x<(P.length:Int)/\¬ fP (T' x) (T x):=by
 have Ay:=vC g b.rule
 have low:=rf Ay N N' (b.aeD g h N)
 refine⟨low,b6 λvi=>ne ?_⟩
 refine cV λi=>?_
 cases hr:P[i]? with
 | none =>
  have hi:P.length<=i:=List.getElem?_eq_none_iff.mp hr
  rw[aU (by rw[b.1];exact hi),aU (by rw[h.1];exact hi)]
 | some row =>
  have hi:=(ag.mp hr).1
  by_cases c:row.1=1
  ·obtain⟨own,most,h1,h2,h3,_,h5⟩:=(b.2 i row hr).2 c
   rcases h5 with ⟨_,e⟩ | ⟨hn,e⟩
   ·rw[e,h3]
   ·exact absurd ⟨(i:Int),by omega,by omega,OS (W:=eG P r) Ay N' low (by omega) (by omega) (jD g hr h2 e) (by rw[wH g N hr h1 h3];exact hn)⟩ vi
  ·rw[(b.2 i row hr).1 c,(h.2 i row hr).1 c]
theorem DN.last {P:List cw} {r:List (Option Int)} {T:Tb} (g:vv P) (N:uH (eG P r) P.length T) (b:DN P r T r) {i:Nat} {row:cw} (hr:P[i]?=some row) (c:row.1=1) {w:Wy} (hw:w∈row.2):fP (a0a T w) (T (i:Int)):=by
 obtain⟨own,most,h1,h2,h3,h4,h5⟩:=(b.2 i row hr).2 c
 rw[wH g N hr h1 h3]
 rcases h5 with ⟨h,_⟩ | ⟨hn,e⟩
 ·exact (h4 w hw).trans h
 ·rw[h3] at e
  have e1:own.1=most.1:=by simpa using e
  have:a0a T most=a0a T own:=by
   have a1:=vY (g row (am hr)).2.1 h1
   have a2:=vY (g row (am hr)).2.1 h2
   rw[e1] at a1
   unfold a0a
   rw[e1,← a1,← a2]
  exact absurd (by rw[this];exact fP.refl _) hn
end L2
namespace L2
open PySem PySem.Spec PyProof.Rows
abbrev Ei (qual:aT) (scope:ek) (cl:List (aT × ah)) (L a:ah) (cd:ae):qA :=
 { scope:=scope,locals:=L,globals:=bf,cells:=cl,qual:=qual ++ ".<locals>.",func:=some a,code:=cd,frame:=some L,builtins:=kT }
abbrev CG (P:aO) (w:bD) (K:ak) (mg:aT->Option ae) (base:bT) (N:List aT) (qual:aT) (scope:ek) (cl:List (aT × ah)) (q:ah) (cd:ae) (A:bp) (outer:List qA) (s:ai) (H:Hp):Cx where
 prog:=P
 w:=w
 K:=K
 mg:=mg
 base:=base
 A:=A.deeper (Ei qual scope cl s.heap.objs.size q cd)
 N:=N
 s₀:=s
 H₀:=H
 env:=Ei qual scope cl s.heap.objs.size q cd
 outer:=outer
 stack:=Ei qual scope cl s.heap.objs.size q cd::outer
 ex:=[]
 calm:=true
 fn:=λ_=>false
 pn:=[]
 xe:=λ_ _=>False
structure Qp (scope:ek) (cl:List (aT × ah)) (x:aT) (N:List aT) (vs:List V) (s:ai) (H:Hp):Prop where
 kind:scope.kind=.function
 co:scope.isCoroutine=false
 gen:scope.isGenerator=false
 Li:∀ y∈scope.names,y.2≠.cell
 hx:scope.names.lookup x=some .local
 inj:∀ x y c,cl.lookup x=some c->cl.lookup y=some c->x=y
 has:∀ y,scope.names.lookup y=some .free->∃ c,cl.lookup y=some c
 cell:∀ y c,cl.lookup y=some c->H c=none/\∃ v,s.heap.IsCell c v
 N:∃ ys,N=x::ys/\ys.length=vs.length/\x ∉ ys/\∀ (i:Nat) y v,ys[i]?=some y->vs[i]?=some v->scope.names.lookup y=some .free/\∃ c u,cl.lookup y=some c/\s.heap.IsCell c (some u)/\RelV v u
theorem ON {P:aO} {w:bD} {K:ak} {mg:aT->Option ae} {base:bT} {k:Nat} {q:ah} {qual x:aT} {params:jh} {body:bR} {scope:ek} {cl:List (aT × ah)} {pm dk tL:ae} {N:List aT} {vs:List V} {A:bp} {outer:List qA} {s:ai} {H:Hp} {v:V} {u:ae} {Q:VK} {E:XK} {te:TE}
  (ho:s.heap.get? q=some { cls:=.type "function",data:=.func (kr "<lambda>" qual params body scope cl pm dk tL) }) (hc:s.heap.CodeRec dk qual)
  (sj:oQ (kr "<lambda>" qual params body scope cl pm dk tL) ⟨[u],[]⟩=pure [(x,u)]) (C:Qp scope cl x N vs s H) (hr:eP (k+1) A) (e0:vP P w K mg base A outer s H) (r:RelV v u)
  (hb:PE (CG P w K mg base N qual scope cl q dk A outer s H) body te) (hq:te (some v::vs.map some) H Q) :
  codeAny (aS P w) A (.call (.ref q) ⟨[u],[]⟩) (CR xH outer P w H s Q E) s:=by
 have lim:s.heap.NoLimit:=e0.mod.nolimit.keeps λb o e=>(e0.bs b o e).1
 refine PySem.W.kla_callFunE hr.depth ho rfl C.co C.gen rfl hc ?_
 rw[sj]
 refine aq ?_
 refine UP C.Li (λy hy=>by
  have:y=(x,u):=by simpa using hy
  rw[this];exact C.hx) (λh' ns sb=>?_) C.kind
 have keep:∀ b o,s.heap.get? b=some o->h'.get? b=some o:=λb o e=>by
  have hb:=aD e
  rw[sb.2 b (aR hb)]
  exact al _ e
 refine⟨lim.keeps keep,PySem.W.kla_codeExpr ?_⟩
 have I:Inv (CG P w K mg base N qual scope cl q dk A outer s H) [] (some v::vs.map some) H { s with heap:=h',toks:=s.toks+1 }:=by
  obtain⟨ys,eN,yl,xn,yv⟩:=C.N
  have ic:∀ {c:ah} {v:Option ae},s.heap.IsCell c v->h'.IsCell c v:=λ{c v} ⟨o,h1,h2⟩=>⟨o,keep _ _ h1,h2⟩
  refine⟨⟨e0.mod,C.kind,rfl,rfl,aA _,C.inj,λy hy=>?_,(λy c h=>by cases h),λ_=>hr.hd,Fb e0.frames,.inr ⟨rfl,rfl⟩,(λb z=>nomatch z),e0.bs,e0.Jo,(λb _ _ z=>nomatch z),(λb z=>nomatch z),e0.pF,e0.Ki⟩,
   rfl,e0.bare,Un.kept keep,⟨_,ns,λi y v' h1 h2 h3=>?_⟩,λy c h=>?_,e0.cU.fresh (aA _),λy c h=>(C.cell y c h).1,(λp hp=>nomatch hp),e0.cU.kept keep,?_⟩
  ·have hy:scope.names.lookup y=some .cell\/scope.names.lookup y=some .free:=hy
   rcases hy with hy | hy
   ·exact absurd rfl (C.Li _ (eL hy))
   ·exact C.has y hy
  ·subst eN
   cases i with
   | zero =>
    have e1:x=y:=by injection h1
    have e2:v=v':=by injection h2 with h2;injection h2
    subst e1 e2
    exact⟨u,r,.inl ⟨C.hx,by show fw x [(x,u)]=_;simp⟩⟩
   | succ i =>
    have h1:ys[i]?=some y:=h1
    have h2:(vs.map some)[i]?=some (some v'):=h2
    have h2:vs[i]?=some v':=by
     rw[aB] at h2
     cases e:vs[i]? with
     | none=>rw[e] at h2;cases h2
     | some a=>rw[e] at h2;cases h2;rfl
    obtain⟨hf,c,u',h3,h4,h5⟩:=yv i y v' h1 h2
    exact⟨u',h5,.inr ⟨.inr hf,c,h3,ic h4⟩⟩
  ·obtain⟨_,v,hv⟩:=C.cell y c h
   exact⟨v,ic hv⟩
  ·subst eN
   show (vs.map some).length+1=ys.length+1
   rw[aj,yl]
 refine cf (hb [] _ _ H _ I hq) (λy s' hs=>?_) λe s' hs=>hs.elim
 obtain⟨yv,H',J,rv,qv⟩:=hs
 exact⟨yv,H',J.os,J.bare,J.base,J.cU,rv,qv⟩
def jW (H:Hp) (P:ah) (pos:gR) (qual:aT):Prop:=∃ ps:Array ae,H P=some (.vo ps)/\TriplesOk ps.toList /\
 (codeAmong pos ps.toList=none\/∃ (c:ah) (o:d6) (vs:Array ae) (t:Nl),codeAmong pos ps.toList=some (.ref c)/\H c=some (.Au o (.own c))/\o.data=.fields vs/\vs[1]?=some (.str qual t))
def jk (P:ah) (H H':Hp):Prop:=∀ b o,b≠P->H b=some o->H' b=some o
theorem jk.trans {P:ah} {H H1 H2:Hp} (a:jk P H H1) (b:jk P H1 H2):jk P H H2:=λc o n h=>b c o n (a c o n h)
theorem jk.of {P:ah} {H H':Hp} (s:bh H H'):jk P H H':=λb o _ h=>s b o h
theorem jW.up {H H':Hp} {P:ah} {pos:gR} {qual:aT} (t:jW H P pos qual) (s:bh H H'):jW H' P pos qual:=by
 obtain⟨ps,h1,h2,h3⟩:=t
 refine⟨ps,s _ _ h1,h2,?_⟩
 rcases h3 with h | ⟨c,o,vs,t,h4,h5,h6⟩
 ·exact .inl h
 ·exact .inr ⟨c,o,vs,t,h4,s _ _ h5,h6⟩
abbrev Oe (a:ah) (o:d6):HO:=.Au o (.own a)
abbrev OL (qual:aT) (params:jh) (body:bR) (scope:ek) (cl:List (aT × ah)) (pm dk tL:ae):d6:={ cls:=.type "function",data:=.func (kr "<lambda>" qual params body scope cl pm dk tL) }
def vS (H:Hp) (q:ah) (qual:aT) (params:jh) (body:bR) (scope:ek) (cl:List (aT × ah)):Prop:=∃ (pm tL:ae) (c:ah) (o:d6) (vs:Array ae) (t:Nl),H q=some (Oe q (OL qual params body scope cl pm (.ref c) tL))/\H c=some (Oe c o)/\o.data=.fields vs/\vs[1]?=some (.str qual t)
section
variable {X:Cx} {pins:List (ah × d6)} {σ:St} {H:Hp} {s:ai}
theorem Inv.grown {P:ah} {ps more:Array ae} {h':bT} {t':Nat} {news:List (ah × d6)} (I:Inv X pins σ H s) (hP:H P=some (.vo ps)) (k:∀ b o,b≠P->s.heap.get? b=some o->h'.get? b=some o) (hp:h'.get? P=some (NW (ps++more))) (hn:∀ p∈news,s.heap.objs.size<=p.1/\h'.get? p.1=some p.2) :
  ∃ H',Inv X pins σ H' { s with heap:=h',toks:=t' }/\jk P H H'/\H' P=some (.vo (ps++more))/\∀ p∈news,H' p.1=some (Oe p.1 p.2):=by
 have X4:P<s.heap.objs.size:=I.cU.lt hP
 have old:∀ {b o},H b=some o->b<s.heap.objs.size:=λe=>I.cU.lt e
 let H':Hp:=λb=>if b=P then some (.vo (ps++more)) else if b<s.heap.objs.size then H b else ((news.find? λp=>decide (p.1=b)).map λp=>Oe p.1 p.2)
 have e1:H' P=some (.vo (ps++more)):=if_pos rfl
 have e2:∀ {b},b≠P->b<s.heap.objs.size->H' b=H b:=λ{b} n l=>by show (if b=P then _ else _)=_;rw[if_neg n,if_pos l]
 have e3:∀ {b o},¬ b<s.heap.objs.size->H' b=some o->∃ p∈news,p.1=b/\o=Oe p.1 p.2:=λ{b o} l e=>by
  have e:(if b=P then some (.vo (ps++more)) else if b<s.heap.objs.size then H b else ((news.find? λp=>decide (p.1=b)).map λp=>Oe p.1 p.2))=some o:=e
  rw[if_neg (λz=>l (by rw[z];exact X4)),if_neg l] at e
  obtain⟨p,hp,rfl⟩:=dY.mp e
  exact⟨p,B6 hp,by have:=RE hp;simpa using this,rfl⟩
 have sm:jk P H H':=λb o n e=>by rw[e2 n (old e)];exact e
 have nP:∀ {b o},H b=some o->(∀ q,o≠.vo q)->b≠P:=λ{b o} e d z=>by rw[z,hP] at e;injection e with e;exact d _ e.symm
 refine⟨H',I.un ⟨λb o e n _ _=>?_,λb o e n _ _=>?_,λb o e n _=>?_,λb o e _=>?_,λb xs e=>?_,λb o u e=>?_,λb qs e=>?_⟩ (λb o e=>?_),sm,e1,λp hp'=>?_⟩
 ·exact k b o (λz=>by rw[z,hP] at n;cases n) e
 ·exact⟨o.slots,k b o (λz=>by rw[z,hP] at n;cases n) e⟩
 ·rw[e2 (λz=>by rw[z,hP] at n;cases n) (aD e)];exact n
 ·by_cases hb:b=P
  ·rw[hb];exact⟨_,hp⟩
  ·exact⟨o,k b o hb e⟩
 ·exact sm _ _ (nP e λq z=>by cases z) e
 ·exact sm _ _ (nP e λq z=>by cases z) e
 ·by_cases hb:b=P
  ·subst hb;rw[hP] at e;cases e;exact⟨more,e1⟩
  ·exact⟨#[],by rw[sm _ _ hb e];simp⟩
 ·by_cases hb:b=P
  ·subst hb;rw[e1] at e;cases e;exact hp
  by_cases hl:b<s.heap.objs.size
  ·rw[e2 hb hl] at e
   refine (I.cU b o e).xg (λc v hc r=>k c v ?_ r) (λc r=>sm _ _ (nP r λq z=>by cases z) r) λc xs r=>sm _ _ (nP r λq z=>by cases z) r
   rcases hc with rfl | hc
   ·exact hb
   ·exact nP hc λq z=>by cases z
  ·obtain⟨p,hm,rfl,rfl⟩:=e3 hl e
   exact⟨(hn p hm).2,_,(hn p hm).2⟩
 ·have hl:¬ p.1<s.heap.objs.size:=Nat.not_lt.mpr (hn p hp').1
  show (if p.1=P then _ else _)=_
  rw[if_neg (λz=>hl (by rw[z];exact X4)),if_neg hl]
  cases e:news.find? λq=>decide (q.1=p.1) with
  | none=>exact absurd (decide_eq_true rfl) (List.find?_eq_none.mp e p hp')
  | some q =>
   have h1:q.1=p.1:=by have:=RE e;simpa using this
   have h2:=(hn q (B6 e)).2
   rw[h1,(hn p hp').2] at h2
   injection h2 with h2
   show some (Oe q.1 q.2)=_
   rw[h1,h2]
structure qX (X:Cx) (P:ah):Prop where
 code:∃ c,X.env.code=.ref c/\∀ h:bT,(∀ b o,X.base.get? b=some o->h.get? b=some o)->PySem.W.CodeHd h c P
 blt:∀ h:bT,(∀ b o,X.base.get? b=some o->h.get? b=some o)->h.BuiltinsAt X.mg P
 ne:bf≠P
theorem KY {P:ah} {params:jh} {body:bR} {scope:ek} {pos:gR} {Q:ae->ai->Prop} {E:ae->ai->Prop} (D:qX X P) (I:Inv X pins σ H s) (t:jW H P pos (X.env.qual ++ "<lambda>")) (hd:HH params X.env=([],[]))
  (hf:∀ y∈scope.names,y.2=.free->∃ c,X.env.cells.lookup y.1=some c)
  (h:∀ (cl:List (aT × ah)) (q:ah) (H':Hp) (s':ai),(∀ x c,cl.lookup x=some c->X.env.cells.lookup x=some c)->(∀ x,(x,bQ)∈scope.names->∃ c,cl.lookup x=some c)->Inv X pins σ H' s'->jk P H H'->jW H' P pos (X.env.qual ++ "<lambda>")->vS H' q (X.env.qual ++ "<lambda>") params body scope cl->Q (.ref q) s') :
  wpAny (aS X.prog X.w) X.A (dU (.Lambda params body scope pos) X.env) Q E s:=by
 obtain⟨cl,ecl,c1,c2⟩:=Ao hf
 obtain⟨c,hc,yR⟩:=D.code
 obtain⟨ps,hP,tr,alt⟩:=t
 have gl:s.heap.Ns bf X.mg:=by
  have:=I.ok.mod.glob
  exact this.keeps I.bk
 have hPo:s.heap.get? P=some (NW ps):=I.cU P _ hP
 refine PySem.W.kla_eval hd ?_
 rcases alt with none_ | ⟨cc,o,vs,tk,among,Nr,od,ov⟩
 ·refine PySem.W.kla_makeFunction ecl I.ok.glob gl hc (yR _ I.bk) hPo tr none_ D.ne (D.blt _ I.bk) λc' tL h' MI ext ge lt rec tab=>?_
  obtain⟨c0,oc,vs,t0,e0,g0,d0,v0⟩:=rec
  cases e0
  obtain⟨H',I',sT,hP',CB⟩:=I.grown (P:=P) (ps:=ps) (more:=#[gU pos.line,gU pos.col,bA c']) (t':=MI) (news:=[(c',oc),(h'.objs.size,Nh "<lambda>" (X.env.qual ++ "<lambda>") params body scope cl ((X.mg "__name__").getD .none) c' tL)])
   (h' := h'.push (Nh "<lambda>" (X.env.qual ++ "<lambda>") params body scope cl ((X.mg "__name__").getD .none) c' tL)) hP (λb o n e=>al _ (ext b o n e)) (al _ tab) (λp hp=>by
    rcases aE.mp hp with rfl | hp
    ·exact⟨ge,al _ g0⟩
    ·rw[be.mp hp]
     exact⟨kS (NQ ge lt),aF _ rfl⟩)
  have n1:=CB (c',oc) aP
  have n2:=CB _ (bc _ (be.mpr rfl))
  have el:(ps++#[gU (pos.line:Int),gU (pos.col:Int),bA c']).toList=ps.toList++[gU (pos.line:Int),gU (pos.col:Int),bA c']:=by simp
  exact h cl _ H' _ c1 c2 I' sT ⟨_,hP',by rw[el];exact TriplesOk_snoc _ _ _ _ tr,.inr ⟨c',oc,vs,t0,by rw[el];exact codeAmong_snoc _ tr none_,n1,d0,v0⟩⟩ ⟨_,_,c',oc,vs,t0,n2,n1,d0,v0⟩
 ·refine PySem.W.kla_makeFunctionHit ecl I.ok.glob gl hc (yR _ I.bk) hPo tr among (D.blt _ I.bk) λtL h' MI ext ge=>?_
  have I':=I.laid (a:=h'.objs.size) (o:=Oe h'.objs.size (OL (X.env.qual ++ "<lambda>") params body scope cl ((X.mg "__name__").getD .none) (.ref cc) tL)) (h':=h'.push (OL (X.env.qual ++ "<lambda>") params body scope cl ((X.mg "__name__").getD .none) (.ref cc) tL)) (t':=MI)
   (λb u e=>al _ (ext b u e)) ge ⟨aF _ rfl,_,aF _ rfl⟩
  have sm:=az (H:=H) (I.cU.fresh ge) (Oe h'.objs.size (OL (X.env.qual ++ "<lambda>") params body scope cl ((X.mg "__name__").getD .none) (.ref cc) tL))
  exact h cl _ _ _ c1 c2 I' (jk.of sm) ⟨ps,sm _ _ hP,tr,.inr ⟨cc,o,vs,tk,among,sm _ _ Nr,od,ov⟩⟩ ⟨_,_,cc,o,vs,tk,ar,sm _ _ Nr,od,ov⟩
end
end L2
namespace HT
open PySem PyProof.Rows
theorem LZ (A:bp) (s:ai) (a:Int) (t:Nl) (c:Int) (u:Nl) (prog:aO) (w:bD) (E:ae->ai->Prop) (Q:ae->ai->Prop) (h:Q (.bool (decide (c<a))) s) :
  wpAny (aS prog w) A (DE .Gt (.int a t) (.int c u)) Q E s :=
 (PyProof.Rows.gt_int h:wpAny (aS prog w) A (dz .Gt (.int a t) (.int c u)) Q E s)
section
open PySem.SeqAt
open PySem.AutoSeq1 (wpAny_loadPart')
open PySem.MeetsSeq PySem.MeetsSeq2 PySem.MeetsSeq3
theorem ym (l b:ah) (items gA:Array ae) (n n2:Nat) (dd R6:Option ah) (sl DH:Array (Option ae)) (ns ms:List Int) (hi:cv items.toList ns) (hj:cv gA.toList ms) :
  Meets (eF.«tuple.__gt__» ⟨[.ref l,.ref b],[]⟩)
   (λ_ R s=>s.heap.get? l=some { cls:=.type "tuple",dict:=dd,data:=.seq items n,slots:=sl }/\s.heap.get? b=some { cls:=.type "tuple",dict:=R6,data:=.seq gA n2,slots:=DH } /\
    R (.ok (.ret (.bool (lexLt ms ns)))) s) :=
 .of_wp λprog w A R s h=>by
  obtain⟨hp,g,d,tk,os⟩:=s;obtain⟨hl,hb,h⟩:=h
  have f2:=yr
  have z1:items.size=ns.length:=by rw[← hi.length];simp
  have z2:gA.size=ms.length:=by rw[← hj.length];simp
  wp_walk using tN hl,tN hb,aeF _ (λrest b s'=>b.1=none/\s'=⟨hp,g,d,tk,os⟩/\∃ (vs ws:List ae) (rF Iq:List Int),rest=vs.zip ws /\
   cv vs rF/\cv ws Iq/\rF.length+gA.size=Iq.length+items.size/\R (.ok (.ret (.bool (lexLt Iq rF)))) ⟨hp,g,d,tk,os⟩) _
  case turn =>
   rintro⟨y,x⟩ rest b s' ⟨Aw,rfl,vs,ws,rF,Iq,hz,Tg,Oz,hlen,hR⟩
   cases Tg with
   | nil=>rw[NP] at hz;cases hz
   | cons a t Th =>
    cases Oz with
    | nil=>rw[Nc] at hz;cases hz
    | cons c u Tl =>
     rw[nK] at hz
     injection hz with hyx su
     injection hyx with hy hx
     subst hy hx
     rw[ou] at hR
     simp only [bK] at hlen
     obtain⟨e,he,KA⟩:=Cp A.in1 ⟨hp,g,d,tk,os⟩ a t c u
     refine aa (he prog w _ _ ?_)
     cases e with
     | true =>
      rw[if_pos (KA.mp rfl).symm] at hR
      wp_walk
      exact⟨rfl,rfl,_,_,_,_,su,Th,Tl,by omega,hR⟩
     | false =>
      rw[if_neg (λq=>absurd (KA.mpr q.symm) bg)] at hR
      have hri:=LZ A.in1 ⟨hp,g,d,tk,os⟩ a t c u prog w
      wp_walk using hri
      exact⟨_,rfl,by simpa using hR⟩
  case fin =>
   rintro⟨b1,b2⟩ s' ⟨Aw,rfl,vs,ws,rF,Iq,hz,Tg,Oz,hlen,hR⟩
   simp only at Aw
   subst Aw
   have hv:lexLt Iq rF=decide (gA.size<items.size):=by
    cases Tg with
    | nil =>
     cases Oz with
     | nil =>
      simp only [fG] at hlen
      rw[nn]
      exact (decide_eq_false (by omega)).symm
     | cons c u hw =>
      simp only [fG,bK] at hlen
      rw[pN]
      exact (decide_eq_false (by omega)).symm
    | cons a t hv =>
     cases Oz with
     | nil =>
      simp only [fG,bK] at hlen
      rw[pO]
      exact (decide_eq_true (by omega)).symm
     | cons c u hw =>
      rw[nK] at hz
      cases hz
   rw[hv] at hR
   wp_walk
   exact⟨_,rfl,by simpa [qN] using hR⟩
  case h =>
   exact⟨rfl,rfl,items.toList,gA.toList,ns,ms,rfl,hi,hj,by omega,h⟩
end
section
variable {prog:aO} {w:bD} {A:bp} {E:ae->ai->Prop} {s:ai}
theorem wg {l b:ah} {items gA:Array ae} {ns ms:List Int} {Q:ae->ai->Prop} (hl:Zh s.heap l items) (hb:Zh s.heap b gA) (hi:cv items.toList ns) (hj:cv gA.toList ms)
  (hu:A.units<jx) (h:Q (.bool (lexLt ms ns)) s):wpAny (aS prog w) A (dz .Gt (.ref l) (.ref b)) Q E s:=by
 obtain⟨⟨cls,dd,data,sl⟩,ho,hc,n,hd⟩:=id hl
 obtain⟨⟨abm,R6,data2,DH⟩,WW,HQ,n2,hd2⟩:=id hb
 simp only at hc hd HQ hd2
 subst hc hd HQ hd2
 exact Pr (op:=.Gt) ⟨_,ho,rfl⟩ ⟨_,WW,rfl⟩ PySem.F.slot_tuple_gt PySem.F.entry_tuple_gt (PySem.F.args_tuple_gt_2 _ _) (ym l b items gA n n2 dd R6 sl DH ns ms hi hj)
  ⟨ho,WW,show pA (lexLt ms ns)≠Hb/\Q (.bool (lexLt ms ns)) s from ⟨(λx=>nomatch x),h⟩⟩ hu
end
end HT
namespace L2
open PySem PySem.Spec PyProof.Rows
section
variable {X:Cx}
def ad9 (K:ak):R2:=λx y H Q=>∃ a b ns ms,x=.ref a/\y=.ref b/\gJ K H a (ns.map V.int)/\gJ K H b (ms.map V.int)/\Q (.bl (HT.lexLt ms ns)) H
theorem T6 {K:ak} (hK:X.K=K) (hu:X.A.units<jx):uX X (dz .Gt) (ad9 K):=by
 subst hK
 intro pins s σ H x y v u Q I rx ry h
 obtain⟨a,b,ns,ms,rfl,rfl,ha,hb,q⟩:=h
 cases rx
 cases ry
 obtain⟨cH,r1,p1,_⟩:=I.tuple ha
 obtain⟨l6,r2,p2,_⟩:=I.tuple hb
 have i1:cv cH.toArray.toList ns:=a0c r1
 have i2:cv l6.toArray.toList ms:=a0c r2
 exact HT.wg p1 p2 i1 i2 hu ⟨.bl (HT.lexLt ms ns),H,I,rfl,q⟩
end
def zc (p q:Int × Int):Prop:=p.1<q.1\/p.1=q.1/\p.2<q.2
theorem K3 (p q:Int × Int):HT.lexLt [p.1,p.2] [q.1,q.2]=true↔zc p q:=by
 rw[HT.ou]
 unfold zc
 by_cases e:p.1=q.1
 ·rw[if_pos e,HT.ou]
  by_cases f:p.2=q.2
  ·rw[if_pos f,HT.nn]
   exact⟨(λz=>by cases z),λz=>by omega⟩
  ·rw[if_neg f,decide_eq_true_eq]
   exact⟨λz=>.inr ⟨e,z⟩,λz=>by omega⟩
 ·rw[if_neg e,decide_eq_true_eq]
  exact⟨λz=>.inl z,λz=>by omega⟩
theorem zv (A:bp) (args:Args):A.under (.builtin "min.loop" args)=A.in1:=by
 cases A with
 | mk a b c d e =>
  have h1:(mL "min.loop" args).weight=0:=rfl
  have h2:(mL "min.loop" args).cUnits=1:=rfl
  have h3:pushGuards (mL "min.loop" args).guards d=d:=by cases d <;> rfl
  simp[o4,Za,Qj,qf,pushEnvs,h1,h2,h3]
theorem zu (A:bp) (args:Args):A.under (.builtin "max.loop" args)=A.in1:=by
 cases A with
 | mk a b c d e =>
  have h1:(mL "max.loop" args).weight=0:=rfl
  have h2:(mL "max.loop" args).cUnits=1:=rfl
  have h3:pushGuards (mL "max.loop" args).guards d=d:=by cases d <;> rfl
  simp[o4,Za,Qj,qf,pushEnvs,h1,h2,h3]
def Ju (kf:Nat->Int × Int):Nat->Int × Int:=λi=>(-(kf i).1,-(kf i).2)
theorem Le {kf:Nat->Int × Int} {i j:Nat}:zc (Ju kf j) (Ju kf i)↔zc (kf i) (kf j):=by
 unfold zc Ju
 show (-(kf j).1 < -(kf i).1\/-(kf j).1=-(kf i).1/\-(kf j).2 < -(kf i).2)↔_
 omega
theorem mX {M:tH} {A:bp} {E:ae->ai->Prop} {s:ai} {S:ah} {o:d6} {items:Array ae} {n:Nat} {Q:Option (Array ae)->ai->Prop} (hS:s.heap.get? S=some o) (hd:o.data=.seq items n) (h:Q (some items) s):wpAny M A (vE (.ref S)) Q E s:=by
 unfold vE
 refine aa (tD hS ?_)
 rw[hd]
 exact aq h
def lS (kf:Nat->Int × Int) (n i:Nat):Prop:=∀ j,j<n->¬ zc (kf j) (kf i)/\(j<i->zc (kf i) (kf j))
theorem lS.keep {kf:Nat->Int × Int} {n i:Nat} (h:lS kf n i) (hi:i<n) (hn:¬ zc (kf n) (kf i)):lS kf (n+1) i:=λj hj=>by
 rcases cY j n with c | c
 ·exact h j c
 ·have:j=n:=by omega
  subst this
  exact⟨hn,λz=>by omega⟩
theorem lS.next {kf:Nat->Int × Int} {n i:Nat} (h:lS kf n i) (hn:zc (kf n) (kf i)):lS kf (n+1) n:=λj hj=>by
 rcases cY j n with c | c
 ·have:=(h j c).1
  unfold zc at *
  exact⟨by omega,λ_=>by omega⟩
 ·have:j=n:=by omega
  subst this
  unfold zc
  exact⟨by omega,λz=>by omega⟩
def mS (p:Int × Int):List V:=[V.int p.1,V.int p.2]
section
variable {X:Cx} {pins:List (ah × d6)} {σ:St}
theorem m4.of {H H':Hp} {b:ah} (h:m4 X pins H b) (hn:H' b=none):m4 X pins H' b:=⟨hn,h.2⟩
theorem Lb (kf:Nat->Int × Int) {xs:List V} {l it S q:ah} {H0:Hp} {R:qF->ai->Prop} (pH:X.A.handled=none) (hu:X.A.units+2<jx) (hl:bI X.K H0 l xs) (ne:xs≠[]) (TM:S≠it)
  (RD:∀ (i:Nat) (x:V) (u:ae) (H:Hp) (s:ai) (lC:List (ah × d6)),Inv X lC σ H s->bh H0 H->xs[i]?=some x->RelV x u->wpAny (aS X.prog X.w) X.A.in1 (qH (.ref q) [u]) (EP X lC σ λy H'=>bh H H'/\∃ t,y=.ref t/\H' t=some (.tup (mS (kf i)))) (λ_ _=>False) s)
  (Rz:∀ (i:Nat) (x:V) (u:ae) (H:Hp) (s:ai),Inv X pins σ H s->bh H0 H->xs[i]?=some x->RelV x u->lS kf xs.length i->R (.ok (.ret u)) s) :
  ∀ (r j:Nat) (H:Hp) (s:ai),xs.length-j=r->j<=xs.length->Inv X pins σ H s->bh H0 H->s.heap.IsListIter it l j->m4 X pins H it->m4 X pins H S ->
   ((j=0/\∃ n,s.heap.get? S=some { cls:=.type "list",data:=.seq #[] n })\/∃ (i:Nat) (x:V) (ub:ae) (t:ah) (n:Nat),s.heap.get? S=some { cls:=.type "list",data:=.seq #[ub,.ref t] n }/\xs[i]?=some x/\RelV x ub/\i<j/\H t=some (.tup (mS (kf i)))/\lS kf j i) ->
   codeAny (aS X.prog X.w) X.A (.builtin "min.loop" ⟨[.ref it,.ref q,.ref S],[]⟩) R s:=by
 intro r
 induction r with
 | zero =>
  intro j H s hr hj I sm hit fI fS st
  have hje:j=xs.length:=by omega
  have AA:0<xs.length:=b7.mpr ne
  rcases st with ⟨h0,_⟩ | ⟨i,x,ub,t,n,hS,hx,Ta,FE,ht,Hf⟩
  ·omega
  refine dF B9 ?_
  rw[zv]
  unfold eF.«min.loop»
  show wpAny _ _ (vE (.ref S) >>= _) _ _ s
  refine aa (mX hS rfl ?_)
  obtain⟨cH,rv,p,hz⟩:=I.list (sm.seq hl)
  have qP:=rv.length
  refine aa (gH (mB pH hit p.isList (by simp;omega) λh' eb=>?_))
  obtain⟨f0,f1,f2,f3,f4,f5⟩:=fI
  have I1:Inv X pins σ H { s with heap:=h' }:=I.turned (t':=s.toks) (λb o hb e=>eb b o hb e) f0 f1 f3 f4 f5
  have Sk:h'.get? S=some { cls:=.type "list",data:=.seq #[ub,.ref t] n }:=eb S _ TM hS
  obtain⟨g0,g1,g2,g3,g4,g5⟩:=fS
  show wpAny _ _ (kh S (λ_=>#[]) >>= _) _ _ _
  refine aa (jg (s:={ s with heap:=h' }) Sk rfl ?_ (by show 2<=aL;decide) (by show 0<=aL+1;decide))
  refine aa (ib (aq ?_))
  have I2:=I1.turned (t':=s.toks) (h':=h'.update S (eO λ_=>#[])) (λb o hb e=>((fj h' S (eO λ_=>#[])).2 b hb).trans e) g0 g1 g3 g4 g5
  exact Rz i x ub H _ I2 sm hx Ta (hje ▸ Hf)
 | succ r ih =>
  intro j H s hr hj I sm hit fI fS st
  have xt:j<xs.length:=by omega
  have Ea:xs.length-(j+1)=r:=by clear st;omega
  obtain⟨cH,rv,p,hz⟩:=I.list (sm.seq hl)
  have qP:=rv.length
  obtain⟨u,Xe,ru⟩:=rv.get (ao xt)
  refine dF B9 ?_
  rw[zv]
  unfold eF.«min.loop»
  show wpAny _ _ (vE (.ref S) >>= _) _ _ s
  obtain⟨oS,items,n,hS,dS,Kr⟩:∃ (oS:d6) (items:Array ae) (n:Nat),s.heap.get? S=some oS/\oS={ cls:=.type "list",data:=.seq items n }/\((j=0/\items=#[])\/∃ (i:Nat) (x:V) (ub:ae) (t:ah),items=#[ub,.ref t]/\xs[i]?=some x/\RelV x ub/\i<j/\H t=some (.tup (mS (kf i)))/\lS kf j i):=by
   rcases st with ⟨h0,n,h⟩ | ⟨i,x,ub,t,n,hS,h⟩
   ·exact⟨_,_,_,h,rfl,.inl ⟨h0,rfl⟩⟩
   ·exact⟨_,_,_,hS,rfl,.inr ⟨i,x,ub,t,rfl,h⟩⟩
  refine aa (mX hS (by rw[dS]) ?_)
  refine aa (gH (lL hit p.isList (x:=u) (by simpa using Xe) λh1 SC sb=>?_))
  obtain⟨f0,f1,f2,f3,f4,f5⟩:=id fI
  obtain⟨g0,g1,g2,g3,g4,g5⟩:=id fS
  have I1:Inv X pins σ H { s with heap:=h1 }:=I.turned (t':=s.toks) (λb o hb e=>(sb.2 b hb).trans e) f0 f1 f3 f4 f5
  have Sk:h1.get? S=some oS:=(sb.2 S TM).trans hS
  obtain⟨oI,hI1,cI,dI⟩:=id SC
  have I2:Inv X (pins++[(it,oI),(S,oS)]) σ H { s with heap:=h1 }:=I1.mT λp hp=>by
   rcases bo.mp hp with z | z
   ·exact I1.pin p (br _ z)
   ·rcases aE.mp z with rfl | z
    ·exact⟨hI1,f0,f1,f2,λv=>by rw[dI];exact λz=>by cases z⟩
    ·rw[be.mp z]
     exact⟨Sk,g0,g1,g2,λv=>by rw[dS];exact λz=>by cases z⟩
  show wpAny _ _ (tryCatch (gK [u] (qH (.ref q) [u])) _ >>= _) _ _ _
  refine aa (gH (db (cf (RD j _ u H _ _ I2 sm (ao xt) ru) (λkv s2 hm=>?_) λ_ _ z=>z.elim)))
  obtain⟨y,H2,I3,ry,DF,t2,rfl,yT⟩:=hm
  obtain rfl:kv=bA t2:=ry
  have pI:=I3.pin (it,oI) (by simp)
  have pS:=I3.pin (S,oS) (by simp)
  have I4:Inv X pins σ H2 s2:=I3.mT λp hp=>I3.pin p (by
   rcases bo.mp (br X.pn hp) with z | z
   ·exact ck _ z
   ·exact br _ (ck _ z))
  have Us:=sm.trans DF
  have rB:s2.heap.IsListIter it l (j+1):=⟨oI,pI.1,cI,dI⟩
  have Sc:m4 X pins H2 it:=fI.of pI.2.1
  have Cq:m4 X pins H2 S:=fS.of pS.2.1
  have put:∀ (a b:ae) (s2:ai) (n:Nat) (items:Array ae),Inv X pins σ H2 s2->s2.heap.get? S=some { cls:=.type "list",data:=.seq items n }->items.size<=2->s2.heap.IsListIter it l (j+1)->∃ h3 n3,(∀ {E:ae->ai->Prop} {Q:Unit->ai->Prop},Q () { s2 with heap:=h3 }->wpAny (aS X.prog X.w) X.A.in1 (kh S λ_=>#[a,b]) Q E s2)/\Inv X pins σ H2 { s2 with heap:=h3 }/\h3.get? S=some { cls:=.type "list",data:=.seq #[a,b] n3 }/\h3.IsListIter it l (j+1):=λa b s2 n items I4 HM Ib rB=>by
   have Pz:=fj s2.heap S (eO λ_=>#[a,b])
   refine⟨s2.heap.update S (eO λ_=>#[a,b]),_,λ{E Q} h=>jg HM rfl h (cq Ib (by decide)) (by show 2<=aL+1;decide),I4.turned (t':=s2.toks) (λb o hb e=>(Pz.2 b hb).trans e) Cq.1 Cq.2.1 Cq.2.2.2.1 Cq.2.2.2.2.1 Cq.2.2.2.2.2,eX _ HM rfl,?_⟩
   obtain⟨o,e1,e2,e3⟩:=rB
   exact⟨o,(Pz.2 it (cS TM)).trans e1,e2,e3⟩
  have HM:s2.heap.get? S=some { cls:=.type "list",data:=.seq items n }:=by rw[← dS];exact pS.1
  rcases Kr with ⟨h0,rfl⟩ | ⟨i,x,ub,t,rfl,hx,Ta,FE,ht,Hf⟩
  ·show wpAny _ _ (kh S (λ_=>#[u,bA t2]) >>= _) _ _ _
   obtain⟨h3,n3,w3,I5,Sl,D7⟩:=put u (.ref t2) s2 n #[] I4 HM (by decide) rB
   refine aa (w3 ?_)
   refine aq ⟨rfl,ih (j+1) H2 _ Ea xt I5 Us D7 Sc Cq (.inr ⟨j,_,u,t2,n3,Sl,ao xt,ru,de j,yT,λj' hj'=>?_⟩)⟩
   have:j'=j:=by omega
   subst this
   unfold zc
   exact⟨by omega,λz=>by omega⟩
  ·have Xc:=DF _ _ ht
   obtain⟨i1,r1,p1,_⟩:=I4.tuple (gJ.of yT)
   obtain⟨i2,r2,p2,_⟩:=I4.tuple (gJ.of Xc)
   have a1:cv i1.toArray.toList [(kf j).1,(kf j).2]:=a0c r1
   have a2:cv i2.toArray.toList [(kf i).1,(kf i).2]:=a0c r2
   show wpAny _ _ (tryCatch (gK [u,bA t2] (DE .Lt (.ref t2) (.ref t) >>= _)) _ >>= _) _ _ _
   refine aa (gH (db (aa ?_)))
   refine (HT.Ek p1 p2 a1 a2 (by show X.A.units+1<jx;omega) ?_:wpAny (aS X.prog X.w) X.A.in1 (dz .Lt (.ref t2) (.ref t)) _ _ s2)
   refine aa (db (eW (aa (ib (aq ?_)))))
   by_cases c:zc (kf j) (kf i)
   ·rw[(K3 _ _).mpr c]
    show wpAny _ _ (kh S (λ_=>#[u,bA t2]) >>= _) _ _ _
    obtain⟨h3,n3,w3,I5,Sl,D7⟩:=put u (.ref t2) s2 n #[ub,.ref t] I4 HM (by show 2<=2;decide) rB
    refine aa (w3 (aa (ib ?_)))
    exact aq ⟨rfl,ih (j+1) H2 _ Ea xt I5 Us D7 Sc Cq (.inr ⟨j,_,u,t2,n3,Sl,ao xt,ru,de j,yT,Hf.next c⟩)⟩
   ·have e:HT.lexLt [(kf j).1,(kf j).2] [(kf i).1,(kf i).2]=false:=by
     cases z:HT.lexLt [(kf j).1,(kf j).2] [(kf i).1,(kf i).2] with
     | false=>rfl
     | true=>exact absurd ((K3 _ _).mp z) c
    rw[e]
    show wpAny _ _ (letGo [u,bA t2] >>= _) _ _ _
    refine aa (ib ?_)
    exact aq ⟨rfl,ih (j+1) H2 _ Ea xt I4 Us rB Sc Cq (.inr ⟨i,x,ub,t,n,HM,hx,Ta,di FE,Xc,Hf.keep FE c⟩)⟩
theorem K9 (kf:Nat->Int × Int) {xs:List V} {l it S q:ah} {H0:Hp} {R:qF->ai->Prop} (pH:X.A.handled=none) (hu:X.A.units+2<jx) (hl:bI X.K H0 l xs) (ne:xs≠[]) (TM:S≠it)
  (RD:∀ (i:Nat) (x:V) (u:ae) (H:Hp) (s:ai) (lC:List (ah × d6)),Inv X lC σ H s->bh H0 H->xs[i]?=some x->RelV x u->wpAny (aS X.prog X.w) X.A.in1 (qH (.ref q) [u]) (EP X lC σ λy H'=>bh H H'/\∃ t,y=.ref t/\H' t=some (.tup (mS (kf i)))) (λ_ _=>False) s)
  (Rz:∀ (i:Nat) (x:V) (u:ae) (H:Hp) (s:ai),Inv X pins σ H s->bh H0 H->xs[i]?=some x->RelV x u->lS (Ju kf) xs.length i->R (.ok (.ret u)) s) :
  ∀ (r j:Nat) (H:Hp) (s:ai),xs.length-j=r->j<=xs.length->Inv X pins σ H s->bh H0 H->s.heap.IsListIter it l j->m4 X pins H it->m4 X pins H S ->
   ((j=0/\∃ n,s.heap.get? S=some { cls:=.type "list",data:=.seq #[] n })\/∃ (i:Nat) (x:V) (ub:ae) (t:ah) (n:Nat),s.heap.get? S=some { cls:=.type "list",data:=.seq #[ub,.ref t] n }/\xs[i]?=some x/\RelV x ub/\i<j/\H t=some (.tup (mS (kf i)))/\lS (Ju kf) j i) ->
   codeAny (aS X.prog X.w) X.A (.builtin "max.loop" ⟨[.ref it,.ref q,.ref S],[]⟩) R s:=by
 intro r
 induction r with
 | zero =>
  intro j H s hr hj I sm hit fI fS st
  have hje:j=xs.length:=by omega
  have AA:0<xs.length:=b7.mpr ne
  rcases st with ⟨h0,_⟩ | ⟨i,x,ub,t,n,hS,hx,Ta,FE,ht,Hf⟩
  ·omega
  refine dF B8 ?_
  rw[zu]
  unfold eF.«max.loop»
  show wpAny _ _ (vE (.ref S) >>= _) _ _ s
  refine aa (mX hS rfl ?_)
  obtain⟨cH,rv,p,hz⟩:=I.list (sm.seq hl)
  have qP:=rv.length
  refine aa (gH (mB pH hit p.isList (by simp;omega) λh' eb=>?_))
  obtain⟨f0,f1,f2,f3,f4,f5⟩:=fI
  have I1:Inv X pins σ H { s with heap:=h' }:=I.turned (t':=s.toks) (λb o hb e=>eb b o hb e) f0 f1 f3 f4 f5
  have Sk:h'.get? S=some { cls:=.type "list",data:=.seq #[ub,.ref t] n }:=eb S _ TM hS
  obtain⟨g0,g1,g2,g3,g4,g5⟩:=fS
  show wpAny _ _ (kh S (λ_=>#[]) >>= _) _ _ _
  refine aa (jg (s:={ s with heap:=h' }) Sk rfl ?_ (by show 2<=aL;decide) (by show 0<=aL+1;decide))
  refine aa (ib (aq ?_))
  have I2:=I1.turned (t':=s.toks) (h':=h'.update S (eO λ_=>#[])) (λb o hb e=>((fj h' S (eO λ_=>#[])).2 b hb).trans e) g0 g1 g3 g4 g5
  exact Rz i x ub H _ I2 sm hx Ta (hje ▸ Hf)
 | succ r ih =>
  intro j H s hr hj I sm hit fI fS st
  have xt:j<xs.length:=by omega
  have Ea:xs.length-(j+1)=r:=by clear st;omega
  obtain⟨cH,rv,p,hz⟩:=I.list (sm.seq hl)
  have qP:=rv.length
  obtain⟨u,Xe,ru⟩:=rv.get (ao xt)
  refine dF B8 ?_
  rw[zu]
  unfold eF.«max.loop»
  show wpAny _ _ (vE (.ref S) >>= _) _ _ s
  obtain⟨oS,items,n,hS,dS,Kr⟩:∃ (oS:d6) (items:Array ae) (n:Nat),s.heap.get? S=some oS/\oS={ cls:=.type "list",data:=.seq items n }/\((j=0/\items=#[])\/∃ (i:Nat) (x:V) (ub:ae) (t:ah),items=#[ub,.ref t]/\xs[i]?=some x/\RelV x ub/\i<j/\H t=some (.tup (mS (kf i)))/\lS (Ju kf) j i):=by
   rcases st with ⟨h0,n,h⟩ | ⟨i,x,ub,t,n,hS,h⟩
   ·exact⟨_,_,_,h,rfl,.inl ⟨h0,rfl⟩⟩
   ·exact⟨_,_,_,hS,rfl,.inr ⟨i,x,ub,t,rfl,h⟩⟩
  refine aa (mX hS (by rw[dS]) ?_)
  refine aa (gH (lL hit p.isList (x:=u) (by simpa using Xe) λh1 SC sb=>?_))
  obtain⟨f0,f1,f2,f3,f4,f5⟩:=id fI
  obtain⟨g0,g1,g2,g3,g4,g5⟩:=id fS
  have I1:Inv X pins σ H { s with heap:=h1 }:=I.turned (t':=s.toks) (λb o hb e=>(sb.2 b hb).trans e) f0 f1 f3 f4 f5
  have Sk:h1.get? S=some oS:=(sb.2 S TM).trans hS
  obtain⟨oI,hI1,cI,dI⟩:=id SC
  have I2:Inv X (pins++[(it,oI),(S,oS)]) σ H { s with heap:=h1 }:=I1.mT λp hp=>by
   rcases bo.mp hp with z | z
   ·exact I1.pin p (br _ z)
   ·rcases aE.mp z with rfl | z
    ·exact⟨hI1,f0,f1,f2,λv=>by rw[dI];exact λz=>by cases z⟩
    ·rw[be.mp z]
     exact⟨Sk,g0,g1,g2,λv=>by rw[dS];exact λz=>by cases z⟩
  show wpAny _ _ (tryCatch (gK [u] (qH (.ref q) [u])) _ >>= _) _ _ _
  refine aa (gH (db (cf (RD j _ u H _ _ I2 sm (ao xt) ru) (λkv s2 hm=>?_) λ_ _ z=>z.elim)))
  obtain⟨y,H2,I3,ry,DF,t2,rfl,yT⟩:=hm
  obtain rfl:kv=bA t2:=ry
  have pI:=I3.pin (it,oI) (by simp)
  have pS:=I3.pin (S,oS) (by simp)
  have I4:Inv X pins σ H2 s2:=I3.mT λp hp=>I3.pin p (by
   rcases bo.mp (br X.pn hp) with z | z
   ·exact ck _ z
   ·exact br _ (ck _ z))
  have Us:=sm.trans DF
  have rB:s2.heap.IsListIter it l (j+1):=⟨oI,pI.1,cI,dI⟩
  have Sc:m4 X pins H2 it:=fI.of pI.2.1
  have Cq:m4 X pins H2 S:=fS.of pS.2.1
  have put:∀ (a b:ae) (s2:ai) (n:Nat) (items:Array ae),Inv X pins σ H2 s2->s2.heap.get? S=some { cls:=.type "list",data:=.seq items n }->items.size<=2->s2.heap.IsListIter it l (j+1)->∃ h3 n3,(∀ {E:ae->ai->Prop} {Q:Unit->ai->Prop},Q () { s2 with heap:=h3 }->wpAny (aS X.prog X.w) X.A.in1 (kh S λ_=>#[a,b]) Q E s2)/\Inv X pins σ H2 { s2 with heap:=h3 }/\h3.get? S=some { cls:=.type "list",data:=.seq #[a,b] n3 }/\h3.IsListIter it l (j+1):=λa b s2 n items I4 HM Ib rB=>by
   have Pz:=fj s2.heap S (eO λ_=>#[a,b])
   refine⟨s2.heap.update S (eO λ_=>#[a,b]),_,λ{E Q} h=>jg HM rfl h (cq Ib (by decide)) (by show 2<=aL+1;decide),I4.turned (t':=s2.toks) (λb o hb e=>(Pz.2 b hb).trans e) Cq.1 Cq.2.1 Cq.2.2.2.1 Cq.2.2.2.2.1 Cq.2.2.2.2.2,eX _ HM rfl,?_⟩
   obtain⟨o,e1,e2,e3⟩:=rB
   exact⟨o,(Pz.2 it (cS TM)).trans e1,e2,e3⟩
  have HM:s2.heap.get? S=some { cls:=.type "list",data:=.seq items n }:=by rw[← dS];exact pS.1
  rcases Kr with ⟨h0,rfl⟩ | ⟨i,x,ub,t,rfl,hx,Ta,FE,ht,Hf⟩
  ·show wpAny _ _ (kh S (λ_=>#[u,bA t2]) >>= _) _ _ _
   obtain⟨h3,n3,w3,I5,Sl,D7⟩:=put u (.ref t2) s2 n #[] I4 HM (by decide) rB
   refine aa (w3 ?_)
   refine aq ⟨rfl,ih (j+1) H2 _ Ea xt I5 Us D7 Sc Cq (.inr ⟨j,_,u,t2,n3,Sl,ao xt,ru,de j,yT,λj' hj'=>?_⟩)⟩
   have:j'=j:=by omega
   subst this
   unfold zc
   exact⟨by omega,λz=>by omega⟩
  ·have Xc:=DF _ _ ht
   obtain⟨i1,r1,p1,_⟩:=I4.tuple (gJ.of yT)
   obtain⟨i2,r2,p2,_⟩:=I4.tuple (gJ.of Xc)
   have a1:cv i1.toArray.toList [(kf j).1,(kf j).2]:=a0c r1
   have a2:cv i2.toArray.toList [(kf i).1,(kf i).2]:=a0c r2
   show wpAny _ _ (tryCatch (gK [u,bA t2] (DE .Gt (.ref t2) (.ref t) >>= _)) _ >>= _) _ _ _
   refine aa (gH (db (aa ?_)))
   refine (HT.wg p1 p2 a1 a2 (by show X.A.units+1<jx;omega) ?_:wpAny (aS X.prog X.w) X.A.in1 (dz .Gt (.ref t2) (.ref t)) _ _ s2)
   refine aa (db (eW (aa (ib (aq ?_)))))
   by_cases c:zc (Ju kf j) (Ju kf i)
   ·rw[(K3 _ _).mpr (Le.mp c)]
    show wpAny _ _ (kh S (λ_=>#[u,bA t2]) >>= _) _ _ _
    obtain⟨h3,n3,w3,I5,Sl,D7⟩:=put u (.ref t2) s2 n #[ub,.ref t] I4 HM (by show 2<=2;decide) rB
    refine aa (w3 (aa (ib ?_)))
    exact aq ⟨rfl,ih (j+1) H2 _ Ea xt I5 Us D7 Sc Cq (.inr ⟨j,_,u,t2,n3,Sl,ao xt,ru,de j,yT,Hf.next c⟩)⟩
   ·have e:HT.lexLt [(kf i).1,(kf i).2] [(kf j).1,(kf j).2]=false:=by
     cases z:HT.lexLt [(kf i).1,(kf i).2] [(kf j).1,(kf j).2] with
     | false=>rfl
     | true=>exact absurd (Le.mpr ((K3 _ _).mp z)) c
    rw[e]
    show wpAny _ _ (letGo [u,bA t2] >>= _) _ _ _
    refine aa (ib ?_)
    exact aq ⟨rfl,ih (j+1) H2 _ Ea xt I4 Us rB Sc Cq (.inr ⟨i,x,ub,t,n,HM,hx,Ta,di FE,Xc,Hf.keep FE c⟩)⟩
end
theorem Cg (nm:String) (v:ae):kA nm ["key","default"] 0 { kw:=[("key",v)] }=pure [some v,none]:=by
 rfl
section
variable {X:Cx} {pins:List (ah × d6)} {σ:St}
theorem La (kf:Nat->Int × Int) {xs:List V} {l q:ah} {H:Hp} {s:ai} {Q:VK} {E:ae->ai->Prop} (pH:X.A.handled=none) (hu:X.A.units+2<jx) (I:Inv X pins σ H s) (hl:bI X.K H l xs) (ne:xs≠[])
  (RD:∀ (i:Nat) (x:V) (u:ae) (H1:Hp) (s:ai) (lC:List (ah × d6)),Inv X lC σ H1 s->bh H H1->xs[i]?=some x->RelV x u->wpAny (aS X.prog X.w) X.A.in1 (qH (.ref q) [u]) (EP X lC σ λy H'=>bh H1 H'/\∃ t,y=.ref t/\H' t=some (.tup (mS (kf i)))) (λ_ _=>False) s)
  (Rz:∀ (i:Nat) (x:V) (H':Hp),bh H H'->xs[i]?=some x->lS kf xs.length i->Q x H') :
  wpAny (aS X.prog X.w) X.A (qH (.builtin "min") [.ref l] [("key",.ref q)]) (EP X pins σ Q) E s:=by
 refine xN (by rfl) (by rfl) PySem.F.entry_min (PyProof.Rows.kmk_min_key _ _) ?_
 unfold Builtin.min
 show wpAny _ _ (kA "min" ["key","default"] 0 { kw:=[("key",bA q)] } >>= _) _ _ s
 rw[Cg]
 refine aa (aq ?_)
 obtain⟨cH,rv,p,hz⟩:=I.list hl
 refine aa (aq ?_)
 refine aa (fX p.isList ?_)
 refine aa (MU ?_)
 have I1:Inv X pins σ H { s with heap:=s.heap.push { cls:=.type "list_iterator",data:=.fields #[.ref l,.int 0 0] } }:=I.kept (t':=s.toks) (λb o e=>al _ e)
 have hit:(s.heap.push { cls:=.type "list_iterator",data:=.fields #[.ref l,.int 0 0] }).IsListIter s.heap.objs.size l 0:=⟨_,aF _ rfl,rfl,rfl⟩
 have fI:=I.vg (H':=H) (aA s.heap.objs.size) (I.cU.fresh (aA _))
 have Vs:(s.heap.push { cls:=.type "list_iterator",data:=.fields #[.ref l,.int 0 0] }).objs.size=s.heap.objs.size+1:=by simp[Heap.push]
 generalize s.heap.push { cls:=.type "list_iterator",data:=.fields #[.ref l,.int 0 0] }=h1 at I1 hit Vs
 have I2:Inv X pins σ H { s with heap:=h1.push { cls:=.type "list",data:=.seq #[] 0 } }:=I1.kept (t':=s.toks) (λb o e=>al _ e)
 have fS:=I1.vg (H':=H) (aA h1.objs.size) (I1.cU.fresh (aA _))
 have rB:(h1.push { cls:=.type "list",data:=.seq #[] 0 }).IsListIter s.heap.objs.size l 0:=by
  obtain⟨o,e1,e2,e3⟩:=hit
  exact⟨o,al _ e1,e2,e3⟩
 refine aq ⟨rfl,?_⟩
 refine Lb (S:=h1.objs.size) (it:=s.heap.objs.size) (q:=q) (R:=λr s'=>match r with
  | B4 (Flow.ret v)=>EP X pins σ Q v s'
  | B4 _=>False
  | UX e=>E e s') kf pH hu hl ne (by rw[Vs];exact px _) RD (λi x u H' s' I' sm hx ru b=>⟨x,H',I',ru,Rz i x H' sm hx b⟩) _ 0 H _ rfl (bE _) I2 (bh.refl _) rB fI fS (.inl ⟨rfl,0,aF _ rfl⟩)
theorem K8 (kf:Nat->Int × Int) {xs:List V} {l q:ah} {H:Hp} {s:ai} {Q:VK} {E:ae->ai->Prop} (pH:X.A.handled=none) (hu:X.A.units+2<jx) (I:Inv X pins σ H s) (hl:bI X.K H l xs) (ne:xs≠[])
  (RD:∀ (i:Nat) (x:V) (u:ae) (H1:Hp) (s:ai) (lC:List (ah × d6)),Inv X lC σ H1 s->bh H H1->xs[i]?=some x->RelV x u->wpAny (aS X.prog X.w) X.A.in1 (qH (.ref q) [u]) (EP X lC σ λy H'=>bh H1 H'/\∃ t,y=.ref t/\H' t=some (.tup (mS (kf i)))) (λ_ _=>False) s)
  (Rz:∀ (i:Nat) (x:V) (H':Hp),bh H H'->xs[i]?=some x->lS (Ju kf) xs.length i->Q x H') :
  wpAny (aS X.prog X.w) X.A (qH (.builtin "max") [.ref l] [("key",.ref q)]) (EP X pins σ Q) E s:=by
 refine xN (by rfl) (by rfl) PySem.F.entry_max (PyProof.Rows.kmk_max_key _ _) ?_
 unfold Builtin.max
 show wpAny _ _ (kA "max" ["key","default"] 0 { kw:=[("key",bA q)] } >>= _) _ _ s
 rw[Cg]
 refine aa (aq ?_)
 obtain⟨cH,rv,p,hz⟩:=I.list hl
 refine aa (aq ?_)
 refine aa (fX p.isList ?_)
 refine aa (MU ?_)
 have I1:Inv X pins σ H { s with heap:=s.heap.push { cls:=.type "list_iterator",data:=.fields #[.ref l,.int 0 0] } }:=I.kept (t':=s.toks) (λb o e=>al _ e)
 have hit:(s.heap.push { cls:=.type "list_iterator",data:=.fields #[.ref l,.int 0 0] }).IsListIter s.heap.objs.size l 0:=⟨_,aF _ rfl,rfl,rfl⟩
 have fI:=I.vg (H':=H) (aA s.heap.objs.size) (I.cU.fresh (aA _))
 have Vs:(s.heap.push { cls:=.type "list_iterator",data:=.fields #[.ref l,.int 0 0] }).objs.size=s.heap.objs.size+1:=by simp[Heap.push]
 generalize s.heap.push { cls:=.type "list_iterator",data:=.fields #[.ref l,.int 0 0] }=h1 at I1 hit Vs
 have I2:Inv X pins σ H { s with heap:=h1.push { cls:=.type "list",data:=.seq #[] 0 } }:=I1.kept (t':=s.toks) (λb o e=>al _ e)
 have fS:=I1.vg (H':=H) (aA h1.objs.size) (I1.cU.fresh (aA _))
 have rB:(h1.push { cls:=.type "list",data:=.seq #[] 0 }).IsListIter s.heap.objs.size l 0:=by
  obtain⟨o,e1,e2,e3⟩:=hit
  exact⟨o,al _ e1,e2,e3⟩
 refine aq ⟨rfl,?_⟩
 refine K9 (S:=h1.objs.size) (it:=s.heap.objs.size) (q:=q) (R:=λr s'=>match r with
  | B4 (Flow.ret v)=>EP X pins σ Q v s'
  | B4 _=>False
  | UX e=>E e s') kf pH hu hl ne (by rw[Vs];exact px _) RD (λi x u H' s' I' sm hx ru b=>⟨x,H',I',ru,Rz i x H' sm hx b⟩) _ 0 H _ rfl (bE _) I2 (bh.refl _) rB fI fS (.inl ⟨rfl,0,aF _ rfl⟩)
end
def UB (P:ah) (pos:gR) (qual:aT) (params:jh) (body:bR) (scope:ek) (cells:List (aT × ah)):TE:=λσ H Q=>jW H P pos qual/\∀ (cl:List (aT × ah)) (q:ah) (H':Hp),(∀ x c,cl.lookup x=some c->cells.lookup x=some c)->(∀ x,(x,bQ)∈scope.names->∃ c,cl.lookup x=some c)->jk P H H'->jW H' P pos qual->vS H' q qual params body scope cl->Q (.ref q) H'
theorem LM {X:Cx} {P:ah} {params:jh} {body:bR} {scope:ek} {pos:gR} (D:qX X P) (hd:HH params X.env=([],[]):=by rfl) (hf:∀ y∈scope.names,y.2=.free->∃ c,X.env.cells.lookup y.1=some c) :
  PE X (.Lambda params body scope pos) (UB P pos (X.env.qual ++ "<lambda>") params body scope X.env.cells):=by
 intro pins s σ H Q I h
 exact KY D I h.1 hd hf λcl q H' s' c1 c2 I' sT t' la=>⟨.ref q,H',I',rfl,h.2 cl q H' c1 c2 sT t' la⟩
section
variable {X:Cx} {pins:List (ah × d6)} {σ:St}
theorem FR {k:Nat} {q:ah} {qual x y:aT} {params:jh} {body:bR} {scope:ek} {cl:List (aT × ah)} {H:Hp} {s:ai} {j:Nat} {pv v:V} {u:ae} {te:TE} {Q:VK} (hr:eP (k+2) X.A) (I:Inv X pins σ H s) (la:vS H q qual params body scope cl) (c1:∀ x c,cl.lookup x=some c->X.env.cells.lookup x=some c)
  (kind:scope.kind=.function) (co:scope.isCoroutine=false) (gen:scope.isGenerator=false) (names:scope.names.lookup x=some .local/\scope.names.lookup y=some .free/\(y,bQ)∈scope.names/\∀ z∈scope.names,z.2≠.cell/\(z.2=.free->z.1=y)) (Xr:x≠y) (xV:∃ c,cl.lookup y=some c)
  (hj:X.N[j]?=some y) (hs:σ[j]?=some (some pv)) (pJ:X.env.scope.names.lookup y=some .cell)
  (sj:∀ pm dk tL,oQ (kr "<lambda>" qual params body scope cl pm dk tL) ⟨[u],[]⟩=pure [(x,u)]) (r:RelV v u)
  (hb:∀ dk,PE (CG X.prog X.w X.K X.mg X.base [x,y] qual scope cl q dk X.A.in1 X.stack s H) body te) (hq:te [some v,some pv] H Q) :
  wpAny (aS X.prog X.w) X.A.in1 (qH (.ref q) [u]) (EP X pins σ Q) (λ_ _=>False) s:=by
 obtain⟨pm,tL,c,o,vs,t,hq0,hc0,hd,hv⟩:=la
 have oq:=(I.cU q _ hq0).1
 have oc:=(I.cU c _ hc0).1
 have lk:scope.names.lookup x=some .local/\scope.names.lookup y=some .free/\(∀ z,scope.names.lookup z=some .free->z=y)/\∀ z∈scope.names,z.2≠.cell:=by
  exact⟨names.1,names.2.1,λz hz=>(names.2.2.2 _ (eL hz)).2 rfl,λz hz=>(names.2.2.2 z hz).1⟩
 obtain⟨cc,Nr⟩:=xV
 have hXc:=c1 y cc Nr
 obtain⟨m,hn,acs⟩:=id I.loc
 obtain⟨uu,ruu,look⟩:=acs j y pv hj hs (.inr (.inl pJ))
 have hIs:s.heap.IsCell cc (some uu):=by
  rcases look with ⟨kk,_⟩ | ⟨_,c',e1,e2⟩
  ·have kk:X.env.scope.names.lookup y=some .local:=kk
   rw[pJ] at kk;cases kk
  ·rw[hXc] at e1;cases e1;exact e2
 have C:Qp scope cl x [x,y] [pv] s H:=⟨kind,co,gen,lk.2.2.2,lk.1,λa b c h1 h2=>I.ok.inj a b c (c1 a c h1) (c1 b c h2),λz hz=>by rw[lk.2.2.1 z hz];exact⟨cc,Nr⟩,λz c hz=>⟨I.lZ z c (c1 z c hz),I.cell z c (c1 z c hz)⟩,[y],rfl,rfl,by simpa using Xr,λi z v' h1 h2=>by
  cases i with
  | zero=>cases h1;cases h2;exact⟨lk.2.1,cc,uu,Nr,hIs,ruu⟩
  | succ i=>cases h1⟩
 refine yq ?_
 have run:=ON (P:=X.prog) (w:=X.w) (K:=X.K) (mg:=X.mg) (base:=X.base) (E:=E0) (Q:=Q) oq ⟨c,o,vs,t,rfl,oc,hd,hv⟩ (sj _ _ _) C hr.in1 I.HI.in1 r (hb _) hq
 refine iY run λrr s' h=>?_
 cases rr with
 | ok f =>
  cases f with
  | ret v=>exact I.after h
  | _=>exact h
 | error e=>exact h.elim
end
def Q8 (mx:Bool) (P:ah) (pos:gR) (qual:aT) (j:Nat) (ta:TA) (tb:TE):TE:=λσ H Q=>ta σ H λvs H1=>jW H1 P pos qual/\∃ (l:ah) (xs:List V) (pv:V) (kf:Nat->Int × Int),vs=[.ref l]/\H1 l=some (.lst xs)/\xs≠[]/\σ[j]?=some (some pv) /\
 (∀ i x H2,xs[i]?=some x->jk P H1 H2->tb [some x,some pv] H2 λy H3=>bh H2 H3/\∃ t,y=.ref t/\H3 t=some (.tup (mS (kf i)))) /\
 ∀ i x H2,xs[i]?=some x->lS (if mx then Ju kf else kf) xs.length i->jk P H1 H2->jW H2 P pos qual->Q x H2
theorem Pf {X:Cx} {k j:Nat} {P:ah} {x y:aT} {params:jh} {body e:bR} {scope:ek} {pP p pos uj:gR} {ta:TA} {tb:TE} (D:qX X P) (hr:eP (k+2) X.A) (pH:X.calm=true) (hg:Gl X "min") (hm:X.mg "min" = none) (ha:PA X [e] ta)
  (kind:scope.kind=.function) (co:scope.isCoroutine=false) (gen:scope.isGenerator=false) (names:scope.names.lookup x=some .local/\scope.names.lookup y=some .free/\(y,bQ)∈scope.names/\∀ z∈scope.names,z.2≠.cell/\(z.2=.free->z.1=y)) (Xr:x≠y) (hj:X.N[j]?=some y) (pJ:X.env.scope.names.lookup y=some .cell)
  (sj:∀ cl u pm dk tL,oQ (kr "<lambda>" (X.env.qual ++ "<lambda>") params body scope cl pm dk tL) ⟨[u],[]⟩=pure [(x,u)])
  (hb:∀ cl q dk s H,PE (CG X.prog X.w X.K X.mg X.base [x,y] (X.env.qual ++ "<lambda>") scope cl q dk X.A.in1 X.stack s H) body tb)
  (hd:HH params X.env=([],[]):=by rfl)
  (h1:d9 pos (aV [e] X.env)=(false,dU e X.env)::d9 pos (aV [] X.env):=by rfl) (h2:((d9 pos (aV [e] X.env)).any λx=>x.fst)=false:=by rfl)
  (h3:((gF pos (d5 [⟨some ("key" : aT),.Lambda params body scope pP,uj⟩] X.env)).all λx=>x.fst.isSome)=true:=by rfl) (h4:((gF pos (d5 [⟨some ("key" : aT),.Lambda params body scope pP,uj⟩] X.env)).any λx=>x.fst.isNone)=false:=by rfl)
  (h5:U1 (λx=>x.fst) (gF pos (d5 [⟨some ("key" : aT),.Lambda params body scope pP,uj⟩] X.env))=[("key" : aT)]:=by rfl) :
  PE X (.Call (.Name "min" p) [e] [⟨some ("key" : aT),.Lambda params body scope pP,uj⟩] pos) (Q8 false P pP (X.env.qual ++ "<lambda>") j ta tb):=by
 intro pins s σ H Q I h
 refine i8 (lq I hg hm boot_min ?_ (by decide) (by decide))
 refine vy (fq (ha pos pins s σ H _ I h) λus s1 c6=>?_) h1 h2 h3 h4
 obtain⟨vs,H1,I1,r1,tab,l,xs,pv,kf,rfl,hl,ne,hs,hk,q⟩:=c6
 have Sr:∃ c,X.env.cells.lookup y=some c:=I1.ok.has y (.inl pJ)
 have hf:∀ z∈scope.names,z.2=.free->∃ c,X.env.cells.lookup z.1=some c:=λz hz hf=>by
  rw[(names.2.2.2 z hz).2 hf];exact Sr
 have hPK:PK X [⟨some ("key" : aT),.Lambda params body scope pP,uj⟩] (zr (UB P pP (X.env.qual ++ "<lambda>") params body scope X.env.cells) vn):=Gc (LM D hd hf) LU
 have hyf:(y,bQ)∈scope.names:=names.2.2.1
 obtain⟨ps,hP,_⟩:=id tab
 have nlP:l≠P:=λz=>by rw[z,hP] at hl;cases hl
 refine fq (hPK pos pins s1 σ H1 (λzs H2=>∃ (cl:List (aT × ah)) (qa:ah),zs=[.ref qa]/\(∀ x c,cl.lookup x=some c->X.env.cells.lookup x=some c)/\(∃ c,cl.lookup y=some c)/\jk P H1 H2/\jW H2 P pP (X.env.qual ++ "<lambda>")/\vS H2 qa (X.env.qual ++ "<lambda>") params body scope cl) I1 ⟨tab,λcl qa H2 c1 c2 sT t2 la=>⟨cl,qa,rfl,c1,c2 y hyf,sT,t2,la⟩⟩) λws s2 c6=>?_
 obtain⟨zs,H2,I2,r2,cl,qa,rfl,c1,xV,sT,t2,la⟩:=c6
 rw[h5]
 obtain⟨u,rfl,ru⟩:=a0h r1
 cases ru
 obtain⟨u2,rfl,Ul⟩:=a0h r2
 cases Ul
 refine La kf (I2.ok.hd pH) (AD hr 2) I2 (bI.of (sT _ _ nlP hl)) ne (λi x' u H3 s3 lC I3 sm hx ru=>?_) (λi x' H' sm hx b=>q i x' H' hx b (sT.trans (jk.of sm)) (t2.up sm))
 have la3:vS H3 qa (X.env.qual ++ "<lambda>") params body scope cl:=by
  obtain⟨pm,tL,c,o,vs,t,a1,a2,a3⟩:=la
  exact⟨pm,tL,c,o,vs,t,sm _ _ a1,sm _ _ a2,a3⟩
 exact FR hr I3 la3 c1 kind co gen names Xr xV hj hs pJ (λpm dk tL=>sj cl u pm dk tL) ru (λdk=>hb cl qa dk s3 H3) (hk i x' H3 hx (sT.trans (jk.of sm)))
theorem Pe {X:Cx} {k j:Nat} {P:ah} {x y:aT} {params:jh} {body e:bR} {scope:ek} {pP p pos uj:gR} {ta:TA} {tb:TE} (D:qX X P) (hr:eP (k+2) X.A) (pH:X.calm=true) (hg:Gl X "max") (hm:X.mg "max" = none) (ha:PA X [e] ta)
  (kind:scope.kind=.function) (co:scope.isCoroutine=false) (gen:scope.isGenerator=false) (names:scope.names.lookup x=some .local/\scope.names.lookup y=some .free/\(y,bQ)∈scope.names/\∀ z∈scope.names,z.2≠.cell/\(z.2=.free->z.1=y)) (Xr:x≠y) (hj:X.N[j]?=some y) (pJ:X.env.scope.names.lookup y=some .cell)
  (sj:∀ cl u pm dk tL,oQ (kr "<lambda>" (X.env.qual ++ "<lambda>") params body scope cl pm dk tL) ⟨[u],[]⟩=pure [(x,u)])
  (hb:∀ cl q dk s H,PE (CG X.prog X.w X.K X.mg X.base [x,y] (X.env.qual ++ "<lambda>") scope cl q dk X.A.in1 X.stack s H) body tb)
  (hd:HH params X.env=([],[]):=by rfl)
  (h1:d9 pos (aV [e] X.env)=(false,dU e X.env)::d9 pos (aV [] X.env):=by rfl) (h2:((d9 pos (aV [e] X.env)).any λx=>x.fst)=false:=by rfl)
  (h3:((gF pos (d5 [⟨some ("key" : aT),.Lambda params body scope pP,uj⟩] X.env)).all λx=>x.fst.isSome)=true:=by rfl) (h4:((gF pos (d5 [⟨some ("key" : aT),.Lambda params body scope pP,uj⟩] X.env)).any λx=>x.fst.isNone)=false:=by rfl)
  (h5:U1 (λx=>x.fst) (gF pos (d5 [⟨some ("key" : aT),.Lambda params body scope pP,uj⟩] X.env))=[("key" : aT)]:=by rfl) :
  PE X (.Call (.Name "max" p) [e] [⟨some ("key" : aT),.Lambda params body scope pP,uj⟩] pos) (Q8 true P pP (X.env.qual ++ "<lambda>") j ta tb):=by
 intro pins s σ H Q I h
 refine i8 (lq I hg hm boot_max ?_ (by decide) (by decide))
 refine vy (fq (ha pos pins s σ H _ I h) λus s1 c6=>?_) h1 h2 h3 h4
 obtain⟨vs,H1,I1,r1,tab,l,xs,pv,kf,rfl,hl,ne,hs,hk,q⟩:=c6
 have Sr:∃ c,X.env.cells.lookup y=some c:=I1.ok.has y (.inl pJ)
 have hf:∀ z∈scope.names,z.2=.free->∃ c,X.env.cells.lookup z.1=some c:=λz hz hf=>by
  rw[(names.2.2.2 z hz).2 hf];exact Sr
 have hPK:PK X [⟨some ("key" : aT),.Lambda params body scope pP,uj⟩] (zr (UB P pP (X.env.qual ++ "<lambda>") params body scope X.env.cells) vn):=Gc (LM D hd hf) LU
 have hyf:(y,bQ)∈scope.names:=names.2.2.1
 obtain⟨ps,hP,_⟩:=id tab
 have nlP:l≠P:=λz=>by rw[z,hP] at hl;cases hl
 refine fq (hPK pos pins s1 σ H1 (λzs H2=>∃ (cl:List (aT × ah)) (qa:ah),zs=[.ref qa]/\(∀ x c,cl.lookup x=some c->X.env.cells.lookup x=some c)/\(∃ c,cl.lookup y=some c)/\jk P H1 H2/\jW H2 P pP (X.env.qual ++ "<lambda>")/\vS H2 qa (X.env.qual ++ "<lambda>") params body scope cl) I1 ⟨tab,λcl qa H2 c1 c2 sT t2 la=>⟨cl,qa,rfl,c1,c2 y hyf,sT,t2,la⟩⟩) λws s2 c6=>?_
 obtain⟨zs,H2,I2,r2,cl,qa,rfl,c1,xV,sT,t2,la⟩:=c6
 rw[h5]
 obtain⟨u,rfl,ru⟩:=a0h r1
 cases ru
 obtain⟨u2,rfl,Ul⟩:=a0h r2
 cases Ul
 refine K8 kf (I2.ok.hd pH) (AD hr 2) I2 (bI.of (sT _ _ nlP hl)) ne (λi x' u H3 s3 lC I3 sm hx ru=>?_) (λi x' H' sm hx b=>q i x' H' hx b (sT.trans (jk.of sm)) (t2.up sm))
 have la3:vS H3 qa (X.env.qual ++ "<lambda>") params body scope cl:=by
  obtain⟨pm,tL,c,o,vs,t,a1,a2,a3⟩:=la
  exact⟨pm,tL,c,o,vs,t,sm _ _ a1,sm _ _ a2,a3⟩
 exact FR hr I3 la3 c1 kind co gen names Xr xV hj hs pJ (λpm dk tL=>sj cl u pm dk tL) ru (λdk=>hb cl qa dk s3 H3) (hk i x' H3 hx (sT.trans (jk.of sm)))
end L2
namespace L2
open PySem PySem.W PySem.Calls PyProof.Rows
def Tv:ae->Bool | .str _ _=>true | _=>false
def KS:ae->Bool | .int _ _=>true | _=>false
def OH:ae->Bool | .bool _=>true | _=>false
def yW:ae->Bool | .type "code" => true | _=>false
def Ah (K:Frag):Option ah:=match nsIn K bf "__builtins__" with
 | some (some (.ref bm))=>match K.lookup bm with
  | some ⟨.type "module",some d,.plain,_⟩=>if d=kT/\bm≠kT/\bm≠bf then some bm else none
  | _=>none
 | _=>none
def nj (K:Frag) (f:ah):Option ah:=match K.lookup f,Ah K with
 | some ⟨_,_,.func fd,_⟩,some bm=>match fd.code with
  | .ref c=>match K.lookup c with
   | some ⟨cl,_,.fields vs,_⟩=>match ((vs:Array ae)[11]?:Option ae) with
    | some (bA P)=>if yW cl/\Tv (vs.getD 18 .none)/\KS (vs.getD 7 .none)/\OH (vs.getD 9 .none)/\KS (vs.getD 10 .none)/\c≠P/\bf≠P/\bm≠P/\(K.lookup P).isNone then some P else none
    | _=>none
   | _=>none
  | _=>none
 | _,_=>none
def em (K:Frag) (x:aT):ah:=match nsIn K bf x with
 | some (some (.ref f))=>(nj K f).getD 0
 | _=>0
def uG (K:Frag) (mg:aT->Option ae) (x:aT):Prop:=∃ f,mg x=some (.ref f)/\nj K f=some (em K x)
theorem He {K:Frag} {bm:ah} (e:Ah K=some bm):∃ sl,nsIn K bf "__builtins__" = some (some (.ref bm))/\K.lookup bm=some ⟨.type "module",some kT,.plain,sl⟩/\bm≠kT/\bm≠bf:=by
 unfold Ah at e
 split at e
 ·rename_i b hb
  split at e
  ·rename_i d sl hl
   split at e
   ·rename_i h
    obtain⟨h1,h2,h3⟩:=h
    injection e with e
    subst e;subst h1
    exact⟨sl,hb,hl,h2,h3⟩
   ·cases e
  ·cases e
 ·cases e
theorem y9 {K:Frag} {f P:ah} (e:nj K f=some P):∃ (oc:ae) (od:Option ah) (fd:fJ) (sl:Array (Option ae)) (c:ah) (bm:ah),K.lookup f=some ⟨oc,od,.func fd,sl⟩/\fd.code=.ref c/\Ah K=some bm/\bm≠P/\bf≠P/\K.lookup P=none/\∀ h:bT,K.In h->CodeHd h c P:=by
 unfold nj at e
 split at e
 ·rename_i oc od fd sl bm hf hb
  split at e
  ·rename_i c hc
   split at e
   ·rename_i cl cd vs csl hk
    split at e
    ·rename_i Q hQ
     split at e
     ·rename_i hh
      obtain⟨h0,h1,h2,h3,h4,h5,h6,h7,h8⟩:=hh
      injection e with e
      subst e
      refine⟨oc,od,fd,sl,c,bm,hf,hc,hb,h7,h6,by simpa using h8,λh X=>?_⟩
      have s1:∃ a b,vs.getD 18 .none=.str a b:=by
       cases z:vs.getD 18 .none <;> rw[z] at h1 <;> first | exact⟨_,_,rfl⟩ | cases h1
      have s2:∃ a b,vs.getD 7 .none=.int a b:=by
       cases z:vs.getD 7 .none <;> rw[z] at h2 <;> first | exact⟨_,_,rfl⟩ | cases h2
      have s3:∃ a,vs.getD 9 .none=.bool a:=by
       cases z:vs.getD 9 .none <;> rw[z] at h3 <;> first | exact⟨_,rfl⟩ | cases h3
      have s4:∃ a b,vs.getD 10 .none=.int a b:=by
       cases z:vs.getD 10 .none <;> rw[z] at h4 <;> first | exact⟨_,_,rfl⟩ | cases h4
      have s0:cl=.type "code" := by
       unfold yW at h0
       split at h0
       ·rfl
       ·cases h0
      obtain⟨f1,f2,e1⟩:=s1
      obtain⟨g1,g2,e2⟩:=s2
      obtain⟨i1,e3⟩:=s3
      obtain⟨t1,t2,e4⟩:=s4
      exact⟨_,vs,f1,f2,g1,g2,i1,t1,t2,X _ _ hk,s0,rfl,hQ,by rw[Array.getD_eq_getD_getElem?,hQ];rfl,e1,e2,e3,e4,h5⟩
     ·cases e
    ·cases e
   ·cases e
  ·cases e
 ·cases e
theorem OM {X:Cx} {f P:ah} {oc:ae} {od:Option ah} {fd:fJ} {sl:Array (Option ae)} (ok:Mod X.K X.mg X.base) (hf:X.K.lookup f=some ⟨oc,od,.func fd,sl⟩) (hc:X.env.code=fd.code) (e:nj X.K f=some P):qX X P:=by
 obtain⟨oc',od',fd',sl',c,bm,h1,h2,h3,h4,h5,h6,h7⟩:=y9 e
 rw[hf] at h1
 cases h1
 obtain⟨msl,b1,b2,b3,b4⟩:=He h3
 refine⟨⟨c,hc.trans h2,λh k=>h7 h (ok.NB.keeps k)⟩,λh k=>⟨bm,_,mg_of ok.NB ok.glob b1,b3,b4,h4,k _ _ (ok.NB _ _ b2),rfl,rfl,rfl⟩,h5⟩
theorem Fe.okL {P:aO} {w:bD} {K:Frag} {mg:aT->Option ae} {base:bT} {x qual:aT} {st:cL} {f:ah} {fd:fJ} {N ps:List aT} {k:Nat} {sp:Sp} {T:ah} (F:Fe K x qual st f fd) (hT:nj K f=some T) (S:bG N ps (aC st)) (len:∀ vs H Q E,sp vs H Q E->vs.length=ps.length)
  (kW:∀ (dk:ae) (A:bp) (outer:List qA) (s:ai) (H:Hp) (vs:List V) (Q:VK) (E:XK),(Mod K mg base->qX (rj xH P w K mg base N qual (aC st) f dk A outer s H E).wC T)->eP k (A.deeper (lI qual (aC st) s.heap.objs.size f dk))->sp vs H Q E ->
   ∃ t,(Mod K mg base->uY (rj xH P w K mg base N qual (aC st) f dk A outer s H E).wC (fk st) t)/\t { nx:=λ_ H'=>Q .e8 H',rt:=Q } (start N vs) H):nO P w K mg base xH (k+1) f fd ps sp:=by
 obtain⟨oc,od,kV,doc,pm,an,dk,ct,Jw,rfl,lk,yR⟩:=F.ex
 refine FA lk yR S len λA outer s H vs Q E hr BK=>?_
 obtain⟨t,h,q⟩:=kW dk A outer s H vs Q E (λm=>OM (X:=(rj xH P w K mg base N qual (aC st) f dk A outer s H E).wC) m lk rfl hT) hr BK
 refine⟨t,uY.wC (λpins s' σ H' D I hh=>h I.ok.mod pins s' σ H' D I hh),q⟩
def KW:d6->Bool
 | ⟨.none,_,.fields _,_⟩=>true
 | _=>false
def zh (as:List ah) (h:bT):Frag:=(AO as h).filter λp=>!KW p.2
theorem ED {h:bT} {as:List ah} {a:ah} {o:d6} (e:(a,o)∈AO as h):h.get? a=some o:=by
 unfold AO at e
 obtain⟨b,_,hb⟩:=nG.mp e
 obtain⟨o',h1,h2⟩:=dY.mp hb
 cases h2
 exact h1
theorem K4 {β:Type} {a:ah} {b:β}:∀ (l:List (ah × β)),l.lookup a=some b->(a,b)∈l
 | [],h=>by cases h
 | (c,d)::l,h=>by
  rw[cD] at h
  cases q:a == c with
  | true =>
   rw[q] at h
   have h:some d=some b:=h
   cases h
   rw[eq_of_beq q]
   exact aP
  | false =>
   rw[q] at h
   exact bc _ (K4 l h)
theorem LH (h:bT) (as:List ah):(zh as h).In h:=λa o e=>by
 have m:(a,o)∈(AO as h).filter λp=>!KW p.2:=K4 _ e
 exact ED (as:=as) (bF.mp m).1
def ME (K:Frag) (h:bT) (x:aT):Bool:=match nsIn K bf x with
 | some (some (.ref f))=>match nj K f with
  | some P=>match h.get? P with
   | some ⟨.none,none,.fields ps,sl⟩=>ps.size == 0 && sl.size == 0
   | _=>false
  | none=>false
 | _=>false
theorem P0 {K:Frag} {h:bT} {x:aT} (e:ME K h x=true):∃ f,nsIn K bf x=some (some (.ref f))/\nj K f=some (em K x)/\h.get? (em K x)=some (tabObj #[]):=by
 unfold ME at e
 split at e
 ·rename_i f hf
  split at e
  ·rename_i P hP
   split at e
   ·rename_i ps sl hg
    have ea:em K x=P:=by unfold em;rw[hf];show (nj K f).getD 0=P;rw[hP];rfl
    rw[bU,beq_iff_eq,beq_iff_eq] at e
    have e1:ps=#[]:=vL e.1
    have e2:sl=#[]:=vL e.2
    subst e1 e2
    exact⟨f,hf,by rw[ea];exact hP,by rw[ea];exact hg⟩
   ·cases e
  ·cases e
 ·cases e
def lm (xs:List aT) (K:Frag) (h:bT):Prop:=∀ x∈xs,∃ f,nsIn K bf x=some (some (.ref f))/\nj K f=some (em K x)/\h.get? (em K x)=some (tabObj #[])
theorem lm.of {xs:List aT} {K:Frag} {h:bT} (e:(xs.all λx=>ME K h x)=true):lm xs K h:=λx hx=>P0 (fZ.mp e x hx)
def Fq (xs:List aT) (K:Frag) (H:Hp):Prop:=∀ x∈xs,H (em K x)=some (.vo #[])
theorem Il {P:aO} {w:bD} {K:Frag} {mg mb:aT->Option ae} {k:Nat} {fa a:ah} {fd:fJ} {x:aT} {sp:Sp} {s₁:ai} {vs:List ae} {ns:List Int} {xs:List aT}
  (KX:K.In s₁.heap) (yS:s₁.heap.Ns bf mg) (hb:s₁.heap.Ns kT mb) (hbb:∀ x:aT,x ≠ "__name__" -> mb x=lF x) (acq:s₁.heap.NoLimit) (hg:s₁.gens=#[]) (TI:lm xs K s₁.heap)
  (ha:s₁.heap.get? a=some { cls:=.type "list",data:=.seq vs.toArray }) (hi:cv vs ns) (hl:ns.length<=aL) (hr:eP k An)
  (F:∀ base:bT,K.In base->base.Ns bf mg->nO P w K mg base xH k fa fd [x] sp) (sj:∀ (s:ai) (u:ae),NI s fd ⟨[u],[]⟩ [(x,u)])
  (BK:∀ H:Hp,Fq xs K H->bI K H a (ns.map V.int)->sp [.ref a] H (λv _=>v=.bl true) λ_ _ _=>False) :
  codeAny (aS P w) An (.call (.ref fa) ⟨[.ref a],[]⟩) (λr s'=>r=.ok (.ret (.bool true))/\OldK s₁.heap s'.heap/\s'.os=s₁.os/\n5 s'.gens) s₁:=by
 have rv:=zw hi
 have adN:=hi.length
 let KU:ah->Prop:=λb=>∃ y∈xs,em K y=b
 have tK:∀ b,KU b->K.lookup b=none/\s₁.heap.get? b=some (tabObj #[])/\isCodeTable s₁.heap b:=λb ⟨y,hy,e⟩=>by
  obtain⟨f,h1,h2,h3⟩:=TI y hy
  obtain⟨_,_,_,_,c,_,_,_,_,_,_,h4,h5⟩:=y9 h2
  rw[e] at h3 h4 h5
  obtain⟨o,cvs,_,_,_,_,_,_,_,g1,g2,g3,g4,_⟩:=h5 _ KX
  exact⟨h4,h3,c,o,cvs,g1,g2,g3,g4⟩
 have naT:¬ KU a:=λz=>by
  have:=(tK a z).2.1
  rw[ha] at this;cases this
 have core : ∀ H:Hp,bI K H a (ns.map V.int)->o5 P w H s₁.heap->(∀ b,KU b->H b=some (.vo #[]))->(∀ b,H b≠none->KU b\/(b=a/\K.lookup a=none/\∃ o zs,H b=some (.Au o (.lst zs)))) ->
   codeAny (aS P w) An (.call (.ref fa) ⟨[.ref a],[]⟩) (λr s'=>r=.ok (.ret (.bool true))/\OldK s₁.heap s'.heap/\s'.os=s₁.os/\n5 s'.gens) s₁:=by
  intro H hS cU hT hA
  have Fs:∀ {b:ah} {o:d6},s₁.heap.get? b=some o->H b=none->(Ax s₁.heap H).get? b=some o:=λe n=>Kz e n
  have Jv:∀ {b:ah} {o:d6} {es:Array DictEntry} {ep:Nat},s₁.heap.get? b=some o->o.data=.dict es ep->H b=none:=λ{b o es ep} e d=>by
   cases q:H b with
   | none=>rfl
   | some u =>
    rcases hA b (by rw[q];simp) with z | ⟨e',_⟩
    ·rw[(tK b z).2.1] at e;cases e
     cases d
    ·subst e'
     rw[ha] at e;cases e
     have d':Data.seq vs.toArray _=Data.dict es ep:=d
     cases d'
  have nsK:∀ {b:ah} {m:aT->Option ae},s₁.heap.Ns b m->(Ax s₁.heap H).Ns b m:=λ{b m} ⟨o,es,ep,e,d,r⟩=>⟨o,es,ep,Fs e (Jv e d),d,r⟩
  have hKb:K.In (Ax s₁.heap H):=λb o e=>Fs (KX b o e) (by
   cases q:H b with
   | none=>rfl
   | some u =>
    rcases hA b (by rw[q];simp) with z | ⟨e',hK,_⟩
    ·rw[(tK b z).1] at e;cases e
    ·subst e'
     rw[hK] at e;cases e)
  have hM:Mod K mg (Ax s₁.heap H):=⟨hKb,nsK yS,⟨mb,nsK hb,hbb⟩,let ⟨mc,h1,h2⟩:=acq;⟨mc,nsK h1,h2⟩⟩
  have e0:vP P w K mg (Ax s₁.heap H) An [] s₁ H:=⟨rfl,hM,λb o e=>OV e,G3 (HV _ _),trivial,λb hb=>absurd (show b∈([]:List ah) from hb) (by simp),cU,.of_eq hg⟩
  refine iY ((F _ hKb (nsK yS)).run An [] s₁ H ⟨[.ref a],[]⟩ [.ref a] [.ref a] _ _ hr e0 (sj s₁ (.ref a)) (.cons rfl .nil) (BK H (λy hy=>hT _ ⟨y,hy,rfl⟩) hS)) λr s' h=>?_
  cases r with
  | error e=>exact h.elim
  | ok fl =>
   cases fl with
   | next=>exact dR h
   | brk=>exact dR h
   | cont=>exact dR h
   | ret u =>
    obtain⟨v,H',os,bare,un,WZ,r',q⟩:=h
    have q':v=.bl true:=q
    subst q'
    obtain rfl:u=pA true:=r'
    refine⟨rfl,⟨λb o e=>?_,λb o e=>un.there b o e (by simp)⟩,os,bare⟩
    cases q:H b with
    | none=>exact .inl (un.keep b o e q (by intro z;exact absurd (show b∈([]:List ah) from z) (by simp)) (by simp))
    | some u =>
     rcases hA b (by rw[q];simp) with z | ⟨e',_,ob,zs,z⟩
     ·obtain⟨_,t2,t3⟩:=tK b z
      rw[t2] at e
      cases e
      obtain⟨more,e2⟩:=un.rL b _ (hT b z)
      exact .inr (.inl ⟨t3,rfl,#[],more,rfl,WZ b _ e2⟩)
     ·have z2:=un.rq b ob _ z
      obtain⟨e1,_⟩:=cU b _ z
      obtain⟨e2,_⟩:=WZ b _ z2
      rw[e] at e1;cases e1
      exact .inl e2
 have Wj:∀ (H:Hp) (b:ah),KU b->H b=some (.vo #[])->∀ u,H b=some u->gj P w H s₁.heap b u:=λH b z e u hu=>by
  rw[e] at hu;cases hu
  exact (tK b z).2.1
 cases hk:K.lookup a with
 | some o =>
  have e:=KX a o hk
  rw[ha] at e
  cases e
  refine core (λb=>open Classical in if KU b then some (.vo #[]) else none) (.inr ⟨_,vs.toArray,_,hk,rfl,rfl,rfl,by rw[bu,adN];exact hl,by simpa using rv⟩) (λb u z=>?_) (λb z=>if_pos z) λb z=>?_
  ·by_cases c:KU b
   ·exact Wj _ b c (if_pos c) u z
   ·have z':=(if_neg c).symm.trans z
    cases z'
  ·by_cases c:KU b
   ·exact .inl c
   ·exact absurd (if_neg c) z
 | none =>
  refine core (λb=>open Classical in if KU b then some (.vo #[]) else if b=a then some (.Au { cls:=.type "list",data:=.seq vs.toArray } (.lst (ns.map V.int))) else none) (.inl (.inr ⟨{ cls:=.type "list",data:=.seq vs.toArray },(if_neg naT).trans (if_pos rfl)⟩)) (λb u z=>?_) (λb z=>if_pos z) λb z=>?_
  ·by_cases c:KU b
   ·exact Wj _ b c (if_pos c) u z
   ·by_cases hb:b=a
    ·have z':=((if_neg c).trans (if_pos hb)).symm.trans z
     cases z'
     subst hb
     exact⟨ha,by rw[aj];exact hl,vs,_,rv,ha⟩
    ·have z':=((if_neg c).trans (if_neg hb)).symm.trans z
     cases z'
  ·by_cases c:KU b
   ·exact .inl c
   ·by_cases hb:b=a
    ·exact .inr ⟨hb,hk,_,_,(if_neg c).trans (if_pos hb)⟩
    ·exact absurd ((if_neg c).trans (if_neg hb)) z
theorem MO {l:OpenLaw} {n k:Nat} {q:aO} {loose:List aT} {XP:(aT->Option ae)->bT->Prop} {d:DefRec} {Fc:bD->Frag->Prop} {sp:Frag->Sp} {x nm:aT} {xs:List aT}
  (hn:l.most=some n) (KH:n<=aL) (hdf:d.params.defaults=[]) (hr:eP k An) (hnm:d.name=nm)
  (F:∀ (w:bD) (K:Frag) (mg:aT->Option ae) (fa:ah) (h:bT),Fc w K->K.In h->lm xs K h->h.Ns bf mg->mg nm=some (.ref fa) ->
   ∃ fd:fJ,(∀ (s:ai) (u:ae),NI s fd ⟨[u],[]⟩ [(x,u)])/\∀ base:bT,K.In base->base.Ns bf mg->nO l.prog w K mg base xH k fa fd [x] (sp K))
  (BK:∀ (K:Frag) (H:Hp) (a:ah) (ns:List Int),ns.length<=n->Fq xs K H->bI K H a (ns.map V.int)->sp K [.ref a] H (λv _=>v=.bl true) λ_ _ _=>False) :
  WalkO q loose XP (λw h=>∃ K:Frag,K.In h/\Fc w K/\lm xs K h) l.row.toRowW d [] (λf vs=>aa7 f vs):=by
 refine Att.Cf hn hdf λw s₀ s₁ mg mb fa o pm cd doc a vs ns G Y ho hd yR QN SN hints hlen hg=>?_
 obtain⟨K,KX,fc,ti⟩:=Y
 rw[hnm] at QN
 obtain⟨fd,hb,hF⟩:=F w K mg fa _ fc KX ti G.T.g QN
 exact Il KX G.T.g G.T.b G.T.builtins G.T.nolimit hg ti SN hints (cq hlen KH) hr hF hb (λH hT hS=>BK K H a ns hlen hT hS)
theorem CH {xs:List aT} {K:Frag} {h:bT} {mg:aT->Option ae} {x:aT} (X:K.In h) (G:h.Ns bf mg) (t:lm xs K h) (hx:x∈xs):uG K mg x:=by
 obtain⟨f,h1,h2,_⟩:=t x hx
 exact⟨f,mg_of X G h1,h2⟩
theorem lm.keeps {xs:List aT} {K:Frag} {h h':bT} (t:lm xs K h) (k:∀ b o,h.get? b=some o->h'.get? b=some o):lm xs K h':=λx hx=>by
 obtain⟨f,h1,h2,h3⟩:=t x hx
 exact⟨f,h1,h2,k _ _ h3⟩
theorem bz.okL {P:aO} {w:bD} {K:Frag} {mg:aT->Option ae} {base:bT} {x:aT} {st:cL} {N ps:List aT} {k:Nat} {sp:Sp} (D:bz K mg x st ps) (L:uG K mg x) (S:bG N ps (aC st)) (len:∀ vs H Q E,sp vs H Q E->vs.length=ps.length)
  (kW:∀ (f:ah) (dk:ae) (A:bp) (outer:List qA) (s:ai) (H:Hp) (vs:List V) (Q:VK) (E:XK),(Mod K mg base->qX (rj xH P w K mg base N x (aC st) f dk A outer s H E).wC (em K x))->eP k (A.deeper (lI x (aC st) s.heap.objs.size f dk))->sp vs H Q E ->
   ∃ t,(Mod K mg base->uY (rj xH P w K mg base N x (aC st) f dk A outer s H E).wC (fk st) t)/\t { nx:=λ_ H'=>Q .e8 H',rt:=Q } (start N vs) H):Dn P w K mg base x (k+1) ps sp:=by
 obtain⟨f,fd,F,hm,hb⟩:=D
 obtain⟨f',hm',hl⟩:=L
 rw[hm] at hm'
 cases hm'
 exact⟨f,fd,F.okL hl S len (kW f),hm,F.kp,hb⟩
end L2
namespace L2
open PySem PySem.Spec PyProof.Rows
abbrev iM (h:bT) (T:ah) (a b c:ae):Prop:=h.get? T=some { cls:=.type "tuple",data:=.seq #[a,b,c] }
def uR (c z TO i1 i2 i3:ah):Prop:=c≠z/\c≠TO/\c≠i1/\c≠i2/\c≠i3
structure UU (z TI TO i1 i2 i3 l1 l2 l3:ah):Prop where
 TOz:TO≠z
 i1z:i1≠z
 i2z:i2≠z
 Z5:i3≠z
 Zn:TO≠i1
 Zo:TO≠i2
 Zp:TO≠i3
 i12:i1≠i2
 i13:i1≠i3
 i23:i2≠i3
 TI:uR TI z TO i1 i2 i3
 l1:uR l1 z TO i1 i2 i3
 l2:uR l2 z TO i1 i2 i3
 l3:uR l3 z TO i1 i2 i3
section
variable {P:aO} {w:bD} {A:bp} {E:ae->ai->Prop} {s:ai}
theorem rN {T:ah} {a b c x:ae} {k:Nat} {Q:Unit->ai->Prop} (hT:iM s.heap T a b c)
  (h:∀ h',h'.get? T=some { cls:=.type "tuple",data:=.seq ((#[a,b,c]:Array ae).setIfInBounds k x) }->fR T s.heap h'->Q () { s with heap:=h' }) :
  wpAny (aS P w) A (kh T (·.setIfInBounds k x)) Q E s:=by
 refine jg hT rfl (h _ ?_ (fj ..))
 rw[eX _ hT rfl]
 simp[eO]
theorem I0 {z TI TO i1 i2 i3 l1 l2 l3:ah} {k:Nat} {xs ys zs:Array ae} {x y u a b c:ae} {Q:ae->ai->Prop} (D:UU z TI TO i1 i2 i3 l1 l2 l3)
  (hz:nZ s.heap z TI TO .none) (Sn:iM s.heap TI (.ref i1) (.ref i2) (.ref i3)) (hTO:iM s.heap TO a b c)
  (h1:s.heap.IsListIter i1 l1 k) (h2:s.heap.IsListIter i2 l2 k) (h3:s.heap.IsListIter i3 l3 k) (oJ:s.heap.IsList l1 xs) (qP:s.heap.IsList l2 ys) (SG:s.heap.IsList l3 zs) (hx:xs[k]?=some x) (hy:ys[k]?=some y) (hu:zs[k]?=some u)
  (hQ:∀ h',nZ h' z TI TO (gU s.heap.objs.size)->iM h' TO x y u->h'.IsListIter i1 l1 (k+1)->h'.IsListIter i2 l2 (k+1)->h'.IsListIter i3 l3 (k+1)->iM h' s.heap.objs.size x y u->h'.objs.size=s.heap.objs.size+1 ->
   (∀ c o,uR c z TO i1 i2 i3->s.heap.get? c=some o->h'.get? c=some o)->Q (.ref s.heap.objs.size) { s with heap:=h' }) :
  wpAny (aS P w) A (eF.«zip.__next__» ⟨[.ref z],[]⟩) (λfin s'=>∃ v,fin=.done (.ret v)/\Q v s') E s:=by
 show wpAny _ _ (field (.ref z) 2 >>= _) _ _ _
 refine aa (lf hz rfl (x:=.bool false) rfl ?_)
 show wpAny _ _ (field (.ref z) 3 >>= _) _ _ _
 refine aa (lf hz rfl (x:=.ref TI) rfl ?_)
 refine aa (jR Sn rfl ?_)
 show wpAny _ _ (eY (.ref z) >>= _) _ _ _
 refine aa ?_
 unfold eY
 refine aa (lf hz rfl (x:=.none) rfl (aq ?_))
 simp only [if_true]
 refine aa (tF ?_)
 refine aa (lf hz rfl (x:=.ref TO) rfl ?_)
 refine aa (dB hz (by simp) λg1 Tp s1=>?_)
 replace Tp:nZ g1 z TI TO .ellipsis:=Tp
 refine aa ?_
 simp only [Qt,RG,yu,U2]
 have c1:∀ c o,uR c z TO i1 i2 i3->s.heap.get? c=some o->g1.get? c=some o:=λc o cc e=>s1.extBut _ _ cc.1 e
 refine aa (aa (xy ?_))
 show wpAny _ _ (ik (.ref i1) >>= _) _ _ _
 refine aa (tE (h1.extBut s1.extBut D.i1z) (oJ.extBut s1.extBut D.l1.1) hx λg2 adu s2=>aq ?_)
 have to2:iM g2 TO a b c:=s2.extBut _ _ D.Zn (s1.extBut _ _ D.TOz hTO)
 refine aa (jR to2 rfl ?_)
 refine aa (rN to2 λg3 to3 s3=>?_)
 replace to3:iM g3 TO x b c:=to3
 refine aa (ib (aq ?_))
 have c3:∀ c o,uR c z TO i1 i2 i3->s.heap.get? c=some o->g3.get? c=some o:=λc o cc e=>s3.extBut _ _ cc.2.1 (s2.extBut _ _ cc.2.2.1 (c1 c o cc e))
 have ady:g3.IsListIter i2 l2 k:=((h2.extBut s1.extBut D.i2z).extBut s2.extBut D.i12.symm).extBut s3.extBut D.Zo.symm
 have adC:g3.IsListIter i3 l3 k:=((h3.extBut s1.extBut D.Z5).extBut s2.extBut D.i13.symm).extBut s3.extBut D.Zp.symm
 have adv:g3.IsListIter i1 l1 (k+1):=adu.extBut s3.extBut D.Zn.symm
 have z3:nZ g3 z TI TO .ellipsis:=s3.extBut _ _ D.TOz.symm (s2.extBut _ _ D.i1z.symm Tp)
 refine aa (aa (xy ?_))
 show wpAny _ _ (ik (.ref i2) >>= _) _ _ _
 refine aa (tE ady (qP.at λo e=>c3 _ o D.l2 e) hy λg4 adz s4=>aq ?_)
 have to4:iM g4 TO x b c:=s4.extBut _ _ D.Zo to3
 refine aa (jR to4 rfl ?_)
 refine aa (rN to4 λg5 to5 s5=>?_)
 replace to5:iM g5 TO x y c:=to5
 refine aa (ib (aq ?_))
 have c5:∀ c o,uR c z TO i1 i2 i3->s.heap.get? c=some o->g5.get? c=some o:=λc o cc e=>s5.extBut _ _ cc.2.1 (s4.extBut _ _ cc.2.2.2.1 (c3 c o cc e))
 have adD:g5.IsListIter i3 l3 k:=(adC.extBut s4.extBut D.i23.symm).extBut s5.extBut D.Zp.symm
 have adw:g5.IsListIter i1 l1 (k+1):=(adv.extBut s4.extBut D.i12).extBut s5.extBut D.Zn.symm
 have adA:g5.IsListIter i2 l2 (k+1):=adz.extBut s5.extBut D.Zo.symm
 have z5:nZ g5 z TI TO .ellipsis:=s5.extBut _ _ D.TOz.symm (s4.extBut _ _ D.i2z.symm z3)
 refine aa (aa (xy ?_))
 show wpAny _ _ (ik (.ref i3) >>= _) _ _ _
 refine aa (tE adD (SG.at λo e=>c5 _ o D.l3 e) hu λg6 adE s6=>aq ?_)
 have to6:iM g6 TO x y c:=s6.extBut _ _ D.Zp to5
 refine aa (jR to6 rfl ?_)
 refine aa (rN to6 λg7 to7 s7=>?_)
 replace to7:iM g7 TO x y u:=to7
 refine aa (ib (aq (aq ?_)))
 have c7:∀ c o,uR c z TO i1 i2 i3->s.heap.get? c=some o->g7.get? c=some o:=λc o cc e=>s7.extBut _ _ cc.2.1 (s6.extBut _ _ cc.2.2.2.2 (c5 c o cc e))
 have adx:g7.IsListIter i1 l1 (k+1):=(adw.extBut s6.extBut D.i13).extBut s7.extBut D.Zn.symm
 have adB:g7.IsListIter i2 l2 (k+1):=(adA.extBut s6.extBut D.i23).extBut s7.extBut D.Zo.symm
 have adF:g7.IsListIter i3 l3 (k+1):=adE.extBut s7.extBut D.Zp.symm
 have z7:nZ g7 z TI TO .ellipsis:=s7.extBut _ _ D.TOz.symm (s6.extBut _ _ D.Z5.symm z5)
 refine aa (jR to7 rfl ?_)
 refine aa (wpAny_newTuple ?_)
 have hsz:g7.objs.size=s.heap.objs.size:=by rw[s7.1,s6.1,s5.1,s4.1,s3.1,s2.1,s1.1]
 have Xu:z<g7.objs.size:=aD z7
 show wpAny _ _ (nF (.ref z) (.ref g7.objs.size) >>= _) _ _ _
 refine aa ?_
 unfold nF
 have z8:nZ (g7.push { cls:=.type "tuple",data:=.seq #[x,y,u] }) z TI TO .ellipsis:=al _ z7
 refine aa (dB z8 (by simp) λg9 z9 s9=>?_)
 replace z9:nZ g9 z TI TO (gU g7.objs.size):=z9
 refine dB z9 (by simp) λV9 z10 s10=>?_
 replace z10:nZ V9 z TI TO (gU g7.objs.size):=z10
 have up:∀ c o,c≠z->g7.get? c=some o->V9.get? c=some o:=λc o c1 e=>s10.extBut _ _ c1 (s9.extBut _ _ c1 (al _ e))
 have t10:iM V9 g7.objs.size x y u:=s10.extBut _ _ (bY Xu) (s9.extBut _ _ (bY Xu) (aF _ rfl))
 have YG:V9.objs.size=g7.objs.size+1:=by rw[s10.1,s9.1,dW]
 rw[hsz] at z10 t10 YG
 refine aq ⟨_,rfl,?_⟩
 show Q (.ref g7.objs.size) _
 rw[hsz]
 exact hQ V9 z10 (up _ _ D.TOz to7) (adx.at λo e=>up _ o D.i1z e) (adB.at λo e=>up _ o D.i2z e) (adF.at λo e=>up _ o D.Z5 e) t10 YG λc o cc e=>up c o cc.1 (c7 c o cc e)
theorem IZ {z TI TO i1 i2 i3 l1 l2 l3:ah} {k:Nat} {xs ys zs:Array ae} {x y u a b c:ae} {Q:Option ae->ai->Prop} (D:UU z TI TO i1 i2 i3 l1 l2 l3)
  (hz:nZ s.heap z TI TO .none) (Sn:iM s.heap TI (.ref i1) (.ref i2) (.ref i3)) (hTO:iM s.heap TO a b c)
  (h1:s.heap.IsListIter i1 l1 k) (h2:s.heap.IsListIter i2 l2 k) (h3:s.heap.IsListIter i3 l3 k) (oJ:s.heap.IsList l1 xs) (qP:s.heap.IsList l2 ys) (SG:s.heap.IsList l3 zs) (hx:xs[k]?=some x) (hy:ys[k]?=some y) (hu:zs[k]?=some u)
  (hQ:∀ h',nZ h' z TI TO (gU s.heap.objs.size)->iM h' TO x y u->h'.IsListIter i1 l1 (k+1)->h'.IsListIter i2 l2 (k+1)->h'.IsListIter i3 l3 (k+1)->iM h' s.heap.objs.size x y u->h'.objs.size=s.heap.objs.size+1 ->
   (∀ c o,uR c z TO i1 i2 i3->s.heap.get? c=some o->h'.get? c=some o)->Q (some (.ref s.heap.objs.size)) { s with heap:=h' }) :
  wpAny (aS P w) A (jQ (.ref z)) Q E s:=by
 have hT:s.TypeIs (.ref z) "zip" := ⟨_,hz,rfl⟩
 unfold jQ
 exact aa (kI (fV (name:=nc "__next__") hT rQ
  (fA rQ hT VA
   (I0 D hz Sn hTO h1 h2 h3 oJ qP SG hx hy hu λh' a1 a2 a3 a4 a5 a6 a7 a8=>aq (hQ h' a1 a2 a3 a4 a5 a6 a7 a8)) (UY _))))
theorem Ja {z TI TO i1 i2 i3 l1 l2 l3:ah} {k:Nat} {xs:Array ae} {Q:Fin->ai->Prop} (hh:A.handled=none) (D:UU z TI TO i1 i2 i3 l1 l2 l3)
  (hz:nZ s.heap z TI TO .none) (Sn:iM s.heap TI (.ref i1) (.ref i2) (.ref i3)) (h1:s.heap.IsListIter i1 l1 k) (oJ:s.heap.IsList l1 xs) (hx:xs[k]?=none)
  (hE:∀ h' e,(∀ c o,uR c z TO i1 i2 i3->s.heap.get? c=some o->h'.get? c=some o)->(∃ o,h'.get? e=some o/\o.cls=.type "StopIteration")->E (.ref e) { s with heap:=h' }) :
  wpAny (aS P w) A (eF.«zip.__next__» ⟨[.ref z],[]⟩) Q E s:=by
 show wpAny _ _ (field (.ref z) 2 >>= _) _ _ _
 refine aa (lf hz rfl (x:=.bool false) rfl ?_)
 show wpAny _ _ (field (.ref z) 3 >>= _) _ _ _
 refine aa (lf hz rfl (x:=.ref TI) rfl ?_)
 refine aa (jR Sn rfl ?_)
 show wpAny _ _ (eY (.ref z) >>= _) _ _ _
 refine aa ?_
 unfold eY
 refine aa (lf hz rfl (x:=.none) rfl (aq ?_))
 simp only [if_true]
 refine aa (tF ?_)
 refine aa (lf hz rfl (x:=.ref TO) rfl ?_)
 refine aa (dB hz (by simp) λg1 Tp s1=>?_)
 replace Tp:nZ g1 z TI TO .ellipsis:=Tp
 refine aa ?_
 simp only [Qt,RG,yu,U2]
 refine aa (aa (xy ?_))
 show wpAny _ _ (ik (.ref i1) >>= _) _ _ _
 refine aa (wpAny_nextOf_list_end hh (h1.extBut s1.extBut D.i1z) (oJ.extBut s1.extBut D.l1.1) hx λg2 e s2 he=>?_)
 obtain⟨oe,hoe,hce⟩:=he
 have z2:nZ g2 z TI TO .ellipsis:=s2 _ _ D.i1z.symm Tp
 have hez:e≠z:=λx=>by subst x;rw[z2] at hoe;cases hoe;simp at hce
 refine dB z2 (by simp) λg3 _ s3=>hE g3 e (λc o cc x=>s3.extBut _ _ cc.1 (s2 _ _ cc.2.2.1 (s1.extBut _ _ cc.1 x))) ⟨oe,s3.extBut _ _ hez hoe,hce⟩
theorem M3 {z TI TO i1 i2 i3 l1 l2 l3:ah} {k:Nat} {xs:Array ae} {Q:Option ae->ai->Prop} (hh:A.handled=none) (D:UU z TI TO i1 i2 i3 l1 l2 l3)
  (hz:nZ s.heap z TI TO .none) (Sn:iM s.heap TI (.ref i1) (.ref i2) (.ref i3)) (h1:s.heap.IsListIter i1 l1 k) (oJ:s.heap.IsList l1 xs) (hx:xs[k]?=none)
  (hQ:∀ h',(∀ c o,uR c z TO i1 i2 i3->s.heap.get? c=some o->h'.get? c=some o)->Q none { s with heap:=h' }):wpAny (aS P w) A (jQ (.ref z)) Q E s:=by
 have hT:s.TypeIs (.ref z) "zip" := ⟨_,hz,rfl⟩
 unfold jQ
 refine aa (kI (fV (name:=nc "__next__") hT rQ
  (fA rQ hT VA (Ja hh D hz Sn h1 oJ hx λh' e hk he=>?_) (UY _))))
 obtain⟨o,ho,hc⟩:=he
 refine aa (rO (T := "StopIteration") (b:=true) ⟨o,ho,hc⟩ Mz ?_)
 exact aq (hQ _ hk)
end
theorem yo (a b c:ae):checkTypeCall "zip" ⟨[a,b,c],[]⟩=pure ():=by kernel_rfl
theorem AI (a b c:ae):rh "zip.__new__" ⟨[.type "zip",a,b,c],[]⟩=pure ():=by kernel_rfl
theorem Ce (a b c d:ae):NZ "object.__init__" ⟨[a,b,c,d],[]⟩:=by
 unfold NZ;rw[Mj (id := "object.__init__") (n:=['_','_','t','i','n','i','_','_']) (o:=['t','c','e','j','b','o']) (by kernel_rfl) F.owner_object];kernel_rfl
abbrev MY (h:bT) (l1:ah):bT:=h.push { cls:=.type "list_iterator",data:=.fields #[.ref l1,.int 0 0] }
abbrev MZ (h:bT) (l1 l2:ah):bT:=(MY h l1).push { cls:=.type "list_iterator",data:=.fields #[.ref l2,.int 0 0] }
abbrev M0 (h:bT) (l1 l2 l3:ah):bT:=(MZ h l1 l2).push { cls:=.type "list_iterator",data:=.fields #[.ref l3,.int 0 0] }
abbrev M1 (h:bT) (l1 l2 l3:ah):bT:=(M0 h l1 l2 l3).push { cls:=.type "tuple",data:=.seq #[.ref h.objs.size,.ref (MY h l1).objs.size,.ref (MZ h l1 l2).objs.size] }
abbrev M2 (h:bT) (l1 l2 l3:ah):bT:=(M1 h l1 l2 l3).push { cls:=.type "tuple",data:=.seq #[.none,.none,.none] }
abbrev tG (h:bT) (l1 l2 l3:ah):bT:=(M2 h l1 l2 l3).push { cls:=.type "zip",data:=.fields #[.none,.bool false,.bool false,.ref (M0 h l1 l2 l3).objs.size,.ref (M1 h l1 l2 l3).objs.size] }
theorem Er (l1 l2 l3:ah) (xs ys zs:Array ae) :
  Meets (eF.«zip.__new__» ⟨[.type "zip",.ref l1,.ref l2,.ref l3],[]⟩) (λ_ R s=>s.heap.IsList l1 xs/\s.heap.IsList l2 ys/\s.heap.IsList l3 zs /\
   R (.ok (.ret (.ref (M2 s.heap l1 l2 l3).objs.size))) { s with heap:=tG s.heap l1 l2 l3 }) :=
 .of_wp λprog w A R s h=>by
  obtain⟨hp,g,d,tk,os⟩:=s;obtain⟨oJ,qP,SG,h⟩:=h
  have sv:=a0F
  have hL1:Je (Fp ⟨hp,g,d,tk,os⟩) l1 xs:=oJ
  have hL2:Je (Fp ⟨hp.push { cls:=.type "list_iterator",data:=.fields #[.ref l1,.int 0 0] },g,d,tk,os⟩) l2 ys:=r0 qP _
  have hL3:Je (Fp ⟨(hp.push { cls:=.type "list_iterator",data:=.fields #[.ref l1,.int 0 0] }).push { cls:=.type "list_iterator",data:=.fields #[.ref l2,.int 0 0] },g,d,tk,os⟩) l3 zs:=r0 (r0 SG _) _
  wp_walk using fX hL1,fX hL2,fX hL3
  exact⟨_,rfl,h⟩
section
variable {P:aO} {w:bD} {A:bp} {E:ae->ai->Prop} {s:ai}
theorem Ho {l1 l2 l3:ah} {xs ys zs:Array ae} {Q:ae->ai->Prop} (oJ:s.heap.IsList l1 xs) (qP:s.heap.IsList l2 ys) (SG:s.heap.IsList l3 zs)
  (h:∀ h',nZ h' (s.heap.objs.size+5) (s.heap.objs.size+3) (s.heap.objs.size+4) .none->iM h' (s.heap.objs.size+3) (.ref s.heap.objs.size) (.ref (s.heap.objs.size+1)) (.ref (s.heap.objs.size+2)) ->
   iM h' (s.heap.objs.size+4) .none .none .none->h'.IsListIter s.heap.objs.size l1 0->h'.IsListIter (s.heap.objs.size+1) l2 0->h'.IsListIter (s.heap.objs.size+2) l3 0->h'.objs.size=s.heap.objs.size+6 ->
   (∀ c o,s.heap.get? c=some o->h'.get? c=some o)->Q (.ref (s.heap.objs.size+5)) { s with heap:=h' }) :
  wpAny (aS P w) A (qH (.type "zip") [.ref l1,.ref l2,.ref l3]) Q E s:=by
 refine callType_new F.called_zip (by decide) (yo _ _ _) (AI _ _ _) (λobj=>Ce obj _ _ _) F.entry_zip_new
  (Er l1 l2 l3 xs ys zs) ⟨oJ,qP,SG,?_⟩
 have z1:(MY s.heap l1).objs.size=s.heap.objs.size+1:=dW ..
 have z2:(MZ s.heap l1 l2).objs.size=s.heap.objs.size+2:=by rw[dW,z1]
 have z3:(M0 s.heap l1 l2 l3).objs.size=s.heap.objs.size+3:=by rw[dW,z2]
 have z4:(M1 s.heap l1 l2 l3).objs.size=s.heap.objs.size+4:=by rw[dW,z3]
 have z5:(M2 s.heap l1 l2 l3).objs.size=s.heap.objs.size+5:=by rw[dW,z4]
 have z6:(tG s.heap l1 l2 l3).objs.size=s.heap.objs.size+6:=by rw[dW,z5]
 have p6:∀ c o,(M2 s.heap l1 l2 l3).get? c=some o->(tG s.heap l1 l2 l3).get? c=some o:=λc o e=>al _ e
 have p5:∀ c o,(M1 s.heap l1 l2 l3).get? c=some o->(tG s.heap l1 l2 l3).get? c=some o:=λc o e=>p6 _ _ (al _ e)
 have p4:∀ c o,(M0 s.heap l1 l2 l3).get? c=some o->(tG s.heap l1 l2 l3).get? c=some o:=λc o e=>p5 _ _ (al _ e)
 have p3:∀ c o,(MZ s.heap l1 l2).get? c=some o->(tG s.heap l1 l2 l3).get? c=some o:=λc o e=>p4 _ _ (al _ e)
 have p2:∀ c o,(MY s.heap l1).get? c=some o->(tG s.heap l1 l2 l3).get? c=some o:=λc o e=>p3 _ _ (al _ e)
 have p1:∀ c o,s.heap.get? c=some o->(tG s.heap l1 l2 l3).get? c=some o:=λc o e=>p2 _ _ (al _ e)
 have g6:(tG s.heap l1 l2 l3).get? (M2 s.heap l1 l2 l3).objs.size=some _:=aF _ rfl
 have g5:(tG s.heap l1 l2 l3).get? (M1 s.heap l1 l2 l3).objs.size=some _:=p6 _ _ (aF _ rfl)
 have g4:(tG s.heap l1 l2 l3).get? (M0 s.heap l1 l2 l3).objs.size=some _:=p5 _ _ (aF _ rfl)
 have g3:(tG s.heap l1 l2 l3).get? (MZ s.heap l1 l2).objs.size=some _:=p4 _ _ (aF _ rfl)
 have g2:(tG s.heap l1 l2 l3).get? (MY s.heap l1).objs.size=some _:=p3 _ _ (aF _ rfl)
 have g1:(tG s.heap l1 l2 l3).get? s.heap.objs.size=some _:=p2 _ _ (aF _ rfl)
 show _/\_
 rw[z3,z4,z5] at g6
 rw[z4] at g5
 rw[z1,z2,z3] at g4
 rw[z2] at g3
 rw[z1] at g2
 rw[z5]
 exact⟨⟨_,g6,rfl⟩,h _ g6 g4 g5 ⟨_,g1,rfl,rfl⟩ ⟨_,g2,rfl,rfl⟩ ⟨_,g3,rfl,rfl⟩ z6 p1⟩
end
def JL (K:ak) (a b d:ah):It :=
 ⟨λi H=>∃ xs ys zs x y u,bI K H a xs/\bI K H b ys/\bI K H d zs/\xs[i]?=some x/\ys[i]?=some y/\zs[i]?=some u,
  λi H v H'=>∃ T x y u,v=.ref T/\H T=none/\(∀ xs,bI K H a xs->xs[i]?=some x)/\(∀ ys,bI K H b ys->ys[i]?=some y)/\(∀ zs,bI K H d zs->zs[i]?=some u)/\H'=upd H T (.tup [x,y,u]),
  λi H=>∃ xs,bI K H a xs/\xs.length<=i⟩
structure RT (a b d z TI TO i1 i2 i3:ah) (i:Nat) (h:bT):Prop where
 zz:nZ h z TI TO .none
 ti:iM h TI (.ref i1) (.ref i2) (.ref i3)
 to:∃ p q r,iM h TO p q r
 s1:h.IsListIter i1 a i
 s2:h.IsListIter i2 b i
 s3:h.IsListIter i3 d i
theorem IT {P:aO} {w:bD} {K:ak} {elts:List bR} {k:Nat} {pos:gR} (a b d z TI TO i1 i2 i3:ah) (ap:UU z TI TO i1 i2 i3 a b d):Turn P w K (.Tuple elts k pos) (JL K a b d) [z,TI,TO,i1,i2,i3] z (RT a b d z TI TO i1 i2 i3) where
 mem:=by simp
 obj:=λi h st c hc=>by
  obtain⟨zz,ti,⟨p,q,r,to⟩,⟨o1,e1,c1,d1⟩,⟨o2,e2,c2,d2⟩,⟨o3,e3,c3,d3⟩⟩:=st
  simp only [aE,dC,or_false] at hc
  rcases hc with rfl | rfl | rfl | rfl | rfl | rfl
  ·exact⟨_,zz,λv z=>by cases z⟩
  ·exact⟨_,ti,λv z=>by cases z⟩
  ·exact⟨_,to,λv z=>by cases z⟩
  ·exact⟨o1,e1,λv z=>by rw[d1] at z;cases z⟩
  ·exact⟨o2,e2,λv z=>by rw[d2] at z;cases z⟩
  ·exact⟨o3,e3,λv z=>by rw[d3] at z;cases z⟩
 keep:=λi h h' st k=>by
  obtain⟨zz,ti,⟨p,q,r,to⟩,s1,s2,s3⟩:=st
  exact⟨k z (by simp) _ zz,k TI (by simp) _ ti,⟨p,q,r,k TO (by simp) _ to⟩,s1.at λo q=>k i1 (by simp) o q,s2.at λo q=>k i2 (by simp) o q,s3.at λo q=>k i3 (by simp) o q⟩
 item:=by
  intro X hP hw hK hc i pins s σ H E I hf st hg
  subst hP hw hK
  obtain⟨xs,ys,zs,x,y,u,hq,KL,ZQ,hx,hy,hu⟩:=hg
  obtain⟨cH,rv,p,hz⟩:=I.list hq
  obtain⟨l6,II,p2,Ib⟩:=I.list KL
  obtain⟨adH,Um,p3,hz3⟩:=I.list ZQ
  obtain⟨u1,Xf,ru1⟩:=rv.get hx
  obtain⟨u2,CC,Ul⟩:=II.get hy
  obtain⟨u3,hu3,ru3⟩:=Um.get hu
  obtain⟨zz,ti,⟨pp,qq,rr,to⟩,s1,s2,s3⟩:=st
  have lz:z<s.heap.objs.size:=aD zz
  refine IZ ap zz ti to s1 s2 s3 p.isList p2.isList p3.isList (x:=u1) (y:=u2) (u:=u3) (by simpa using Xf) (by simpa using CC) (by simpa using hu3) λh' zo to' Vp s2' s3' ht hsz kp=>?_
  refine⟨_,rfl,Jy zo λh2 zz2 sb=>?_⟩
  have I1:Inv X pins σ H { s with heap:=h2 }:=I.qu (t':=s.toks) (ch:=[z,TI,TO,i1,i2,i3]) hf λc o hc q=>by
   simp only [aE,dC,or_false,not_or] at hc
   exact (sb.2 c hc.1).trans (kp c o ⟨hc.1,hc.2.2.1,hc.2.2.2.1,hc.2.2.2.2.1,hc.2.2.2.2.2⟩ q)
  have hT:h2.get? s.heap.objs.size=some { cls:=.type "tuple",data:=.seq #[u1,u2,u3] }:=(sb.2 _ (bY lz)).trans ht
  have QI:H s.heap.objs.size=none:=I.cU.fresh (aA _)
  have I2:=I1.adopt (o:=.tup [x,y,u]) (I.vg (aA _) QI) ⟨(by show 3<=aL;decide),[u1,u2,u3],.cons ru1 (.cons Ul (.cons ru3 .nil)),⟨_,hT,rfl,_,rfl⟩⟩
  have hti:iM h2 TI (.ref i1) (.ref i2) (.ref i3):=(sb.2 TI ap.TI.1).trans (kp TI _ ap.TI ti)
  refine⟨.ref s.heap.objs.size,_,I2,rfl,⟨_,x,y,u,rfl,QI,(λzs OE=>by rw[I.l7 OE hq];exact hx),(λzs OE=>by rw[I.l7 OE KL];exact hy),(λzs OE=>by rw[I.l7 OE ZQ];exact hu),rfl⟩,
   ⟨zz2,hti,⟨u1,u2,u3,(sb.2 TO ap.TOz).trans to'⟩,Vp.at λo q=>(sb.2 i1 ap.i1z).trans q,s2'.at λo q=>(sb.2 i2 ap.i2z).trans q,s3'.at λo q=>(sb.2 i3 ap.Z5).trans q⟩,λc hc=>?_⟩
  rw[bB (λe=>?_)]
  ·exact (hf c hc).1
  ·subst e
   obtain⟨o1,e1,_⟩:=s1
   obtain⟨o2,e2,_⟩:=s2
   obtain⟨o3,e3,_⟩:=s3
   simp only [aE,dC,or_false] at hc
   rcases hc with h | h | h | h | h | h
   ·exact absurd h (bY lz)
   ·exact absurd h (bY (aD ti))
   ·exact absurd h (bY (aD to))
   ·exact absurd h (bY (aD e1))
   ·exact absurd h (bY (aD e2))
   ·exact absurd h (bY (aD e3))
 done:=by
  intro X hP hw hK hc i pins s σ H E I hf st hg
  subst hP hw hK
  obtain⟨xs,hq,hx⟩:=hg
  obtain⟨cH,rv,p,hz⟩:=I.list hq
  have hl:=rv.length
  obtain⟨zz,ti,⟨pp,qq,rr,to⟩,s1,s2,s3⟩:=st
  refine M3 (I.ok.hd hc) ap zz ti s1 p.isList ?_ λh' kp=>⟨rfl,?_⟩
  ·simp;(clear hc hf hz;omega)
  ·exact I.qu (t':=s.toks) (ch:=[z,TI,TO,i1,i2,i3]) hf λc o hc q=>by
    simp only [aE,dC,or_false,not_or] at hc
    exact kp c o ⟨hc.1,hc.2.2.1,hc.2.2.2.1,hc.2.2.2.2.1,hc.2.2.2.2.2⟩ q
 self:=λ_ _ _ _ _ st h=>rP st.zz h
theorem Qd (n a b d:Nat) (la:a<n) (lb:b<n) (ld:d<n):UU (n+5) (n+3) (n+4) n (n+1) (n+2) a b d:=by
 have ne:∀ p q:Nat,p<q\/q<p->(p:ah)≠q:=λp q h e=>by have e:p=q:=e;omega
 constructor
 case TI=>exact⟨ne _ _ (by omega),ne _ _ (by omega),ne _ _ (by omega),ne _ _ (by omega),ne _ _ (by omega)⟩
 case l1=>exact⟨ne _ _ (by omega),ne _ _ (by omega),ne _ _ (by omega),ne _ _ (by omega),ne _ _ (by omega)⟩
 case l2=>exact⟨ne _ _ (by omega),ne _ _ (by omega),ne _ _ (by omega),ne _ _ (by omega),ne _ _ (by omega)⟩
 case l3=>exact⟨ne _ _ (by omega),ne _ _ (by omega),ne _ _ (by omega),ne _ _ (by omega),ne _ _ (by omega)⟩
 all_goals exact ne _ _ (by omega)
def Xx (K:ak) (ta:TA):TI:=λσ H R=>ta σ H λvs H1=>∃ a b d,vs=[.ref a,.ref b,.ref d]/\(∃ xs,bI K H1 a xs)/\(∃ ys,bI K H1 b ys)/\(∃ zs,bI K H1 d zs)/\R (JL K a b d) H1
theorem Pg {X:Cx} {K:ak} {elts:List bR} {k:Nat} {rM:gR} {l l2 l3:bR} {ta:TA} {p pos:gR} (hK:X.K=K) (hg:Gl X "zip") (hm:X.mg "zip" = none) (ha:PA X [l,l2,l3] ta) (hs:aV [l,l2,l3] X.env=(false,dU l X.env)::aV [l2,l3] X.env:=by rfl)
  (Vi:(d9 pos (aV [l2,l3] X.env)).any (·.1)=false:=by rfl) :
  PI X (.Tuple elts k rM) (.Call (.Name "zip" p) [l,l2,l3] [] pos) (Xx K ta):=by
 subst hK
 intro pins s σ H R I h
 refine Ru (lq I hg hm xM (dy (fq (ha pos pins s σ H _ I h) λus s1 c6=>?_) hs Vi))
 obtain⟨vs,H1,I1,r1,q1⟩:=c6
 obtain⟨a,b,d,rfl,⟨xs,hq⟩,⟨ys,KL⟩,⟨zs,ZQ⟩,q⟩:=q1
 cases r1 with
 | cons ra rr =>
  cases ra
  cases rr with
  | cons rb rr =>
   cases rb
   obtain⟨u,rfl,ru⟩:=a0h rr
   cases ru
   obtain⟨cH,rv,p,hz⟩:=I1.list hq
   obtain⟨l6,II,p2,Ib⟩:=I1.list KL
   obtain⟨adH,Um,p3,hz3⟩:=I1.list ZQ
   have la:a<s1.heap.objs.size:=by obtain⟨o,e,_⟩:=p.isList;exact aD e
   have lb:b<s1.heap.objs.size:=by obtain⟨o,e,_⟩:=p2.isList;exact aD e
   have ld:d<s1.heap.objs.size:=by obtain⟨o,e,_⟩:=p3.isList;exact aD e
   refine Ho p.isList p2.isList p3.isList λh' zz ti to i1 i2 i3 hsz kp=>?_
   refine rP zz ?_
   refine⟨s1.heap.objs.size+5,[s1.heap.objs.size+5,s1.heap.objs.size+3,s1.heap.objs.size+4,s1.heap.objs.size,s1.heap.objs.size+1,s1.heap.objs.size+2],_,_,H1,rfl,I1.kept (t':=s1.toks) kp,IT a b d _ _ _ _ _ _ (Qd _ a b d la lb ld),⟨zz,ti,⟨_,_,_,to⟩,i1,i2,i3⟩,λc hc=>?_,q⟩
   have Kq:s1.heap.objs.size<=c:=by
    simp only [aE,dC,or_false] at hc
    rcases hc with rfl | rfl | rfl | rfl | rfl | rfl
    ·exact d4 _ _
    ·exact d4 _ _
    ·exact d4 _ _
    ·exact aA _
    ·exact d4 _ _
    ·exact d4 _ _
   exact I1.vg Kq (I1.cU.fresh Kq)
theorem Kf {K:ak} {a b d:ah} {xs ys zs:List V} {g:TG} {tb:TS} {D:Ends} {σ:St} {H:Hp} (hlen:xs.length=ys.length) (Cz:xs.length=zs.length) (Pv:Nat->St->Hp->Prop) (h0:Pv 0 σ H) (hl:∀ i σ H,i<=xs.length->Pv i σ H->bI K H a xs/\bI K H b ys/\bI K H d zs)
  (hs:∀ i x y z σ H T,xs[i]?=some x->ys[i]?=some y->zs[i]?=some z->Pv i σ H->H T=none->g (.ref T) σ (upd H T (.tup [x,y,z])) λσ2 H2=>tb { D with nx:=Pv (i+1),ct:=Pv (i+1),bk:=D.nx } σ2 H2) (hd:∀ σ H,Pv xs.length σ H->D.nx σ H) :
  ∃ W:Nat->Nat->St->Hp->Prop,(∃ m,W 0 m σ H)/\∀ i m σ H,W i m σ H ->
   ((JL K a b d).stop i H/\D.nx σ H)\/((JL K a b d).go i H/\∃ N:St->Hp->Prop,(∀ σ' H',N σ' H'->∃ m',m'<m/\W (i+1) m' σ' H')/\∀ x H',(JL K a b d).Dv i H x H'->g x σ H' λσ2 H2=>tb { D with nx:=N,ct:=N,bk:=D.nx } σ2 H2):=by
 refine⟨λi m σ H=>m=xs.length-i/\i<=xs.length/\Pv i σ H,⟨xs.length,by simp,bE _,h0⟩,?_⟩
 rintro i m σ H ⟨rfl,hi,p⟩
 obtain⟨q,q2,q3⟩:=hl i σ H hi p
 by_cases ji:i<xs.length
 ·refine .inr ⟨⟨xs,ys,zs,xs[i],ys[i]'(by omega),zs[i]'(by omega),q,q2,q3,by simp[ji],by simp,by simp⟩,Pv (i+1),λσ' H' p'=>⟨xs.length-(i+1),by (clear hlen Cz hl hs hd hi;omega),rfl,ji,p'⟩,λx H' y=>?_⟩
  obtain⟨T,u,v,t,rfl,hT,e1,e2,e3,rfl⟩:=y
  exact hs i u v t σ _ T (e1 xs q) (e2 ys q2) (e3 zs q3) p hT
 ·have e:i=xs.length:=by (clear hlen Cz hl hs hd;omega)
  subst e
  exact .inl ⟨⟨xs,q,aA _⟩,hd σ H p⟩
theorem EG {X:Cx} {K:ak} {o value:bR} {f:aT} {rM pos:gR} {ta tv:TE} {op:Aa} {rd:V->V->Hp->VK->Prop} (hK:X.K=K) (ha:PE X o ta) (hv:PE X value tv) (hop:VD X op rd):PS X (.AugAssign (.Attribute o f rM) op value pos) (Gr K ta tv rd f):=by
 subst hK;exact ID ha hv hop
theorem a0z {M:tH} {A:bp} {E:ae->ai->Prop} {s:ai} {Q:ae->ai->Prop} {v:ae} {b:Bool} (hv:v=.none\/∃ c,v=.bool c) (h:Q (.bool (v == .bool b)) s):wpAny M A (dz .Is v (.bool b)) Q E s:=by
 rcases hv with rfl | ⟨c,rfl⟩
 ·exact aa (aq (aq h))
 ·exact aa (aq (aq h))
def aeq (ta:TE) (b:Bool):TE:=λσ H Q=>ta σ H λx H1=>(x=.e8\/∃ c,x=.bl c)/\Q (.bl (decide (x=.bl b))) H1
section
variable {X:Cx} {a:bR} {ta:TE}
theorem AR {b:Bool} {j pos'} (ha:PE X a ta):PC X .Is a (.Constant (.bool b) j pos') (aeq ta b):=by
 intro pins s σ H Q I h
 refine fq (ha pins s σ H _ I h) λv s1 c6=>?_
 obtain⟨x,H1,I1,r1,hx,q1⟩:=c6
 rcases hx with rfl | ⟨c,rfl⟩
 ·cases r1
  exact JI (a0z (.inl rfl) ⟨.bl _,H1,I1,rfl,q1⟩)
 ·cases r1
  refine JI (a0z (.inr ⟨c,rfl⟩) ⟨.bl _,H1,I1,?_,q1⟩)
  cases b <;> cases c <;> rfl
theorem LO {e:bR} {t u:TE} (h1:PE X e t) (h2:PE X e u):PE X e (λσ H Q=>t σ H Q\/u σ H Q):=λpins s σ H Q I h=>h.elim (h1 pins s σ H Q I) (h2 pins s σ H Q I)
theorem Ug {e:bR} {t u:TT} (h1:PT X e t) (h2:PT X e u):PT X e (λσ H Q=>t σ H Q\/u σ H Q):=λpins s σ H Q I h=>h.elim (h1 pins s σ H Q I) (h2 pins s σ H Q I)
theorem Gb {e:bR} {t u:XK->TE} (h1:U3 X e t) (h2:U3 X e u):U3 X e (λE σ H Q=>t E σ H Q\/u E σ H Q):=λpins s σ H Q E I h=>h.elim (h1 pins s σ H Q E I) (h2 pins s σ H Q E I)
end
section
variable {X:Cx} {E:XK} {C:ah} {m:aT} {n k:Nat} {ps:List aT} {sp:Sp} {o:bR} {ta:TE} {apos pos:gR} {pl:RP Bool}
theorem C7 (hx:a0f (GY X.prog X.w) X E) (cl:BC X.K C) (D:pi X.prog X.w X.K X.mg X.base C m n ps sp) (hr:eP k X.A) (he:PE X o ta) (hk:n<=k:=by decide)
  (ht:dU (.Call (.Attribute o m apos) [] [] pos) X.env=(do
   let ov ← dU o X.env
   oF apos.atName
   let (f,first) ← gK [ov] (mG ov m pl)
   u9 pos f first (d9 pos (aV [] X.env)) (gF pos (d5 [] X.env))):=by rfl) :
  PE X (.Call (.Attribute o m apos) [] [] pos) (sZ C m sp [] E ta vn):=by
 obtain⟨f,fd,F,hm,hb⟩:=D.ex
 exact LN he cl hm F (hr.mono hk) hb .nil hx ht
theorem C9 (cl:BC X.K C) (D:pi X.prog X.w X.K X.mg X.base C m n ps sp) (hr:eP k X.A) (he:PE X.wC o ta) (hk:n<=k:=by decide)
  (ht:dU (.Call (.Attribute o m apos) [] [] pos) X.env=(do
   let ov ← dU o X.env
   oF apos.atName
   let (f,first) ← gK [ov] (mG ov m pl)
   u9 pos f first (d9 pos (aV [] X.env)) (gF pos (d5 [] X.env))):=by rfl) :
  U3 X (.Call (.Attribute o m apos) [] [] pos) (λE σ H Q=>ta σ H λx H1=>∃ a dx fs,x=.ref a/\H1 a=some (.ins C dx fs)/\fs.lookup m=none/\sp [x] H1 Q E):=by
 intro pins s σ H Q E I h
 obtain⟨f,fd,F,hm,hb⟩:=D.ex
 refine kN (pl:=pl) (cf (he pins s σ H _ (I.qK _) h) (λu s1 c6=>?_) λ_ _ z=>dR z) ht
 obtain⟨x,H1,J1,rx,a,dx,fs,ex,ea,l,q⟩:=c6
 have I1:Inv X pins σ H1 s1:=J1.lu
 subst ex
 obtain rfl:u=bA a:=rx
 refine oo I1 ea cl hm l ?_
 exact Fl (first:=[.ref a]) I1.qQ hm.kp (Go (us:=[.ref a]) (vs:=[.ref a]) F (hr.mono hk) hb I1 (λ_ _ z=>⟨H1,s1,I1,z⟩) (.cons rfl .nil) q)
end
end L2
namespace Law
open PySem L2
def top (i:Nat):cL:=bq.main.body.getD i (.Pass ⟨0,0,0,0⟩)
abbrev mw:cL:=top 17
abbrev mv:cL:=top 18
abbrev lQ:cL:=top 19
abbrev jv:cL:=top 21
abbrev kd:cL:=top 22
abbrev gO:cL:=top 23
abbrev kc:cL:=top 24
abbrev jN:cL:=top 25
abbrev jO:cL:=top 26
abbrev j8:cL:=top 27
abbrev k7:cL:=top 30
abbrev pZ:cL:=top 31
abbrev nY:cL:=top 33
abbrev j9:cL:=top 34
abbrev nX:cL:=top 35
abbrev iC:cL:=top 36
abbrev i6:cL:=top 37
abbrev j6:cL:=top 39
abbrev gc:cL:=top 41
abbrev k8:cL:=top 42
abbrev kX:cL:=top 43
abbrev i5:cL:=top 44
abbrev i7:cL:=top 45
abbrev sR:cL:=top 46
abbrev mr:cL:=top 47
abbrev i4:cL:=top 48
abbrev iz:cL:=top 49
abbrev jt:cL:=top 51
abbrev kY:cL:=top 52
abbrev kZ:cL:=top 53
abbrev ju:cL:=top 57
abbrev j7:cL:=top 58
abbrev iy:cL:=top 59
abbrev gP:cL:=top 60
abbrev k6:cL:=top 61
abbrev jM:cL:=top 62
abbrev oP:cL:=top 63
abbrev gw:cL:=a0d (top 29) 0
abbrev jr:cL:=a0d (top 29) 1
abbrev fM:cL:=a0d (top 29) 2
abbrev jq:cL:=a0d (top 29) 3
abbrev fQ:cL:=a0d (top 29) 4
abbrev fD:cL:=a0d (top 29) 5
abbrev dZ:cL:=a0d (top 54) 0
abbrev js:cL:=a0d (top 54) 1
abbrev gN:cL:=a0d (top 54) 2
abbrev dO:cL:=a0d (top 55) 0
abbrev fz:cL:=a0d (top 55) 1
abbrev iR:cL:=a0d (top 55) 2
abbrev gy:cL:=a0d (top 55) 3
structure Txt (mg:aT->Option ae):Prop where
 Ag:mg "ValueError" = none
 RY:mg "bool" = none
 DU:mg "dict" = none
 pB:mg "enumerate" = none
 VX:mg "int" = none
 gZ:mg "isinstance" = none
 iq:mg "len" = none
 v1:mg "list" = none
 JX:mg "max" = none
 Qz:mg "min" = none
 jX:mg "range" = none
 VY:mg "set" = none
 v2:mg "sorted" = none
 yC:mg "zip" = none
abbrev Vu:List aT:=["NoMove"]
abbrev UR:List aT:=["NoMove","NoAmount","NoAsk","NoHand","NoMachine","NoName","NoPlace","NoRank","NoRow","NoRule","NoText","NoWay","NoWish","TooMany"]
theorem Dh:bG ["value"] ["value"] (aC mw):=⟨rfl,rfl,rfl,by decide +kernel,rfl,by decide +kernel,by decide +kernel⟩
theorem Dg:bG ["value","count"] ["value","count"] (aC mv):=⟨rfl,rfl,rfl,by decide +kernel,rfl,by decide +kernel,by decide +kernel⟩
theorem EM:bG ["game","entries","place","row","way"] ["game"] (aC lQ):=⟨rfl,rfl,rfl,by decide +kernel,rfl,by decide +kernel,by decide +kernel⟩
theorem wY:bG ["count","places","marks","place"] ["count","places"] (aC jv):=⟨rfl,rfl,rfl,by decide +kernel,rfl,by decide +kernel,by decide +kernel⟩
theorem yj:bG ["game","part"] ["game","part"] (aC kd):=⟨rfl,rfl,rfl,by decide +kernel,rfl,by decide +kernel,by decide +kernel⟩
theorem vm:bG ["game","hand","inside","wanted","lacking","place","row"] ["game","hand","inside","wanted"] (aC gO):=⟨rfl,rfl,rfl,by decide +kernel,rfl,by decide +kernel,by decide +kernel⟩
theorem yi:bG ["layer","entries","lacking","joined","place","source"] ["layer","entries","lacking"] (aC kc):=⟨rfl,rfl,rfl,by decide +kernel,rfl,by decide +kernel,by decide +kernel⟩
theorem Bi:bG ["game","entries","hand","goal","part","inside","wanted","lacking","layers","layer"] ["game","entries","hand","goal","part"] (aC jN):=⟨rfl,rfl,rfl,by decide +kernel,rfl,by decide +kernel,by decide +kernel⟩
theorem Bj:bG ["ways","marks"] ["ways","marks"] (aC jO):=⟨rfl,rfl,rfl,by decide +kernel,rfl,by decide +kernel,by decide +kernel⟩
theorem ye:bG ["game","hand","layers","rule","ahead","layer","marks","place"] ["game","hand","layers"] (aC j8):=⟨rfl,rfl,rfl,by decide +kernel,rfl,by decide +kernel,by decide +kernel⟩
theorem Bk:bG ["layers","places","layer"] ["layers"] (aC k7):=⟨rfl,rfl,rfl,by decide +kernel,rfl,by decide +kernel,by decide +kernel⟩
theorem IK:bG ["game","cutter"] ["game"] (aC pZ):=⟨rfl,rfl,rfl,by decide +kernel,rfl,by decide +kernel,by decide +kernel⟩
theorem EL:bG ["purses","place","amount"] ["purses","place","amount"] (aC nY):=⟨rfl,rfl,rfl,by decide +kernel,rfl,by decide +kernel,by decide +kernel⟩
theorem yg:bG ["need"] ["need"] (aC j9):=⟨rfl,rfl,rfl,by decide +kernel,rfl,by decide +kernel,by decide +kernel⟩
theorem EK:bG ["need","other"] ["need","other"] (aC nX):=⟨rfl,rfl,rfl,by decide +kernel,rfl,by decide +kernel,by decide +kernel⟩
theorem wX:bG ["ways","purses"] ["ways","purses"] (aC iC):=⟨rfl,rfl,rfl,by decide +kernel,rfl,by decide +kernel,by decide +kernel⟩
theorem yf:bG ["ways","purses"] ["ways","purses"] (aC i6):=⟨rfl,rfl,rfl,by decide +kernel,rfl,by decide +kernel,by decide +kernel⟩
theorem ya:bG ["game","hand","rule","row","way"] ["game","hand","rule"] (aC j6):=⟨rfl,rfl,rfl,by decide +kernel,rfl,by decide +kernel,by decide +kernel⟩
theorem uz:bG ["game","rule","row","way"] ["game","rule"] (aC gc):=⟨rfl,rfl,rfl,by decide +kernel,rfl,by decide +kernel,by decide +kernel⟩
theorem Bl:bG ["game","rule","left","row","way"] ["game","rule"] (aC k8):=⟨rfl,rfl,rfl,by decide +kernel,rfl,by decide +kernel,by decide +kernel⟩
theorem Bc:bG ["gains","ways","place","way","amount","purse"] ["gains","ways","place"] (aC kX):=⟨rfl,rfl,rfl,by decide +kernel,rfl,by decide +kernel,by decide +kernel⟩
theorem yb:bG ["left","start","gains","turn","place"] ["left","start"] (aC i5):=⟨rfl,rfl,rfl,by decide +kernel,rfl,by decide +kernel,by decide +kernel⟩
theorem yh:bG ["left","table","turn","place","ways","way","need"] ["left"] (aC i7):=⟨rfl,rfl,rfl,by decide +kernel,rfl,by decide +kernel,by decide +kernel⟩
theorem Mb:bG ["game","rule"] ["game","rule"] (aC sR):=⟨rfl,rfl,rfl,by decide +kernel,rfl,by decide +kernel,by decide +kernel⟩
theorem Df:bG ["game","rule","table","ways","row","way","most","own"] ["game","rule","table"] (aC mr):=⟨rfl,rfl,rfl,by decide +kernel,rfl,by decide +kernel,by decide +kernel⟩
theorem x9:bG ["game","rule","table","told","better"] ["game"] (aC i4):=⟨rfl,rfl,rfl,by decide +kernel,rfl,by decide +kernel,by decide +kernel⟩
theorem uB:bG ["game","last","rule","table","ways","row","way","purse"] ["game"] (aC iz):=⟨rfl,rfl,rfl,by decide +kernel,rfl,by decide +kernel,by decide +kernel⟩
theorem wV:bG ["start","count"] ["start","count"] (aC jt):=⟨rfl,rfl,rfl,by decide +kernel,rfl,by decide +kernel,by decide +kernel⟩
theorem Be:bG ["due"] ["due"] (aC kY):=⟨rfl,rfl,rfl,by decide +kernel,rfl,by decide +kernel,by decide +kernel⟩
theorem Bf:bG ["place","outs"] ["place","outs"] (aC kZ):=⟨rfl,rfl,rfl,by decide +kernel,rfl,by decide +kernel,by decide +kernel⟩
theorem wW:bG ["_law_script","_law_k"] ["_law_script","_law_k"] (aC ju):=⟨rfl,rfl,rfl,by decide +kernel,rfl,by decide +kernel,by decide +kernel⟩
theorem yd:bG ["_law_script","_law_many","_law_k","_law_cell","_law_places_here","_law_j"] ["_law_script","_law_many","_law_k"] (aC j7):=⟨rfl,rfl,rfl,by decide +kernel,rfl,by decide +kernel,by decide +kernel⟩
theorem uA:bG ["_law_script","_law_many","_law_game","_law_k","_law_cell"] ["_law_script","_law_many"] (aC iy):=⟨rfl,rfl,rfl,by decide +kernel,rfl,by decide +kernel,by decide +kernel⟩
theorem sV:bG ["_law_script","_law_many","_law_game","_law_k","_law_cell","_law_ways","_law_place"] ["_law_script","_law_many"] (aC gP):=⟨rfl,rfl,rfl,by decide +kernel,rfl,by decide +kernel,by decide +kernel⟩
theorem Bg:bG ["_law_play","_law_place","_law_marks_here","e"] ["_law_play","_law_place"] (aC k6):=⟨rfl,rfl,rfl,by decide +kernel,rfl,by decide +kernel,by decide +kernel⟩
theorem Bh:bG ["_law_play","_law_many","_law_places_here","_law_own","_law_cell","_law_strangers"] ["_law_play","_law_many","_law_places_here","_law_own","_law_cell"] (aC jM):=⟨rfl,rfl,rfl,by decide +kernel,rfl,by decide +kernel,by decide +kernel⟩
theorem Up:bG ["_law_script","_law_cell","_law_many","_law_ranked","_law_start","_law_game","_law_hands","_law_outs","_law_play","_law_hand","_law_k","_law_at","_law_left","_law_own","_law_place"] ["_law_script"] (aC oP):=⟨rfl,rfl,rfl,by decide +kernel,rfl,by decide +kernel,by decide +kernel⟩
theorem rG:bG ["self","game"] ["self","game"] (aC gw):=⟨rfl,rfl,rfl,by decide +kernel,rfl,by decide +kernel,by decide +kernel⟩
theorem wT:bG ["self","hand","goal","left"] ["self","hand","goal","left"] (aC jr):=⟨rfl,rfl,rfl,by decide +kernel,rfl,by decide +kernel,by decide +kernel⟩
theorem sS:bG ["self","left","places","marks"] ["self","left","places"] (aC fM):=⟨rfl,rfl,rfl,by decide +kernel,rfl,by decide +kernel,by decide +kernel⟩
theorem wR:bG ["self","hand","layers","rule","layer","place"] ["self","hand","layers"] (aC jq):=⟨rfl,rfl,rfl,by decide +kernel,rfl,by decide +kernel,by decide +kernel⟩
theorem qJ:bG ["self","hand","tops","left","marks","place","own"] ["self","hand","tops","left"] (aC fQ):=⟨rfl,rfl,rfl,by decide +kernel,rfl,by decide +kernel,by decide +kernel⟩
theorem x8:bG ["self","part","top","hand","pieces","left","tops","aside","others","lost","layers"] ["self","part"] (aC fD):=⟨rfl,rfl,rfl,by decide +kernel,rfl,by decide +kernel,by decide +kernel⟩
theorem qd:bG ["self","game","start","answer"] ["self","game","start"] (aC dZ):=⟨rfl,rfl,rfl,by decide +kernel,rfl,by decide +kernel,by decide +kernel⟩
theorem wU:bG ["self"] ["self"] (aC js):=⟨rfl,rfl,rfl,by decide +kernel,rfl,by decide +kernel,by decide +kernel⟩
theorem sU:bG ["self","place"] ["self","place"] (aC gN):=⟨rfl,rfl,rfl,by decide +kernel,rfl,by decide +kernel,by decide +kernel⟩
theorem oY:bG ["self","game","start","purse","answer"] ["self","game","start","purse"] (aC dO):=⟨rfl,rfl,rfl,by decide +kernel,rfl,by decide +kernel,by decide +kernel⟩
theorem qc:bG ["self","place"] ["self","place"] (aC fz):=⟨rfl,rfl,rfl,by decide +kernel,rfl,by decide +kernel,by decide +kernel⟩
theorem vk:bG ["self"] ["self"] (aC iR):=⟨rfl,rfl,rfl,by decide +kernel,rfl,by decide +kernel,by decide +kernel⟩
theorem rH:bG ["self","place"] ["self","place"] (aC gy):=⟨rfl,rfl,rfl,by decide +kernel,rfl,by decide +kernel,by decide +kernel⟩
section
variable {P:aO} {w:bD} {K:ak} {mg:aT->Option ae} {base:bT}
def vH:Sp:=λvs H Q _=>∃ z:Int,vs=[.int z]/\Q (.bl true) H
theorem C2 (F:bz K mg "is_whole" mw ["value"]) (T:Txt mg):Dn P w K mg base "is_whole" 1 ["value"] vH:=by
 have sc:=Dh
 refine F.ok sc (λvs H Q E h=>?_) (λf dk A outer s H vs Q E hr h=>?_)
 ·obtain⟨z,rfl,_⟩:=h;rfl
 obtain⟨z,rfl,q⟩:=h
 refine⟨_,(aG (cP (AS (cn (J3 (K:=K) rfl (T := "int")) rfl T.gZ dj (af (pv 0) (af (vD (v:=.ty "int") rfl T.VX PyProof.Rows.boot_int rfl) av))) (AU (Uc (cn (J3 (K:=K) rfl (T := "bool")) rfl T.gZ dj (af (pv 0) (af (vD (v:=.ty "bool") rfl T.RY PyProof.Rows.boot_bool rfl) av)))))))),?_⟩
 refine⟨_,rfl,_,"int",_,rfl,rfl,CF _,true,rfl,?_⟩
 refine jc ?_
 exact⟨_,rfl,_,"int",_,rfl,rfl,AE,false,rfl,q⟩
def Bs:Sp:=λvs H Q _=>∃ z n:Int,vs=[.int z,.int n]/\Q (.bl (decide (0<=z/\z<n))) H
theorem C1 (F:bz K mg "is_place" mv ["value","count"]) (T:Txt mg) (lU:Dn P w K mg base "is_whole" 1 ["value"] vH):Dn P w K mg base "is_place" 2 ["value","count"] Bs:=by
 have sc:=Dg
 refine F.ok sc (λvs H Q E h=>?_) (λf dk A outer s H vs Q E hr h=>?_)
 ·obtain⟨_,_,rfl,_⟩:=h;rfl
 obtain⟨z,n,rfl,q⟩:=h
 refine⟨_,(aG (cP (AS (cO lU hr (af (pv 0) av)) (AU (LL X7 LC aK (pv 0) (pv 1)))))),?_⟩
 refine⟨_,rfl,z,rfl,true,rfl,?_⟩
 refine jc ?_
 refine⟨_,rfl,_,_,rfl,rfl,decide (0<=z),rfl,?_⟩
 refine iO (λc=>?_) (λc=>?_)
 ·have h0:0<=z:=of_decide_eq_true c
  refine⟨_,rfl,_,_,rfl,rfl,?_⟩
  show Q (V.bl (decide (z<n))) H
  have e:decide (z<n)=decide (0<=z/\z<n):=by
   by_cases h:z<n
   ·rw[decide_eq_true h,decide_eq_true ⟨h0,h⟩]
   ·rw[decide_eq_false h,decide_eq_false λk=>h k.2]
  rw[e];exact q
 ·have e:decide (0<=z/\z<n)=false:=decide_eq_false λk=>c (decide_eq_true k.1)
  rw[e] at q;exact q
def JT (n:Int) (ws:List Int):Prop:=ws.Pairwise (·<·)/\(∀ x∈ws,0<=x/\x<n)/\ws.length<=40
def B5 (G:List Row):Prop:=G.length<=63/\∀ row∈G,JT G.length row.2.2
theorem B5.Vt {G:List Row} (h:B5 G):Hc G:=λrow hr=>⟨(h.2 row hr).1,(h.2 row hr).2.1⟩
def Yz:Sp:=λvs H Q _=>Ql λ(v:V) (G:List Row)=>GW (vs=[v]) (oN H G v) (B5 G) (∀ (r:ah) (as:List ah) (H':Hp),bh H H'->H r=none->(∀ a∈as,H a=none)->Cells H' r as (wi G G.length)->Q (.ref r) H')
theorem CU {ws:List Int} (h:ws.Pairwise (·<·)):ws.Nodup:=h.imp λh=>by omega
theorem Fu (G:List Row) (i p:Nat):(col G i p).length<=i:=by
 unfold col
 rw[aj]
 exact cq (dD _ _) (by simp)
theorem X2 (F:bz K mg "ways_in" lQ ["game"]) (T:Txt mg):Dn P w K mg base "ways_in" 1 ["game"] Yz:=by
 have sc:=EM
 refine F.ok sc (λvs H Q E h=>?_) (λf dk A outer s H vs Q E hr h=>?_)
 ·obtain⟨v,G,rfl,_⟩:=h;rfl
 obtain⟨v,G,rfl,hG,cU,q⟩:=h
 obtain⟨g0,gv,rfl,jS,mP,eU⟩:=fu hG
 have ah9:=cU.1
 refine⟨_,(au (pX (i:=1) (aC lQ) ["game","entries","place","row","way"] ["row"] 1 [] sc.nd rfl rfl (dm (pv 0)) (λ_ _ _ _ _ _=>(eH (show cT (["row"]:List aT) by decide +kernel) rfl rfl)) (λ_ _ _ _ _ _=>hV) (λ_ _ _ _ _ _=>(fb av)))
   (au (eS bn rfl (AV (K:=K) rfl rfl T.pB (af (pv 0) av)) (ml rfl (dN (cE (i:=2) sc.nd rfl (bi rfl)) (dN (cE (i:=3) sc.nd rfl (bi rfl)) j5)))
   (aG (eS bn rfl (dm (bM (mQ (K:=K) rfl) (pv 3) aK (λ_ _=>rfl))) (cE (i:=4) sc.nd rfl (bi rfl))
   (aG (cz (jp aW aX aY dv (bM (lA (K:=K) rfl) (pv 1) (pv 4) (λ_ _=>rfl)) (af (pv 2) av)))))))
   (aG (cP (pv 1))))),?_⟩
 refine⟨_,rfl,g0,rfl,⟨_,bI.of jS⟩,c8 (K:=K) (a:=g0) (xs:=gv) (λi ys H2=>bh H H2/\∃ as:List ah,ys=as.map V.ref/\as.length=i/\as.Nodup/\∀ a∈as,H a=none/\H2 a=some (.lst [])) ⟨bh.refl _,[],rfl,rfl,nH,λ_ z=>by cases z⟩ (a0b (m:=1000) (by omega)) (λi ys H2 hi h=>?_) (λi x ys H2 hi h=>?_) (λys H2 h r hr=>?_)⟩
 ·obtain⟨s2,as,rfl,e,_⟩:=h
  exact⟨bI.of (s2 _ _ jS),by simp;omega⟩
 ·obtain⟨s2,as,rfl,e,nd,ha⟩:=h
  refine ix ?_
  refine⟨bE _,λp hp=>?_⟩
  have hpn:p ∉ as:=λz=>by have:=(ha p z).2;rw[hp] at this;cases this
  refine⟨s2.trans (az hp _),as++[p],by simp,by simp[e],?_,λa hm=>?_⟩
  ·rw[fB]
   exact⟨nd,by simp,λa h1 b h2=>by rw[be.mp h2];exact λz=>hpn (z ▸ h1)⟩
  ·rcases bo.mp hm with h | h
   ·exact⟨(ha a h).1,az hp _ _ _ (ha a h).2⟩
   ·rw[be.mp h];exact⟨s2.free hp,ar⟩
 obtain⟨s2,as,rfl,e,nd,ha⟩:=h
 have FG:H r=none:=s2.free hr
 have hrn:r ∉ as:=λz=>by have:=(ha r z).2;rw[hr] at this;cases this
 have c0:Cells (upd H2 r (.lst (as.map V.ref))) r as (wi G 0):=by
  refine⟨ar,nd,hrn,by rw[MR,e,mP],λi a h=>⟨[],?_,az hr _ _ _ (ha a (am h)).2⟩⟩
  have:=(ag.mp h).1
  rw[Qa,ie,if_pos (by omega)]
 have wm:∀ a∈as,H a=none:=λa h=>(ha a h).1
 refine⟨_,rfl,g0,rfl,⟨_,bI.of (s2.trans (az hr _) _ _ jS)⟩,wb (K:=K) (a:=g0) (xs:=gv) (λi σ H3=>∃ y1 y2 y3:Option V,σ=[some (.ref g0),some (.ref r),y1,y2,y3]/\bh H H3/\Cells H3 r as (wi G i))
  ⟨_,_,_,rfl,s2.trans (az hr _),c0⟩ (λi σ H3 _ h=>?_) (λi x σ H3 Tt hi h hT=>?_) (λσ H3 h=>?_)⟩
 ·obtain⟨_,_,_,_,s3,_⟩:=h
  exact bI.of (s3 _ _ jS)
 ·obtain⟨y1,y2,y3,rfl,s3,c3⟩:=h
  have KB:i<G.length:=by have:=(ag.mp hi).1;omega
  obtain⟨row,iT⟩:∃ row,G[i]?=some row:=⟨G[i],by simp⟩
  obtain⟨t,wa,p1,p2,p3⟩:=eU i row iT
  rw[hi] at p1;cases p1
  have hw:=cU.2 row (am iT)
  have ew:je G i=row.2.2:=IW iT
  have sT:=az hT (.tup [.int (i:Nat),.ref t])
  refine⟨Tt,_,rfl,gJ.of ar,rfl,_,_,rfl,_,_,rfl,rfl,?_⟩
  refine⟨_,rfl,t,_,_,_,rfl,rfl,gJ.of ((s3.trans sT) _ _ p2),bV (j:=2) rfl,wa,rfl,⟨_,bI.of ((s3.trans sT) _ _ p3)⟩,iN (K:=K) (a:=wa) (xs:=row.2.2.map V.int) (λj σ H4=>∃ y3:Option V,σ=[some (.ref g0),some (.ref r),some (.int (i:Nat)),some (.ref t),y3]/\bh H H4/\Cells H4 r as (GN G i j))
   ⟨_,rfl,s3.trans sT,by rw[MQ];exact c3.up sT⟩ (λj σ H4 _ h=>?_) (λj x σ H4 hj h=>?_) (λσ H4 h=>?_)⟩
  ·obtain⟨_,_,s4,_⟩:=h
   exact bI.of (s4 _ _ p3)
  ·obtain⟨y,rfl,s4,c4⟩:=h
   obtain⟨z,hz,rfl⟩:=fm hj
   obtain⟨b1,b2⟩:=hw.2.1 z (am hz)
   rw[← ew] at hz
   obtain⟨a,L,k1,k2,k3,k4⟩:=c4.at b1 (by rw[GO];exact b2)
   have e1:=UO hz (by rw[ew];exact CU hw.1) b1 b2
   rw[e1] at k2;cases k2
   have xV:=Fu G i z.toNat
   refine⟨_,rfl,_,rfl,r,_,_,_,rfl,rfl,bI.of c4.hd,k3,.inl ⟨rfl,_,bI.of k4⟩,_,rfl,a,_,_,rfl,rfl,k4,mK (m:=1000) (by rw[aj];omega),?_⟩
   have c5:=c4.put k1 (col G i z.toNat++[(i:Int)])
   rw[P9 hz b1 b2,aM] at c5
   exact⟨_,rfl,s4.put (wm a (am k1)) _,c5⟩
  ·obtain⟨y,rfl,s4,c4⟩:=h
   rw[aj,← ew,P8] at c4
   exact⟨_,_,_,rfl,s4,c4⟩
 ·obtain⟨y1,y2,y3,rfl,s3,c3⟩:=h
  rw[mP] at c3
  exact⟨_,rfl,q r as H3 s3 FG wm c3⟩
def qt:Sp:=λvs H Q _=>Ex3 λ(n:Nat) (a:ah) (ps:List Int)=>GW (vs=[.int n,.ref a]) (n<=1000) (H a=some (.lst (ps.map V.int))) (∀ (p:ah) (H':Hp),bh H H'->H p=none->H' p=some (.lst (bm n λx=>decide (x∈ps)))->Q (.ref p) H')
theorem wF (F:bz K mg "place_marks" jv ["count","places"]) (T:Txt mg) (qU:Dn P w K mg base "is_place" 2 ["value","count"] Bs):Dn P w K mg base "place_marks" 3 ["count","places"] qt:=by
 have sc:=wY
 refine F.ok sc (λvs H Q E h=>?_) (λf dk A outer s H vs Q E hr h=>?_)
 ·obtain⟨_,_,_,rfl,_⟩:=h;rfl
 obtain⟨n,a,ps,rfl,hn,ha,q⟩:=h
 refine⟨_,(au (bP (i:=2) sc.nd rfl (bi rfl) (bX uw (fb (af mf av)) (pv 0)))
   (au (eS bn rfl (dm (pv 1)) (cE (i:=3) sc.nd rfl (bi rfl))
   (aG (fo (f9 (cO qU hr (af (pv 3) (af (pv 0) av))))
   (aG (oA mf (oz (pv 2) (pv 3) a0e)))
   dq)))
   (aG (cP (pv 2))))),?_⟩
 refine⟨(by show 1<=aL;decide),λn1 NA=>?_⟩
 have s1:=az NA (.lst [V.bl false])
 refine⟨_,rfl,n1,_,_,rfl,rfl,ar,by omega,by omega,a0b (m:=1000) (by simp;omega),λm hm=>?_⟩
 have s2:=s1.trans (az hm (.lst (aH ((n:Nat):Int).toNat [V.bl false]).flatten))
 have c6:H m=none:=s1.free hm
 have CA:upd (upd H n1 (.lst [V.bl false])) m (.lst (aH ((n:Nat):Int).toNat [V.bl false]).flatten) m=some (.lst (bm n λx=>decide (x∈ps.take 0))):=by
  rw[ar,bC,JY];simp
 generalize upd (upd H n1 (.lst [V.bl false])) m (.lst (aH ((n:Nat):Int).toNat [V.bl false]).flatten)=H1 at s2 CA ⊢
 refine⟨_,rfl,a,rfl,⟨_,bI.of (s2 _ _ ha)⟩,iN (K:=K) (a:=a) (xs:=ps.map V.int) (λi σ H2=>∃ y:Option V,σ=[some (.int n),some (.ref a),some (.ref m),y]/\bh H H2/\H2 m=some (.lst (bm n λx=>decide (x∈ps.take i)))) ⟨_,rfl,s2,CA⟩ (λi σ H2 _ h=>?_) (λi x σ H2 hi h=>?_) (λσ H2 h=>?_)⟩
 ·obtain⟨_,_,s3,_⟩:=h
  exact bI.of (s3 _ _ ha)
 ·obtain⟨y,rfl,s3,h3⟩:=h
  obtain⟨z,hz,rfl⟩:=fm hi
  refine⟨_,rfl,_,rfl,z,_,rfl,_,rfl,?_⟩
  refine iO (λc=>?_) (λc=>?_)
  ·obtain⟨z0,z1⟩:=of_decide_eq_true c
   refine⟨_,rfl,_,rfl,m,_,_,z.toNat,rfl,rfl,h3,?_,?_⟩
   ·unfold xX;rw[Ai,if_pos z0,if_pos z1]
   ·refine⟨_,rfl,s3.put c6 _,?_⟩
    rw[ar,R0 z0 z1]
    congr 2
    exact Ch λp _ _=>by rw[eQ];simp[cJ hz]
  ·refine⟨_,rfl,s3,?_⟩
   rw[h3]
   congr 2
   refine Ch λp p0 p1=>?_
   have kx:p≠z:=λe=>c (decide_eq_true (by rw[← e];exact⟨p0,p1⟩))
   rw[eQ];simp[cJ hz,kx]
 ·obtain⟨y,rfl,s3,h3⟩:=h
  rw[aj,aZ] at h3
  exact⟨_,rfl,q m H2 s3 c6 h3⟩
def JP (H:Hp) (qv:V) (ins:Int->Bool):Prop:=(qv=.e8/\ins=λ_=>true)\/∃ (a:ah) (ps:List Int),qv=.ref a/\H a=some (.lst (ps.map V.int))/\ins=λx=>decide (x∈ps)
def Ms:Sp:=λvs H Q _=>Ex4 λ(v:V) (qv:V) (G:List Row) (ins:Int->Bool)=>GX (vs=[v,qv]) (oN H G v) (G.length<=63) (JP H qv ins) (∀ (p:ah) (H':Hp),bh H H'->H p=none->H' p=some (.lst (bm G.length ins))->Q (.ref p) H')
theorem xZ (F:bz K mg "part_marks" kd ["game","part"]) (T:Txt mg) (eT:Dn P w K mg base "place_marks" 3 ["count","places"] qt):Dn P w K mg base "part_marks" 4 ["game","part"] Ms:=by
 have sc:=yj
 refine F.ok sc (λvs H Q E h=>?_) (λf dk A outer s H vs Q E hr h=>?_)
 ·obtain⟨_,_,_,_,rfl,_⟩:=h;rfl
 obtain⟨v,qv,G,ins,rfl,hG,D5,hp,q⟩:=h
 obtain⟨g0,gv,rfl,jS,mP,_⟩:=fu hG
 refine⟨_,(au (fo (iQ (ny (pv 1)))
   (aG (cP (bX uw (fb (af mf av)) (cn (iu (K:=K) rfl) rfl T.iq bN (af (pv 0) av)))))
   dq)
   (aG (cP (cO eT hr (af (cn (iu (K:=K) rfl) rfl T.iq bN (af (pv 0) av)) (af (pv 1) av)))))),?_⟩
 rcases hp with ⟨rfl,rfl⟩ | ⟨a,ps,rfl,ha,rfl⟩
 ·refine⟨_,rfl,_,rfl,?_⟩
  refine jc ?_
  refine⟨(by show 1<=aL;decide),λn1 NA=>?_⟩
  have s1:=az NA (.lst [V.bl true])
  refine⟨_,rfl,g0,_,rfl,.inl (bI.of (s1 _ _ jS)),n1,_,_,rfl,rfl,ar,by omega,by omega,a0b (m:=1000) (by simp;omega),λm hm=>?_⟩
  refine q m _ (s1.trans (az hm _)) (s1.free hm) ?_
  rw[ar,bC,JY,mP]
 ·refine⟨_,rfl,_,rfl,?_⟩
  refine eJ ?_
  exact⟨_,rfl,g0,_,rfl,.inl (bI.of jS),_,rfl,gv.length,a,ps,rfl,by omega,ha,λp H' s1 hp h1=>q p H' s1 hp (by rw[← mP];exact h1)⟩
def Mp:Sp:=λvs H Q _=>Ex7 λ(v:V) (G:List Row) (hand:Int) (ia:ah) (wa:ah) (ins:Int->Bool) (want:Int->Bool)=>NH (vs=[v,.int hand,.ref ia,.ref wa]) (oN H G v) (B5 G) (H ia=some (.lst (bm G.length ins))) (H wa=some (.lst (bm G.length want))) (∀ (p:ah) (H':Hp),bh H H'->H p=none->H' p=some (.lst ((im G.length λx=>((eZ G hand ins want x:Nat):Int)).map V.int))->Q (.ref p) H')
theorem Ew (F:bz K mg "lacking_ways" gO ["game","hand","inside","wanted"]) (T:Txt mg):Dn P w K mg base "lacking_ways" 1 ["game","hand","inside","wanted"] Mp:=by
 have sc:=vm
 refine F.ok sc (λvs H Q E h=>?_) (λf dk A outer s H vs Q E hr h=>?_)
 ·obtain⟨_,_,_,_,_,_,_,rfl,_⟩:=h;rfl
 obtain⟨v,G,hand,ia,wa,ins,want,rfl,hG,cU,hi0,KQ,q⟩:=h
 obtain⟨g0,gv,rfl,jS,mP,eU⟩:=fu hG
 have D5:=cU.1
 refine⟨_,(au (bP (i:=4) sc.nd rfl (bi rfl) (fb av))
   (au (eS bn rfl (AV (K:=K) rfl rfl T.pB (af (pv 0) av)) (ml rfl (dN (cE (i:=5) sc.nd rfl (bi rfl)) (dN (cE (i:=6) sc.nd rfl (bi rfl)) j5)))
   (aG (fo (PW.pt (a0n (mm (f9 (bM (lA (K:=K) rfl) (pv 2) (pv 5) (λ_ _=>rfl)))) (a0k (f9 (bM (lA (K:=K) rfl) (pv 3) (pv 5) (λ_ _=>rfl))))))
   (aG (cz (jp aW aX aY dv (pv 4) (af aK av))))
   (aG (fo (dG md (bM (mQ (K:=K) rfl) (pv 6) aK (λ_ _=>rfl)) (pv 1) (dM _))
   (aG (cz (jp aW aX aY dv (pv 4) (af aK av))))
   (aG (cz (jp aW aX aY dv (pv 4) (af (cn (iu (K:=K) rfl) rfl T.iq bN (af (qS (aC gO) ["game","hand","inside","wanted","lacking","place","row"] ["way","inside"] 1 [2] (dm (bM (mQ (K:=K) rfl) (pv 6) aK (λ_ _=>rfl))) (λ_ _ _ _ _ _=>(eH (show cT (["way","inside"]:List aT) by decide +kernel) rfl rfl)) (λ_ _ _ _ _ _=>(mU (f9 (bM (lA (K:=K) rfl) (pv 1) (pv 0) (λ_ _=>rfl))))) (λ_ _ _ _ _ _=>(pv 0))) av)) av)))))))))
   (aG (cP (pv 4))))),?_⟩
 refine⟨bE _,λla Az=>?_⟩
 have s0:=az Az (.lst [])
 refine⟨_,rfl,g0,rfl,⟨_,bI.of (s0 _ _ jS)⟩,wb (K:=K) (a:=g0) (xs:=gv) (λi σ H2=>∃ y1 y2:Option V,σ=[some (.ref g0),some (.int hand),some (.ref ia),some (.ref wa),some (.ref la),y1,y2]/\bh H H2/\H2 la=some (.lst ((im i λx=>((eZ G hand ins want x:Nat):Int)).map V.int)))
  ⟨_,_,rfl,s0,ar⟩ (λi σ H2 _ h=>?_) (λi x σ H2 Tt hi h hT=>?_) (λσ H2 h=>?_)⟩
 ·obtain⟨_,_,_,s2,_⟩:=h
  exact bI.of (s2 _ _ jS)
 ·obtain⟨y1,y2,rfl,s2,h2⟩:=h
  have KB:i<G.length:=by have:=(ag.mp hi).1;omega
  obtain⟨row,iT⟩:∃ row,G[i]?=some row:=⟨G[i],by simp⟩
  obtain⟨t,wy0,p1,p2,p3⟩:=eU i row iT
  rw[hi] at p1;cases p1
  obtain⟨w1,w2,w3⟩:=cU.2 row (am iT)
  have W9:G[((i:Nat):Int).toNat]?=some row:=by rw[bC];exact iT
  have QB:=Cw W9
  have V2:=xo W9
  have sT:=az hT (.tup [.int (i:Nat),.ref t])
  refine⟨Tt,_,rfl,gJ.of ar,rfl,_,_,rfl,_,_,rfl,rfl,?_⟩
  have s3:=s2.trans sT
  have h3:=sT _ _ h2
  generalize upd H2 Tt (.tup [.int (i:Nat),.ref t])=H3 at sT s3 h3 ⊢
  have hii:=s3 _ _ hi0
  have hww:=s3 _ _ KQ
  have add:∀ (z:Int) (H4:Hp),bh H H4->H4 la=some (.lst ((im i λx=>((eZ G hand ins want x:Nat):Int)).map V.int))->z=((eZ G hand ins want ((i:Nat):Int):Nat):Int)->bh H (upd H4 la (.lst ((im i λx=>((eZ G hand ins want x:Nat):Int)).map V.int++[V.int z])))/\upd H4 la (.lst ((im i λx=>((eZ G hand ins want x:Nat):Int)).map V.int++[V.int z])) la=some (.lst ((im (i+1) λx=>((eZ G hand ins want x:Nat):Int)).map V.int)):=λz H4 s4 h4 e=>⟨s4.put Az _,by rw[ar,OF,aM,e];rfl⟩
  refine⟨_,rfl,_,rfl,ia,_,_,_,rfl,rfl,bI.of hii,bV (j:=i) (by have:=uI (f:=ins) (n:=G.length) (z:=((i:Nat):Int)) (by omega) (by omega);rw[bC] at this;exact this),_,rfl,?_⟩
  refine iO (λc=>?_) (λc=>?_)
  ·have SB:ins ((i:Nat):Int)=false:=by simpa using c
   refine⟨_,rfl,.inl ⟨rfl,_,bI.of h3⟩,la,_,_,rfl,rfl,h3,mK (m:=1000) (by rw[aj,ng];omega),?_⟩
   obtain⟨k1,k2⟩:=add 0 H3 s3 h3 (by unfold eZ;rw[if_pos (.inl SB)];rfl)
   exact⟨_,_,rfl,k1,k2⟩
  have SB:ins ((i:Nat):Int)=true:=by simpa using c
  refine⟨_,rfl,_,rfl,wa,_,_,_,rfl,rfl,bI.of hww,bV (j:=i) (by have:=uI (f:=want) (n:=G.length) (z:=((i:Nat):Int)) (by omega) (by omega);rw[bC] at this;exact this),_,rfl,?_⟩
  refine iO (λc2=>?_) (λc2=>?_)
  ·refine⟨_,rfl,.inl ⟨rfl,_,bI.of h3⟩,la,_,_,rfl,rfl,h3,mK (m:=1000) (by rw[aj,ng];omega),?_⟩
   obtain⟨k1,k2⟩:=add 0 H3 s3 h3 (by unfold eZ;rw[if_pos (.inr c2)];rfl)
   exact⟨_,_,rfl,k1,k2⟩
  have OA:want ((i:Nat):Int)=false:=by simpa using c2
  have vi:¬ (ins ((i:Nat):Int)=false\/want ((i:Nat):Int)=true):=by rw[SB,OA];simp
  refine⟨_,rfl,t,_,_,_,rfl,rfl,gJ.of (s3 _ _ p2),bV (j:=0) rfl,_,rfl,rfl,_,rfl,?_⟩
  refine iO (λc3=>?_) (λc3=>?_)
  ·have hh:row.1=hand:=by have:=of_decide_eq_true c3;injection this
   refine⟨_,rfl,.inl ⟨rfl,_,bI.of h3⟩,la,_,_,rfl,rfl,h3,mK (m:=1000) (by rw[aj,ng];omega),?_⟩
   obtain⟨k1,k2⟩:=add 1 H3 s3 h3 (by unfold eZ;rw[if_neg vi,if_pos (by rw[QB];exact hh)];rfl)
   exact⟨_,_,rfl,k1,k2⟩
  have hh:¬ row.1=hand:=λz=>c3 (decide_eq_true (by rw[z]))
  refine⟨_,rfl,.inl ⟨rfl,_,bI.of h3⟩,_,rfl,t,_,_,_,rfl,rfl,gJ.of (s3 _ _ p2),bV (j:=2) rfl,wy0,rfl,⟨_,bI.of (s3 _ _ p3)⟩,c8 (K:=K) (a:=wy0) (xs:=row.2.2.map V.int) (λk ys H4=>H4=H3/\ys=((row.2.2.take k).filter ins).map V.int) ⟨rfl,rfl⟩ (a0b (m:=1000) (by rw[aj];omega)) (λk ys H4 hk h=>?_) (λk x ys H4 hk h=>?_) (λys H4 h p hp=>?_)⟩
  ·obtain⟨rfl,rfl⟩:=h
   exact⟨bI.of (s3 _ _ p3),by rw[aj];exact cq (dD _ _) (by simp;omega)⟩
  ·obtain⟨rfl,rfl⟩:=h
   obtain⟨z,hz,rfl⟩:=fm hk
   obtain⟨z0,z1⟩:=w2 z (am hz)
   refine⟨_,rfl,_,rfl,ia,_,_,_,rfl,rfl,bI.of hii,gq z0 (uI z0 z1),_,rfl,?_⟩
   refine iO (λc4=>?_) (λc4=>?_)
   ·refine⟨_,rfl,rfl,?_⟩
    rw[bv,hz,cZ,aM]
    show _=_++(iD ins [z]).map V.int
    rw[bJ c4];rfl
   ·refine⟨rfl,?_⟩
    rw[bv,hz,cZ,aM]
    show _=_++(iD ins [z]).map V.int
    rw[bS c4];simp
  ·obtain⟨rfl,rfl⟩:=h
   rw[aj,aZ]
   have s5:=az hp (.lst ((row.2.2.filter ins).map V.int))
   have h5:=s5 _ _ h3
   refine⟨p,_,rfl,.inl (bI.of ar),la,_,_,rfl,rfl,h5,mK (m:=1000) (by rw[aj,ng];omega),?_⟩
   obtain⟨k1,k2⟩:=add (((row.2.2.filter ins).map V.int).length:Nat) _ (s3.trans s5) h5 (by unfold eZ;rw[if_neg vi,if_neg (by rw[QB];exact hh),V2,aj])
   exact⟨_,_,rfl,k1,k2⟩
 ·obtain⟨y1,y2,rfl,s2,h2⟩:=h
  rw[mP] at h2
  exact⟨_,rfl,q la H2 s2 Az h2⟩
theorem yL {H:Hp} {r k:ah} {as:List ah} {X:List (List Int)} (c:Cells H r as X) (hr:r≠k) (ha:∀ a∈as,a≠k):Cells (L2.del H k) r as X:=⟨by rw[dJ hr];exact c.hd,c.nd,c.rn,c.len,λi a h=>by
 obtain⟨l,h1,h2⟩:=c.cell i a h
 exact⟨l,h1,by rw[dJ (ha a (am h))];exact h2⟩⟩
theorem N8 {G:List Row} {z:Int} (h0:0<=z) {s:Int}:s∈col G G.length z.toNat↔(0<=s/\s<G.length)/\z∈wy G s:=by
 unfold col
 rw[bL]
 have e:((z.toNat:Nat):Int)=z:=by omega
 constructor
 ·rintro⟨k,hk,rfl⟩
  obtain⟨h1,h2⟩:=bF.mp hk
  have:=d8.mp h1
  unfold XB at h2
  rw[e] at h2
  have h3:=of_decide_eq_true h2
  refine⟨by omega,?_⟩
  unfold je at h3
  unfold wy
  rw[bC];exact h3
 ·rintro⟨⟨h1,h2⟩,h3⟩
  refine⟨s.toNat,bF.mpr ⟨d8.mpr (by omega),?_⟩,by omega⟩
  unfold XB
  rw[e]
  refine decide_eq_true ?_
  unfold je
  unfold wy at h3
  exact h3
theorem R5 (G:List Row) (i p:Nat):(col G i p).Pairwise (·<·):=by
 unfold col
 rw[vx]
 exact (kM.filter _).imp λh=>by omega
theorem Rh {G:List Row} {z:Int} (h0:0<=z) (h1:z<G.length):(wi G G.length)[z.toNat]?=some (col G G.length z.toNat):=by
 unfold wi
 rw[aB,eM (by omega)];rfl
def qW (G:List Row) (hand:Int) (ins want:Int->Bool) (c0:Int->Nat) (c:Int->Nat) (J:List Int):Prop:=J.Nodup/\∀ p:Int,p∈J↔(0<=p/\p<G.length)/\1<=eZ G hand ins want p/\c0 p<eZ G hand ins want p/\eZ G hand ins want p<=c p
def kt (G:List Row) (S:List Int) (E:List Int) (p:Int):Nat:=cnt G S p+if p∈E then 1 else 0
theorem qW.step {G:List Row} {hand:Int} {ins want:Int->Bool} {c0 c c':Int->Nat} {J:List Int} {s:Int} (h:qW G hand ins want c0 c J) (hs:0<=s/\s<G.length) (h1:c' s=c s+1) (h2:∀ p,p≠s->c' p=c p) (h0:c0 s<=c s) :
  (eZ G hand ins want s=c s+1->qW G hand ins want c0 c' (J++[s]))/\(eZ G hand ins want s≠c s+1->qW G hand ins want c0 c' J):=by
 obtain⟨nd,hm⟩:=h
 constructor
 ·intro e
  have yS:s ∉ J:=λz=>by have:=(hm s).mp z;omega
  refine⟨?_,λp=>?_⟩
  ·rw[fB]
   exact⟨nd,by simp,λa ha b hb=>by rw[be.mp hb];exact λz=>yS (z ▸ ha)⟩
  ·rw[bo,be]
   by_cases c1:p=s
   ·subst c1
    constructor
    ·intro _;exact⟨hs,by omega,by omega,by omega⟩
    ·intro _;exact .inr rfl
   ·rw[h2 p c1,hm p]
    constructor
    ·rintro (z | z)
     ·exact z
     ·exact absurd z c1
    ·exact .inl
 ·intro e
  refine⟨nd,λp=>?_⟩
  rw[hm p]
  by_cases c1:p=s
  ·subst c1
   rw[h1]
   constructor
   ·rintro⟨a,b,d,f⟩;exact⟨a,b,d,by omega⟩
   ·rintro⟨a,b,d,f⟩;exact⟨a,b,d,by omega⟩
  ·rw[h2 p c1]
def Mr:Sp:=λvs H Q _=>Vx λ(la:ah) (r:ah) (ka:ah) (as:List ah) (G:List Row) (hand:Int) (ins:Int->Bool) (want:Int->Bool) (S0:List Int) (L:List Int)=>JC (vs=[.ref la,.ref r,.ref ka]) (B5 G) (H la=some (.lst (L.map V.int))) (la≠ka) (Cells H r as (wi G G.length)) (r≠ka) ((∀ a∈as,a≠ka)) (H ka=some (.lst ((im G.length λp=>((eZ G hand ins want p:Nat):Int)-((cnt G S0 p:Nat):Int)).map V.int))) (L.Nodup) ((∀ x∈L,x ∉ S0/\0<=x/\x<G.length)) (∀ (p:ah) (ns:List Int) (H':Hp),bh (L2.del H ka) H'->H p=none->H' p=some (.lst (ns.map V.int))->H' ka=some (.lst ((im G.length λp=>((eZ G hand ins want p:Nat):Int)-((cnt G (S0++L) p:Nat):Int)).map V.int))->ns.Pairwise (·<·) ->
    (∀ p,p∈ns↔(0<=p/\p<G.length)/\1<=eZ G hand ins want p/\cnt G S0 p<eZ G hand ins want p/\eZ G hand ins want p<=cnt G (S0++L) p)->Q (.ref p) H')
theorem O4 (F:bz K mg "next_layer" kc ["layer","entries","lacking"]) (T:Txt mg):Dn P w K mg base "next_layer" 1 ["layer","entries","lacking"] Mr:=by
 have sc:=yi
 refine F.ok sc (λvs H Q E h=>?_) (λf dk A outer s H vs Q E hr h=>?_)
 ·obtain⟨_,_,_,_,_,_,_,_,_,_,rfl,_⟩:=h;rfl
 obtain⟨la,r,ka,as,G,hand,ins,want,S0,L,rfl,cU,Az,nla,hC,nr,TN,SE,hLn,hLs,q⟩:=h
 have D5:=cU.1
 have aig:L.length<=63:=by
  have:=iA L (oO G.length) hLn λx hx=>g8.mpr (hLs x hx).2
  unfold oO at this
  simp at this
  omega
 refine⟨_,(au (bP (i:=3) sc.nd rfl (bi rfl) (fb av))
   (au (eS bn rfl (dm (pv 0)) (cE (i:=4) sc.nd rfl (bi rfl))
   (aG (eS bn rfl (dm (bM (lA (K:=K) rfl) (pv 1) (pv 4) (λ_ _=>rfl))) (cE (i:=5) sc.nd rfl (bi rfl))
   (au (Ph (pv 2) (pv 5) (Kk (K:=K) rfl) aK Tu a0e)
   (aG (fo (dG md (bM (lA (K:=K) rfl) (pv 2) (pv 5) (λ_ _=>rfl)) aK (dM _))
   (aG (cz (jp aW aX aY dv (pv 3) (af (pv 5) av))))
   dq))))))
   (aG (cP (cn (sd) rfl T.v2 mz (af (pv 3) av)))))),?_⟩
 refine⟨bE _,λjo ZF=>?_⟩
 have njk:jo≠ka:=λz=>by rw[z,SE] at ZF;cases ZF
 have kB:L2.del H ka ka=none:=by unfold L2.del;rw[if_pos rfl]
 have jB:L2.del H ka jo=none:=by rw[dJ njk];exact ZF
 have cB:=yL hC nr TN
 have lB:L2.del H ka la=some (.lst (L.map V.int)):=by rw[dJ nla];exact Az
 have sB:bh (L2.del H ka) (upd H jo (.lst [])):=(jn _ _).trans (az ZF _)
 refine⟨_,rfl,la,rfl,⟨_,bI.of (sB _ _ lB)⟩,iN (K:=K) (a:=la) (xs:=L.map V.int) (λi σ H2=>Ex3 λ(J:List Int) (y1:Option V) (y2:Option V)=>GX (σ=[some (.ref la),some (.ref r),some (.ref ka),some (.ref jo),y1,y2]) (bh (L2.del H ka) H2) (H2 ka=some (.lst ((im G.length λp=>((eZ G hand ins want p:Nat):Int)-((cnt G (S0++L.take i) p:Nat):Int)).map V.int))) (H2 jo=some (.lst (J.map V.int))) (qW G hand ins want (cnt G S0) (cnt G (S0++L.take i)) J))
  ⟨[],_,_,rfl,sB,by rw[ii,ef,bB (cS njk)];exact SE,ar,nH,λp=>⟨λz=>(by cases z),λz=>by rw[ii,ef] at z;omega⟩⟩ (λi σ H2 _ h=>?_) (λi x σ H2 hi h=>?_) (λσ H2 h=>?_)⟩
 ·obtain⟨_,_,_,_,s2,_⟩:=h
  exact bI.of (s2 _ _ lB)
 ·obtain⟨J,y1,y2,rfl,s2,SD,HW,hJ⟩:=h
  obtain⟨z,hz,rfl⟩:=fm hi
  obtain⟨zS,z0,z1⟩:=hLs z (am hz)
  have c2:=cB.up s2
  obtain⟨ea,El,e1,e2,e3,e4⟩:=c2.at z0 (by rw[MR];exact z1)
  rw[Rh z0 z1] at e2;cases e2
  have eB:L2.del H ka ea=some (.lst ((col G G.length z.toNat).map V.int)):=by
   obtain⟨l,h1,h2⟩:=cB.cell _ ea e1
   rw[Rh z0 z1] at h1;cases h1;exact h2
  have Ss:=λs=>N8 (G:=G) (z:=z) z0 (s:=s)
  have xV:=Fu G G.length z.toNat
  have hcn:=pQ (R5 G G.length z.toNat)
  generalize col G G.length z.toNat=El at *
  have hzt:z ∉ S0++L.take i:=λhm=>by
   rcases bo.mp hm with hm | hm
   ·exact zS hm
   ·obtain⟨k,hk⟩:=cg hm
    rw[kn] at hk
    split at hk
    ·have:=qm hLn hk hz;omega
    ·cases hk
  have hcs:∀ p:Int,0<=p/\p<G.length->cnt G (S0++L.take (i+1)) p=kt G (S0++L.take i) El p:=λp hp=>by
   rw[bv,hz,← iW]
   show cnt G (S0++L.take i++[z]) p=_
   rw[J5 cU.Vt hzt p]
   unfold kt
   by_cases c:z∈wy G p
   ·rw[if_pos c,if_pos ((Ss p).mpr ⟨hp,c⟩)]
   ·rw[if_neg c,if_neg λk=>c ((Ss p).mp k).2]
  refine⟨_,rfl,_,rfl,r,_,_,_,rfl,rfl,bI.of c2.hd,e3,ea,rfl,⟨_,bI.of (s2 _ _ eB)⟩,iN (K:=K) (a:=ea) (xs:=El.map V.int) (λj σ H3=>Ql λ(J:List Int) (y2:Option V)=>GX (σ=[some (.ref la),some (.ref r),some (.ref ka),some (.ref jo),some (.int z),y2]) (bh (L2.del H ka) H3) (H3 ka=some (.lst ((im G.length λp=>((eZ G hand ins want p:Nat):Int)-((kt G (S0++L.take i) (El.take j) p:Nat):Int)).map V.int))) (H3 jo=some (.lst (J.map V.int))) (qW G hand ins want (cnt G S0) (kt G (S0++L.take i) (El.take j)) J))
   ⟨J,_,rfl,s2,by simpa [kt] using SD,HW,by simpa [kt,qW] using hJ⟩ (λj σ H3 _ h=>?_) (λj x σ H3 hj h=>?_) (λσ H3 h=>?_)⟩
  ·obtain⟨_,_,_,s3,_⟩:=h
   exact bI.of (s3 _ _ eB)
  ·obtain⟨J,y2,rfl,s3,WJ,hj3,hJ⟩:=h
   obtain⟨s,hs,rfl⟩:=fm hj
   obtain⟨⟨s0,s1⟩,sw⟩:=(Ss s).mp (am hs)
   have xt:=(ag.mp hs).1
   have hsn:s ∉ El.take j:=λhm=>by
    obtain⟨k,hk⟩:=cg hm
    rw[kn] at hk
    split at hk
    ·have:=qm hcn hk hs;omega
    ·cases hk
   have c1:kt G (S0++L.take i) (El.take (j+1)) s=kt G (S0++L.take i) (El.take j) s+1:=by
    unfold kt
    rw[if_neg hsn,if_pos ((cJ hs).mpr (.inr rfl))]
   have c2':∀ p,p≠s->kt G (S0++L.take i) (El.take (j+1)) p=kt G (S0++L.take i) (El.take j) p:=λp hp=>by
    unfold kt
    have:p∈El.take (j+1)↔p∈El.take j:=by rw[cJ hs];simp[hp]
    simp only [this]
   have VZ:cnt G S0 s<=kt G (S0++L.take i) (El.take j) s:=cq (Cm (λx hx=>ck _ hx) s) (d4 _ _)
   obtain⟨j1,j2⟩:=hJ.step ⟨s0,s1⟩ c1 c2' VZ
   have xr:o6 ((im G.length λp=>((eZ G hand ins want p:Nat):Int)-((kt G (S0++L.take i) (El.take j) p:Nat):Int)).map V.int) s=some (.int (((eZ G hand ins want s:Nat):Int)-((kt G (S0++L.take i) (El.take j) s:Nat):Int))):=gq s0 (by rw[aB,uK s0 s1];rfl)
   refine⟨_,rfl,_,rfl,ka,_,_,_,rfl,rfl,bI.of WJ,s0,xr,_,_,rfl,rfl,ka,_,_,s.toNat,rfl,rfl,WJ,?_,?_⟩
   ·unfold xX;rw[aj,ng,if_pos s0,if_pos s1]
   have s4:=s3.put kB (.lst (((im G.length λp=>((eZ G hand ins want p:Nat):Int)-((kt G (S0++L.take i) (El.take j) p:Nat):Int)).map V.int).set s.toNat (.int (((eZ G hand ins want s:Nat):Int)-((kt G (S0++L.take i) (El.take j) s:Nat):Int)-1))))
   have ZG:upd H3 ka (.lst (((im G.length λp=>((eZ G hand ins want p:Nat):Int)-((kt G (S0++L.take i) (El.take j) p:Nat):Int)).map V.int).set s.toNat (.int (((eZ G hand ins want s:Nat):Int)-((kt G (S0++L.take i) (El.take j) s:Nat):Int)-1)))) ka=some (.lst ((im G.length λp=>((eZ G hand ins want p:Nat):Int)-((kt G (S0++L.take i) (El.take (j+1)) p:Nat):Int)).map V.int)):=by
    rw[ar,pR,Ee s0 s1]
    congr 3
    refine pK λp _ _=>?_
    by_cases e:p=s
    ·subst e;rw[if_pos rfl,c1];omega
    ·rw[if_neg e,c2' p e]
   have ZE:upd H3 ka (.lst (((im G.length λp=>((eZ G hand ins want p:Nat):Int)-((kt G (S0++L.take i) (El.take j) p:Nat):Int)).map V.int).set s.toNat (.int (((eZ G hand ins want s:Nat):Int)-((kt G (S0++L.take i) (El.take j) s:Nat):Int)-1)))) jo=some (.lst (J.map V.int)):=by rw[bB njk];exact hj3
   generalize upd H3 ka (.lst (((im G.length λp=>((eZ G hand ins want p:Nat):Int)-((kt G (S0++L.take i) (El.take j) p:Nat):Int)).map V.int).set s.toNat (.int (((eZ G hand ins want s:Nat):Int)-((kt G (S0++L.take i) (El.take j) s:Nat):Int)-1))))=H4 at s4 ZG ZE ⊢
   have abT:o6 ((im G.length λp=>((eZ G hand ins want p:Nat):Int)-((kt G (S0++L.take i) (El.take (j+1)) p:Nat):Int)).map V.int) s=some (.int (((eZ G hand ins want s:Nat):Int)-((kt G (S0++L.take i) (El.take (j+1)) s:Nat):Int))):=gq s0 (by rw[aB,uK s0 s1];rfl)
   have hJl:J.length<=63:=by
    have:=iA J (oO G.length) hJ.1 λx hx=>g8.mpr ((hJ.2 x).mp hx).1
    unfold oO at this
    simp at this
    omega
   refine⟨_,rfl,_,rfl,ka,_,_,_,rfl,rfl,bI.of ZG,abT,rfl,_,rfl,?_⟩
   refine iO (λc=>?_) (λc=>?_)
   ·have c3:((eZ G hand ins want s:Nat):Int)-((kt G (S0++L.take i) (El.take (j+1)) s:Nat):Int)=0:=by have:=of_decide_eq_true c;injection this
    refine⟨_,rfl,.inl ⟨rfl,_,bI.of ZE⟩,_,rfl,jo,_,_,rfl,rfl,ZE,mK (m:=1000) (by rw[aj];omega),?_⟩
    exact⟨J++[s],_,rfl,s4.put jB _,by rw[bB (cS njk)];exact ZG,by rw[ar,aM];rfl,j1 (by omega)⟩
   ·have c3:¬ ((eZ G hand ins want s:Nat):Int)-((kt G (S0++L.take i) (El.take (j+1)) s:Nat):Int)=0:=λz=>c (decide_eq_true (by rw[z]))
    exact⟨J,_,rfl,s4,ZG,ZE,j2 (by omega)⟩
  ·obtain⟨J,y2,rfl,s3,WJ,hj3,hJ⟩:=h
   rw[aj,aZ] at WJ hJ
   refine⟨J,_,_,rfl,s3,?_,hj3,hJ.1,λp=>?_⟩
   ·rw[WJ]
    congr 3
    exact pK λp p0 p1=>by rw[hcs p ⟨p0,p1⟩]
   ·rw[hJ.2 p]
    constructor
    ·rintro⟨h1,h2⟩;rw[hcs p h1];exact⟨h1,h2⟩
    ·rintro⟨h1,h2⟩;rw[hcs p h1] at h2;exact⟨h1,h2⟩
 ·obtain⟨J,y1,y2,rfl,s2,SD,HW,hJ⟩:=h
  rw[aj,aZ] at SD hJ
  have hJl:J.length<=63:=by
   have:=iA J (oO G.length) hJ.1 λx hx=>g8.mpr ((hJ.2 x).mp hx).1
   unfold oO at this
   simp at this
   omega
  refine⟨_,rfl,jo,J,rfl,bI.of HW,by omega,λp ns hp pm pw=>?_⟩
  have nkp:ka≠p:=λz=>by rw[← z,SD] at hp;cases hp
  have hpH:H p=none:=by
   have:=s2.free hp
   rw[dJ (cS nkp)] at this;exact this
  refine q p ns _ (s2.trans (az hp _)) hpH ar (by rw[bB nkp];exact SD) (Gk pw (pm.symm.nodup hJ.1)) λx=>?_
  rw[pm.mem_iff];exact hJ.2 x
theorem Gp {G:List Row} {hand:Int} {ins:Int->Bool} {k:Nat} {Ls:List (List Int)}:run G hand ins k Ls []=Ls:=by
 cases k with
 | zero=>rfl
 | succ k=>unfold run;rw[if_pos rfl]
theorem Gm (n:Nat):(oO n).length=n:=by unfold oO;simp
def Dk:Sp:=λvs H Q _=>Ex9 λ(v:V) (qv:V) (G:List Row) (hand:Int) (r:ah) (ga:ah) (as:List ah) (goal:List Int) (ins:Int->Bool)=>JD (vs=[v,.ref r,.int hand,.ref ga,qv]) (oN H G v) (B5 G) (Cells H r as (wi G G.length)) (H ga=some (.lst (goal.map V.int))) (JP H qv ins) (∀ (p:ah) (H':Hp),bh H H'->gb (gb gG) (nW H H') (kF G hand ins λx=>decide (x∈goal)) (.ref p)->Q (.ref p) H')
theorem Iv (F:bz K mg "layers_to" jN ["game","entries","hand","goal","part"]) (T:Txt mg) (zY:Dn P w K mg base "part_marks" 4 ["game","part"] Ms) (eT:Dn P w K mg base "place_marks" 3 ["count","places"] qt) (vO:Dn P w K mg base "lacking_ways" 1 ["game","hand","inside","wanted"] Mp) (zX:Dn P w K mg base "next_layer" 1 ["layer","entries","lacking"] Mr) :
  Dn P w K mg base "layers_to" 5 ["game","entries","hand","goal","part"] Dk:=by
 have sc:=Bi
 refine F.ok sc (λvs H Q E h=>?_) (λf dk A outer s H vs Q E hr h=>?_)
 ·obtain⟨_,_,_,_,_,_,_,_,_,rfl,_⟩:=h;rfl
 obtain⟨v,qv,G,hand,r,ga,as,goal,ins,rfl,hG,cU,hC,Sv,hP,q⟩:=h
 obtain⟨g0,gv,rfl,jS,mP,eU⟩:=fu hG
 have D5:=cU.1
 refine⟨_,(au (bP (i:=5) sc.nd rfl (tI rfl) (cO zY hr (af (pv 0) (af (pv 4) av))))
   (au (bP (i:=6) sc.nd rfl (tI rfl) (cO eT hr (af (cn (iu (K:=K) rfl) rfl T.iq bN (af (pv 0) av)) (af (pv 3) av))))
   (au (bP (i:=7) sc.nd rfl (bi rfl) (cO vO hr (af (pv 0) (af (pv 2) (af (pv 5) (af (pv 6) av))))))
   (au (bP (i:=8) sc.nd rfl (bi rfl) (fb av))
   (au (pX (i:=9) (aC jN) ["game","entries","hand","goal","part","inside","wanted","lacking","layers","layer"] ["place","inside","wanted"] 1 [5,6] sc.nd rfl rfl (iB rfl T.jX (af (cn (iu (K:=K) rfl) rfl T.iq bN (af (pv 0) av)) av)) (λ_ _ _ _ _ _=>(eH (show cT (["place","inside","wanted"]:List aT) by decide +kernel) rfl rfl)) (λ_ _ _ _ _ _=>(mU (PW.pt (a0i (f9 (bM (lA (K:=K) rfl) (pv 1) (pv 0) (λ_ _=>rfl))) (a0g (f9 (bM (lA (K:=K) rfl) (pv 2) (pv 0) (λ_ _=>rfl)))))))) (λ_ _ _ _ _ _=>(pv 0)))
   (au (wP bn (sO (pv 9) (by intro _;rfl))
   (au (cz (jp aW aX aY dv (pv 8) (af (pv 9) av)))
   (aG (bP (i:=9) sc.nd rfl (bi rfl) (cO zX hr (af (pv 9) (af (pv 1) (af (pv 7) av))))))))
   (aG (cP (pv 8))))))))),?_⟩
 refine⟨_,rfl,_,rfl,_,qv,G,ins,rfl,hG,D5,hP,λia H1 s1 aiM hia=>?_⟩
 refine⟨_,rfl,g0,_,rfl,.inl (bI.of (s1 _ _ jS)),_,rfl,gv.length,ga,goal,rfl,by omega,s1 _ _ Sv,λwa H2 s2 ajn rC=>?_⟩
 rw[mP] at rC
 have DF:=s1.trans s2
 refine⟨_,rfl,_,rfl,_,rfl,_,rfl,_,G,hand,ia,wa,ins,(λx=>decide (x∈goal)),rfl,jL.up DF hG,cU,s2 _ _ hia,rC,λka H3 s3 acn SE=>?_⟩
 have Px:=DF.trans s3
 have SF:H ka=none:=DF.free acn
 refine⟨bE _,λg hg=>?_⟩
 have s4:=az hg (.lst [])
 have s14:=Px.trans s4
 have Wz:H g=none:=Px.free hg
 have Kw:upd H3 g (.lst []) g=some (.lst []):=ar
 have WH:=s4 _ _ (s3 _ _ (s2 _ _ hia))
 have Tj:=s4 _ _ (s3 _ _ rC)
 have Oo:=s4 _ _ SE
 have ngk:g≠ka:=λz=>by rw[z,SE] at hg;cases hg
 generalize upd H3 g (.lst [])=H4 at s4 s14 Kw WH Tj Oo ⊢
 generalize Xn:(λx=>decide (x∈goal))=want at Tj Oo ⊢
 rw[Xn] at q
 refine⟨_,rfl,g0,_,rfl,.inl (bI.of (s14 _ _ jS)),_,rfl,by omega,by omega,pD (lo:=0) (n:=((gv.length:Nat):Int).toNat) (λi ys H5=>H5=H4/\ys=((oO i).filter λp=>ins p && want p).map V.int) ⟨rfl,rfl⟩ (a0b (m:=1000) (by omega)) (λi ys H5 _ h=>?_) (λi ys H5 hi h=>?_) (λys H5 h la Az=>?_)⟩
 ·obtain⟨rfl,rfl⟩:=h
  rw[aj]
  exact cq (dD _ _) (by rw[Gm];exact aA _)
 ·obtain⟨rfl,rfl⟩:=h
  rw[bC,mP] at hi
  have add:∀ b:Bool,(ins ((i:Nat):Int) && want ((i:Nat):Int))=b->((oO (i+1)).filter λp=>ins p && want p).map V.int=((oO i).filter λp=>ins p && want p).map V.int++if b=true then [V.int ((i:Nat):Int)] else []:=λb hb=>by
   rw[L8,cZ,aM]
   congr 1
   cases b with
   | true=>rw[bJ (p:=λp=>ins p && want p) hb];rfl
   | false=>rw[bS (p:=λp=>ins p && want p) (by simp[hb])];rfl
  refine⟨_,rfl,_,rfl,ia,_,_,_,rfl,rfl,bI.of WH,(by rw[vR];exact gq (by omega) (uI (by omega) (by omega))),_,rfl,?_⟩
  refine iO (λc=>?_) (λc=>?_)
  ·refine⟨_,rfl,_,rfl,wa,_,_,_,rfl,rfl,bI.of Tj,(by rw[vR];exact gq (by omega) (uI (by omega) (by omega))),_,rfl,?_⟩
   refine iO (λc2=>?_) (λc2=>?_)
   ·refine⟨_,rfl,rfl,?_⟩
    rw[add true (by rw[c,c2];rfl),if_pos rfl,vR]
   ·refine⟨rfl,?_⟩
    rw[add false (by rw[c];simpa using c2),if_neg (by simp),ef]
  ·refine eJ ?_
   refine⟨rfl,?_⟩
   rw[add false (by rw[Bool.and_eq_false_iff];exact .inl (by simpa using c)),if_neg (by simp),ef]
 obtain⟨rfl,rfl⟩:=h
 rw[bC,mP]
 have s5:=az Az (.lst (((oO G.length).filter λp=>ins p && want p).map V.int))
 have XQ:la≠ka:=λz=>by rw[z,Oo] at Az;cases Az
 have nlg:la≠g:=λz=>by rw[z,Kw] at Az;cases Az
 have nr:r≠ka:=λz=>by have:=hC.hd;rw[z,SF] at this;cases this
 have TN:∀ a∈as,a≠ka:=λa ha z=>by
  obtain⟨i,hi⟩:=cg ha
  obtain⟨_,_,h2⟩:=hC.cell i a hi
  rw[z,SF] at h2;cases h2
 refine⟨λm σ Hx=>Zc λ(Ls:List (List Int)) (L:List Int) (la:ah) (ls:List ah) (k:Nat)=>Qf (σ=[some (.ref g0),some (.ref r),some (.int hand),some (.ref ga),some qv,some (.ref ia),some (.ref wa),some (.ref ka),some (.ref g),some (.ref la)]) (bh H Hx) (Hx g=some (.lst (ls.map V.ref))) (Hx la=some (.lst (L.map V.int))) (H la=none) (la≠ka) (la≠g) (ls.length=Ls.length) ((∀ (i:Nat) a,ls[i]?=some a->∃ l,Ls[i]?=some l/\Hx a=some (.lst (l.map V.int))/\H a=none/\a≠ka/\a≠g)) (Hx ka=some (.lst ((im G.length λp=>((eZ G hand ins want p:Nat):Int)-((cnt G Ls.flatten p:Nat):Int)).map V.int))) (LI G hand ins Ls L) (Seen G hand ins want Ls.flatten (Ls.flatten++L)) (run G hand ins k Ls L=kF G hand ins want) (G.length+1<=k+Ls.flatten.length) (Ls.length<=Ls.flatten.length) (m=G.length-Ls.flatten.length),
  ⟨_,[],a0o G ins want,la,[],G.length+1,rfl,s14.trans s5,s5 _ _ Kw,ar,s14.free Az,XQ,nlg,rfl,(λi a h=>by cases h),?_,LI.start want,Seen.start,rfl,by simp,by simp,rfl⟩,?_⟩
 ·rw[s5 _ _ Oo]
  congr 3
  exact pK λp _ _=>by
   have:cnt G ([]:List (List Int)).flatten p=0:=by unfold cnt;simp
   rw[this];omega
 rintro m σ Hx ⟨Ls,L,la,ls,k,rfl,sx,hxg,Vk,hl0,XQ,nlg,SI,hls,hxk,Si,Km,SW,hk,hLl,rfl⟩
 have hlen:=Si.len
 refine⟨_,rfl,_,.inl ⟨_,bI.of Vk,rfl⟩,?_⟩
 refine iO (λc=>?_) (λc=>?_)
 ·have kx:L≠[]:=λz=>by subst z;simp at c
  have hLp:0<L.length:=b7.mpr kx
  obtain⟨k',rfl⟩:∃ k',k=k'+1:=⟨k-1,by omega⟩
  have W8:run G hand ins k' (Ls++[L]) (Eu G hand ins (Ls.flatten++L))=kF G hand ins want:=by
   rw[← SW];conv=>rhs;unfold run
   rw[if_neg kx]
  have Jp:(Ls++[L]).flatten=Ls.flatten++L:=by simp
  refine⟨λσ' H'=>∃ TD:ah,Vv (σ'=[some (.ref g0),some (.ref r),some (.int hand),some (.ref ga),some qv,some (.ref ia),some (.ref wa),some (.ref ka),some (.ref g),some (.ref TD)]) (bh H H') (H' g=some (.lst ((ls++[la]).map V.ref))) (H' TD=some (.lst ((Eu G hand ins (Ls.flatten++L)).map V.int))) (H TD=none) (TD≠ka) (TD≠g) ((∀ (i:Nat) a,(ls++[la])[i]?=some a->∃ l,(Ls++[L])[i]?=some l/\H' a=some (.lst (l.map V.int))/\H a=none/\a≠ka/\a≠g)) (H' ka=some (.lst ((im G.length λp=>((eZ G hand ins want p:Nat):Int)-((cnt G (Ls.flatten++L) p:Nat):Int)).map V.int))),?_,?_⟩
  ·rintro σ' H' ⟨TD,rfl,a1,a2,a3,a4,a5,a6,a7,a8⟩
   refine⟨_,?_,Ls++[L],Eu G hand ins (Ls.flatten++L),TD,ls++[la],k',rfl,a1,a2,a3,a4,a5,a6,by simp[SI],a7,by rw[Jp];exact a8,Si.next,by rw[Jp];exact Km.next cU.Vt Si.Ic λx hx=>ck _ hx,W8,?_,?_,rfl⟩
   ·rw[Jp,aJ];omega
   ·rw[Jp,aJ];omega
   ·rw[Jp];simp only [aJ,da];omega
  ·refine⟨_,rfl,.inl ⟨rfl,_,bI.of hxg⟩,_,rfl,g,_,_,rfl,rfl,hxg,mK (m:=1000) (by rw[aj];omega),?_⟩
   have sy:=sx.put Wz (.lst (ls.map V.ref++[V.ref la]))
   have hyg:upd Hx g (.lst (ls.map V.ref++[V.ref la])) g=some (.lst ((ls++[la]).map V.ref)):=by rw[ar,aM];rfl
   have hyl:upd Hx g (.lst (ls.map V.ref++[V.ref la])) la=some (.lst (L.map V.int)):=by rw[bB nlg];exact Vk
   have hyk:upd Hx g (.lst (ls.map V.ref++[V.ref la])) ka=some (.lst ((im G.length λp=>((eZ G hand ins want p:Nat):Int)-((cnt G Ls.flatten p:Nat):Int)).map V.int)):=by rw[bB (cS ngk)];exact hxk
   have Vl:∀ (i:Nat) a,ls[i]?=some a->∃ l,Ls[i]?=some l/\upd Hx g (.lst (ls.map V.ref++[V.ref la])) a=some (.lst (l.map V.int))/\H a=none/\a≠ka/\a≠g:=λi a hi=>by
    obtain⟨l,b1,b2,b3,b4,b5⟩:=hls i a hi
    exact⟨l,b1,by rw[bB b5];exact b2,b3,b4,b5⟩
   generalize upd Hx g (.lst (ls.map V.ref++[V.ref la]))=Hy at sy hyg hyl hyk Vl ⊢
   have Ve:=Si.nd
   rw[fB] at Ve
   refine⟨_,rfl,_,rfl,_,rfl,la,r,ka,as,G,hand,ins,want,Ls.flatten,L,rfl,cU,hyl,XQ,hC.up sy,nr,TN,hyk,Ve.2.1,λx hx=>⟨λz=>Ve.2.2 x z x hx rfl,Si.rg x (br _ hx)⟩,λp ns H' s' hp yS hk' pw mem=>?_⟩
   have ens:ns=Eu G hand ins (Ls.flatten++L):=K5 pw (Ev _) λx=>by
    rw[mem x,qo]
    constructor
    ·rintro⟨h1,h2⟩;exact⟨h1,(t4 cU.Vt Km Si.Ic (λy hy=>ck _ hy) h1).mpr h2⟩
    ·rintro⟨h1,h2⟩;exact⟨h1,(t4 cU.Vt Km Si.Ic (λy hy=>ck _ hy) h1).mp h2⟩
   subst ens
   have keep:∀ b o,b≠ka->Hy b=some o->H' b=some o:=λb o hb e=>s' b o (by rw[dJ hb];exact e)
   have npk:p≠ka:=λz=>by rw[z,hyk] at hp;cases hp
   have npg:p≠g:=λz=>by rw[z,hyg] at hp;cases hp
   refine⟨p,rfl,λb o e=>keep b o (λz=>by rw[z,SF] at e;cases e) (sy _ _ e),keep _ _ ngk hyg,yS,sy.free hp,npk,npg,λi a hi=>?_,hk'⟩
   by_cases c2:i<ls.length
   ·rw[b9 c2] at hi
    obtain⟨l,b1,b2,b3,b4,b5⟩:=Vl i a hi
    exact⟨l,by rw[b9 (by omega)];exact b1,keep _ _ b4 b2,b3,b4,b5⟩
   ·have WG:=(ag.mp hi).1
    rw[aJ,da] at WG
    have KB:i=ls.length:=by omega
    subst KB
    rw[cx (aA _),m8] at hi
    have:la=a:=cK hi
    subst this
    exact⟨L,by rw[SI,cx (aA _),m8];rfl,keep _ _ XQ hyl,hl0,XQ,nlg⟩
 ·have hem:L=[]:=by
   cases L with
   | nil=>rfl
   | cons x xs=>exact absurd rfl c
  subst hem
  rw[Gp] at SW
  subst SW
  refine⟨_,rfl,q g Hx sx ⟨g,_,rfl,by rw[hU Wz];exact hxg,zg (by rw[aj];exact SI.symm) λi l v hl hv=>?_⟩⟩
  rw[aB] at hv
  cases e:ls[i]? with
  | none=>rw[e] at hv;cases hv
  | some a =>
   rw[e] at hv;cases hv
   obtain⟨l',b1,b2,b3,_⟩:=hls i a e
   rw[hl] at b1;cases b1
   exact CT b3 b2
def LOk (n:Nat) (R:List (List Int)):Prop:=R.length<=63/\R.flatten.Nodup/\∀ L∈R,L≠[]/\L.Pairwise (·<·)/\L.length<=63/\∀ x∈L,0<=x/\x<n
theorem zl {G:List Row} {hand:Int} {ins:Int->Bool} (k:Nat):∀ (Ls:List (List Int)) (L:List Int),LI G hand ins Ls L->Ls.length<=Ls.flatten.length->(run G hand ins k Ls L).length<=(run G hand ins k Ls L).flatten.length/\(run G hand ins k Ls L).flatten.length<=G.length:=by
 induction k with
 | zero=>intro Ls L h1 h2;exact⟨h2,by have:=h1.len;show Ls.flatten.length<=_;omega⟩
 | succ k ih =>
  intro Ls L h1 h2
  by_cases c:L=[]
  ·subst c
   rw[Gp]
   exact⟨h2,by have:=h1.len;omega⟩
  ·have e:run G hand ins (k+1) Ls L=run G hand ins k (Ls++[L]) (Eu G hand ins (Ls.flatten++L)):=by
    show (if L=[] then Ls else run G hand ins k (Ls++[L]) (Eu G hand ins (Ls.flatten++L)))=_
    rw[if_neg c]
   rw[e]
   refine ih _ _ h1.next ?_
   have:0<L.length:=b7.mpr c
   have Jp:(Ls++[L]).flatten=Ls.flatten++L:=by simp
   rw[Jp]
   simp only [aJ,da];omega
theorem Ct {R:List (List Int)} {L:List Int} (h:L∈R):L.length<=R.flatten.length:=by
 induction R with
 | nil=>cases h
 | cons a R ih =>
  rw[gI,aJ]
  rcases aE.mp h with rfl | h
  ·omega
  ·have:=ih h;omega
theorem AF {G:List Row} {hand:Int} {ins want:Int->Bool} (h:G.length<=63):(kF G hand ins want).length<=63/\∀ L∈kF G hand ins want,L.length<=1000:=by
 obtain⟨h1,h2⟩:=zl (G:=G) (hand:=hand) (ins:=ins) (G.length+1) [] (a0o G ins want) (LI.start want) (by simp)
 refine⟨by unfold kF;omega,λL hL=>?_⟩
 have:=Ct hL
 unfold kF at this
 omega
theorem KZ {G:List Row} {hand:Int} {ins want:Int->Bool} (h:G.length<=63):LOk G.length (kF G hand ins want):=by
 obtain⟨h1,h2⟩:=zl (G:=G) (hand:=hand) (ins:=ins) (G.length+1) [] (a0o G ins want) (LI.start want) (by simp)
 have hl:=rE (G:=G) (hand:=hand) (ins:=ins) (want:=want)
 refine⟨(AF h).1,hl.nd,λL hL=>?_⟩
 obtain⟨k,hk⟩:=cg hL
 obtain⟨c1,c2⟩:=hl.ch k L hk
 have hf:=Ct hL
 unfold kF at hf
 refine⟨c2,?_,by omega,λx hx=>hl.li.rg x (ck _ (xq.mpr ⟨L,hL,hx⟩))⟩
 rw[c1]
 unfold nx
 split
 ·exact (Ba _).filter _
 ·exact Ev _
def Bp:Sp:=λvs H Q _=>Ex6 λ(wa:ah) (ma:ah) (ws:List Int) (n:Nat) (f:Int->Bool) (v:Int)=>Ro (vs=[.ref wa,.ref ma]) (H wa=some (.lst (ws.map V.int))) (H ma=some (.lst (bm n f))) (ws.Pairwise (·<·)) ((∀ x∈ws,0<=x/\x<n)) (ws.length<=40) ((ws.filter f).head?=some v) (∀ H':Hp,bh H H'->Q (.int v) H')
theorem Lo (F:bz K mg "least_way" jO ["ways","marks"]) (T:Txt mg):Dn P w K mg base "least_way" 1 ["ways","marks"] Bp:=by
 have sc:=Bj
 refine F.ok sc (λvs H Q E h=>?_) (λf dk A outer s H vs Q E hr h=>?_)
 ·obtain⟨_,_,_,_,_,_,rfl,_⟩:=h;rfl
 obtain⟨wa,ma,ws,n,f,v,rfl,rC,FF,pw,w2,w3,hv,q⟩:=h
 refine⟨_,(aG (cP (cn (Hn rfl) rfl T.Qz PyProof.Rows.boot_min (af (qS (aC jO) ["ways","marks"] ["way","marks"] 1 [1] (dm (pv 0)) (λ_ _ _ _ _ _=>(eH (show cT (["way","marks"]:List aT) by decide +kernel) rfl rfl)) (λ_ _ _ _ _ _=>(mU (f9 (bM (lA (K:=K) rfl) (pv 1) (pv 0) (λ_ _=>rfl))))) (λ_ _ _ _ _ _=>(pv 0))) av)))),?_⟩
 refine⟨_,rfl,wa,rfl,⟨_,bI.of rC⟩,c8 (K:=K) (a:=wa) (xs:=ws.map V.int) (λk ys H4=>H4=H/\ys=((ws.take k).filter f).map V.int) ⟨rfl,rfl⟩ (a0b (m:=1000) (by rw[aj];omega)) (λk ys H4 hk h=>?_) (λk x ys H4 hk h=>?_) (λys H4 h p hp=>?_)⟩
 ·obtain⟨rfl,rfl⟩:=h
  exact⟨bI.of rC,by rw[aj];exact cq (dD _ _) (by simp;omega)⟩
 ·obtain⟨rfl,rfl⟩:=h
  obtain⟨z,hz,rfl⟩:=fm hk
  obtain⟨z0,z1⟩:=w2 z (am hz)
  refine⟨_,rfl,_,rfl,ma,_,_,_,rfl,rfl,bI.of FF,gq z0 (uI z0 z1),_,rfl,?_⟩
  refine iO (λc4=>?_) (λc4=>?_)
  ·refine⟨_,rfl,rfl,?_⟩
   rw[bv,hz,cZ,aM]
   show _=_++(iD f [z]).map V.int
   rw[bJ c4];rfl
  ·refine⟨rfl,?_⟩
   rw[bv,hz,cZ,aM]
   show _=_++(iD f [z]).map V.int
   rw[bS c4];simp
 obtain⟨rfl,rfl⟩:=h
 rw[aj,aZ]
 refine⟨p,ws.filter f,rfl,bI.of ar,λz=>(by rw[z] at hv;cases hv),λM hM SL=>?_⟩
 rw[D6 (pw.filter _) hv hM SL]
 exact q _ (az hp _)
def YA:Sp:=λvs H Q _=>Ex7 λ(v:V) (lw:V) (G:List Row) (hand:Int) (ins:Int->Bool) (want:Int->Bool) (R:List (List Int))=>JD (vs=[v,.int hand,lw]) (oN H G v) (B5 G) (gb (gb gG) H R lw) (Lay G hand ins want R) (LOk G.length R) (∀ (p:ah) (X:Int->Option Int) (H':Hp),bh H H'->H p=none->H' p=some (.lst (om G.length X))->PR G R (λk p=>lv R (k+1) p/\hd G p=hand) X->Q (.ref p) H')
theorem X3 (F:bz K mg "layer_ways" j8 ["game","hand","layers"]) (T:Txt mg) (eT:Dn P w K mg base "place_marks" 3 ["count","places"] qt) (ph:Dn P w K mg base "least_way" 1 ["ways","marks"] Bp):Dn P w K mg base "layer_ways" 4 ["game","hand","layers"] YA:=by
 have sc:=ye
 refine F.ok sc (λvs H Q E h=>?_) (λf dk A outer s H vs Q E hr h=>?_)
 ·obtain⟨_,_,_,_,_,_,_,rfl,_⟩:=h;rfl
 obtain⟨v,lw,G,hand,ins,want,R,rfl,hG,cU,⟨va,zy,rfl,hv,Pn⟩,hL,⟨hR1,hR2,hR3⟩,q⟩:=h
 obtain⟨g0,gv,rfl,jS,mP,eU⟩:=fu hG
 have D5:=cU.1
 have e1:=Pn.length
 refine⟨_,(au (bP (i:=3) sc.nd rfl (bi rfl) (bX uw (fb (af mj av)) (cn (iu (K:=K) rfl) rfl T.iq bN (af (pv 0) av))))
   (au (eS bn rfl (wL (K:=K) rfl rfl T.yC (af (pv 2) (af (C8 (slL (K:=K) rfl) (pv 2) (Gf aK) Ge) av))) (ml rfl (dN (cE (i:=4) sc.nd rfl (bi rfl)) (dN (cE (i:=5) sc.nd rfl (bi rfl)) j5)))
   (au (bP (i:=6) sc.nd rfl (bi rfl) (cO eT hr (af (cn (iu (K:=K) rfl) rfl T.iq bN (af (pv 0) av)) (af (pv 4) av))))
   (aG (eS bn rfl (dm (pv 5)) (cE (i:=7) sc.nd rfl (bi rfl))
   (aG (fo (dG md (bM (mQ (K:=K) rfl) (bM (lA (K:=K) rfl) (pv 0) (pv 7) (λ_ _=>rfl)) aK (λ_ _=>rfl)) (pv 1) (dM _))
   (aG (oA (cO ph hr (af (bM (mQ (K:=K) rfl) (bM (lA (K:=K) rfl) (pv 0) (pv 7) (λ_ _=>rfl)) aK (λ_ _=>rfl)) (af (pv 6) av))) (oz (pv 3) (pv 7) a0e)))
   dq))))))
   (aG (cP (pv 3))))),?_⟩
 refine⟨(by show 1<=aL;decide),λn1 NA=>?_⟩
 have s1:=az NA (.lst [V.e8])
 refine⟨_,rfl,g0,_,rfl,.inl (bI.of (s1 _ _ jS)),n1,_,_,rfl,rfl,ar,by omega,by omega,a0b (m:=1000) (by simp;omega),λra AC=>?_⟩
 have s2:=s1.trans (az AC (.lst (aH ((gv.length:Nat):Int).toNat [V.e8]).flatten))
 have Ia:H ra=none:=s1.free AC
 have SV:upd (upd H n1 (.lst [V.e8])) ra (.lst (aH ((gv.length:Nat):Int).toNat [V.e8]).flatten) ra=some (.lst (om G.length λ_=>none)):=by
  rw[ar,bC,LA,mP]
 generalize upd (upd H n1 (.lst [V.e8])) ra (.lst (aH ((gv.length:Nat):Int).toNat [V.e8]).flatten)=H1 at s2 SV ⊢
 refine⟨_,rfl,_,rfl,_,rfl,va,_,rfl,bI.of (s2 _ _ hv),λvb Jr=>?_⟩
 rw[yN]
 have s3:=s2.trans (az Jr (.lst (zy.drop 1)))
 have Te:upd H1 vb (.lst (zy.drop 1)) vb=some (.lst (zy.drop 1)):=ar
 have W6:=az Jr (.lst (zy.drop 1)) _ _ SV
 have nbr:vb≠ra:=λz=>by rw[z,SV] at Jr;cases Jr
 have ajk:H vb=none:=s2.free Jr
 generalize upd H1 vb (.lst (zy.drop 1))=H3 at s3 Te W6 ⊢
 have nvr:va≠ra:=λz=>by rw[z,Ia] at hv;cases hv
 have hS:∀ Hx:Hp,bh H Hx->bI K Hx va zy:=λHx sx=>bI.of (sx _ _ hv)
 refine⟨va,vb,rfl,⟨_,hS _ s3⟩,⟨_,bI.of Te⟩,Kg (K:=K) (a:=va) (b:=vb) (xs:=zy) (ys:=zy.drop 1) (zy.length-1) (by omega) (by simp) (.inr (by simp)) (λi σ H4=>Zc λ(y1:Option V) (y2:Option V) (y3:Option V) (y4:Option V) (X:Int->Option Int)=>GX (σ=[some (.ref g0),some (.int hand),some (.ref va),some (.ref ra),y1,y2,y3,y4]) (bh H H4) (H4 vb=some (.lst (zy.drop 1))) (H4 ra=some (.lst (om G.length X))) (PR G R (λk p=>k<i/\lv R (k+1) p/\hd G p=hand) X))
  ⟨_,_,_,_,_,rfl,s3,Te,W6,PR.zero _ λk p z=>by omega⟩ (λi σ H4 _ h=>?_) (λi x y σ H4 Tt ot hi1 WG h hT=>?_) (λσ H4 h=>?_)⟩
 ·obtain⟨_,_,_,_,_,_,s4,Sq,_⟩:=h
  exact⟨hS _ s4,bI.of Sq⟩
 ·obtain ⟨y1,y2,y3,y4,X,rfl,s4,Sq,QP,hX⟩:=h
  obtain⟨A0,hA⟩:∃ L,R[i]?=some L:=⟨R[i]'(by omega),by simp⟩
  obtain⟨B0,hB⟩:∃ L,R[i+1]?=some L:=⟨R[i+1]'(by omega),by simp⟩
  obtain⟨x',Xq,rx⟩:=Paired.at Pn hA
  rw[hi1] at Xq;cases Xq
  obtain⟨ca,rfl,Wo⟩:=fL.mp rx
  obtain⟨y',Z3,ry⟩:=Paired.at Pn hB
  rw[km,vT,Z3] at WG;cases WG
  obtain⟨cb,rfl,hcb⟩:=fL.mp ry
  have sT:=az hT (.tup [.ref ca,.ref cb])
  refine⟨Tt,_,rfl,gJ.of ar,rfl,_,_,rfl,_,_,rfl,rfl,?_⟩
  have s5:=s4.trans sT
  have hb5:=sT _ _ Sq
  have hr5:=sT _ _ QP
  generalize upd H4 Tt (.tup [.ref ca,.ref cb])=H5 at sT s5 hb5 hr5 ⊢
  refine⟨_,rfl,g0,_,rfl,.inl (bI.of (s5 _ _ jS)),_,rfl,gv.length,ca,A0,rfl,by omega,s5 _ _ Wo,λma H6 s6 HZ FF=>?_⟩
  have Yu:=s5.trans s6
  have Wn:=s6 _ _ hb5
  have ZR:=s6 _ _ hr5
  have nmr:ma≠ra:=λz=>by rw[z,hr5] at HZ;cases HZ
  rw[mP] at FF
  obtain⟨_,_,_,Br⟩:=hR3 B0 (am hB)
  have eA:CZ R i=A0:=by unfold CZ;rw[hA];rfl
  have hBl:=(hR3 B0 (am hB)).2.2.1
  have abA:B0.Nodup:=pQ (hR3 B0 (am hB)).2.1
  refine⟨_,rfl,cb,rfl,⟨_,bI.of (Yu _ _ hcb)⟩,iN (K:=K) (a:=cb) (xs:=B0.map V.int) (λj σ H7=>Ql λ(y4:Option V) (X:Int->Option Int)=>NH (σ=[some (.ref g0),some (.int hand),some (.ref va),some (.ref ra),some (.ref ca),some (.ref cb),some (.ref ma),y4]) (bh H H7) (H7 vb=some (.lst (zy.drop 1))) (H7 ma=some (.lst (bm G.length λx=>decide (x∈A0)))) (H7 ra=some (.lst (om G.length X))) (PR G R (λk p=>(k<i/\lv R (k+1) p/\hd G p=hand)\/(k=i/\p∈B0.take j/\hd G p=hand)) X))
   ⟨_,X,rfl,Yu,Wn,FF,ZR,hX.congr λk p=>by simp⟩ (λj σ H7 _ h=>?_) (λj x σ H7 hj h=>?_) (λσ H7 h=>?_)⟩
  ·obtain⟨_,_,_,s7,_⟩:=h
   exact bI.of (s7 _ _ hcb)
  ·obtain ⟨y4,X,rfl,s7,Zw,ZM,ZS,hX⟩:=h
   obtain⟨z,hz,rfl⟩:=fm hj
   have hzB:=am hz
   obtain⟨z0,z1⟩:=Br z hzB
   obtain⟨row,iT⟩:∃ row,G[z.toNat]?=some row:=⟨G[z.toNat]'(by omega),by simp⟩
   obtain⟨t,wa,p1,p2,p3⟩:=eU z.toNat row iT
   have QB:=Cw iT
   have V2:=xo iT
   obtain⟨w1,w2,w3⟩:=cU.2 row (am iT)
   have Ko:o6 gv z=some (.ref t):=gq z0 p1
   have hlz:lv R (i+1) z:=⟨B0,hB,hzB⟩
   have hzt:z ∉ B0.take j:=λot=>by
    have xt:=(ag.mp hz)
    have hdr:B0.drop j=z::B0.drop (j+1):=by rw[jC xt.1,xt.2]
    have SU:=abA
    rw[← gi j B0,hdr,fB] at SU
    exact SU.2.2 z ot z (aP ..) rfl
   refine⟨_,rfl,_,rfl,g0,_,_,_,rfl,rfl,bI.of (s7 _ _ jS),Ko,t,_,_,_,rfl,rfl,gJ.of (s7 _ _ p2),bV (j:=0) rfl,_,rfl,rfl,_,rfl,?_⟩
   refine iO (λc=>?_) (λc=>?_)
   ·have hh:hd G z=hand:=by have:=of_decide_eq_true c;injection this with e;rw[QB];exact e
    obtain⟨pv9,hpk,_,_⟩:=hL.pick hlz hh
    have SS:=hpk
    unfold Dc at SS
    rw[eA,V2] at SS
    refine⟨_,rfl,_,rfl,g0,_,_,_,rfl,rfl,bI.of (s7 _ _ jS),Ko,t,_,_,_,rfl,rfl,gJ.of (s7 _ _ p2),bV (j:=2) rfl,_,rfl,wa,ma,row.2.2,G.length,_,pv9,rfl,s7 _ _ p3,ZM,w1,w2,w3,SS,λH8 s8=>?_⟩
    have ZT:=s8 _ _ ZS
    refine⟨_,rfl,_,rfl,ra,_,_,z.toNat,rfl,rfl,ZT,?_,?_⟩
    ·unfold xX;rw[nu,if_pos z0,if_pos z1]
    ·refine⟨_,_,rfl,(s7.trans s8).put Ia _,by rw[bB nbr];exact s8 _ _ Zw,by rw[bB nmr];exact s8 _ _ ZM,by rw[ar,T5 z0 z1],hX.set (i:=i) (λk p hp=>?_) (λk=>?_) hpk⟩
     ·rw[cJ hz]
      constructor
      ·rintro (h | ⟨h1,h2 | h2,h3⟩)
       ·exact .inl h
       ·exact .inr ⟨h1,h2,h3⟩
       ·exact absurd h2 hp
      ·rintro (h | ⟨h1,h2,h3⟩)
       ·exact .inl h
       ·exact .inr ⟨h1,.inl h2,h3⟩
     ·constructor
      ·rintro (⟨h1,h2,_⟩ | ⟨h1,_⟩)
       ·have:=nq hL.nd h2 hlz;omega
       ·exact h1
      ·rintro rfl
       exact .inr ⟨rfl,(cJ hz).mpr (.inr rfl),hh⟩
   ·have hh:¬ hd G z=hand:=λe=>c (decide_eq_true (by rw[← e,QB]))
    refine⟨_,_,rfl,s7,Zw,ZM,ZS,hX.congr λk p=>?_⟩
    rw[cJ hz]
    constructor
    ·rintro (h | ⟨h1,h2,h3⟩)
     ·exact .inl h
     ·exact .inr ⟨h1,.inl h2,h3⟩
    ·rintro (h | ⟨h1,h2 | h2,h3⟩)
     ·exact .inl h
     ·exact .inr ⟨h1,h2,h3⟩
     ·rw[h2] at h3;exact absurd h3 hh
  ·obtain⟨y4,X,rfl,s7,Zw,ZM,ZS,hX⟩:=h
   rw[aj,aZ] at hX
   refine⟨_,_,_,_,X,rfl,s7,Zw,ZS,hX.congr λk p=>?_⟩
   constructor
   ·rintro (⟨h1,h2⟩ | ⟨rfl,h2,h3⟩)
    ·exact⟨by omega,h2⟩
    ·exact⟨by omega,⟨B0,hB,h2⟩,h3⟩
   ·rintro⟨h1,h2,h3⟩
    by_cases c:k<i
    ·exact .inl ⟨c,h2,h3⟩
    ·have:k=i:=by omega
     subst this
     obtain⟨M,hM,hp⟩:=h2
     rw[hB] at hM;cases hM
     exact .inr ⟨rfl,hp,h3⟩
 ·obtain⟨y1,y2,y3,y4,X,rfl,s4,Sq,QP,hX⟩:=h
  exact⟨_,rfl,q ra X H4 s4 Ia QP (hX.congr λk p=>⟨λz=>z.2,λz=>⟨by have:=CP z.1;omega,z⟩⟩)⟩
def DD (v:V) (r ha wa:ah):List (aT × V):=bZ "ways" (.ref wa) (bZ "hands" (.ref ha) (bZ "entries" (.ref r) (bZ "game" v [])))
theorem kU (v:V) (r ha wa:ah):(DD v r ha wa).lookup ("game" : aT)=some v:=by
 unfold DD
 rw[aQ,if_neg (by decide +kernel),aQ,if_neg (by decide +kernel),aQ,if_neg (by decide +kernel),aQ,if_pos rfl]
theorem Cr (v:V) (r ha wa:ah):(DD v r ha wa).lookup ("entries" : aT)=some (.ref r):=by
 unfold DD
 rw[aQ,if_neg (by decide +kernel),aQ,if_neg (by decide +kernel),aQ,if_pos rfl]
theorem qk (v:V) (r ha wa:ah):(DD v r ha wa).lookup ("hands" : aT)=some (.ref ha):=by
 unfold DD
 rw[aQ,if_neg (by decide +kernel),aQ,if_pos rfl]
theorem sh (v:V) (r ha wa:ah):(DD v r ha wa).lookup ("ways" : aT)=some (.ref wa):=by
 unfold DD
 rw[aQ,if_pos rfl]
theorem oj (v:V) (r ha wa:ah) {m:aT} (h1:¬ m = "ways") (h2:¬ m = "hands") (h3:¬ m = "entries") (h4:¬ m = "game"):(DD v r ha wa).lookup m=none:=by
 unfold DD
 rw[aQ,if_neg h1,aQ,if_neg h2,aQ,if_neg h3,aQ,if_neg h4];rfl
abbrev uF:List aT:=["game","entries","hands","ways"]
structure zZ (C:ah) (H:Hp) (x:ah) (v:V) (r:ah) (as:List ah) (ha wa:ah) (G:List Row):Prop where
 ob:∃ dx,H x=some (.ins C dx (DD v r ha wa))
 hg:oN H G v
 hc:Cells H r as (wi G G.length)
theorem zZ.up {C x r ha wa:ah} {H H':Hp} {v:V} {as:List ah} {G:List Row} (o:zZ C H x v r as ha wa G) (s:bh H H'):zZ C H' x v r as ha wa G:=by
 obtain⟨⟨dx,h1⟩,h2,h3⟩:=o
 exact⟨⟨dx,s _ _ h1⟩,jL.up s h2,h3.up s⟩
variable {C:ah}
def Gw (C:ah):Sp:=λvs H Q _=>Zc λ(x:ah) (dx:ah) (v:V) (G:List Row) (H0:Hp)=>JD (vs=[.ref x,v]) (bh H0 H) (H0 x=none) (H x=some (.ins C dx [])) (oN H0 G v) (B5 G) (∀ (r:ah) (as:List ah) (ha wa:ah) (H':Hp),ha≠wa->H0 ha=none->H0 wa=none->bh H0 (mn H' ha wa)->zZ C (mn H' ha wa) x v r as ha wa G->H' ha=some (.lst ((im G.length λ_=>0).map V.int))->H' wa=some (.lst (om G.length λ_=>none))->Q .e8 H')
theorem O1 (F:uW K C "Cutter.__init__" gw ["self","game"]) (T:Txt mg) (aN:ClsAt K mg "Cutter" C uF) (G1:Dn P w K mg base "ways_in" 1 ["game"] Yz):Qk P w K mg base C 2 ["self","game"] (Gw C):=by
 have sc:=rG
 refine F.ok sc (λvs H Q E h=>?_) (λf dk A outer s H vs Q E hr h=>?_)
 ·obtain⟨_,_,_,_,_,rfl,_⟩:=h;rfl
 obtain⟨x,dx,v,G,H0,rfl,s0,OD,hx,hG,cU,q⟩:=h
 have D5:=cU.1
 obtain⟨g0,gv,rfl,jS,mP,_⟩:=fu hG
 refine⟨_,(au (fU (K:=K) rfl (pv 0) (pv 1) rfl)
   (au (fU (K:=K) rfl (pv 0) (cO G1 hr (af (pv 1) av)) rfl)
   (au (fU (K:=K) rfl (pv 0) (bX uw (fb (af aK av)) (cn (iu (K:=K) rfl) rfl T.iq bN (af (pv 1) av))) rfl)
   (aG (fU (K:=K) rfl (pv 0) (bX uw (fb (af mj av)) (cn (iu (K:=K) rfl) rfl T.iq bN (af (pv 1) av))) rfl))))),?_⟩
 refine⟨_,rfl,_,rfl,x,C,dx,[],rfl,hx,aN.cl,aN.na _ (by decide +kernel),(by show 0<1000;decide),?_⟩
 have s1:bh H0 (upd H x (.ins C dx (bZ "game" (.ref g0) []))):=s0.put OD _
 have Ec:upd H x (.ins C dx (bZ "game" (.ref g0) [])) x=some (.ins C dx (bZ "game" (.ref g0) [])):=ar
 generalize upd H x (.ins C dx (bZ "game" (.ref g0) []))=H1 at s1 Ec ⊢
 refine⟨_,rfl,_,G,rfl,jL.up s1 hG,cU,λr as H2 s2 FG wm hC=>?_⟩
 have Jt:=s2 _ _ Ec
 refine⟨_,rfl,x,C,dx,_,rfl,Jt,aN.cl,aN.na _ (by decide +kernel),(by show 1<1000;decide),?_⟩
 have nrx:r≠x:=e7 Ec FG
 have nax:∀ a∈as,a≠x:=λa ha=>e7 Ec (wm a ha)
 have hC3:Cells (L2.del H2 x) r as (wi G G.length):=yL hC nrx nax
 have s3:bh H0 (upd H2 x (.ins C dx (bZ "entries" (.ref r) (bZ "game" (.ref g0) [])))):=(s1.trans s2).put OD _
 have hC4:Cells (L2.del (upd H2 x (.ins C dx (bZ "entries" (.ref r) (bZ "game" (.ref g0) [])))) x) r as (wi G G.length):=by rw[iZ];exact hC3
 have FJ:upd H2 x (.ins C dx (bZ "entries" (.ref r) (bZ "game" (.ref g0) []))) x=some (.ins C dx (bZ "entries" (.ref r) (bZ "game" (.ref g0) []))):=ar
 generalize upd H2 x (.ins C dx (bZ "entries" (.ref r) (bZ "game" (.ref g0) [])))=H3 at s3 hC4 FJ ⊢
 refine⟨(by show 1<=aL;decide),λn1 NA=>?_⟩
 have s4:=az NA (.lst [V.int 0])
 refine⟨_,rfl,g0,_,rfl,.inl (bI.of ((s3.trans s4) _ _ jS)),n1,_,_,rfl,rfl,ar,by omega,by omega,a0b (m:=1000) (by simp;omega),λha BJ=>?_⟩
 have s5:=az BJ (.lst (aH ((gv.length:Nat):Int).toNat [V.int 0]).flatten)
 have WF:upd (upd H3 n1 (.lst [V.int 0])) ha (.lst (aH ((gv.length:Nat):Int).toNat [V.int 0]).flatten) ha=some (.lst ((im G.length λ_=>0).map V.int)):=by
  rw[ar,bC,Tq,mP]
 have s35:=s4.trans s5
 have Sz:H3 ha=none:=s4.free BJ
 generalize upd (upd H3 n1 (.lst [V.int 0])) ha (.lst (aH ((gv.length:Nat):Int).toNat [V.int 0]).flatten)=H5 at s5 s35 WF ⊢
 have nhx:ha≠x:=e7 FJ Sz
 refine⟨_,rfl,x,C,dx,_,rfl,s35 _ _ FJ,aN.cl,aN.na _ (by decide +kernel),(by show 2<1000;decide),?_⟩
 have s6:bh (L2.del H3 x) (upd H5 x (.ins C dx (bZ "hands" (.ref ha) (bZ "entries" (.ref r) (bZ "game" (.ref g0) []))))):=((jn H3 x).trans s35).put (by unfold L2.del;rw[if_pos rfl]) _
 have To:upd H5 x (.ins C dx (bZ "hands" (.ref ha) (bZ "entries" (.ref r) (bZ "game" (.ref g0) [])))) x=some (.ins C dx (bZ "hands" (.ref ha) (bZ "entries" (.ref r) (bZ "game" (.ref g0) [])))):=ar
 have SA:upd H5 x (.ins C dx (bZ "hands" (.ref ha) (bZ "entries" (.ref r) (bZ "game" (.ref g0) [])))) ha=some (.lst ((im G.length λ_=>0).map V.int)):=by rw[bB nhx];exact WF
 generalize upd H5 x (.ins C dx (bZ "hands" (.ref ha) (bZ "entries" (.ref r) (bZ "game" (.ref g0) []))))=H6 at s6 To SA ⊢
 have s03:bh H0 (L2.del H3 x):=λb o e=>by rw[dJ (λz=>by rw[z,OD] at e;cases e)];exact s3 _ _ e
 have Yu:=s03.trans s6
 refine⟨(by show 1<=aL;decide),λn2 KH=>?_⟩
 have s7:=az KH (.lst [V.e8])
 refine⟨_,rfl,g0,_,rfl,.inl (bI.of ((Yu.trans s7) _ _ jS)),n2,_,_,rfl,rfl,ar,by omega,by omega,a0b (m:=1000) (by simp;omega),λwa rC=>?_⟩
 have s8:=az rC (.lst (aH ((gv.length:Nat):Int).toNat [V.e8]).flatten)
 have Xm:upd (upd H6 n2 (.lst [V.e8])) wa (.lst (aH ((gv.length:Nat):Int).toNat [V.e8]).flatten) wa=some (.lst (om G.length λ_=>none)):=by
  rw[ar,bC,LA,mP]
 have s68:=s7.trans s8
 have Oy:H6 wa=none:=s7.free rC
 generalize upd (upd H6 n2 (.lst [V.e8])) wa (.lst (aH ((gv.length:Nat):Int).toNat [V.e8]).flatten)=H8 at s8 s68 Xm ⊢
 have Vo:wa≠x:=e7 To Oy
 have nwh:wa≠ha:=e7 SA Oy
 refine⟨_,rfl,x,C,dx,_,rfl,s68 _ _ To,aN.cl,aN.na _ (by decide +kernel),(by show 3<1000;decide),?_⟩
 have hx9:upd H8 x (.ins C dx (DD (.ref g0) r ha wa)) x=some (.ins C dx (DD (.ref g0) r ha wa)):=ar
 have s9:bh (L2.del H3 x) (upd H8 x (.ins C dx (DD (.ref g0) r ha wa))):=(s6.trans s68).put (by unfold L2.del;rw[if_pos rfl]) _
 have acg:upd H8 x (.ins C dx (DD (.ref g0) r ha wa)) ha=some (.lst ((im G.length λ_=>0).map V.int)):=by rw[bB nhx];exact s68 _ _ SA
 have ade:upd H8 x (.ins C dx (DD (.ref g0) r ha wa)) wa=some (.lst (om G.length λ_=>none)):=by rw[bB Vo];exact Xm
 have hh0:H0 ha=none:=s3.free Sz
 have KQ:H0 wa=none:=Yu.free Oy
 have hdh:L2.del H3 x ha=none:=by rw[dJ nhx];exact Sz
 have hdw:L2.del H3 x wa=none:=s6.free Oy
 have sm:=XI s9 hdh hdw
 exact q r as ha wa _ (cS nwh) hh0 KQ (s03.trans sm) ⟨⟨dx,by rw[pT (cS nhx) (cS Vo)];exact hx9⟩,jL.up (s03.trans sm) hG,hC4.up sm⟩ acg ade
def Bt (C:ah):Sp:=λvs H Q _=>Vy λ(x:ah) (v:V) (r:ah) (as:List ah) (ha:ah) (wa:ah) (G:List Row) (hand:Int) (ga:ah) (la:ah) (goal:List Int) (left:List Int)=>NH (vs=[.ref x,.int hand,.ref ga,.ref la]) (zZ C H x v r as ha wa G) (B5 G) (H ga=some (.lst (goal.map V.int))) (H la=some (.lst (left.map V.int))) (∀ (p:ah) (H':Hp),bh H H'->gb (gb gG) (nW H H') (kF G hand (λx=>decide (x∈left)) λx=>decide (x∈goal)) (.ref p)->Q (.ref p) H')
theorem Lv (F:iG K C "pull" "Cutter.pull" jr ["self","hand","goal","left"]) (T:Txt mg) (aN:ClsAt K mg "Cutter" C uF) (B2:Dn P w K mg base "layers_to" 5 ["game","entries","hand","goal","part"] Dk):xI P w K mg base C "pull" 6 ["self","hand","goal","left"] (Bt C):=by
 have sc:=wT
 refine F.ok sc (λvs H Q E h=>?_) (λf dk A outer s H vs Q E hr h=>?_)
 ·obtain⟨_,_,_,_,_,_,_,_,_,_,_,_,rfl,_⟩:=h;rfl
 obtain⟨x,v,r,as,ha,wa,G,hand,ga,la,goal,left,rfl,⟨⟨dx,hx⟩,hG,hC⟩,cU,Sv,Az,q⟩:=h
 refine⟨_,(aG (cP (cO B2 hr (af (bW (K:=K) rfl (pv 0) rfl) (af (bW (K:=K) rfl (pv 0) rfl) (af (pv 1) (af (pv 2) (af (pv 3) av)))))))),?_⟩
 exact⟨_,rfl,x,C,dx,_,_,rfl,hx,aN.cl,aN.na _ (by decide +kernel),kU _ _ _ _,_,rfl,x,C,dx,_,_,rfl,hx,aN.cl,aN.na _ (by decide +kernel),Cr _ _ _ _,_,rfl,_,rfl,_,rfl,v,.ref la,G,hand,r,ga,as,goal,_,rfl,hG,cU,hC,Sv,.inr ⟨la,left,rfl,Az,rfl⟩,λp H1 s1 hp=>q p H1 s1 hp⟩
def uE (C:ah):Sp:=λvs H Q _=>Rx λ(x:ah) (v:V) (r:ah) (as:List ah) (ha:ah) (wa:ah) (G:List Row) (la:ah) (pa:ah) (left:List Int) (ps:List Int)=>Ro (vs=[.ref x,.ref la,.ref pa]) (zZ C H x v r as ha wa G) (B5 G) (H la=some (.lst (left.map V.int))) (H pa=some (.lst (ps.map V.int))) ((∀ z∈left,0<=z/\z<G.length)) (left.length<=63) (∀ (p:ah) (H':Hp),bh H H'->H p=none->H' p=some (.lst ((left.filter λz=>!decide (z∈ps)).map V.int))->Q (.ref p) H')
theorem EA (F:iG K C "without" "Cutter.without" fM ["self","left","places"]) (T:Txt mg) (aN:ClsAt K mg "Cutter" C uF) (eT:Dn P w K mg base "place_marks" 3 ["count","places"] qt):xI P w K mg base C "without" 4 ["self","left","places"] (uE C):=by
 have sc:=sS
 refine F.ok sc (λvs H Q E h=>?_) (λf dk A outer s H vs Q E hr h=>?_)
 ·obtain⟨_,_,_,_,_,_,_,_,_,_,_,rfl,_⟩:=h;rfl
 obtain⟨x,v,r,as,ha,wa,G,la,pa,left,ps,rfl,⟨⟨dx,hx⟩,hG,hC⟩,cU,Az,Jq,HX,SI,q⟩:=h
 obtain⟨g0,gv,rfl,jS,mP,_⟩:=fu hG
 have D5:=cU.1
 refine⟨_,(au (bP (i:=3) sc.nd rfl (tI rfl) (cO eT hr (af (cn (iu (K:=K) rfl) rfl T.iq bN (af (bW (K:=K) rfl (pv 0) rfl) av)) (af (pv 2) av))))
   (aG (cP (qS (aC fM) ["self","left","places","marks"] ["place","marks"] 1 [3] (dm (pv 1)) (λ_ _ _ _ _ _=>(eH (show cT (["place","marks"]:List aT) by decide +kernel) rfl rfl)) (λ_ _ _ _ _ _=>(mU (mm (f9 (bM (lA (K:=K) rfl) (pv 1) (pv 0) (λ_ _=>rfl)))))) (λ_ _ _ _ _ _=>(pv 0)))))),?_⟩
 refine⟨_,rfl,x,C,dx,_,_,rfl,hx,aN.cl,aN.na _ (by decide +kernel),kU _ _ _ _,g0,_,rfl,.inl (bI.of jS),_,rfl,gv.length,pa,ps,rfl,by omega,Jq,λma H1 s1 HZ FF=>?_⟩
 rw[mP] at FF
 refine⟨_,rfl,la,rfl,⟨_,bI.of (s1 _ _ Az)⟩,c8 (K:=K) (a:=la) (xs:=left.map V.int) (λk ys H3=>H3=H1/\ys=((left.take k).filter λz=>!decide (z∈ps)).map V.int) ⟨rfl,rfl⟩ (a0b (m:=1000) (by rw[aj];omega)) (λk ys H3 hk h=>?_) (λk y ys H3 hk h=>?_) (λys H3 h p hp=>?_)⟩
 ·obtain⟨rfl,rfl⟩:=h
  exact⟨bI.of (s1 _ _ Az),by rw[aj];exact cq (dD _ _) (by simp;omega)⟩
 ·obtain⟨rfl,rfl⟩:=h
  obtain⟨z,hz,rfl⟩:=fm hk
  obtain⟨z0,z1⟩:=HX z (am hz)
  refine⟨_,rfl,_,rfl,ma,_,_,_,rfl,rfl,bI.of FF,gq z0 (uI z0 z1),_,rfl,?_⟩
  refine iO (λc4=>?_) (λc4=>?_)
  ·refine⟨_,rfl,rfl,?_⟩
   rw[bv,hz,cZ,aM]
   show _=_++(iD (λz=>!decide (z∈ps)) [z]).map V.int
   rw[bJ (p:=λz=>!decide (z∈ps)) c4];rfl
  ·refine⟨rfl,?_⟩
   rw[bv,hz,cZ,aM]
   show _=_++(iD (λz=>!decide (z∈ps)) [z]).map V.int
   rw[bS (p:=λz=>!decide (z∈ps)) c4];simp
 obtain⟨rfl,rfl⟩:=h
 rw[aj,aZ]
 exact q p _ (s1.trans (az hp _)) (s1.free hp) ar
def tl (R:List (List Int)):List Int:=(R.drop 1).flatten
theorem nB {R:List (List Int)} {p:Int}:p∈tl R↔∃ k,lv R (k+1) p:=by
 unfold tl
 rw[sH]
 constructor
 ·rintro⟨j,L,h,hp⟩
  rw[km,vT] at h
  exact⟨j,L,h,hp⟩
 ·rintro⟨j,L,h,hp⟩
  exact⟨j,L,by rw[km,vT];exact h,hp⟩
def ER (C:ah):Sp:=λvs H Q _=>Ry λ(x:ah) (v:V) (r:ah) (as:List ah) (ha:ah) (wa:ah) (G:List Row) (hand:Int) (lw:V) (ins:Int->Bool) (want:Int->Bool) (R:List (List Int)) (hf:Int->Int) (wf:Int->Option Int)=>JB (vs=[.ref x,.int hand,lw]) (ha≠wa) (zZ C (mn H ha wa) x v r as ha wa G) (B5 G) (gb (gb gG) (mn H ha wa) R lw) (Lay G hand ins want R) (LOk G.length R) (H ha=some (.lst ((im G.length hf).map V.int))) (H wa=some (.lst (om G.length wf))) (∀ (X:Int->Option Int) (H':Hp),bh (mn H ha wa) H'->H' ha=some (.lst ((im G.length λp=>if p∈tl R then hand else hf p).map V.int))->H' wa=some (.lst (om G.length λp=>if p∈tl R then X p else wf p))->PR G R (λk p=>lv R (k+1) p/\hd G p=hand) X->Q .e8 H')
theorem O0 (F:iG K C "give" "Cutter.give" jq ["self","hand","layers"]) (T:Txt mg) (aN:ClsAt K mg "Cutter" C uF) (zU:Dn P w K mg base "layer_ways" 4 ["game","hand","layers"] YA):xI P w K mg base C "give" 5 ["self","hand","layers"] (ER C):=by
 have sc:=wR
 refine F.ok sc (λvs H Q E h=>?_) (λf dk A outer s H vs Q E hr h=>?_)
 ·obtain⟨_,_,_,_,_,_,_,_,_,_,_,_,_,_,rfl,_⟩:=h;rfl
 obtain⟨x,v,r,as,ha,wa,G,hand,lw,ins,want,R,hf,wf,rfl,FX,hO,cU,hR,hL,Wh,BJ,rC,q⟩:=h
 obtain⟨⟨dx,hx⟩,hG,hC⟩:=id hO
 have D5:=cU.1
 have hxH:=kQ _ _ hx
 refine⟨_,(au (bP (i:=3) sc.nd rfl (bi rfl) (cO zU hr (af (bW (K:=K) rfl (pv 0) rfl) (af (pv 1) (af (pv 2) av)))))
   (aG (eS bn rfl (dm (C8 (slL (K:=K) rfl) (pv 2) (Gf aK) Ge)) (cE (i:=4) sc.nd rfl (bi rfl))
   (aG (eS bn rfl (dm (pv 4)) (cE (i:=5) sc.nd rfl (bi rfl))
   (au (oA (pv 1) (oz (bW (K:=K) rfl (pv 0) rfl) (pv 5) a0e))
   (aG (oA (bM (lA (K:=K) rfl) (pv 3) (pv 5) (λ_ _=>rfl)) (oz (bW (K:=K) rfl (pv 0) rfl) (pv 5) a0e))))))))),?_⟩
 have sM:bh (mn H ha wa) H:=kQ
 refine⟨_,rfl,x,C,dx,_,_,rfl,hxH,aN.cl,aN.na _ (by decide +kernel),kU _ _ _ _,_,rfl,_,rfl,v,lw,G,hand,ins,want,R,rfl,jL.up sM hG,cU,(cN (cN cR)).up sM hR,hL,Wh,λra X H1 s1 Ia AC hX=>?_⟩
 obtain⟨va,zy,rfl,hv,Pn⟩:=hR
 have nrh:ra≠ha:=e7 BJ Ia
 have nrw:ra≠wa:=e7 rC Ia
 have Yt:bh (mn H ha wa) (mn H1 ha wa):=j3 s1
 refine⟨_,rfl,_,rfl,va,_,rfl,bI.of (s1 _ _ (sM _ _ hv)),λvb Jr=>?_⟩
 rw[yN]
 have nbh:vb≠ha:=e7 (s1 _ _ BJ) Jr
 have nbw:vb≠wa:=e7 (s1 _ _ rC) Jr
 have s2:=az Jr (.lst (zy.drop 1))
 have Tf:upd H1 vb (.lst (zy.drop 1)) vb=some (.lst (zy.drop 1)):=ar
 have DF:=s1.trans s2
 have W5:=s2 _ _ AC
 generalize upd H1 vb (.lst (zy.drop 1))=H2 at s2 Tf DF W5 ⊢
 have hvl:=Pn.length
 have pvd:dP (gb gG (mn H ha wa)) (R.drop 1) (zy.drop 1):=by
  cases Pn with
  | nil=>exact .nil
  | cons _ t=>exact t
 have Oi:=pvd.length
 refine⟨vb,rfl,⟨_,bI.of Tf⟩,iN (K:=K) (a:=vb) (xs:=zy.drop 1) (λi σ H3=>Ql λ(y1:Option V) (y2:Option V)=>GW (σ=[some (.ref x),some (.int hand),some (.ref va),some (.ref ra),y1,y2]) (bh (mn H2 ha wa) H3) (H3 ha=some (.lst ((im G.length λp=>if p∈((R.drop 1).take i).flatten then hand else hf p).map V.int))) (H3 wa=some (.lst (om G.length λp=>if p∈((R.drop 1).take i).flatten then X p else wf p))))
  ⟨_,_,rfl,kQ,DF _ _ BJ,DF _ _ rC⟩ (λi σ H3 _ h=>?_) (λi y σ H3 hi h=>?_) (λσ H3 h=>?_)⟩
 ·obtain⟨_,_,_,s3,_⟩:=h
  exact bI.of (s3 _ _ (l8 Tf nbh nbw))
 ·obtain ⟨y1,y2,rfl,s3,HU,yU⟩:=h
  obtain⟨L,hLi,rx⟩:=Paired.ta pvd hi
  obtain⟨ca,rfl,Wo⟩:=fL.mp rx
  have Wp:=(j3 (a:=ha) (b:=wa) DF) _ _ Wo
  have hLR:L∈R:=List.mem_of_mem_drop (am hLi)
  obtain⟨_,_,Ll,Lr⟩:=Wh.2.2 L hLR
  refine⟨_,rfl,ca,rfl,⟨_,bI.of (s3 _ _ Wp)⟩,iN (K:=K) (a:=ca) (xs:=L.map V.int) (λj σ H4=>∃ (y2:Option V),GW (σ=[some (.ref x),some (.int hand),some (.ref va),some (.ref ra),some (.ref ca),y2]) (bh (mn H2 ha wa) H4) (H4 ha=some (.lst ((im G.length λp=>if p∈((R.drop 1).take i).flatten++L.take j then hand else hf p).map V.int))) (H4 wa=some (.lst (om G.length λp=>if p∈((R.drop 1).take i).flatten++L.take j then X p else wf p))))
   ⟨_,rfl,s3,by simpa using HU,by simpa using yU⟩ (λj σ H4 _ h=>?_) (λj y σ H4 hj h=>?_) (λσ H4 h=>?_)⟩
  ·obtain⟨_,_,s4,_⟩:=h
   exact bI.of (s4 _ _ Wp)
  ·obtain⟨y2,rfl,s4,QK,BL⟩:=h
   obtain⟨z,hz,rfl⟩:=fm hj
   obtain⟨z0,z1⟩:=Lr z (am hz)
   have Jt:=(j3 (a:=ha) (b:=wa) DF) _ _ hx
   have Ed:=s4 _ _ Jt
   refine⟨_,rfl,_,rfl,x,C,dx,_,_,rfl,Ed,aN.cl,aN.na _ (by decide +kernel),qk _ _ _ _,_,rfl,ha,_,_,z.toNat,rfl,rfl,QK,?_,?_⟩
   ·unfold xX;rw[aj,ng,if_pos z0,if_pos z1]
   have s5:=s4.put Lc (.lst (((im G.length λp=>if p∈((R.drop 1).take i).flatten++L.take j then hand else hf p).map V.int).set z.toNat (.int hand)))
   have KR:upd H4 ha (.lst (((im G.length λp=>if p∈((R.drop 1).take i).flatten++L.take j then hand else hf p).map V.int).set z.toNat (.int hand))) wa=some (.lst (om G.length λp=>if p∈((R.drop 1).take i).flatten++L.take j then X p else wf p)):=by rw[bB (cS FX)];exact BL
   have Vc:upd H4 ha (.lst (((im G.length λp=>if p∈((R.drop 1).take i).flatten++L.take j then hand else hf p).map V.int).set z.toNat (.int hand))) ha=some (.lst ((im G.length λp=>if p∈((R.drop 1).take i).flatten++L.take (j+1) then hand else hf p).map V.int)):=by
    rw[ar,pR,Ee z0 z1]
    congr 3
    refine pK λp _ _=>?_
    by_cases c:p=z
    ·subst c;rw[if_pos rfl,if_pos (br _ ((cJ hz).mpr (.inr rfl)))]
    ·rw[if_neg c]
     have e:(p∈((R.drop 1).take i).flatten++L.take (j+1))↔p∈((R.drop 1).take i).flatten++L.take j:=by
      rw[bo,bo,cJ hz];simp[c]
     simp only [e]
   generalize upd H4 ha (.lst (((im G.length λp=>if p∈((R.drop 1).take i).flatten++L.take j then hand else hf p).map V.int).set z.toNat (.int hand)))=H5 at s5 KR Vc ⊢
   have acP:=s5 _ _ (l8 W5 nrh nrw)
   refine⟨_,rfl,_,rfl,ra,_,_,_,rfl,rfl,bI.of acP,gq z0 (F1 z0 z1),_,rfl,x,C,dx,_,_,rfl,s5 _ _ Jt,aN.cl,aN.na _ (by decide +kernel),sh _ _ _ _,_,rfl,wa,_,_,z.toNat,rfl,rfl,KR,?_,?_⟩
   ·unfold xX;rw[nu,if_pos z0,if_pos z1]
   ·refine⟨_,rfl,s5.put Ld _,by rw[bB FX];exact Vc,?_⟩
    rw[ar,Lz z0 z1]
    congr 2
    refine C3 λp _ _=>?_
    by_cases c:p=z
    ·subst c;rw[if_pos rfl,if_pos (br _ ((cJ hz).mpr (.inr rfl)))]
    ·rw[if_neg c]
     have e:(p∈((R.drop 1).take i).flatten++L.take (j+1))↔p∈((R.drop 1).take i).flatten++L.take j:=by
      rw[bo,bo,cJ hz];simp[c]
     simp only [e]
  ·obtain⟨y2,rfl,s4,QK,BL⟩:=h
   rw[aj,aZ] at QK BL
   have e:((R.drop 1).take (i+1)).flatten=((R.drop 1).take i).flatten++L:=by
    rw[bv,hLi,fN];simp
   exact⟨_,_,rfl,s4,by rw[e];exact QK,by rw[e];exact BL⟩
 ·obtain⟨y1,y2,rfl,s3,HU,yU⟩:=h
  rw[← Oi,aZ] at HU yU
  exact q X H3 ((j3 DF).trans s3) HU yU hX
def ET (C:ah):Sp:=λvs H Q _=>Ry λ(x:ah) (v:V) (r:ah) (as:List ah) (ha:ah) (wa:ah) (G:List Row) (hand:Int) (ta:ah) (la:ah) (ts:List Int) (left:List Int) (hf:Int->Int) (wf:Int->Option Int)=>JB (vs=[.ref x,.int hand,.ref ta,.ref la]) (ha≠wa) (zZ C (mn H ha wa) x v r as ha wa G) (B5 G) (mn H ha wa ta=some (.lst (ts.map V.int))) (mn H ha wa la=some (.lst (left.map V.int))) ((∀ z∈ts,(0<=z/\z<G.length)/\z∈left/\∃ w∈wy G z,w∈left)) (H ha=some (.lst ((im G.length hf).map V.int))) (H wa=some (.lst (om G.length wf))) (∀ (H':Hp),bh (mn H ha wa) H'->H' ha=some (.lst ((im G.length λp=>if p∈ts then hand else hf p).map V.int))->H' wa=some (.lst (om G.length λp=>if p∈ts then y8 G hand left p else wf p))->Q .e8 H')
theorem Pa (F:iG K C "give_tops" "Cutter.give_tops" fQ ["self","hand","tops","left"]) (T:Txt mg) (aN:ClsAt K mg "Cutter" C uF) (eT:Dn P w K mg base "place_marks" 3 ["count","places"] qt) (ph:Dn P w K mg base "least_way" 1 ["ways","marks"] Bp):xI P w K mg base C "give_tops" 4 ["self","hand","tops","left"] (ET C):=by
 have sc:=qJ
 refine F.ok sc (λvs H Q E h=>?_) (λf dk A outer s H vs Q E hr h=>?_)
 ·obtain⟨_,_,_,_,_,_,_,_,_,_,_,_,_,_,rfl,_⟩:=h;rfl
 obtain⟨x,v,r,as,ha,wa,G,hand,ta,la,ts,left,hf,wf,rfl,FX,hO,cU,xv,Az,ZW,BJ,rC,q⟩:=h
 obtain⟨⟨dx,hx⟩,hG,hC⟩:=id hO
 obtain⟨g0,gv,rfl,jS,mP,eU⟩:=fu hG
 have D5:=cU.1
 have sM:bh (mn H ha wa) H:=kQ
 refine⟨_,(au (bP (i:=4) sc.nd rfl (bi rfl) (cO eT hr (af (cn (iu (K:=K) rfl) rfl T.iq bN (af (bW (K:=K) rfl (pv 0) rfl) av)) (af (pv 3) av))))
   (aG (eS bn rfl (dm (pv 2)) (cE (i:=5) sc.nd rfl (bi rfl))
   (au (oA (pv 1) (oz (bW (K:=K) rfl (pv 0) rfl) (pv 5) a0e))
   (au (bP (i:=6) sc.nd rfl (bi rfl) (kR md (bM (mQ (K:=K) rfl) (bM (lA (K:=K) rfl) (bW (K:=K) rfl (pv 0) rfl) (pv 5) (λ_ _=>rfl)) aK (λ_ _=>rfl)) (pv 1) (dM _)))
   (aG (oA (mi (f9 (pv 6)) (cO ph hr (af (bM (mQ (K:=K) rfl) (bM (lA (K:=K) rfl) (bW (K:=K) rfl (pv 0) rfl) (pv 5) (λ_ _=>rfl)) aK (λ_ _=>rfl)) (af (pv 4) av))) mj) (oz (bW (K:=K) rfl (pv 0) rfl) (pv 5) a0e)))))))),?_⟩
 refine⟨_,rfl,x,C,dx,_,_,rfl,sM _ _ hx,aN.cl,aN.na _ (by decide +kernel),kU _ _ _ _,g0,_,rfl,.inl (bI.of (sM _ _ jS)),_,rfl,gv.length,la,left,rfl,by omega,sM _ _ Az,λma H1 s1 HZ FF=>?_⟩
 rw[mP] at FF
 have nmh:ma≠ha:=e7 BJ HZ
 have nmw:ma≠wa:=e7 rC HZ
 have acv:=l8 FF nmh nmw
 have Yt:bh (mn H ha wa) (mn H1 ha wa):=j3 s1
 refine⟨_,rfl,ta,rfl,⟨_,bI.of (s1 _ _ (sM _ _ xv))⟩,iN (K:=K) (a:=ta) (xs:=ts.map V.int) (λi σ H3=>Ql λ(y1:Option V) (y2:Option V)=>GW (σ=[some (.ref x),some (.int hand),some (.ref ta),some (.ref la),some (.ref ma),y1,y2]) (bh (mn H1 ha wa) H3) (H3 ha=some (.lst ((im G.length λp=>if p∈ts.take i then hand else hf p).map V.int))) (H3 wa=some (.lst (om G.length λp=>if p∈ts.take i then y8 G hand left p else wf p))))
  ⟨_,_,rfl,kQ,s1 _ _ BJ,s1 _ _ rC⟩ (λi σ H3 _ h=>?_) (λi y σ H3 hi h=>?_) (λσ H3 h=>?_)⟩
 ·obtain⟨_,_,_,s3,_⟩:=h
  exact bI.of (s3 _ _ (Yt _ _ xv))
 ·obtain⟨y1,y2,rfl,s3,HU,yU⟩:=h
  obtain⟨z,hz,rfl⟩:=fm hi
  obtain⟨⟨z0,z1⟩,Z4,hzw⟩:=ZW z (am hz)
  have Jt:=Yt _ _ hx
  obtain⟨row,iT⟩:∃ row,G[z.toNat]?=some row:=⟨G[z.toNat]'(by omega),by simp⟩
  obtain⟨t,wr,p1,p2,p3⟩:=eU z.toNat row iT
  have QB:=Cw iT
  have V2:=xo iT
  obtain⟨w1,w2,w3⟩:=cU.2 row (am iT)
  have Ko:o6 gv z=some (.ref t):=gq z0 p1
  refine⟨_,rfl,_,rfl,x,C,dx,_,_,rfl,s3 _ _ Jt,aN.cl,aN.na _ (by decide +kernel),qk _ _ _ _,_,rfl,ha,_,_,z.toNat,rfl,rfl,HU,?_,?_⟩
  ·unfold xX;rw[aj,ng,if_pos z0,if_pos z1]
  have s5:=s3.put Lc (.lst (((im G.length λp=>if p∈ts.take i then hand else hf p).map V.int).set z.toNat (.int hand)))
  have KR:upd H3 ha (.lst (((im G.length λp=>if p∈ts.take i then hand else hf p).map V.int).set z.toNat (.int hand))) wa=some (.lst (om G.length λp=>if p∈ts.take i then y8 G hand left p else wf p)):=by rw[bB (cS FX)];exact yU
  have Vc:upd H3 ha (.lst (((im G.length λp=>if p∈ts.take i then hand else hf p).map V.int).set z.toNat (.int hand))) ha=some (.lst ((im G.length λp=>if p∈ts.take (i+1) then hand else hf p).map V.int)):=by
   rw[ar,pR,Ee z0 z1]
   congr 3
   refine pK λp _ _=>?_
   by_cases c:p=z
   ·subst c;rw[if_pos rfl,if_pos ((cJ hz).mpr (.inr rfl))]
   ·rw[if_neg c]
    have e:(p∈ts.take (i+1))↔p∈ts.take i:=by rw[cJ hz];simp[c]
    simp only [e]
  generalize upd H3 ha (.lst (((im G.length λp=>if p∈ts.take i then hand else hf p).map V.int).set z.toNat (.int hand)))=H5 at s5 KR Vc ⊢
  have e2:=Yt.trans s5
  refine⟨_,rfl,x,C,dx,_,_,rfl,s5 _ _ Jt,aN.cl,aN.na _ (by decide +kernel),kU _ _ _ _,_,rfl,g0,_,_,_,rfl,rfl,bI.of (e2 _ _ jS),Ko,t,_,_,_,rfl,rfl,gJ.of (e2 _ _ p2),bV (j:=0) rfl,_,rfl,rfl,?_⟩
  have last:∀ (o:Option Int) (H6:Hp),bh (mn H1 ha wa) H6->H6 ha=some (.lst ((im G.length λp=>if p∈ts.take (i+1) then hand else hf p).map V.int))->o=y8 G hand left z->bh (mn H1 ha wa) (upd H6 wa (.lst ((om G.length λp=>if p∈ts.take i then y8 G hand left p else wf p).set z.toNat (oW o))))/\upd H6 wa (.lst ((om G.length λp=>if p∈ts.take i then y8 G hand left p else wf p).set z.toNat (oW o))) ha=some (.lst ((im G.length λp=>if p∈ts.take (i+1) then hand else hf p).map V.int))/\upd H6 wa (.lst ((om G.length λp=>if p∈ts.take i then y8 G hand left p else wf p).set z.toNat (oW o))) wa=some (.lst (om G.length λp=>if p∈ts.take (i+1) then y8 G hand left p else wf p)):=λo H6 s6 h6 eo=>by
   refine⟨s6.put Ld _,by rw[bB FX];exact h6,?_⟩
   rw[ar,Lz z0 z1]
   congr 2
   refine C3 λp _ _=>?_
   by_cases c:p=z
   ·subst c;rw[if_pos rfl,if_pos ((cJ hz).mpr (.inr rfl)),eo]
   ·rw[if_neg c]
    have e:(p∈ts.take (i+1))↔p∈ts.take i:=by rw[cJ hz];simp[c]
    simp only [e]
  refine⟨_,rfl,_,rfl,?_⟩
  refine iO (λc=>?_) (λc=>?_)
  ·have hh:hd G z=hand:=by have:=of_decide_eq_true c;injection this with e;rw[QB];exact e
   obtain⟨v9,k1,k2,_,_⟩:=FQ Z4 hh hzw
   rw[V2] at k1
   refine⟨_,rfl,x,C,dx,_,_,rfl,s5 _ _ Jt,aN.cl,aN.na _ (by decide +kernel),kU _ _ _ _,_,rfl,g0,_,_,_,rfl,rfl,bI.of (e2 _ _ jS),Ko,t,_,_,_,rfl,rfl,gJ.of (e2 _ _ p2),bV (j:=2) rfl,_,rfl,wr,ma,row.2.2,G.length,_,v9,rfl,e2 _ _ p3,s5 _ _ acv,w1,w2,w3,k1,λH6 s6=>?_⟩
   refine⟨_,rfl,x,C,dx,_,_,rfl,s6 _ _ (s5 _ _ Jt),aN.cl,aN.na _ (by decide +kernel),sh _ _ _ _,_,rfl,wa,_,_,z.toNat,rfl,rfl,s6 _ _ KR,?_,?_⟩
   ·unfold xX;rw[nu,if_pos z0,if_pos z1]
   ·obtain⟨l1,l2,l3⟩:=last (some v9) H6 (s5.trans s6) (s6 _ _ Vc) k2.symm
    exact⟨_,_,rfl,l1,l2,l3⟩
  ·have hh:¬ hd G z=hand:=λe=>c (decide_eq_true (by rw[← e,QB]))
   refine⟨_,rfl,x,C,dx,_,_,rfl,s5 _ _ Jt,aN.cl,aN.na _ (by decide +kernel),sh _ _ _ _,_,rfl,wa,_,_,z.toNat,rfl,rfl,KR,?_,?_⟩
   ·unfold xX;rw[nu,if_pos z0,if_pos z1]
   ·obtain⟨l1,l2,l3⟩:=last none H5 s5 Vc (a0A λz=>hh z.2).symm
    exact⟨_,_,rfl,l1,l2,l3⟩
 ·obtain⟨y1,y2,rfl,s3,HU,yU⟩:=h
  rw[aj,aZ] at HU yU
  exact q H3 (Yt.trans s3) HU yU
def rJ:Sp:=λvs H Q _=>Ql λ(lw:V) (R:List (List Int))=>GX (vs=[lw]) (gb (gb gG) H R lw) (R.flatten.length<=63) (R.flatten.Nodup) (∀ (p:ah) (ns:List Int) (H':Hp),bh H H'->H p=none->H' p=some (.lst (ns.map V.int))->ns.Pairwise (·<·)->(∀ z,z∈ns↔z∈R.flatten)->ns.length<=63->Q (.ref p) H')
theorem Iy (F:bz K mg "places_of" k7 ["layers"]) (T:Txt mg):Dn P w K mg base "places_of" 1 ["layers"] rJ:=by
 have sc:=Bk
 refine F.ok sc (λvs H Q E h=>?_) (λf dk A outer s H vs Q E hr h=>?_)
 ·obtain⟨_,_,rfl,_⟩:=h;rfl
 obtain⟨lw,R,rfl,⟨va,zy,rfl,hv,Pn⟩,Jp,Ve,q⟩:=h
 refine⟨_,(au (bP (i:=1) sc.nd rfl (bi rfl) (fb av))
   (au (eS bn rfl (dm (pv 0)) (cE (i:=2) sc.nd rfl (bi rfl))
   (aG (cz (jp aW PySem.F.slot_list_extend PySem.F.type_list_extend Ir (pv 1) (af (pv 2) av)))))
   (aG (cP (cn (sd) rfl T.v2 mz (af (pv 1) av)))))),?_⟩
 refine⟨bE _,λpa Jq=>?_⟩
 have s1:=az Jq (.lst [])
 have W1:upd H pa (.lst []) pa=some (.lst []):=ar
 generalize upd H pa (.lst [])=H1 at s1 W1 ⊢
 have hvl:=Pn.length
 refine⟨_,rfl,va,rfl,⟨_,bI.of (s1 _ _ hv)⟩,iN (K:=K) (a:=va) (xs:=zy) (λi σ H3=>∃ y:Option V,σ=[some (.ref va),some (.ref pa),y]/\bh H H3/\H3 pa=some (.lst ((R.take i).flatten.map V.int)))
  ⟨_,rfl,s1,W1⟩ (λi σ H3 _ h=>?_) (λi y σ H3 hi h=>?_) (λσ H3 h=>?_)⟩
 ·obtain⟨_,_,s3,_⟩:=h
  exact bI.of (s3 _ _ hv)
 ·obtain⟨y,rfl,s3,h3⟩:=h
  obtain⟨L,hL,rx⟩:=Paired.ta Pn hi
  obtain⟨ca,rfl,Wo⟩:=fL.mp rx
  have sv:(R.take i).flatten.length+L.length<=R.flatten.length:=by
   have e:R=R.take i++L::R.drop (i+1):=by
    have xt:=ag.mp hL
    rw[← xt.2,← jC xt.1,gi]
   conv=>rhs;rw[e]
   rw[fN,gI,aJ,aJ];omega
  refine⟨_,rfl,.inl ⟨rfl,_,bI.of h3⟩,_,rfl,pa,ca,_,_,rfl,rfl,h3,s3 _ _ Wo,a0b (m:=1000) (by rw[aj,aj];omega),?_⟩
  refine⟨_,rfl,s3.put Jq _,?_⟩
  rw[ar,bv,hL,fN,aM]
  simp
 ·obtain⟨y,rfl,s3,h3⟩:=h
  rw[← hvl,aZ] at h3
  refine⟨_,rfl,pa,R.flatten,rfl,bI.of h3,by omega,λp ns hp hpm SU=>?_⟩
  refine q p ns _ (s3.trans (az hp _)) (s3.free hp) ar ?_ (λz=>hpm.mem_iff) (by rw[hpm.length_eq];exact Jp)
  have KH:ns.Nodup:=hpm.nodup_iff.mpr Ve
  exact (SU.and KH).imp λh=>by omega
def Mn (C:ah) (n:Nat):Sp:=λvs H Q _=>Rx λ(x:ah) (v:V) (r:ah) (as:List ah) (ha:ah) (wa:ah) (G:List Row) (pa:ah) (ps:List Int) (hf:Int->Int) (wf:Int->Option Int)=>Qe (vs=[.ref x,.ref pa]) (ha≠wa) (zZ C (mn H ha wa) x v r as ha wa G) (B5 G) (VC G) (mn H ha wa pa=some (.lst (ps.map V.int))) (ps.Pairwise (·<·)) ((∀ z∈ps,0<=z/\z<G.length)) (Zq G (·∈ps)) ((∀ z∈ps,0<=rk G z/\rk G z<n)) (H ha=some (.lst ((im G.length hf).map V.int))) (H wa=some (.lst (om G.length wf))) (∀ (u:V) (H':Hp) (Ol:Int->Int) (wf':Int->Option Int),bh (mn H ha wa) H'->H' ha=some (.lst ((im G.length Ol).map V.int))->H' wa=some (.lst (om G.length wf'))->RQ G (·∈ps) Ol wf'->(∀ p,p ∉ ps->Ol p=hf p/\wf' p=wf p)->Q u H')
def spC (C:ah):Nat->Sp
 | 0=>λ_ _ _ _=>False
 | n+1=>Mn C n
theorem a0I {ps:List Int} (h:ps.Pairwise (·<·)) {n:Nat} (hr:∀ z∈ps,0<=z/\z<n):ps.length<=n:=by
 have:=iA ps (oO n) (pQ h) λx hx=>g8.mpr (hr x hx)
 rw[Gm] at this;exact this
inductive Rw (x pa pc ha wa:ah) (top hand:Int) (G:List Row) (ps:List Int) (hf:Int->Int) (wf:Int->Option Int) (H3:Hp) (m:Nat) (σ:St) (Hx:Hp):Prop
 | mk (la:ah) (ls:List Int) (Ol:Int->Int) (wf':Int->Option Int) (pv:List V) (y1 y2 y3 y4 y5:Option V) (w1:σ=[some (.ref x),some (.ref pa),some (.int top),some (.int hand),some (.ref pc),some (.ref la),y1,y2,y3,y4,y5]) (w2:bh (mn H3 ha wa) Hx) (w3:Hx ha=some (.lst ((im G.length Ol).map V.int))) (w4:Hx wa=some (.lst (om G.length wf'))) (w5:Hx pc=some (.lst pv)) (w6:pv.length+ls.length<=ps.length) (w7:Hx la=some (.lst (ls.map V.int))) (w8:la≠ha) (w9:la≠wa) (w10:la≠pc) (w11:ls.Pairwise (·<·)) (w12:∀ p∈ls,p∈ps) (w13:Zq G (·∈ls)) (w14:∀ p∈ls,hd G p=1-hand->∀ w∈wy G p,w∈ps->w∈ls) (w15:∀ p∈ps,p ∉ ls->Ol p=1-hand) (w16:yz G (·∈ps) wf' (1-hand) (λp=>p∈ps/\p ∉ ls)) (w17:∀ p,p ∉ ps->Ol p=hf p/\wf' p=wf p) (w18:m=ls.length):Rw x pa pc ha wa top hand G ps hf wf H3 m σ Hx
theorem TY {n:Nat} (F:iG K C "cut" "Cutter.cut" fD ["self","part"]) (T:Txt mg) (aN:ClsAt K mg "Cutter" C uF) (kL:xI P w K mg base C "pull" 6 ["self","hand","goal","left"] (Bt C)) (iU:xI P w K mg base C "without" 4 ["self","left","places"] (uE C)) (kK:xI P w K mg base C "give" 5 ["self","hand","layers"] (ER C)) (jA:xI P w K mg base C "give_tops" 4 ["self","hand","tops","left"] (ET C)) (mM:Dn P w K mg base "places_of" 1 ["layers"] rJ)
  (n6:xI P w K mg base C "cut" (6+n) ["self","part"] (spC C n)):xI P w K mg base C "cut" (6+n+1) ["self","part"] (spC C (n+1)):=by
 have sc:=x8
 refine F.ok sc (λvs H Q E h=>?_) (λf dk A outer s H vs Q E hr h=>?_)
 ·obtain⟨_,_,_,_,_,_,_,_,_,_,_,rfl,_⟩:=h;rfl
 obtain⟨x,v,r,as,ha,wa,G,pa,ps,hf,wf,rfl,FX,hO,cU,n4,Jq,SU,hpr,abO,Eb,BJ,rC,q⟩:=h
 obtain⟨⟨dx,hx⟩,hG,hC⟩:=id hO
 obtain⟨g0,gv,rfl,jS,mP,eU⟩:=fu hG
 have D5:=cU.1
 have sM:bh (mn H ha wa) H:=kQ
 have oT:ps.length<=63:=cq (a0I SU hpr) D5
 have rank:∀ z∈ps,∃ t row wr,o6 gv z=some (.ref t)/\mn H ha wa t=some (.tup [.int row.1,.int row.2.1,.ref wr])/\rk G z=row.2.1/\G[z.toNat]?=some row:=λz hz=>by
  obtain⟨z0,z1⟩:=hpr z hz
  obtain⟨row,iT⟩:∃ row,G[z.toNat]?=some row:=⟨G[z.toNat]'(by omega),by simp⟩
  obtain⟨t,wr,p1,p2,p3⟩:=eU z.toNat row iT
  exact⟨t,row,wr,gq z0 p1,p2,Q3 iT,iT⟩
 refine⟨_,(au (fo (mm (sO (pv 1) (by intro _;rfl)))
   (aG (cP (jF (af aK (af (fb av) (af (fb av) av))))))
   dq)
   (au (bP (i:=2) sc.nd rfl (tI rfl) (cn (Hm rfl) rfl T.JX xL (af (qS (aC fD) ["self","part","top","hand","pieces","left","tops","aside","others","lost","layers"] ["place","self"] 1 [0] (dm (pv 1)) (λ_ _ _ _ _ _=>(eH (show cT (["place","self"]:List aT) by decide +kernel) rfl rfl)) (λ_ _ _ _ _ _=>hV) (λ_ _ _ _ _ _=>(bM (mQ (K:=K) rfl) (bM (lA (K:=K) rfl) (bW (K:=K) rfl (pv 1) rfl) (pv 0) (λ_ _=>rfl)) aK (λ_ _=>rfl)))) av)))
   (au (bP (i:=3) sc.nd rfl (tI rfl) (bX eK (pv 2) aK))
   (au (bP (i:=4) sc.nd rfl (bi rfl) (fb av))
   (au (bP (i:=5) sc.nd rfl (bi rfl) (pv 1))
   (au (wP bn (f9 mf)
   (au (pX (i:=6) (aC fD) ["self","part","top","hand","pieces","left","tops","aside","others","lost","layers"] ["place","self","top"] 1 [0,2] sc.nd rfl rfl (dm (pv 5)) (λ_ _ _ _ _ _=>(eH (show cT (["place","self","top"]:List aT) by decide +kernel) rfl rfl)) (λ_ _ _ _ _ _=>(mU (dG md (bM (mQ (K:=K) rfl) (bM (lA (K:=K) rfl) (bW (K:=K) rfl (pv 1) rfl) (pv 0) (λ_ _=>rfl)) aK (λ_ _=>rfl)) (pv 2) (dM _)))) (λ_ _ _ _ _ _=>(pv 0)))
   (au (bP (i:=7) sc.nd rfl (bi rfl) (mh aN.cl kL hr (pv 0) (af (pv 3) (af (pv 6) (af (pv 5) av))) (hk:=by omega)))
   (au (bP (i:=8) sc.nd rfl (bi rfl) (mh aN.cl iU hr (pv 0) (af (pv 5) (af (cO mM hr (af (pv 7) av) (hk:=by omega)) av)) (hk:=by omega)))
   (au (cz (mh aN.cl n6 hr (pv 0) (af (pv 8) av) (hk:=by omega)))
   (au (pX (i:=9) (aC fD) ["self","part","top","hand","pieces","left","tops","aside","others","lost","layers"] ["place","self","hand"] 1 [0,3] sc.nd rfl rfl (dm (pv 8)) (λ_ _ _ _ _ _=>(eH (show cT (["place","self","hand"]:List aT) by decide +kernel) rfl rfl)) (λ_ _ _ _ _ _=>(mU (dG qR (bM (lA (K:=K) rfl) (bW (K:=K) rfl (pv 1) rfl) (pv 0) (λ_ _=>rfl)) (pv 2) (dM _)))) (λ_ _ _ _ _ _=>(pv 0)))
   (au (fo (mm (sO (pv 9) (by intro _;rfl)))
   (aG LV)
   dq)
   (au (bP (i:=10) sc.nd rfl (bi rfl) (mh aN.cl kL hr (pv 0) (af (bX wG aK (pv 3)) (af (pv 9) (af (pv 5) av))) (hk:=by omega)))
   (au (cz (mh aN.cl kK hr (pv 0) (af (bX wG aK (pv 3)) (af (pv 10) av)) (hk:=by omega)))
   (au (cz (jp aW aX aY dv (pv 4) (af (cO mM hr (af (pv 10) av) (hk:=by omega)) av)))
   (aG (bP (i:=5) sc.nd rfl (bi rfl) (mh aN.cl iU hr (pv 0) (af (pv 5) (af (bM (lA (K:=K) rfl) (pv 4) (LQ EZ aK) (λ_ _=>rfl)) av)) (hk:=by omega))))))))))))))
   (au (cz (mh aN.cl jA hr (pv 0) (af (pv 3) (af (pv 6) (af (pv 5) av))) (hk:=by omega)))
   (au (cz (mh aN.cl kK hr (pv 0) (af (pv 3) (af (pv 7) av)) (hk:=by omega)))
   (aG (cP (jF (af (pv 3) (af (pv 4) (af (pv 5) av)))))))))))))),?_⟩
 refine fe λE1 q1=>?_
 refine⟨_,rfl,_,.inl ⟨_,bI.of (sM _ _ Jq),rfl⟩,?_⟩
 refine iO (λc=>?_) (λc=>?_)
 ·have hps:ps=[]:=by cases ps with
   | nil=>rfl
   | cons _ _=>cases c
  subst q1
  refine⟨bE _,λl1 oJ=>⟨bE _,λl2 qP=>⟨(by show 3<=aL;decide),λt ht=>?_⟩⟩⟩
  have sA:=(az oJ (.lst [])).trans ((az qP (.lst [])).trans (az ht (.tup [V.int 0,.ref l1,.ref l2])))
  refine q _ _ hf wf (sM.trans sA) (sA _ _ BJ) (sA _ _ rC) ⟨λp hp=>?_,λh _=>yz.empty λp hp=>?_⟩ λp _=>⟨rfl,rfl⟩
  ·rw[hps] at hp;cases hp
  ·have:=hp.1;rw[hps] at this;cases this
 have acM:ps≠[]:=λz=>c (by rw[z];rfl)
 refine ff q1 ?_
 refine fe λE2 q2=>?_
 refine⟨_,rfl,pa,rfl,⟨_,bI.of (sM _ _ Jq)⟩,c8 (K:=K) (a:=pa) (xs:=ps.map V.int) (λk ys H3=>H3=H/\ys=((ps.take k).map (rk G)).map V.int) ⟨rfl,rfl⟩ (a0b (m:=1000) (by rw[aj];omega)) (λk ys H3 hk h=>?_) (λk y ys H3 hk h=>?_) (λys H3 h ka SE=>?_)⟩
 ·obtain⟨rfl,rfl⟩:=h
  exact⟨bI.of (sM _ _ Jq),by rw[aj,aj];simp;omega⟩
 ·obtain⟨rfl,rfl⟩:=h
  obtain⟨z,hz,rfl⟩:=fm hk
  obtain⟨t,row,wr,p1,p2,p3,_⟩:=rank z (am hz)
  refine ix ?_
  refine⟨_,rfl,x,C,dx,_,_,rfl,sM _ _ hx,aN.cl,aN.na _ (by decide +kernel),kU _ _ _ _,_,rfl,g0,_,_,_,rfl,rfl,bI.of (sM _ _ jS),p1,t,_,_,_,rfl,rfl,gJ.of (sM _ _ p2),bV (j:=1) rfl,rfl,?_⟩
  rw[bv,hz,aM,aM]
  show _=_++[V.int (rk G z)]
  rw[p3]
 obtain⟨rfl,rfl⟩:=h
 rw[aj,aZ]
 refine⟨ka,_,rfl,bI.of ar,λz=>acM (List.map_eq_nil_iff.mp z),λtop hM acw=>?_⟩
 have hmx:∀ p∈ps,rk G p<=top:=λp hp=>acw _ (bL.mpr ⟨p,hp,rfl⟩)
 obtain⟨Yi,QO,W7⟩:=bL.mp hM
 have sk:=az SE (.lst ((ps.map (rk G)).map V.int))
 have Sx:=sk _ _ BJ
 have Ti:=sk _ _ rC
 have sM1:=sM.trans sk
 generalize upd H3 ka (.lst ((ps.map (rk G)).map V.int))=H1 at sk Sx Ti sM1 ⊢
 refine ff q2 ?_
 refine fe λE3 q3=>?_
 refine⟨_,rfl,_,_,rfl,rfl,(show (0:Int)<2 by decide),?_⟩
 have Kx:top % 2=0\/top % 2=1:=by
  have:=dA top (show (2:Int)≠0 by decide)
  have:=cQ top (show (0:Int)<2 by decide)
  omega
 obtain⟨hand,hhd⟩:∃ hand,top % 2=hand:=⟨_,rfl⟩
 rw[hhd] at Kx
 refine ff q3 ?_
 refine fe λE4 q4=>?_
 refine⟨bE _,λpc ZP=>?_⟩
 have s2:=az ZP (.lst [])
 have W2:upd H1 pc (.lst []) pc=some (.lst []):=ar
 have WE:=s2 _ _ Sx
 have Xl:=s2 _ _ Ti
 have Lj:pc≠ha:=e7 Sx ZP
 have Lk:pc≠wa:=e7 Ti ZP
 have W3:mn H3 ha wa pc=none:=by rw[pT Lj Lk];exact sk.free ZP
 have sM2:=sM1.trans s2
 generalize upd H1 pc (.lst [])=H2 at s2 W2 WE Xl sM2 ⊢
 refine ff q4 ?_
 refine fe λE5 q5=>?_
 refine⟨_,rfl,?_⟩
 obtain⟨adY,adZ⟩:=FT Jq
 have ad0:pa≠pc:=λz=>by rw[z,W3] at Jq;cases Jq
 refine ff q5 ?_
 refine fe λE6 q6=>?_
 refine⟨Rw x pa pc ha wa top hand G ps hf wf H3,
  ⟨_,pa,ps,hf,wf,[],none,none,none,none,none,(by rw[← hhd];rfl),sM2,WE,Xl,W2,by simp,sM2 _ _ Jq,adY,adZ,ad0,SU,λp hp=>hp,abO,λp _ _ w _ hw=>hw,λp h1 h2=>(h2 h1).elim,yz.empty λp hp=>hp.2 hp.1,λp _=>⟨rfl,rfl⟩,rfl⟩,?_⟩
 rintro m σ Hx ⟨la,ls,Ol,wf',pv,y1,y2,y3,y4,y5,rfl,sx,hxh,hxw,hxp,hpv,Vk,XO,XR,nlp,WQ,vh,ZK,uJ,hDh,hDW,Ou,rfl⟩
 have SI:ls.length<=63:=by omega
 have HX:∀ z∈ls,0<=z/\z<G.length:=λz hz=>hpr z (vh z hz)
 refine⟨true,rfl,?_⟩
 refine jc ?_
 refine⟨λσ' H'=>∃ m',m'<ls.length/\Rw x pa pc ha wa top hand G ps hf wf H3 m' σ' H',?_,?_⟩
 ·exact λσ' H' h=>h
 refine fe λE7 q7=>?_
 refine⟨_,rfl,la,rfl,⟨_,bI.of Vk⟩,c8 (K:=K) (a:=la) (xs:=ls.map V.int) (λk ys H4=>H4=Hx/\ys=((ls.take k).filter λz=>decide (rk G z=top)).map V.int) ⟨rfl,rfl⟩ (a0b (m:=1000) (by rw[aj];omega)) (λk ys H4 hk h=>?_) (λk y ys H4 hk h=>?_) (λys H4 h ta xv=>?_)⟩
 ·obtain⟨rfl,rfl⟩:=h
  exact⟨bI.of Vk,by rw[aj];exact cq (dD _ _) (by simp;omega)⟩
 ·obtain⟨rfl,rfl⟩:=h
  obtain⟨z,hz,rfl⟩:=fm hk
  obtain⟨t,row,wr,p1,p2,p3,_⟩:=rank z (vh z (am hz))
  refine⟨_,rfl,x,C,dx,_,_,rfl,sx _ _ hx,aN.cl,aN.na _ (by decide +kernel),kU _ _ _ _,_,rfl,g0,_,_,_,rfl,rfl,bI.of (sx _ _ jS),p1,t,_,_,_,rfl,rfl,gJ.of (sx _ _ p2),bV (j:=1) rfl,_,rfl,rfl,_,rfl,?_⟩
  have eb:decide (V.int row.2.1=V.int top)=decide (rk G z=top):=by
   rw[p3,eQ,decide_eq_true_eq,decide_eq_true_eq]
   exact⟨λe=>by injection e,λe=>by rw[e]⟩
  rw[eb]
  refine iO (λc4=>?_) (λc4=>?_)
  ·refine⟨_,rfl,rfl,?_⟩
   rw[bv,hz,cZ,aM]
   show _=_++(iD (λz=>decide (rk G z=top)) [z]).map V.int
   rw[bJ (p:=λz=>decide (rk G z=top)) c4];rfl
  ·refine⟨rfl,?_⟩
   rw[bv,hz,cZ,aM]
   show _=_++(iD (λz=>decide (rk G z=top)) [z]).map V.int
   rw[bS (p:=λz=>decide (rk G z=top)) c4];simp
 obtain⟨rfl,rfl⟩:=h
 rw[aj,aZ]
 obtain⟨ts,ZW⟩:∃ ts,ts=ls.filter λz=>decide (rk G z=top):=⟨_,rfl⟩
 rw[← ZW]
 have xk:∀ z,z∈ts↔z∈ls/\rk G z=top:=λz=>by rw[ZW,bF,decide_eq_true_eq]
 have s4:=az xv (.lst (ts.map V.int))
 have SZ:upd H4 ta (.lst (ts.map V.int)) ta=some (.lst (ts.map V.int)):=ar
 have nth:ta≠ha:=e7 hxh xv
 have ntw:ta≠wa:=e7 hxw xv
 have sx4:=sx.trans s4
 have QK:=s4 _ _ hxh
 have BL:=s4 _ _ hxw
 have Nw:=s4 _ _ Vk
 have hp4:=s4 _ _ hxp
 generalize upd H4 ta (.lst (ts.map V.int))=H5 at s4 SZ sx4 QK BL Nw hp4 ⊢
 refine ff q7 ?_
 refine fe λE8 q8=>?_
 refine⟨_,rfl,x,dx,_,rfl,sx4 _ _ hx,oj _ _ _ _ (by decide +kernel) (by decide +kernel) (by decide +kernel) (by decide +kernel),_,rfl,_,rfl,_,rfl,x,_,r,as,ha,wa,G,hand,ta,la,ts,ls,rfl,hO.up sx4,cU,SZ,Nw,λva H6 s6 hva=>?_⟩
 have FB:=rE (G:=G) (hand:=hand) (ins:=λx=>decide (x∈ls)) (want:=λx=>decide (x∈ts))
 have QF:=KZ (G:=G) (hand:=hand) (ins:=λx=>decide (x∈ls)) (want:=λx=>decide (x∈ts)) D5
 generalize kF G hand (λx=>decide (x∈ls)) (λx=>decide (x∈ts))=RA at hva FB QF
 have Xi:gb (gb gG) (mn H6 ha wa) RA (.ref va):=(cN (cN cR)).up (FW QK BL) hva
 have sx6:=sx4.trans s6
 have hh6:=s6 _ _ QK
 have hw6:=s6 _ _ BL
 have ZI:=s6 _ _ Nw
 have hp6:=s6 _ _ hp4
 have abF:RA.flatten.length<=63:=by
  have:=FB.li.len
  rw[fG] at this
  omega
 refine ff q8 ?_
 refine fe λE9 q9=>?_
 refine⟨_,rfl,x,dx,_,rfl,sx6 _ _ hx,oj _ _ _ _ (by decide +kernel) (by decide +kernel) (by decide +kernel) (by decide +kernel),_,rfl,_,rfl,_,RA,rfl,(cN (cN cR)).up kQ Xi,abF,FB.nd,λna TN H7 s7 _ hna aiY hnm hnl=>?_⟩
 have sx7:=sx6.trans s7
 have hh7:=s7 _ _ hh6
 have hw7:=s7 _ _ hw6
 have Vd:=s7 _ _ ZI
 have hp7:=s7 _ _ hp6
 refine⟨x,_,r,as,ha,wa,G,la,na,ls,TN,rfl,hO.up sx7,cU,Vd,hna,HX,SI,λoa H8 s8 SM xu=>?_⟩
 obtain⟨os,SO⟩:∃ os,os=ls.filter λz=>!decide (z∈TN):=⟨_,rfl⟩
 rw[← SO] at xu
 have sx8:=sx7.trans s8
 have hh8:=s8 _ _ hh7
 have hw8:=s8 _ _ hw7
 have QM:=s8 _ _ Vd
 have hp8:=s8 _ _ hp7
 have noh:oa≠ha:=e7 hh7 SM
 have now:oa≠wa:=e7 hw7 SM
 have nop:oa≠pc:=e7 hp7 SM
 have pW:∀ p,p∈os↔p∈ls/\∀ k,¬ lv RA k p:=λp=>by
  rw[SO,bF]
  have:(!decide (p∈TN))=true↔∀ k,¬ lv RA k p:=by
   rw[kJ,decide_eq_false_iff_not,hnm,sH]
   exact⟨λz k hk=>z ⟨k,hk⟩,λz ⟨k,hk⟩=>z k hk⟩
  rw[this]
 obtain⟨ad2,X9⟩:=F0 FB HX ZK pW
 have XH:∀ p,lv RA 0 p↔p∈ls/\rk G p=top:=λp=>by
  constructor
  ·intro h
   have:=(FB.zero (FB.rg h)).mp h
   exact (xk p).mp (of_decide_eq_true this.2)
  ·intro h
   exact (FB.zero (HX p h.1)).mpr ⟨decide_eq_true h.1,decide_eq_true ((xk p).mpr h)⟩
 have ork:∀ z∈os,0<=rk G z/\rk G z<top:=λz hz=>by
  obtain⟨a,b⟩:=(pW z).mp hz
  have h1:=hmx z (vh z a)
  refine⟨(Eb z (vh z a)).1,?_⟩
  rcases NM h1 with h | h
  ·exact h
  ·exact (b 0 ((XH z).mpr ⟨a,h⟩)).elim
 refine ff q9 ?_
 refine fe λE10 q10=>?_
 refine⟨_,rfl,x,dx,_,rfl,sx8 _ _ hx,oj _ _ _ _ (by decide +kernel) (by decide +kernel) (by decide +kernel) (by decide +kernel),_,rfl,?_⟩
 obtain⟨n',rfl⟩:∃ n',n=n'+1:=⟨n-1,by
  have h1:=Eb Yi QO
  omega⟩
 have htn:top<((n'+1:Nat):Int):=by rw[← W7];exact (Eb Yi QO).2
 refine⟨x,_,r,as,ha,wa,G,oa,os,Ol,wf',rfl,FX,hO.up (pU sx8),cU,n4,l8 xu noh now,by rw[SO];exact WQ.filter _,λz hz=>HX z ((pW z).mp hz).1,ad2,λz hz=>⟨(ork z hz).1,by have:=(ork z hz).2;omega⟩,hh8,hw8,λu H9 xW BN s9 hh9 Xk pG sv=>?_⟩
 have sx9:bh (mn H3 ha wa) H9:=(pU sx8).trans s9
 have Oq:=s9 _ _ (l8 QM XO XR)
 have hp9:=s9 _ _ (by rw[pT Lj Lk];exact hp8)
 have ho9:=s9 _ _ (l8 xu noh now)
 have ac0:H9 ta=some (.lst (ts.map V.int)):=s9 _ _ (l8 ((s6.trans (s7.trans s8)) _ _ SZ) nth ntw)
 have ac6:gb (gb gG) (mn H9 ha wa) RA (.ref va):=(cN (cN cR)).up ((j3 (s7.trans s8)).trans (pU s9)) Xi
 refine ff q10 ?_
 refine fe λE11 q11=>?_
 refine⟨_,rfl,oa,rfl,⟨_,bI.of ho9⟩,c8 (K:=K) (a:=oa) (xs:=os.map V.int) (λk ys HA=>HA=H9/\ys=((os.take k).filter λz=>!decide (V.int (xW z)=V.int hand)).map V.int) ⟨rfl,rfl⟩ (a0b (m:=1000) (by
   have:os.length<=ls.length:=by rw[SO];exact dD _ _
   rw[aj];omega)) (λk ys HA hk h=>?_) (λk y ys HA hk h=>?_) (λys HA h lo ZL=>?_)⟩
 ·obtain⟨rfl,rfl⟩:=h
  rw[aj] at hk
  exact⟨bI.of ho9,by rw[aj];exact cq (dD _ _) (by simp;omega)⟩
 ·obtain⟨rfl,rfl⟩:=h
  obtain⟨z,hz,rfl⟩:=fm hk
  obtain⟨z0,z1⟩:=HX z ((pW z).mp (am hz)).1
  refine⟨_,rfl,x,C,dx,_,_,rfl,sx9 _ _ hx,aN.cl,aN.na _ (by decide +kernel),qk _ _ _ _,_,rfl,ha,_,_,_,rfl,rfl,bI.of hh9,gq z0 (by rw[aB,uK z0 z1];rfl),_,rfl,rfl,_,rfl,?_⟩
  refine iO (λc4=>?_) (λc4=>?_)
  ·refine⟨_,rfl,rfl,?_⟩
   rw[bv,hz,cZ,aM]
   show _=_++(iD (λz=>!decide (V.int (xW z)=V.int hand)) [z]).map V.int
   rw[bJ (p:=λz=>!decide (V.int (xW z)=V.int hand)) c4];rfl
  ·refine⟨rfl,?_⟩
   rw[bv,hz,cZ,aM]
   show _=_++(iD (λz=>!decide (V.int (xW z)=V.int hand)) [z]).map V.int
   rw[bS (p:=λz=>!decide (V.int (xW z)=V.int hand)) c4];simp
 obtain⟨rfl,rfl⟩:=h
 rw[aj,aZ]
 obtain⟨xw,WO⟩:∃ xw,xw=os.filter λz=>!decide (V.int (xW z)=V.int hand):=⟨_,rfl⟩
 rw[← WO]
 have wv:∀ z,z∈xw↔z∈os/\xW z=1-hand:=λz=>by
  rw[WO,bF,kJ,decide_eq_false_iff_not]
  constructor
  ·rintro⟨a,b⟩
   refine⟨a,?_⟩
   have:¬ xW z=hand:=λe=>b (by rw[e])
   rcases pG.n4 z a with h | h <;> omega
  ·rintro⟨a,b⟩
   exact⟨a,λe=>by injection e with e;omega⟩
 have sA:=az ZL (.lst (xw.map V.int))
 have SJ:upd HA lo (.lst (xw.map V.int)) lo=some (.lst (xw.map V.int)):=ar
 have ajT:lo≠ha:=e7 hh9 ZL
 have ajU:lo≠wa:=e7 Xk ZL
 have Ux:=sx9.trans sA
 have ZC:=sA _ _ hh9
 have Z0:=sA _ _ Xk
 have ZJ:=sA _ _ Oq
 have hpA:=sA _ _ hp9
 have Xb:=sA _ _ ac0
 have Xh:gb (gb gG) (mn (upd HA lo (.lst (xw.map V.int))) ha wa) RA (.ref va):=(cN (cN cR)).up (j3 sA) ac6
 generalize upd HA lo (.lst (xw.map V.int))=HB at sA SJ Ux ZC Z0 ZJ hpA Xb Xh ⊢
 have We:1-hand=0\/1-hand=1:=by omega
 refine ff q11 ?_
 refine fe λE12 q12=>?_
 refine⟨_,rfl,_,.inl ⟨_,bI.of SJ,rfl⟩,?_⟩
 refine iO (λc=>?_) (λc=>?_)
 ·-- nothing is lost: akO is left is Rb abS
  have WM:xw=[]:=by cases xw with
   | nil=>rfl
   | cons _ _=>cases c
  have XX:∀ p∈os,xW p=hand:=λp hp=>by
   rcases pG.n4 p hp with h | h
   ·by_cases e:xW p=hand
    ·exact e
    ·have:p∈xw:=(wv p).mpr ⟨hp,by omega⟩
     rw[WM] at this;cases this
   ·by_cases e:xW p=hand
    ·exact e
    ·have:p∈xw:=(wv p).mpr ⟨hp,by omega⟩
     rw[WM] at this;cases this
  subst q12
  refine ff q6 ?_
  refine fe λE13 q13=>?_
  refine⟨_,rfl,x,dx,_,rfl,Ux _ _ hx,oj _ _ _ _ (by decide +kernel) (by decide +kernel) (by decide +kernel) (by decide +kernel),_,rfl,_,rfl,_,rfl,x,_,r,as,ha,wa,G,hand,ta,la,ts,ls,xW,BN,rfl,FX,hO.up (pU Ux),cU,l8 Xb nth ntw,l8 ZJ XO XR,λz hz=>⟨HX z ((xk z).mp hz).1,((xk z).mp hz).1,ZK z ((xk z).mp hz).1⟩,ZC,Z0,λHC sC hhC hwC=>?_⟩
  have Uy:bh (mn H3 ha wa) HC:=(pU Ux).trans sC
  have ac7:gb (gb gG) (mn HC ha wa) RA (.ref va):=(cN (cN cR)).up (pU sC) Xh
  refine ff q13 ?_
  refine fe λE14 q14=>?_
  refine⟨_,rfl,x,dx,_,rfl,Uy _ _ hx,oj _ _ _ _ (by decide +kernel) (by decide +kernel) (by decide +kernel) (by decide +kernel),_,rfl,_,rfl,x,_,r,as,ha,wa,G,hand,.ref va,_,_,RA,_,_,rfl,FX,hO.up (pU Uy),cU,ac7,FB,QF,hhC,hwC,λX HD sD hhD hwD hX=>?_⟩
  have sxD:bh (mn H3 ha wa) HD:=(pU Uy).trans sD
  have hpC:=sC _ _ (by rw[pT Lj Lk];exact hpA)
  refine ff q14 ?_
  refine⟨_,rfl,_,rfl,_,rfl,(by show 3<=aL;decide),λtt KP=>?_⟩
  have sE:=az KP (.tup [V.int hand,.ref pc,.ref la])
  have inl:∀ {k p},lv RA k p->p∈ls:=λh=>of_decide_eq_true (FB.Ic h)
  have Rc:∀ p,p∈tl RA->p∈ls:=λp hp=>by obtain⟨k,hk⟩:=nB.mp hp;exact inl hk
  have dh:∀ p∈ps,p ∉ ls->(if p∈tl RA then hand else if p∈ts then hand else xW p)=1-hand:=λp h1 h2=>by
   rw[if_neg (λz=>h2 (Rc p z)),if_neg (λz=>h2 ((xk p).mp z).1),(sv p (λz=>h2 ((pW p).mp z).1)).1]
   exact hDh p h1 h2
  have dw:∀ p,p ∉ ls->(if p∈tl RA then X p else if p∈ts then y8 G hand ls p else BN p)=wf' p:=λp h2=>by
   rw[if_neg (λz=>h2 (Rc p z)),if_neg (λz=>h2 ((xk p).mp z).1),(sv p (λz=>h2 ((pW p).mp z).1)).2]
  have lh:∀ p∈ls,(if p∈tl RA then hand else if p∈ts then hand else xW p)=hand:=λp hp=>by
   by_cases c1:p∈tl RA
   ·rw[if_pos c1]
   ·rw[if_neg c1]
    by_cases c2:p∈ts
    ·rw[if_pos c2]
    ·rw[if_neg c2]
     refine XX p ((pW p).mpr ⟨hp,λk hk=>?_⟩)
     cases k with
     | zero=>exact c2 ((xk p).mpr ((XH p).mp hk))
     | succ k=>exact c1 (nB.mpr ⟨k,hk⟩)
  have tl0:∀ {p},lv RA 0 p->p ∉ tl RA:=λ{p} h z=>by
   obtain⟨k,hk⟩:=nB.mp z
   have:=nq FB.nd h hk
   omega
  have wS:∀ p k,lv RA (k+1) p->(if p∈tl RA then X p else if p∈ts then y8 G hand ls p else BN p)=X p:=λp k h=>if_pos (nB.mpr ⟨k,h⟩)
  have w0:∀ p,lv RA 0 p->(if p∈tl RA then X p else if p∈ts then y8 G hand ls p else BN p)=y8 G hand ls p:=λp h=>by
   rw[if_neg (tl0 h),if_pos ((xk p).mpr ((XH p).mp h))]
  have wo:∀ p∈os,(if p∈tl RA then X p else if p∈ts then y8 G hand ls p else BN p)=BN p:=λp hp=>by
   obtain⟨_,b⟩:=(pW p).mp hp
   rw[if_neg (λz=>by obtain⟨k,hk⟩:=nB.mp z;exact b _ hk),if_neg (λz=>b 0 ((XH p).mpr ((xk p).mp z)))]
  have ab5:yz G (·∈ps) (λp=>if p∈tl RA then X p else if p∈ts then y8 G hand ls p else BN p) hand (·∈ls):=by
   refine yz.final (oth:=os) (wf0:=BN) (top:=top) FB vh (λp hp ho w hw hP=>uJ p hp ?_ w hw hP) (λp hp=>hmx p (vh p hp)) hhd XH pW ?_ (λp h ho=>?_) (λp h ho=>?_) wo (λp k h ho=>?_) (λp k h ho=>?_)
   ·rcases Wr n4 (HX p hp) with z | z <;> rcases Kx with z' | z' <;> omega
   ·exact (pG.won hand Kx).congr (λp _=>rfl) λp=>⟨λz=>z.1,λz=>⟨z,XX p z⟩⟩
   ·obtain⟨a,b,c9⟩:=ZK p (inl h)
    obtain⟨v9,_,k2,k3,k4⟩:=FQ (inl h) ho ⟨a,b,c9⟩
    exact⟨v9,by rw[w0 p h];exact k2,k3,k4⟩
   ·show (if p∈tl RA then X p else if p∈ts then y8 G hand ls p else BN p)=none
    rw[w0 p h];exact a0A λz=>ho z.2
   ·obtain⟨v9,k1,k2,k3⟩:=FB.pick h ho
    obtain⟨z0,z1⟩:=FB.rg h
    exact⟨v9,by rw[wS p k h,(hX p z0 z1).1 k ⟨h,ho⟩];exact k1,k2,k3⟩
   ·obtain⟨z0,z1⟩:=FB.rg h
    show (if p∈tl RA then X p else if p∈ts then y8 G hand ls p else BN p)=none
    rw[wS p k h];exact (hX p z0 z1).2 λk z=>ho z.2
  subst q1 q2 q3 q4 q5
  refine q _ _ _ _ (sxD.trans sE) (sE _ _ hhD) (sE _ _ hwD) ⟨λp hp=>?_,λh hh=>?_⟩ λp hp=>?_
  ·by_cases c1:p∈ls
   ·show (if p∈tl RA then hand else if p∈ts then hand else xW p)=0\/_
    rw[lh p c1];exact Kx
   ·show (if p∈tl RA then hand else if p∈ts then hand else xW p)=0\/_
    rw[dh p hp c1];exact We
  ·by_cases c1:h=hand
   ·subst c1
    refine ab5.congr (λp _=>rfl) λp=>⟨λz=>⟨vh p z,lh p z⟩,λz=>?_⟩
    by_cases c2:p∈ls
    ·exact c2
    ·have:=dh p z.1 c2
     have:=z.2
     omega
   ·have c2:h=1-hand:=by omega
    subst c2
    refine hDW.congr (λp hp=>(dw p hp.2).symm) λp=>⟨λz=>⟨z.1,dh p z.1 z.2⟩,λz=>⟨z.1,λy=>?_⟩⟩
    have:=lh p y
    have:=z.2
    omega
  ·have h2:p ∉ ls:=λz=>hp (vh p z)
   obtain⟨k1,k2⟩:=Ou p hp
   refine⟨?_,by rw[← k2];exact dw p h2⟩
   show (if p∈tl RA then hand else if p∈ts then hand else xW p)=hf p
   rw[if_neg (λz=>h2 (Rc p z)),if_neg (λz=>h2 ((xk p).mp z).1),(sv p (λz=>h2 ((pW p).mp z).1)).1]
   exact k1
 have WN:xw≠[]:=λz=>c (by rw[z];rfl)
 refine ff q12 ?_
 refine fe λE15 q15=>?_
 refine⟨_,rfl,x,dx,_,rfl,Ux _ _ hx,oj _ _ _ _ (by decide +kernel) (by decide +kernel) (by decide +kernel) (by decide +kernel),_,rfl,_,_,rfl,rfl,_,rfl,_,rfl,x,_,r,as,ha,wa,G,1-hand,lo,la,xw,ls,rfl,hO.up Ux,cU,SJ,ZJ,λvb HC sC Jr=>?_⟩
 have FC:=rE (G:=G) (hand:=1-hand) (ins:=λx=>decide (x∈ls)) (want:=λx=>decide (x∈xw))
 have QG:=KZ (G:=G) (hand:=1-hand) (ins:=λx=>decide (x∈ls)) (want:=λx=>decide (x∈xw)) D5
 generalize kF G (1-hand) (λx=>decide (x∈ls)) (λx=>decide (x∈xw))=RB at Jr FC QG
 have Xj:gb (gb gG) (mn HC ha wa) RB (.ref vb):=(cN (cN cR)).up (FW ZC Z0) Jr
 have Uy:=Ux.trans sC
 have hhC:=sC _ _ ZC
 have hwC:=sC _ _ Z0
 have hlC:=sC _ _ ZJ
 have hpC:=sC _ _ hpA
 refine ff q15 ?_
 refine fe λE16 q16=>?_
 refine⟨_,rfl,x,dx,_,rfl,Uy _ _ hx,oj _ _ _ _ (by decide +kernel) (by decide +kernel) (by decide +kernel) (by decide +kernel),_,rfl,_,_,rfl,rfl,_,rfl,x,_,r,as,ha,wa,G,1-hand,.ref vb,_,_,RB,xW,BN,rfl,FX,hO.up (pU Uy),cU,Xj,FC,QG,hhC,hwC,λX HD sD hhD hwD hX=>?_⟩
 have sxD:bh (mn H3 ha wa) HD:=(pU Uy).trans sD
 have hlD:=sD _ _ (l8 hlC XO XR)
 have hpD:=sD _ _ (by rw[pT Lj Lk];exact hpC)
 have ac8:gb (gb gG) HD RB (.ref vb):=(cN (cN cR)).up sD Xj
 have abG:RB.flatten.length<=63:=by
  have:=FC.li.len
  rw[fG] at this
  omega
 refine ff q16 ?_
 refine fe λE17 q17=>?_
 refine⟨_,rfl,.inl ⟨rfl,_,bI.of hpD⟩,_,rfl,_,RB,rfl,ac8,abG,FC.nd,λnb nbs HE sE acy hnb ais hbm Zy=>?_⟩
 have hpE:=sE _ _ hpD
 refine⟨pc,_,_,rfl,rfl,hpE,mK (m:=1000) (by omega),?_⟩
 have sxF:bh (mn H3 ha wa) (upd HE pc (.lst (pv++[V.ref nb]))):=(sxD.trans sE).put W3 _
 have hhF:upd HE pc (.lst (pv++[V.ref nb])) ha=some (.lst ((im G.length λp=>if p∈tl RB then 1-hand else xW p).map V.int)):=by rw[bB (cS Lj)];exact sE _ _ hhD
 have hwF:upd HE pc (.lst (pv++[V.ref nb])) wa=some (.lst (om G.length λp=>if p∈tl RB then X p else BN p)):=by rw[bB (cS Lk)];exact sE _ _ hwD
 have hlF:upd HE pc (.lst (pv++[V.ref nb])) la=some (.lst (ls.map V.int)):=by rw[bB nlp];exact sE _ _ hlD
 have nnp:nb≠pc:=e7 hpD acy
 have hnF:upd HE pc (.lst (pv++[V.ref nb])) nb=some (.lst (nbs.map V.int)):=by rw[bB nnp];exact hnb
 have ZO:upd HE pc (.lst (pv++[V.ref nb])) pc=some (.lst (pv++[V.ref nb])):=ar
 generalize upd HE pc (.lst (pv++[V.ref nb]))=HF at sxF hhF hwF hlF hnF ZO ⊢
 refine ff q17 ?_
 refine⟨_,rfl,x,dx,_,rfl,sxF _ _ hx,oj _ _ _ _ (by decide +kernel) (by decide +kernel) (by decide +kernel) (by decide +kernel),_,rfl,_,rfl,1,rfl,pc,_,_,_,rfl,rfl,bI.of ZO,JW _ _,x,_,r,as,ha,wa,G,la,nb,ls,nbs,rfl,hO.up sxF,cU,hlF,hnF,HX,SI,λlb HG sG SH Ny=>?_⟩
 obtain⟨QS,HY⟩:∃ QS,QS=ls.filter λz=>!decide (z∈nbs):=⟨_,rfl⟩
 rw[← HY] at Ny
 have Ej:∀ p,p∈QS↔p∈ls/\∀ k,¬ lv RB k p:=λp=>by
  rw[HY,bF]
  have:(!decide (p∈nbs))=true↔∀ k,¬ lv RB k p:=by
   rw[kJ,decide_eq_false_iff_not,hbm,sH]
   exact⟨λz k hk=>z ⟨k,hk⟩,λz ⟨k,hk⟩=>z k hk⟩
  rw[this]
 obtain⟨adK,XG⟩:=F0 FC HX ZK Ej
 have inl:∀ {k p},lv RB k p->p∈ls:=λh=>of_decide_eq_true (FC.Ic h)
 have lb0:∀ p,lv RB 0 p↔p∈xw:=λp=>by
  constructor
  ·intro h
   exact of_decide_eq_true ((FC.zero (FC.rg h)).mp h).2
  ·intro h
   have hl:=((pW p).mp ((wv p).mp h).1).1
   exact (FC.zero (HX p hl)).mpr ⟨decide_eq_true hl,decide_eq_true h⟩
 have Rc:∀ p,p∈tl RB->p∈ls:=λp hp=>by obtain⟨k,hk⟩:=nB.mp hp;exact inl hk
 have tl0:∀ {p},lv RB 0 p->p ∉ tl RB:=λ{p} h z=>by
  obtain⟨k,hk⟩:=nB.mp z
  have:=nq FC.nd h hk
  omega
 have ji:QS.length<ls.length:=by
  cases e:xw with
  | nil=>exact absurd e WN
  | cons z zs =>
   have hz:z∈xw:=by rw[e];exact aP ..
   have Z4:=((pW z).mp ((wv z).mp hz).1).1
   refine Nat.lt_of_le_of_ne (by rw[HY];exact dD _ _) λhe=>?_
   rw[HY,List.length_filter_eq_length_iff] at he
   have h1:z∈QS:=by rw[HY];exact bF.mpr ⟨Z4,he z Z4⟩
   exact ((Ej z).mp h1).2 0 ((lb0 z).mpr hz)
 have adj:=(pG.won (1-hand) We).congr (wf':=BN) (D':=(·∈xw)) (λp _=>rfl) λp=>⟨λz=>(wv p).mpr z,λz=>(wv p).mp z⟩
 have dn:∀ p,(p∈ps/\p ∉ QS)↔((p∈ps/\p ∉ ls)\/∃ k,lv RB k p):=λp=>by
  constructor
  ·rintro⟨a,b⟩
   by_cases c1:p∈ls
   ·refine .inr (b6 λz=>b ((Ej p).mpr ⟨c1,λk hk=>z ⟨k,hk⟩⟩))
   ·exact .inl ⟨a,c1⟩
  ·rintro (⟨a,b⟩ | ⟨k,hk⟩)
   ·exact⟨a,λz=>b ((Ej p).mp z).1⟩
   ·exact⟨vh p (inl hk),λz=>((Ej p).mp z).2 k hk⟩
 have hP:∀ p,p∈ps↔(p∈ps/\p ∉ ls)\/p∈ls:=λp=>by
  constructor
  ·intro h
   by_cases c1:p∈ls
   ·exact .inr c1
   ·exact .inl ⟨h,c1⟩
  ·rintro (h | h)
   ·exact h.1
   ·exact vh p h
 have SR:yz G (·∈ps) (λp=>if p∈tl RB then X p else BN p) (1-hand) (λp=>(p∈ps/\p ∉ ls)\/∃ k,lv RB k p):=by
  refine yz.Ye (oth:=os) (wf:=wf') (wf0:=BN) (lost:=(·∈xw)) FC hP (λp hp=>hp.2) hDW adj (λp hp=>((pW p).mp hp).1) (λp hp ho w hw hl=>X9 p hp ?_ w hw hl) (λp=>(lb0 p).symm) (λp hp=>?_) (λp hp=>if_neg (tl0 hp)) (λp k h ho=>?_) (λp k h ho=>?_)
  ·rcases Wr n4 (HX p ((pW p).mp hp).1) with z | z <;> rcases Kx with z' | z' <;> omega
  ·show (if p∈tl RB then X p else BN p)=wf' p
   rw[if_neg (λz=>hp.2 (Rc p z))]
   exact (sv p (λz=>hp.2 ((pW p).mp z).1)).2
  ·obtain⟨v9,k1,k2,k3⟩:=FC.pick h ho
   obtain⟨z0,z1⟩:=FC.rg h
   exact⟨v9,by rw[if_pos (nB.mpr ⟨k,h⟩),(hX p z0 z1).1 k ⟨h,ho⟩];exact k1,k2,k3⟩
  ·obtain⟨z0,z1⟩:=FC.rg h
   show (if p∈tl RB then X p else BN p)=none
   rw[if_pos (nB.mpr ⟨k,h⟩)];exact (hX p z0 z1).2 λk z=>ho z.2
 refine⟨QS.length,ji,lb,QS,_,_,_,_,_,_,_,_,rfl,sxF.trans sG,sG _ _ hhF,sG _ _ hwF,sG _ _ ZO,?_,Ny,e7 hhF SH,e7 hwF SH,e7 ZO SH,by rw[HY];exact WQ.filter _,λp hp=>vh p ((Ej p).mp hp).1,adK,λp hp ho w hw hwp=>?_,λp h1 h2=>?_,SR.congr (λp _=>rfl) λp=>(dn p).symm,λp hp=>?_,rfl⟩
 ·rw[aJ,da];omega
 ·obtain⟨a,b⟩:=(Ej p).mp hp
  exact XG p hp ho w hw (uJ p a ho w hw hwp)
 ·show (if p∈tl RB then 1-hand else xW p)=1-hand
  rcases (dn p).mp ⟨h1,h2⟩ with z | ⟨k,hk⟩
  ·rw[if_neg (λy=>z.2 (Rc p y)),(sv p (λy=>z.2 ((pW p).mp y).1)).1]
   exact hDh p z.1 z.2
  ·cases k with
   | zero=>rw[if_neg (tl0 hk)];exact ((wv p).mp ((lb0 p).mp hk)).2
   | succ k=>rw[if_pos (nB.mpr ⟨k,hk⟩)]
 ·have h2:p ∉ ls:=λz=>hp (vh p z)
  obtain⟨k1,k2⟩:=Ou p hp
  obtain⟨j1,j2⟩:=sv p (λz=>h2 ((pW p).mp z).1)
  refine⟨?_,?_⟩
  ·show (if p∈tl RB then 1-hand else xW p)=hf p
   rw[if_neg (λy=>h2 (Rc p y)),j1,k1]
  ·show (if p∈tl RB then X p else BN p)=wf p
   rw[if_neg (λy=>h2 (Rc p y)),j2,k2]
theorem N9 (F:iG K C "cut" "Cutter.cut" fD ["self","part"]) (T:Txt mg) (aN:ClsAt K mg "Cutter" C uF) (kL:xI P w K mg base C "pull" 6 ["self","hand","goal","left"] (Bt C)) (iU:xI P w K mg base C "without" 4 ["self","left","places"] (uE C)) (kK:xI P w K mg base C "give" 5 ["self","hand","layers"] (ER C)) (jA:xI P w K mg base C "give_tops" 4 ["self","hand","tops","left"] (ET C)) (mM:Dn P w K mg base "places_of" 1 ["layers"] rJ) (n:Nat) :
  xI P w K mg base C "cut" (6+n) ["self","part"] (spC C n):=by
 induction n with
 | zero =>
  obtain⟨f,fd,_,hm,hb⟩:=F.ex
  exact⟨f,fd,⟨λ_ _ _ _ z=>z.elim,λ_ _ _ _ _ _ _ _ _ _ _ _ _ z=>z.elim⟩,hm,hb⟩
 | succ n ih=>exact TY F T aN kL iU kK jA mM ih
theorem RQ.congr {G:List Row} {P P':Int->Prop} {hf:Int->Int} {wf:Int->Option Int} (s:RQ G P hf wf) (e:∀ p,P p↔P' p):RQ G P' hf wf:=by
 have:P=P':=funext λp=>propext (e p)
 subst this;exact s
def Dm:Sp:=λvs H Q _=>Ql λ(v:V) (G:List Row)=>JD (vs=[v]) (oN H G v) (B5 G) (VC G) (NE G) ((∀ z:Int,0<=z->z<G.length->0<=rk G z/\rk G z<41)) (∀ (t ha wa:ah) (hf:Int->Int) (wf:Int->Option Int) (H':Hp),bh H (mn H' ha wa)->ha≠wa->H ha=none->H wa=none->H' t=some (.tup [.ref ha,.ref wa])->H' ha=some (.lst ((im G.length hf).map V.int))->H' wa=some (.lst (om G.length wf))->RQ G (xQ G) hf wf->Q (.ref t) H')
theorem Iz (F:bz K mg "solved" pZ ["game"]) (T:Txt mg) (aN:ClsAt K mg "Cutter" C uF) (rZ:Qk P w K mg base C 2 ["self","game"] (Gw C)) (n6:xI P w K mg base C "cut" 48 ["self","part"] (Mn C 41)):Dn P w K mg base "solved" 49 ["game"] Dm:=by
 have sc:=IK
 refine F.ok sc (λvs H Q E h=>?_) (λf dk A outer s H vs Q E hr h=>?_)
 ·obtain⟨_,_,rfl,_⟩:=h;rfl
 obtain⟨v,G,rfl,hG,cU,n4,kx,Eb,q⟩:=h
 obtain⟨g0,gv,rfl,jS,mP,eU⟩:=fu hG
 have D5:=cU.1
 refine⟨_,(au (bP (i:=1) sc.nd rfl (bi rfl) (EF aN rZ hr (af (pv 0) av)))
   (au (cz (mh aN.cl n6 hr (pv 1) (af (kG (xS rfl) rfl T.v1 gQ (af (IB rfl T.jX (af (cn (iu (K:=K) rfl) rfl T.iq bN (af (pv 0) av)) av)) av)) av)))
   (aG (cP (jF (af (bW (K:=K) rfl (pv 1) rfl) (af (bW (K:=K) rfl (pv 1) rfl) av))))))),?_⟩
 refine⟨_,rfl,?_⟩
 intro x dx hx Wt ndx
 have s0:bh H (upd (upd H dx (.own x)) x (.ins C dx [])):=λb o e=>by
  rw[bB (cr e hx),bB (cr e Wt)];exact e
 refine⟨x,dx,_,G,H,rfl,s0,hx,ar,hG,cU,λr as ha wa H1 FX h1 h2 s1 hO hh1 nT=>⟨rfl,?_⟩⟩
 obtain⟨⟨Ka,Ec⟩,_,_⟩:=id hO
 have sH1:bh H H1:=s1.trans kQ
 refine⟨_,rfl,x,Ka,_,rfl,kQ _ _ Ec,oj _ _ _ _ (by decide +kernel) (by decide +kernel) (by decide +kernel) (by decide +kernel),_,rfl,g0,_,rfl,.inl (bI.of (sH1 _ _ jS)),_,rfl,λp0 SQ=>⟨p0,_,rfl,ar,by omega,by omega,λl hl=>?_⟩⟩
 have s2:bh H1 (upd (upd H1 p0 (.oO 0 (gv.length:Nat))) l (.lst (((bO ((gv.length:Nat):Int).toNat).map λ(j:Nat)=>(j:Int)).map V.int))):=(az SQ _).trans (az hl _)
 have oJ:H1 l=none:=(az SQ (.oO 0 (gv.length:Nat))).free hl
 have qP:upd (upd H1 p0 (.oO 0 (gv.length:Nat))) l (.lst (((bO ((gv.length:Nat):Int).toNat).map λ(j:Nat)=>(j:Int)).map V.int)) l=some (.lst ((oO G.length).map V.int)):=by
  rw[ar,bC,mP];rfl
 generalize upd (upd H1 p0 (.oO 0 (gv.length:Nat))) l (.lst (((bO ((gv.length:Nat):Int).toNat).map λ(j:Nat)=>(j:Int)).map V.int))=H2 at s2 qP ⊢
 have XO:l≠ha:=e7 hh1 oJ
 have XR:l≠wa:=e7 nT oJ
 refine⟨x,_,r,as,ha,wa,G,l,oO G.length,_,_,rfl,FX,hO.up (j3 s2),cU,n4,l8 qP XO XR,Ba _,λz hz=>g8.mp hz,λp hp=>?_,λz hz=>Eb z (g8.mp hz).1 (g8.mp hz).2,s2 _ _ hh1,s2 _ _ nT,λu H3 hf wf s3 HU yU pG _=>?_⟩
 ·obtain⟨w9,Xk⟩:=Y6 kx (g8.mp hp)
  exact⟨w9,Xk,g8.mpr (Rm cU.Vt Xk)⟩
 have FJ:=s3 _ _ (j3 s2 _ _ Ec)
 refine⟨_,rfl,x,C,Ka,_,_,rfl,FJ,aN.cl,aN.na _ (by decide +kernel),qk _ _ _ _,_,rfl,x,C,Ka,_,_,rfl,FJ,aN.cl,aN.na _ (by decide +kernel),sh _ _ _ _,(by show 2<=aL;decide),λt ht=>?_⟩
 have s4:=az ht (.tup [.ref ha,.ref wa])
 exact q t ha wa hf wf _ (s1.trans ((j3 s2).trans ((pU s3).trans (j3 s4)))) FX h1 h2 ar (s4 _ _ HU) (s4 _ _ yU) (pG.congr λp=>g8)
theorem uy {α β:Type} {F:α->β->Prop}:∀ {xs:List α} {ys:List β},dP F xs ys->xs.length=ys.length
 | _,_,.nil=>rfl
 | _,_,.cons _ t=>by rw[bK,bK,uy t]
theorem RX {us:List V} {z:Int} {u:V} (h0:0<=z) (h:us[z.toNat]?=some u):o6 us z=some u:=by
 obtain⟨n,rfl⟩:=Int.eq_ofNat_of_zero_le h0
 exact bV (j:=n) h
def oV:Option Int->V
 | none=>.e8
 | some v=>.int v
def tV (T:List (Option Int)):List V:=T.map oV
theorem jd (T:List (Option Int)):(tV T).length=T.length:=aj _
def dE (T:List (Option Int)):Tb:=λx=>if 0<=x then (T[x.toNat]?).getD none else none
theorem P3 (T:List (Option Int)) (i:Nat):dE T (i:Int)=(T[i]?).getD none:=by unfold dE;rw[if_pos (by omega)];rfl
theorem xj {T:List (Option Int)} {x:Int} (h0:0<=x) (h1:x<T.length):o6 (tV T) x=some (oV (dE T x)):=by
 have hl:x.toNat<T.length:=by omega
 refine RX h0 ?_
 unfold tV dE
 rw[if_pos h0,aB,ao hl];rfl
def qe:Sp:=λvs H Q _=>∃ (ta:ah) (T:List (Option Int)) (p a:Int),vs=[.ref ta,.int p,.int a]/\H ta=some (.lst (tV T))/\0<=p/\p<T.length/\Q (oV (a0a (dE T) (p,a))) H
theorem Ix (F:bz K mg "need_by" nY ["purses","place","amount"]) (T:Txt mg):Dn P w K mg base "need_by" 1 ["purses","place","amount"] qe:=by
 have sc:=EL
 refine F.ok sc (λvs H Q E h=>?_) (λf dk A outer s H vs Q E hr h=>?_)
 ·obtain⟨_,_,_,_,rfl,_⟩:=h;rfl
 obtain⟨ta,TT,p,a,rfl,xv,p0,p1,q⟩:=h
 refine⟨_,(au (fo (iQ (ny (bM (lA (K:=K) rfl) (pv 0) (pv 1) (λ_ _=>rfl))))
   (aG (cP mj))
   dq)
   (aG (cP (cn (Hl rfl) rfl T.JX xL (af (bX wG (bM (lA (K:=K) rfl) (pv 0) (pv 1) (λ_ _=>rfl)) (pv 2)) (af aK av)))))),?_⟩
 have at0:=xj p0 p1
 refine⟨_,rfl,_,rfl,ta,_,_,_,rfl,rfl,bI.of xv,at0,_,rfl,?_⟩
 unfold a0a at q
 cases e:dE TT p with
 | none =>
  rw[e] at q
  exact jc q
 | some v =>
  rw[e] at q at0
  refine eJ ?_
  refine⟨_,rfl,_,rfl,ta,_,_,_,rfl,rfl,bI.of xv,at0,_,rfl,_,_,rfl,rfl,?_⟩
  refine⟨_,_,rfl,?_⟩
  have e9:(if (0:Int) > v-a then (0:Int) else v-a)=max (v-a) 0:=by
   by_cases c:(0:Int) > v-a
   ·rw[if_pos c];omega
   ·rw[if_neg c];omega
  rw[e9];exact q
def nk:Option Int->Int × Int
 | none=>(1,0)
 | some v=>(0,v)
theorem Lg {a b:Option Int}:zc (nk b) (nk a)↔¬ fP a b:=by
 cases a <;> cases b <;> simp[nk,zc,fP]
def vG:Sp:=λvs H Q _=>∃ (o:Option Int),vs=[oV o]/\∀ t,H t=none->Q (.ref t) (upd H t (.tup (mS (nk o))))
theorem Lq (F:bz K mg "need_order" j9 ["need"]) (T:Txt mg):Dn P w K mg base "need_order" 1 ["need"] vG:=by
 have sc:=yg
 refine F.ok sc (λvs H Q E h=>?_) (λf dk A outer s H vs Q E hr h=>?_)
 ·obtain⟨_,rfl,_⟩:=h;rfl
 obtain⟨o,rfl,q⟩:=h
 refine⟨_,(aG (cP (mi (iQ (ny (pv 0))) (jF (af aK (af aK av))) (jF (af aK (af (pv 0) av)))))),?_⟩
 refine⟨_,rfl,_,rfl,?_⟩
 cases o with
 | none=>exact jc ⟨(by show 2<=aL;decide),λt ht=>q t ht⟩
 | some v=>exact eJ ⟨_,rfl,(by show 2<=aL;decide),λt ht=>q t ht⟩
def Bq:Sp:=λvs H Q _=>∃ (a b:Option Int),vs=[oV a,oV b]/\∀ (r:Bool) H',bh H H'->(r=true↔¬ fP a b)->Q (.bl r) H'
theorem O3 (F:bz K mg "is_more" nX ["need","other"]) (T:Txt mg) (iV:Dn P w K mg base "need_order" 1 ["need"] vG):Dn P w K mg base "is_more" 2 ["need","other"] Bq:=by
 have sc:=EK
 refine F.ok sc (λvs H Q E h=>?_) (λf dk A outer s H vs Q E hr h=>?_)
 ·obtain⟨_,_,rfl,_⟩:=h;rfl
 obtain⟨a,b,rfl,q⟩:=h
 refine⟨_,(aG (cP (kR (T6 (K:=K) rfl (AD hr 0)) (cO iV hr (af (pv 0) av)) (cO iV hr (af (pv 1) av)) (dM _)))),?_⟩
 refine⟨_,rfl,a,rfl,λt1 h1=>⟨_,rfl,b,rfl,λt2 h2=>?_⟩⟩
 refine⟨t1,t2,[(nk a).1,(nk a).2],[(nk b).1,(nk b).2],rfl,rfl,gJ.of (az h2 _ _ _ ar),gJ.of ar,?_⟩
 exact q _ _ ((az h1 _).trans (az h2 _)) ((K3 _ _).trans Lg)
def nt (H:Hp):Hp:=λb=>match H b with
 | some (.vo _)=>none
 | o=>o
theorem uM {H:Hp} {b:ah} {o:HO} (h:H b=some o) (ho:∀ ps,o≠.vo ps):nt H b=some o:=by
 unfold nt
 rw[h]
 cases o <;> first | rfl | exact absurd rfl (ho _)
theorem CY {H:Hp} {b:ah} {o:HO} (h:nt H b=some o):H b=some o/\∀ ps,o≠.vo ps:=by
 unfold nt at h
 cases e:H b with
 | none=>rw[e] at h;cases h
 | some u =>
  rw[e] at h
  cases u <;> first | (cases h;exact⟨rfl,λ_ z=>by cases z⟩) | cases h
theorem cG {H:Hp}:bh (nt H) H:=λ_ _ h=>(CY h).1
theorem iP {H:Hp} {b:ah} {xs:List V} (h:H b=some (.lst xs)):nt H b=some (.lst xs):=uM h λ_ z=>by cases z
theorem wE {H:Hp} {b:ah} {xs:List V} (h:H b=some (.tup xs)):nt H b=some (.tup xs):=uM h λ_ z=>by cases z
def Sm (H H':Hp):Prop:=bh (nt H) (nt H')
theorem Sm.of {H H':Hp} (s:bh H H'):Sm H H':=λb o h=>by
 obtain⟨h1,h2⟩:=CY h
 exact uM (s _ _ h1) h2
theorem Sm.trans {H H1 H2:Hp} (a:Sm H H1) (b:Sm H1 H2):Sm H H2:=bh.trans a b
theorem Sm.ofT {H H':Hp} {p:ah} {ps:Array ae} (s:jk p H H') (h:H p=some (.vo ps)):Sm H H':=λb o e=>by
 obtain⟨h1,h2⟩:=CY e
 exact uM (s b o (λz=>by rw[z,h] at h1;injection h1 with h1;exact h2 _ h1.symm) h1) h2
theorem Sm.put {H H':Hp} {a:ah} (s:Sm H H') (h:nt H a=none) (o:HO):Sm H (upd H' a o):=λb u e=>by
 have nb:b≠a:=λz=>by rw[z,h] at e;cases e
 obtain⟨h1,h2⟩:=CY (s _ _ e)
 exact uM (by rw[bB nb];exact h1) h2
theorem sK {H:Hp} {a:ah} (h:H a=none):nt H a=none:=by unfold nt;rw[h]
theorem Sm.lst {H H':Hp} {b:ah} {xs:List V} (s:Sm H H') (h:nt H b=some (.lst xs)):H' b=some (.lst xs):=cG _ _ (s _ _ h)
theorem Sm.tup {H H':Hp} {b:ah} {xs:List V} (s:Sm H H') (h:nt H b=some (.tup xs)):H' b=some (.tup xs):=cG _ _ (s _ _ h)
def XE (st:cL):gR:=match fk st with
 | [.Return (some (.Call _ _ [⟨_,.Lambda _ _ _ p,_⟩] _)) _]=>p
 | _=>⟨0,0,0,0⟩
abbrev qL:aT := "least_needy" ++ ".<locals>." ++ "<lambda>"
abbrev qM:aT := "most_needy" ++ ".<locals>." ++ "<lambda>"
abbrev pL (K:ak):ah:=em K "least_needy"
abbrev pM (K:ak):ah:=em K "most_needy"
structure qi (K:ak) (H:Hp):Prop where
 l:jW H (pL K) (XE iC) qL
 m:jW H (pM K) (XE i6) qM
 ne:pL K≠pM K
theorem qi.up {H H':Hp} (t:qi K H) (s:bh H H'):qi K H':=⟨t.l.up s,t.m.up s,t.ne⟩
theorem GI {H H':Hp} {p q:ah} {pos:gR} {qual:aT} (t:jW H p pos qual) (s:jk q H H') (ne:p≠q) (hq:∃ ps,H q=some (.vo ps)):jW H' p pos qual:=by
 obtain⟨ps,h1,h2,h3⟩:=t
 refine⟨ps,s _ _ ne h1,h2,?_⟩
 rcases h3 with h | ⟨c,o,vs,t,h4,h5,h6⟩
 ·exact .inl h
 ·exact .inr ⟨c,o,vs,t,h4,s _ _ (λz=>by obtain⟨qs,hq⟩:=hq;rw[z,hq] at h5;cases h5) h5,h6⟩
theorem qi.put {H:Hp} {a:ah} {xs:List V} {o:HO} (t:qi K H) (h:H a=some (.lst xs)):qi K (upd H a o):=by
 have go:∀ {p:ah} {pos:gR} {qual:aT},jW H p pos qual->jW (upd H a o) p pos qual:=λ{p pos qual} t=>by
  obtain⟨ps,h1,h2,h3⟩:=t
  refine⟨ps,by rw[bB (λz=>by rw[z,h] at h1;cases h1)];exact h1,h2,?_⟩
  rcases h3 with z | ⟨c,o',vs,t,h4,h5,h6⟩
  ·exact .inl z
  ·exact .inr ⟨c,o',vs,t,h4,by rw[bB (λz=>by rw[z,h] at h5;cases h5)];exact h5,h6⟩
 exact⟨go t.l,go t.m,t.ne⟩
abbrev IG:Rel (List Wy):=gb (Uk gG gG)
theorem eV:io IG:=cN (ql cR cR)
theorem my {H:Hp} {r:List Wy} {v:V} (h:IG H r v):∃ a us,v=.ref a/\H a=some (.lst us)/\us.length=r.length/\∀ (i:Nat) (p:Wy),r[i]?=some p->∃ t,us[i]?=some (.ref t)/\H t=some (.tup [.int p.1,.int p.2]):=by
 obtain⟨a,us,rfl,ha,pr⟩:=h
 refine⟨a,us,rfl,ha,(uy pr).symm,λi p hp=>?_⟩
 obtain⟨u,hu,t,x,y,rfl,ht,rfl,rfl⟩:=L2.Paired.at pr hp
 exact⟨t,hu,ht⟩
def Mo (K:ak) (mx:Bool):Sp:=λvs H Q _=>∃ (v:V) (ta:ah) (ws:List Wy) (T:List (Option Int)),vs=[v,.ref ta]/\IG (nt H) ws v/\nt H ta=some (.lst (tV T))/\ws≠[]/\(∀ w∈ws,0<=w.1/\w.1<T.length)/\qi K H /\
 ∀ (t:ah) (w:Wy) (H':Hp),Sm H H'->qi K H'->w∈ws->(∀ w'∈ws,if mx then fP (a0a (dE T) w') (a0a (dE T) w) else fP (a0a (dE T) w) (a0a (dE T) w'))->nt H' t=some (.tup [.int w.1,.int w.2])->Q (.ref t) H'
theorem XZ (F:bz K mg "least_needy" iC ["ways","purses"]) (T:Txt mg) (L:uG K mg "least_needy") (jH:Dn P w K mg base "need_by" 1 ["purses","place","amount"] qe) (iV:Dn P w K mg base "need_order" 1 ["need"] vG):Dn P w K mg base "least_needy" 4 ["ways","purses"] (Mo K false):=by
 have sc:=wX
 refine bz.okL F L sc (λvs H Q E h=>?_) (λf dk A outer s H vs Q E LD hr h=>?_)
 ·obtain⟨_,_,_,_,rfl,_⟩:=h;rfl
 obtain⟨v,ta,ws,TT,rfl,hv,xv,ne,rg,tb,q⟩:=h
 obtain⟨wl,us,rfl,rD,ul,xr⟩:=my hv
 refine⟨_,λMD=>(aG (cP (Pf (k:=1) (j:=1) (LD MD) hr rfl rfl T.Qz (af (pv 0) av) rfl rfl rfl (by decide +kernel) (by decide +kernel) rfl rfl (λ_ _ _ _ _=>rfl) (λcl q dk s H=>(cO iV (eP.deeper (eP.in1 hr) _) (af (cO jH (eP.deeper (eP.in1 hr) _) (af (pv 1) (af (bM (mQ (K:=K) rfl) (pv 0) aK (λ_ _=>rfl)) (af (bM (mQ (K:=K) rfl) (pv 0) aK (λ_ _=>rfl)) av)))) av)))))),?_⟩
 obtain⟨ps,hP,_⟩:=id tb.l
 have une:us≠[]:=λz=>ne (ig.mp (by rw[← ul,z];rfl))
 have MP:∀ {i:Nat} {x:V},us[i]?=some x->∃ t wi,x=.ref t/\ws[i]?=some wi/\ws.getD i (0,0)=wi/\nt H t=some (.tup [.int wi.1,.int wi.2]):=λ{i x} hx=>by
  have il:i<ws.length:=by rw[← ul];exact (ag.mp hx).1
  obtain⟨t,h1,h2⟩:=xr i _ (ao il)
  rw[hx] at h1
  injection h1 with h1
  exact⟨t,ws[i],h1,ao il,by rw[dX,ao il];rfl,h2⟩
 refine⟨_,rfl,tb.l,wl,us,.ref ta,λi=>nk (a0a (dE TT) (ws.getD i (0,0))),rfl,cG _ _ rD,une,rfl,λi x H2 hx sT=>?_,λi x H2 hx Hf sT UH=>?_⟩
 ·obtain⟨t,wi,rfl,h1,h2,h3⟩:=MP hx
  have sm:=Sm.ofT sT hP
  have ht:=sm.tup h3
  have De:=rg wi (am h1)
  refine⟨_,rfl,_,rfl,t,_,_,_,rfl,rfl,gJ.of ht,bV (j:=0) rfl,_,rfl,t,_,_,_,rfl,rfl,gJ.of ht,bV (j:=1) rfl,ta,TT,wi.1,wi.2,rfl,sm.lst xv,De.1,De.2,_,rfl,λt' ht'=>⟨az ht' _,t',rfl,?_⟩⟩
  rw[ar]
  show some (HO.tup (mS (nk (a0a (dE TT) wi))))=some (HO.tup (mS (nk (a0a (dE TT) (ws.getD i (0,0))))))
  rw[h2]
 ·obtain⟨t,wi,rfl,h1,h2,h3⟩:=MP hx
  have sm:=Sm.ofT sT hP
  refine q t wi H2 sm ⟨UH,GI tb.m sT (cS tb.ne) ⟨_,hP⟩,tb.ne⟩ (am h1) (λw' oU=>?_) (sm _ _ h3)
  obtain⟨j,hj⟩:=cg oU
  have jl:=(ag.mp hj).1
  have b:=(Hf j (by rw[ul];exact jl)).1
  have HW:ws.getD j (0,0)=w':=by rw[dX,hj];rfl
  have b:¬ zc (nk (a0a (dE TT) (ws.getD j (0,0)))) (nk (a0a (dE TT) (ws.getD i (0,0)))):=b
  rw[h2,HW] at b
  exact b6 λz=>b (Lg.mpr z)
theorem X0 (F:bz K mg "most_needy" i6 ["ways","purses"]) (T:Txt mg) (L:uG K mg "most_needy") (jH:Dn P w K mg base "need_by" 1 ["purses","place","amount"] qe) (iV:Dn P w K mg base "need_order" 1 ["need"] vG):Dn P w K mg base "most_needy" 4 ["ways","purses"] (Mo K true):=by
 have sc:=yf
 refine bz.okL F L sc (λvs H Q E h=>?_) (λf dk A outer s H vs Q E LD hr h=>?_)
 ·obtain⟨_,_,_,_,rfl,_⟩:=h;rfl
 obtain⟨v,ta,ws,TT,rfl,hv,xv,ne,rg,tb,q⟩:=h
 obtain⟨wl,us,rfl,rD,ul,xr⟩:=my hv
 refine⟨_,λMD=>(aG (cP (Pe (k:=1) (j:=1) (LD MD) hr rfl rfl T.JX (af (pv 0) av) rfl rfl rfl (by decide +kernel) (by decide +kernel) rfl rfl (λ_ _ _ _ _=>rfl) (λcl q dk s H=>(cO iV (eP.deeper (eP.in1 hr) _) (af (cO jH (eP.deeper (eP.in1 hr) _) (af (pv 1) (af (bM (mQ (K:=K) rfl) (pv 0) aK (λ_ _=>rfl)) (af (bM (mQ (K:=K) rfl) (pv 0) aK (λ_ _=>rfl)) av)))) av)))))),?_⟩
 obtain⟨ps,hP,_⟩:=id tb.m
 have une:us≠[]:=λz=>ne (ig.mp (by rw[← ul,z];rfl))
 have MP:∀ {i:Nat} {x:V},us[i]?=some x->∃ t wi,x=.ref t/\ws[i]?=some wi/\ws.getD i (0,0)=wi/\nt H t=some (.tup [.int wi.1,.int wi.2]):=λ{i x} hx=>by
  have il:i<ws.length:=by rw[← ul];exact (ag.mp hx).1
  obtain⟨t,h1,h2⟩:=xr i _ (ao il)
  rw[hx] at h1
  injection h1 with h1
  exact⟨t,ws[i],h1,ao il,by rw[dX,ao il];rfl,h2⟩
 refine⟨_,rfl,tb.m,wl,us,.ref ta,λi=>nk (a0a (dE TT) (ws.getD i (0,0))),rfl,cG _ _ rD,une,rfl,λi x H2 hx sT=>?_,λi x H2 hx Hf sT UH=>?_⟩
 ·obtain⟨t,wi,rfl,h1,h2,h3⟩:=MP hx
  have sm:=Sm.ofT sT hP
  have ht:=sm.tup h3
  have De:=rg wi (am h1)
  refine⟨_,rfl,_,rfl,t,_,_,_,rfl,rfl,gJ.of ht,bV (j:=0) rfl,_,rfl,t,_,_,_,rfl,rfl,gJ.of ht,bV (j:=1) rfl,ta,TT,wi.1,wi.2,rfl,sm.lst xv,De.1,De.2,_,rfl,λt' ht'=>⟨az ht' _,t',rfl,?_⟩⟩
  rw[ar]
  show some (HO.tup (mS (nk (a0a (dE TT) wi))))=some (HO.tup (mS (nk (a0a (dE TT) (ws.getD i (0,0))))))
  rw[h2]
 ·obtain⟨t,wi,rfl,h1,h2,h3⟩:=MP hx
  have sm:=Sm.ofT sT hP
  refine q t wi H2 sm ⟨GI tb.l sT tb.ne ⟨_,hP⟩,UH,tb.ne⟩ (am h1) (λw' oU=>?_) (sm _ _ h3)
  obtain⟨j,hj⟩:=cg oU
  have jl:=(ag.mp hj).1
  have b:=(Hf j (by rw[ul];exact jl)).1
  have HW:ws.getD j (0,0)=w':=by rw[dX,hj];rfl
  have b:¬ zc (nk (a0a (dE TT) (ws.getD i (0,0)))) (nk (a0a (dE TT) (ws.getD j (0,0)))):=λz=>b (show zc (Ju (λi=>nk (a0a (dE TT) (ws.getD i (0,0)))) j) (Ju (λi=>nk (a0a (dE TT) (ws.getD i (0,0)))) i) from Le.mpr z)
  rw[h2,HW] at b
  exact b6 λz=>b (Lg.mpr z)
abbrev IF:Rel (List cw):=gb (Uk gG IG)
abbrev Ui:Rel Lf:=gb IG
theorem lJ:io IF:=cN (ql cR eV)
theorem FU:io Ui:=cN eV
theorem mq {H:Hp} {G:List cw} {v:V} (h:IF H G v):∃ a us,v=.ref a/\H a=some (.lst us)/\us.length=G.length/\∀ (i:Nat) (r:cw),G[i]?=some r->∃ t wl,us[i]?=some (.ref t)/\H t=some (.tup [.int r.1,.ref wl])/\IG H r.2 (.ref wl):=by
 obtain⟨a,us,rfl,ha,pr⟩:=h
 refine⟨a,us,rfl,ha,(uy pr).symm,λi r hr=>?_⟩
 obtain⟨u,hu,t,x,y,rfl,ht,rfl,hy⟩:=L2.Paired.at pr hr
 obtain⟨wl,ws,rfl,hw⟩:=id hy
 exact⟨t,wl,hu,ht,hy⟩
def Mq:Sp:=λvs H Q _=>∃ (v:V) (G:List cw) (ra:ah) (r:List (Option Int)),vs=[v,.ref ra]/\IF H G v/\H ra=some (.lst (tV r))/\vv G/\Ac G r/\G.length<=16/\(∀ row∈G,row.2.length<=100)/\∀ u H',bh H H'->Ui H' (eG G r) u->Q u H'
theorem za {G:List cw} {r:List (Option Int)} {i:Nat} {row:cw} {o:Option Int} (h1:G[i]?=some row) (h2:r[i]?=some o):eG (G.take (i+1)) (r.take (i+1))=eG (G.take i) (r.take i)++[match o with | none=>row.2 | some p=>[(p,RV row.2 p)]]:=by
 unfold eG
 have l1:=(ag.mp h1).1
 have l2:=(ag.mp h2).1
 rw[nJ,nJ,h1,h2,List.zipWith_append (by rw[eE,eE];omega)]
 rfl
theorem sQ {G:List cw} {r:List (Option Int)} (h:Ac G r) {i:Nat} {row:cw} (hr:G[i]?=some row):(r[i]?=some none/\row.1≠1)\/∃ w∈row.2,r[i]?=some (some w.1)/\row.1=1:=by
 by_cases c:row.1=1
 ·obtain⟨w,hw,e⟩:=(h.2 i row hr).2 c
  exact .inr ⟨w,hw,e,c⟩
 ·exact .inl ⟨(h.2 i row hr).1 c,c⟩
def DC (ws:List Wy):List (Key × V):=ws.map λw=>(ij w.1,V.int w.2)
theorem Gh:∀ {l c:List (Key × V)},((c++l).map (·.1)).Nodup->l.foldl (λc p=>a0p c p.1 p.2) c=c++l
 | [],c,_=>(ef c).symm
 | p :: l,c,h=>by
  have e:a0p c p.1 p.2=c++[p]:=by
   unfold a0p
   rw[if_neg]
   intro ha
   obtain⟨kv,hm,he⟩:=lx.mp ha
   rw[aM,fB] at h
   exact h.2.2 kv.1 (bL.mpr ⟨kv,hm,rfl⟩) p.1 (by simp) (of_decide_eq_true he)
  rw[RF,e,Gh (by rw[iW];exact h),iW];rfl
theorem D2 {ws:List Wy} (nd:(ws.map (·.1)).Nodup):a0j [] (DC ws)=DC ws:=by
 unfold a0j
 rw[Gh,iH]
 rw[iH]
 unfold DC
 rw[Zi]
 have:(ws.map ((λx=>x.1) ∘ λw=>((ij w.1:Key),V.int w.2)))=(ws.map (·.1)).map ij:=by rw[Zi];rfl
 rw[this,cT,vx]
 exact nd.imp λ{a b} h e=>h (by injection e)
theorem Aq {ws:List Wy} (nd:(ws.map (·.1)).Nodup) {x:Wy} (hx:x∈ws):tz (DC ws) (ij x.1)=some (V.int x.2):=by
 unfold DC tz
 induction ws with
 | nil=>cases hx
 | cons y ws ih =>
  rw[dg,dc] at nd
  rw[dg]
  rcases aE.mp hx with e | e
  ·rw[e,List.find?_cons_of_pos (by exact decide_eq_true rfl)];rfl
  ·rw[Fh]
   ·exact ih nd.2 e
   ·intro z
    have:=of_decide_eq_true z
    injection this with this
    exact nd.1 (by rw[this];exact bL.mpr ⟨x,e,rfl⟩)
theorem GP {H:Hp}:∀ {ws:List Wy} {us:List V},dP (Uk gG gG H) ws us->∃ ts:List (ah × Key × V),us=ts.map (λt=>V.ref t.1)/\(∀ t∈ts,H t.1=some (.tup [kV t.2.1,t.2.2]))/\ts.map (λt=>t.2)=DC ws
 | _,_,.nil=>⟨[],rfl,(λ_ z=>by cases z),rfl⟩
 | _,_,.cons h t=>by
  obtain⟨ts,e1,e2,e3⟩:=GP t
  obtain⟨c,x,y,rfl,hc,rfl,rfl⟩:=h
  rename_i p _ _
  refine⟨(c,ij p.1,V.int p.2)::ts,by rw[e1];rfl,λt ht=>?_,by rw[dg,e3];rfl⟩
  rcases aE.mp ht with rfl | ht
  ·exact hc
  ·exact e2 t ht
structure Bd {α:Type} (R:Rel α) (H H2:Hp) (g:ah) (xs:List α):Prop where
 g0:H g=none
 s:bh H H2
 ex:∃ vs,H2 g=some (.lst vs)/\dP (R (del H2 g)) xs vs
section
variable {α:Type} {R:Rel α} {H H1 H2 H3:Hp} {g:ah} {xs:List α}
theorem Bd.start (h:H g=none):Bd R H (upd H g (.lst [])) g []:=⟨h,az h _,[],ar,.nil⟩
theorem Bd.go (m:io R) (b:Bd R H H2 g xs) (s:bh H2 H3):Bd R H H3 g xs:=by
 obtain⟨g0,s0,vs,h,p⟩:=b
 exact⟨g0,s0.trans s,vs,s _ _ h,ee m (jm s g) p⟩
theorem Bd.sq (b:Bd R H H2 g xs):∃ vs,H2 g=some (.lst vs)/\vs.length=xs.length:=by
 obtain⟨vs,h,p⟩:=b.ex
 exact⟨vs,h,(uy p).symm⟩
theorem Bd.push (m:io R) (b:Bd R H H2 g xs) (s:bh H2 H3) {x:α} {v:V} (r:R (del H3 g) x v):∃ vs,H3 g=some (.lst vs)/\vs.length=xs.length/\Bd R H (upd H3 g (.lst (vs++[v]))) g (xs++[x]):=by
 obtain⟨g0,s0,vs,h,p⟩:=b.go m s
 refine⟨vs,h,(uy p).symm,g0,s0.put g0 _,vs++[v],ar,?_⟩
 rw[iZ]
 exact L2.Paired.app p (.cons r .nil)
theorem Bd.done (m:io R) (b:Bd R H H2 g xs):gb R H2 xs (.ref g):=by
 obtain⟨g0,s0,vs,h,p⟩:=b
 exact⟨g,vs,rfl,h,ee m (jn _ _) p⟩
theorem Bd.old (b:Bd R H H2 g xs):bh H (del H2 g):=λc o e=>by
 have:c≠g:=λz=>by rw[z,b.g0] at e;cases e
 rw[dJ this];exact b.s _ _ e
end
theorem O2 (F:bz K mg "ways_left" k8 ["game","rule"]) (T:Txt mg):Dn P w K mg base "ways_left" 1 ["game","rule"] Mq:=by
 have sc:=Bl
 refine F.ok sc (λvs H Q E h=>?_) (λf dk A outer s H vs Q E hr h=>?_)
 ·obtain⟨_,_,_,_,rfl,_⟩:=h;rfl
 obtain⟨v,G,ra,r,rfl,hv,AC,g,rl,yP,oR,q⟩:=h
 obtain⟨a,us,rfl,ha,ul,xr⟩:=mq hv
 refine⟨_,(au (bP (i:=2) sc.nd rfl (bi rfl) (fb av))
   (au (eS bn rfl (wL (K:=K) rfl rfl T.yC (af (pv 0) (af (pv 1) av))) (ml rfl (dN (cE (i:=3) sc.nd rfl (bi rfl)) (dN (cE (i:=4) sc.nd rfl (bi rfl)) j5)))
   (aG (cz (jp aW aX aY dv (pv 2) (af (mi (iQ (ny (pv 4))) (kG (DY (K:=K) rfl) rfl T.v1 gQ (af (bM (mQ (K:=K) rfl) (pv 3) aK (λ_ _=>rfl)) av)) (fb (af (jF (af (pv 4) (af (AT (AD hr 1) (kG (lp (K:=K) rfl rfl) rfl T.DU nL (af (bM (mQ (K:=K) rfl) (pv 3) aK (λ_ _=>rfl)) av)) (pv 4) (λ_ _=>rfl)) av))) av))) av)))))
   (aG (cP (pv 2))))),?_⟩
 refine⟨bE _,λgl mP=>?_⟩
 have s1:=az mP (.lst [])
 refine⟨_,rfl,_,rfl,a,ra,rfl,⟨_,bI.of (s1 _ _ ha)⟩,⟨_,bI.of (s1 _ _ AC)⟩,vA (K:=K) (a:=a) (b:=ra) (xs:=us) (ys:=tV r) (by rw[jd,ul,rl.1]) (λi σ H2=>∃ y1 y2:Option V,σ=[some (.ref a),some (.ref ra),some (.ref gl),y1,y2]/\Bd IG H H2 gl (eG (G.take i) (r.take i))) ⟨_,_,rfl,Bd.start mP⟩ (λi σ H2 _ h=>?_) (λi x y σ H2 tt hx hy h KP=>?_) (λσ H2 h=>?_)⟩
 ·obtain⟨_,_,_,b⟩:=h
  exact⟨bI.of (b.s _ _ ha),bI.of (b.s _ _ AC)⟩
 ·obtain⟨y1,y2,rfl,b⟩:=h
  have il:i<G.length:=by rw[← ul];exact (ag.mp hx).1
  obtain⟨t,wl,hu,ht,hw⟩:=xr i _ (ao il)
  rw[hx] at hu
  injection hu with hu
  subst hu
  have gk:=g _ (cA il)
  have f2:=oR _ (cA il)
  have s3:=az KP (.tup [V.ref t,y])
  have b3:=b.go eV s3
  have ht3:=b3.s _ _ ht
  have yU:=eV.up b3.s hw
  obtain⟨Wd,On,gvl⟩:=b3.sq
  have gll:(eG (G.take i) (r.take i)).length<=16:=by unfold eG;rw[JM,eE,eE];omega
  refine⟨tt,_,rfl,gJ.of ar,rfl,_,_,rfl,_,_,rfl,rfl,?_⟩
  refine⟨_,rfl,.inl ⟨rfl,_,bI.of On⟩,_,rfl,_,rfl,?_⟩
  unfold tV at hy
  rw[aB] at hy
  obtain⟨o,ho,rfl⟩:=dY.mp hy
  rcases sQ rl (ao il) with ⟨e,_⟩ | ⟨wy,FI,e,_⟩
  ·rw[ho] at e
   injection e with e
   subst e
   refine jc ?_
   obtain⟨_,Jz,e0,OC,pw⟩:=id yU
   cases e0
   refine⟨_,rfl,t,_,_,_,rfl,rfl,gJ.of ht3,bV (j:=1) rfl,wl,_,rfl,.inl (bI.of OC),λlc Nz=>?_⟩
   have s4:=s3.trans (az Nz (.lst Jz))
   have b4:=b.go eV s4
   have nlc:lc≠gl:=λz=>by rw[z,On] at Nz;cases Nz
   obtain⟨vs5,k1,k2,b5⟩:=b.push eV s4 (x:=G[i].2) (v:=.ref lc) ⟨lc,Jz,rfl,by rw[dJ nlc];exact ar,by
    obtain⟨_,us0,e0,h0,p0⟩:=eV.up b4.old hw
    cases e0
    have e5:=(s4.trans (bh.refl _)) _ _ (b.s _ _ (show H wl=some (.lst us0) by
     obtain⟨_,P7,e1,h1,p1⟩:=id hw
     cases e1
     have:=b4.old _ _ h1
     rw[this] at h0;cases h0;exact h1))
    have e6:=az Nz (.lst Jz) _ _ OC
    rw[e6] at e5
    cases e5
    exact p0⟩
   refine⟨gl,vs5,_,rfl,rfl,k1,mK (m:=1000) (by omega),_,_,rfl,?_⟩
   rw[za (ao il) ho]
   exact b5
  ·rw[ho] at e
   injection e with e
   subst e
   refine eJ ?_
   have aw:RV G[i].2 wy.1=wy.2:=vY gk.2.1 FI
   obtain⟨_,Jz,e0,OC,pw⟩:=id yU
   cases e0
   obtain⟨ts,rfl,t2,t3⟩:=GP pw
   refine⟨_,rfl,_,rfl,t,_,_,_,rfl,rfl,gJ.of ht3,bV (j:=1) rfl,wl,ts,rfl,bI.of OC,λz hz=>gJ.of (t2 z hz),λdp hdp=>?_⟩
   rw[t3,D2 gk.2.1]
   have s4:=s3.trans (az hdp (.dK (DC G[i].2)))
   refine⟨_,rfl,dp,V.int wy.2,rfl,by rw[← Aq gk.2.1 FI];exact uS.k (k:=ij wy.1) ar,(by show 2<=aL;decide),λtp KO=>⟨(by show 1<=aL;decide),λlc Nz=>?_⟩⟩
   have s5:=s4.trans ((az KO (.tup [V.int wy.1,V.int wy.2])).trans (az Nz (.lst [V.ref tp])))
   have g5:=s5 _ _ (show H2 gl=some (.lst Wd) by obtain⟨vs9,h9,_⟩:=b.ex;have:=s3 _ _ h9;rw[On] at this;cases this;exact h9)
   have nlc:lc≠gl:=λz=>by
    have:=(s4.trans (az KO (.tup [V.int wy.1,V.int wy.2]))) _ _ (show H2 gl=some (.lst Wd) by obtain⟨vs9,h9,_⟩:=b.ex;have:=s3 _ _ h9;rw[On] at this;cases this;exact h9)
    rw[← z] at this
    have:=Nz.symm.trans this
    cases this
   have ntp:tp≠gl:=λz=>by
    have:=s4 _ _ (show H2 gl=some (.lst Wd) by obtain⟨vs9,h9,_⟩:=b.ex;have:=s3 _ _ h9;rw[On] at this;cases this;exact h9)
    rw[← z,KO] at this;cases this
   obtain⟨vs5,k1,k2,b5⟩:=b.push eV s5 (x:=[(wy.1,wy.2)]) (v:=.ref lc) ⟨lc,_,rfl,by rw[dJ nlc];exact ar,.cons ⟨tp,_,_,rfl,by rw[dJ ntp];exact az Nz _ _ _ ar,rfl,rfl⟩ .nil⟩
   refine⟨gl,vs5,_,rfl,rfl,k1,mK (m:=1000) (by omega),_,_,rfl,?_⟩
   rw[za (ao il) ho]
   show Bd IG H _ gl (_++[[(wy.1,RV G[i].2 wy.1)]])
   rw[aw];exact b5
 ·obtain⟨_,_,rfl,b⟩:=h
  rw[ul,aZ,show G.length=r.length from rl.1.symm,aZ] at b
  exact⟨_,rfl,q _ _ b.s (b.done eV)⟩
abbrev Pm (G:Tb) (q v:Int):Tb:=λp=>if p=q then some v else G p
theorem GL {G:List (Option Int)} {q v:Int} (h0:0<=q) (h1:q<G.length):dE (G.set q.toNat (some v))=Pm (dE G) q v:=by
 funext x
 unfold dE Pm
 by_cases e:x=q
 ·subst e
  rw[if_pos h0,if_pos rfl,cX (by omega)];rfl
 ·rw[if_neg e]
  by_cases c:0<=x
  ·rw[if_pos c,cW (by omega)]
   show _=if 0<=x then _ else _
   rw[if_pos c]
  ·rw[if_neg c]
   show _=if 0<=x then _ else _
   rw[if_neg c]
theorem FK {n:Nat} {z:Int} (h0:0<=z) (h:z.toNat<n):xX n z=some z.toNat:=by
 unfold xX;rw[if_pos h0,if_pos (by omega)]
theorem EW {G:List (Option Int)} {k:Nat} {o:Option Int}:(tV G).set k (oV o)=tV (G.set k o):=by unfold tV;rw[Zj]
structure VB (W:Lf) (z:Int) (pl:Int) (g0:Int) (ws:List Wy) (G0 G:Tb):Prop where
 good:GoodG W z G
 up:G8 G0 G
 at_:Sg (G pl) g0
 out:∀ w∈ws,0<=g0+w.2->Sg (G w.1) (g0+w.2)
def Q5:Sp:=λvs H Q _=>∃ (ga:ah) (v:V) (pl:Int) (G:List (Option Int)) (ws:List Wy) (W:Lf) (z g0:Int),vs=[.ref ga,v,.int pl]/\H ga=some (.lst (tV G))/\IG (del H ga) ws v/\0<=pl/\pl<G.length/\(∀ w∈ws,0<=w.1/\w.1<G.length)/\(∀ w∈ws,w∈gS W pl)/\GoodG W z (dE G)/\dE G pl=some g0 /\
 ∀ (G':List (Option Int)),G'.length=G.length->VB W z pl g0 ws (dE G) (dE G')->Q .e8 (upd H ga (.lst (tV G')))
theorem TW (F:bz K mg "add_gains" kX ["gains","ways","place"]) (T:Txt mg):Dn P w K mg base "add_gains" 1 ["gains","ways","place"] Q5:=by
 have sc:=Bc
 refine F.ok sc (λvs H Q E h=>?_) (λf dk A outer s H vs Q E hr h=>?_)
 ·obtain⟨_,_,_,_,_,_,_,_,rfl,_⟩:=h;rfl
 obtain⟨ga,v,pl,G,ws,W,z,g0,rfl,Sv,hv,p0,p1,rg,Ou,good,jS,q⟩:=h
 obtain⟨wl,us,rfl,rD,ul,xr⟩:=my hv
 have nwl:wl≠ga:=λe=>by rw[e] at rD;unfold del at rD;rw[if_pos rfl] at rD;cases rD
 have dl:∀ {c:ah} {o:HO},del H ga c=some o->c≠ga/\H c=some o:=λ{c o} e=>by
  have n:c≠ga:=λz=>by rw[z] at e;unfold del at e;rw[if_pos rfl] at e;cases e
  exact⟨n,by rw[dJ n] at e;exact e⟩
 refine⟨_,(aG (eS bn rfl (dm (pv 1)) (ml rfl (dN (cE (i:=3) sc.nd rfl (bi rfl)) (dN (cE (i:=4) sc.nd rfl (bi rfl)) j5)))
   (au (bP (i:=5) sc.nd rfl (bi rfl) (bX jE (bM (lA (K:=K) rfl) (pv 0) (pv 2) (λ_ _=>rfl)) (pv 4)))
   (aG (fo (PW.pt (a0i (dG F2 (pv 5) aK (dM _)) (a0g (PW.pt (a0n (iQ (ny (bM (lA (K:=K) rfl) (pv 0) (pv 3) (λ_ _=>rfl)))) (a0k (dG X6 (pv 5) (bM (lA (K:=K) rfl) (pv 0) (pv 3) (λ_ _=>rfl)) (dM _))))))))
   (aG (oA (pv 5) (oz (pv 0) (pv 3) a0e)))
   dq))))),?_⟩
 refine⟨_,rfl,wl,rfl,⟨_,bI.of (dl rD).2⟩,iN (K:=K) (a:=wl) (xs:=us) (λi σ H2=>∃ (G':List (Option Int)) (y1 y2 y3:Option V),σ=[some (.ref ga),some (.ref wl),some (.int pl),y1,y2,y3]/\H2=upd H ga (.lst (tV G'))/\G'.length=G.length/\VB W z pl g0 (ws.take i) (dE G) (dE G'))
  ⟨G,_,_,_,rfl,(by funext c;by_cases e:c=ga;subst e;rw[ar,Sv];rw[bB e]),rfl,good,G8.refl _,⟨g0,jS,gL _⟩,λ_ z=>by cases z⟩ (λi σ H2 _ h=>?_) (λi x σ H2 hi h=>?_) (λσ H2 h=>?_)⟩
 ·obtain⟨_,_,_,_,_,rfl,_⟩:=h
  exact bI.of (by rw[bB nwl];exact (dl rD).2)
 ·obtain⟨G',y1,y2,y3,rfl,rfl,gl,gn⟩:=h
  have il:i<ws.length:=by rw[← ul];exact (ag.mp hi).1
  obtain⟨t,hu,ht⟩:=xr i _ (ao il)
  rw[hi] at hu
  injection hu with hu
  subst hu
  obtain⟨nt1,FH⟩:=dl ht
  have De:=rg _ (cA il)
  have oi:=Ou _ (cA il)
  have Vj:ws.take (i+1)=ws.take i++[ws[i]]:=by rw[nJ,ao il];rfl
  rw[Vj]
  generalize ws[i]=wi at ht FH De oi
  obtain⟨gp,hgp,hle⟩:=gn.at_
  have a1:=xj (T:=G') p0 (by omega)
  have a2:=xj (T:=G') De.1 (by omega)
  rw[hgp] at a1
  refine⟨t,_,rfl,gJ.of (by rw[bB nt1];exact FH),rfl,_,_,rfl,_,_,rfl,rfl,?_⟩
  refine⟨_,rfl,_,rfl,ga,_,_,_,rfl,rfl,bI.of ar,a1,_,rfl,_,_,rfl,rfl,?_⟩
  have keep:(¬ (0<=gp+wi.2)\/∃ g,dE G' wi.1=some g/\gp+wi.2<=g)->VB W z pl g0 (ws.take i++[wi]) (dE G) (dE G'):=λc=>⟨gn.good,gn.up,gn.at_,λw' oU h9=>by
   rcases bo.mp oU with y | y
   ·exact gn.out w' y h9
   ·rw[be.mp y] at h9 ⊢
    rcases c with c | ⟨g,e,c⟩
    ·omega
    ·exact⟨g,e,by omega⟩⟩
  have ad7:0<=gp+wi.2->(∀ g,dE G' wi.1=some g->g<=gp+wi.2)->VB W z pl g0 (ws.take i++[wi]) (dE G) (Pm (dE G') wi.1 (gp+wi.2)):=λh0 hm=>by
   have u:=G8.put (G:=dE G') (q:=wi.1) (v:=gp+wi.2) hm
   refine⟨gn.good.step hgp oi h0,gn.up.trans u,u _ _ gn.at_,λw' oU h9=>?_⟩
   rcases bo.mp oU with y | y
   ·exact u _ _ (gn.out w' y h9)
   ·rw[be.mp y]
    exact⟨gp+wi.2,if_pos rfl,by omega⟩
  have fin:0<=gp+wi.2->(∀ g,dE G' wi.1=some g->g<=gp+wi.2)->∃ (RC:List (Option Int)),upd (upd H ga (.lst (tV G'))) ga (.lst ((tV G').set wi.1.toNat (V.int (gp+wi.2))))=upd H ga (.lst (tV RC))/\RC.length=G.length/\VB W z pl g0 (ws.take i++[wi]) (dE G) (dE RC):=λh0 hm=>by
   refine⟨G'.set wi.1.toNat (some (gp+wi.2)),?_,by rw[fH];exact gl,by rw[GL De.1 (by omega)];exact ad7 h0 hm⟩
   rw[mW,← EW];rfl
  refine⟨_,rfl,_,_,rfl,rfl,_,rfl,?_⟩
  refine iO (λc=>?_) (λc=>?_)
  ·have c:0<=gp+wi.2:=of_decide_eq_true c
   refine⟨_,rfl,_,rfl,ga,_,_,_,rfl,rfl,bI.of ar,a2,_,rfl,?_⟩
   cases e:dE G' wi.1 with
   | none =>
    refine jc (jc ?_)
    obtain⟨RC,e1,e2,e3⟩:=fin c (λg h=>by rw[e] at h;cases h)
    exact⟨_,rfl,_,rfl,_,rfl,ga,_,_,_,rfl,rfl,ar,FK De.1 (by rw[jd];omega),RC,_,_,_,rfl,e1,e2,e3⟩
   | some g =>
    rw[e] at a2
    refine eJ ?_
    refine⟨_,rfl,_,rfl,_,rfl,ga,_,_,_,rfl,rfl,bI.of ar,a2,_,_,rfl,rfl,_,rfl,?_⟩
    refine iO (λc2=>?_) (λc2=>?_)
    ·have c2:g<gp+wi.2:=of_decide_eq_true c2
     obtain⟨RC,e1,e2,e3⟩:=fin c (λg' h=>by rw[e] at h;cases h;omega)
     exact⟨_,rfl,_,rfl,_,rfl,ga,_,_,_,rfl,rfl,ar,FK De.1 (by rw[jd];omega),RC,_,_,_,rfl,e1,e2,e3⟩
    ·have c2:¬ g<gp+wi.2:=λz=>c2 (decide_eq_true z)
     exact⟨G',_,_,_,rfl,rfl,gl,keep (.inr ⟨g,e,by omega⟩)⟩
  ·have c:¬ 0<=gp+wi.2:=λz=>c (decide_eq_true z)
   refine eJ ?_
   exact⟨G',_,_,_,rfl,rfl,gl,keep (.inl c)⟩
 ·obtain⟨G',_,_,_,rfl,rfl,gl,gn⟩:=h
  rw[ul,aZ] at gn
  exact q G' gl gn
theorem Yq:∀ k:Nat,(aH k [V.e8]).flatten=tV (aH k none)
 | 0=>rfl
 | k+1=>by rw[fO,gI,Yq k,fO];rfl
theorem MG {k:Nat} {x:Int}:dE (aH k none) x=none:=by
 unfold dE
 by_cases c:0<=x
 ·rw[if_pos c,ie]
  by_cases d:x.toNat<k
  ·rw[if_pos d];rfl
  ·rw[if_neg d];rfl
 ·rw[if_neg c]
theorem CO {H:Hp} {W:Lf} {v:V} (h:Ui H W v):∃ a us,v=.ref a/\H a=some (.lst us)/\us.length=W.length/\∀ (i:Nat) (r:List Wy),W[i]?=some r->∃ u,us[i]?=some u/\IG H r u:=by
 obtain⟨a,us,rfl,ha,pr⟩:=h
 exact⟨a,us,rfl,ha,(uy pr).symm,λi r hr=>L2.Paired.at pr hr⟩
theorem C4 {W:Lf} {i:Nat} {r:List Wy} (h:W[i]?=some r):gS W (i:Int)=r:=by unfold gS;rw[show ((i:Int)).toNat=i from rfl,h];rfl
structure VG (W:Lf):Prop where
 yP:W.length<=16
 fw2:∀ r∈W,r.length<=100
 Tr:DO W W.length
def Ml:Sp:=λvs H Q _=>∃ (v:V) (W:Lf) (z:Int),vs=[v,.int z]/\Ui H W v/\VG W/\0<=z/\z<W.length/\∀ (b:Bool) H',bh H H'->(b=true->∃ r,Rg W z r)->(b=false->∀ r,Rg W z r->¬ r.length<=W.length)->Q (.bl b) H'
theorem OW (F:bz K mg "comes_back" i5 ["left","start"]) (T:Txt mg) (BZ:Dn P w K mg base "add_gains" 1 ["gains","ways","place"] Q5):Dn P w K mg base "comes_back" 2 ["left","start"] Ml:=by
 have sc:=yb
 refine F.ok sc (λvs H Q E h=>?_) (λf dk A outer s H vs Q E hr h=>?_)
 ·obtain⟨_,_,_,rfl,_⟩:=h;rfl
 obtain⟨v,W,z,rfl,hv,lo,z0,z1,q⟩:=h
 obtain⟨a,us,rfl,ha,ul,xr⟩:=CO hv
 have yP:=lo.yP
 refine⟨_,(au (bP (i:=2) sc.nd rfl (tI rfl) (bX uw (fb (af mj av)) (cn (iu (K:=K) rfl) rfl T.iq bN (af (pv 0) av))))
   (au (oA aK (oz (pv 2) (pv 1) a0e))
   (au (eS bn rfl (iB rfl T.jX (af (cn (iu (K:=K) rfl) rfl T.iq bN (af (pv 0) av)) av)) (cE (i:=3) sc.nd rfl (bi rfl))
   (aG (eS bn rfl (iB rfl T.jX (af (cn (iu (K:=K) rfl) rfl T.iq bN (af (pv 0) av)) av)) (cE (i:=4) sc.nd rfl (tI rfl))
   (aG (fo (iQ (F4 (bM (lA (K:=K) rfl) (pv 2) (pv 4) (λ_ _=>rfl))))
   (au (cz (cO BZ hr (af (pv 2) (af (bM (lA (K:=K) rfl) (pv 0) (pv 4) (λ_ _=>rfl)) (af (pv 4) av)))))
   (aG (fo (sO (qS (aC i5) ["left","start","gains","turn","place"] ["way","amount","start","gains","place"] 2 [1,2,4] (dm (bM (lA (K:=K) rfl) (pv 0) (pv 4) (λ_ _=>rfl))) (λ_ _ _ _ _ _=>(Pl (K:=K) rfl rfl (show cT (["way","amount","start","gains","place"]:List aT) by decide +kernel) rfl rfl rfl rfl)) (λ_ _ _ _ _ _=>(mU (PW.pt (a0i (dG md (pv 0) (pv 2) (dM _)) (a0g (dG F2 (bX jE (bM (lA (K:=K) rfl) (pv 3) (pv 4) (λ_ _=>rfl)) (pv 1)) aK (dM _))))))) (λ_ _ _ _ _ _=>(pv 0))) (by intro _;rfl))
   (aG (cP mf))
   dq)))
   dq)))))
   (aG (cP mf))))),?_⟩
 refine⟨(by show 1<=aL;decide),λp1 h1=>?_⟩
 have s1:=az h1 (.lst [V.e8])
 have k1:upd H p1 (.lst [V.e8]) p1=some (.lst [V.e8]):=ar
 generalize upd H p1 (.lst [V.e8])=H1 at s1 k1 ⊢
 refine⟨_,rfl,a,_,rfl,.inl (bI.of (s1 _ _ ha)),p1,_,_,rfl,rfl,k1,by omega,by omega,a0b (m:=1000) (by rw[da];omega),λga Sv=>?_⟩
 rw[show (((us.length:Nat):Int)).toNat=W.length by omega,Yq]
 refine⟨_,rfl,_,rfl,ga,_,_,_,rfl,rfl,ar,FK z0 (by rw[jd,gh];omega),?_⟩
 have Sw:H ga=none:=s1.free Sv
 have eh:upd (upd H1 ga (.lst (tV (aH W.length none)))) ga (.lst ((tV (aH W.length none)).set z.toNat (V.int 0)))=upd H1 ga (.lst (tV ((aH W.length none).set z.toNat (some 0)))):=by rw[mW,← EW];rfl
 rw[eh]
 have s2:bh H (upd H1 ga (.lst (tV ((aH W.length none).set z.toNat (some 0))))):=s1.put Sw _
 have Kv:upd H1 ga (.lst (tV ((aH W.length none).set z.toNat (some 0)))) ga=some (.lst (tV ((aH W.length none).set z.toNat (some 0)))):=ar
 generalize upd H1 ga (.lst (tV ((aH W.length none).set z.toNat (some 0))))=H2 at s2 Kv ⊢
 have t0:dE ((aH W.length none).set z.toNat (some 0))=Pm (dE (aH W.length none)) z 0:=GL z0 (by rw[gh];exact z1)
 have gd0:GoodG W z (dE ((aH W.length none).set z.toNat (some 0))):=GoodG.start λp g e=>by
  rw[t0] at e
  have e:(if p=z then some 0 else dE (aH W.length none) p)=some g:=e
  by_cases c:p=z
  ·rw[if_pos c] at e;cases e;exact⟨c,rfl⟩
  ·rw[if_neg c,MG] at e;cases e
 have cm0:JH W z 0 (dE ((aH W.length none).set z.toNat (some 0))):=JH.start (by rw[t0];exact if_pos rfl)
 refine⟨_,rfl,a,_,rfl,.inl (bI.of (s2 _ _ ha)),((us.length:Nat):Int),rfl,by omega,by omega,kE (lo:=0) (n:=((us.length:Nat):Int).toNat) (λt σ H3=>∃ (G:List (Option Int)) (y1 y2:Option V),σ=[some (.ref a),some (.int z),some (.ref ga),y1,y2]/\bh H H3/\H3 ga=some (.lst (tV G))/\G.length=W.length/\GoodG W z (dE G)/\JH W z t (dE G))
  ⟨_,_,_,rfl,s2,Kv,by rw[fH,gh],gd0,cm0⟩ (λt σ H3 ht h=>?_) (λσ H3 h=>?_)⟩
 ·obtain ⟨G,y1,y2,rfl,s3,Om,gl,gd,cm⟩:=h
  refine⟨_,rfl,a,_,rfl,.inl (bI.of (s3 _ _ ha)),((us.length:Nat):Int),rfl,by omega,by omega,kE (lo:=0) (n:=((us.length:Nat):Int).toNat) (λi σ H3=>∃ (G:List (Option Int)) (y1 y2:Option V),σ=[some (.ref a),some (.int z),some (.ref ga),y1,y2]/\bh H H3/\H3 ga=some (.lst (tV G))/\G.length=W.length/\GoodG W z (dE G)/\tS W z t i (dE G))
   ⟨_,_,_,rfl,s3,Om,gl,gd,cm.mid⟩ (λi σ H4 hi h=>?_) (λσ H4 h=>?_)⟩
  ·clear s3 Om gl gd cm
   obtain⟨G,y1,y2,rfl,s4,WA,gl,gd,cm⟩:=h
   have il:i<W.length:=by omega
   have ap:=xj (T:=G) (x:=0+(i:Int)) (by omega) (by omega)
   have ei:(0+(i:Int))=((i:Nat):Int):=by omega
   refine⟨_,rfl,_,rfl,ga,_,_,_,rfl,rfl,bI.of WA,ap,_,rfl,?_⟩
   rw[ei] at ap ⊢
   cases e:dE G (i:Int) with
   | none =>
    refine eJ ?_
    exact⟨G,_,_,rfl,s4,WA,gl,gd,cm.skip e⟩
   | some g =>
    refine jc ?_
    obtain⟨u,hu,Vh⟩:=xr i _ (ao il)
    have oi:=C4 (ao il)
    have fi:=lo.fw2 _ (cA il)
    have De:∀ x∈W[i],0<=x.1/\x.1<(W.length:Int):=λx hx=>lo.Tr (i:Int) x (by rw[oi];exact hx)
    have dH:bh H (del H4 ga):=λc o e=>by
     have n:c≠ga:=λz=>by rw[z,Sw] at e;cases e
     rw[dJ n];exact s4 _ _ e
    generalize W[i]=ws at Vh oi fi De
    obtain⟨wl,Jz,rfl,rD,Rk,MP⟩:=my Vh
    refine⟨_,rfl,_,rfl,_,rfl,a,_,_,_,rfl,rfl,bI.of (s4 _ _ ha),bV hu,_,rfl,ga,_,_,G,ws,W,z,g,rfl,WA,eV.up dH Vh,by omega,by omega,λx hx=>by have:=De x hx;omega,λx hx=>by rw[oi];exact hx,gd,e,λG' gl' gn=>?_⟩
    have s5:bh H (upd H4 ga (.lst (tV G'))):=s4.put Sw _
    have WB:upd H4 ga (.lst (tV G')) ga=some (.lst (tV G')):=ar
    generalize upd H4 ga (.lst (tV G'))=H5 at s5 WB ⊢
    obtain⟨g',Wx,gle⟩:=gn.at_
    have ap':=xj (T:=G') (x:=(i:Int)) (by omega) (by omega)
    rw[Wx] at ap'
    refine⟨_,rfl,_,rfl,a,_,_,_,rfl,rfl,bI.of (s5 _ _ ha),bV hu,wl,rfl,⟨_,bI.of (s5 _ _ rD)⟩,c8 (K:=K) (a:=wl) (xs:=Jz) (λj ys H6=>bh H5 H6/\ys.length<=j/\((ys=[]/\∀ x∈ws.take j,¬ (x.1=z/\0<=g'+x.2))\/(ys≠[]/\∃ x∈ws,x.1=z/\0<=g'+x.2))) ⟨bh.refl _,aA _,.inl ⟨rfl,λ_ z=>by cases z⟩⟩ (a0b (m:=1000) (by omega)) (λj ys H6 hj h=>?_) (λj x ys H6 hj h=>?_) (λys H6 h lb Ny=>?_)⟩
    ·exact⟨bI.of (h.1 _ _ (s5 _ _ rD)),h.2.1⟩
    ·obtain⟨s6,yl,h⟩:=h
     have jl:j<ws.length:=by rw[← Rk];exact (ag.mp hj).1
     obtain⟨t,CC,ht⟩:=MP j _ (ao jl)
     rw[hj] at CC
     injection CC with CC
     subst CC
     have Vj:ws.take (j+1)=ws.take j++[ws[j]]:=by rw[nJ,ao jl];rfl
     rw[Vj]
     have hm:=cA jl
     generalize ws[j]=wj at ht hm
     have no:¬ (wj.1=z/\0<=g'+wj.2)->bh H5 H6/\ys.length<=j+1/\((ys=[]/\∀ x∈ws.take j++[wj],¬ (x.1=z/\0<=g'+x.2))\/(ys≠[]/\∃ x∈ws,x.1=z/\0<=g'+x.2)):=λc=>by
      refine⟨s6,by omega,?_⟩
      rcases h with ⟨rfl,h⟩ | h
      ·refine .inl ⟨rfl,λx hx=>?_⟩
       rcases bo.mp hx with y | y
       ·exact h x y
       ·rw[be.mp y];exact c
      ·exact .inr h
     refine⟨t,_,rfl,gJ.of (s6 _ _ (s5 _ _ ht)),rfl,?_⟩
     refine⟨_,rfl,_,rfl,rfl,_,rfl,?_⟩
     refine iO (λc=>?_) (λc=>?_)
     ·have c:wj.1=z:=by have:=of_decide_eq_true c;injection this
      refine⟨_,rfl,_,rfl,ga,_,_,_,rfl,rfl,bI.of (s6 _ _ WB),ap',_,rfl,_,_,rfl,rfl,_,_,rfl,rfl,_,rfl,?_⟩
      refine iO (λc2=>?_) (λc2=>?_)
      ·have c2:0<=g'+wj.2:=of_decide_eq_true c2
       exact⟨_,rfl,s6,by rw[aJ,da];omega,.inr ⟨by simp,wj,hm,c,c2⟩⟩
      ·exact no λy=>c2 (decide_eq_true y.2)
     ·exact eJ (no λy=>c (decide_eq_true (by rw[y.1])))
    ·obtain⟨s6,yl,h⟩:=h
     rw[Rk,aZ] at h
     have s7:=s6.trans (az Ny (.lst ys))
     refine⟨!ys.isEmpty,?_,?_⟩
     ·exact .inl ⟨ys,bI.of ar,rfl⟩
     ·rcases h with ⟨rfl,h⟩ | ⟨kx,x,hx,hxz,OD⟩
      ·refine eJ ?_
       refine⟨G',_,_,rfl,s5.trans s7,s7 _ _ WB,by omega,gn.good,cm.Vq gn.up (λx hx gg Kw h0=>?_) (λx hx hxz gg Kw h0=>?_)⟩
       ·rw[e] at Kw;cases Kw
        exact gn.out x (by rw[oi] at hx;exact hx) h0
       ·rw[Wx] at Kw;cases Kw
        exact h x (by rw[oi] at hx;exact hx) ⟨hxz,h0⟩
      ·have hie:(!ys.isEmpty)=true:=by cases ys with | nil=>exact absurd rfl kx | cons a b=>rfl
       rw[hie]
       refine jc ?_
       exact q true _ (s5.trans s7) (λ_=>gn.good.back Wx (by rw[oi];exact hx) hxz OD) (λz=>by cases z)
  ·obtain⟨G,y1,y2,rfl,s4,WA,gl,gd,cm⟩:=h
   rw[show (((us.length:Nat):Int)).toNat=W.length by omega] at cm
   exact⟨G,_,_,rfl,s4,WA,gl,gd,cm.done lo.Tr ⟨z0,z1⟩⟩
 ·obtain⟨G,y1,y2,rfl,s3,Om,gl,gd,cm⟩:=h
  rw[show (((us.length:Nat):Int)).toNat=W.length by omega] at cm
  exact q false _ s3 (λz=>by cases z) λ_ r hr hl=>cm.none hr hl
def YB (K:ak):Sp:=λvs H Q _=>∃ (v:V) (W:Lf),vs=[v]/\Ui (nt H) W v/\VG W/\(∀ r∈W,r≠[])/\qi K H/\∀ (l:ah) (T:List (Option Int)) (H':Hp),Sm H H'->qi K H'->nt H l=none->nt H' l=some (.lst (tV T))->T.length=W.length->uH W W.length (dE T)->Q (.ref l) H'
theorem MH {G:List (Option Int)} {i:Nat} {o:Option Int} (h1:i<G.length):dE (G.set i o)=λp=>if p=(i:Int) then o else dE G p:=by
 funext x
 unfold dE
 by_cases e:x=(i:Int)
 ·subst e
  rw[if_pos (by omega),if_pos rfl,show ((i:Int)).toNat=i from rfl,cX h1];rfl
 ·rw[if_neg e]
  by_cases c:0<=x
  ·rw[if_pos c,if_pos c,cW (by omega)]
  ·rw[if_neg c,if_neg c]
theorem X1 (F:bz K mg "needs_left" i7 ["left"]) (T:Txt mg) (zT:Dn P w K mg base "comes_back" 2 ["left","start"] Ml) (m3:Dn P w K mg base "least_needy" 4 ["ways","purses"] (Mo K false)) (jH:Dn P w K mg base "need_by" 1 ["purses","place","amount"] qe) (nN:Dn P w K mg base "is_more" 2 ["need","other"] Bq):Dn P w K mg base "needs_left" 5 ["left"] (YB K):=by
 have sc:=yh
 refine F.ok sc (λvs H Q E h=>?_) (λf dk A outer s H vs Q E hr h=>?_)
 ·obtain⟨_,_,rfl,_⟩:=h;rfl
 obtain⟨v,W,rfl,hv,lo,wne,tb,q⟩:=h
 have yP:=lo.yP
 obtain⟨a,us,rfl,ha,ul,xr⟩:=CO hv
 have ZZ:=FU.up cG hv
 refine⟨_,(au (pX (i:=1) (aC i7) ["left","table","turn","place","ways","way","need"] ["place","left"] 1 [0] sc.nd rfl rfl (iB rfl T.jX (af (cn (iu (K:=K) rfl) rfl T.iq bN (af (pv 0) av)) av)) (λ_ _ _ _ _ _=>(eH (show cT (["place","left"]:List aT) by decide +kernel) rfl rfl)) (λ_ _ _ _ _ _=>hV) (λ_ _ _ _ _ _=>(mi (f9 (cO zT hr (af (pv 1) (af (pv 0) av)))) aK mj)))
   (au (eS bn rfl (iB rfl T.jX (af (cn (iu (K:=K) rfl) rfl T.iq bN (af (pv 0) av)) av)) (cE (i:=2) sc.nd rfl (bi rfl))
   (aG (eS bn rfl (AV (K:=K) rfl rfl T.pB (af (pv 0) av)) (ml rfl (dN (cE (i:=3) sc.nd rfl (bi rfl)) (dN (cE (i:=4) sc.nd rfl (bi rfl)) j5)))
   (au (bP (i:=5) sc.nd rfl (bi rfl) (cO m3 hr (af (pv 4) (af (pv 1) av))))
   (au (bP (i:=6) sc.nd rfl (bi rfl) (cO jH hr (af (pv 1) (af (bM (mQ (K:=K) rfl) (pv 5) aK (λ_ _=>rfl)) (af (bM (mQ (K:=K) rfl) (pv 5) aK (λ_ _=>rfl)) av)))))
   (aG (fo (f9 (cO nN hr (af (bM (lA (K:=K) rfl) (pv 1) (pv 3) (λ_ _=>rfl)) (af (pv 6) av))))
   (aG (oA (pv 6) (oz (pv 1) (pv 3) a0e)))
   dq)))))))
   (aG (cP (pv 1))))),?_⟩
 refine⟨_,rfl,a,_,rfl,.inl (bI.of (cG _ _ ha)),((us.length:Nat):Int),rfl,by omega,by omega,pD (lo:=0) (n:=((us.length:Nat):Int).toNat) (λi ys H2=>bh H H2/\∃ T0:List (Option Int),ys=tV T0/\T0.length=i/\∀ j,j<i->(T0[j]?=some (some 0)/\∃ r,Rg W (j:Int) r)\/(T0[j]?=some none/\∀ r,Rg W (j:Int) r->¬ r.length<=W.length)) ⟨bh.refl _,[],rfl,rfl,λj hj=>absurd hj (mE j)⟩ (a0b (m:=1000) (by omega)) (λi ys H2 hi h=>?_) (λi ys H2 hi h=>?_) (λys H2 h tl htl=>?_)⟩
 ·obtain⟨_,T0,rfl,l0,_⟩:=h
  rw[jd,l0];exact aA _
 ·obtain⟨s2,T0,rfl,l0,h0⟩:=h
  refine ix ?_
  refine⟨_,rfl,_,rfl,_,W,0+(i:Int),rfl,FU.up s2 ZZ,lo,by omega,by omega,λb H3 s3 b1 b2=>⟨b,rfl,?_⟩⟩
  have ei:(0+(i:Int))=((i:Nat):Int):=by omega
  rw[ei] at b1 b2
  have more:∀ o:Option Int,((o=some 0/\∃ r,Rg W (i:Int) r)\/(o=none/\∀ r,Rg W (i:Int) r->¬ r.length<=W.length))->bh H H3/\∃ T1:List (Option Int),tV T0++[oV o]=tV T1/\T1.length=i+1/\∀ j,j<i+1->(T1[j]?=some (some 0)/\∃ r,Rg W (j:Int) r)\/(T1[j]?=some none/\∀ r,Rg W (j:Int) r->¬ r.length<=W.length):=λo ho=>by
   refine⟨s2.trans s3,T0++[o],by unfold tV;rw[aM];rfl,by rw[aJ,l0];rfl,λj hj=>?_⟩
   rcases cY j i with c | c
   ·rw[b9 (by omega)];exact h0 j c
   ·have:j=i:=by omega
    subst this
    rw[cx (by omega),l0,m8]
    rcases ho with ⟨rfl,h⟩ | ⟨rfl,h⟩
    ·exact .inl ⟨rfl,h⟩
    ·exact .inr ⟨rfl,h⟩
  cases b with
  | true=>exact jc (more (some 0) (.inl ⟨rfl,b1 rfl⟩))
  | false=>exact eJ (more none (.inr ⟨rfl,b2 rfl⟩))
 obtain⟨s2,T0,rfl,l0,h0⟩:=h
 rw[show (((us.length:Nat):Int)).toNat=W.length by omega] at l0 h0
 have t0n:∀ {x v:Int},dE T0 x=some v->v=0/\0<=x/\x<(W.length:Int)/\∃ r,Rg W x r:=λ{x v} e=>by
  unfold dE at e
  by_cases c:0<=x
  ·rw[if_pos c] at e
   have xl:x.toNat<T0.length:=by
    rcases cY x.toNat T0.length with z | z
    ·exact z
    ·rw[aU z] at e;cases e
   rcases h0 x.toNat (by omega) with ⟨e1,r⟩ | ⟨e1,_⟩
   ·rw[e1] at e
    have e:some 0=some v:=e
    injection e with e
    have ex:((x.toNat:Nat):Int)=x:=by omega
    rw[ex] at r
    exact⟨e.symm,c,by omega,r⟩
   ·rw[e1] at e;cases e
  ·rw[if_neg c] at e;cases e
 obtain⟨Z,Va⟩:∃ Z:Int->Prop,Z=λx=>dE T0 x=some 0:=⟨_,rfl⟩
 have hZb:∀ x s,s≠[]->Wk W x s x->0<=sm s->∃ w∈s,Z w.1:=Ep lo.Tr λz z0 z1 ⟨r,hr,hl⟩=>by
  rw[Va]
  rcases h0 z.toNat (by omega) with ⟨e1,_⟩ | ⟨_,e2⟩
  ·show dE T0 z=some 0
   unfold dE;rw[if_pos z0,e1];rfl
  ·exact absurd hl (e2 r (by rw[show ((z.toNat:Nat):Int)=z by omega];exact hr))
 have hB:∀ z,Z z->0<=z/\z<(W.length:Int)/\∃ s,s≠[]/\Wk W z s z/\JO 0 s:=λz hz=>by
  rw[Va] at hz
  obtain⟨_,h1,h2,r,hr⟩:=t0n hz
  exact⟨h1,h2,r,hr.1,hr.2.1,hr.2.2⟩
 have tk0:Tk W Z (dE T0):=⟨λx v e=>by rw[(t0n e).1];exact gL _,λx hx=>by rw[Va] at hx;exact hx,λx v e=>by
  obtain⟨rfl,_⟩:=t0n e
  exact⟨[],x,rfl,by rw[Va];exact e,gL _⟩,λx v e=>by
  obtain⟨rfl,_⟩:=t0n e
  exact .inl (by rw[Va];exact e)⟩
 have rn0:Nk W Z W.length 0 (dE T0):=Nk.start λx hx=>by rw[Va] at hx;exact hx
 have ac3:H tl=none:=s2.free htl
 have Xd:nt H tl=none:=sK ac3
 have S3:Sm H (upd H2 tl (.lst (tV T0))):=Sm.of (s2.trans (az htl _))
 have DJ:qi K (upd H2 tl (.lst (tV T0))):=tb.up (s2.trans (az htl _))
 have hT3:upd H2 tl (.lst (tV T0)) tl=some (.lst (tV T0)):=ar
 generalize upd H2 tl (.lst (tV T0))=H3 at S3 DJ hT3 ⊢
 refine⟨_,rfl,a,_,rfl,.inl (bI.of (S3.lst ha)),((us.length:Nat):Int),rfl,by omega,by omega,kE (lo:=0) (n:=((us.length:Nat):Int).toNat) (λt σ H4=>∃ (TT:List (Option Int)) (y1 y2 y3 y4 y5:Option V),σ=[some (.ref a),some (.ref tl),y1,y2,y3,y4,y5]/\Sm H H4/\qi K H4/\H4 tl=some (.lst (tV TT))/\TT.length=W.length/\Tk W Z (dE TT)/\Nk W Z W.length t (dE TT))
  ⟨T0,_,_,_,_,_,rfl,S3,DJ,hT3,l0,tk0,rn0⟩ (λt σ H4 ht h=>?_) (λσ H4 h=>?_)⟩
 ·obtain⟨TT,y1,y2,y3,y4,y5,rfl,S4,EX,Zv,l4,tk4,Ys⟩:=h
  refine⟨_,rfl,a,rfl,⟨_,bI.of (S4.lst ha)⟩,wb (K:=K) (a:=a) (xs:=us) (λi σ H5=>∃ (TT:List (Option Int)) (y1 y2 y3 y4 y5:Option V),σ=[some (.ref a),some (.ref tl),y1,y2,y3,y4,y5]/\Sm H H5/\qi K H5/\H5 tl=some (.lst (tV TT))/\TT.length=W.length/\Tk W Z (dE TT)/\RI W Z W.length t i (dE TT))
   ⟨TT,_,_,_,_,_,rfl,S4,EX,Zv,l4,tk4,Ys.mid⟩ (λi σ H5 _ h=>?_) (λi x σ H5 tt hi h KP=>?_) (λσ H5 h=>?_)⟩
  ·obtain⟨_,_,_,_,_,_,_,S5,_⟩:=h
   exact bI.of (S5.lst ha)
  ·clear S4 EX Zv l4 tk4 Ys
   obtain⟨TT,y1,y2,y3,y4,y5,rfl,S5,ND,hT5,l5,YY,md5⟩:=h
   have il:i<W.length:=by rw[← ul];exact (ag.mp hi).1
   obtain⟨u,hu,Vh⟩:=xr i _ (ao il)
   rw[hi] at hu
   injection hu with hu
   subst hu
   have oi:=C4 (ao il)
   have wn:=wne _ (cA il)
   generalize W[i]=ws at Vh oi wn
   have De:∀ y∈ws,0<=y.1/\y.1<(W.length:Int):=λy hy=>lo.Tr (i:Int) y (by rw[oi];exact hy)
   have s6:=az KP (.tup [V.int ((i:Nat):Int),x])
   have S6:=S5.trans (Sm.of s6)
   have P2:=ND.up s6
   have hT6:=s6 _ _ hT5
   refine⟨tt,_,rfl,gJ.of ar,rfl,_,_,rfl,_,_,rfl,rfl,?_⟩
   generalize upd H5 tt (.tup [V.int ((i:Nat):Int),x])=H6 at S6 P2 hT6 ⊢
   refine⟨_,rfl,_,rfl,x,tl,ws,TT,rfl,eV.up S6 Vh,iP hT6,wn,λy hy=>by have:=De y hy;omega,P2,λwt wy H7 S7 UI FI best OA=>?_⟩
   have hT7:=S7.lst (iP hT6)
   have Xp:=cG _ _ OA
   have rgw:=De wy FI
   refine⟨_,rfl,_,rfl,wt,_,_,_,rfl,rfl,gJ.of Xp,bV (j:=0) rfl,_,rfl,wt,_,_,_,rfl,rfl,gJ.of Xp,bV (j:=1) rfl,tl,TT,wy.1,wy.2,rfl,hT7,rgw.1,by omega,?_⟩
   have api:=xj (T:=TT) (x:=(i:Int)) (by omega) (by omega)
   refine⟨_,rfl,_,rfl,tl,_,_,_,rfl,rfl,bI.of hT7,api,_,rfl,dE TT (i:Int),a0a (dE TT) wy,rfl,λr H8 s8 ZT=>⟨r,rfl,?_⟩⟩
   have S8:=(S6.trans S7).trans (Sm.of s8)
   have YW:=UI.up s8
   have hT8:=s8 _ _ hT7
   have Ft:∀ w'∈gS W (i:Int),fP (a0a (dE TT) wy) (a0a (dE TT) w'):=λw' oU=>by
    rw[oi] at oU
    have:=best w' oU
    rwa [if_neg (by decide)] at this
   cases r with
   | false =>
    refine eJ ?_
    have hle:fP (dE TT (i:Int)) (a0a (dE TT) wy):=b6 λz=>by have:=ZT.mpr z;cases this
    have sw:U5 W (i:Int) (dE TT) (dE TT):=⟨λ_ _=>rfl,fP.refl _,λw' oU=>hle.trans (Ft w' oU),.inl rfl⟩
    exact⟨TT,_,_,_,_,_,rfl,S8,YW,hT8,l5,YY,md5.Vq lo.Tr YY sw⟩
   | true =>
    refine jc ?_
    have hle:¬ fP (dE TT (i:Int)) (a0a (dE TT) wy):=ZT.mp rfl
    have sw:U5 W (i:Int) (dE TT) (dE (TT.set i (a0a (dE TT) wy))):=by
     rw[MH (by omega)]
     exact⟨λq hq=>if_neg hq,by rw[if_pos rfl];exact (fP.total _ _).resolve_left hle,λw' oU=>by rw[if_pos rfl];exact Ft w' oU,.inr ⟨wy,by rw[oi];exact FI,if_pos rfl⟩⟩
    have MI:=YY.Vq sw
    refine⟨_,rfl,_,rfl,_,rfl,tl,_,_,_,rfl,rfl,hT8,FK (by omega) (by rw[jd];omega),TT.set i (a0a (dE TT) wy),_,_,_,_,_,rfl,S8.put Xd _,YW.put hT8,?_,by rw[fH];exact l5,MI,md5.Vq lo.Tr MI sw⟩
    rw[ar,← EW];rfl
  ·obtain⟨TT,y1,y2,y3,y4,y5,rfl,S5,ND,hT5,l5,YY,md5⟩:=h
   rw[ul] at md5
   exact⟨TT,_,_,_,_,_,rfl,S5,ND,hT5,l5,YY,md5.done⟩
 ·obtain⟨TT,y1,y2,y3,y4,y5,rfl,S4,EX,Zv,l4,tk4,Ys⟩:=h
  rw[show (((us.length:Nat):Int)).toNat=W.length by omega] at Ys
  exact⟨_,rfl,q tl TT H4 S4 EX Xd (iP Zv) l4 (TQ lo.Tr hZb hB tk4 Ys)⟩
def Mt:Sp:=λvs H Q _=>∃ (g0 ra:ah) (gv:List V) (hand:Int) (R:List (Option Int)),vs=[.ref g0,.int hand,.ref ra]/\H g0=some (.lst gv)/\H ra=some (.lst (tV R))/\gv.length=R.length/\(∀ (i:Nat) (z:Int),R[i]?=some (some z)->∃ (t wa:ah) (ps:List Int),gv[i]?=some (.ref t)/\H t=some (.tup [.int hand,.int 0,.ref wa])/\H wa=some (.lst (ps.map V.int))/\z∈ps)/\∀ H',bh H H'->Q .e8 H'
theorem Do {R:List (Option Int)} {i:Nat} {x:V} (h:(tV R)[i]?=some x):∃ o,R[i]?=some o/\x=oV o:=by
 unfold tV at h
 rw[aB] at h
 obtain⟨o,ho,rfl⟩:=dY.mp h
 exact⟨o,ho,rfl⟩
theorem O8 (F:bz K mg "check_rule" j6 ["game","hand","rule"]) (T:Txt mg) (lU:Dn P w K mg base "is_whole" 1 ["value"] vH):Dn P w K mg base "check_rule" 2 ["game","hand","rule"] Mt:=by
 have sc:=ya
 refine F.ok sc (λvs H Q E h=>?_) (λf dk A outer s H vs Q E hr h=>?_)
 ·obtain⟨_,_,_,_,_,rfl,_⟩:=h;rfl
 obtain⟨g0,r,gv,hand,R,rfl,jS,hR,hlen,hRO,q⟩:=h
 have Cz:gv.length=(tV R).length:=by rw[jd];exact hlen
 refine⟨_,(au (fo (PW.pt (a0n (mm (f9 (cn (J3 (K:=K) rfl (T := "list")) rfl T.gZ dj (af (pv 2) (af (vD (v:=.ty "list") rfl T.v1 gQ rfl) av))))) (a0k (dG qR (cn (iu (K:=K) rfl) rfl T.iq bN (af (pv 2) av)) (cn (iu (K:=K) rfl) rfl T.iq bN (af (pv 0) av)) (dM _)))))
   (aG pY)
   dq)
   (aG (eS bn rfl (wL (K:=K) rfl rfl T.yC (af (pv 0) (af (pv 2) av))) (ml rfl (dN (cE (i:=3) sc.nd rfl (bi rfl)) (dN (cE (i:=4) sc.nd rfl (bi rfl)) j5)))
   (au (fo (iQ (ny (pv 4)))
   (aG uN)
   dq)
   (au (fo (dG qR (bM (mQ (K:=K) rfl) (pv 3) aK (λ_ _=>rfl)) (pv 1) (dM _))
   (aG pY)
   dq)
   (aG (fo (PW.pt (a0n (mm (f9 (cO lU hr (af (pv 4) av)))) (a0k (dG (Et (K:=K) rfl) (pv 4) (bM (mQ (K:=K) rfl) (pv 3) aK (λ_ _=>rfl)) rfl))))
   (aG pY)
   dq))))))),?_⟩
 refine⟨_,rfl,_,"list",_,rfl,.inl ⟨rfl,.inl ⟨_,hR⟩⟩,CF _,_,rfl,?_⟩
 refine eJ ?_
 refine⟨_,rfl,r,_,rfl,.inl (bI.of hR),_,rfl,g0,_,rfl,.inl (bI.of jS),rfl,_,rfl,?_⟩
 refine iO (λc=>?_) (λc=>?_)
 ·exfalso;simp[Cz] at c
 refine⟨_,rfl,_,rfl,g0,r,rfl,⟨_,bI.of jS⟩,⟨_,bI.of hR⟩,vA (K:=K) (a:=g0) (b:=r) (xs:=gv) (ys:=tV R) Cz (λi σ H2=>bh H H2/\∃ y1 y2:Option V,σ=[some (.ref g0),some (.int hand),some (.ref r),y1,y2])
  ⟨bh.refl _,_,_,rfl⟩ (λi σ H2 _ h=>⟨bI.of (h.1 _ _ jS),bI.of (h.1 _ _ hR)⟩) (λi x y σ H2 Tt hi hj h hT=>?_) (λσ H2 h=>?_)⟩
 ·obtain⟨s2,y1,y2,rfl⟩:=h
  obtain⟨o,ho,rfl⟩:=Do hj
  have s3:=s2.trans (az hT (.tup [x,oV o]))
  refine⟨Tt,_,rfl,gJ.of ar,rfl,_,_,rfl,_,_,rfl,rfl,?_⟩
  cases o with
  | none =>
   refine⟨_,rfl,_,rfl,?_⟩
   refine jc ?_
   exact⟨s3,_,_,rfl⟩
  | some z =>
   obtain⟨t,wa,ps,p1,p2,p3,hz⟩:=hRO i z ho
   rw[hi] at p1;cases p1
   refine⟨_,rfl,_,rfl,?_⟩
   refine eJ ?_
   refine⟨_,rfl,t,_,_,_,rfl,rfl,gJ.of (s3 _ _ p2),bV (j:=0) rfl,_,rfl,rfl,_,rfl,?_⟩
   refine iO (λc=>?_) (λc=>?_)
   ·exfalso;simp at c
   refine⟨_,rfl,z,rfl,_,rfl,?_⟩
   refine eJ ?_
   refine⟨_,rfl,_,rfl,t,_,_,_,rfl,rfl,gJ.of (s3 _ _ p2),bV (j:=2) rfl,wa,_,rfl,.inl (bI.of (s3 _ _ p3)),rfl,ue _,_,rfl,?_⟩
   show if (!XA (.int z) (ps.map V.int))=true then _ else _
   rw[wp]
   refine iO (λc=>?_) (λc=>?_)
   ·exfalso;simp[hz] at c
   ·exact⟨s3,_,_,rfl⟩
 ·exact q _ h.1
def ad8 (H:Hp) (row:cw) (v:V):Prop:=∃ (t wa:ah),v=.ref t/\H t=some (.tup [.int row.1,.int 0,.ref wa])/\H wa=some (.lst ((row.2.map (·.1)).map V.int))
def GD:Sp:=λvs H Q _=>∃ (v:V) (G:List cw) (ra:ah) (r:List (Option Int)),vs=[v,.ref ra]/\IF H G v/\H ra=some (.lst (tV r))/\Ac G r/\G.length<=16/\(∀ row∈G,row.2.length<=100)/\∀ H',bh H H'->Q .e8 H'
theorem Ez (F:bz K mg "check_spender" gc ["game","rule"]) (T:Txt mg) (zR:Dn P w K mg base "check_rule" 2 ["game","hand","rule"] Mt):Dn P w K mg base "check_spender" 3 ["game","rule"] GD:=by
 have sc:=uz
 refine F.ok sc (λvs H Q E h=>?_) (λf dk A outer s H vs Q E hr h=>?_)
 ·obtain⟨_,_,_,_,rfl,_⟩:=h;rfl
 obtain⟨v,G,ra,r,rfl,hv,AC,rl,yP,oR,q⟩:=h
 obtain⟨a,us,rfl,ha,ul,xr⟩:=mq hv
 refine⟨_,(au (cz (cO zR hr (af (qS (aC gc) ["game","rule","row","way"] ["hand","ways"] 2 [] (dm (pv 0)) (λ_ _ _ _ _ _=>(Pl (K:=K) rfl rfl (show cT (["hand","ways"]:List aT) by decide +kernel) rfl rfl rfl rfl)) (λ_ _ _ _ _ _=>hV) (λ_ _ _ _ _ _=>(jF (af (pv 0) (af aK (af (by exact (F8  ["hand","ways"] ["place","amount"] 2 [] (Db (pv 1)) (λ_ _ _ _ _ _=>(Pl (K:=K) rfl rfl (show cT (["place","amount"]:List aT) by decide +kernel) rfl rfl rfl rfl)) (λ_ _ _ _ _ _=>hV) (λ_ _ _ _ _ _=>(pv 0)))) av)))))) (af aK (af (pv 1) av)))))
   (aG (eS bn rfl (wL (K:=K) rfl rfl T.yC (af (pv 0) (af (pv 1) av))) (ml rfl (dN (cE (i:=2) sc.nd rfl (bi rfl)) (dN (cE (i:=3) sc.nd rfl (bi rfl)) j5)))
   (aG (fo (PW.pt (a0i (dG md (bM (mQ (K:=K) rfl) (pv 2) aK (λ_ _=>rfl)) aK (dM _)) (a0g (iQ (ny (pv 3))))))
   (aG pY)
   dq))))),?_⟩
 refine⟨_,rfl,_,rfl,⟨_,bI.of ha⟩,c8 (K:=K) (a:=a) (xs:=us) (λi ys H2=>bh H H2/\ys.length=i/\∀ j row,j<i->G[j]?=some row->∃ y,ys[j]?=some y/\ad8 H2 row y) ⟨bh.refl _,rfl,λj row hj=>absurd hj (mE j)⟩ (a0b (m:=1000) (by omega)) (λi ys H2 hi h=>?_) (λi x ys H2 hi h=>?_) (λys H2 h lb Ny=>?_)⟩
 ·exact⟨bI.of (h.1 _ _ ha),by omega⟩
 ·obtain⟨s2,yl,h⟩:=h
  have il:i<G.length:=by rw[← ul];exact (ag.mp hi).1
  obtain⟨t,wl,hu,ht,hw⟩:=xr i _ (ao il)
  rw[hi] at hu
  injection hu with hu
  subst hu
  have f2:=oR _ (cA il)
  obtain⟨row,eU⟩:∃ row,row=G[i]:=⟨_,rfl⟩
  rw[← eU] at ht hw f2
  obtain⟨_,Jz,e0,rD,Rk,MP⟩:=my hw
  cases e0
  refine uc (gJ.of (s2 _ _ ht)) rfl ?_
  refine⟨_,rfl,_,rfl,wl,rfl,⟨_,bI.of (s2 _ _ rD)⟩,c8 (K:=K0) (a:=wl) (xs:=Jz) (λj zs H3=>H3=H2/\zs=((row.2.take j).map (·.1)).map V.int) ⟨rfl,rfl⟩ (a0b (m:=1000) (by omega)) (λj zs H3 hj h=>?_) (λj x zs H3 hj h=>?_) (λzs H3 h lc Nz=>?_)⟩
  ·obtain⟨rfl,rfl⟩:=h
   exact⟨bI.of (s2 _ _ rD),by rw[aj,aj,eE];omega⟩
  ·obtain⟨rfl,rfl⟩:=h
   have jl:j<row.2.length:=by rw[← Rk];exact (ag.mp hj).1
   obtain⟨t2,CC,yT⟩:=MP j _ (ao jl)
   rw[hj] at CC
   injection CC with CC
   subst CC
   refine uc (gJ.of (s2 _ _ yT)) rfl ?_
   refine⟨_,rfl,rfl,?_⟩
   rw[nJ,ao jl,aM,aM];rfl
  ·obtain⟨rfl,rfl⟩:=h
   rw[Rk,aZ]
   refine⟨(by show 3<=aL;decide),λtp KO=>?_⟩
   have s4:=(az Nz (.lst ((row.2.map (·.1)).map V.int)))
   have s5:=s4.trans (az KO (.tup [V.int row.1,V.int 0,V.ref lc]))
   refine⟨s2.trans s5,by rw[aJ,yl];rfl,λj Bb hj AB=>?_⟩
   rcases cY j i with c | c
   ·obtain⟨y,hy,t9,wa9,e9,k1,k2⟩:=h j Bb c AB
    exact⟨y,by rw[b9 (by omega)];exact hy,t9,wa9,e9,s5 _ _ k1,s5 _ _ k2⟩
   ·have:j=i:=by omega
    subst this
    rw[ao il,← eU] at AB
    injection AB with AB
    subst AB
    exact⟨.ref tp,by rw[cx (by omega),yl,m8];rfl,tp,lc,rfl,ar,az KO _ _ _ ar⟩
 ·obtain ⟨s2,yl,h⟩:=h
  have s3:=s2.trans (az Ny (.lst ys))
  refine⟨_,rfl,lb,ra,ys,1,r,rfl,ar,s3 _ _ AC,by rw[yl,ul,rl.1],λi z hz=>?_,λH4 s4=>?_⟩
  ·have il:i<G.length:=by have:=(ag.mp hz).1;rw[rl.1] at this;exact this
   obtain⟨y,hy,t9,wa9,rfl,k1,k2⟩:=h i _ (by omega) (ao il)
   have sb:=az Ny (.lst ys)
   rcases sQ rl (ao il) with ⟨e,_⟩ | ⟨wy,FI,e,h1⟩
   ·rw[hz] at e;cases e
   ·rw[hz] at e
    have e:some (some z)=some (some wy.1):=e
    injection e with e
    injection e with e
    rw[h1] at k1
    exact⟨t9,wa9,_,hy,sb _ _ k1,sb _ _ k2,by rw[e];exact bL.mpr ⟨wy,FI,rfl⟩⟩
  ·have s5:=s3.trans s4
   refine⟨_,rfl,_,rfl,a,ra,rfl,⟨_,bI.of (s5 _ _ ha)⟩,⟨_,bI.of (s5 _ _ AC)⟩,vA (K:=K) (a:=a) (b:=ra) (xs:=us) (ys:=tV r) (by rw[jd,ul,rl.1]) (λi σ H5=>bh H H5/\∃ y1 y2:Option V,σ=[some (.ref a),some (.ref ra),y1,y2])
    ⟨s5,_,_,rfl⟩ (λi σ H5 _ h=>⟨bI.of (h.1 _ _ ha),bI.of (h.1 _ _ AC)⟩) (λi x y σ H5 Tt hi hj h hT=>?_) (λσ H5 h=>?_)⟩
   ·obtain⟨s6,y1,y2,rfl⟩:=h
    have il:i<G.length:=by rw[← ul];exact (ag.mp hi).1
    obtain⟨t,wl,hu,ht,hw⟩:=xr i _ (ao il)
    rw[hi] at hu
    injection hu with hu
    subst hu
    obtain⟨o,ho,rfl⟩:=Do hj
    have s7:=s6.trans (az hT (.tup [V.ref t,oV o]))
    refine⟨Tt,_,rfl,gJ.of ar,rfl,_,_,rfl,_,_,rfl,rfl,?_⟩
    refine⟨_,rfl,t,_,_,_,rfl,rfl,gJ.of (s7 _ _ ht),bV (j:=0) rfl,rfl,_,rfl,?_⟩
    rcases sQ rl (ao il) with ⟨e,h1⟩ | ⟨wy,FI,e,h1⟩
    ·refine iO (λc=>?_) (λc=>?_)
     ·exfalso;exact h1 (by have:=of_decide_eq_true c;injection this)
     ·exact eJ ⟨s7,_,_,rfl⟩
    ·rw[ho] at e
     injection e with e
     subst e
     refine iO (λc=>?_) (λc=>?_)
     ·refine⟨_,rfl,_,rfl,?_⟩
      exact eJ ⟨s7,_,_,rfl⟩
     ·exact eJ ⟨s7,_,_,rfl⟩
   ·exact q _ h.1
theorem Sm.free {H H':Hp} {l:ah} (s:Sm H H') (h:nt H' l=none):nt H l=none:=by
 cases e:nt H l with
 | none=>rfl
 | some o=>have:=s _ _ e;rw[h] at this;cases this
theorem sL {α:Type} {R:Rel α} (m:∀ H x v,R H x v->R (nt H) x v) {H:Hp}:∀ {xs:List α} {vs:List V},dP (R H) xs vs->dP (R (nt H)) xs vs
 | _,_,.nil=>.nil
 | _,_,.cons h t=>.cons (m _ _ _ h) (sL m t)
theorem QV {H:Hp} {ws:List Wy} {v:V} (h:IG H ws v):IG (nt H) ws v:=by
 obtain⟨a,us,rfl,h,p⟩:=h
 exact⟨a,us,rfl,iP h,sL (λH x v ⟨t,y1,y2,e,ht,r1,r2⟩=>⟨t,y1,y2,e,wE ht,r1,r2⟩) p⟩
theorem XU {H:Hp} {W:Lf} {v:V} (h:Ui H W v):Ui (nt H) W v:=by
 obtain⟨a,us,rfl,h,p⟩:=h
 exact⟨a,us,rfl,iP h,sL (λH x v r=>QV r) p⟩
theorem XV {H:Hp} {G:List cw} {v:V} (h:IF H G v):IF (nt H) G v:=by
 obtain⟨a,us,rfl,h,p⟩:=h
 exact⟨a,us,rfl,iP h,sL (λH x v ⟨t,y1,y2,e,ht,r1,r2⟩=>⟨t,y1,y2,e,wE ht,r1,QV r2⟩) p⟩
def GA (K:ak):Sp:=λvs H Q _=>∃ (v:V) (G:List cw) (ra:ah) (r:List (Option Int)),vs=[v,.ref ra]/\IF (nt H) G v/\nt H ra=some (.lst (tV r))/\vv G/\Ac G r/\G.length<=16/\(∀ row∈G,row.2.length<=100)/\qi K H/\∀ (l:ah) (T:List (Option Int)) (H':Hp),Sm H H'->qi K H'->nt H l=none->nt H' l=some (.lst (tV T))->T.length=G.length->uH (eG G r) G.length (dE T)->Q (.ref l) H'
theorem OO {G:List cw} {r:List (Option Int)} (g:vv G):∀ x∈eG G r,x≠[]:=λx hx=>by
 unfold eG at hx
 obtain⟨i,hi⟩:=cg hx
 rw[lg] at hi
 cases e1:G[i]? with
 | none=>rw[e1] at hi;cases hi
 | some row =>
  cases e2:r[i]? with
  | none=>rw[e1,e2] at hi;cases hi
  | some o =>
   rw[e1,e2] at hi
   have gm:=g _ (am e1)
   cases o with
   | none=>cases hi;exact gm.1
   | some p=>cases hi;simp
theorem K2 {G:List cw} {r:List (Option Int)} (f:∀ row∈G,row.2.length<=100):∀ x∈eG G r,x.length<=100:=λx hx=>by
 unfold eG at hx
 obtain⟨i,hi⟩:=cg hx
 rw[lg] at hi
 cases e1:G[i]? with
 | none=>rw[e1] at hi;cases hi
 | some row =>
  cases e2:r[i]? with
  | none=>rw[e1,e2] at hi;cases hi
  | some o =>
   rw[e1,e2] at hi
   have gm:=f _ (am e1)
   cases o with
   | none=>cases hi;exact gm
   | some p=>cases hi;simp
theorem Lp (F:bz K mg "needs" sR ["game","rule"]) (T:Txt mg) (uT:Dn P w K mg base "check_spender" 3 ["game","rule"] GD) (B3:Dn P w K mg base "ways_left" 1 ["game","rule"] Mq) (zW:Dn P w K mg base "needs_left" 5 ["left"] (YB K)):Dn P w K mg base "needs" 6 ["game","rule"] (GA K):=by
 have sc:=Mb
 refine F.ok sc (λvs H Q E h=>?_) (λf dk A outer s H vs Q E hr h=>?_)
 ·obtain⟨_,_,_,_,rfl,_⟩:=h;rfl
 obtain⟨v,G,ra,r,rfl,hv,AC,g,rl,yP,oR,tb,q⟩:=h
 refine⟨_,(au (cz (cO uT hr (af (pv 0) (af (pv 1) av))))
   (aG (cP (cO zW hr (af (cO B3 hr (af (pv 0) (af (pv 1) av))) av))))),?_⟩
 have ZZ:=lJ.up cG hv
 have hrH:=cG _ _ AC
 refine⟨_,rfl,_,rfl,v,G,ra,r,rfl,ZZ,hrH,rl,yP,oR,λH1 s1=>?_⟩
 refine⟨_,rfl,_,rfl,v,G,ra,r,rfl,lJ.up s1 ZZ,s1 _ _ hrH,g,rl,yP,oR,λu H2 s2 hu=>?_⟩
 have s3:=s1.trans s2
 have ll:=CM rl.1
 refine⟨u,eG G r,rfl,?_,⟨by omega,K2 oR,by rw[ll];exact vC g rl⟩,OO g,tb.up s3,λl TT H3 S3 DJ l0 l1 tl N=>?_⟩
 ·exact XU hu
 ·rw[ll] at N tl
  exact q l TT H3 ((Sm.of s3).trans S3) DJ ((Sm.of s3).free l0) l1 tl N
def zO (G:List cw) (r:List (Option Int)) (T:Tb) (r':List (Option Int)) (i:Nat):Prop:=∀ row,G[i]?=some row->(row.1≠1->r'[i]?=some none)/\(row.1=1->∃ own most,own∈row.2/\most∈row.2/\r[i]?=some (some own.1)/\(∀ w∈row.2,fP (a0a T w) (a0a T most))/\(fP (a0a T most) (a0a T own)/\r'[i]?=some (some own.1)\/¬ fP (a0a T most) (a0a T own)/\r'[i]?=some (some most.1)))
theorem zO.snoc {G:List cw} {r r':List (Option Int)} {T:Tb} {i:Nat} {o:Option Int} (hl:r'.length=i) (h:∀ j,j<i->zO G r T r' j) (ho:zO G r T (r'++[o]) i):∀ j,j<i+1->zO G r T (r'++[o]) j:=λj hj=>by
 rcases cY j i with c | c
 ·intro row eU
  rw[b9 (by omega)]
  exact h j c row eU
 ·have:j=i:=by omega
  rw[this];exact ho
theorem sW {α:Type} {l:List α} {i:Nat} {o:α} (hl:l.length=i):(l++[o])[i]?=some o:=by
 rw[cx (by omega),hl,m8];rfl
theorem tf (T:List (Option Int)) (o:Option Int):tV T++[oV o]=tV (T++[o]):=by unfold tV;rw[aM];rfl
def Q6 (K:ak):Sp:=λvs H Q _=>∃ (v:V) (G:List cw) (ra ta:ah) (r T:List (Option Int)),vs=[v,.ref ra,.ref ta]/\IF (nt H) G v/\nt H ra=some (.lst (tV r))/\nt H ta=some (.lst (tV T))/\vv G/\Ac G r/\T.length=G.length/\G.length<=16/\(∀ row∈G,row.2.length<=100)/\qi K H/\∀ (l:ah) (r':List (Option Int)) (H':Hp),Sm H H'->qi K H'->nt H l=none->nt H' l=some (.lst (tV r'))->DN G r (dE T) r'->Q (.ref l) H'
theorem C0 (F:bz K mg "bettered" mr ["game","rule","table"]) (T:Txt mg) (zV:Dn P w K mg base "most_needy" 4 ["ways","purses"] (Mo K true)) (jH:Dn P w K mg base "need_by" 1 ["purses","place","amount"] qe) (nN:Dn P w K mg base "is_more" 2 ["need","other"] Bq):Dn P w K mg base "bettered" 5 ["game","rule","table"] (Q6 K):=by
 have sc:=Df
 refine F.ok sc (λvs H Q E h=>?_) (λf dk A outer s H vs Q E hr h=>?_)
 ·obtain⟨_,_,_,_,_,_,rfl,_⟩:=h;rfl
 obtain⟨v,G,ra,ta,r,TT,rfl,hv,AC,xv,g,rl,tl,yP,oR,tb,q⟩:=h
 obtain⟨a,us,rfl,ha,ul,xr⟩:=mq hv
 refine⟨_,(au (bP (i:=3) sc.nd rfl (bi rfl) (fb av))
   (au (eS bn rfl (wL (K:=K) rfl rfl T.yC (af (pv 0) (af (pv 1) av))) (ml rfl (dN (cE (i:=4) sc.nd rfl (bi rfl)) (dN (cE (i:=5) sc.nd rfl (bi rfl)) j5)))
   (au (fo (iQ (ny (pv 5)))
   (au (cz (jp aW aX aY dv (pv 3) (af mj av)))
   (aG uN))
   dq)
   (au (bP (i:=6) sc.nd rfl (bi rfl) (cO zV hr (af (bM (mQ (K:=K) rfl) (pv 4) aK (λ_ _=>rfl)) (af (pv 2) av))))
   (au (bP (i:=7) sc.nd rfl (bi rfl) (cO jH hr (af (pv 2) (af (pv 5) (af (AT (AD hr 1) (kG (lp (K:=K) rfl rfl) rfl T.DU nL (af (bM (mQ (K:=K) rfl) (pv 4) aK (λ_ _=>rfl)) av)) (pv 5) (λ_ _=>rfl)) av)))))
   (aG (cz (jp aW aX aY dv (pv 3) (af (mi (f9 (cO nN hr (af (cO jH hr (af (pv 2) (af (bM (mQ (K:=K) rfl) (pv 6) aK (λ_ _=>rfl)) (af (bM (mQ (K:=K) rfl) (pv 6) aK (λ_ _=>rfl)) av)))) (af (pv 7) av)))) (bM (mQ (K:=K) rfl) (pv 6) aK (λ_ _=>rfl)) (pv 5)) av))))))))
   (aG (cP (pv 3))))),?_⟩
 refine⟨bE _,λgl mP=>?_⟩
 have s1:=az mP (.lst [])
 have ZB:nt H gl=none:=sK mP
 have S1:=Sm.of s1
 have MF:=tb.up s1
 have hg1:upd H gl (.lst []) gl=some (.lst (tV [])):=ar
 generalize upd H gl (.lst [])=H1 at S1 MF hg1 ⊢
 clear s1
 refine⟨_,rfl,_,rfl,a,ra,rfl,⟨_,bI.of (S1.lst ha)⟩,⟨_,bI.of (S1.lst AC)⟩,vA (K:=K) (a:=a) (b:=ra) (xs:=us) (ys:=tV r) (by rw[jd,ul,rl.1]) (λi σ H2=>∃ (r':List (Option Int)) (y1 y2 y3 y4:Option V),σ=[some (.ref a),some (.ref ra),some (.ref ta),some (.ref gl),y1,y2,y3,y4]/\Sm H H2/\qi K H2/\H2 gl=some (.lst (tV r'))/\r'.length=i/\∀ j,j<i->zO G r (dE TT) r' j)
  ⟨[],_,_,_,_,rfl,S1,MF,hg1,rfl,λj hj=>absurd hj (mE j)⟩ (λi σ H2 _ h=>?_) (λi x y σ H2 tt hx hy h KP=>?_) (λσ H2 h=>?_)⟩
 ·obtain⟨_,_,_,_,_,_,S2,_⟩:=h
  exact⟨bI.of (S2.lst ha),bI.of (S2.lst AC)⟩
 ·clear S1 MF hg1
  obtain⟨r',y1,y2,y3,y4,rfl,S2,Ra,Kv,Jx,bt⟩:=h
  have il:i<G.length:=by rw[← ul];exact (ag.mp hx).1
  have eU:=ao il
  have gk:=g _ (cA il)
  have f2:=oR _ (cA il)
  obtain⟨t,wl,hu,ht,hw⟩:=xr i _ eU
  have ra:=sQ rl eU
  generalize G[i]=row at eU gk f2 ht hw ra
  rw[hx] at hu
  injection hu with hu
  subst hu
  obtain⟨o,ho,rfl⟩:=Do hy
  have s3:=az KP (.tup [V.ref t,oV o])
  have S3:=S2.trans (Sm.of s3)
  have DJ:=Ra.up s3
  have Om:=s3 _ _ Kv
  refine⟨tt,_,rfl,gJ.of ar,rfl,_,_,rfl,_,_,rfl,rfl,?_⟩
  generalize upd H2 tt (.tup [V.ref t,oV o])=H3 at S3 DJ Om ⊢
  clear S2 Ra Kv s3 KP
  refine⟨_,rfl,_,rfl,?_⟩
  rcases ra with ⟨e,h1⟩ | ⟨own,Ov,e,h1⟩
  ·rw[ho] at e
   injection e with e
   subst e
   refine jc ?_
   refine⟨_,rfl,.inl ⟨rfl,_,bI.of Om⟩,gl,_,_,rfl,rfl,Om,mK (m:=1000) (by rw[jd];omega),?_⟩
   refine⟨r'++[none],_,_,_,_,rfl,S3.put ZB _,DJ.put Om,by rw[ar,← tf];rfl,by rw[aJ,Jx];rfl,zO.snoc Jx bt λBb AB=>?_⟩
   rw[eU] at AB
   cases AB
   exact⟨λ_=>sW Jx,λz=>absurd z h1⟩
  ·rw[ho] at e
   injection e with e
   subst e
   refine eJ ?_
   have rg:∀ y∈row.2,0<=y.1/\y.1<TT.length:=λy hy=>by have:=gk.2.2 y hy;omega
   refine⟨_,rfl,t,_,_,_,rfl,rfl,gJ.of (S3.tup ht),bV (j:=1) rfl,_,rfl,.ref wl,ta,row.2,TT,rfl,eV.up S3 hw,S3 _ _ xv,gk.1,rg,DJ,λwt wy H4 S4 EX FI best OA=>?_⟩
   have S5:=S3.trans S4
   have WB:=S4.lst (iP Om)
   have adl:=cG _ _ OA
   obtain⟨_,Jz,e0,OC,pw⟩:=eV.up cG (eV.up S5 hw)
   cases e0
   obtain⟨ts,rfl,t2,t3⟩:=GP pw
   refine⟨_,rfl,_,rfl,_,rfl,t,_,_,_,rfl,rfl,gJ.of (S5.tup ht),bV (j:=1) rfl,wl,ts,rfl,bI.of OC,λz hz=>gJ.of (t2 z hz),λdp hdp=>?_⟩
   rw[t3,D2 gk.2.1]
   have s6:=az hdp (.dK (DC row.2))
   have hd6:upd H4 dp (.dK (DC row.2)) dp=some (.dK (DC row.2)):=ar
   have S6:=S5.trans (Sm.of s6)
   have P2:=EX.up s6
   have hg6:=s6 _ _ WB
   have OB:=s6 _ _ adl
   generalize upd H4 dp (.dK (DC row.2))=H6 at S6 P2 hg6 OB hd6 ⊢
   refine⟨_,rfl,dp,V.int own.2,rfl,by rw[← Aq gk.2.1 Ov];exact uS.k (k:=ij own.1) hd6,ta,TT,own.1,own.2,rfl,S6.lst xv,(rg own Ov).1,(rg own Ov).2,?_⟩
   refine⟨_,rfl,.inl ⟨rfl,_,bI.of hg6⟩,_,rfl,_,rfl,wt,_,_,_,rfl,rfl,gJ.of OB,bV (j:=0) rfl,_,rfl,wt,_,_,_,rfl,rfl,gJ.of OB,bV (j:=1) rfl,ta,TT,wy.1,wy.2,rfl,S6.lst xv,(rg wy FI).1,(rg wy FI).2,_,rfl,a0a (dE TT) wy,a0a (dE TT) own,rfl,λb H7 s7 hb=>⟨b,rfl,?_⟩⟩
   have S7:=S6.trans (Sm.of s7)
   have UI:=P2.up s7
   have ZA:=s7 _ _ hg6
   have Ft:∀ w'∈row.2,fP (a0a (dE TT) w') (a0a (dE TT) wy):=λw' oU=>by
    have:=best w' oU
    rwa [if_pos rfl] at this
   have fin:∀ z:Int,(fP (a0a (dE TT) wy) (a0a (dE TT) own)/\z=own.1\/¬ fP (a0a (dE TT) wy) (a0a (dE TT) own)/\z=wy.1)->zO G r (dE TT) (r'++[some z]) i:=λz hz Bb AB=>by
    rw[eU] at AB
    cases AB
    refine⟨λy=>absurd h1 y,λ_=>⟨own,wy,Ov,FI,ho,Ft,?_⟩⟩
    rcases hz with ⟨k,rfl⟩ | ⟨k,rfl⟩
    ·exact .inl ⟨k,sW Jx⟩
    ·exact .inr ⟨k,sW Jx⟩
   cases b with
   | true =>
    refine jc ?_
    refine⟨_,rfl,wt,_,_,_,rfl,rfl,gJ.of (s7 _ _ OB),bV (j:=0) rfl,gl,_,_,rfl,rfl,ZA,mK (m:=1000) (by rw[jd];omega),?_⟩
    exact⟨r'++[some wy.1],_,_,_,_,rfl,S7.put ZB _,UI.put ZA,by rw[ar,← tf];rfl,by rw[aJ,Jx];rfl,zO.snoc Jx bt (fin wy.1 (.inr ⟨hb.mp rfl,rfl⟩))⟩
   | false =>
    refine eJ ?_
    refine⟨_,rfl,gl,_,_,rfl,rfl,ZA,mK (m:=1000) (by rw[jd];omega),?_⟩
    exact⟨r'++[some own.1],_,_,_,_,rfl,S7.put ZB _,UI.put ZA,by rw[ar,← tf],by rw[aJ,Jx];rfl,zO.snoc Jx bt (fin own.1 (.inl ⟨(b6 λz=>absurd (hb.mpr z) bg),rfl⟩))⟩
 ·obtain⟨r',y1,y2,y3,y4,rfl,S2,Ra,Kv,Jx,bt⟩:=h
  rw[ul] at Jx bt
  exact⟨_,rfl,q gl r' H2 S2 Ra ZB (iP Kv) ⟨Jx,λi row eU=>bt i (ag.mp eU).1 row eU⟩⟩
inductive Jc (G:List cw):List (List (Option Int))->List (Option Int)->Tb->Prop
 | start {r:List (Option Int)} {T:Tb}:Ac G r->uH (eG G r) G.length T->Jc G [r] r T
 | next {L:List (List (Option Int))} {r r':List (Option Int)} {T T':Tb}:Jc G L r T->DN G r T r'->r'≠r->uH (eG G r') G.length T'->Jc G (r'::L) r' T'
def Vw (G:List cw):Prop:=∃ M,M<16777216/\∀ L r T,Jc G L r T->L.length<=M
theorem Jc.rl {G:List cw} {L:List (List (Option Int))} {r:List (Option Int)} {T:Tb} (h:Jc G L r T):Ac G r:=by
 cases h with
 | start h _=>exact h
 | next _ b _ _=>exact b.rule
theorem Jc.nds {G:List cw} {L:List (List (Option Int))} {r:List (Option Int)} {T:Tb} (h:Jc G L r T):uH (eG G r) G.length T:=by
 cases h with
 | start _ h=>exact h
 | next _ _ _ h=>exact h
theorem MC {T:List (Option Int)} {a:ah}:V.ref a ∉ tV T:=λh=>by
 unfold tV at h
 obtain⟨o,_,e⟩:=bL.mp h
 cases o <;> cases e
theorem Re {T:List (Option Int)} {ys:List V} {a:ah} (h:ys++[V.ref a]=tV T):False:=MC (T:=T) (a:=a) (by rw[← h];simp)
theorem GG {H:Hp}:∀ T:List (Option Int),dP (Uj gG H) T (tV T)
 | []=>.nil
 | o::T=>.cons (by cases o <;> rfl) (GG T)
theorem rOL {H:Hp} {a:ah} {T:List (Option Int)} (h:H a=some (.lst (tV T))):gb (Uj gG) H T (.ref a):=⟨a,_,rfl,h,GG T⟩
theorem ut {H:Hp} {a c:ah} {o:HO} (h:c≠a):nt (upd H a o) c=nt H c:=by unfold nt;rw[bB h]
theorem N1 {ys:List V} {x:V}:o6 (ys++[x]) (-1)=some x:=by
 unfold o6
 rw[aJ,da]
 have e:xX (ys.length+1) (-1)=some ys.length:=by
  unfold xX
  split
  ·exfalso;omega
  ·split
   ·congr 1;omega
   ·exfalso;omega
 rw[e]
 show (ys++[x])[ys.length]?=_
 simp
def Mm (K:ak):Sp:=λvs H Q _=>∃ (v:V) (G:List cw),vs=[v]/\IF (nt H) G v/\vv G/\G.length<=16/\(∀ row∈G,row.2.length<=100)/\Vw G/\qi K H/\∀ (l lt ra ta:ah) (ys:List V) (r T:List (Option Int)) (H':Hp),Sm H H'->qi K H'->nt H' l=some (.lst (ys++[.ref lt]))->nt H' lt=some (.tup [.ref ra,.ref ta])->nt H' ra=some (.lst (tV r))->nt H' ta=some (.lst (tV T))->Ac G r->T.length=G.length->uH (eG G r) G.length (dE T)->DN G r (dE T) r->Q (.ref l) H'
theorem OX (F:bz K mg "betterings" i4 ["game"]) (T:Txt mg) (Fd:Dn P w K mg base "needs" 6 ["game","rule"] (GA K)) (vN:Dn P w K mg base "bettered" 5 ["game","rule","table"] (Q6 K)):Dn P w K mg base "betterings" 7 ["game"] (Mm K):=by
 have sc:=x9
 refine F.ok sc (λvs H Q E h=>?_) (λf dk A outer s H vs Q E hr h=>?_)
 ·obtain⟨_,_,rfl,_⟩:=h;rfl
 obtain⟨v,G,rfl,hv,g,yP,oR,⟨M,hM,cM⟩,tb,q⟩:=h
 obtain⟨a,us,rfl,ha,ul,xr⟩:=mq hv
 refine⟨_,(au (pX (i:=1) (aC i4) ["game","rule","table","told","better"] ["hand","ways"] 2 [] sc.nd rfl rfl (dm (pv 0)) (λ_ _ _ _ _ _=>(Pl (K:=K) rfl rfl (show cT (["hand","ways"]:List aT) by decide +kernel) rfl rfl rfl rfl)) (λ_ _ _ _ _ _=>hV) (λ_ _ _ _ _ _=>(mi (dG md (pv 0) aK (dM _)) (bM (mQ (K:=K) rfl) (bM (lA (K:=K) rfl) (pv 1) aK (λ_ _=>rfl)) aK (λ_ _=>rfl)) mj)))
   (au (bP (i:=2) sc.nd rfl (bi rfl) (cO Fd hr (af (pv 0) (af (pv 1) av))))
   (au (bP (i:=3) sc.nd rfl (bi rfl) (fb (af (jF (af (pv 1) (af (pv 2) av))) av)))
   (au (bP (i:=4) sc.nd rfl (bi rfl) (cO vN hr (af (pv 0) (af (pv 1) (af (pv 2) av)))))
   (au (wP bn (dG (T7 (Pq Kc) (AD hr 1)) (pv 4) (pv 1) (dM _))
   (au (bP (i:=1) sc.nd rfl (bi rfl) (pv 4))
   (au (bP (i:=2) sc.nd rfl (bi rfl) (cO Fd hr (af (pv 0) (af (pv 1) av))))
   (au (cz (jp aW aX aY dv (pv 3) (af (jF (af (pv 1) (af (pv 2) av))) av)))
   (aG (bP (i:=4) sc.nd rfl (bi rfl) (cO vN hr (af (pv 0) (af (pv 1) (af (pv 2) av))))))))))
   (aG (cP (pv 3)))))))),?_⟩
 refine⟨_,rfl,a,rfl,⟨_,bI.of (cG _ _ ha)⟩,c8 (K:=K) (a:=a) (xs:=us) (λi ys H2=>H2=H/\∃ R:List (Option Int),ys=tV R/\R.length=i/\∀ j row,j<i->G[j]?=some row->(row.1≠1->R[j]?=some none)/\(row.1=1->∃ w∈row.2,R[j]?=some (some w.1))) ⟨rfl,[],rfl,rfl,λj row hj=>absurd hj (mE j)⟩ (a0b (m:=1000) (by omega)) (λi ys H2 hi h=>?_) (λi x ys H2 hi h=>?_) (λys H2 h ra AC=>?_)⟩
 ·obtain⟨rfl,R,rfl,rfl,_⟩:=h
  exact⟨bI.of (cG _ _ ha),by rw[jd];exact aA _⟩
 ·obtain⟨rfl,R,rfl,Rl,h⟩:=h
  have il:i<G.length:=by rw[← ul];exact (ag.mp hi).1
  have eU:=ao il
  have gk:=g _ (cA il)
  obtain⟨t,wl,hu,ht,hw⟩:=xr i _ eU
  generalize G[i]=row at eU gk ht hw
  rw[hi] at hu
  injection hu with hu
  subst hu
  obtain⟨_,Jz,e0,rD,Rk,MP⟩:=my hw
  cases e0
  refine uc (gJ.of (cG _ _ ht)) rfl ?_
  have fin:∀ o:Option Int,((row.1≠1->o=none)/\(row.1=1->∃ w∈row.2,o=some w.1))->H2=H2/\∃ R':List (Option Int),tV R++[oV o]=tV R'/\R'.length=i+1/\∀ j row,j<i+1->G[j]?=some row->(row.1≠1->R'[j]?=some none)/\(row.1=1->∃ w∈row.2,R'[j]?=some (some w.1)):=λo ho=>by
   refine⟨rfl,R++[o],tf R o,by rw[aJ,Rl];rfl,λj Bb hj AB=>?_⟩
   rcases cY j i with c | c
   ·rw[b9 (by omega)];exact h j Bb c AB
   ·have:j=i:=by omega
    subst this
    rw[eU] at AB
    cases AB
    rw[sW Rl]
    exact⟨λz=>by rw[ho.1 z],λz=>by obtain⟨w,hw,e⟩:=ho.2 z;exact⟨w,hw,by rw[e]⟩⟩
  refine⟨_,rfl,rfl,_,rfl,?_⟩
  refine iO (λc=>?_) (λc=>?_)
  ·have c:row.1=1:=by have:=of_decide_eq_true c;injection this
   have wne:0<row.2.length:=b7.mpr gk.1
   obtain⟨wt,OA,adk⟩:=MP 0 _ (ao wne)
   refine⟨_,rfl,wl,_,_,_,rfl,rfl,bI.of (cG _ _ rD),bV (j:=0) OA,wt,_,_,_,rfl,rfl,gJ.of (cG _ _ adk),bV (j:=0) rfl,?_⟩
   exact fin (some row.2[0].1) ⟨λz=>absurd c z,λ_=>⟨row.2[0],cA wne,rfl⟩⟩
  ·exact fin none ⟨λ_=>rfl,λz=>absurd (decide_eq_true (by rw[z])) c⟩
 obtain⟨rfl,R,rfl,Rl,h⟩:=h
 have rl0:Ac G R:=⟨by omega,λi row hr=>h i row (by rw[ul];exact (ag.mp hr).1) hr⟩
 have s1:=az AC (.lst (tV R))
 have S1:=Sm.of s1
 have MF:=tb.up s1
 have Ea:nt (upd H2 ra (.lst (tV R))) ra=some (.lst (tV R)):=iP ar
 generalize upd H2 ra (.lst (tV R))=H1 at S1 MF Ea ⊢
 refine⟨_,rfl,_,rfl,.ref a,G,ra,R,rfl,lJ.up S1 hv,Ea,g,rl0,yP,oR,MF,λta TT H3 S3 DJ acZ xv tl N=>?_⟩
 refine⟨_,rfl,_,rfl,(by show 2<=aL;decide),λlt ji=>⟨(by show 1<=aL;decide),λl hl=>?_⟩⟩
 have s4:=(az ji (.tup [V.ref ra,V.ref ta])).trans (az hl (.lst [V.ref lt]))
 have SK:nt (upd (upd H3 lt (.tup [V.ref ra,V.ref ta])) l (.lst [V.ref lt])) lt=some (.tup [V.ref ra,V.ref ta]):=wE (az hl _ _ _ ar)
 have Nw:nt (upd (upd H3 lt (.tup [V.ref ra,V.ref ta])) l (.lst [V.ref lt])) l=some (.lst ([]++[V.ref lt])):=iP ar
 have hln:nt H2 l=none:=(S1.trans S3).free ((Sm.of (az ji (.tup [V.ref ra,V.ref ta]))).free (sK hl))
 have S4:=(S1.trans S3).trans (Sm.of s4)
 have QP:=(S3.trans (Sm.of s4)) _ _ Ea
 have ZU:=(Sm.of s4) _ _ xv
 have EX:=DJ.up s4
 generalize upd (upd H3 lt (.tup [V.ref ra,V.ref ta])) l (.lst [V.ref lt])=H4 at S4 QP ZU EX SK Nw ⊢
 clear S1 MF Ea S3 DJ acZ xv s4 ji hl s1 AC
 have body:∀ (ra ta l lt ba:ah) (L:List (List (Option Int))) (r TT r':List (Option Int)) (ys:List V) (m:Nat) (H5:Hp),True:=λ_ _ _ _ _ _ _ _ _ _ _ _=>trivial
 refine⟨_,rfl,_,rfl,_,rfl,.ref a,G,ra,ta,R,TT,rfl,lJ.up S4 hv,QP,ZU,g,rl0,tl,yP,oR,EX,λba r' H5 S5 ND hb0 hb bt=>?_⟩
 refine⟨λm σ H6=>∃ (ra ta lt ba:ah) (L:List (List (Option Int))) (r TT r':List (Option Int)) (ys:List V),m=M-L.length/\σ=[some (.ref a),some (.ref ra),some (.ref ta),some (.ref l),some (.ref ba)]/\Sm H2 H6/\qi K H6/\nt H6 ra=some (.lst (tV r))/\nt H6 ta=some (.lst (tV TT))/\nt H6 l=some (.lst (ys++[.ref lt]))/\nt H6 lt=some (.tup [.ref ra,.ref ta])/\nt H6 ba=some (.lst (tV r'))/\ys.length+1=L.length/\TT.length=G.length/\Jc G L r (dE TT)/\DN G r (dE TT) r',
  ⟨_,ra,ta,lt,ba,[R],R,TT,r',[],rfl,rfl,S4.trans S5,ND,S5 _ _ QP,S5 _ _ ZU,S5 _ _ Nw,S5 _ _ SK,hb,rfl,tl,.start rl0 N,bt⟩,λm σ H6 h=>?_⟩
 clear S4 QP ZU EX SK Nw S5 ND hb0 hb bt body tl N rl0
 obtain⟨ra,ta,lt,ba,L,r,TT,r',ys,rfl,rfl,S6,P2,ZR,ht6,ZI,act,Wn,yl,tl,ch,bt⟩:=h
 refine⟨_,rfl,_,rfl,r',r,rOL (cG _ _ Wn),rOL (cG _ _ ZR),_,rfl,?_⟩
 refine iO (λc=>?_) (λc=>?_)
 ·have ne:r'≠r:=λz=>by rw[z] at c;simp at c
  refine⟨λσ H9=>∃ (ra ta lt ba:ah) (L':List (List (Option Int))) (r TT r':List (Option Int)) (ys:List V),L'.length=L.length+1/\σ=[some (.ref a),some (.ref ra),some (.ref ta),some (.ref l),some (.ref ba)]/\Sm H2 H9/\qi K H9/\nt H9 ra=some (.lst (tV r))/\nt H9 ta=some (.lst (tV TT))/\nt H9 l=some (.lst (ys++[.ref lt]))/\nt H9 lt=some (.tup [.ref ra,.ref ta])/\nt H9 ba=some (.lst (tV r'))/\ys.length+1=L'.length/\TT.length=G.length/\Jc G L' r (dE TT)/\DN G r (dE TT) r',λσ' H9 h=>?_,?_⟩
  ·obtain⟨ra,ta,lt,ba,L',r,TT,r',ys,e,rfl,h1,h2,h3,h4,h5,h6,h7,h8,h9,Wg,h11⟩:=h
   have:=cM _ _ _ Wg
   exact⟨M-L'.length,by omega,ra,ta,lt,ba,L',r,TT,r',ys,rfl,rfl,h1,h2,h3,h4,h5,h6,h7,h8,h9,Wg,h11⟩
  refine⟨_,rfl,_,rfl,_,rfl,.ref a,G,ba,r',rfl,lJ.up S6 hv,Wn,g,bt.rule,yP,oR,P2,λP1 TT' H7 S7 UI ht0 ht7 tl7 N7=>?_⟩
  have ch':=Jc.next ch bt ne N7
  have lM:=cM _ _ _ ch'
  have lM:L.length+1<=M:=lM
  have Vd:=S7 _ _ ZI
  refine⟨_,rfl,.inl ⟨rfl,_,bI.of (cG _ _ Vd)⟩,_,rfl,_,rfl,(by show 2<=aL;decide),λadR WR=>?_⟩
  have s8:=az WR (.tup [V.ref ba,V.ref P1])
  have Os:nt (upd H7 adR (.tup [V.ref ba,V.ref P1])) adR=some (.tup [V.ref ba,V.ref P1]):=wE ar
  have S8:=(S6.trans S7).trans (Sm.of s8)
  have YW:=UI.up s8
  have Zx:=(S7.trans (Sm.of s8)) _ _ Wn
  have ZV:=(Sm.of s8) _ _ ht7
  have QM:=(Sm.of s8) _ _ Vd
  generalize upd H7 adR (.tup [V.ref ba,V.ref P1])=H8 at Os S8 YW Zx ZV QM ⊢
  clear WR s8 S7 UI ht0 ht7 Vd
  have n1:ba≠l:=λz=>by
   rw[z,QM] at Zx
   injection Zx with e
   injection e with e
   exact Re e
  have n2:P1≠l:=λz=>by
   rw[z,QM] at ZV
   injection ZV with e
   injection e with e
   exact Re e
  have n3:adR≠l:=λz=>by
   rw[z,QM] at Os
   injection Os with e
   cases e
  refine⟨l,ys++[.ref lt],_,rfl,rfl,cG _ _ QM,by rw[aJ];show ys.length+1<16777216;omega,?_⟩
  have Oq:nt (upd H8 l (.lst ((ys++[V.ref lt])++[V.ref adR]))) l=some (.lst ((ys++[V.ref lt])++[V.ref adR])):=iP ar
  have S9:Sm H2 (upd H8 l (.lst ((ys++[V.ref lt])++[V.ref adR]))):=S8.put hln _
  have tb9:qi K (upd H8 l (.lst ((ys++[V.ref lt])++[V.ref adR]))):=YW.put (cG _ _ QM)
  have hb9:nt (upd H8 l (.lst ((ys++[V.ref lt])++[V.ref adR]))) ba=some (.lst (tV r')):=by rw[ut n1];exact Zx
  have ht9:nt (upd H8 l (.lst ((ys++[V.ref lt])++[V.ref adR]))) P1=some (.lst (tV TT')):=by rw[ut n2];exact ZV
  have WT:nt (upd H8 l (.lst ((ys++[V.ref lt])++[V.ref adR]))) adR=some (.tup [V.ref ba,V.ref P1]):=by rw[ut n3];exact Os
  generalize upd H8 l (.lst ((ys++[V.ref lt])++[V.ref adR]))=H9 at Oq S9 tb9 hb9 ht9 WT ⊢
  refine⟨_,rfl,_,rfl,_,rfl,.ref a,G,ba,P1,r',TT',rfl,lJ.up S9 hv,hb9,ht9,g,bt.rule,tl7,yP,oR,tb9,λbb r'' H10 VN aex hb0 abU abi=>?_⟩
  exact⟨ba,P1,adR,bb,r'::L,r',TT',r'',ys++[.ref lt],rfl,rfl,S9.trans VN,aex,VN _ _ hb9,VN _ _ ht9,VN _ _ Oq,VN _ _ WT,abU,by rw[aJ];show ys.length+1+1=L.length+1;omega,tl7,ch',abi⟩
 ·have e:r'=r:=by
   by_cases z:r'=r
   ·exact z
   ·exact absurd (by rw[decide_eq_false z];rfl) c
  rw[e] at bt
  exact⟨_,rfl,q l lt ra ta ys r TT H6 S6 P2 ZI act ZR ht6 ch.rl tl ch.nds bt⟩
def VO (G:List cw) (T ws:List (Option Int)):Prop:=∃ r,T.length=G.length/\Ac G r/\uH (eG G r) G.length (dE T)/\DN G r (dE T) r/\ws.length=G.length/\∀ (i:Nat) row,G[i]?=some row->(row.1=0/\dE T (i:Int)≠none->∃ w∈row.2,(∀ w'∈row.2,fP (a0a (dE T) w) (a0a (dE T) w'))/\ws[i]?=some (some w.1))/\(¬ (row.1=0/\dE T (i:Int)≠none)->ws[i]?=r[i]?)
def Mu (K:ak):Sp:=λvs H Q _=>∃ (v:V) (G:List cw),vs=[v]/\IF (nt H) G v/\vv G/\G.length<=16/\(∀ row∈G,row.2.length<=100)/\Vw G/\qi K H/\∀ (t ta wa:ah) (T ws:List (Option Int)) (H':Hp),Sm H H'->qi K H'->nt H' t=some (.tup [.ref ta,.ref wa])->nt H' ta=some (.lst (tV T))->nt H' wa=some (.lst (tV ws))->VO G T ws->Q (.ref t) H'
theorem O9 (F:bz K mg "solved_purses" iz ["game"]) (T:Txt mg) (zQ:Dn P w K mg base "betterings" 7 ["game"] (Mm K)) (m3:Dn P w K mg base "least_needy" 4 ["ways","purses"] (Mo K false)):Dn P w K mg base "solved_purses" 8 ["game"] (Mu K):=by
 have sc:=uB
 refine F.ok sc (λvs H Q E h=>?_) (λf dk A outer s H vs Q E hr h=>?_)
 ·obtain⟨_,_,rfl,_⟩:=h;rfl
 obtain⟨v,G,rfl,hv,g,yP,oR,cb,tb,q⟩:=h
 obtain⟨a,us,rfl,ha,ul,xr⟩:=mq hv
 refine⟨_,(au (bP (i:=1) sc.nd rfl (bi rfl) (bM (lA (K:=K) rfl) (cO zQ hr (af (pv 0) av)) (LQ EZ aK) (λ_ _=>rfl)))
   (au (bP (i:=2) sc.nd rfl (bi rfl) (bM (mQ (K:=K) rfl) (pv 1) aK (λ_ _=>rfl)))
   (au (bP (i:=3) sc.nd rfl (bi rfl) (bM (mQ (K:=K) rfl) (pv 1) aK (λ_ _=>rfl)))
   (au (bP (i:=4) sc.nd rfl (bi rfl) (fb av))
   (au (eS bn rfl (Pg (K:=K) rfl rfl T.yC (af (pv 0) (af (pv 2) (af (pv 3) av)))) (ml rfl (dN (cE (i:=5) sc.nd rfl (bi rfl)) (dN (cE (i:=6) sc.nd rfl (bi rfl)) (dN (cE (i:=7) sc.nd rfl (bi rfl)) j5))))
   (aG (fo (PW.pt (a0i (dG md (bM (mQ (K:=K) rfl) (pv 5) aK (λ_ _=>rfl)) aK (dM _)) (a0g (iQ (F4 (pv 7))))))
   (aG (cz (jp aW aX aY dv (pv 4) (af (bM (mQ (K:=K) rfl) (cO m3 hr (af (bM (mQ (K:=K) rfl) (pv 5) aK (λ_ _=>rfl)) (af (pv 3) av))) aK (λ_ _=>rfl)) av))))
   (aG (cz (jp aW aX aY dv (pv 4) (af (pv 6) av)))))))
   (aG (cP (jF (af (pv 3) (af (pv 4) av)))))))))),?_⟩
 refine⟨_,rfl,.ref a,G,rfl,hv,g,yP,oR,cb,tb,λl lt ra ta ys r TT H1 S1 MF oJ WS Ea FH rl tl N bt=>?_⟩
 refine⟨1,rfl,l,_,_,_,rfl,rfl,bI.of (cG _ _ oJ),N1,?_⟩
 refine⟨_,rfl,lt,_,_,_,rfl,rfl,gJ.of (cG _ _ WS),bV (j:=0) rfl,?_⟩
 refine⟨_,rfl,lt,_,_,_,rfl,rfl,gJ.of (cG _ _ WS),bV (j:=1) rfl,?_⟩
 refine⟨bE _,λwa rC=>?_⟩
 have s2:=az rC (.lst [])
 have Z1:nt H1 wa=none:=sK rC
 have S2:=Sm.of s2
 have Ra:=MF.up s2
 have oM:upd H1 wa (.lst []) wa=some (.lst (tV [])):=ar
 generalize upd H1 wa (.lst [])=H2 at S2 Ra oM ⊢
 clear s2
 have ha1:=S1 _ _ ha
 refine⟨_,rfl,_,rfl,_,rfl,a,ra,ta,rfl,⟨_,bI.of (S2.lst ha1)⟩,⟨_,bI.of (S2.lst Ea)⟩,⟨_,bI.of (S2.lst FH)⟩,Kf (K:=K) (a:=a) (b:=ra) (d:=ta) (xs:=us) (ys:=tV r) (zs:=tV TT) (by rw[jd,ul,rl.1]) (by rw[jd,ul,tl]) (λi σ H3=>∃ (ws:List (Option Int)) (y1 y2 y3:Option V),σ=[some (.ref a),some (.ref lt),some (.ref ra),some (.ref ta),some (.ref wa),y1,y2,y3]/\Sm H1 H3/\qi K H3/\H3 wa=some (.lst (tV ws))/\ws.length=i/\∀ j row,j<i->G[j]?=some row->(row.1=0/\dE TT (j:Int)≠none->∃ w∈row.2,(∀ w'∈row.2,fP (a0a (dE TT) w) (a0a (dE TT) w'))/\ws[j]?=some (some w.1))/\(¬ (row.1=0/\dE TT (j:Int)≠none)->ws[j]?=r[j]?))
  ⟨[],_,_,_,rfl,S2,Ra,oM,rfl,λj row hj=>absurd hj (mE j)⟩ (λi σ H3 _ h=>?_) (λi x y z σ H3 tt hx hy hz h KP=>?_) (λσ H3 h=>?_)⟩
 ·obtain⟨_,_,_,_,_,S3,_⟩:=h
  exact⟨bI.of (S3.lst ha1),bI.of (S3.lst Ea),bI.of (S3.lst FH)⟩
 ·clear S2 Ra oM
  obtain⟨ws,y1,y2,y3,rfl,S3,DJ,yU,Y4,h⟩:=h
  have il:i<G.length:=by rw[← ul];exact (ag.mp hx).1
  have eU:=ao il
  have gk:=g _ (cA il)
  obtain⟨t,wl,hu,ht,hw⟩:=xr i _ eU
  generalize G[i]=row at eU gk ht hw
  rw[hx] at hu
  injection hu with hu
  subst hu
  obtain⟨o,ho,rfl⟩:=Do hy
  obtain⟨u,hu,rfl⟩:=Do hz
  have FH:=S1 _ _ ht
  have nT:=eV.up S1 hw
  have eu:dE TT (i:Int)=u:=by rw[P3,hu];rfl
  have s4:=az KP (.tup [V.ref t,oV o,oV u])
  have S4:=S3.trans (Sm.of s4)
  have EX:=DJ.up s4
  have BL:=s4 _ _ yU
  refine⟨tt,_,rfl,gJ.of ar,rfl,_,_,rfl,_,_,rfl,_,_,rfl,rfl,?_⟩
  generalize upd H3 tt (.tup [V.ref t,oV o,oV u])=H4 at S4 EX BL ⊢
  clear S3 DJ yU s4 KP
  have fin:∀ (p:Option Int) (H5:Hp) (y1 y2 y3:Option V),Sm H1 H5->qi K H5->H5 wa=some (.lst (tV ws))->((row.1=0/\u≠none->∃ w∈row.2,(∀ w'∈row.2,fP (a0a (dE TT) w) (a0a (dE TT) w'))/\p=some w.1)/\(¬ (row.1=0/\u≠none)->p=o))->∃ (ws':List (Option Int)) (z1 z2 z3:Option V),[some (V.ref a),some (.ref lt),some (.ref ra),some (.ref ta),some (.ref wa),y1,y2,y3]=[some (V.ref a),some (.ref lt),some (.ref ra),some (.ref ta),some (.ref wa),z1,z2,z3]/\Sm H1 (upd H5 wa (.lst (tV ws++[oV p])))/\qi K (upd H5 wa (.lst (tV ws++[oV p])))/\upd H5 wa (.lst (tV ws++[oV p])) wa=some (.lst (tV ws'))/\ws'.length=i+1/\∀ j row,j<i+1->G[j]?=some row->(row.1=0/\dE TT (j:Int)≠none->∃ w∈row.2,(∀ w'∈row.2,fP (a0a (dE TT) w) (a0a (dE TT) w'))/\ws'[j]?=some (some w.1))/\(¬ (row.1=0/\dE TT (j:Int)≠none)->ws'[j]?=r[j]?):=λp H5 y1 y2 y3 S5 ND KR hp=>by
   refine⟨ws++[p],y1,y2,y3,rfl,S5.put Z1 _,ND.put KR,by rw[ar,tf],by rw[aJ,Y4];rfl,λj Bb hj AB=>?_⟩
   rcases cY j i with c | c
   ·rw[b9 (by omega)];exact h j Bb c AB
   ·have:j=i:=by omega
    subst this
    rw[eU] at AB
    cases AB
    rw[sW Y4,eu,ho]
    exact⟨λz=>by obtain⟨w,k1,k2,k3⟩:=hp.1 z;exact⟨w,k1,k2,by rw[k3]⟩,λz=>by rw[hp.2 z]⟩
  refine⟨_,rfl,t,_,_,_,rfl,rfl,gJ.of (S4.tup FH),bV (j:=0) rfl,rfl,_,rfl,?_⟩
  have wll:(tV ws).length<=1000:=by rw[jd];omega
  refine iO (λc=>?_) (λc=>?_)
  ·have c:row.1=0:=by have:=of_decide_eq_true c;injection this
   refine⟨_,rfl,_,rfl,?_⟩
   cases u with
   | none =>
    refine eJ ?_
    exact⟨_,rfl,.inl ⟨rfl,_,bI.of BL⟩,_,rfl,wa,_,_,rfl,rfl,BL,mK (m:=1000) wll,fin o H4 _ _ _ S4 EX BL ⟨λz=>absurd rfl z.2,λ_=>rfl⟩⟩
   | some u =>
    refine jc ?_
    have rg:∀ y∈row.2,0<=y.1/\y.1<TT.length:=λy hy=>by have:=gk.2.2 y hy;omega
    refine⟨_,rfl,.inl ⟨rfl,_,bI.of BL⟩,_,rfl,t,_,_,_,rfl,rfl,gJ.of (S4.tup FH),bV (j:=1) rfl,_,rfl,.ref wl,ta,row.2,TT,rfl,eV.up S4 nT,S4 _ _ ‹nt H1 ta=_›,gk.1,rg,EX,λwt wy H5 S5 ND FI best OA=>?_⟩
    have KR:=S5.lst (iP BL)
    refine⟨wt,_,_,_,rfl,rfl,gJ.of (cG _ _ OA),bV (j:=0) rfl,wa,_,_,rfl,rfl,KR,mK (m:=1000) wll,fin (some wy.1) H5 _ _ _ (S4.trans S5) ND KR ⟨λ_=>⟨wy,FI,λw' oU=>?_,rfl⟩,λz=>absurd ⟨c,λz=>by cases z⟩ z⟩⟩
    have:=best w' oU
    rwa [if_neg (by decide)] at this
  ·have c:¬ row.1=0:=λz=>c (decide_eq_true (by rw[z]))
   refine eJ ?_
   exact⟨_,rfl,.inl ⟨rfl,_,bI.of BL⟩,_,rfl,wa,_,_,rfl,rfl,BL,mK (m:=1000) wll,fin o H4 _ _ _ S4 EX BL ⟨λz=>absurd z.1 c,λ_=>rfl⟩⟩
 ·obtain⟨ws,y1,y2,y3,rfl,S3,DJ,yU,Y4,h⟩:=h
  rw[ul] at Y4 h
  refine⟨_,rfl,_,rfl,(by show 2<=aL;decide),λt ht=>?_⟩
  have s4:=az ht (.tup [V.ref ta,V.ref wa])
  exact q t ta wa TT ws _ ((S1.trans S3).trans (Sm.of s4)) (DJ.up s4) (wE ar) ((S3.trans (Sm.of s4)) _ _ FH) (iP (s4 _ _ yU)) ⟨r,tl,rl,N,bt,Y4,λi row eU=>h i row (ag.mp eU).1 eU⟩
def wO {α:Type}:List (List α)->List (List α)
 | []=>[[]]
 | A::As=>(wO As).flatMap λl=>A.map λa=>a::l
theorem zd {α:Type}:∀ {As:List (List α)} {r:List α},r.length=As.length->(∀ (i:Nat) A a,As[i]?=some A->r[i]?=some a->a∈A)->r∈wO As
 | [],[],_,_=>aP
 | A::As,a::r,hl,h=>Qs.mpr ⟨r,zd (by simpa using hl) λi A a h1 h2=>h (i+1) A a h1 h2,bL.mpr ⟨a,h 0 A a rfl rfl,rfl⟩⟩
 | [],_::_,hl,_=>by simp at hl
 | _::_,[],hl,_=>by simp at hl
theorem Cs {α β:Type} {f:α->List β} {k:Nat}:∀ {l:List α},(∀ x,(f x).length<=k)->(l.flatMap f).length<=l.length*k
 | [],_=>by simp
 | x::l,h=>by
  have:=Cs (l:=l) h
  have:=h x
  rw[List.flatMap_cons,aJ,bK,aaW];omega
theorem zk {α:Type} {k:Nat}:∀ {As:List (List α)},(∀ A∈As,A.length<=k)->(wO As).length<=k ^ As.length
 | [],_=>by simp[wO]
 | A::As,h=>by
  have h1:=zk (As:=As) λB hB=>h B (bc _ hB)
  have h2:=h A aP
  have h3:=Cs (f:=λl:List α=>A.map λa=>a::l) (k:=k) (l:=wO As) λx=>by rw[aj];exact h2
  exact cq h3 (by rw[bK,Nat.pow_succ];exact Nat.mul_le_mul_right _ h1)
def LF (row:cw):List (Option Int):=if row.1=1 then row.2.map λw=>some w.1 else [none]
theorem Pt {A:List cw} {r:List (Option Int)} (h:Ac A r):r∈wO (A.map LF):=by
 refine zd (by rw[aj];exact h.1) λi B a h1 h2=>?_
 rw[aB] at h1
 obtain⟨row,hr,rfl⟩:=dY.mp h1
 unfold LF
 split
 ·rename_i e
  obtain⟨w,hw,h3⟩:=(h.2 i row hr).2 e
  rw[h2] at h3
  cases h3
  exact bL.mpr ⟨w,hw,rfl⟩
 ·rename_i e
  have h3:=(h.2 i row hr).1 e
  rw[h2] at h3
  cases h3
  exact be.mpr rfl
def VT (A:List cw):List (Option Int):=none::A.flatMap λrow=>row.2.map λw=>some w.1
theorem L7 {A:List cw} {r:List (Option Int)} (h:Ac A r):∀ a∈r,a∈VT A:=λa ha=>by
 obtain⟨i,hi⟩:=cg ha
 have il:i<A.length:=by rw[← h.1];exact (ag.mp hi).1
 rcases sQ h (ao il) with ⟨e,_⟩ | ⟨w,hw,e,_⟩
 ·rw[hi] at e;cases e;exact aP
 ·rw[hi] at e
  injection e with e
  subst e
  exact bc _ (Qs.mpr ⟨_,cA il,bL.mpr ⟨w,hw,rfl⟩⟩)
theorem N5 {A:List cw} (g:vv A):∀ {L:List (List (Option Int))} {r:List (Option Int)} {T:Tb},Jc A L r T->Rq (eG A) A.length (VT A) L T/\∀ r'∈L,Ac A r':=λh=>by
 induction h with
 | start rl N=>exact⟨Rq.start rl.1 (L7 rl) (vC g rl) N,λr' hr=>by rw[be.mp hr];exact rl⟩
 | next c b ne N' ih =>
  obtain⟨hb,hm⟩:=b.more g c.rl c.nds N' ne
  exact⟨ih.1.next b.rule.1 (L7 b.rule) (vC g b.rule) N' hb hm,λr' hr=>by
   rcases aE.mp hr with e | e
   ·rw[e];exact b.rule
   ·exact ih.2 r' e⟩
theorem R4 {A:List cw} (g:vv A) {k M:Nat} (hk:∀ row∈A,row.2.length<=k) (k1:1<=k) (hM:k ^ A.length<=M) (h24:M<16777216):Vw A:=by
 refine⟨M,h24,λL r T h=>?_⟩
 obtain⟨b,rl⟩:=N5 g h
 have h1:=wB L (wO (A.map LF)) b.1 λr hr=>Pt (rl r hr)
 have h2:=zk (As:=A.map LF) (k:=k) λB hB=>by
  obtain⟨row,hr,rfl⟩:=bL.mp hB
  unfold LF
  split
  ·rw[aj];exact hk row hr
  ·exact k1
 rw[aj] at h2
 omega
def Bu:Sp:=λvs H Q _=>∃ (z n:Int),vs=[.int z,.int n]/\0<=z/\z<n/\Q .e8 H
theorem Lx (F:bz K mg "check_start" jt ["start","count"]) (T:Txt mg) (qU:Dn P w K mg base "is_place" 2 ["value","count"] Bs):Dn P w K mg base "check_start" 3 ["start","count"] Bu:=by
 have sc:=wV
 refine F.ok sc (λvs H Q E h=>?_) (λf dk A outer s H vs Q E hr h=>?_)
 ·obtain⟨_,_,rfl,_⟩:=h;rfl
 obtain⟨z,n,rfl,z0,z1,q⟩:=h
 refine⟨_,(aG (fo (mm (f9 (cO qU hr (af (pv 0) (af (pv 1) av)))))
   (aG pY)
   dq)),?_⟩
 refine⟨_,rfl,_,rfl,z,n,rfl,?_⟩
 rw[decide_eq_true (⟨z0,z1⟩:0<=z/\z<n)]
 exact⟨_,rfl,eJ q⟩
def Ad (G:List cw) (T ws r:List (Option Int)):Prop:=T.length=G.length/\Ac G r/\uH (eG G r) G.length (dE T)/\DN G r (dE T) r/\ws.length=G.length/\∀ (i:Nat) row,G[i]?=some row->(row.1=0/\dE T (i:Int)≠none->∃ w∈row.2,(∀ w'∈row.2,fP (a0a (dE T) w) (a0a (dE T) w'))/\ws[i]?=some (some w.1))/\(¬ (row.1=0/\dE T (i:Int)≠none)->ws[i]?=r[i]?)
def RH (T:Tb) (W:Lf) (h:Int):Int->Wy->Prop:=λx w=>if h=0 then fP (a0a T w) (T x)/\T x≠none else w∈gS W x/\T x≠some 0
def Qm (T:Tb) (h x c:Int):Prop:=if h=0 then fP (T x) (some c) else ¬ fP (T x) (some c)
theorem K1 {o:Option Int} {c:Int} (h:fP o (some c)):∃ v,o=some v/\v<=c:=by
 cases o with
 | none=>exact h.elim
 | some v=>exact⟨v,rfl,h⟩
theorem GM {ws:List Wy} (nd:(ws.map (·.1)).Nodup) {x y:Wy} (hx:x∈ws) (hy:y∈ws) (e:x.1=y.1):x=y:=by
 induction ws with
 | nil=>cases hx
 | cons z ws ih =>
  rw[dg,dc] at nd
  rcases aE.mp hx with a | a <;> rcases aE.mp hy with b | b
  ·rw[a,b]
  ·exact absurd (by rw[← a,e];exact bL.mpr ⟨y,b,rfl⟩) nd.1
  ·exact absurd (by rw[← b,← e];exact bL.mpr ⟨x,a,rfl⟩) nd.1
  ·exact ih nd.2 a b
section
variable {G:List cw} {T ws r:List (Option Int)}
theorem Ad.way (g:vv G) (s:Ad G T ws r) {i:Nat} {row:cw} (hr:G[i]?=some row) (ht:dE T (i:Int)≠none):(row.1=0->∃ w∈row.2,ws[i]?=some (some w.1)/\fP (a0a (dE T) w) (dE T (i:Int)))/\(row.1=1->∀ w∈row.2,fP (a0a (dE T) w) (dE T (i:Int))):=by
 obtain⟨tl,rl,N,bt,wl,h⟩:=s
 have il:=(ag.mp hr).1
 refine⟨λe=>?_,λe w hw=>bt.last g N hr e hw⟩
 obtain⟨w,hw,best,Js⟩:=(h i row hr).1 ⟨e,ht⟩
 refine⟨w,hw,Js,?_⟩
 cases et:dE T (i:Int) with
 | none=>exact absurd et ht
 | some v =>
  obtain⟨w',oU,hle⟩:=N.way (i:Int) v (by omega) (by omega) et
  rw[nV rl hr (by rw[e];decide)] at oU
  exact (best w' oU).trans hle
theorem Ad.spend (g:vv G) (s:Ad G T ws r) {i:Nat} {row:cw} (hr:G[i]?=some row) (e:row.1=1):∃ w∈row.2,ws[i]?=some (some w.1)/\r[i]?=some (some w.1):=by
 obtain⟨w,hw,h⟩:=(s.2.1.2 i row hr).2 e
 exact⟨w,hw,by rw[(s.2.2.2.2.2 i row hr).2 (by rw[e];exact λz=>absurd z.1 (by decide)),h],h⟩
theorem Ad.told (g:vv G) (s:Ad G T ws r) {h c:Int} (n4:h=0\/h=1) {i:Nat} {row:cw} (hr:G[i]?=some row) (gd:Qm (dE T) h (i:Int) c) (e:row.1=h):∃ w∈row.2,ws[i]?=some (some w.1):=by
 rcases n4 with z | z
 ·subst z
  obtain⟨v,hv,_⟩:=K1 (show fP (dE T (i:Int)) (some c) from gd)
  obtain⟨w,hw,h1,_⟩:=(s.way g hr (by rw[hv];exact λz=>by cases z)).1 e
  exact⟨w,hw,h1⟩
 ·subst z
  obtain⟨w,hw,h1,_⟩:=s.spend g hr e
  exact⟨w,hw,h1⟩
theorem Ad.step (g:vv G) (hh:∀ row∈G,row.1=0\/row.1=1) (s:Ad G T ws r) {h c:Int} (n4:h=0\/h=1) {i:Nat} {row:cw} (hr:G[i]?=some row) (gd:Qm (dE T) h (i:Int) c) (c0:0<=c) {w:Wy} (hw:w∈row.2) (ho:row.1=h->ws[i]?=some (some w.1)):RH (dE T) (eG G r) h (i:Int) w/\Qm (dE T) h w.1 (c+w.2):=by
 have nd:=(g row (am hr)).2.1
 have il:=(ag.mp hr).1
 have o:=hh row (am hr)
 rcases n4 with z | z
 ·subst z
  obtain⟨v,hv,vc⟩:=K1 (show fP (dE T (i:Int)) (some c) from gd)
  have tn:dE T (i:Int)≠none:=by rw[hv];exact λz=>by cases z
  have le:fP (a0a (dE T) w) (dE T (i:Int)):=by
   rcases o with o | o
   ·obtain⟨w',oU,h1,h2⟩:=(s.way g hr tn).1 o
    have:=ho o
    rw[h1] at this
    have e:w'.1=w.1:=by injection this with this;injection this
    rw[← GM nd oU hw e];exact h2
   ·exact (s.way g hr tn).2 o w hw
  obtain⟨v',e',Xg⟩:=Ih le hv vc
  refine⟨?_,?_⟩
  ·unfold RH;rw[if_pos rfl];exact⟨le,tn⟩
  ·unfold Qm;rw[if_pos rfl,e'];exact Xg
 ·subst z
  have gd:¬ fP (dE T (i:Int)) (some c):=gd
  have tn:dE T (i:Int)≠some 0:=λz=>gd (by rw[z];exact c0)
  have wo:w∈gS (eG G r) (i:Int):=by
   rcases o with o | o
   ·rw[nV s.2.1 hr (by rw[o];decide)];exact hw
   ·obtain⟨w',oU,h1,h2⟩:=s.spend g hr o
    have:=ho o
    rw[h1] at this
    have e:w'.1=w.1:=by injection this with this;injection this
    rw[jD g hr oU h2,GM nd oU hw e];exact be.mpr rfl
  refine⟨?_,?_⟩
  ·unfold RH;rw[if_neg (by decide)];exact⟨wo,tn⟩
  ·unfold Qm;rw[if_neg (by decide)]
   exact EV (s.2.2.1.low (i:Int) (by omega) (by omega) w wo) c0 gd
end
abbrev qZ:List aT:=["hand","at","left","rule","owners","amounts"]
structure Jg (fl:List (aT × V)) (h p c:Int) (ra oa ma:ah) (m:Nat):Prop where
 hand:fl.lookup ("hand" : aT)=some (.int h)
 at_:fl.lookup ("at" : aT)=some (.int p)
 left:fl.lookup ("left" : aT)=some (.int c)
 rule:fl.lookup ("rule" : aT)=some (.ref ra)
 own:fl.lookup ("owners" : aT)=some (.ref oa)
 Cd:fl.lookup ("amounts" : aT)=some (.ref ma)
 go:fl.lookup ("go" : aT)=none
 oth:fl.lookup ("other" : aT)=none
 Yd:fl.lookup ("pass_on" : aT)=none
 len:fl.length<=m
theorem Jg.Uh {fl:List (aT × V)} {h p c:Int} {ra oa ma:ah} {m:Nat} (f:Jg fl h p c ra oa ma m) (q:Int):Jg (bZ "at" (.int q) fl) h q c ra oa ma (m+1):=by
 have no:∀ (k:aT) (o:Option V),¬ k = "at" -> fl.lookup k=o->(bZ "at" (.int q) fl).lookup k=o:=λk o h e=>by rw[aQ,if_neg h];exact e
 exact⟨no _ _ (by decide +kernel) f.hand,by rw[aQ,if_pos rfl],no _ _ (by decide +kernel) f.left,no _ _ (by decide +kernel) f.rule,no _ _ (by decide +kernel) f.own,no _ _ (by decide +kernel) f.Cd,no _ _ (by decide +kernel) f.go,no _ _ (by decide +kernel) f.oth,no _ _ (by decide +kernel) f.Yd,by have:=jK "at" (.int q) fl;have:=f.len;omega⟩
theorem Jg.putL {fl:List (aT × V)} {h p c:Int} {ra oa ma:ah} {m:Nat} (f:Jg fl h p c ra oa ma m) (d:Int):Jg (bZ "left" (.int d) fl) h p d ra oa ma (m+1):=by
 have no:∀ (k:aT) (o:Option V),¬ k = "left" -> fl.lookup k=o->(bZ "left" (.int d) fl).lookup k=o:=λk o h e=>by rw[aQ,if_neg h];exact e
 exact⟨no _ _ (by decide +kernel) f.hand,no _ _ (by decide +kernel) f.at_,by rw[aQ,if_pos rfl],no _ _ (by decide +kernel) f.rule,no _ _ (by decide +kernel) f.own,no _ _ (by decide +kernel) f.Cd,no _ _ (by decide +kernel) f.go,no _ _ (by decide +kernel) f.oth,no _ _ (by decide +kernel) f.Yd,by have:=jK "left" (.int d) fl;have:=f.len;omega⟩
theorem Sd (h p c:Int) (ra oa ma:ah):Jg (bZ "amounts" (.ref ma) (bZ "owners" (.ref oa) (bZ "rule" (.ref ra) (bZ "left" (.int c) (bZ "at" (.int p) (bZ "hand" (.int h) [])))))) h p c ra oa ma 6:=by
 have l:∀ k:aT,(bZ "amounts" (.ref ma) (bZ "owners" (.ref oa) (bZ "rule" (.ref ra) (bZ "left" (.int c) (bZ "at" (.int p) (bZ "hand" (.int h) [])))))).lookup k=if k = "amounts" then some (.ref ma) else if k = "owners" then some (.ref oa) else if k = "rule" then some (.ref ra) else if k = "left" then some (.int c) else if k = "at" then some (.int p) else if k = "hand" then some (.int h) else none:=λk=>by
  rw[aQ,aQ,aQ,aQ,aQ,aQ];rfl
 refine⟨?_,?_,?_,?_,?_,?_,?_,?_,?_,aA 6⟩ <;> rw[l]
 ·rw[if_neg (by decide +kernel),if_neg (by decide +kernel),if_neg (by decide +kernel),if_neg (by decide +kernel),if_neg (by decide +kernel),if_pos rfl]
 ·rw[if_neg (by decide +kernel),if_neg (by decide +kernel),if_neg (by decide +kernel),if_neg (by decide +kernel),if_pos rfl]
 ·rw[if_neg (by decide +kernel),if_neg (by decide +kernel),if_neg (by decide +kernel),if_pos rfl]
 ·rw[if_neg (by decide +kernel),if_neg (by decide +kernel),if_pos rfl]
 ·rw[if_neg (by decide +kernel),if_pos rfl]
 ·rw[if_pos rfl]
 all_goals rw[if_neg (by decide +kernel),if_neg (by decide +kernel),if_neg (by decide +kernel),if_neg (by decide +kernel),if_neg (by decide +kernel),if_neg (by decide +kernel)]
structure Qw (B:Hp) (G:List cw) (ws:List (Option Int)) (ra oa ma:ah):Prop where
 rule:B ra=some (.lst (tV ws))
 own:B oa=some (.lst ((G.map (·.1)).map V.int))
 Cd:∃ us,B ma=some (.lst us)/\us.length=G.length/\∀ (i:Nat) row,G[i]?=some row->∃ d,us[i]?=some (.ref d)/\B d=some (.dK (DC row.2))
theorem Qw.up {B B':Hp} {G:List cw} {ws:List (Option Int)} {ra oa ma:ah} (d:Qw B G ws ra oa ma) (s:bh B B'):Qw B' G ws ra oa ma:=by
 obtain⟨h1,h2,us,h3,h4,h5⟩:=d
 exact⟨s _ _ h1,s _ _ h2,us,s _ _ h3,h4,λi row hr=>by
  obtain⟨d,e1,e2⟩:=h5 i row hr
  exact⟨d,e1,s _ _ e2⟩⟩
variable {R:ah}
abbrev V5 (fl:List (aT × V)) (c q:Int):List (aT × V):=bZ "at" (.int q) (bZ "left" (.int c) fl)
def ES (R:ah):Sp:=λvs H Q _=>∃ (x dx:ah) (fl:List (aT × V)) (G:List cw) (ws:List (Option Int)) (h c:Int) (i:Nat) (row:cw) (w:Wy) (ra oa ma:ah) (m:Nat),vs=[.ref x,.int w.1]/\H x=some (.ins R dx fl)/\Jg fl h (i:Int) c ra oa ma m/\m<900/\Qw H G ws ra oa ma/\vv G/\G[i]?=some row/\w∈row.2/\Q .e8 (upd H x (.ins R dx (V5 fl (c+w.2) w.1)))
theorem O7 (F:iG K R "pass_on" "PursePlay.pass_on" fz ["self","place"]) (T:Txt mg) (ay:ClsAt K mg "PursePlay" R qZ):xI P w K mg base R "pass_on" 1 ["self","place"] (ES R):=by
 have sc:=qc
 refine F.ok sc (λvs H Q E h=>?_) (λf dk A outer s H vs Q E hr h=>?_)
 ·obtain⟨_,_,_,_,_,_,_,_,_,_,_,_,_,_,rfl,_⟩:=h;rfl
 obtain⟨x,dx,fl,G,ws,h,c,i,row,w,ra,oa,ma,m,rfl,hx,hF,hm,hD,g,FG,hw,q⟩:=h
 have hl:=hF.len
 obtain⟨us,hu,ul,Tc⟩:=hD.Cd
 obtain⟨d,hd1,hd2⟩:=Tc i row FG
 have nd:=(g row (am FG)).2.1
 have a1:o6 us (i:Int)=some (.ref d):=gq (by omega) hd1
 have oJ:=jK "left" (.int (c+w.2)) fl
 refine⟨_,(au (EG (K:=K) rfl (pv 0) (AT (AD hr 1) (bM (lA (K:=K) rfl) (bW (K:=K) rfl (pv 0) rfl) (bW (K:=K) rfl (pv 0) rfl) (λ_ _=>rfl)) (pv 1) (λ_ _=>rfl)) Ts)
   (aG (fU (K:=K) rfl (pv 0) (pv 1) rfl))),?_⟩
 refine⟨_,rfl,x,R,dx,fl,_,rfl,hx,ay.cl,ay.na _ (by decide +kernel),hF.left,?_⟩
 refine⟨_,rfl,x,R,_,_,_,rfl,hx,ay.cl,ay.na _ (by decide +kernel),hF.Cd,_,rfl,x,R,_,_,_,rfl,hx,ay.cl,ay.na _ (by decide +kernel),hF.at_,ma,_,_,_,rfl,rfl,bI.of hu,a1,?_⟩
 refine⟨_,rfl,d,V.int w.2,rfl,by rw[← Aq nd hw];exact uS.k (k:=ij w.1) hd2,?_⟩
 refine⟨_,_,rfl,rfl,dx,fl,hx,by omega,?_⟩
 refine⟨_,rfl,_,rfl,x,R,dx,_,rfl,ar,ay.cl,ay.na _ (by decide +kernel),(by show (bZ "left" (.int (c+w.2)) fl).length<1000;omega),?_⟩
 rw[mW];exact q
theorem LG {G:List cw} {i:Nat} {row:cw} (hr:G[i]?=some row):o6 ((G.map (·.1)).map V.int) (i:Int)=some (.int row.1):=gq (by omega) (by rw[bC,aB,aB,hr];rfl)
theorem GH {H:Hp} {x C dx:ah} {fs:List (aT × V)} {p:ah} {pos:gR} {qual:aT} (t:jW H p pos qual) (h:H x=some (.ins C dx fs)):jW (L2.del H x) p pos qual:=by
 obtain⟨ps,h1,h2,h3⟩:=t
 refine⟨ps,by rw[dJ (λz=>by rw[z,h] at h1;cases h1)];exact h1,h2,?_⟩
 rcases h3 with z | ⟨c,o',vs,t,h4,h5,h6⟩
 ·exact .inl z
 ·exact .inr ⟨c,o',vs,t,h4,by rw[dJ (λz=>by rw[z,h] at h5;cases h5)];exact h5,h6⟩
theorem qi.del {H:Hp} {x C dx:ah} {fs:List (aT × V)} (t:qi K H) (h:H x=some (.ins C dx fs)):qi K (L2.del H x):=⟨GH t.l h,GH t.m h,t.ne⟩
theorem Xy {d:Bool} {a b:Int} {σ:St} {H:Hp} {Q:VK} (h:Q (.int (if d=true then a else b)) H):if d=true then tC (.int a) σ H Q else tC (.int b) σ H Q:=by
 cases d
 ·exact h
 ·exact h
def Gx (K:ak) (R:ah):Sp:=λvs H Q _=>∃ (x dx:ah) (v:V) (G:List cw) (p c:Int) (H0:Hp),vs=[.ref x,v,.int p,.int c]/\bh H0 H/\H0 x=none/\H x=some (.ins R dx [])/\IF (nt H0) G v/\vv G/\G.length<=16/\(∀ row∈G,row.2.length<=100)/\Vw G/\qi K H0/\0<=p/\p<(G.length:Int) /\
 ∀ (dx:ah) (fl:List (aT × V)) (T ws:List (Option Int)) (ra oa ma:ah) (h:Int) (H':Hp),Sm H0 (L2.del H' x)->qi K (L2.del H' x)->Qw (L2.del H' x) G ws ra oa ma->H' x=some (.ins R dx fl)->Jg fl h p c ra oa ma 6->VO G T ws->(h=0\/h=1)->Qm (dE T) h p c->Q .e8 H'
theorem Lm (F:uW K R "PursePlay.__init__" dO ["self","game","start","purse"]) (T:Txt mg) (ay:ClsAt K mg "PursePlay" R qZ) (mZ:Dn P w K mg base "check_start" 3 ["start","count"] Bu) (uV:Dn P w K mg base "solved_purses" 8 ["game"] (Mu K)) (nN:Dn P w K mg base "is_more" 2 ["need","other"] Bq):Qk P w K mg base R 9 ["self","game","start","purse"] (Gx K R):=by
 have sc:=oY
 refine F.ok sc (λvs H Q E h=>?_) (λf dk A outer s H vs Q E hr h=>?_)
 ·obtain⟨_,_,_,_,_,_,_,rfl,_⟩:=h;rfl
 obtain⟨x,dx,v,G,p,c,H0,rfl,s0,OD,hx,hG,g,yP,oR,cb,tb0,p0,p1,q⟩:=h
 obtain⟨g0,gv,rfl,jS,mP,eU⟩:=mq hG
 have hG1:IF (nt H) G (.ref g0):=lJ.up (Sm.of s0) hG
 refine⟨_,(au (cz (cO mZ hr (af (pv 2) (af (cn (iu (K:=K) rfl) rfl T.iq bN (af (pv 1) av)) av))))
   (au (bP (i:=4) sc.nd rfl (bi rfl) (cO uV hr (af (pv 1) av)))
   (au (fU (K:=K) rfl (pv 0) (mi (f9 (cO nN hr (af (bM (lA (K:=K) rfl) (bM (mQ (K:=K) rfl) (pv 4) aK (λ_ _=>rfl)) (pv 2) (λ_ _=>rfl)) (af (pv 3) av)))) aK aK) rfl)
   (au (fU (K:=K) rfl (pv 0) (pv 2) rfl)
   (au (fU (K:=K) rfl (pv 0) (pv 3) rfl)
   (au (fU (K:=K) rfl (pv 0) (bM (mQ (K:=K) rfl) (pv 4) aK (λ_ _=>rfl)) rfl)
   (au (fU (K:=K) rfl (pv 0) (qS (aC dO) ["self","game","start","purse","answer"] ["row"] 1 [] (dm (pv 1)) (λ_ _ _ _ _ _=>(eH (show cT (["row"]:List aT) by decide +kernel) rfl rfl)) (λ_ _ _ _ _ _=>hV) (λ_ _ _ _ _ _=>(bM (mQ (K:=K) rfl) (pv 0) aK (λ_ _=>rfl)))) rfl)
   (aG (fU (K:=K) rfl (pv 0) (qS (aC dO) ["self","game","start","purse","answer"] ["row"] 1 [] (dm (pv 1)) (λ_ _ _ _ _ _=>(eH (show cT (["row"]:List aT) by decide +kernel) rfl rfl)) (λ_ _ _ _ _ _=>hV) (λ_ _ _ _ _ _=>(kG (lp (K:=K) rfl rfl) rfl T.DU nL (af (bM (mQ (K:=K) rfl) (pv 0) aK (λ_ _=>rfl)) av)))) rfl))))))))),?_⟩
 refine⟨_,rfl,_,rfl,g0,_,rfl,.inl (bI.of (s0 _ _ (cG _ _ jS))),p,_,rfl,p0,by rw[mP];exact p1,?_⟩
 refine⟨_,rfl,.ref g0,G,rfl,hG1,g,yP,oR,cb,tb0.up s0,λt ta wa TT ws H1 S1 MF ht xv rC sol=>?_⟩
 have Ec:H1 x=some (.ins R dx []):=cG _ _ (S1 _ _ (uM hx λ_ z=>by cases z))
 have z1:Sm H0 (L2.del H1 x):=λb o e=>by
  have nb:b≠x:=λz=>by rw[z,sK OD] at e;cases e
  obtain⟨e1,e2⟩:=CY (S1 _ _ (Sm.of s0 _ _ e))
  exact uM (by rw[dJ nb];exact e1) e2
 have aew:=MF.del Ec
 have ntx:t≠x:=λz=>by have:=cG _ _ ht;rw[z,Ec] at this;cases this
 have Vo:wa≠x:=λz=>by have:=cG _ _ rC;rw[z,Ec] at this;cases this
 have a0:o6 [V.ref ta,V.ref wa] 0=some (.ref ta):=bV (j:=0) rfl
 have a1:o6 [V.ref ta,V.ref wa] 1=some (.ref wa):=bV (j:=1) rfl
 have a2:o6 (tV TT) p=some (oV (dE TT p)):=xj p0 (by obtain⟨_,l,_⟩:=sol;omega)
 refine⟨_,rfl,t,_,_,_,rfl,rfl,gJ.of (cG _ _ ht),a0,_,rfl,ta,_,_,_,rfl,rfl,bI.of (cG _ _ xv),a2,_,rfl,dE TT p,some c,rfl,λr H2 s2 Vg=>?_⟩
 refine⟨r,rfl,?_⟩
 refine Xy ?_
 obtain⟨hv,ehv,n4,gd⟩:∃ hv:Int,(if r=true then (1:Int) else 0)=hv/\(hv=0\/hv=1)/\Qm (dE TT) hv p c:=by
  cases r with
  | false=>exact⟨0,rfl,.inl rfl,b6 λz=>absurd (Vg.mpr (λy=>z y)) (by decide)⟩
  | true=>exact⟨1,rfl,.inr rfl,λy=>Vg.mp rfl y⟩
 rw[ehv]
 have Jt:=s2 _ _ Ec
 refine⟨_,rfl,x,R,dx,[],rfl,Jt,ay.cl,ay.na _ (by decide +kernel),(by show 0<1000;decide),?_⟩
 refine⟨_,rfl,_,rfl,x,R,dx,_,rfl,ar,ay.cl,ay.na _ (by decide +kernel),(by show 1<1000;decide),?_⟩
 rw[mW]
 refine⟨_,rfl,_,rfl,x,R,dx,_,rfl,ar,ay.cl,ay.na _ (by decide +kernel),(by show 2<1000;decide),?_⟩
 rw[mW]
 have yT:upd H2 x (.ins R dx (bZ "left" (.int c) (bZ "at" (.int p) (bZ "hand" (.int hv) [])))) t=some (.tup [.ref ta,.ref wa]):=by rw[bB ntx];exact s2 _ _ (cG _ _ ht)
 refine⟨_,rfl,t,_,_,_,rfl,rfl,gJ.of yT,a1,_,rfl,x,R,dx,_,rfl,ar,ay.cl,ay.na _ (by decide +kernel),(by show 3<1000;decide),?_⟩
 rw[mW]
 have e3:L2.del (upd H2 x (.ins R dx (bZ "rule" (.ref wa) (bZ "left" (.int c) (bZ "at" (.int p) (bZ "hand" (.int hv) [])))))) x=L2.del H2 x:=iZ
 have FJ:upd H2 x (.ins R dx (bZ "rule" (.ref wa) (bZ "left" (.int c) (bZ "at" (.int p) (bZ "hand" (.int hv) []))))) x=some (.ins R dx (bZ "rule" (.ref wa) (bZ "left" (.int c) (bZ "at" (.int p) (bZ "hand" (.int hv) []))))):=ar
 generalize upd H2 x (.ins R dx (bZ "rule" (.ref wa) (bZ "left" (.int c) (bZ "at" (.int p) (bZ "hand" (.int hv) [])))))=H3 at e3 FJ ⊢
 have y3:bh (L2.del H1 x) (L2.del H3 x):=by rw[e3];exact jm s2 x
 have y3':bh (L2.del H1 x) H3:=y3.trans (jn _ _)
 have w1:∀ {b:ah} {o:HO},nt H0 b=some o->L2.del H1 x b=some o:=λe=>cG _ _ (z1 _ _ e)
 have nT:L2.del H1 x wa=some (.lst (tV ws)):=by rw[dJ Vo];exact cG _ _ rC
 refine⟨_,rfl,g0,rfl,⟨_,bI.of (y3' _ _ (w1 jS))⟩,c8 (K:=K) (a:=g0) (xs:=gv) (λi ys Hx=>Hx=H3/\ys=((G.take i).map λr=>r.1).map V.int) ⟨rfl,rfl⟩ (a0b (m:=1000) (by omega)) (λi ys Hx hi h=>?_) (λi y ys Hx hi h=>?_) (λys Hx h oa xu=>?_)⟩
 ·obtain⟨rfl,rfl⟩:=h
  exact⟨bI.of (y3' _ _ (w1 jS)),by rw[aj,aj];simp;omega⟩
 ·obtain⟨rfl,rfl⟩:=h
  have KB:i<G.length:=by have:=(ag.mp hi).1;omega
  obtain⟨row,iT⟩:∃ row,G[i]?=some row:=⟨G[i],by simp⟩
  obtain⟨t5,w5,p1,p2,p3⟩:=eU i row iT
  rw[hi] at p1;cases p1
  refine ix ?_
  refine⟨_,rfl,t5,_,_,_,rfl,rfl,gJ.of (y3' _ _ (w1 p2)),bV (j:=0) rfl,rfl,?_⟩
  rw[bv,iT];simp
 obtain⟨rfl,rfl⟩:=h
 rw[mP,aZ]
 have wC:oa≠x:=λz=>by rw[z,FJ] at xu;cases xu
 refine⟨_,rfl,x,R,dx,_,rfl,(by rw[bB (cS wC)];exact FJ),ay.cl,ay.na _ (by decide +kernel),(by show 4<1000;decide),?_⟩
 generalize Ku:bZ "owners" (.ref oa) (bZ "rule" (.ref wa) (bZ "left" (.int c) (bZ "at" (.int p) (bZ "hand" (.int hv) []))))=HL
 have z4:bh (L2.del Hx x) (L2.del (upd (upd Hx oa (.lst ((G.map λr=>r.1).map V.int))) x (.ins R dx HL)) x):=by rw[iZ];exact jm (az xu _) x
 have WX:L2.del (upd (upd Hx oa (.lst ((G.map λr=>r.1).map V.int))) x (.ins R dx HL)) x oa=some (.lst ((G.map λr=>r.1).map V.int)):=by rw[iZ,dJ wC,ar]
 have Ed:upd (upd Hx oa (.lst ((G.map λr=>r.1).map V.int))) x (.ins R dx HL) x=some (.ins R dx HL):=ar
 generalize upd (upd Hx oa (.lst ((G.map λr=>r.1).map V.int))) x (.ins R dx HL)=H4 at z4 WX Ed ⊢
 have y4:=y3.trans z4
 have y4':bh (L2.del H1 x) H4:=y4.trans (jn _ _)
 refine⟨_,rfl,g0,rfl,⟨_,bI.of (y4' _ _ (w1 jS))⟩,c8 (K:=K) (a:=g0) (xs:=gv) (λi ys Hy=>bh H4 Hy/\ys.length=i/\∀ (j:Nat) row,j<i->G[j]?=some row->∃ d,ys[j]?=some (.ref d)/\Hy d=some (.dK (DC row.2))/\d≠x) ⟨bh.refl _,rfl,λj _ z=>by omega⟩ (a0b (m:=1000) (by omega)) (λi ys Hy hi h=>?_) (λi y ys Hy hi h=>?_) (λys Hy h ma FF=>?_)⟩
 ·exact⟨bI.of ((y4'.trans h.1) _ _ (w1 jS)),by have:=h.2.1;omega⟩
 ·obtain⟨s5,yl,Vl⟩:=h
  have KB:i<G.length:=by have:=(ag.mp hi).1;omega
  obtain⟨row,iT⟩:∃ row,G[i]?=some row:=⟨G[i],by simp⟩
  obtain⟨t5,w5,p1,p2,p3⟩:=eU i row iT
  rw[hi] at p1;cases p1
  have Gq:=y4'.trans s5
  obtain⟨w5',us,e5,hu5,pr5⟩:=eV.up Gq (eV.up (λ_ _ e=>w1 e) p3)
  cases e5
  obtain⟨ts,rfl,h6,h7⟩:=GP pr5
  refine ix ?_
  refine⟨_,rfl,t5,_,_,_,rfl,rfl,gJ.of (Gq _ _ (w1 p2)),bV (j:=1) rfl,w5,ts,rfl,bI.of hu5,λt ht=>gJ.of (h6 t ht),λd hd=>?_⟩
  rw[h7,D2 (g row (am iT)).2.1]
  have ndx:d≠x:=λz=>by rw[z,s5 _ _ Ed] at hd;cases hd
  refine⟨s5.trans (az hd _),by rw[aJ,yl];rfl,λj Bb hj hrj=>?_⟩
  by_cases cj:j<i
  ·obtain⟨d',h1,h2,h3⟩:=Vl j Bb cj hrj
   exact⟨d',by rw[b9 (by omega)];exact h1,az hd _ _ _ h2,h3⟩
  ·have ej:j=i:=by omega
   subst ej
   rw[iT] at hrj;cases hrj
   exact⟨d,by rw[← yl];simp,ar,ndx⟩
 obtain⟨s5,yl,Vl⟩:=h
 have XW:ma≠x:=λz=>by rw[z,s5 _ _ Ed] at FF;cases FF
 have Tn:=s5 _ _ Ed
 refine⟨_,rfl,x,R,dx,_,rfl,(by rw[bB (cS XW)];exact Tn),ay.cl,ay.na _ (by decide +kernel),(by rw[← Ku];show 5<1000;decide),?_⟩
 have zD:bh (L2.del Hy x) (L2.del (upd (upd Hy ma (.lst ys)) x (.ins R dx (bZ "amounts" (.ref ma) HL))) x):=by rw[iZ];exact jm (az FF _) x
 have zE:=(jm s5 x).trans zD
 have yE:=y4.trans zE
 refine q dx _ TT ws wa oa ma hv _ (z1.trans (Sm.of yE)) (aew.up yE) ⟨yE _ _ nT,zE _ _ WX,ys,?_,by omega,λi row hr=>?_⟩ ar ?_ sol n4 gd
 ·rw[iZ,dJ XW,ar]
 ·obtain⟨d,h1,h2,h3⟩:=Vl i row (by have:=(ag.mp hr).1;omega) hr
  exact⟨d,h1,zD _ _ (by rw[dJ h3];exact h2)⟩
 ·rw[← Ku];exact Sd _ _ _ _ _ _
abbrev G6:List aT:=["hand","at","rule","owners","outs"]
structure Qx (fl:List (aT × V)) (h p:Int) (wa oa ua:ah) (m:Nat):Prop where
 hand:fl.lookup ("hand" : aT)=some (.int h)
 at_:fl.lookup ("at" : aT)=some (.int p)
 rule:fl.lookup ("rule" : aT)=some (.ref wa)
 own:fl.lookup ("owners" : aT)=some (.ref oa)
 outs:fl.lookup ("outs" : aT)=some (.ref ua)
 go:fl.lookup ("go" : aT)=none
 oth:fl.lookup ("other" : aT)=none
 len:fl.length<=m
theorem Qx.put {fl:List (aT × V)} {h p:Int} {wa oa ua:ah} {m:Nat} (f:Qx fl h p wa oa ua m) (q:Int):Qx (bZ "at" (.int q) fl) h q wa oa ua (m+1):=by
 refine⟨?_,?_,?_,?_,?_,?_,?_,?_⟩
 ·rw[aQ,if_neg (by decide +kernel)];exact f.hand
 ·rw[aQ,if_pos rfl]
 ·rw[aQ,if_neg (by decide +kernel)];exact f.rule
 ·rw[aQ,if_neg (by decide +kernel)];exact f.own
 ·rw[aQ,if_neg (by decide +kernel)];exact f.outs
 ·rw[aQ,if_neg (by decide +kernel)];exact f.go
 ·rw[aQ,if_neg (by decide +kernel)];exact f.oth
 ·have:=jK "at" (.int q) fl;have:=f.len;omega
theorem Se (h p:Int) (wa oa ua:ah):Qx (bZ "outs" (.ref ua) (bZ "owners" (.ref oa) (bZ "rule" (.ref wa) (bZ "at" (.int p) (bZ "hand" (.int h) []))))) h p wa oa ua 5:=by
 have no:∀ m:aT,¬ m = "outs" -> ¬ m = "owners" -> ¬ m = "rule" -> ¬ m = "at" -> ¬ m = "hand" -> (bZ "outs" (.ref ua) (bZ "owners" (.ref oa) (bZ "rule" (.ref wa) (bZ "at" (.int p) (bZ "hand" (.int h) []))))).lookup m=none:=λm h1 h2 h3 h4 h5=>by
  rw[aQ,if_neg h1,aQ,if_neg h2,aQ,if_neg h3,aQ,if_neg h4,aQ,if_neg h5];rfl
 refine⟨?_,?_,?_,?_,?_,no _ (by decide +kernel) (by decide +kernel) (by decide +kernel) (by decide +kernel) (by decide +kernel),no _ (by decide +kernel) (by decide +kernel) (by decide +kernel) (by decide +kernel) (by decide +kernel),aA 5⟩
 ·rw[aQ,if_neg (by decide +kernel),aQ,if_neg (by decide +kernel),aQ,if_neg (by decide +kernel),aQ,if_neg (by decide +kernel),aQ,if_pos rfl]
 ·rw[aQ,if_neg (by decide +kernel),aQ,if_neg (by decide +kernel),aQ,if_neg (by decide +kernel),aQ,if_pos rfl]
 ·rw[aQ,if_neg (by decide +kernel),aQ,if_neg (by decide +kernel),aQ,if_pos rfl]
 ·rw[aQ,if_neg (by decide +kernel),aQ,if_pos rfl]
 ·rw[aQ,if_pos rfl]
structure RM (B:Hp) (G:List Row) (wf:Int->Option Int) (wa oa ua:ah):Prop where
 rule:B wa=some (.lst (om G.length wf))
 own:B oa=some (.lst ((im G.length (hd G)).map V.int))
 outs:gb (gb gG) B (G.map λr=>r.2.2) (.ref ua)
theorem RM.up {B B':Hp} {G:List Row} {wf:Int->Option Int} {wa oa ua:ah} (d:RM B G wf wa oa ua) (s:bh B B'):RM B' G wf wa oa ua :=
 ⟨s _ _ d.rule,s _ _ d.own,(cN (cN cR)).up s d.outs⟩
theorem Xz (G:List Row):im G.length (hd G)=G.map λr=>r.1:=by
 refine cV λi=>?_
 rw[aB]
 rcases cY i G.length with h | h
 ·have e:=uK (n:=G.length) (f:=hd G) (z:=(i:Int)) (by omega) (by omega)
  rw[bC] at e
  rw[e,ao h]
  unfold hd
  rw[bC,ao h];rfl
 ·rw[aU h]
  exact aU (by unfold im;rw[aj,n9];exact h)
def Gy (R:ah):Sp:=λvs H Q _=>Ex6 λ(x:ah) (dx:ah) (v:V) (G:List Row) (p:Int) (H0:Hp)=>JC (vs=[.ref x,v,.int p]) (bh H0 H) (H0 x=none) (H x=some (.ins R dx [])) (oN H0 G v) (B5 G) (VC G) (NE G) ((∀ z:Int,0<=z->z<G.length->0<=rk G z/\rk G z<41)) (xQ G p) (∀ (dx:ah) (fl:List (aT × V)) (hf:Int->Int) (wf:Int->Option Int) (wa oa ua:ah) (H':Hp),bh H0 (L2.del H' x)->RM (nW H0 (L2.del H' x)) G wf wa oa ua->H' x=some (.ins R dx fl)->Qx fl (hf p) p wa oa ua 5->RQ G (xQ G) hf wf->Q .e8 H')
theorem Ln (F:uW K R "RankPlay.__init__" dZ ["self","game","start"]) (T:Txt mg) (aI:ClsAt K mg "RankPlay" R G6) (mZ:Dn P w K mg base "check_start" 3 ["start","count"] Bu) (JK:Dn P w K mg base "solved" 49 ["game"] Dm):Qk P w K mg base R 50 ["self","game","start"] (Gy R):=by
 have sc:=qd
 refine F.ok sc (λvs H Q E h=>?_) (λf dk A outer s H vs Q E hr h=>?_)
 ·obtain⟨_,_,_,_,_,_,rfl,_⟩:=h;rfl
 obtain⟨x,dx,v,G,p,H0,rfl,s0,OD,hx,hG,cU,n4,kx,Eb,hp,q⟩:=h
 obtain⟨g0,gv,rfl,jS,mP,eU⟩:=fu hG
 have D5:=cU.1
 refine⟨_,(au (cz (cO mZ hr (af (pv 2) (af (cn (iu (K:=K) rfl) rfl T.iq bN (af (pv 1) av)) av))))
   (au (bP (i:=3) sc.nd rfl (bi rfl) (cO JK hr (af (pv 1) av)))
   (au (fU (K:=K) rfl (pv 0) (bM (lA (K:=K) rfl) (bM (mQ (K:=K) rfl) (pv 3) aK (λ_ _=>rfl)) (pv 2) (λ_ _=>rfl)) rfl)
   (au (fU (K:=K) rfl (pv 0) (pv 2) rfl)
   (au (fU (K:=K) rfl (pv 0) (bM (mQ (K:=K) rfl) (pv 3) aK (λ_ _=>rfl)) rfl)
   (au (fU (K:=K) rfl (pv 0) (qS (aC dZ) ["self","game","start","answer"] ["row"] 1 [] (dm (pv 1)) (λ_ _ _ _ _ _=>(eH (show cT (["row"]:List aT) by decide +kernel) rfl rfl)) (λ_ _ _ _ _ _=>hV) (λ_ _ _ _ _ _=>(bM (mQ (K:=K) rfl) (pv 0) aK (λ_ _=>rfl)))) rfl)
   (aG (fU (K:=K) rfl (pv 0) (qS (aC dZ) ["self","game","start","answer"] ["row"] 1 [] (dm (pv 1)) (λ_ _ _ _ _ _=>(eH (show cT (["row"]:List aT) by decide +kernel) rfl rfl)) (λ_ _ _ _ _ _=>hV) (λ_ _ _ _ _ _=>(kG (DY (K:=K) rfl) rfl T.v1 gQ (af (bM (mQ (K:=K) rfl) (pv 0) aK (λ_ _=>rfl)) av)))) rfl)))))))),?_⟩
 refine⟨_,rfl,_,rfl,g0,_,rfl,.inl (bI.of (s0 _ _ jS)),p,_,rfl,hp.1,by rw[mP];exact hp.2,?_⟩
 refine⟨_,rfl,_,G,rfl,jL.up s0 hG,cU,n4,kx,Eb,λt ha wa hf wf H1 s1 FX nh nw ht BJ rC pG=>?_⟩
 have Vp:bh H H1:=s1.trans kQ
 have Ec:=Vp _ _ hx
 have z1:bh H0 (L2.del H1 x):=λb o e=>by rw[dJ (λz=>by rw[z,OD] at e;cases e)];exact Vp _ _ (s0 _ _ e)
 have Vo:wa≠x:=λz=>by rw[z,hx] at nw;cases nw
 have w0:H0 wa=none:=s0.free nw
 have a0:o6 [V.ref ha,V.ref wa] 0=some (.ref ha):=bV (j:=0) rfl
 have a1:o6 [V.ref ha,V.ref wa] 1=some (.ref wa):=bV (j:=1) rfl
 have a2:o6 ((im G.length hf).map V.int) p=some (.int (hf p)):=gq hp.1 (by rw[aB,uK hp.1 hp.2];rfl)
 have ntx:t≠x:=λz=>by rw[z,Ec] at ht;cases ht
 have hwd:L2.del H1 x wa=some (.lst (om G.length wf)):=by rw[dJ Vo];exact rC
 have htd:L2.del H1 x t=some (.tup [.ref ha,.ref wa]):=by rw[dJ ntx];exact ht
 refine⟨_,rfl,t,_,_,_,rfl,rfl,gJ.of ht,a0,_,rfl,ha,_,_,_,rfl,rfl,bI.of BJ,a2,_,rfl,x,R,dx,[],rfl,Ec,aI.cl,aI.na _ (by decide +kernel),(by show 0<1000;decide),?_⟩
 refine⟨_,rfl,_,rfl,x,R,dx,_,rfl,ar,aI.cl,aI.na _ (by decide +kernel),(by show 1<1000;decide),?_⟩
 rw[mW]
 have yT:upd H1 x (.ins R dx (bZ "at" (.int p) (bZ "hand" (.int (hf p)) []))) t=some (.tup [.ref ha,.ref wa]):=by rw[bB ntx];exact ht
 refine⟨_,rfl,t,_,_,_,rfl,rfl,gJ.of yT,a1,_,rfl,x,R,dx,_,rfl,ar,aI.cl,aI.na _ (by decide +kernel),(by show 2<1000;decide),?_⟩
 rw[mW]
 have e3:L2.del (upd H1 x (.ins R dx (bZ "rule" (.ref wa) (bZ "at" (.int p) (bZ "hand" (.int (hf p)) []))))) x=L2.del H1 x:=iZ
 have FJ:upd H1 x (.ins R dx (bZ "rule" (.ref wa) (bZ "at" (.int p) (bZ "hand" (.int (hf p)) [])))) x=some (.ins R dx (bZ "rule" (.ref wa) (bZ "at" (.int p) (bZ "hand" (.int (hf p)) [])))):=ar
 generalize upd H1 x (.ins R dx (bZ "rule" (.ref wa) (bZ "at" (.int p) (bZ "hand" (.int (hf p)) []))))=H3 at e3 FJ ⊢
 have z3:bh H0 (L2.del H3 x):=by rw[e3];exact z1
 have z3':bh H0 H3:=z3.trans (jn _ _)
 refine⟨_,rfl,g0,rfl,⟨_,bI.of (z3' _ _ jS)⟩,c8 (K:=K) (a:=g0) (xs:=gv) (λi ys Hx=>Hx=H3/\ys=((G.take i).map λr=>r.1).map V.int) ⟨rfl,rfl⟩ (a0b (m:=1000) (by omega)) (λi ys Hx hi h=>?_) (λi y ys Hx hi h=>?_) (λys Hx h oa xu=>?_)⟩
 ·obtain⟨rfl,rfl⟩:=h
  exact⟨bI.of (z3' _ _ jS),by rw[aj,aj];simp;omega⟩
 ·obtain⟨rfl,rfl⟩:=h
  have KB:i<G.length:=by have:=(ag.mp hi).1;omega
  obtain⟨row,iT⟩:∃ row,G[i]?=some row:=⟨G[i],by simp⟩
  obtain⟨t5,w5,p1,p2,p3⟩:=eU i row iT
  rw[hi] at p1;cases p1
  refine ix ?_
  refine⟨_,rfl,t5,_,_,_,rfl,rfl,gJ.of (z3' _ _ p2),bV (j:=0) rfl,rfl,?_⟩
  rw[bv,iT];simp
 obtain⟨rfl,rfl⟩:=h
 rw[mP,aZ,← Xz]
 have wC:oa≠x:=λz=>by rw[z,FJ] at xu;cases xu
 have o0:H0 oa=none:=z3'.free xu
 refine⟨_,rfl,x,R,dx,_,rfl,(by rw[bB (cS wC)];exact FJ),aI.cl,aI.na _ (by decide +kernel),(by show 3<1000;decide),?_⟩
 generalize Ku:bZ "owners" (.ref oa) (bZ "rule" (.ref wa) (bZ "at" (.int p) (bZ "hand" (.int (hf p)) [])))=HL
 have z4:bh (L2.del Hx x) (L2.del (upd (upd Hx oa (.lst ((im G.length (hd G)).map V.int))) x (.ins R dx HL)) x):=by rw[iZ];exact jm (az xu _) x
 have WX:L2.del (upd (upd Hx oa (.lst ((im G.length (hd G)).map V.int))) x (.ins R dx HL)) x oa=some (.lst ((im G.length (hd G)).map V.int)):=by rw[iZ,dJ wC,ar]
 have Ed:upd (upd Hx oa (.lst ((im G.length (hd G)).map V.int))) x (.ins R dx HL) x=some (.ins R dx HL):=ar
 generalize upd (upd Hx oa (.lst ((im G.length (hd G)).map V.int))) x (.ins R dx HL)=H4 at z4 WX Ed ⊢
 have z04:=z3.trans z4
 have Qc:bh H0 H4:=z04.trans (jn _ _)
 refine⟨_,rfl,g0,rfl,⟨_,bI.of (Qc _ _ jS)⟩,c8 (K:=K) (a:=g0) (xs:=gv) (λi ys Hy=>bh H4 Hy/\dP (gb gG (nW H0 (L2.del Hy x))) ((G.take i).map λr=>r.2.2) ys) ⟨bh.refl _,.nil⟩ (a0b (m:=1000) (by omega)) (λi ys Hy hi h=>?_) (λi y ys Hy hi h=>?_) (λys Hy h ua ZX=>?_)⟩
 ·exact⟨bI.of ((Qc.trans h.1) _ _ jS),by have:=lj h.2;simp at this;omega⟩
 ·obtain⟨s5,pr⟩:=h
  have KB:i<G.length:=by have:=(ag.mp hi).1;omega
  obtain⟨row,iT⟩:∃ row,G[i]?=some row:=⟨G[i],by simp⟩
  obtain⟨t5,w5,p1,p2,p3⟩:=eU i row iT
  rw[hi] at p1;cases p1
  have Gq:=Qc.trans s5
  refine ix ?_
  refine⟨_,rfl,t5,_,_,_,rfl,rfl,gJ.of (Gq _ _ p2),bV (j:=2) rfl,w5,_,rfl,.inl (bI.of (Gq _ _ p3)),λl hl=>?_⟩
  refine⟨s5.trans (az hl _),?_⟩
  have nlx:l≠x:=λz=>by rw[z,s5 _ _ Ed] at hl;cases hl
  rw[bv,iT,aM]
  refine Paired.app (ee (cN cR) (AJ (jm (az hl _) x)) pr) (.cons ?_ .nil)
  exact fL.mpr ⟨l,rfl,by rw[hU (Gq.free hl),dJ nlx,ar]⟩
 obtain⟨s5,pr⟩:=h
 rw[mP,aZ] at pr
 have Gq:=Qc.trans s5
 have XW:ua≠x:=λz=>by rw[z,s5 _ _ Ed] at ZX;cases ZX
 have Tn:=s5 _ _ Ed
 refine⟨_,rfl,x,R,dx,_,rfl,(by rw[bB (cS XW)];exact Tn),aI.cl,aI.na _ (by decide +kernel),(by rw[← Ku];show 4<1000;decide),?_⟩
 have zD:bh (L2.del Hy x) (L2.del (upd (upd Hy ua (.lst ys)) x (.ins R dx (bZ "outs" (.ref ua) HL))) x):=by rw[iZ];exact jm (az ZX _) x
 have zE:=(jm s5 x).trans zD
 refine q dx _ hf wf wa oa ua _ (z04.trans zE) ⟨?_,?_,?_⟩ ar ?_ pG
 ·rw[hU w0];exact zE _ _ (z4 _ _ (by rw[e3];exact hwd))
 ·rw[hU o0];exact zE _ _ WX
 ·exact⟨ua,ys,rfl,by rw[hU (Gq.free ZX),iZ,dJ XW,ar],ee (cN cR) (AJ zD) pr⟩
 ·rw[← Ku];exact Se _ _ _ _ _
def xb (K:ak):Sp:=λvs H Q E=>∃ b:Bool,vs=[.bl b]/\(b=true->Q .e8 H)/\(b=false->E (.ref (kO K "NoMove")) none H)
theorem OZ (F:bz K mg "check_due" kY ["due"]) (T:Txt mg) (XC:XT K mg "GarthError" Vu UR):M8 P w K mg base "check_due" 1 ["due"] (xb K):=by
 have sc:=Be
 refine F.TV sc (λvs H Q E h=>?_) (λf dk A outer s H vs Q E hr h=>?_)
 ·obtain⟨_,rfl,_⟩:=h;rfl
 obtain⟨b,rfl,q1,q2⟩:=h
 refine⟨_,(aG (fo (mm (f9 (pv 0)))
   (aG (Dd Gj (XC.m "NoMove" (by decide)) (XC.exc "NoMove" (by decide)) (af LP av)))
   dq)),?_⟩
 refine⟨_,rfl,_,rfl,?_⟩
 cases b with
 | true=>exact eJ (q1 rfl)
 | false=>exact jc ⟨(by show 1<=aL;decide),q2 rfl⟩
def EU (K:ak):Sp:=λvs H Q E=>∃ (z:Int) (d:ah),vs=[.int z,.ref d]/\((∃ ws:List Int,H d=some (.lst (ws.map V.int))/\(z∈ws->Q .e8 H)/\(z ∉ ws->E (.ref (kO K "NoMove")) none H))\/∃ ws:List Wy,H d=some (.dK (DC ws))/\(ws.map (·.1)).Nodup/\(z∈ws.map (·.1)->Q .e8 H)/\(z ∉ ws.map (·.1)->E (.ref (kO K "NoMove")) none H))
theorem Ob {ws:List Wy} {z:Int} (h:z ∉ ws.map (·.1)):tz (DC ws) (ij z)=none:=by
 unfold DC tz
 induction ws with
 | nil=>rfl
 | cons y ws ih =>
  rw[dg,aE] at h
  rw[dg,Fh]
  ·exact ih λz=>h (.inr z)
  ·intro e
   have:=of_decide_eq_true e
   injection this with this
   exact h (.inl this.symm)
theorem Pb (F:bz K mg "check_way" kZ ["place","outs"]) (T:Txt mg) (XC:XT K mg "GarthError" Vu UR) (lU:Dn P w K mg base "is_whole" 1 ["value"] vH):M8 P w K mg base "check_way" 2 ["place","outs"] (EU K):=by
 have sc:=Bf
 refine F.TV sc (λvs H Q E h=>?_) (λf dk A outer s H vs Q E hr h=>?_)
 ·obtain⟨_,_,rfl,_⟩:=h;rfl
 obtain⟨z,d,rfl,h⟩:=h
 refine⟨_,(aG (fo (PW.pt (a0n (mm (f9 (cO lU hr (af (pv 0) av)))) (a0k (Ug (dG (Et (K:=K) rfl) (pv 0) (pv 1) rfl) (iQ (IA (AD hr 1) (pv 0) (pv 1)))))))
   (aG (Dd Gj (XC.m "NoMove" (by decide)) (XC.exc "NoMove" (by decide)) (af LP av)))
   dq)),?_⟩
 refine⟨_,rfl,z,rfl,_,rfl,eJ ?_⟩
 rcases h with ⟨ws,hd,q1,q2⟩ | ⟨ws,hd,nd,q1,q2⟩
 ·refine .inl ⟨_,rfl,_,rfl,d,_,rfl,.inl (bI.of hd),rfl,ue ws,?_⟩
  rw[wp]
  refine⟨_,rfl,?_⟩
  by_cases c:z∈ws
  ·rw[decide_eq_true c];exact eJ (q1 c)
  ·rw[decide_eq_false c];exact jc ⟨(by show 1<=aL;decide),q2 c⟩
 ·by_cases c:z∈ws.map (·.1)
  ·obtain⟨x,hx,rfl⟩:=bL.mp c
   exact .inr ⟨_,rfl,_,rfl,d,some (.int x.2),rfl,by rw[← Aq nd hx];exact uS.k (k:=ij x.1) hd,_,rfl,eJ (q1 c)⟩
  ·exact .inr ⟨_,rfl,_,rfl,d,none,rfl,by rw[← Ob c];exact uS.k (k:=ij z) hd,_,rfl,jc ⟨(by show 1<=aL;decide),q2 c⟩⟩
variable {R2:ah}
def zn (K:ak) (R:ah):Sp:=λvs H Q E=>∃ (x dx:ah) (fl:List (aT × V)) (G:List cw) (ws:List (Option Int)) (h c:Int) (i:Nat) (row:cw) (ra oa ma:ah) (m:Nat),vs=[.ref x]/\H x=some (.ins R dx fl)/\Jg fl h (i:Int) c ra oa ma m/\m<900/\Qw H G ws ra oa ma/\vv G/\G[i]?=some row/\((0<=c/\row.1=h)->∃ w∈row.2,ws[i]?=some (some w.1)/\Q (.int w.1) (upd H x (.ins R dx (V5 fl (c+w.2) w.1))))/\(¬ (0<=c/\row.1=h)->E (.ref (kO K "NoMove")) none H)
theorem T2 (F:iG K R "go" "PursePlay.go" iR ["self"]) (T:Txt mg) (ay:ClsAt K mg "PursePlay" R qZ) (iL:M8 P w K mg base "check_due" 1 ["due"] (xb K)) (ja:xI P w K mg base R "pass_on" 1 ["self","place"] (ES R)):pi P w K mg base R "go" 2 ["self"] (zn K R):=by
 have sc:=vk
 refine F.TV sc (λvs H Q E h=>?_) (λf dk A outer s H vs Q E hr h=>?_)
 ·obtain⟨_,_,_,_,_,_,_,_,_,_,_,_,_,rfl,_⟩:=h;rfl
 obtain⟨x,dx,fl,G,ws,h,c,i,row,ra,oa,ma,m,rfl,hx,hF,hm,hD,g,FG,q1,q2⟩:=h
 refine⟨_,(au (cz (ux zi iL hr (af (AS (kR F2 (bW (K:=K) rfl (pv 0) rfl) aK (dM _)) (AU (kR md (bM (lA (K:=K) rfl) (bW (K:=K) rfl (pv 0) rfl) (bW (K:=K) rfl (pv 0) rfl) (λ_ _=>rfl)) (bW (K:=K) rfl (pv 0) rfl) (dM _)))) av)))
   (au (cz (mh ay.cl ja hr (pv 0) (af (bM (lA (K:=K) rfl) (bW (K:=K) rfl (pv 0) rfl) (bW (K:=K) rfl (pv 0) rfl) (λ_ _=>rfl)) av)))
   (aG (cP (bW (K:=K) rfl (pv 0) rfl))))),?_⟩
 refine⟨_,rfl,x,R,_,_,_,rfl,hx,ay.cl,ay.na _ (by decide +kernel),hF.left,_,_,rfl,rfl,_,rfl,?_⟩
 by_cases c0:0<=c
 ·rw[decide_eq_true (show (0:Int)<=c from c0)]
  refine jc ?_
  refine⟨_,rfl,x,R,_,_,_,rfl,hx,ay.cl,ay.na _ (by decide +kernel),hF.own,_,rfl,x,R,_,_,_,rfl,hx,ay.cl,ay.na _ (by decide +kernel),hF.at_,oa,_,_,_,rfl,rfl,bI.of hD.own,LG FG,_,rfl,x,R,_,_,_,rfl,hx,ay.cl,ay.na _ (by decide +kernel),hF.hand,rfl,?_⟩
  refine⟨_,rfl,λe=>?_,λe=>q2 λz=>(by rw[decide_eq_true (by rw[z.2])] at e;cases e)⟩
  have ho:row.1=h:=by have:=of_decide_eq_true e;injection this
  obtain⟨w,hw,Js,q⟩:=q1 ⟨c0,ho⟩
  have a1:o6 (tV ws) (i:Int)=some (.int w.1):=gq (by omega) (by unfold tV;rw[bC,aB,Js];rfl)
  refine⟨_,rfl,x,dx,fl,rfl,hx,hF.Yd,?_⟩
  refine⟨_,rfl,x,R,_,_,_,rfl,hx,ay.cl,ay.na _ (by decide +kernel),hF.rule,_,rfl,x,R,_,_,_,rfl,hx,ay.cl,ay.na _ (by decide +kernel),hF.at_,ra,_,_,_,rfl,rfl,bI.of hD.rule,a1,?_⟩
  refine⟨x,dx,fl,G,ws,h,c,i,row,w,ra,oa,ma,m,rfl,hx,hF,hm,hD,g,FG,hw,?_⟩
  exact⟨_,rfl,x,R,_,_,_,rfl,ar,ay.cl,ay.na _ (by decide +kernel),((hF.putL (c+w.2)).Uh w.1).at_,q⟩
 ·rw[decide_eq_false (show ¬ (0:Int)<=c from c0)]
  refine eJ ?_
  exact⟨false,rfl,(λz=>by cases z),λ_=>q2 λz=>c0 z.1⟩
def uD (K:ak) (R:ah):Sp:=λvs H Q E=>∃ (x dx:ah) (fl:List (aT × V)) (G:List cw) (ws:List (Option Int)) (h c z:Int) (i:Nat) (row:cw) (ra oa ma:ah) (m:Nat),vs=[.ref x,.int z]/\H x=some (.ins R dx fl)/\Jg fl h (i:Int) c ra oa ma m/\m<900/\Qw H G ws ra oa ma/\vv G/\G[i]?=some row/\(0<=c->row.1≠h->∀ w∈row.2,w.1=z->Q .e8 (upd H x (.ins R dx (V5 fl (c+w.2) w.1))))/\(¬ (0<=c/\row.1≠h/\z∈row.2.map (·.1))->E (.ref (kO K "NoMove")) none H)
theorem O6 (F:iG K R "other" "PursePlay.other" gy ["self","place"]) (T:Txt mg) (ay:ClsAt K mg "PursePlay" R qZ) (iL:M8 P w K mg base "check_due" 1 ["due"] (xb K)) (pe:M8 P w K mg base "check_way" 2 ["place","outs"] (EU K)) (ja:xI P w K mg base R "pass_on" 1 ["self","place"] (ES R)):pi P w K mg base R "other" 3 ["self","place"] (uD K R):=by
 have sc:=rH
 refine F.TV sc (λvs H Q E h=>?_) (λf dk A outer s H vs Q E hr h=>?_)
 ·obtain⟨_,_,_,_,_,_,_,_,_,_,_,_,_,_,rfl,_⟩:=h;rfl
 obtain⟨x,dx,fl,G,ws,h,c,z,i,row,ra,oa,ma,m,rfl,hx,hF,hm,hD,g,FG,q1,q2⟩:=h
 obtain⟨us,hu,ul,Tc⟩:=hD.Cd
 obtain⟨d,hd1,hd2⟩:=Tc i row FG
 have nd:=(g row (am FG)).2.1
 have a1:o6 us (i:Int)=some (.ref d):=gq (by omega) hd1
 refine⟨_,(au (cz (ux zi iL hr (af (AS (kR F2 (bW (K:=K) rfl (pv 0) rfl) aK (dM _)) (AU (kR qR (bM (lA (K:=K) rfl) (bW (K:=K) rfl (pv 0) rfl) (bW (K:=K) rfl (pv 0) rfl) (λ_ _=>rfl)) (bW (K:=K) rfl (pv 0) rfl) (dM _)))) av)))
   (au (cz (ux zi pe hr (af (pv 1) (af (bM (lA (K:=K) rfl) (bW (K:=K) rfl (pv 0) rfl) (bW (K:=K) rfl (pv 0) rfl) (λ_ _=>rfl)) av))))
   (aG (cz (mh ay.cl ja hr (pv 0) (af (pv 1) av)))))),?_⟩
 refine⟨_,rfl,x,R,_,_,_,rfl,hx,ay.cl,ay.na _ (by decide +kernel),hF.left,_,_,rfl,rfl,_,rfl,?_⟩
 by_cases c0:0<=c
 ·rw[decide_eq_true (show (0:Int)<=c from c0)]
  refine jc ?_
  refine⟨_,rfl,x,R,_,_,_,rfl,hx,ay.cl,ay.na _ (by decide +kernel),hF.own,_,rfl,x,R,_,_,_,rfl,hx,ay.cl,ay.na _ (by decide +kernel),hF.at_,oa,_,_,_,rfl,rfl,bI.of hD.own,LG FG,_,rfl,x,R,_,_,_,rfl,hx,ay.cl,ay.na _ (by decide +kernel),hF.hand,rfl,?_⟩
  refine⟨_,rfl,λe=>?_,λe=>q2 λy=>?_⟩
  ·have ho:row.1≠h:=λy=>by rw[decide_eq_true (by rw[y])] at e;cases e
   refine⟨_,rfl,_,rfl,x,R,_,_,_,rfl,hx,ay.cl,ay.na _ (by decide +kernel),hF.Cd,_,rfl,x,R,_,_,_,rfl,hx,ay.cl,ay.na _ (by decide +kernel),hF.at_,ma,_,_,_,rfl,rfl,bI.of hu,a1,z,d,rfl,.inr ⟨row.2,hd2,nd,λk=>?_,λk=>q2 λy=>k y.2.2⟩⟩
   obtain⟨w,hw,rfl⟩:=bL.mp k
   exact⟨_,rfl,x,dx,fl,rfl,hx,hF.Yd,_,rfl,x,dx,fl,G,ws,h,c,i,row,w,ra,oa,ma,m,rfl,hx,hF,hm,hD,g,FG,hw,q1 c0 ho w hw rfl⟩
  ·have ho:=y.2.1
   rw[decide_eq_false (by intro k;cases k;exact ho rfl)] at e;cases e
 ·rw[decide_eq_false (show ¬ (0:Int)<=c from c0)]
  refine eJ ?_
  exact⟨false,rfl,(λz=>by cases z),λ_=>q2 λz=>c0 z.1⟩
def zm (K:ak) (R:ah):Sp:=λvs H Q E=>∃ (x dx:ah) (fl:List (aT × V)) (G:List Row) (wf:Int->Option Int) (h p:Int) (wa oa ua:ah) (m:Nat),vs=[.ref x]/\H x=some (.ins R dx fl)/\Qx fl h p wa oa ua m/\m<900/\RM H G wf wa oa ua/\xQ G p/\(hd G p=h->∃ q,wf p=some q/\Q (.int q) (upd H x (.ins R dx (bZ "at" (.int q) fl))))/\(hd G p≠h->E (.ref (kO K "NoMove")) none H)
theorem TZ (F:iG K R "go" "RankPlay.go" js ["self"]) (T:Txt mg) (aI:ClsAt K mg "RankPlay" R G6) (iL:M8 P w K mg base "check_due" 1 ["due"] (xb K)):pi P w K mg base R "go" 2 ["self"] (zm K R):=by
 have sc:=wU
 refine F.TV sc (λvs H Q E h=>?_) (λf dk A outer s H vs Q E hr h=>?_)
 ·obtain⟨_,_,_,_,_,_,_,_,_,_,_,rfl,_⟩:=h;rfl
 obtain⟨x,dx,fl,G,wf,h,p,wa,oa,ua,m,rfl,hx,hF,hm,hD,hp,q1,q2⟩:=h
 have hl:=hF.len
 have a1:o6 ((im G.length (hd G)).map V.int) p=some (.int (hd G p)):=gq hp.1 (by rw[aB,uK hp.1 hp.2];rfl)
 refine⟨_,(au (cz (ux zi iL hr (af (kR md (bM (lA (K:=K) rfl) (bW (K:=K) rfl (pv 0) rfl) (bW (K:=K) rfl (pv 0) rfl) (λ_ _=>rfl)) (bW (K:=K) rfl (pv 0) rfl) (dM _)) av)))
   (au (fU (K:=K) rfl (pv 0) (bM (lA (K:=K) rfl) (bW (K:=K) rfl (pv 0) rfl) (bW (K:=K) rfl (pv 0) rfl) (λ_ _=>rfl)) rfl)
   (aG (cP (bW (K:=K) rfl (pv 0) rfl))))),?_⟩
 refine⟨_,rfl,x,R,_,_,_,rfl,hx,aI.cl,aI.na _ (by decide +kernel),hF.own,_,rfl,x,R,_,_,_,rfl,hx,aI.cl,aI.na _ (by decide +kernel),hF.at_,oa,_,_,_,rfl,rfl,bI.of hD.own,a1,_,rfl,x,R,_,_,_,rfl,hx,aI.cl,aI.na _ (by decide +kernel),hF.hand,rfl,?_⟩
 refine⟨_,rfl,λe=>?_,λe=>q2 λz=>?_⟩
 ·have ho:hd G p=h:=by have:=of_decide_eq_true e;injection this
  obtain⟨q,hw,qq⟩:=q1 ho
  have a2:o6 (om G.length wf) p=some (.int q):=gq hp.1 (by rw[F1 hp.1 hp.2,hw];rfl)
  refine⟨_,rfl,x,R,_,_,_,rfl,hx,aI.cl,aI.na _ (by decide +kernel),hF.rule,_,rfl,x,R,_,_,_,rfl,hx,aI.cl,aI.na _ (by decide +kernel),hF.at_,wa,_,_,_,rfl,rfl,bI.of hD.rule,a2,_,rfl,x,R,dx,fl,rfl,hx,aI.cl,aI.na _ (by decide +kernel),by omega,?_⟩
  exact⟨_,rfl,x,R,_,_,_,rfl,ar,aI.cl,aI.na _ (by decide +kernel),(hF.put q).at_,qq⟩
 ·rw[decide_eq_true (by rw[z])] at e;cases e
def uC (K:ak) (R:ah):Sp:=λvs H Q E=>∃ (x dx:ah) (fl:List (aT × V)) (G:List Row) (wf:Int->Option Int) (h p q:Int) (wa oa ua:ah) (m:Nat),vs=[.ref x,.int q]/\H x=some (.ins R dx fl)/\Qx fl h p wa oa ua m/\m<900/\RM H G wf wa oa ua/\xQ G p/\(hd G p≠h->q∈wy G p->Q .e8 (upd H x (.ins R dx (bZ "at" (.int q) fl))))/\(¬ (hd G p≠h/\q∈wy G p)->E (.ref (kO K "NoMove")) none H)
theorem O5 (F:iG K R "other" "RankPlay.other" gN ["self","place"]) (T:Txt mg) (aI:ClsAt K mg "RankPlay" R G6) (iL:M8 P w K mg base "check_due" 1 ["due"] (xb K)) (pe:M8 P w K mg base "check_way" 2 ["place","outs"] (EU K)):pi P w K mg base R "other" 3 ["self","place"] (uC K R):=by
 have sc:=sU
 refine F.TV sc (λvs H Q E h=>?_) (λf dk A outer s H vs Q E hr h=>?_)
 ·obtain⟨_,_,_,_,_,_,_,_,_,_,_,_,rfl,_⟩:=h;rfl
 obtain⟨x,dx,fl,G,wf,h,p,q,wa,oa,ua,m,rfl,hx,hF,hm,hD,hp,q1,q2⟩:=h
 have hl:=hF.len
 have a1:o6 ((im G.length (hd G)).map V.int) p=some (.int (hd G p)):=gq hp.1 (by rw[aB,uK hp.1 hp.2];rfl)
 obtain⟨row,iT⟩:∃ row,G[p.toNat]?=some row:=⟨G[p.toNat]'(by have:=hp.1;have:=hp.2;omega),by simp⟩
 obtain⟨u0,us,eu,hu0,pr⟩:=hD.outs
 cases eu
 obtain⟨uv,Xf,CC⟩:=Paired.at pr (i:=p.toNat) (x:=row.2.2) (by rw[aB,iT];rfl)
 obtain⟨b,rfl,hb⟩:=fL.mp CC
 have a3:o6 us p=some (.ref b):=gq hp.1 Xf
 refine⟨_,(au (cz (ux zi iL hr (af (kR qR (bM (lA (K:=K) rfl) (bW (K:=K) rfl (pv 0) rfl) (bW (K:=K) rfl (pv 0) rfl) (λ_ _=>rfl)) (bW (K:=K) rfl (pv 0) rfl) (dM _)) av)))
   (au (cz (ux zi pe hr (af (pv 1) (af (bM (lA (K:=K) rfl) (bW (K:=K) rfl (pv 0) rfl) (bW (K:=K) rfl (pv 0) rfl) (λ_ _=>rfl)) av))))
   (aG (fU (K:=K) rfl (pv 0) (pv 1) rfl)))),?_⟩
 refine⟨_,rfl,x,R,_,_,_,rfl,hx,aI.cl,aI.na _ (by decide +kernel),hF.own,_,rfl,x,R,_,_,_,rfl,hx,aI.cl,aI.na _ (by decide +kernel),hF.at_,oa,_,_,_,rfl,rfl,bI.of hD.own,a1,_,rfl,x,R,_,_,_,rfl,hx,aI.cl,aI.na _ (by decide +kernel),hF.hand,rfl,?_⟩
 refine⟨_,rfl,λe=>?_,λe=>q2 λz=>?_⟩
 ·have ho:hd G p≠h:=λy=>by rw[decide_eq_true (by rw[y])] at e;cases e
  refine⟨_,rfl,_,rfl,x,R,_,_,_,rfl,hx,aI.cl,aI.na _ (by decide +kernel),hF.outs,_,rfl,x,R,_,_,_,rfl,hx,aI.cl,aI.na _ (by decide +kernel),hF.at_,ua,_,_,_,rfl,rfl,bI.of hu0,a3,q,b,rfl,.inl ⟨row.2.2,hb,λk=>?_,λk=>q2 λy=>k (by rw[← xo iT];exact y.2)⟩⟩
  exact⟨_,rfl,_,rfl,x,R,dx,fl,rfl,hx,aI.cl,aI.na _ (by decide +kernel),by omega,q1 ho (by rw[xo iT];exact k)⟩
 ·have ho:=z.1
  rw[decide_eq_false (by intro k;cases k;exact ho rfl)] at e;cases e
def pz (K:ak) (R:ah) (m:aT) (sp:Sp) (x:ah) (us:List V) (H:Hp):Prop:=∀ H1,bh H H1->∃ dx fl,H1 x=some (.ins R dx fl)/\fl.lookup m=none/\∀ (Q:VK) (E:XK),E (.ref (kO K "NoMove")) none H1->sp (.ref x::us) H1 Q E
def RJ (K:ak) (R R2:ah) (x:ah) (H:Hp):Prop:=pz K R2 "go" (zm K R2) x [] H\/pz K R "go" (zn K R) x [] H
def vU (K:ak) (R R2:ah) (x:ah) (z:Int) (H:Hp):Prop:=pz K R2 "other" (uC K R2) x [.int z] H\/pz K R "other" (uD K R) x [.int z] H
theorem vU.up {x:ah} {z:Int} {H H':Hp} (h:vU K R R2 x z H) (s:bh H H'):vU K R R2 x z H':=h.imp (λh H1 s1=>h H1 (s.trans s1)) (λh H1 s1=>h H1 (s.trans s1))
abbrev Dq:List V:=[.bl true,.bl true,.bl false,.bl false]
theorem FY (XC:XT K mg "GarthError" Vu UR) {ns:List aT} (h:ns.all (λm=>decide (m∈UR) && !decide (("NoMove" : aT)=m))=true):∀ c∈ns.map (kO K),cF K (.ref (kO K "NoMove")) (.ref c)=some false:=λc hc=>by
 obtain⟨m,hm,rfl⟩:=bL.mp hc
 have h1:=fZ.mp h m hm
 rw[bU] at h1
 rw[XC.one "NoMove" (by decide) m (of_decide_eq_true h1.1)]
 have h2:=h1.2
 cases e:decide (("NoMove" : aT)=m) with
 | false=>rfl
 | true=>rw[e] at h2;cases h2
abbrev Jv:List aT:=["NoAmount","NoAsk","NoHand","NoMachine","NoName","NoPlace","NoRank"]
abbrev noB:List aT:=["NoRow","NoRule","NoText","NoWay","NoWish","TooMany"]
def Dl (K:ak) (R R2:ah):Sp:=λvs H Q _=>∃ (x:ah) (o:Option Int),vs=[.ref x,oV o]/\(o=none->RJ K R R2 x H)/\(∀ z,o=some z->vU K R R2 x z H)/\∀ (l:ah) (H':Hp),bh H H'->H' l=some (.lst Dq)->Q (.ref l) H'
theorem Iw (F:bz K mg "_law_marks" k6 ["_law_play","_law_place"]) (T:Txt mg) (XC:XT K mg "GarthError" Vu UR) (aI:ClsAt K mg "RankPlay" R2 G6) (ay:ClsAt K mg "PursePlay" R qZ) (mY:pi P w K mg base R2 "go" 2 ["self"] (zm K R2)) (lT:pi P w K mg base R "go" 2 ["self"] (zn K R)) (kC:pi P w K mg base R2 "other" 3 ["self","place"] (uC K R2)) (jT:pi P w K mg base R "other" 3 ["self","place"] (uD K R)):Dn P w K mg base "_law_marks" 4 ["_law_play","_law_place"] (Dl K R R2):=by
 have sc:=Bg
 refine F.ok sc (λvs H Q E h=>?_) (λf dk A outer s H vs Q E hr h=>?_)
 ·obtain⟨_,_,rfl,_⟩:=h;rfl
 obtain⟨x,o,rfl,n1,n2,q⟩:=h
 refine⟨_,(au (bP (i:=2) sc.nd rfl (bi rfl) (fb av))
   (au (Pk (i:=3) (Yj (iQ (ny (pv 1))) (Gi (Gb (C9 aI.cl mY hr (pv 0)) (C9 ay.cl lT hr (pv 0)))) (Gi (Gb (Ga aI.cl kC hr (pv 0) (af (pv 1) av)) (Ga ay.cl jT hr (pv 0) (af (pv 1) av))))) (XC.m "GarthError" (by decide)) (λ_=>(au (bP (i:=2) sc.nd rfl (bi rfl) (fb (af (cn (DW (K:=K) rfl) rfl T.gZ dj (af (pv 3) (af (iF (v:=.ref (kO K "NoMove")) rfl (XC.m "NoMove" (by decide)) rfl) av))) (af (cn (DX (T := "ValueError") (K:=K) rfl) rfl T.gZ dj (af (pv 3) (af (vD (v:=.ty "ValueError") rfl T.Ag N4 rfl) av))) av))))
   (au (cz (LK (K:=K) rfl aW aX aY dv (pv 2) (af (cn (v5 (K:=K) rfl) rfl T.gZ dj (af (pv 3) (af (jF (af (iF (v:=.ref (kO K "NoAmount")) rfl (XC.m "NoAmount" (by decide)) rfl) (af (iF (v:=.ref (kO K "NoAsk")) rfl (XC.m "NoAsk" (by decide)) rfl) (af (iF (v:=.ref (kO K "NoHand")) rfl (XC.m "NoHand" (by decide)) rfl) (af (iF (v:=.ref (kO K "NoMachine")) rfl (XC.m "NoMachine" (by decide)) rfl) (af (iF (v:=.ref (kO K "NoName")) rfl (XC.m "NoName" (by decide)) rfl) (af (iF (v:=.ref (kO K "NoPlace")) rfl (XC.m "NoPlace" (by decide)) rfl) (af (iF (v:=.ref (kO K "NoRank")) rfl (XC.m "NoRank" (by decide)) rfl) av)))))))) av))) av)))
   (aG (cz (LK (K:=K) rfl aW aX aY dv (pv 2) (af (cn (v5 (K:=K) rfl) rfl T.gZ dj (af (pv 3) (af (jF (af (iF (v:=.ref (kO K "NoRow")) rfl (XC.m "NoRow" (by decide)) rfl) (af (iF (v:=.ref (kO K "NoRule")) rfl (XC.m "NoRule" (by decide)) rfl) (af (iF (v:=.ref (kO K "NoText")) rfl (XC.m "NoText" (by decide)) rfl) (af (iF (v:=.ref (kO K "NoWay")) rfl (XC.m "NoWay" (by decide)) rfl) (af (iF (v:=.ref (kO K "NoWish")) rfl (XC.m "NoWish" (by decide)) rfl) (af (iF (v:=.ref (kO K "TooMany")) rfl (XC.m "TooMany" (by decide)) rfl) av))))))) av))) av))))))) sc.nd rfl rfl)
   (aG (cP (pv 2))))),?_⟩
 refine⟨bE _,λl0 hl0=>?_⟩
 have s1:=az hl0 (.lst [])
 generalize upd H l0 (.lst [])=H1 at s1 ⊢
 have h4:(o=none/\pz K R2 "go" (zm K R2) x [] H)\/(o=none/\pz K R "go" (zn K R) x [] H)\/(∃ z,o=some z/\pz K R2 "other" (uC K R2) x [.int z] H)\/∃ z,o=some z/\pz K R "other" (uD K R) x [.int z] H:=by
  cases o with
  | none=>exact (n1 rfl).elim (λh=>.inl ⟨rfl,h⟩) (λh=>.inr (.inl ⟨rfl,h⟩))
  | some z=>exact (n2 z rfl).elim (λh=>.inr (.inr (.inl ⟨z,rfl,h⟩))) (λh=>.inr (.inr (.inr ⟨z,rfl,h⟩)))
 rcases h4 with ⟨rfl,n⟩ | ⟨rfl,n⟩ | ⟨z,rfl,n⟩ | ⟨z,rfl,n⟩
 all_goals obtain⟨dx,fl,hx,hl,n⟩:=n H1 s1
 refine⟨_,rfl,true,rfl,jc (.inl ⟨_,rfl,x,dx,fl,rfl,hx,hl,n _ _ ?_⟩)⟩
 rotate_left
 refine⟨_,rfl,true,rfl,jc (.inr ⟨_,rfl,x,dx,fl,rfl,hx,hl,n _ _ ?_⟩)⟩
 rotate_left
 refine⟨_,rfl,false,rfl,eJ (.inl ⟨_,rfl,x,dx,fl,rfl,hx,hl,_,rfl,?_⟩)⟩
 dsimp only [vn]
 refine n _ _ ?_
 rotate_left
 refine⟨_,rfl,false,rfl,eJ (.inr ⟨_,rfl,x,dx,fl,rfl,hx,hl,_,rfl,?_⟩)⟩
 dsimp only [vn]
 refine n _ _ ?_
 all_goals
  refine⟨_,rfl,XC.hit "NoMove" (by decide),λea Nu=>?_⟩
  have he:upd H1 ea (GQ ea (kO K "NoMove")) ea=some (GQ ea (kO K "NoMove")):=ar
  have s2:=s1.trans (az Nu (GQ ea (kO K "NoMove")))
  generalize upd H1 ea (GQ ea (kO K "NoMove"))=H2 at he s2 ⊢
  refine⟨_,rfl,ea,_,_,_,rfl,he,XC.k "NoMove" (by decide),XC.one "NoMove" (by decide) "NoMove" (by decide),_,rfl,ea,_,_,rfl,he,XC.k "NoMove" (by decide),XC.val "NoMove" (by decide),(by show 2<=aL;decide),λl oJ=>?_⟩
  have h5:upd H2 l (.lst [V.bl (decide ("NoMove" = ("NoMove" : aT))),V.bl true]) l=some (.lst [V.bl true,V.bl true]):=by rw[ar,decide_eq_true rfl]
  have Wu:=az oJ (.lst [V.bl (decide ("NoMove" = ("NoMove" : aT))),V.bl true]) _ _ he
  have s3:=s2.trans (az oJ (.lst [V.bl (decide ("NoMove" = ("NoMove" : aT))),V.bl true]))
  have l0:H l=none:=s2.free oJ
  generalize upd H2 l (.lst [V.bl (decide ("NoMove" = ("NoMove" : aT))),V.bl true])=H3 at h5 Wu s3 ⊢
  have nel:ea≠l:=λz=>by rw[z,h5] at Wu;cases Wu
  refine⟨_,rfl,.inl ⟨rfl,_,bI.of h5⟩,_,rfl,(by show 7<=aL;decide),λt1 FH=>?_⟩
  refine⟨ea,_,t1,Jv.map (kO K),rfl,az FH _ _ _ Wu,XC.k "NoMove" (by decide),ar,FY XC (by decide +kernel),?_⟩
  have h6:=az FH (.tup ((Jv.map (kO K)).map V.ref)) _ _ h5
  have s4:=s3.trans (az FH (.tup ((Jv.map (kO K)).map V.ref)))
  have he4:=az FH (.tup ((Jv.map (kO K)).map V.ref)) _ _ Wu
  refine⟨l,_,_,rfl,rfl,h6,(by show 2<aL;decide),?_⟩
  have s5:=s4.put l0 (.lst ([V.bl true,V.bl true]++[V.bl false]))
  have h7:upd (upd H3 t1 (.tup ((Jv.map (kO K)).map V.ref))) l (.lst ([V.bl true,V.bl true]++[V.bl false])) l=some (.lst [V.bl true,V.bl true,V.bl false]):=ar
  have he5:upd (upd H3 t1 (.tup ((Jv.map (kO K)).map V.ref))) l (.lst ([V.bl true,V.bl true]++[V.bl false])) ea=some (GQ ea (kO K "NoMove")):=by rw[bB nel];exact he4
  refine⟨_,rfl,.inl ⟨rfl,_,bI.of h7⟩,_,rfl,(by show 6<=aL;decide),λt2 yT=>?_⟩
  refine⟨ea,_,t2,noB.map (kO K),rfl,az yT _ _ _ he5,XC.k "NoMove" (by decide),ar,FY XC (by decide +kernel),?_⟩
  refine⟨l,_,_,rfl,rfl,az yT _ _ _ h7,(by show 3<aL;decide),?_⟩
  exact⟨_,rfl,q l _ ((s5.trans (az yT _)).put l0 _) ar⟩
def oB:Option Bool->V
 | none=>.e8
 | some b=>.bl b
def GF (K:ak) (R R2:ah):Sp:=λvs H Q _=>∃ (x oa:ah) (n c:Int) (os:List Int) (own:Option Bool),vs=[.ref x,.int n,.ref oa,oB own,.int c]/\H oa=some (.lst (os.map V.int))/\os≠[]/\os.length<=10/\0<=n/\n<=20/\0<=c/\c<2 ^ 40/\(∀ z∈os,0<=z/\z<n)/\(own≠some true->RJ K R R2 x H)/\(own=some false->∀ z,z ∉ os->vU K R R2 x z H)/\(own≠some false->∀ z,vU K R R2 x z H) /\
 ∀ (l:ah) (H':Hp),bh H H'->H' l=some (.lst Dq)->Q (.ref l) H'
theorem Ly (F:bz K mg "_law_wrong" jM ["_law_play","_law_many","_law_places_here","_law_own","_law_cell"]) (T:Txt mg) (pf:Dn P w K mg base "_law_marks" 4 ["_law_play","_law_place"] (Dl K R R2)):Dn P w K mg base "_law_wrong" 5 ["_law_play","_law_many","_law_places_here","_law_own","_law_cell"] (GF K R R2):=by
 have sc:=Bh
 refine F.ok sc (λvs H Q E h=>?_) (λf dk A outer s H vs Q E hr h=>?_)
 ·obtain⟨_,_,_,_,_,_,rfl,_⟩:=h;rfl
 obtain⟨x,oa,n,c,os,own,rfl,xu,kx,yP,n0,n20,c0,c40,SO,g1,g2,g3,q⟩:=h
 have ol:0<os.length:=b7.mpr kx
 refine⟨_,(au (fo (PW.pt (a0n (PW.pt (a0i (iQ (ny (pv 3))) (a0g (dG md (bX eK (pv 4) aK) aK (dM _))))) (a0k (PW.pt (a0i (iQ (AR (pv 3))) (a0g (dG md (bX eK (pv 4) aK) aK (dM _))))))))
   (aG (cP (cO pf hr (af (pv 0) (af mj av)))))
   dq)
   (au (fo (iQ (AR (pv 3)))
   (au (pX (i:=5) (aC jM) ["_law_play","_law_many","_law_places_here","_law_own","_law_cell","_law_strangers"] ["_law_place","_law_places_here"] 1 [2] sc.nd rfl rfl (iB rfl T.jX (af (pv 1) av)) (λ_ _ _ _ _ _=>(eH (show cT (["_law_place","_law_places_here"]:List aT) by decide +kernel) rfl rfl)) (λ_ _ _ _ _ _=>(mU (dG (Et (K:=K) rfl) (pv 0) (pv 1) rfl))) (λ_ _ _ _ _ _=>(pv 0)))
   (au (cz (jp aW aX aY dv (pv 5) (af (bX jE (pv 1) (bX gB (bX eK (bX lK (pv 4) aK) aK) (bX lK (pv 4) aK))) av)))
   (au (cz (jp aW aX aY dv (pv 5) (af (bX wG (LQ EZ aK) (bX eK (bX lK (pv 4) aK) aK)) av)))
   (aG (cP (cO pf hr (af (pv 0) (af (bM (lA (K:=K) rfl) (pv 5) (bX eK (bX lK (pv 4) aK) (cn (iu (K:=K) rfl) rfl T.iq bN (af (pv 5) av))) (λ_ _=>rfl)) av))))))))
   dq)
   (aG (cP (cO pf hr (af (pv 0) (af (bM (lA (K:=K) rfl) (pv 2) (bX eK (bX lK (pv 4) aK) (cn (iu (K:=K) rfl) rfl T.iq bN (af (pv 2) av))) (λ_ _=>rfl)) av))))))),?_⟩
 have i0:=dA (c / 4) (show ((os.map V.int).length:Int)≠0 by rw[aj];omega)
 have i1:=cQ (c / 4) (show 0<((os.map V.int).length:Int) by rw[aj];omega)
 obtain⟨z,hz⟩:∃ z,os[(c / 4 % ((os.map V.int).length:Int)).toNat]?=some z:=⟨os[(c / 4 % ((os.map V.int).length:Int)).toNat]'(by rw[aj] at i0 i1 ⊢;omega),by simp⟩
 rcases own with _ | b
 ·-- Rb purse is below 0
  refine⟨_,rfl,true,rfl,jc ?_⟩
  refine⟨_,rfl,_,_,rfl,rfl,(show (0:Int)<2 by decide),rfl,_,rfl,?_⟩
  refine iO (λ_=>?_) (λ_=>?_)
  ·refine jc ?_
   exact⟨_,rfl,x,none,rfl,λ_=>g1 (λz=>by cases z),(λ_ z=>by cases z),q⟩
  ·refine⟨_,rfl,.inl rfl,false,rfl,eJ ?_⟩
   refine eJ ?_
   refine⟨_,rfl,.inl rfl,false,rfl,eJ ?_⟩
   refine⟨_,rfl,_,rfl,_,rfl,_,_,rfl,rfl,⟨by decide,by decide⟩,_,rfl,oa,_,rfl,.inl (bI.of xu),_,_,rfl,rfl,(by rw[aj];omega),oa,_,_,_,rfl,rfl,bI.of xu,gq i0 (by rw[aB,hz];rfl),x,some z,rfl,(λz=>by cases z),(λz' e=>by cases e;exact g3 (λz=>by cases z) _),q⟩
 ·cases b with
  | true =>
   refine⟨_,rfl,false,rfl,eJ ?_⟩
   refine eJ ?_
   refine⟨_,rfl,.inr ⟨true,rfl⟩,false,rfl,eJ ?_⟩
   refine eJ ?_
   refine⟨_,rfl,.inr ⟨true,rfl⟩,false,rfl,eJ ?_⟩
   refine⟨_,rfl,_,rfl,_,rfl,_,_,rfl,rfl,⟨by decide,by decide⟩,_,rfl,oa,_,rfl,.inl (bI.of xu),_,_,rfl,rfl,(by rw[aj];omega),oa,_,_,_,rfl,rfl,bI.of xu,gq i0 (by rw[aB,hz];rfl),x,some z,rfl,(λz=>by cases z),(λz' e=>by cases e;exact g3 (λz=>by cases z) _),q⟩
  | false =>
   refine⟨_,rfl,false,rfl,eJ ?_⟩
   refine eJ ?_
   refine⟨_,rfl,.inr ⟨false,rfl⟩,true,rfl,jc ?_⟩
   refine⟨_,rfl,_,_,rfl,rfl,(show (0:Int)<4 by decide),rfl,_,rfl,?_⟩
   refine iO (λ_=>?_) (λ_=>?_)
   ·exact⟨_,rfl,x,none,rfl,λ_=>g1 (λz=>by cases z),(λ_ z=>by cases z),q⟩
   refine⟨_,rfl,.inr ⟨false,rfl⟩,true,rfl,jc ?_⟩
   refine⟨_,rfl,n,rfl,by omega,by omega,pD (lo:=0) (n:=n.toNat) (λk ys H3=>H3=H/\∃ L:List Int,ys=L.map V.int/\L.length<=k/\∀ z∈L,z ∉ os) ⟨rfl,[],rfl,aA _,λ_ z=>by cases z⟩ (a0b (m:=1000) (by omega)) (λk ys H3 hk h=>?_) (λk ys H3 hk h=>?_) (λys H3 h l hl=>?_)⟩
   ·obtain⟨rfl,L,rfl,h1,_⟩:=h
    rw[aj];exact h1
   ·obtain⟨rfl,L,rfl,h1,h2⟩:=h
    refine⟨_,rfl,_,rfl,oa,_,rfl,.inl (bI.of xu),rfl,ue os,?_⟩
    rw[wp]
    refine⟨_,rfl,?_⟩
    by_cases c9:(0+(k:Int))∈os
    ·rw[decide_eq_true c9]
     exact eJ ⟨rfl,L,rfl,by omega,h2⟩
    ·rw[decide_eq_false c9]
     refine jc ⟨_,rfl,rfl,L++[0+(k:Int)],by rw[aM];rfl,by rw[aJ];simp;omega,λz hz=>?_⟩
     rcases bo.mp hz with e | e
     ·exact h2 z e
     ·rw[be.mp e];exact c9
   obtain⟨rfl,L,rfl,h1,h2⟩:=h
   have s1:=az hl (.lst (L.map V.int))
   have q1:upd H3 l (.lst (L.map V.int)) l=some (.lst (L.map V.int)):=ar
   have hn:=hl
   generalize upd H3 l (.lst (L.map V.int))=H4 at s1 q1 ⊢
   refine⟨_,rfl,.inl ⟨rfl,_,bI.of q1⟩,_,rfl,_,rfl,_,_,rfl,rfl,⟨by decide,by decide⟩,_,_,rfl,rfl,(show (0:Int)<3 by decide),_,rfl,_,_,rfl,rfl,⟨by decide,by decide⟩,_,_,rfl,rfl,.inl ⟨by omega,by omega⟩,_,_,rfl,rfl,l,_,_,rfl,rfl,q1,(mK (m:=1000) (by rw[aj];omega)),?_⟩
   have s2:=s1.put hn (.lst (L.map V.int++[V.int (n+c / 4 % 3*(c / 12))]))
   have q2:upd H4 l (.lst (L.map V.int++[V.int (n+c / 4 % 3*(c / 12))])) l=some (.lst ((L++[n+c / 4 % 3*(c / 12)]).map V.int)):=by rw[ar,aM];rfl
   have k1:∀ z∈L++[n+c / 4 % 3*(c / 12)],z ∉ os:=λz hz=>by
    rcases bo.mp hz with e | e
    ·exact h2 z e
    ·rw[be.mp e]
     intro y
     have:=(SO _ y).2
     have:=Int.mul_nonneg (show (0:Int)<=c / 4 % 3 by omega) (show (0:Int)<=c / 12 by omega)
     omega
   have kl:(L++[n+c / 4 % 3*(c / 12)]).length<=30:=by rw[aJ];simp;omega
   generalize upd H4 l (.lst (L.map V.int++[V.int (n+c / 4 % 3*(c / 12))]))=H5 at s2 q2 ⊢
   generalize L++[n+c / 4 % 3*(c / 12)]=L1 at k1 kl q2
   refine⟨_,rfl,.inl ⟨rfl,_,bI.of q2⟩,_,rfl,_,rfl,_,_,rfl,rfl,⟨by decide,by decide⟩,_,_,rfl,rfl,(show (0:Int)<9 by decide),_,_,rfl,rfl,l,_,_,rfl,rfl,q2,(mK (m:=1000) (by rw[aj];omega)),?_⟩
   have s3:=s2.put hn (.lst (L1.map V.int++[V.int (-1-c / 4 % 9)]))
   have q3:upd H5 l (.lst (L1.map V.int++[V.int (-1-c / 4 % 9)])) l=some (.lst ((L1++[-1-c / 4 % 9]).map V.int)):=by rw[ar,aM];rfl
   have k2:∀ z∈L1++[-1-c / 4 % 9],z ∉ os:=λz hz=>by
    rcases bo.mp hz with e | e
    ·exact k1 z e
    ·rw[be.mp e]
     intro y
     have:=(SO _ y).1
     omega
   have l2:0<(L1++[-1-c / 4 % 9]).length:=by rw[aJ];simp
   generalize upd H5 l (.lst (L1.map V.int++[V.int (-1-c / 4 % 9)]))=H6 at s3 q3 ⊢
   generalize L1++[-1-c / 4 % 9]=U0 at k2 l2 q3
   have j0:=dA (c / 5) (show ((U0.map V.int).length:Int)≠0 by rw[aj];omega)
   have j1:=cQ (c / 5) (show 0<((U0.map V.int).length:Int) by rw[aj];omega)
   obtain⟨z2,Ib⟩:∃ z,U0[(c / 5 % ((U0.map V.int).length:Int)).toNat]?=some z:=⟨U0[(c / 5 % ((U0.map V.int).length:Int)).toNat]'(by rw[aj] at j0 j1 ⊢;omega),by simp⟩
   exact⟨_,rfl,_,rfl,_,rfl,_,_,rfl,rfl,⟨by decide,by decide⟩,_,rfl,l,_,rfl,.inl (bI.of q3),_,_,rfl,rfl,(by rw[aj];omega),l,_,_,_,rfl,rfl,bI.of q3,gq j0 (by rw[aB,Ib];rfl),x,some z2,rfl,(λz=>by cases z),(λz' e=>by cases e;exact (g2 rfl _ (k2 _ (am Ib))).up s3),λl9 H9 s9 h9=>q l9 H9 (s3.trans s9) h9⟩
def xa (K:ak):Sp:=λvs H Q _=>∃ (a:ah) (ns:List Int) (k:Int),vs=[.ref a,.int k]/\bI K H a (ns.map V.int)/\0<=k/\∀ m:Int,Q (.int m) H
theorem OY (F:bz K mg "_law_cell_at" ju ["_law_script","_law_k"]) (T:Txt mg):Dn P w K mg base "_law_cell_at" 1 ["_law_script","_law_k"] (xa K):=by
 have sc:=wW
 refine F.ok sc (λvs H Q E h=>?_) (λf dk A outer s H vs Q E hr h=>?_)
 ·obtain⟨a,ns,k,rfl,_⟩:=h;rfl
 obtain⟨a,ns,k,rfl,hS,h0,q⟩:=h
 have hl:(ns.map V.int).length=ns.length:=aj _
 refine⟨_,(au (fo (dG LC (pv 1) (cn (iu (K:=K) rfl) rfl T.iq bN (af (pv 0) av)) (dM _))
   (aG (cP (bM (lA (K:=K) rfl) (pv 0) (pv 1) (λ_ _=>rfl))))
   dq)
   (aG (cP aK))),?_⟩
 refine⟨_,rfl,_,rfl,a,_,rfl,.inl hS,_,_,rfl,rfl,_,rfl,?_⟩
 refine iO (λc=>?_) (λc=>?_)
 ·have c':=of_decide_eq_true c
  rw[hl] at c'
  obtain⟨m,hm⟩:∃ m,ns[k.toNat]?=some m:=⟨ns[k.toNat]'(by omega),by simp⟩
  exact⟨_,rfl,_,rfl,a,_,_,_,rfl,rfl,hS,gq h0 (by rw[aB,hm];rfl),q m⟩
 ·exact q 0
def xf (K:ak):Sp:=λvs H Q _=>∃ (a:ah) (ns:List Int) (n k:Int),vs=[.ref a,.int n,.int k]/\bI K H a (ns.map V.int)/\1<=n/\n<=10/\0<=k/\k<=10/\∀ (p:ah) (ws:List Int) (H':Hp),bh H H'->H p=none->H' p=some (.lst (ws.map V.int))->ws.Pairwise (·<·)->(∀ x∈ws,0<=x/\x<n)->ws≠[]->ws.length<=3->Q (.ref p) H'
theorem Ey (F:bz K mg "_law_places" j7 ["_law_script","_law_many","_law_k"]) (T:Txt mg) (fF:Dn P w K mg base "_law_cell_at" 1 ["_law_script","_law_k"] (xa K)):Dn P w K mg base "_law_places" 2 ["_law_script","_law_many","_law_k"] (xf K):=by
 have sc:=yd
 refine F.ok sc (λvs H Q E h=>?_) (λf dk A outer s H vs Q E hr h=>?_)
 ·obtain⟨_,_,_,_,rfl,_⟩:=h;rfl
 obtain⟨a,ns,n,k,rfl,hS,n1,n10,k0,k10,q⟩:=h
 refine⟨_,(au (bP (i:=3) sc.nd rfl (bi rfl) (bX jE (cO fF hr (af (pv 0) (af (bX jE aK (pv 2)) av))) (bX gB (bX gB aK (pv 2)) (pv 2))))
   (au (bP (i:=4) sc.nd rfl (bi rfl) (fb (af (bX eK (bX eK (bX gB (pv 3) aK) aK) (pv 1)) av)))
   (au (eS bn rfl (iB rfl T.jX (af (bX eK (bX eK (bX gB (pv 3) aK) aK) aK) av)) (cE (i:=5) sc.nd rfl (bi rfl))
   (aG (cz (jp aW aX aY dv (pv 4) (af (bX eK (bX eK (bX jE (bX gB (bX gB (pv 3) (bX jE (pv 5) aK)) aK) (bX gB aK (pv 5))) aK) (pv 1)) av)))))
   (aG (cP (wK (K:=K) rfl rfl rfl T.v2 rfl T.VY (af (pv 4) av))))))),?_⟩
 refine⟨_,rfl,_,rfl,_,_,rfl,rfl,a,ns,_,rfl,hS,by omega,λm5=>?_⟩
 refine⟨_,rfl,_,_,rfl,rfl,.inl ⟨by decide,by decide⟩,_,rfl,_,_,rfl,rfl,.inl ⟨by omega,by omega⟩,_,_,rfl,rfl,?_⟩
 have f0:=dA ((m5+17*k*k)*48271 % 65521) (show n≠0 by omega)
 have f1:=cQ ((m5+17*k*k)*48271 % 65521) (show 0<n by omega)
 have e0:=dA ((m5+17*k*k)*30011 % 32749) (show (3:Int)≠0 by decide)
 have e1:=cQ ((m5+17*k*k)*30011 % 32749) (show (0:Int)<3 by decide)
 refine⟨_,rfl,_,_,rfl,rfl,.inr ⟨by decide,by decide⟩,_,_,rfl,rfl,(show (0:Int)<65521 by decide),_,rfl,_,_,rfl,rfl,(show 0<n by omega),(by show 1<=aL;decide),λl oJ=>?_⟩
 refine⟨_,rfl,_,_,rfl,rfl,.inr ⟨by decide,by decide⟩,_,_,rfl,rfl,(show (0:Int)<32749 by decide),_,_,rfl,rfl,(show (0:Int)<3 by decide),_,rfl,by omega,by omega,kE (lo:=0) (n:=((m5+17*k*k)*30011 % 32749 % 3).toNat) (λj σ Hz=>∃ (ws:List Int) (y3:Option V),σ=[some (.ref a),some (.int n),some (.int k),some (.int (m5+17*k*k)),some (.ref l),y3]/\bh H Hz/\Hz l=some (.lst (ws.map V.int))/\ws.length=j+1/\∀ x∈ws,0<=x/\x<n)
  ⟨[(m5+17*k*k)*48271 % 65521 % n],_,rfl,az oJ _,ar,rfl,λx hx=>by rw[be.mp hx];exact⟨f0,f1⟩⟩ (λj σ Hz hj h=>?_) (λσ Hz h=>?_)⟩
 ·obtain⟨ws,y5,rfl,sz,hz,rD,Js⟩:=h
  refine⟨_,rfl,.inl ⟨rfl,_,bI.of hz⟩,_,rfl,_,rfl,_,_,rfl,rfl,_,_,rfl,rfl,.inr ⟨by omega,by omega⟩,_,_,rfl,rfl,.inr ⟨by decide,by decide⟩,_,rfl,_,_,rfl,rfl,.inl ⟨by decide,by decide⟩,_,_,rfl,rfl,_,_,rfl,rfl,(show (0:Int)<50021 by decide),_,rfl,_,_,rfl,rfl,(show 0<n by omega),l,_,_,rfl,rfl,hz,(mK (m:=1000) (by rw[aj];omega)),?_⟩
  refine⟨ws++[((m5+17*k*k)*(0+((j:Nat):Int)+2)*16807+5*(0+((j:Nat):Int))) % 50021 % n],_,rfl,sz.put oJ _,by rw[ar,aM];rfl,by rw[aJ,rD];rfl,λx hx=>?_⟩
  rcases bo.mp hx with h | h
  ·exact Js x h
  ·rw[be.mp h]
   exact⟨dA _ (by omega),cQ _ (by omega)⟩
 obtain⟨ws,y5,rfl,sz,hz,rD,Js⟩:=h
 have yU:ws.length<=3:=by omega
 refine⟨_,rfl,l,ws,rfl,bI.of hz,by omega,(λns hn hs=>by have:=iA ns _ hn hs;omega),λp vs hp pw mem=>?_⟩
 have hvl:vs.length<=ws.length:=iA vs ws (pw.imp λh=>by omega) λk hk=>(mem k).mp hk
 refine q p vs _ (sz.trans (az hp _)) (sz.free hp) ar pw (λx hx=>Js x ((mem x).mp hx)) (λz=>?_) (by omega)
 obtain⟨w0,KQ⟩:∃ w0,w0∈ws:=by
  cases ws with
  | nil=>simp at rD
  | cons w0 _=>exact⟨w0,aP⟩
 have:=(mem w0).mpr KQ
 rw[z] at this;cases this
def GC (K:ak):Sp:=λvs H Q _=>∃ (a:ah) (ns:List Int) (n:Int),vs=[.ref a,.int n]/\bI K H a (ns.map V.int)/\2<=n/\n<=7/\∀ (v:V) (H':Hp) (G:List Row),bh H H'->oN H' G v->(G.length:Int)=n->B5 G->VC G->NE G->(∀ row∈G,0<=row.2.1/\row.2.1<41)->(∀ row∈G,row.2.2.length<=3)->Q v H'
theorem Lw (F:bz K mg "_law_rank_game" iy ["_law_script","_law_many"]) (T:Txt mg) (fF:Dn P w K mg base "_law_cell_at" 1 ["_law_script","_law_k"] (xa K)) (n8:Dn P w K mg base "_law_places" 2 ["_law_script","_law_many","_law_k"] (xf K)):Dn P w K mg base "_law_rank_game" 3 ["_law_script","_law_many"] (GC K):=by
 have sc:=uA
 refine F.ok sc (λvs H Q E h=>?_) (λf dk A outer s H vs Q E hr h=>?_)
 ·obtain⟨_,_,_,rfl,_⟩:=h;rfl
 obtain⟨a,ns,n,rfl,hS,n2,n7,q⟩:=h
 refine⟨_,(au (bP (i:=2) sc.nd rfl (bi rfl) (fb av))
   (au (eS bn rfl (iB rfl T.jX (af (pv 1) av)) (cE (i:=3) sc.nd rfl (bi rfl))
   (au (bP (i:=4) sc.nd rfl (bi rfl) (bX jE (cO fF hr (af (pv 0) (af (bX jE aK (pv 3)) av))) (bX gB (bX gB aK (pv 3)) (pv 3))))
   (aG (cz (jp aW aX aY dv (pv 2) (af (jF (af (bX eK (bX eK (bX gB (pv 4) aK) aK) aK) (af (bX eK (bX eK (bX gB (pv 4) aK) aK) aK) (af (cO n8 hr (af (pv 0) (af (pv 1) (af (pv 3) av)))) av)))) av))))))
   (aG (cP (pv 2))))),?_⟩
 refine⟨bE _,λg hg=>?_⟩
 refine⟨_,rfl,n,rfl,by omega,by omega,kE (lo:=0) (n:=n.toNat) (λi σ Hy=>∃ (G':List Row) (y3 y4:Option V),σ=[some (.ref a),some (.int n),some (.ref g),y3,y4]/\zN LX H Hy g G'/\G'.length=i/\∀ row∈G',row.2.2≠[]/\JT n row.2.2/\(row.1=0\/row.1=1)/\0<=row.2.1/\row.2.1<41/\row.2.2.length<=3)
  ⟨[],_,_,rfl,zN.start (bh.refl _) hg,rfl,λ_ z=>by cases z⟩ (λi σ Hy hi h=>?_) (λσ Hy h=>?_)⟩
 ·obtain⟨G',y3,y4,rfl,b,hl,hk⟩:=h
  refine⟨_,rfl,_,rfl,_,_,rfl,rfl,a,ns,_,rfl,b.s.seq hS,by omega,λm5=>?_⟩
  refine⟨_,rfl,_,_,rfl,rfl,.inl ⟨by decide,by decide⟩,_,rfl,_,_,rfl,rfl,.inl ⟨by omega,by omega⟩,_,_,rfl,rfl,?_⟩
  obtain⟨cl,xV⟩:∃ cl:Int,m5+17*(0+((i:Nat):Int))*(0+((i:Nat):Int))=cl:=⟨_,rfl⟩
  rw[show (λa b:Int=>V.int (a+b)) m5 (17*(0+((i:Nat):Int))*(0+((i:Nat):Int)))=V.int cl from congrArg V.int xV]
  obtain⟨Wd,On,_⟩:=b.sq
  refine⟨_,rfl,.inl ⟨rfl,_,bI.of On⟩,_,rfl,_,_,rfl,rfl,.inr ⟨by decide,by decide⟩,_,_,rfl,rfl,(show (0:Int)<10007 by decide),_,_,rfl,rfl,(show (0:Int)<2 by decide),_,rfl,_,_,rfl,rfl,.inr ⟨by decide,by decide⟩,_,_,rfl,rfl,(show (0:Int)<20011 by decide),_,_,rfl,rfl,(show (0:Int)<6 by decide),_,rfl,_,rfl,_,rfl,a,ns,n,_,rfl,b.s.seq hS,by omega,by omega,by omega,by omega,λp ws H2 s2 SQ hp pw Js kx h3=>?_⟩
  refine⟨(by show 3<=aL;decide),λt2 yT=>?_⟩
  obtain⟨Y3,k1,k2,b4⟩:=b.push wz (s2.trans (az yT _)) (Pu (h:=cl*69621 % 10007 % 2) (r:=cl*40692 % 20011 % 6) s2 SQ hp yT)
  refine⟨g,Y3,_,rfl,rfl,k1,(mK (m:=1000) (by omega)),?_⟩
  refine⟨_,_,_,rfl,b4,by simp[hl],λrw iT=>?_⟩
  rcases bo.mp iT with h | h
  ·exact hk rw h
  ·rw[be.mp h]
   have e0:=dA (cl*69621 % 10007) (show (2:Int)≠0 by decide)
   have e1:=cQ (cl*69621 % 10007) (show (0:Int)<2 by decide)
   have g0:=dA (cl*40692 % 20011) (show (6:Int)≠0 by decide)
   have g1:=cQ (cl*40692 % 20011) (show (0:Int)<6 by decide)
   exact⟨kx,⟨pw,Js,by show ws.length<=40;omega⟩,by show cl*69621 % 10007 % 2=0\/cl*69621 % 10007 % 2=1;omega,g0,by show cl*40692 % 20011 % 6<41;omega,h3⟩
 ·obtain⟨G',y3,y4,rfl,b,hl,hk⟩:=h
  have e:(G'.length:Int)=n:=by omega
  exact⟨_,rfl,q _ _ G' b.s (jL.up (ur _ _) (b.done wz)) e ⟨by omega,λrow hr=>by rw[e];exact (hk row hr).2.1⟩ (λrow hr=>(hk row hr).2.2.1) (λrow hr=>(hk row hr).1) (λrow hr=>⟨(hk row hr).2.2.2.1,(hk row hr).2.2.2.2.1⟩) (λrow hr=>(hk row hr).2.2.2.2.2)⟩
def GB (K:ak):Sp:=λvs H Q _=>∃ (a:ah) (ns:List Int) (n:Int),vs=[.ref a,.int n]/\bI K H a (ns.map V.int)/\2<=n/\n<=7/\∀ (v:V) (H':Hp) (G:List cw),bh H H'->IF H' G v->(G.length:Int)=n->vv G->(∀ row∈G,row.1=0\/row.1=1)->(∀ row∈G,row.2.length<=3)->Q v H'
abbrev rPR:Rel cw:=Uk gG IG
theorem FV:io rPR:=ql cR eV
theorem Lu (F:bz K mg "_law_purse_game" gP ["_law_script","_law_many"]) (T:Txt mg) (fF:Dn P w K mg base "_law_cell_at" 1 ["_law_script","_law_k"] (xa K)) (n8:Dn P w K mg base "_law_places" 2 ["_law_script","_law_many","_law_k"] (xf K)):Dn P w K mg base "_law_purse_game" 3 ["_law_script","_law_many"] (GB K):=by
 have sc:=sV
 refine F.ok sc (λvs H Q E h=>?_) (λf dk A outer s H vs Q E hr h=>?_)
 ·obtain⟨_,_,_,rfl,_⟩:=h;rfl
 obtain⟨a,ns,n,rfl,hS,n2,n7,q⟩:=h
 refine⟨_,(au (bP (i:=2) sc.nd rfl (bi rfl) (fb av))
   (au (eS bn rfl (iB rfl T.jX (af (pv 1) av)) (cE (i:=3) sc.nd rfl (bi rfl))
   (au (bP (i:=4) sc.nd rfl (bi rfl) (bX jE (cO fF hr (af (pv 0) (af (bX jE aK (pv 3)) av))) (bX gB (bX gB aK (pv 3)) (pv 3))))
   (au (bP (i:=5) sc.nd rfl (bi rfl) (fb av))
   (au (eS bn rfl (dm (cO n8 hr (af (pv 0) (af (pv 1) (af (pv 3) av))))) (cE (i:=6) sc.nd rfl (bi rfl))
   (aG (cz (jp aW aX aY dv (pv 5) (af (jF (af (pv 6) (af (bX wG (bX eK (bX eK (bX jE (bX gB (pv 4) aK) (bX gB (pv 6) aK)) aK) aK) aK) av))) av)))))
   (aG (cz (jp aW aX aY dv (pv 2) (af (jF (af (bX eK (bX eK (bX gB (pv 4) aK) aK) aK) (af (pv 5) av))) av))))))))
   (aG (cP (pv 2))))),?_⟩
 refine⟨bE _,λg hg=>?_⟩
 refine⟨_,rfl,n,rfl,by omega,by omega,kE (lo:=0) (n:=n.toNat) (λi σ Hy=>∃ (G':List cw) (y3 y4 y5 y6:Option V),σ=[some (.ref a),some (.int n),some (.ref g),y3,y4,y5,y6]/\zN rPR H Hy g G'/\G'.length=i/\∀ row∈G',row.2≠[]/\(row.2.map (·.1)).Nodup/\(∀ w∈row.2,0<=w.1/\w.1<n)/\(row.1=0\/row.1=1)/\row.2.length<=3)
  ⟨[],_,_,_,_,rfl,zN.start (bh.refl _) hg,rfl,λ_ z=>by cases z⟩ (λi σ Hy hi h=>?_) (λσ Hy h=>?_)⟩
 ·obtain⟨G',y3,y4,y5,y6,rfl,b,hl,hk⟩:=h
  refine⟨_,rfl,_,rfl,_,_,rfl,rfl,a,ns,_,rfl,b.s.seq hS,by omega,λm5=>?_⟩
  refine⟨_,rfl,_,_,rfl,rfl,.inl ⟨by decide,by decide⟩,_,rfl,_,_,rfl,rfl,.inl ⟨by omega,by omega⟩,_,_,rfl,rfl,?_⟩
  obtain⟨cl,xV⟩:∃ cl:Int,m5+17*(0+((i:Nat):Int))*(0+((i:Nat):Int))=cl:=⟨_,rfl⟩
  rw[show (λa b:Int=>V.int (a+b)) m5 (17*(0+((i:Nat):Int))*(0+((i:Nat):Int)))=V.int cl from congrArg V.int xV]
  refine⟨bE _,λwl adg=>?_⟩
  have bw0:zN (Uk gG gG) Hy (upd Hy wl (.lst [])) wl []:=zN.start (bh.refl _) adg
  have nT:upd Hy wl (.lst []) wl=some (.lst []):=ar
  generalize upd Hy wl (.lst [])=Hw at bw0 nT ⊢
  refine⟨_,rfl,_,rfl,_,rfl,a,ns,n,_,rfl,(b.s.trans bw0.s).seq hS,by omega,by omega,by omega,by omega,λp vs Hv s2 SQ hp pw hvn kx h3=>?_⟩
  have bw1:=bw0.go (ql cR cR) s2
  have npw:p≠wl:=λz=>by rw[z,nT] at SQ;cases SQ
  refine⟨p,rfl,⟨_,bI.of hp⟩,iN (K:=K) (a:=p) (xs:=vs.map V.int) (λk σ Hq=>∃ (W:List Wy) (y6:Option V),σ=[some (.ref a),some (.int n),some (.ref g),some (.int (0+((i:Nat):Int))),some (.int cl),some (.ref wl),y6]/\zN (Uk gG gG) Hy Hq wl W/\Hq p=some (.lst (vs.map V.int))/\W.map (·.1)=vs.take k)
   ⟨[],_,rfl,bw1,hp,rfl⟩ (λk σ Hq hk h=>?_) (λk x σ Hq hk h=>?_) (λσ Hq h=>?_)⟩
  ·obtain⟨_,_,_,_,h,_⟩:=h
   exact bI.of h
  ·obtain⟨W,y6,rfl,bw,hq,hW⟩:=h
   obtain⟨x,hx,rfl⟩:=fm hk
   obtain⟨x0,x1⟩:=hvn x (am hx)
   have kl:=(ag.mp hx).1
   have Wl:W.length=k:=by have:=congrArg rR hW;rw[aj,eE] at this;omega
   obtain⟨vs0,ZY,hv1⟩:=bw.sq
   refine⟨_,rfl,.inl ⟨rfl,_,bI.of ZY⟩,_,rfl,_,rfl,_,_,rfl,rfl,.inr ⟨by decide,by decide⟩,_,rfl,_,_,rfl,rfl,.inr ⟨by decide,by decide⟩,_,_,rfl,rfl,_,_,rfl,rfl,(show (0:Int)<20011 by decide),_,_,rfl,rfl,(show (0:Int)<7 by decide),_,_,rfl,rfl,(by show 2<=aL;decide),λt ht=>?_⟩
   obtain⟨Y3,k1,k2,b4⟩:=bw.push (ql cR cR) (az ht (.tup [.int x,.int ((cl*40692+x*97) % 20011 % 7-4)])) (x:=(x,(cl*40692+x*97) % 20011 % 7-4)) (v:=.ref t) ⟨t,_,_,rfl,by rw[hU ht,ar],rfl,rfl⟩
   refine⟨wl,Y3,_,rfl,rfl,k1,(mK (m:=1000) (by omega)),?_⟩
   refine⟨W++[(x,(cl*40692+x*97) % 20011 % 7-4)],_,rfl,b4,by rw[bB npw];exact az ht _ _ _ hq,?_⟩
   rw[aM,hW,bv,hx];rfl
  obtain⟨W,y6,rfl,bw,hq,hW⟩:=h
  rw[aj,aZ] at hW
  obtain⟨Wd,On,mP⟩:=b.sq
  refine⟨_,rfl,.inl ⟨rfl,_,bI.of (bw.s _ _ On)⟩,_,rfl,_,_,rfl,rfl,.inr ⟨by decide,by decide⟩,_,_,rfl,rfl,(show (0:Int)<10007 by decide),_,_,rfl,rfl,(show (0:Int)<2 by decide),_,rfl,(by show 2<=aL;decide),λt2 SY=>?_⟩
  obtain⟨Y3,k1,k2,b4⟩:=b.push FV (bw.s.trans (az SY (.tup [.int (cl*69621 % 10007 % 2),.ref wl]))) (x:=(cl*69621 % 10007 % 2,W)) (v:=.ref t2) ⟨t2,_,_,rfl,by rw[hU (bw.s.free SY),ar],rfl,eV.up (AJ (az SY _)) (bw.done (ql cR cR))⟩
  refine⟨g,Y3,_,rfl,rfl,k1,(mK (m:=1000) (by omega)),?_⟩
  refine⟨_,_,_,_,_,rfl,b4,by simp[hl],λrw iT=>?_⟩
  rcases bo.mp iT with h | h
  ·exact hk rw h
  ·rw[be.mp h]
   have e0:=dA (cl*69621 % 10007) (show (2:Int)≠0 by decide)
   have e1:=cQ (cl*69621 % 10007) (show (0:Int)<2 by decide)
   have Wl:W.length=vs.length:=by have:=congrArg rR hW;rw[aj] at this;exact this
   refine⟨λz=>kx ?_,by show (W.map (·.1)).Nodup;rw[hW];exact pw.imp λh=>by omega,λw hw=>hvn _ (by rw[← hW];exact bL.mpr ⟨w,hw,rfl⟩),by show cl*69621 % 10007 % 2=0\/cl*69621 % 10007 % 2=1;omega,by show W.length<=3;omega⟩
   have z:W=[]:=z
   rw[← hW,z];rfl
 ·obtain⟨G',y3,y4,y5,y6,rfl,b,hl,hk⟩:=h
  have e:(G'.length:Int)=n:=by omega
  exact⟨_,rfl,q _ _ G' b.s (lJ.up (ur _ _) (b.done FV)) e (λrow hr=>⟨(hk row hr).1,(hk row hr).2.1,by rw[e];exact (hk row hr).2.2.1⟩) (λrow hr=>(hk row hr).2.2.2.1) (λrow hr=>(hk row hr).2.2.2.2)⟩
def yB (hs:List Int) (p:Int):Int:=hs.getD p.toNat 0
def jI (R R2:ah) (B H:Hp) (x:ah) (n:Nat) (rk:Bool) (hs:List Int) (os:List (List Int)) (h p:Int) (c:Option Int) (m:Nat):Prop :=
 (rk=true/\c=none/\∃ (dx:ah) (fl:List (aT × V)) (G:List Row) (hf:Int->Int) (wf:Int->Option Int) (wa oa ua:ah),H x=some (.ins R2 dx fl)/\Qx fl h p wa oa ua m/\RM B G wf wa oa ua/\B5 G/\RQ G (xQ G) hf wf/\(h=0\/h=1)/\xQ G p/\hf p=h/\G.length=n/\(∀ p,xQ G p->yB hs p=hd G p)/\∀ p,xQ G p->os[p.toNat]?=some (wy G p)) \/
 (rk=false/\∃ (c0:Int) (dx:ah) (fl:List (aT × V)) (G:List cw) (T ws r:List (Option Int)) (ra oa ma:ah),c=some c0/\H x=some (.ins R dx fl)/\Jg fl h p c0 ra oa ma m/\Qw B G ws ra oa ma/\vv G/\(∀ row∈G,row.1=0\/row.1=1)/\Ad G T ws r/\(h=0\/h=1)/\0<=p/\p<(G.length:Int)/\Qm (dE T) h p c0/\G.length=n/\(∀ (i:Nat) row,G[i]?=some row->yB hs (i:Int)=row.1)/\∀ (i:Nat) row,G[i]?=some row->os[i]?=some (row.2.map (·.1)))
def a0l (hs:List Int) (h p:Int):Option Int->Option Bool
 | none=>some (decide (yB hs p=h))
 | some c0=>if c0<0 then none else some (decide (yB hs p=h))
section
variable {B H:Hp} {x:ah} {n:Nat} {rk:Bool} {hs:List Int} {os:List (List Int)} {h p:Int} {c:Option Int} {m:Nat}
theorem jI.bnd (S:jI R R2 B H x n rk hs os h p c m):0<=p/\p<(n:Int):=by
 rcases S with ⟨_,_,dx,fl,G,hf,wf,wa,oa,ua,hx,hF,hD,cU,pG,n4,hp,hh,hn,e1,e2⟩ | ⟨_,c0,dx,fl,G,T,ws,r,ra,oa,ma,rfl,hx,hF,hD,g,hh,sol,n4,p0,p1,gd,hn,e1,e2⟩
 ·exact⟨hp.1,by rw[← hn];exact hp.2⟩
 ·exact⟨p0,by rw[← hn];exact p1⟩
theorem jI.up {H':Hp} (S:jI R R2 B H x n rk hs os h p c m) (s:bh H H'):jI R R2 B H' x n rk hs os h p c m:=by
 rcases S with ⟨k1,k2,dx,fl,G,hf,wf,wa,oa,ua,hx,S⟩ | ⟨k1,c0,dx,fl,G,T,ws,r,ra,oa,ma,k2,hx,S⟩
 ·exact .inl ⟨k1,k2,dx,fl,G,hf,wf,wa,oa,ua,s _ _ hx,S⟩
 ·exact .inr ⟨k1,c0,dx,fl,G,T,ws,r,ra,oa,ma,k2,s _ _ hx,S⟩
theorem jI.fld (S:jI R R2 B H x n rk hs os h p c m) (aI:ClsAt K mg "RankPlay" R2 G6) (ay:ClsAt K mg "PursePlay" R qZ):∃ C dx fl,H x=some (.ins C dx fl)/\BC K C/\lW K C "hand" /\ lW K C "at" /\ fl.lookup ("hand" : aT)=some (.int h)/\fl.lookup ("at" : aT)=some (.int p)/\(rk=false->lW K C "left" /\ ∃ c0,c=some c0/\fl.lookup ("left" : aT)=some (.int c0))/\(rk=true->c=none):=by
 rcases S with ⟨k1,k2,dx,fl,G,hf,wf,wa,oa,ua,hx,hF,_⟩ | ⟨k1,c0,dx,fl,G,T,ws,r,ra,oa,ma,k2,hx,hF,_⟩
 ·exact⟨R2,dx,fl,hx,aI.cl,aI.na _ (by decide +kernel),aI.na _ (by decide +kernel),hF.hand,hF.at_,(λz=>by rw[k1] at z;cases z),λ_=>k2⟩
 ·exact⟨R,dx,fl,hx,ay.cl,ay.na _ (by decide +kernel),ay.na _ (by decide +kernel),hF.hand,hF.at_,(λ_=>⟨ay.na _ (by decide +kernel),c0,k2,hF.left⟩),λz=>by rw[k1] at z;cases z⟩
theorem jI.adW (S:jI R R2 B H x n rk hs os h p c m) (sB:bh B H) (hm:m<900) (bad:a0l hs h p c≠some true):RJ K R R2 x H:=by
 rcases S with ⟨_,rfl,dx,fl,G,hf,wf,wa,oa,ua,hx,hF,hD,cU,pG,n4,hp,hh,hn,e1,e2⟩ | ⟨_,c0,dx,fl,G,T,ws,r,ra,oa,ma,rfl,hx,hF,hD,g,hh,sol,n4,p0,p1,gd,hn,e1,e2⟩
 ·refine .inl λH1 s1=>⟨dx,fl,s1 _ _ hx,hF.go,λQ E e=>⟨x,dx,fl,G,wf,h,p,wa,oa,ua,m,rfl,s1 _ _ hx,hF,hm,hD.up (sB.trans s1),hp,λz=>absurd ?_ bad,λ_=>e⟩⟩
  show some (decide (yB hs p=h))=some true
  rw[decide_eq_true (by rw[e1 p hp];exact z)]
 ·obtain⟨i,row,rfl,hr⟩:=wQ p0 p1
  refine .inr λH1 s1=>⟨dx,fl,s1 _ _ hx,hF.go,λQ E e=>⟨x,dx,fl,G,ws,h,c0,i,row,ra,oa,ma,m,rfl,s1 _ _ hx,hF,hm,hD.up (sB.trans s1),g,hr,λz=>absurd ?_ bad,λ_=>e⟩⟩
  show (if c0<0 then none else some (decide (yB hs (i:Int)=h)))=some true
  rw[if_neg (by have:=z.1;omega),decide_eq_true (by rw[e1 i row hr];exact z.2)]
theorem jI.QU (S:jI R R2 B H x n rk hs os h p c m) (sB:bh B H) (hm:m<900) {z:Int} (bad:a0l hs h p c≠some false\/∀ l,os[p.toNat]?=some l->z ∉ l):vU K R R2 x z H:=by
 rcases S with ⟨_,rfl,dx,fl,G,hf,wf,wa,oa,ua,hx,hF,hD,cU,pG,n4,hp,hh,hn,e1,e2⟩ | ⟨_,c0,dx,fl,G,T,ws,r,ra,oa,ma,rfl,hx,hF,hD,g,hh,sol,n4,p0,p1,gd,hn,e1,e2⟩
 ·have k:¬ (hd G p≠h/\z∈wy G p):=λy=>bad.elim (λb=>b (by
   show some (decide (yB hs p=h))=some false
   rw[decide_eq_false (by rw[e1 p hp];exact y.1)])) (λb=>b _ (e2 p hp) y.2)
  exact .inl λH1 s1=>⟨dx,fl,s1 _ _ hx,hF.oth,λQ E e=>⟨x,dx,fl,G,wf,h,p,z,wa,oa,ua,m,rfl,s1 _ _ hx,hF,hm,hD.up (sB.trans s1),hp,λa b=>absurd ⟨a,b⟩ k,λ_=>e⟩⟩
 ·obtain⟨i,row,rfl,hr⟩:=wQ p0 p1
  have k:¬ (0<=c0/\row.1≠h/\z∈row.2.map (·.1)):=λy=>bad.elim (λb=>b (by
   show (if c0<0 then none else some (decide (yB hs (i:Int)=h)))=some false
   rw[if_neg (by have:=y.1;omega),decide_eq_false (by rw[e1 i row hr];exact y.2.1)])) (λb=>b _ (e2 i row hr) y.2.2)
  exact .inr λH1 s1=>⟨dx,fl,s1 _ _ hx,hF.oth,λQ E e=>⟨x,dx,fl,G,ws,h,c0,z,i,row,ra,oa,ma,m,rfl,s1 _ _ hx,hF,hm,hD.up (sB.trans s1),g,hr,λa b w hw hz=>absurd ⟨a,b,bL.mpr ⟨w,hw,hz⟩⟩ k,λ_=>e⟩⟩
theorem Wb {σ:St} {i:Nat} {Q:VK} {E:XK} (hσ:σ[i]?=some (some (.ref x))) (S:jI R R2 B H x n rk hs os h p c m) (sB:bh B H) (bx:B x=none) (hm:m<900) (own:a0l hs h p c=some true) (q:∀ (z:Int) (c':Option Int) (H':Hp),bh B H'->jI R R2 B H' x n rk hs os h z c' (m+2)->Q (.int z) H'):sZ R2 "go" (zm K R2) [] E (Dp i) vn σ H Q\/sZ R "go" (zn K R) [] E (Dp i) vn σ H Q:=by
 rcases S with ⟨k1,rfl,dx,fl,G,hf,wf,wa,oa,ua,hx,hF,hD,cU,pG,n4,hp,hh,hn,e1,e2⟩ | ⟨k1,c0,dx,fl,G,T,ws,r,ra,oa,ma,rfl,hx,hF,hD,g,hh,sol,n4,p0,p1,gd,hn,e1,e2⟩
 ·have ho:hd G p=h:=by
   have own:some (decide (yB hs p=h))=some true:=own
   injection own with own
   rw[← e1 p hp];exact of_decide_eq_true own
  obtain⟨z,hw,hzw,Xs⟩:=(pG.won h n4).own p ⟨hp,hh⟩ ho
  refine .inl ⟨_,hσ,x,dx,fl,rfl,hx,hF.go,?_⟩
  refine⟨x,dx,fl,G,wf,h,p,wa,oa,ua,m,rfl,hx,hF,hm,hD.up sB,hp,λ_=>⟨z,hw,?_⟩,λy=>absurd ho y⟩
  have Cu:=hF.put z
  refine q z none _ (sB.put bx _) (.inl ⟨k1,rfl,dx,_,G,hf,wf,wa,oa,ua,ar,⟨Cu.hand,Cu.at_,Cu.rule,Cu.own,Cu.outs,Cu.go,Cu.oth,by have:=Cu.len;omega⟩,hD,cU,pG,n4,Xs.1,Xs.2,hn,e1,e2⟩)
 ·obtain⟨i',row,rfl,hr⟩:=wQ p0 p1
  have own:(if c0<0 then none else some (decide (yB hs (i':Int)=h)))=some true:=own
  have VZ:¬ c0<0:=λy=>by rw[if_pos y] at own;cases own
  rw[if_neg VZ] at own
  injection own with own
  have ho:row.1=h:=by rw[← e1 i' row hr];exact of_decide_eq_true own
  obtain⟨w,hw,Js⟩:=sol.told g n4 hr gd ho
  obtain⟨_,gd2⟩:=sol.step g hh n4 hr gd (by omega) hw (λ_=>Js)
  have g9:=(g row (am hr)).2.2 w hw
  refine .inr ⟨_,hσ,x,dx,fl,rfl,hx,hF.go,?_⟩
  refine⟨x,dx,fl,G,ws,h,c0,i',row,ra,oa,ma,m,rfl,hx,hF,hm,hD.up sB,g,hr,λ_=>⟨w,hw,Js,?_⟩,λy=>absurd ⟨by omega,ho⟩ y⟩
  exact q w.1 (some (c0+w.2)) _ (sB.put bx _) (.inr ⟨k1,c0+w.2,dx,_,G,T,ws,r,ra,oa,ma,rfl,ar,(hF.putL (c0+w.2)).Uh w.1,hD,g,hh,sol,n4,g9.1,g9.2,gd2,hn,e1,e2⟩)
theorem Ua {σ:St} {i j:Nat} {z:Int} {Q:VK} {E:XK} (hσ:σ[i]?=some (some (.ref x))) (hj:σ[j]?=some (some (.int z))) (S:jI R R2 B H x n rk hs os h p c m) (sB:bh B H) (bx:B x=none) (hm:m<900) (own:a0l hs h p c=some false) {l:List Int} (hl:os[p.toNat]?=some l) (hz:z∈l) (q:∀ (c':Option Int) (H':Hp),bh B H'->jI R R2 B H' x n rk hs os h z c' (m+2)->Q .e8 H'):sZ R2 "other" (uC K R2) [] E (Dp i) (zr (Dp j) vn) σ H Q\/sZ R "other" (uD K R) [] E (Dp i) (zr (Dp j) vn) σ H Q:=by
 rcases S with ⟨k1,rfl,dx,fl,G,hf,wf,wa,oa,ua,hx,hF,hD,cU,pG,n4,hp,hh,hn,e1,e2⟩ | ⟨k1,c0,dx,fl,G,T,ws,r,ra,oa,ma,rfl,hx,hF,hD,g,hh,sol,n4,p0,p1,gd,hn,e1,e2⟩
 ·have ho:hd G p≠h:=by
   have own:some (decide (yB hs p=h))=some false:=own
   injection own with own
   rw[← e1 p hp];exact of_decide_eq_false own
  rw[e2 p hp] at hl
  cases hl
  have Xs:=((pG.won h n4).oth p ⟨hp,hh⟩ ho).2 z hz (Rm cU.Vt hz)
  refine .inl ⟨_,hσ,x,dx,fl,rfl,hx,hF.oth,_,hj,?_⟩
  refine⟨x,dx,fl,G,wf,h,p,z,wa,oa,ua,m,rfl,hx,hF,hm,hD.up sB,hp,λ_ _=>?_,λy=>absurd ⟨ho,hz⟩ y⟩
  have Cu:=hF.put z
  exact q none _ (sB.put bx _) (.inl ⟨k1,rfl,dx,_,G,hf,wf,wa,oa,ua,ar,⟨Cu.hand,Cu.at_,Cu.rule,Cu.own,Cu.outs,Cu.go,Cu.oth,by have:=Cu.len;omega⟩,hD,cU,pG,n4,Xs.1,Xs.2,hn,e1,e2⟩)
 ·obtain⟨i',row,rfl,hr⟩:=wQ p0 p1
  have own:(if c0<0 then none else some (decide (yB hs (i':Int)=h)))=some false:=own
  have VZ:¬ c0<0:=λy=>by rw[if_pos y] at own;cases own
  rw[if_neg VZ] at own
  injection own with own
  have ho:row.1≠h:=by rw[← e1 i' row hr];exact of_decide_eq_false own
  have hl:os[i']?=some l:=hl
  rw[e2 i' row hr] at hl
  cases hl
  have nd:=(g row (am hr)).2.1
  refine .inr ⟨_,hσ,x,dx,fl,rfl,hx,hF.oth,_,hj,?_⟩
  refine⟨x,dx,fl,G,ws,h,c0,z,i',row,ra,oa,ma,m,rfl,hx,hF,hm,hD.up sB,g,hr,λ_ _ w hw Z2=>?_,λy=>absurd ⟨by omega,ho,hz⟩ y⟩
  subst Z2
  obtain⟨_,gd2⟩:=sol.step g hh n4 hr gd (by omega) hw (λy=>absurd y ho)
  have g9:=(g row (am hr)).2.2 w hw
  exact q (some (c0+w.2)) _ (sB.put bx _) (.inr ⟨k1,c0+w.2,dx,_,G,T,ws,r,ra,oa,ma,rfl,ar,(hF.putL (c0+w.2)).Uh w.1,hD,g,hh,sol,n4,g9.1,g9.2,gd2,hn,e1,e2⟩)
end
theorem jI.wk {B H:Hp} {x:ah} {n:Nat} {rk:Bool} {hs:List Int} {os:List (List Int)} {h p:Int} {c:Option Int} {m m':Nat} (S:jI R R2 B H x n rk hs os h p c m) (k:m<=m'):jI R R2 B H x n rk hs os h p c m':=by
 rcases S with ⟨k1,k2,dx,fl,G,hf,wf,wa,oa,ua,hx,hF,S⟩ | ⟨k1,c0,dx,fl,G,T,ws,r,ra,oa,ma,k2,hx,hF,S⟩
 ·exact .inl ⟨k1,k2,dx,fl,G,hf,wf,wa,oa,ua,hx,⟨hF.hand,hF.at_,hF.rule,hF.own,hF.outs,hF.go,hF.oth,by have:=hF.len;omega⟩,S⟩
 ·exact .inr ⟨k1,c0,dx,fl,G,T,ws,r,ra,oa,ma,k2,hx,⟨hF.hand,hF.at_,hF.left,hF.rule,hF.own,hF.Cd,hF.go,hF.oth,hF.Yd,by have:=hF.len;omega⟩,S⟩
structure LwB (K:ak) (B:Hp) (a:ah) (ns:List Int) (ha oa x:ah) (n:Nat) (hs:List Int) (os:List (List Int)):Prop where
 sq:bI K B a (ns.map V.int)
 hb:B ha=some (.lst (hs.map V.int))
 hl:hs.length=n
 ob:∃ us,B oa=some (.lst us)/\dP (gb gG B) os us
 ol:os.length=n
 ok:∀ l∈os,l≠[]/\l.length<=3/\∀ z∈l,0<=z/\z<(n:Int)
 bx:B x=none
theorem Sm.seq {H H':Hp} {a:ah} {xs:List V} (s:Sm H H') (h:bI K H a xs):bI K H' a xs:=by
 rcases h with (h | ⟨o,h⟩) | h
 ·exact .inl (.inl (cG _ _ (s _ _ (iP h))))
 ·exact .inl (.inr ⟨o,cG _ _ (s _ _ (uM h λ_ z=>by cases z))⟩)
 ·exact .inr h
theorem UJ {H:Hp} (h:Fq ["least_needy","most_needy"] K H) (ne:em K "least_needy" ≠ em K "most_needy"):qi K H:=⟨⟨#[],h _ (by simp),trivial,.inl rfl⟩,⟨#[],h _ (by simp),trivial,.inl rfl⟩,ne⟩
theorem OU {H:Hp} {os:List (List Int)} {us:List V} (h:dP (gb gG H) os us):dP (gb gG (nt H)) os us:=sL (R:=gb gG) (λH x v h=>by
 obtain⟨l,rfl,hl⟩:=fL.mp h
 exact fL.mpr ⟨l,rfl,iP hl⟩) h
def Gz (K:ak):Sp:=λvs H Q _=>∃ (a:ah) (ns:List Int),vs=[.ref a]/\bI K H a (ns.map V.int)/\Fq ["least_needy","most_needy"] K H/\ns.length<=63/\∀ H',Q (.bl true) H'
theorem T4 {f:ah} {fd:fJ} (F:Fe K "law" "law" oP f fd) (T:Txt mg) (ne:em K "least_needy" ≠ em K "most_needy") (aI:ClsAt K mg "RankPlay" R2 G6) (ay:ClsAt K mg "PursePlay" R qZ) (fF:Dn P w K mg base "_law_cell_at" 1 ["_law_script","_law_k"] (xa K)) (uU:Dn P w K mg base "_law_rank_game" 3 ["_law_script","_law_many"] (GC K)) (tT:Dn P w K mg base "_law_purse_game" 3 ["_law_script","_law_many"] (GB K)) (qz:Qk P w K mg base R2 50 ["self","game","start"] (Gy R2)) (pb:Qk P w K mg base R 9 ["self","game","start","purse"] (Gx K R)) (B1:Dn P w K mg base "_law_wrong" 5 ["_law_play","_law_many","_law_places_here","_law_own","_law_cell"] (GF K R R2)) (mY:pi P w K mg base R2 "go" 2 ["self"] (zm K R2)) (lT:pi P w K mg base R "go" 2 ["self"] (zn K R)) (kC:pi P w K mg base R2 "other" 3 ["self","place"] (uC K R2)) (jT:pi P w K mg base R "other" 3 ["self","place"] (uD K R)):nO P w K mg base xH 52 f fd ["_law_script"] (Gz K):=by
 have sc:=Up
 refine F.ok sc (λvs H Q E h=>?_) (λdk A outer s H vs Q E hr h=>?_)
 ·obtain⟨_,_,rfl,_⟩:=h;rfl
 obtain⟨a,ns,rfl,hS,hT,hl,q⟩:=h
 have tb:=UJ hT ne
 refine⟨_,(au (bP (i:=1) sc.nd rfl (bi rfl) (bX eK (bX gB (cO fF hr (af (pv 0) (af aK av))) aK) aK))
   (au (bP (i:=2) sc.nd rfl (bi rfl) (bX jE aK (bX eK (pv 1) aK)))
   (au (bP (i:=3) sc.nd rfl (bi rfl) (kR md (bX eK (bX lK (pv 1) aK) aK) aK (dM _)))
   (au (bP (i:=4) sc.nd rfl (bi rfl) (bX eK (bX lK (pv 1) aK) (pv 2)))
   (Gg (fo (f9 (pv 3))
   (au (bP (i:=5) sc.nd rfl (bi rfl) (cO uU hr (af (pv 0) (af (pv 2) av))))
   (au (pX (i:=6) (aC oP) ["_law_script","_law_cell","_law_many","_law_ranked","_law_start","_law_game","_law_hands","_law_outs","_law_play","_law_hand","_law_k","_law_at","_law_left","_law_own","_law_place"] ["_law_row"] 1 [] sc.nd rfl rfl (dm (pv 5)) (λ_ _ _ _ _ _=>(eH (show cT (["_law_row"]:List aT) by decide +kernel) rfl rfl)) (λ_ _ _ _ _ _=>hV) (λ_ _ _ _ _ _=>(bM (mQ (K:=K) rfl) (pv 0) aK (λ_ _=>rfl))))
   (au (pX (i:=7) (aC oP) ["_law_script","_law_cell","_law_many","_law_ranked","_law_start","_law_game","_law_hands","_law_outs","_law_play","_law_hand","_law_k","_law_at","_law_left","_law_own","_law_place"] ["_law_row"] 1 [] sc.nd rfl rfl (dm (pv 5)) (λ_ _ _ _ _ _=>(eH (show cT (["_law_row"]:List aT) by decide +kernel) rfl rfl)) (λ_ _ _ _ _ _=>hV) (λ_ _ _ _ _ _=>(kG (DY (K:=K) rfl) rfl T.v1 gQ (af (bM (mQ (K:=K) rfl) (pv 0) aK (λ_ _=>rfl)) av))))
   (aG (bP (i:=8) sc.nd rfl (bi rfl) (EF aI qz hr (af (pv 5) (af (pv 4) av))))))))
   (au (bP (i:=5) sc.nd rfl (bi rfl) (cO tT hr (af (pv 0) (af (pv 2) av))))
   (au (pX (i:=6) (aC oP) ["_law_script","_law_cell","_law_many","_law_ranked","_law_start","_law_game","_law_hands","_law_outs","_law_play","_law_hand","_law_k","_law_at","_law_left","_law_own","_law_place"] ["_law_row"] 1 [] sc.nd rfl rfl (dm (pv 5)) (λ_ _ _ _ _ _=>(eH (show cT (["_law_row"]:List aT) by decide +kernel) rfl rfl)) (λ_ _ _ _ _ _=>hV) (λ_ _ _ _ _ _=>(bM (mQ (K:=K) rfl) (pv 0) aK (λ_ _=>rfl))))
   (au (pX (i:=7) (aC oP) ["_law_script","_law_cell","_law_many","_law_ranked","_law_start","_law_game","_law_hands","_law_outs","_law_play","_law_hand","_law_k","_law_at","_law_left","_law_own","_law_place"] ["_law_row"] 1 [] sc.nd rfl rfl (dm (pv 5)) (λ_ _ _ _ _ _=>(eH (show cT (["_law_row"]:List aT) by decide +kernel) rfl rfl)) (λ_ _ _ _ _ _=>hV) (λ_ _ _ _ _ _=>(by exact (F8  ["_law_row"] ["_law_way"] 1 [] (Db (bM (mQ (K:=K) rfl) (pv 0) aK (λ_ _=>rfl))) (λ_ _ _ _ _ _=>(eH (show cT (["_law_way"]:List aT) by decide +kernel) rfl rfl)) (λ_ _ _ _ _ _=>hV) (λ_ _ _ _ _ _=>(bM (mQ (K:=K) rfl) (pv 0) aK (λ_ _=>rfl)))))))
   (aG (bP (i:=8) sc.nd rfl (bi rfl) (EF ay pb hr (af (pv 5) (af (pv 4) (af (bX eK (bX lK (pv 1) aK) aK) av))))))))))
   (au (bP (i:=9) sc.nd rfl (bi rfl) (bW (K:=K) rfl (pv 8) rfl))
   (au (eS bn rfl (iB rfl T.jX (af aK av)) (cE (i:=10) sc.nd rfl (bi rfl))
   (au (bP (i:=1) sc.nd rfl (bi rfl) (bX eK (bX gB (bX jE (cO fF hr (af (pv 0) (af (bX jE aK (pv 10)) av))) (bX gB (bX gB aK (pv 10)) (pv 10))) aK) aK))
   (au (bP (i:=11) sc.nd rfl (bi rfl) (bW (K:=K) rfl (pv 8) rfl))
   (au (bP (i:=12) sc.nd rfl (bi rfl) mj)
   (au (bP (i:=13) sc.nd rfl (bi rfl) (kR md (bM (lA (K:=K) rfl) (pv 6) (pv 11) (λ_ _=>rfl)) (pv 9) (dM _)))
   (Gg (fo (mm (f9 (pv 3)))
   (au (bP (i:=12) sc.nd rfl (bi rfl) (bW (K:=K) rfl (pv 8) rfl))
   (aG (fo (dG LC (pv 12) aK (dM _))
   (aG (bP (i:=13) sc.nd rfl (bi rfl) mj))
   dq)))
   dq)
   (au (fo (dG (T8 (L6 HJ) (AD hr 1)) (cO B1 hr (af (pv 8) (af (pv 2) (af (bM (lA (K:=K) rfl) (pv 7) (pv 11) (λ_ _=>rfl)) (af (pv 13) (af (pv 1) av)))))) (fb (af mf (af mf (af mf (af mf av))))) (dM _))
   (aG (cP mf))
   dq)
   (au (fo (PW.pt (a0n (dG qR (bW (K:=K) rfl (pv 8) rfl) (pv 11) (dM _)) (a0n (dG qR (bW (K:=K) rfl (pv 8) rfl) (pv 9) (dM _)) (a0k (PW.pt (a0i (mm (f9 (pv 3))) (a0g (dG qR (bW (K:=K) rfl (pv 8) rfl) (pv 12) (dM _)))))))))
   (aG (cP mf))
   dq)
   (au (fo (PW.pt (a0i (iQ (AR (pv 13))) (a0g (dG qR (LO (C7 AQ aI.cl mY hr (pv 8)) (C7 AQ ay.cl lT hr (pv 8))) (bW (K:=K) rfl (pv 8) rfl) (dM _)))))
   (aG (cP mf))
   dq)
   (aG (fo (iQ (AR (pv 13)))
   (au (bP (i:=14) sc.nd rfl (bi rfl) (bM (lA (K:=K) rfl) (bM (lA (K:=K) rfl) (pv 7) (pv 11) (λ_ _=>rfl)) (bX eK (bX lK (pv 1) aK) (cn (iu (K:=K) rfl) rfl T.iq bN (af (bM (lA (K:=K) rfl) (pv 7) (pv 11) (λ_ _=>rfl)) av))) (λ_ _=>rfl)))
   (au (cz (LO (F7 AQ aI.cl kC hr (pv 8) (af (pv 14) av)) (F7 AQ ay.cl jT hr (pv 8) (af (pv 14) av))))
   (aG (fo (dG qR (bW (K:=K) rfl (pv 8) rfl) (pv 14) (dM _))
   (aG (cP mf))
   dq))))
   dq)))))))))))
   (aG (cP mf))))))))),?_⟩
 refine⟨_,rfl,a,ns,0,rfl,hS,by decide,λm0=>?_⟩
 refine⟨_,_,rfl,rfl,.inr ⟨by decide,by decide⟩,_,_,rfl,rfl,(show (0:Int)<65537 by decide),?_⟩
 have c0:=dA (m0*48271) (show (65537:Int)≠0 by decide)
 have c1:=cQ (m0*48271) (show (0:Int)<65537 by decide)
 refine⟨_,rfl,_,_,rfl,rfl,(show (0:Int)<6 by decide),_,_,rfl,rfl,?_⟩
 refine⟨_,rfl,_,_,rfl,rfl,⟨by decide,by decide⟩,_,_,rfl,rfl,(show (0:Int)<2 by decide),rfl,?_⟩
 refine⟨_,rfl,_,_,rfl,rfl,⟨by decide,by decide⟩,_,rfl,_,_,rfl,rfl,(show (0:Int)<2+m0*48271 % 65537 % 6 by omega),?_⟩
 have YC:=dA (m0*48271 % 65537 / 12) (show 2+m0*48271 % 65537 % 6≠0 by omega)
 have YD:=cQ (m0*48271 % 65537 / 12) (show 0<2+m0*48271 % 65537 % 6 by omega)
 obtain⟨rb,Eb⟩:∃ rb:Bool,rb=decide (V.int (m0*48271 % 65537 / 6 % 2)=V.int 0):=⟨_,rfl⟩
 obtain⟨n,hn⟩:∃ n:Nat,(n:Int)=2+m0*48271 % 65537 % 6:=⟨(2+m0*48271 % 65537 % 6).toNat,by omega⟩
 have n2:2<=n:=by omega
 have n7:n<=7:=by omega
 obtain⟨st,o7⟩:∃ st:Int,st=m0*48271 % 65537 / 12 % (2+m0*48271 % 65537 % 6):=⟨_,rfl⟩
 have YC:0<=st:=by rw[o7];exact YC
 have YD:st<(n:Int):=by rw[o7,hn];exact YD
 refine⟨λσ' H'=>∃ (y1 y5:Option V) (ha oa x:ah) (B:Hp) (hs:List Int) (os:List (List Int)) (h:Int) (c:Option Int),σ'=[some (.ref a),y1,some (.int n),some (.bl rb),some (.int st),y5,some (.ref ha),some (.ref oa),some (.ref x),none,none,none,none,none,none]/\LwB K B a ns ha oa x n hs os/\bh B H'/\jI R R2 B H' x n rb hs os h st c 6,?_,?_⟩
 ·refine⟨_,rfl,_,rfl,?_⟩
  refine iO (λcc=>?_) (λcc=>?_)
  ·refine⟨_,rfl,_,rfl,a,ns,_,rfl,hS,by omega,by omega,λv H1 G s1 hG hGn cU n4 kx acT h3=>?_⟩
   obtain⟨g0,gv,rfl,jS,mP,eU⟩:=fu hG
   have Gn:G.length=n:=by omega
   refine⟨_,rfl,g0,rfl,⟨_,bI.of jS⟩,c8 (K:=K) (a:=g0) (xs:=gv) (λi ys Hx=>Hx=H1/\ys=((G.take i).map λr=>r.1).map V.int) ⟨rfl,rfl⟩ (a0b (m:=1000) (by omega)) (λi ys Hx hi h=>?_) (λi y ys Hx hi h=>?_) (λys Hx h ha BJ=>?_)⟩
   ·obtain⟨rfl,rfl⟩:=h
    exact⟨bI.of jS,by rw[aj,aj];simp;omega⟩
   ·obtain⟨rfl,rfl⟩:=h
    have KB:i<G.length:=by have:=(ag.mp hi).1;omega
    obtain⟨row,iT⟩:∃ row,G[i]?=some row:=⟨G[i],by simp⟩
    obtain⟨t5,w5,p1,p2,p3⟩:=eU i row iT
    rw[hi] at p1;cases p1
    refine ix ?_
    refine⟨_,rfl,t5,_,_,_,rfl,rfl,gJ.of p2,bV (j:=0) rfl,rfl,?_⟩
    rw[bv,iT];simp
   obtain⟨rfl,rfl⟩:=h
   rw[mP,aZ]
   have s2:=az BJ (.lst ((G.map λr=>r.1).map V.int))
   have WD:upd Hx ha (.lst ((G.map λr=>r.1).map V.int)) ha=some (.lst ((G.map λr=>r.1).map V.int)):=ar
   generalize upd Hx ha (.lst ((G.map λr=>r.1).map V.int))=H2 at s2 WD ⊢
   refine⟨_,rfl,g0,rfl,⟨_,bI.of (s2 _ _ jS)⟩,c8 (K:=K) (a:=g0) (xs:=gv) (λi ys Hy=>bh H2 Hy/\dP (gb gG Hy) ((G.take i).map λr=>r.2.2) ys) ⟨bh.refl _,.nil⟩ (a0b (m:=1000) (by omega)) (λi ys Hy hi h=>?_) (λi y ys Hy hi h=>?_) (λys Hy h oa xu=>?_)⟩
   ·exact⟨bI.of ((s2.trans h.1) _ _ jS),by have:=lj h.2;simp at this;omega⟩
   ·obtain⟨s5,pr⟩:=h
    have KB:i<G.length:=by have:=(ag.mp hi).1;omega
    obtain⟨row,iT⟩:∃ row,G[i]?=some row:=⟨G[i],by simp⟩
    obtain⟨t5,w5,p1,p2,p3⟩:=eU i row iT
    rw[hi] at p1;cases p1
    have Gq:=s2.trans s5
    refine ix ?_
    refine⟨_,rfl,t5,_,_,_,rfl,rfl,gJ.of (Gq _ _ p2),bV (j:=2) rfl,w5,_,rfl,.inl (bI.of (Gq _ _ p3)),λl hl=>?_⟩
    refine⟨s5.trans (az hl _),?_⟩
    rw[bv,iT,aM]
    exact Paired.app (ee (cN cR) (az hl _) pr) (.cons (fL.mpr ⟨l,rfl,ar⟩) .nil)
   obtain⟨s5,pr⟩:=h
   rw[mP,aZ] at pr
   have s6:=az xu (.lst ys)
   have WY:upd Hy oa (.lst ys) oa=some (.lst ys):=ar
   have Yh:=ee (cN cR) s6 pr
   generalize upd Hy oa (.lst ys)=H3 at s6 WY Yh ⊢
   have Yv:=s5.trans s6
   have Px:=s2.trans Yv
   refine⟨_,rfl,_,rfl,?_⟩
   intro x dx hx Wt ndx
   have z0:bh H3 (upd (upd H3 dx (.own x)) x (.ins R2 dx [])):=λb o e=>by
    rw[bB (cr e hx),bB (cr e Wt)];exact e
   have SX:xQ G st:=⟨YC,by rw[Gn];exact YD⟩
   have acS:∀ z:Int,0<=z->z<G.length->0<=rk G z/\rk G z<41:=λz z0 z1=>by
    obtain⟨row,iT⟩:∃ row,G[z.toNat]?=some row:=⟨G[z.toNat]'(by omega),by simp⟩
    rw[Q3 iT]
    exact acT row (am iT)
   refine⟨x,dx,.ref g0,G,_,H3,rfl,z0,hx,ar,jL.up Px hG,cU,n4,kx,acS,by rw[← o7];exact SX,λKa fl hf wf wa oa' ua H6 s6' hD To hF sol=>⟨rfl,?_⟩⟩
   rw[← o7] at hF
   refine⟨some (.int (m0*48271 % 65537)),some (.ref g0),ha,oa,x,L2.del H6 x,G.map λr=>r.1,G.map λr=>r.2.2,hf st,none,by rw[hn,Eb,o7];rfl,⟨(s1.trans (Px.trans s6')).seq hS,s6' _ _ (Yv _ _ WD),by rw[aj];exact Gn,⟨ys,s6' _ _ WY,ee (cN cR) s6' Yh⟩,by rw[aj];exact Gn,λl hl=>?_,by unfold L2.del;rw[if_pos rfl]⟩,jn _ _,.inl ⟨by rw[Eb];exact cc,rfl,Ka,fl,G,hf,wf,wa,oa',ua,To,⟨hF.hand,hF.at_,hF.rule,hF.own,hF.outs,hF.go,hF.oth,by have:=hF.len;omega⟩,hD.up (ur _ _),cU,sol,sol.n4 st SX,SX,rfl,Gn,λp hp=>?_,λp hp=>?_⟩⟩
   ·obtain⟨row,hr,rfl⟩:=bL.mp hl
    exact⟨kx row hr,h3 row hr,by rw[← Gn];exact (cU.2 row hr).2.1⟩
   ·obtain⟨row,iT⟩:∃ row,G[p.toNat]?=some row:=⟨G[p.toNat]'(by have:=hp.1;have:=hp.2;omega),by simp⟩
    unfold yB
    rw[Cw iT,dX,aB,iT];rfl
   ·obtain⟨row,iT⟩:∃ row,G[p.toNat]?=some row:=⟨G[p.toNat]'(by have:=hp.1;have:=hp.2;omega),by simp⟩
    rw[xo iT,aB,iT];rfl
  ·refine⟨_,rfl,_,rfl,a,ns,_,rfl,hS,by omega,by omega,λv H1 G s1 hG hGn g hh h3=>?_⟩
   obtain⟨g0,gv,rfl,jS,mP,eU⟩:=mq hG
   have Gn:G.length=n:=by omega
   refine⟨_,rfl,g0,rfl,⟨_,bI.of jS⟩,c8 (K:=K) (a:=g0) (xs:=gv) (λi ys Hx=>Hx=H1/\ys=((G.take i).map λr=>r.1).map V.int) ⟨rfl,rfl⟩ (a0b (m:=1000) (by omega)) (λi ys Hx hi h=>?_) (λi y ys Hx hi h=>?_) (λys Hx h ha BJ=>?_)⟩
   ·obtain⟨rfl,rfl⟩:=h
    exact⟨bI.of jS,by rw[aj,aj];simp;omega⟩
   ·obtain⟨rfl,rfl⟩:=h
    have KB:i<G.length:=by have:=(ag.mp hi).1;omega
    obtain⟨row,iT⟩:∃ row,G[i]?=some row:=⟨G[i],by simp⟩
    obtain⟨t5,w5,p1,p2,p3⟩:=eU i row iT
    rw[hi] at p1;cases p1
    refine ix ?_
    refine⟨_,rfl,t5,_,_,_,rfl,rfl,gJ.of p2,bV (j:=0) rfl,rfl,?_⟩
    rw[bv,iT];simp
   obtain⟨rfl,rfl⟩:=h
   rw[mP,aZ]
   have s2:=az BJ (.lst ((G.map λr=>r.1).map V.int))
   have WD:upd Hx ha (.lst ((G.map λr=>r.1).map V.int)) ha=some (.lst ((G.map λr=>r.1).map V.int)):=ar
   generalize upd Hx ha (.lst ((G.map λr=>r.1).map V.int))=H2 at s2 WD ⊢
   refine⟨_,rfl,g0,rfl,⟨_,bI.of (s2 _ _ jS)⟩,c8 (K:=K) (a:=g0) (xs:=gv) (λi ys Hy=>bh H2 Hy/\dP (gb gG Hy) ((G.take i).map λr=>r.2.map (·.1)) ys) ⟨bh.refl _,.nil⟩ (a0b (m:=1000) (by omega)) (λi ys Hy hi h=>?_) (λi y ys Hy hi h=>?_) (λys Hy h oa xu=>?_)⟩
   ·exact⟨bI.of ((s2.trans h.1) _ _ jS),by have:=lj h.2;simp at this;omega⟩
   ·obtain⟨s5,pr⟩:=h
    have KB:i<G.length:=by have:=(ag.mp hi).1;omega
    obtain⟨row,iT⟩:∃ row,G[i]?=some row:=⟨G[i],by simp⟩
    obtain⟨t5,w5,p1,p2,p3⟩:=eU i row iT
    rw[hi] at p1;cases p1
    have Gq:=s2.trans s5
    obtain⟨w5',Jz,ew,OC,Rk,adf⟩:=my (eV.up Gq p3)
    cases ew
    have h3':=h3 row (am iT)
    refine ix ?_
    refine⟨_,rfl,t5,_,_,_,rfl,rfl,gJ.of (Gq _ _ p2),bV (j:=1) rfl,w5,rfl,⟨_,bI.of OC⟩,c8 (K:=K0) (a:=w5) (xs:=Jz) (λj zs H3=>H3=Hy/\zs=((row.2.take j).map (·.1)).map V.int) ⟨rfl,rfl⟩ (a0b (m:=1000) (by omega)) (λj zs H3 hj h=>?_) (λj x zs H3 hj h=>?_) (λzs H3 h l hl=>?_)⟩
    ·obtain⟨rfl,rfl⟩:=h
     exact⟨bI.of OC,by rw[aj,aj];simp;omega⟩
    ·obtain⟨rfl,rfl⟩:=h
     have kl:j<row.2.length:=by have:=(ag.mp hj).1;omega
     obtain⟨w',oU⟩:∃ w',row.2[j]?=some w':=⟨row.2[j],by simp⟩
     obtain⟨tq,k1,k2⟩:=adf j w' oU
     rw[hj] at k1;cases k1
     refine ix ?_
     refine⟨_,rfl,tq,_,_,_,rfl,rfl,gJ.of k2,bV (j:=0) rfl,rfl,?_⟩
     rw[bv,oU];simp
    obtain⟨rfl,rfl⟩:=h
    rw[Rk,aZ]
    refine⟨s5.trans (az hl _),?_⟩
    rw[bv,iT,aM]
    exact Paired.app (ee (cN cR) (az hl _) pr) (.cons (fL.mpr ⟨l,rfl,ar⟩) .nil)
   obtain⟨s5,pr⟩:=h
   rw[mP,aZ] at pr
   have s6:=az xu (.lst ys)
   have WY:upd Hy oa (.lst ys) oa=some (.lst ys):=ar
   have Yh:=ee (cN cR) s6 pr
   generalize upd Hy oa (.lst ys)=H3 at s6 WY Yh ⊢
   have Yv:=s5.trans s6
   have Px:=s2.trans Yv
   refine⟨_,rfl,_,rfl,_,rfl,_,_,rfl,rfl,⟨by decide,by decide⟩,_,_,rfl,rfl,(show (0:Int)<13 by decide),?_⟩
   intro x dx hx Wt ndx
   have z0:bh H3 (upd (upd H3 dx (.own x)) x (.ins R dx [])):=λb o e=>by
    rw[bB (cr e hx),bB (cr e Wt)];exact e
   have cb:Vw G:=R4 g (k:=3) (M:=3 ^ 7) h3 (by decide) (Nat.pow_le_pow_right (by decide) (by omega)) (by decide)
   refine⟨x,dx,.ref g0,G,_,_,H3,rfl,z0,hx,ar,XV (lJ.up Px hG),g,by omega,(λrow hr=>by have:=h3 row hr;omega),cb,tb.up (s1.trans Px),by rw[← o7];exact YC,by rw[← o7,Gn];exact YD,λKa fl TT ws ra oa' ma h H6 S6 P2 hD To hF sol n4 gd=>⟨rfl,?_⟩⟩
   rw[← o7] at hF gd
   obtain⟨r,sr⟩:=sol
   refine⟨some (.int (m0*48271 % 65537)),some (.ref g0),ha,oa,x,L2.del H6 x,G.map λr=>r.1,G.map λr=>r.2.map (·.1),h,some _,by rw[hn,Eb,o7];rfl,⟨S6.seq ((s1.trans Px).seq hS),cG _ _ (S6 _ _ (iP (Yv _ _ WD))),by rw[aj];exact Gn,⟨ys,cG _ _ (S6 _ _ (iP WY)),ee (cN cR) (λb o e=>cG _ _ (S6 _ _ e)) (OU Yh)⟩,by rw[aj];exact Gn,λl hl=>?_,by unfold L2.del;rw[if_pos rfl]⟩,jn _ _,.inr ⟨by rw[Eb];exact NJ.mpr cc,_,Ka,fl,G,TT,ws,r,ra,oa',ma,rfl,To,hF,hD,g,hh,sr,n4,YC,by rw[Gn];exact YD,gd,Gn,λi row hr=>?_,λi row hr=>?_⟩⟩
   ·obtain⟨row,hr,rfl⟩:=bL.mp hl
    have gr:=g row hr
    refine⟨λz=>gr.1 (by simpa using z),by rw[aj];exact h3 row hr,λz hz=>?_⟩
    obtain⟨w,hw,rfl⟩:=bL.mp hz
    rw[← Gn];exact gr.2.2 w hw
   ·unfold yB
    rw[dX,aB,show ((i:Int)).toNat=i from rfl,hr];rfl
   ·rw[aB,hr];rfl
 rintro σ' H1 ⟨y1,y5,ha,oa,x,B,hs,os,h,c,rfl,L,sB,S⟩
 obtain⟨C,dx,fl,hx,cl,Z9,na2,Z6,Z7,_,_⟩:=S.fld aI ay
 refine⟨_,rfl,x,C,_,_,_,rfl,hx,cl,Z9,Z6,?_⟩
 clear cl Z9 na2 Z6 Z7 hx
 refine⟨14,rfl,by decide,by decide,kE (lo:=0) (n:=14) (λi σ Hy=>∃ (y1 y10 y11 y12 y13 y14:Option V) (p:Int) (c:Option Int),σ=[some (.ref a),y1,some (.int n),some (.bl rb),some (.int st),y5,some (.ref ha),some (.ref oa),some (.ref x),some (.int h),y10,y11,y12,y13,y14]/\bh B Hy/\jI R R2 B Hy x n rb hs os h p c (6+2*i)) ⟨_,_,_,_,_,_,st,c,rfl,sB,S⟩ (λi σ Hy hi h=>?_) (λσ Hy h=>?_)⟩
 ·obtain⟨y1,y10,y11,y12,y13,y14,p,c,rfl,sy,Sy⟩:=h
  obtain⟨p0,p1⟩:=Sy.bnd
  refine⟨_,rfl,_,rfl,_,_,rfl,rfl,a,ns,_,rfl,sy.seq L.sq,by omega,λm5=>?_⟩
  refine⟨_,rfl,_,_,rfl,rfl,.inl ⟨by decide,by decide⟩,_,rfl,_,_,rfl,rfl,.inl ⟨by omega,by omega⟩,_,_,rfl,rfl,_,_,rfl,rfl,.inr ⟨by decide,by decide⟩,_,_,rfl,rfl,(show (0:Int)<50021 by decide),?_⟩
  obtain⟨cl,xV⟩:∃ cl:Int,(m5+3*(0+((i:Nat):Int))*(0+((i:Nat):Int)))*16807 % 50021=cl:=⟨_,rfl⟩
  have cl0:0<=cl:=by rw[← xV];exact dA _ (by decide)
  have cl1:cl<50021:=by rw[← xV];exact cQ _ (by decide)
  rw[show (λa b:Int=>V.int (a % b)) ((m5+3*(0+((i:Nat):Int))*(0+((i:Nat):Int)))*16807) 50021=V.int cl from congrArg V.int xV]
  clear xV
  obtain⟨C,dx,fl,hx,cC,Z9,na2,Z6,Z7,lk3,lk4⟩:=Sy.fld aI ay
  refine⟨_,rfl,x,C,_,_,_,rfl,hx,cC,na2,Z7,?_⟩
  have a1:o6 (hs.map V.int) p=some (.int (yB hs p)):=gq p0 (by
   have il:p.toNat<hs.length:=by rw[L.hl];omega
   unfold yB
   rw[aB,dX,ao il];rfl)
  refine⟨_,rfl,_,rfl,ha,_,_,_,rfl,rfl,bI.of (sy _ _ L.hb),a1,_,rfl,rfl,?_⟩
  have ed:decide (V.int (yB hs p)=V.int h)=decide (yB hs p=h):=by
   by_cases e:yB hs p=h
   ·rw[e,decide_eq_true rfl,decide_eq_true rfl]
   ·rw[decide_eq_false e,decide_eq_false (λz=>e (by injection z))]
  refine⟨λσ' H'=>σ'=[some (.ref a),some (.int cl),some (.int n),some (.bl rb),some (.int st),y5,some (.ref ha),some (.ref oa),some (.ref x),some (.int h),some (.int (0+((i:Nat):Int))),some (.int p),some (oV c),some (oB (a0l hs h p c)),y14]/\H'=Hy,?_,?_⟩
  ·refine⟨_,rfl,rb,rfl,?_⟩
   rw[ed]
   cases rb with
   | true =>
    rw[lk4 rfl]
    exact eJ ⟨rfl,rfl⟩
   | false =>
    obtain⟨na3,c9,rfl,lk5⟩:=lk3 rfl
    refine jc ?_
    refine⟨_,rfl,x,C,_,_,_,rfl,hx,cC,na3,lk5,?_⟩
    refine⟨_,rfl,_,_,rfl,rfl,_,rfl,?_⟩
    refine iO (λe=>?_) (λe=>?_)
    ·have:a0l hs h p (some c9)=none:=if_pos (of_decide_eq_true e)
     rw[this];exact⟨rfl,rfl⟩
    ·have:a0l hs h p (some c9)=some (decide (yB hs p=h)):=if_neg λz=>e (decide_eq_true z)
     rw[this];exact⟨rfl,rfl⟩
  rintro σ' H2 ⟨rfl,rfl⟩
  obtain⟨us,Tc,pr⟩:=L.ob
  obtain⟨l,Oq⟩:∃ l,os[p.toNat]?=some l:=⟨os[p.toNat]'(by rw[L.ol];omega),by simp⟩
  obtain⟨lk,ll3,lz⟩:=L.ok l (am Oq)
  obtain⟨uv,Xf,CC⟩:=Paired.at pr Oq
  obtain⟨lb,rfl,Ny⟩:=fL.mp CC
  have a2:o6 us p=some (.ref lb):=gq p0 Xf
  have m9:6+2*i<900:=by omega
  refine⟨_,rfl,_,rfl,_,rfl,_,rfl,oa,_,_,_,rfl,rfl,bI.of (sy _ _ Tc),a2,_,rfl,_,rfl,x,lb,n,cl,l,a0l hs h p c,rfl,sy _ _ Ny,lk,by omega,by omega,by omega,cl0,by omega,lz,λe=>Sy.adW sy m9 e,λ_ z hz=>Sy.QU sy m9 (.inr λl' Nv=>by rw[Oq] at Nv;cases Nv;exact hz),λe z=>Sy.QU sy m9 (.inl e),λwl H3 s3 rD=>?_⟩
  refine⟨(by show 4<=aL;decide),λl4 Nw=>?_⟩
  have s4:=s3.trans (az Nw (.lst Dq))
  have p4:∀ H,dP (QY H) [true,true,false,false] Dq:=λH=>.cons rfl (.cons rfl (.cons rfl (.cons rfl .nil)))
  refine⟨[true,true,false,false],⟨wl,_,rfl,az Nw _ _ _ rD,p4 _⟩,⟨l4,_,rfl,ar,p4 _⟩,_,rfl,eJ ?_⟩
  generalize upd H3 l4 (.lst Dq)=H4 at s4 ⊢
  have S4:=Sy.up s4
  have Vr:=sy.trans s4
  have Ed:=s4 _ _ hx
  refine⟨_,rfl,x,C,_,_,_,rfl,Ed,cC,na2,Z7,_,rfl,rfl,?_⟩
  rw[decide_eq_true rfl]
  refine⟨false,rfl,eJ ?_⟩
  refine⟨_,rfl,x,C,_,_,_,rfl,Ed,cC,Z9,Z6,_,rfl,rfl,?_⟩
  rw[decide_eq_true rfl]
  refine⟨false,rfl,eJ ?_⟩
  refine⟨_,rfl,rb,rfl,?_⟩
  obtain⟨ow,how⟩:∃ ow,a0l hs h p c=ow:=⟨_,rfl⟩
  rw[how]
  have z0:=dA (cl / 7) (show ((l.map V.int).length:Int)≠0 by rw[aj];have:=b7.mpr lk;omega)
  have z1:=cQ (cl / 7) (show 0<((l.map V.int).length:Int) by rw[aj];have:=b7.mpr lk;omega)
  obtain⟨z,hz⟩:∃ z,l[(cl / 7 % ((l.map V.int).length:Int)).toNat]?=some z:=⟨l[(cl / 7 % ((l.map V.int).length:Int)).toNat]'(by rw[aj] at z0 z1 ⊢;omega),by simp⟩
  have Sq:=Vr _ _ Ny
  cases Eb:rb
  obtain⟨na3,c9,ec,lk5⟩:=lk3 Eb
  refine jc ⟨_,rfl,x,C,_,_,_,rfl,Ed,cC,na3,lk5,_,rfl,(by rw[ec];rfl),?_⟩
  rw[decide_eq_true (show V.int c9=oV c by rw[ec];rfl)]
  refine⟨false,rfl,eJ ?_⟩
  rotate_left
  refine eJ (eJ ?_)
  all_goals
   rw[Eb] at S4
   rcases ow with _ | b
   ·refine⟨_,rfl,.inl rfl,false,rfl,eJ (eJ ?_)⟩
    refine⟨_,rfl,.inl rfl,false,rfl,eJ ?_⟩
    exact⟨_,_,_,_,_,_,p,c,rfl,Vr,S4.wk (by omega)⟩
   ·cases b with
    | true =>
     refine⟨_,rfl,.inr ⟨true,rfl⟩,true,rfl,jc ?_⟩
     refine Wb rfl S4 Vr L.bx m9 how (λq' c' H5 s5 S5=>?_)
     obtain⟨C5,dx5,Ke,Tn,cC5,_,na5,_,lk6,_,_⟩:=S5.fld aI ay
     refine⟨_,rfl,x,C5,_,_,_,rfl,Tn,cC5,na5,lk6,rfl,?_⟩
     rw[decide_eq_true rfl]
     refine⟨false,rfl,eJ ?_⟩
     refine⟨_,rfl,.inr ⟨true,rfl⟩,false,rfl,eJ ?_⟩
     exact⟨_,_,_,_,_,_,q',c',rfl,s5,S5.wk (by omega)⟩
    | false =>
     refine⟨_,rfl,.inr ⟨false,rfl⟩,false,rfl,eJ (eJ ?_)⟩
     refine⟨_,rfl,.inr ⟨false,rfl⟩,true,rfl,jc ?_⟩
     refine⟨_,rfl,_,rfl,oa,_,_,_,rfl,rfl,bI.of (Vr _ _ Tc),a2,_,rfl,_,_,rfl,rfl,⟨by decide,by decide⟩,_,rfl,_,rfl,oa,_,_,_,rfl,rfl,bI.of (Vr _ _ Tc),a2,lb,_,rfl,.inl (bI.of Sq),_,_,rfl,rfl,(by rw[aj];have:=b7.mpr lk;omega),lb,_,_,_,rfl,rfl,bI.of Sq,gq z0 (by rw[aB,hz];rfl),?_⟩
     refine Ua rfl rfl S4 Vr L.bx m9 how Oq (am hz) (λc' H5 s5 S5=>?_)
     obtain⟨C5,dx5,Ke,Tn,cC5,_,na5,_,lk6,_,_⟩:=S5.fld aI ay
     refine⟨_,rfl,x,C5,_,_,_,rfl,Tn,cC5,na5,lk6,_,rfl,rfl,?_⟩
     rw[decide_eq_true rfl]
     refine⟨false,rfl,eJ ?_⟩
     exact⟨_,_,_,_,_,_,z,c',rfl,s5,S5.wk (by omega)⟩
 ·obtain⟨y1,y10,y11,y12,y13,y14,p,c,rfl,sy,Sy⟩:=h
  exact q _
theorem main {f:ah} {fd:fJ} (T:Txt mg)
  (XC:XT K mg "GarthError" Vu UR)
  {gf:ah} (aN:ClsAt K mg "Cutter" gf ["game","entries","hands","ways"])
  {iK:ah} (aI:ClsAt K mg "RankPlay" iK ["hand","at","rule","owners","outs"])
  {fE:ah} (ay:ClsAt K mg "PursePlay" fE ["hand","at","left","rule","owners","amounts"])
  (lV:uG K mg "least_needy")
  (m6:uG K mg "most_needy")
  (f6:em K "least_needy" ≠ em K "most_needy")
  (DM:bz K mg "is_whole" mw ["value"])
  (DL:bz K mg "is_place" mv ["value","count"])
  (GV:bz K mg "ways_in" lQ ["game"])
  (xG:bz K mg "place_marks" jv ["count","places"])
  (zM:bz K mg "part_marks" kd ["game","part"])
  (vK:bz K mg "lacking_ways" gO ["game","hand","inside","wanted"])
  (zL:bz K mg "next_layer" kc ["layer","entries","lacking"])
  (BV:bz K mg "layers_to" jN ["game","entries","hand","goal","part"])
  (BW:bz K mg "least_way" jO ["ways","marks"])
  (zH:bz K mg "layer_ways" j8 ["game","hand","layers"])
  (rW:uW K gf "Cutter.__init__" gw ["self","game"])
  (xB:iG K gf "pull" "Cutter.pull" jr ["self","hand","goal","left"])
  (tO:iG K gf "without" "Cutter.without" fM ["self","left","places"])
  (xA:iG K gf "give" "Cutter.give" jq ["self","hand","layers"])
  (qT:iG K gf "give_tops" "Cutter.give_tops" fQ ["self","hand","tops","left"])
  (zA:iG K gf "cut" "Cutter.cut" fD ["self","part"])
  (BX:bz K mg "places_of" k7 ["layers"])
  (JA:bz K mg "solved" pZ ["game"])
  (GU:bz K mg "need_by" nY ["purses","place","amount"])
  (zJ:bz K mg "need_order" j9 ["need"])
  (GS:bz K mg "is_more" nX ["need","other"])
  (xF:bz K mg "least_needy" iC ["ways","purses"])
  (zI:bz K mg "most_needy" i6 ["ways","purses"])
  (zC:bz K mg "check_rule" j6 ["game","hand","rule"])
  (uO:bz K mg "check_spender" gc ["game","rule"])
  (BY:bz K mg "ways_left" k8 ["game","rule"])
  (BP:bz K mg "add_gains" kX ["gains","ways","place"])
  (zF:bz K mg "comes_back" i5 ["left","start"])
  (zK:bz K mg "needs_left" i7 ["left"])
  (NG:bz K mg "needs" sR ["game","rule"])
  (DK:bz K mg "bettered" mr ["game","rule","table"])
  (zB:bz K mg "betterings" i4 ["game"])
  (uQ:bz K mg "solved_purses" iz ["game"])
  (xD:bz K mg "check_start" jt ["start","count"])
  (BQ:bz K mg "check_due" kY ["due"])
  (BR:bz K mg "check_way" kZ ["place","outs"])
  (qy:uW K iK "RankPlay.__init__" dZ ["self","game","start"])
  (xC:iG K iK "go" "RankPlay.go" js ["self"])
  (tP:iG K iK "other" "RankPlay.other" gN ["self","place"])
  (o8:uW K fE "PursePlay.__init__" dO ["self","game","start","purse"])
  (qx:iG K fE "pass_on" "PursePlay.pass_on" fz ["self","place"])
  (vJ:iG K fE "go" "PursePlay.go" iR ["self"])
  (rX:iG K fE "other" "PursePlay.other" gy ["self","place"])
  (xE:bz K mg "_law_cell_at" ju ["_law_script","_law_k"])
  (zG:bz K mg "_law_places" j7 ["_law_script","_law_many","_law_k"])
  (uP:bz K mg "_law_rank_game" iy ["_law_script","_law_many"])
  (tQ:bz K mg "_law_purse_game" gP ["_law_script","_law_many"])
  (BS:bz K mg "_law_marks" k6 ["_law_play","_law_place"])
  (BU:bz K mg "_law_wrong" jM ["_law_play","_law_many","_law_places_here","_law_own","_law_cell"])
  (F:Fe K "law" "law" oP f fd):nO P w K mg base xH 52 f fd ["_law_script"] (Gz K):=by
 have iw:=C2 (P:=P) (w:=w) (base:=base) DM T
 have ip:=C1 DL T iw
 have pm:=wF xG T ip
 have ly:=Iv BV T (xZ zM T pm) pm (Ew vK T) (O4 zL T)
 have le:=Lo (P:=P) (w:=w) (base:=base) BW T
 have lw:=X3 zH T pm le
 have cu:=N9 zA T aN (Lv xB T aN ly) (EA tO T aN pm) (O0 xA T aN lw) (Pa qT T aN pm le) (Iy BX T) 42
 have so:=Iz JA T aN (O1 rW T aN (X2 GV T)) cu
 have nb:=Ix (P:=P) (w:=w) (base:=base) GU T
 have od:=Lq (P:=P) (w:=w) (base:=base) zJ T
 have mo:=O3 GS T od
 have ln:=XZ xF T lV nb od
 have mn:=X0 zI T m6 nb od
 have nl:=X1 zK T (OW zF T (TW BP T)) ln nb mo
 have nd:=Lp NG T (Ez uO T (O8 zC T iw)) (O2 BY T) nl
 have bs:=OX zB T nd (C0 DK T mn nb mo)
 have sp:=O9 uQ T bs ln
 have du:=OZ (P:=P) (w:=w) (base:=base) BQ T XC
 have wx:=Pb BR T XC iw
 have pa:=O7 (P:=P) (w:=w) (base:=base) qx T ay
 have gx:=T2 vJ T ay du pa
 have ox:=O6 rX T ay du wx pa
 have gr:=TZ xC T aI du
 have orr:=O5 tP T aI du wx
 have cs:=Lx xD T ip
 have ip2:=Lm o8 T ay cs sp mo
 have ir:=Ln qy T aI cs so
 have ce:=OY (P:=P) (w:=w) (base:=base) xE T
 have pl:=Ey zG T ce
 have mk:=Iw BS T XC aI ay gr gx orr ox
 exact T4 F T f6 aI ay ce (Lw uP T ce pl) (Lu tQ T ce pl) ir ip2 (Ly BU T mk) gr gx orr ox
end
def oh:=({ ks:=[(.df "is_whole",mw,none),(.df "is_place",mv,none),(.df "ways_in",lQ,none),(.df "place_marks",jv,none),(.df "part_marks",kd,none),(.df "lacking_ways",gO,none),(.df "next_layer",kc,none),(.df "layers_to",jN,none),(.df "least_way",jO,none),(.df "layer_ways",j8,none),(.me "Cutter" "__init__" "Cutter.__init__",gw,none),(.me "Cutter" "pull" "Cutter.pull",jr,none),(.me "Cutter" "without" "Cutter.without",fM,none),(.me "Cutter" "give" "Cutter.give",jq,none),(.me "Cutter" "give_tops" "Cutter.give_tops",fQ,none),(.me "Cutter" "cut" "Cutter.cut",fD,none),(.df "places_of",k7,none),(.df "solved",pZ,none),(.df "need_by",nY,none),(.df "need_order",j9,none),(.df "is_more",nX,none),(.df "least_needy",iC,none),(.df "most_needy",i6,none),(.df "check_rule",j6,none),(.df "check_spender",gc,none),(.df "ways_left",k8,none),(.df "add_gains",kX,none),(.df "comes_back",i5,none),(.df "needs_left",i7,none),(.df "needs",sR,none),(.df "bettered",mr,none),(.df "betterings",i4,none),(.df "solved_purses",iz,none),(.df "check_start",jt,none),(.df "check_due",kY,none),(.df "check_way",kZ,none),(.me "RankPlay" "__init__" "RankPlay.__init__",dZ,none),(.me "RankPlay" "go" "RankPlay.go",js,none),(.me "RankPlay" "other" "RankPlay.other",gN,none),(.me "PursePlay" "__init__" "PursePlay.__init__",dO,none),(.me "PursePlay" "pass_on" "PursePlay.pass_on",fz,none),(.me "PursePlay" "go" "PursePlay.go",iR,none),(.me "PursePlay" "other" "PursePlay.other",gy,none),(.df "_law_cell_at",ju,none),(.df "_law_places",j7,none),(.df "_law_rank_game",iy,none),(.df "_law_purse_game",gP,none),(.df "_law_marks",k6,none),(.df "_law_wrong",jM,none),(.df "law",oP,none)],cs:=[("Cutter",["game","entries","hands","ways"]),("RankPlay",["hand","at","rule","owners","outs"]),("PursePlay",["hand","at","left","rule","owners","amounts"])],is:=[],ss:=[],bs:=["ValueError","bool","dict","enumerate","int","isinstance","len","list","max","min","range","set","sorted","zip"],xc:=λK=>BB K "GarthError" Vu UR,ext:=λK=>((em K "least_needy" == em K "most_needy"),()),Sb:=λw=>(false,()) }:lR _)
theorem all_mk {P:aO} {w:bD} {K:ak} {h:bT} {mg:aT->Option ae} {fa:ah} (e:oh.Ok w K) (X:K.In h) (TI:lm ["least_needy","most_needy"] K h) (G:h.Ns bf mg) (hfa:mg "law" = some (.ref fa)) :
  ∃ fd:fJ,(∀ (s:ai) (v:ae),NI s fd ⟨[v],[]⟩ [("_law_script",v)])/\∀ base:bT,K.In base->base.Ns bf mg->nO P w K mg base xH 52 fa fd ["_law_script"] (Gz K):=by
 have T:Txt mg:=⟨e.j4 X G 0 rfl,e.j4 X G 1 rfl,e.j4 X G 2 rfl,e.j4 X G 3 rfl,e.j4 X G 4 rfl,e.j4 X G 5 rfl,e.j4 X G 6 rfl,e.j4 X G 7 rfl,e.j4 X G 8 rfl,e.j4 X G 9 rfl,e.j4 X G 10 rfl,e.j4 X G 11 rfl,e.j4 X G 12 rfl,e.j4 X G 13 rfl⟩
 have XC:=Y7 X G e.exc
 obtain⟨gf,lP,Hh,Hg,aN⟩:=e.cls X G 0 rfl
 obtain⟨iK,pC,Cj,Ci,aI⟩:=e.cls X G 1 rfl
 obtain⟨fE,lG,Ak,Aj,ay⟩:=e.cls X G 2 rfl
 have lV:uG K mg "least_needy" := CH X G TI (by simp)
 have m6:uG K mg "most_needy" := CH X G TI (by simp)
 have f6:em K "least_needy" ≠ em K "most_needy" := λz=>by
  have zz:(em K "least_needy" == em K "most_needy")=false:=congrArg (λp=>p.1) e.more
  rw[z,beq_self_eq_true] at zz
  cases zz
 have A0:bz K mg "is_whole" mw ["value"]:=e.defAt X G 0 rfl (λ_ _ _ _ _ _=>L2.u7 λ_=>rfl)
 have A1:bz K mg "is_place" mv ["value","count"]:=e.defAt X G 1 rfl (λ_ _ _ _ _ _=>L2.lY λ_ _=>rfl)
 have A2:bz K mg "ways_in" lQ ["game"]:=e.defAt X G 2 rfl (λ_ _ _ _ _ _=>L2.u7 λ_=>rfl)
 have A3:bz K mg "place_marks" jv ["count","places"]:=e.defAt X G 3 rfl (λ_ _ _ _ _ _=>L2.lY λ_ _=>rfl)
 have A4:bz K mg "part_marks" kd ["game","part"]:=e.defAt X G 4 rfl (λ_ _ _ _ _ _=>L2.lY λ_ _=>rfl)
 have A5:bz K mg "lacking_ways" gO ["game","hand","inside","wanted"]:=e.defAt X G 5 rfl (λ_ _ _ _ _ _=>L2.JU λ_ _ _ _=>rfl)
 have A6:bz K mg "next_layer" kc ["layer","entries","lacking"]:=e.defAt X G 6 rfl (λ_ _ _ _ _ _=>L2.vZ λ_ _ _=>rfl)
 have A7:bz K mg "layers_to" jN ["game","entries","hand","goal","part"]:=e.defAt X G 7 rfl (λ_ _ _ _ _ _=>L2.VV λ_ _ _ _ _=>rfl)
 have A8:bz K mg "least_way" jO ["ways","marks"]:=e.defAt X G 8 rfl (λ_ _ _ _ _ _=>L2.lY λ_ _=>rfl)
 have A9:bz K mg "layer_ways" j8 ["game","hand","layers"]:=e.defAt X G 9 rfl (λ_ _ _ _ _ _=>L2.vZ λ_ _ _=>rfl)
 have M4:uW K gf "Cutter.__init__" gw ["self","game"]:=e.TL 10 lP Hh Hg rfl (λ_ _ _ _ _ _=>L2.lY λ_ _=>rfl)
 have Rn:iG K gf "pull" "Cutter.pull" jr ["self","hand","goal","left"]:=e.xY 11 lP rfl (λ_ _ _ _ _ _=>L2.JU λ_ _ _ _=>rfl)
 have Y8:iG K gf "without" "Cutter.without" fM ["self","left","places"]:=e.xY 12 lP rfl (λ_ _ _ _ _ _=>L2.vZ λ_ _ _=>rfl)
 have Y9:iG K gf "give" "Cutter.give" jq ["self","hand","layers"]:=e.xY 13 lP rfl (λ_ _ _ _ _ _=>L2.vZ λ_ _ _=>rfl)
 have A14:iG K gf "give_tops" "Cutter.give_tops" fQ ["self","hand","tops","left"]:=e.xY 14 lP rfl (λ_ _ _ _ _ _=>L2.JU λ_ _ _ _=>rfl)
 have A15:iG K gf "cut" "Cutter.cut" fD ["self","part"]:=e.xY 15 lP rfl (λ_ _ _ _ _ _=>L2.lY λ_ _=>rfl)
 have A16:bz K mg "places_of" k7 ["layers"]:=e.defAt X G 16 rfl (λ_ _ _ _ _ _=>L2.u7 λ_=>rfl)
 have A17:bz K mg "solved" pZ ["game"]:=e.defAt X G 17 rfl (λ_ _ _ _ _ _=>L2.u7 λ_=>rfl)
 have A18:bz K mg "need_by" nY ["purses","place","amount"]:=e.defAt X G 18 rfl (λ_ _ _ _ _ _=>L2.vZ λ_ _ _=>rfl)
 have A19:bz K mg "need_order" j9 ["need"]:=e.defAt X G 19 rfl (λ_ _ _ _ _ _=>L2.u7 λ_=>rfl)
 have A20:bz K mg "is_more" nX ["need","other"]:=e.defAt X G 20 rfl (λ_ _ _ _ _ _=>L2.lY λ_ _=>rfl)
 have A21:bz K mg "least_needy" iC ["ways","purses"]:=e.defAt X G 21 rfl (λ_ _ _ _ _ _=>L2.lY λ_ _=>rfl)
 have A22:bz K mg "most_needy" i6 ["ways","purses"]:=e.defAt X G 22 rfl (λ_ _ _ _ _ _=>L2.lY λ_ _=>rfl)
 have A23:bz K mg "check_rule" j6 ["game","hand","rule"]:=e.defAt X G 23 rfl (λ_ _ _ _ _ _=>L2.vZ λ_ _ _=>rfl)
 have A24:bz K mg "check_spender" gc ["game","rule"]:=e.defAt X G 24 rfl (λ_ _ _ _ _ _=>L2.lY λ_ _=>rfl)
 have A25:bz K mg "ways_left" k8 ["game","rule"]:=e.defAt X G 25 rfl (λ_ _ _ _ _ _=>L2.lY λ_ _=>rfl)
 have A26:bz K mg "add_gains" kX ["gains","ways","place"]:=e.defAt X G 26 rfl (λ_ _ _ _ _ _=>L2.vZ λ_ _ _=>rfl)
 have A27:bz K mg "comes_back" i5 ["left","start"]:=e.defAt X G 27 rfl (λ_ _ _ _ _ _=>L2.lY λ_ _=>rfl)
 have A28:bz K mg "needs_left" i7 ["left"]:=e.defAt X G 28 rfl (λ_ _ _ _ _ _=>L2.u7 λ_=>rfl)
 have A29:bz K mg "needs" sR ["game","rule"]:=e.defAt X G 29 rfl (λ_ _ _ _ _ _=>L2.lY λ_ _=>rfl)
 have A30:bz K mg "bettered" mr ["game","rule","table"]:=e.defAt X G 30 rfl (λ_ _ _ _ _ _=>L2.vZ λ_ _ _=>rfl)
 have A31:bz K mg "betterings" i4 ["game"]:=e.defAt X G 31 rfl (λ_ _ _ _ _ _=>L2.u7 λ_=>rfl)
 have A32:bz K mg "solved_purses" iz ["game"]:=e.defAt X G 32 rfl (λ_ _ _ _ _ _=>L2.u7 λ_=>rfl)
 have A33:bz K mg "check_start" jt ["start","count"]:=e.defAt X G 33 rfl (λ_ _ _ _ _ _=>L2.lY λ_ _=>rfl)
 have A34:bz K mg "check_due" kY ["due"]:=e.defAt X G 34 rfl (λ_ _ _ _ _ _=>L2.u7 λ_=>rfl)
 have A35:bz K mg "check_way" kZ ["place","outs"]:=e.defAt X G 35 rfl (λ_ _ _ _ _ _=>L2.lY λ_ _=>rfl)
 have A36:uW K iK "RankPlay.__init__" dZ ["self","game","start"]:=e.TL 36 pC Cj Ci rfl (λ_ _ _ _ _ _=>L2.vZ λ_ _ _=>rfl)
 have A37:iG K iK "go" "RankPlay.go" js ["self"]:=e.xY 37 pC rfl (λ_ _ _ _ _ _=>L2.u7 λ_=>rfl)
 have A38:iG K iK "other" "RankPlay.other" gN ["self","place"]:=e.xY 38 pC rfl (λ_ _ _ _ _ _=>L2.lY λ_ _=>rfl)
 have A39:uW K fE "PursePlay.__init__" dO ["self","game","start","purse"]:=e.TL 39 lG Ak Aj rfl (λ_ _ _ _ _ _=>L2.JU λ_ _ _ _=>rfl)
 have A40:iG K fE "pass_on" "PursePlay.pass_on" fz ["self","place"]:=e.xY 40 lG rfl (λ_ _ _ _ _ _=>L2.lY λ_ _=>rfl)
 have A41:iG K fE "go" "PursePlay.go" iR ["self"]:=e.xY 41 lG rfl (λ_ _ _ _ _ _=>L2.u7 λ_=>rfl)
 have A42:iG K fE "other" "PursePlay.other" gy ["self","place"]:=e.xY 42 lG rfl (λ_ _ _ _ _ _=>L2.lY λ_ _=>rfl)
 have A43:bz K mg "_law_cell_at" ju ["_law_script","_law_k"]:=e.defAt X G 43 rfl (λ_ _ _ _ _ _=>L2.lY λ_ _=>rfl)
 have A44:bz K mg "_law_places" j7 ["_law_script","_law_many","_law_k"]:=e.defAt X G 44 rfl (λ_ _ _ _ _ _=>L2.vZ λ_ _ _=>rfl)
 have A45:bz K mg "_law_rank_game" iy ["_law_script","_law_many"]:=e.defAt X G 45 rfl (λ_ _ _ _ _ _=>L2.lY λ_ _=>rfl)
 have A46:bz K mg "_law_purse_game" gP ["_law_script","_law_many"]:=e.defAt X G 46 rfl (λ_ _ _ _ _ _=>L2.lY λ_ _=>rfl)
 have A47:bz K mg "_law_marks" k6 ["_law_play","_law_place"]:=e.defAt X G 47 rfl (λ_ _ _ _ _ _=>L2.lY λ_ _=>rfl)
 have A48:bz K mg "_law_wrong" jM ["_law_play","_law_many","_law_places_here","_law_own","_law_cell"]:=e.defAt X G 48 rfl (λ_ _ _ _ _ _=>L2.VV λ_ _ _ _ _=>rfl)
 obtain⟨kV,doc,pm,an,dk,ct,FL⟩:=e.law X G 49 rfl hfa
 exact⟨_,λs v=>.of_eq rfl,λbase _ _=>main (P:=P) (w:=w) (base:=base) T XC aN aI ay lV m6 f6 A0 A1 A2 A3 A4 A5 A6 A7 A8 A9 M4 Rn Y8 Y9 A14 A15 A16 A17 A18 A19 A20 A21 A22 A23 A24 A25 A26 A27 A28 A29 A30 A31 A32 A33 A34 A35 A36 A37 A38 A39 A40 A41 A42 A43 A44 A45 A46 A47 A48 FL⟩
def VW:List Nat:=[0,1,2,3,4,5,6,7,8,9,10,11,12,13,14,15,22,23,24,25,28,35,36,37,40,47,48,49,52,59,60,61,64,71,72,73,76,83,84,85,88,95,96,97,100,107,108,109,112,119,120,121,124,131,132,133,136,143,144,145,148,155,156,157,160,167,168,169,172,179,180,181,184,191,192,193,196,197,198,199,200,201,202,203,204,205,206,207,208,209,210,211,212,213,214,215,216,217,218,219,220,221,222,223,224,225,226,227,228,229,230,231,232,233,234,235,236,237,238,239,240,241,242,243,244,245,246,247,248,249,250,251,252,253,254,255,256,257,265,266,267,268,269,270,271,272,273,274,275,276,277,278,279,280,281,282,283,284,285,286,287,288,289,290,291,292,293,294,295,296,297,298,299,300,301,302,303,304,305,306,307,310,311,312,313,314,315,316,317,318,319,320,321,322,323,324,325,326,327,328,329,330,331,332,333,334,335,336,337,338,339,340,341,342,343,344,345,346,347,348,349,350,351,352,353,354,355,356,357,358,359,360,361,362,363,364,365,366,367,368,369,370,371,372,373,374,375,376,377,378,379,380,381,382,383,384,385,386,387,388,389,390,391,392,393,394,395,396,397,398,399,400,401,402,403,404,405,406,407,408,409,410,411,412,413,414,415,416,417,418,419,420,421,422,423,424,425,426,427,428,429,430,431,432,433,434,435,436,437,438,439,440,441,449,450,451,452,453,454,455,456,457,458,459,460,461,462,463,464,465,466,467,468,469,470,471,472,482,483,484,485,486,487,488,489,490,491,492,493,494,495,496,497,498,499,500,501,502,503,504,505,506,507,508,509,510,511,512,515,516,517,518,519,520,521,522,523,524,525,526,527,528,529,530,531,532,533,534,535,536,537,538,539,540,541,542,543,544,545,546,547,548,549,550,551,552,553,554,555,556,557,558,559]
def qV:aO:=PySem.W.view bq [63]
def Z8:List aT:=(bq.main.scope.names.map (·.1)).filter λx=>!(x == "law")
def xtV (s:ai):Bool:=PySem.W.xlAt qV [] s && PySem.W.recOk (PySem.W.RowW.records fY.row.toRowW) s
def dL:PySem.DefRec:=⟨"law",jY oP,fk oP,aC oP,a0K oP⟩
set_option maxHeartbeats 0
theorem HS:PySem.W.opening bq=PySem.W.plainProg bq.main.scope.names:=by kernel_rfl
theorem Kt (w:bD) (os:OsState):(tj bq w 11 (some (.ref 6)) 10844 ⟨yJ w.params,11,{},Array.mk [],G4,Ji,os⟩ (PySem.W.topStub bq)).map (λr=>Bw bq qV Z8 xtV true (λs=>(oh.look (zh VW s.heap),(["least_needy","most_needy"]:List aT).all λx=>ME (zh VW s.heap) s.heap x)) (Jh w.params) r.abs)=some (true,PySem.W.openGood qV Z8,(oh.want w,true)):=by kernel_rfl
theorem HR:PySem.W.LeftO fY.row.prog qV Z8 xtV (λs=>(oh.look (zh VW s.heap),(["least_needy","most_needy"]:List aT).all λx=>ME (zh VW s.heap) s.heap x)) (λw=>(oh.want w,true)) 10844 :=
 Io (p:=bq) (H₀:=Jh) (gs₀:=Array.mk []) (d₀:=G4) (k₀:=Ji) (m₀:=11) (ann:=some (.ref 6)) (M:=10844) (T₀:=yJ) (n₀:=11) (life:={}) (PySem.W.boot_open HS (by decide +kernel) λs=>by kernel_rfl) (λw=>by kernel_rfl) (λP=>by kernel_rfl) Kt (by decide +kernel)
end Law
open PySem PySem.W PyProof.Rows
set_option maxRecDepth 100000 in
set_option maxHeartbeats 0 in
theorem PySem.Challenge.cw_rankgarth_k67_plays_refused_holds : PySem.Challenge.rw_rankgarth_k67_plays_refused.Holds := by
 refine PySem.W.holds_law (by kernel_rfl) λaei=>?_
 refine PySem.W.holds_open (q:=Law.qV) (loose:=Law.Z8) (Xt:=Law.xtV) (XP:=XL Law.qV []) (YP:=λw h=>∃ K:Frag,K.In h/\Law.oh.Ok w K/\L2.lm ["least_needy","most_needy"] K h) (d:=Law.dL) (kwd:=[]) Law.HR (λw s e=>⟨L2.zh Law.VW s.heap,L2.LH _ _,(U4 e).1,L2.lm.of (U4 e).2⟩) (λw h h' y k=>y.elim λK z=>⟨K,z.1.keeps k,z.2.1,z.2.2.keeps k⟩) (λs e=>xl_of s (lN.mp e).1) XL.keeps (by kernel_rfl) (by kernel_rfl) (by kernel_rfl) (λs e=>recFacts_of (lN.mp e).2) (by kernel_rfl) aei (by kernel_rfl) ⟨rfl,rfl,rfl,rfl,rfl,by decide +kernel⟩ ?hw ?hc
 case hw=>w_witness2
 case hc=>exact L2.MO (l:=fY) (n:=63) (k:=52) (x := "_law_script") (nm := "law") (sp:=Law.Gz) (xs:=["least_needy","most_needy"]) (Fc:=λw K=>Law.oh.Ok w K) rfl (by decide) (by kernel_rfl) ⟨rfl,by decide,by decide⟩ (by kernel_rfl) (λw K mg fa h e X ti G hm=>Law.all_mk e X ti G hm) (λ_ _ a ns hl hT hS=>⟨a,ns,rfl,hS,hT,hl,λ_=>rfl⟩)
