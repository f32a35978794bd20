import PyProof.Rows.All
import Wide.All
import OpenK.AllK
import Wide.FinOn
import Lean
import PyProof.EqAt
import PyProof.EqKinds
import PyProof.TupleCall
import PyProof.NeKinds
import KE.KDictSum
import PyProof.Rows.SetFrom
import KE.KSortTup
import PySem.Challenge.RW_rankgarth_k76_whole_desk_won_by_ranks
theorem Z{α:Sort _}{a:α}:a=a:=rfl
open Option renaming some → O,none → Y
local macro_rules|`(tactic|trivial)=>`(tactic|first|decide +kernel|exact True.intro|exact ⟨rfl,rfl,rfl,by decide +kernel,rfl,by decide +kernel,by decide +kernel⟩)
set_option linter.all false
set_option Elab.async false
set_option maxRecDepth 100000
set_option maxHeartbeats 4000000
open Array renaming length_toList->aT,getElem?_toList->b6,toList_extract->iI,toList_inj->iT,getElem?_eq_getElem->nc,toList_push->tY,isEmpty_iff->MK
open Bool renaming and_eq_true->aQ,false_ne_true->bc,eq_iff_iff->em,false_and->iQ,and_eq_true_iff->lF,false_eq_true->mX,not_eq_true'->nT,true_and->su,eq_false_iff->uq,or_eq_true->xB,and_false->AK,false_or->UL,or_false->UM,true_or->Yz
open Classical renaming byContradiction->bX,choose_spec->AL
open False renaming elim->e6
open ForInStep renaming yield->eW
open Iff renaming rfl->Z7
open Int renaming emod_lt_of_pos->bN,toNat_natCast->bO,emod_nonneg->cj,toNat_of_nonneg->gQ,zero_add->pV,le_refl->JT,lt_or_eq_of_le->Nm
open List renaming length_map->ab,mem_of_getElem?->ag,getElem?_eq_some_iff->aj,getElem?_map->au,map_append->aB,mem_cons->aG,mem_cons_self->aL,take_add_one->aM,take_length->aR,length_append->aV,mem_cons_of_mem->aW,replicate->aX,size_toArray->aZ,getElem?_eq_none->bf,getElem?_eq_getElem->bi,mem_singleton->bj,range->bn,mem_filter->bt,filter_cons_of_pos->bw,mem_map->bE,mem_append->bH,filter_cons_of_neg->bJ,all_eq_true->bL,map_cons->bY,mem_append_right->b7,getElem?_append_left->ck,mem_range->cm,length_cons->cz,length_filter_le->cC,filter_append->cD,Nodup->cM,getElem?_append_right->cN,getElem?_of_mem->cP,mem_append_left->cY,drop_eq_getElem_cons->cZ,length_take->db,lookup_cons->dc,ext_getElem?->dg,nodup_cons->dt,getElem?_set_self->dC,map_map->dD,getElem?_range->dH,length_pos_iff->dI,length_singleton->dM,getElem?_drop->dU,getElem?_set_ne->dY,append_assoc->d6,append_nil->er,nodup_append->e7,range_succ->fe,flatten_append->fA,pairwise_lt_range->fG,lookup->fK,getD_eq_getElem?_getD->fO,getElem?_take->fP,getElem?_zip_eq_some->gb,filter->gh,length_range->gi,range'->gj,filterMap_cons->gJ,map_congr_left->gK,not_mem_nil->gR,take_of_length_le->hE,flatten_cons->iu,drop_drop->iS,any_eq_true->i7,length_drop->i8,replicate_succ->jj,find?_cons->jA,length_set->jC,of_mem_zip->jD,getElem?_replicate->j0,length->j3,length_eq_zero_iff->j4,drop_left->kD,find?_cons_of_neg->kE,pairwise_map->kF,mem_iff_getElem?->k9,mem_of_mem_drop->lG,length_zip->md,take_succ_cons->mi,drop_zero->mY,pairwise_cons->mZ,take_zero->m4,extract_eq_drop_take->nN,any_cons->oj,getElem_mem->oA,length_replicate->qi,take_append_drop->qj,nodup_nil->qP,replicate_succ'->qQ,findIdx?_eq_some_iff_getElem->t4,take_sublist->uw,mem_flatten->wu,exists_mem_of_length_pos->wM,take_append_of_le_length->wN,length_nil->xE,nil_append->xF,foldl->AN,length_eraseIdx_of_lt->AO,nodup_iff_pairwise_ne->AQ,getElem?_take_of_lt->Dl,getD->DZ,filter_eq_nil_iff->Fx,find?_cons_of_pos->Fy,map_nil->Fz,range'_append_1->Ju,map_eq_nil_iff->JX,findIdx?_cons->MN,getElem_idxOf->MO,mem_filterMap->MP,ne_nil_of_mem->MQ,cons->P2,getElem_inj->P3,take->P4,forIn_cons->Rk,map->Uc,take_left->Ud,all_cons->UU,map_drop->UV,all_map->YH
open List.Pairwise renaming nil->AM
open Nat renaming le_refl->ay,ne_of_lt->aP,zero_le->bq,le_trans->bF,lt_of_lt_of_le->cp,ne_of_gt->cI,lt_succ_of_lt->dJ,lt_succ_self->eS,le_of_lt->gn,le_succ->hU,le_add_right->jc,lt_irrefl->jE,lt_trans->mN,lt_trichotomy->oo,le_of_not_lt->oJ,lt_or_ge->pW,add_comm->vc,sub_self->vd,mod_eq_of_lt->wO,succ_ne_self->wP,add_sub_cancel_left->FA,le_of_eq->G2,mod_lt->No,le_succ_of_le->P5,add_zero->aad,succ_mul->aae,zero_add->aaf
open Ne renaming symm->cg
open Option renaming map_eq_some_iff->d5,map_some->d8,isNone_iff_eq_none->m6,isSome_map->nk,isSome_iff_exists->nO,none->FB,getD_none->MS
open Option.some renaming inj->bQ
open Or renaming inl->aY,inr->uy
open Prod renaming ext->uz
open Prod.mk renaming injEq->P7
open PyProof.Rows renaming callWith_type1->c7,IntsAre->dB,boot_isinstance->eP,boot_str->jG,boot_sorted->mf,fact_split->mx,boot_list->m7,kindOf->ny,boot_all->nP,boot_int->nQ,boot_max->nR,isInt->pe,envOfC->qc,callWith_builtin1->qR,AllBare->qU,boot_enumerate->sN,signs->An,subscriptTail->Mn,Call_->ML,subscriptTail_builtinR->Py,Subscript_->U3
open PyProof.Rows.F renaming plain_set_update_loop->pT,entry_set_update_loop->Js
open PyProof.Rows.IntsAre renaming int_at->MU
open PySem renaming Value->ae,wpAny_bind->ah,Addr->ai,Shared->aq,sizeLine->az,Str->aE,wpAny_pure->aF,Program->aS,mainGlobals->bo,model->br,boot_len->bu,World->bv,starEach->bD,Expr->cF,Stmt->cH,Around->cK,Heap->cR,SetTable->dO,eval->dP,sysModules->d4,call_meets->eG,wpAny_truthy_bool->eI,wpAny_ite_split->eQ,compareOp->fI,wpAny_newObj_type->fJ,wpAny_mono->fL,wpAny_holding->fW,Obj->fY,Paired->gf,backTo->gB,mem_of_lookup->gF,codeAny_builtin->gG,wpAny_call_entry->ib,wpAny_setField_rec->iE,FuncData->iJ,wpAny_passesOwn->iP,wpAny_setState_of->i9,Pos->jd,typeIs_str->ju,Builtin->jx,OsState->jF,wpAny_askSetting->jY,wpAny_setEntries_of->j9,attributeBase->kf,behindInMarks->kg,plainId_quiet->kn,hashStr->kG,intKind->kH,wpAny_Call_Name_kw->kY,keywordEach->k5,strIterType->k6,wpAny_callSpecial?_slot->k7,Scope->lp,codeAny_mono->lu,foldedSetIterable->lx,holding->lD,pickOrder->mr,pyNext->ms,scanBound->mv,sliceBounds->mV,importedModules->nv,rawInt->nH,bootBuiltins->n4,valueAt->oi,binaryOp->ox,tupleKind_room_in1->oz,fits_of_scanBound->pj,wpAny_pyIter_enum->pP,wpAny_pyIter_list->pQ,backToKw->qz,swapsWith->qO,assignEach->re,letOwnedTupleGo->si,wpAny_execs_nil->sj,NameKind->t6,firstArgMember->uc,step->um,wpAny_fieldsOf->uo,getMethod->uG,setNext->uP,tupleKind->uU,wpAny_attempt->wz,assign->wR,wpAny_load->xA,cLine->zd,callerA->zi,getItem->zm,relayAll->zX,standAt->Az,wpAny_assign_Name->AI,wpAny_typeOf->AJ,DictEntry->Bv,Result->BC,call->BK,treeTable->C0,wpAny_execs_cons->Dd,wpAny_isInstance->De,seqIndex_of->DD,sizeLine_eq->DE,subscripted->DF,Env->DX,Within->D3,Keyword->Fw,importedModules->FD,GenState->G1,atKey->Hf,bindArgs->Hg,builtinsNs->Hh,callWith->Hl,isSubtype_type->Iy,pyIter->IU,setEntries->Jb,setsByText->Jd,wpAny_letOwnedTupleGo_enum->Jp,wpAny_rule->Jq,wpAny_comprehension_free->ME,wpAny_standAt->MF,Drawn->MM,bindC->MX,bindL->MY,BindsTo->Nh,Params->Nr,call_meetsIn->NF,isTrue->Og,limitOf->Oq,seqIndex_neg->Pq,setNextDrawn->Pr,wpAny_pyNext_list_item->PQ,builtinLookup_eq_fast->Qa,wpAny_isTrue_Compare1->Q0,wpAny_pyNext_list_end->Q2,CmpOp->Ra,getD_mem->Rp,mem_getD->Rq,entryFor->RF,intText?->SD,numAt_eq->SY,wpAny_of_eq->T9,Sem->U2,getattributeRaised->Vk,typeIs_int->Yn,typeLookup->Yo,wpAny_Name->Yr,wpAny_call->Ys,Model->YI,Tok->YL,setItem->ZH,slot_list_getitem->ZI,wpAny_Call_method->ZT,wpAny_pyIter_slot->ZU,wpAny_setEpoch_of->ZV,wpAny_storeSet_of->ZW,Arguments->ZY,call->aaq,cellsFrom->aaE,entryFor_of_tree->aaH,wpAny_getItem_of->adj,wpAny_pyIter_zip->adk
open PySem.Around renaming under_plainId->eU,under->Dg
open PySem.Builtin.Dict renaming updateFrom->uY
open PySem.Builtin.Frozenset renaming sizeOf->qW,newClass->Q7,updateFrom->Q8
open PySem.Builtin.List renaming listTooLong->iG,listExtendWith->kZ,listLengthHint->sv,listSameRef->ur
open PySem.Builtin.Range renaming rangeSize->ut
open PySem.Builtin.Str renaming occurrences->bW,strKind->cS,strSub->fu,partsBetween->uZ,glued->Di,subAt->Dj
open PySem.Calls renaming spliced_cons->jz,callWith_builtin->ke,spliced_nil->nM,evalArgs_plain->qp,Name_function_global->yT
open PySem.Challenge renaming pw_rankgarth_k76_whole_desk_won_by_ranks->aw,rw_rankgarth_k76_whole_desk_won_by_ranks->bx
open PySem.CmpOp renaming NotIn->YA
open PySem.Code renaming isFrame->Ft,frames->Z1
open PySem.EqMixed renaming eq_bool_str->aag,eq_int_str->aah,eq_str_bool->aai,eq_str_int->aaj,ne_bool_str->aak,ne_int_str->aal,ne_str_bool->aam,ne_str_int->aan
open PySem.F renaming plainAttrs_list->ba,slot_list_append->bR,type_list_append->bS,plainAttrs_str->cO,slot_list_index->eZ,slot_str_split->gV,type_str_split->gW,entry_str_split->iR,called_set->js,slot_str_split->jt,type_list_index->jv,slot_list_getattribute->oG,slot_dict_get->oK,args_str_split_2->u7,args_str_split_3->u8,slot_dict_setdefault->ve,args_list_index_2->xG,plain_extend_loop->xH,slot_dict_getitem->xI,entry_list_index->zb,args_dict_get_2->AS,plainAttrs_dict->AT,plain_list_iadd->AU,entry_dict_get->Bx,slot_str_index->By,type_str_index->Bz,slot_str_join->Dm,type_str_join->Do,plain_set_new->YD,slot_int_rmul->YE,slot_set_iter->YF
open PySem.Heap renaming get?_push_of_some->ar,lt_size->aH,get?_push_size->aO,get?_none_of_le->dX,get?_update_other->fF,SameBut->gg,size_push->kC,get?_update_self->k8,ExtBut->Z5
open PySem.Heap.DictOf renaming new->Fv
open PySem.Heap.IsSliceOf renaming new->YG
open PySem.Heap.SameBut renaming update->y9
open PySem.NameKind renaming free->cQ,cell->g8
open PySem.Obj renaming mapSeq->nj,putSet->Bw
open PySem.Paired renaming length->jk,snoc->UY
open PySem.PassesOwn renaming never->bB
open PySem.SeqAt renaming list_indexAt->J3,EqAt->aar
open PySem.SeqAt.EqAt renaming int_str->Dq,str_int->Dr
open PySem.SetTable renaming below->bG,grown->io,has->r6,sizeAbove->FF,fits->Nv
open PySem.SetTable.below renaming go->lq
open PySem.SetTable.probe renaming go->pf
open PySem.Str renaming ofString->pY,empty->FH
open PySem.StrLaws renaming partsFrom->cJ,occBody->d7,partsBetween_eq->jw,At->kK,ChainG->pZ,glued_eq_join->Ds,found_one->aao
open PySem.Txt renaming split->bK,splitMax->dj,partition->eX,join->fB
open PySem.Value renaming ref->b8,int->e5,none->g9,type->jH,bool->lf,str->lg,builtin->r9,float->G6,isInt->G7,isInt_shape->MW,isStrOf->Uf,bytes->YN
open PySem.W renaming Frag->af,kia_one->dN,emptyDict->d3,findIn->eT,instObj->fV,boot_heap->fZ,keepIn->ix,openGood->iK,kitOne->j6,fnOf->lM,callWith_K->mj,plainGet->nZ,lookIn->pX,plainGet_of->qy,hasDictIn->sO,methodObj->sP,takerIn->vf,codeIn->wQ,cellsFrom_some->BA,isFn->BB,methodCall_KW->Dp,callWith_K0->FC,boot_drawn->G3,boot_toks->Jv,kitx_dict->Jw,kitx_list->Jx,looksOpen->Jy,plainOver->Jz,handedIn->J1,makesIn->MV,kIn_of->Nu,mg_of->P8
open PySem.W.Fast renaming tw4187177175401517315->ff
open PySem.W.Looks renaming here->aap
open PySem.W.OpenLaw renaming wellSaid->UZ
open PySem.W.OpenRow renaming partSaid->U0,wellSaid->U1
open PySem.Walks renaming list->aax
open PySem.World renaming withFollow->bT
open PySem.pickOrder renaming go->zT
open Sum renaming inl->gS,inr->iH
open Sum.inr renaming inj->lc
open True renaming intro->gy
namespace L2
open PySem PySem.Spec PyProof.Rows
end L2
namespace HT
open PySem PyProof.Rows
end HT
namespace L2
open PySem PySem.Spec PyProof.Rows
end L2
namespace Yy
open PySem PySem.W PySem.Calls PyProof.Rows
end Yy
namespace L2
open PySem PySem.Spec PyProof.Rows
end L2
/- THE aaa Nw (shape;LID,My.* are Yv):
   My.Adr: a structure of JK addresses ade adp WX names (classes,HM);My.Txt K t: a structure (Prop) of JK equations over K;
   My.Fq:{K} {implicit addresses ..} (e1:nsIn K bo "law" = O (O (.ref f))) (e2:K.lookup f=O ⟨oc,od,.func (fnOf "law" "law" params body scope dV kV doc pm an dW ct),sl⟩) (e3:codeIn K dW "law" = true) ..:∃ t,My.Txt K t
set_option maxRecDepth 100000 in
set_option maxHeartbeats 0 in
theorem PySem.Challenge.cw_LID_holds : PySem.Challenge.rw_LID.Holds := by
 w_on;o_law;k_head;(case hw=>w_witness2)
 k_fill
 refine L2.PK (l:=PySem.Challenge.rw_LID) (n:=63) (k:=40) (x := "script") (CX:=λw=>..) (sp:=λ_=>My.TC) Z (by decide) Z ⟨Z,by decide,by decide⟩ (λw h E1=>Nu E1) ?F ?S ?C
 case F =>
  intro w mg fa h KX G Qw;have T:∃ t,My.Txt (L2.Z9 KX) t:=by
   dsimp only [L2.Z9]                          -- K acB XZ as «<heap const> w.params» for k_is;refine' My.Fq ?e1 ?e2 ?e3 ..
   (case e1=>PySem.W.k_is)                    -- in JK order: a name -> ci address -> ci object -> ci parts
   (case e2=>PySem.W.k_is)
   ..
  obtain⟨t,T⟩:=T;have e0:=Qw.symm.trans (P8 KX G T.law);cases e0                                       -- fa is JK WW own address;exact⟨_,λs u=>.of_eq Z,λbase kb nb=>My.Ey T kb nb⟩     -- if «.of_eq rfl» comes too early: refine' ⟨_,?b,λbase kb nb=>My.Ey T kb nb⟩;exact λs u=>.of_eq Z
 case S=>exact λw H a ns hl hO hS=>..
 case C=>exact ..
(JK tactic k_is has no namespace: write k_is) -/
namespace L2
open PySem PySem.Spec PyProof.Rows
def a0i(s:cH)(j:Nat):cH:=match s with
 |.ClassDef _ _ _ body _ _ _ _ _ _ _=>body.getD j (.Pass ⟨0,0,0,0⟩)
 |_=>.Pass ⟨0,0,0,0⟩
def jJ(s:cH):ZY:=match s with
 |.FunctionDef _ a _ _ _ _ _ _ _ _=>a
 |_=>{ posonlyargs:=[],args:=[],vararg:=Y,kwonlyargs:=[],kw_defaults:=[],kwarg:=Y,defaults:=[] }
def gM(s:cH):List cH:=match s with
 |.FunctionDef _ _ b _ _ _ _ _ _ _=>b
 |_=>[]
def aC(s:cH):lp:=match s with
 |.FunctionDef _ _ _ _ _ _ sc _ _ _=>sc
 |_=>{ kind:=.function,names:=[],isGenerator:=false,isCoroutine:=false }
def wq:List ae->Option (List aE)
 |[]=>O []
 |.str x _::r=>(wq r).map (x::·)
 |_::_=>Y
def C6(K:af)(a:ai):Option (List aE) :=
 match K.lookup a with
 |some ⟨.type "tuple",_,.seq ci _,_⟩=>if ci.size<=64 then wq ci.toList else Y
 |_=>Y
def a0t:List Bv->Option (List (Int × aE × ai))
 |[]=>O []
 |⟨hs,.str x _,.ref a⟩::r=>(a0t r).map ((hs,x,a)::·)
 |_::_=>Y
def Ef(K:af)(a:ai):Option (List (Int × aE × ai)) :=
 match K.lookup a with
 | some o=>if ((o.cls == .type "dict") && o.dict.isNone && o.slots.isEmpty)=true then (match o.data with
  |.dict es _=>if es.size<=64 then a0t es.toList else Y
  | _=>Y) else Y
 |none=>Y
def a0s:List Bv->Option (List (Int × aE × Int))
 |[]=>O []
 |⟨hs,.str x _,.int i _⟩::r=>(a0s r).map ((hs,x,i)::·)
 |_::_=>Y
def Ew(K:af)(a:ai):Option (List (Int × aE × Int)) :=
 match K.lookup a with
 | some o=>if ((o.cls == .type "dict") && o.dict.isNone && o.slots.isEmpty)=true then (match o.data with
  |.dict es _=>if es.size<=64 then a0s es.toList else Y
  | _=>Y) else Y
 |none=>Y
end L2
namespace L2
open PySem PySem.W PySem.Calls PyProof.Rows
noncomputable def rT (p:aS) (w:bv) (n₀:Nat) (ann:Option ae):Nat->SharedT->Thread->Option SharedT
 |0,_,_=>Y
 |n + 1,s,t=>match through t with
  |true=>O s
  |false=>match PySem.W.Fast.tw6613529449190102663 n₀ ann t with
   |false=>Y
   |true=>match PySem.W.Fast.tw10156331382660048174 (PySem.W.Fast.tw11892475500146522536 PySem.W.Fast.tw14364793385576792824) p w s t with
    |some (s',t')=>rT p w n₀ ann n s' t'
    |none=>Y
def a0K:List fY->Nat->BT->BT
 |[],_,t=>t
 |o::l,n,t=>a0K l (n+1) (t.ins n o)
noncomputable def xN (P:Nr):BT:=a0K (boot_heap P).objs.toList 0 .nil
def jh(as:List ai)(h:cR):Frag:=as.filterMap λa=>(h.get? a).map λo=>(a,o)
def NJ(K:Frag):ae->Option (Option (List ae))
 |.none=>O Y
 |.ref T=>match K.lookup T with
  |some ⟨_,_,.seq vs _,_⟩=>O (O vs.toList)
  |_=>Y
 |_=>Y
abbrev Sig:=(aE × aE × ai × List (aE × ai) × Option (Option (List ae)) × ai) × (Bool × Bool) × ZY × FuncBody × lp
def qD(K:Frag)(v:Option (Option ae))(qual:aE):Option Sig:=match v with
 |some (O (.ref f))=>match K.lookup f with
  |some ⟨_,_,.func fd,_⟩=>O ((fd.name,fd.qualname,fd.globals,fd.closure,NJ K fd.defaults,fd.builtins),(codeIn K fd.code qual,isFn K (.ref f)),fd.params,fd.body,fd.scope)
  |_=>Y
 |_=>Y
def Jg(x qual:aE)(st:cH)(df:Option (List ae)):Sig:=((x,qual,bo,[],O df,Hh),(true,true),jJ st,.stmts (gM st),aC st)
inductive Ky where
 |df (x:aE)
 |me (c m qual:aE)
def Ky.val(K:Frag):Ky->Option (Option ae)
 |.df x=>nsIn K bo x
 |.me c m _=>match nsIn K bo c with
  |some (O v)=>findIn K v m
  |_=>Y
def Ky.qual:Ky->aE
 |.df x=>x
 |.me _ _ q=>q
def Ky.nm:Ky->aE
 |.df x=>x
 |.me _ m _=>m
def uD(K:Frag)(c:aE × List aE):Option (Bool × Option (Option ae) × List (Option (Option ae))):=match nsIn K bo c.1 with
 |some (O (.ref C))=>O (plainGet K C FH && hasDictIn K C && plainOver K C && makesIn K C && keepIn K (.ref C),findIn K (.ref C) "__setattr__",c.2.map λf=>findIn K (.ref C) f)
 |_=>Y
def uK(K:Frag)(x:aE):Option Int:=match nsIn K bo x with
 |some (O (.int v _))=>O v
 |_=>Y
def uS(K:Frag)(x:aE):Option aE:=match nsIn K bo x with
 |some (O (.str v _))=>O v
 |_=>Y
def mI{β:Type}(K:Frag)(x:aE)(g:Frag->ai->β):Option β:=match nsIn K bo x with
 |some (O (.ref d))=>O (g K d)
 |_=>Y
structure iF(β:Type) where
 ks:List (Ky × cH × Option (List ae))
 cs:List (aE × List aE):=[]
 is:List (aE × Int):=[]
 ss:List (aE × aE):=[]
 bs:List aE:=[]
 xc:Frag->Bool:=λ_=>true
 ext:Frag->β
 NL:bv->β
section
variable {w:bv}{K:Frag}{h:cR}{mg:aE->Option ae}{x:aE}
def B7(K:Frag)(d:ai):=(d == d4,Ew K d)
def BY(ns:List aE)(K:Frag)(d:ai):=(d == d4,(Ef K d).map λl=>(l.map λp=>(p.1,p.2.1),(l.zip ns).map λz=>nsIn K bo z.2 == O (O (.ref z.1.2.2))))
end
abbrev UT:=List (Ky × cH × Option (List ae))
def qH(k:UT)(K:Frag):=k.map λk=>qD K (k.1.val K) k.1.qual
def qI(k:UT):List (Option Sig):=k.map λk=>O (Jg k.1.nm k.1.qual k.2.1 k.2.2)
section
variable {β:Type}(A:iF β)
def iF.rest(K:Frag):=(A.cs.map (uD K),A.is.map λx=>uK K x.1,A.ss.map λx=>uS K x.1,A.bs.map λx=>nsIn K bo x,A.xc K,A.ext K)
def iF.LN(w:bv):=(A.cs.map λc=>O (true,O (O (r9 "object.__setattr__")),c.2.map λ_=>O (Y:Option ae)),A.is.map λx=>O x.2,A.ss.map λx=>O x.2,A.bs.map λ_=>O (Y:Option ae),true,A.NL w)
end
noncomputable def EK (p:aS) (H:cR) (s:aq):Bool:=staticsOk (nv p.main.body) H s.heap && namesBound p s.heap && gensDone s && laidKept H s.heap
end L2
namespace Law
open PySem L2
def top(i:Nat):cH:=aw.main.body.getD i (.Pass ⟨0,0,0,0⟩)
abbrev lW:cH:=top 19
abbrev lV:cH:=top 20
abbrev jO:cH:=top 21
abbrev jQ:cH:=top 22
abbrev jR:cH:=top 23
abbrev kP:cH:=top 24
abbrev iB:cH:=top 25
abbrev lJ:cH:=top 26
abbrev lK:cH:=top 27
abbrev nL:cH:=top 28
abbrev i5:cH:=top 30
abbrev jV:cH:=top 31
abbrev gx:cH:=top 32
abbrev jU:cH:=top 33
abbrev jn:cH:=top 34
abbrev jq:cH:=top 35
abbrev jT:cH:=top 36
abbrev kW:cH:=top 39
abbrev o7:cH:=top 40
abbrev iZ:cH:=top 108
abbrev kO:cH:=top 109
abbrev kQ:cH:=top 110
abbrev iC:cH:=top 123
abbrev nJ:cH:=top 124
abbrev jS:cH:=top 125
abbrev kR:cH:=top 126
abbrev jN:cH:=top 128
abbrev i6:cH:=top 129
abbrev jr:cH:=top 130
abbrev iD:cH:=top 131
abbrev kt:cH:=top 134
abbrev kU:cH:=top 135
abbrev gH:cH:=top 136
abbrev jP:cH:=top 148
abbrev nI:cH:=top 149
abbrev lY:cH:=top 150
abbrev kX:cH:=top 151
abbrev lZ:cH:=top 152
abbrev l4:cH:=top 157
abbrev nK:cH:=top 158
abbrev jW:cH:=top 161
abbrev o6:cH:=top 164
abbrev ij:cH:=top 165
abbrev l5:cH:=top 170
abbrev qL:cH:=top 171
abbrev i4:cH:=top 174
abbrev kT:cH:=top 175
abbrev lX:cH:=top 176
abbrev kr:cH:=top 177
abbrev ko:cH:=top 178
abbrev kS:cH:=top 179
abbrev tS:cH:=top 180
abbrev fU:cH:=a0i (top 38) 0
abbrev iX:cH:=a0i (top 38) 1
abbrev fz:cH:=a0i (top 38) 2
abbrev iW:cH:=a0i (top 38) 3
abbrev fE:cH:=a0i (top 38) 4
abbrev fb:cH:=a0i (top 38) 5
abbrev dA:cH:=a0i (top 111) 0
abbrev iY:cH:=a0i (top 111) 1
abbrev gw:cH:=a0i (top 111) 2
abbrev gY:cH:=a0i (top 147) 0
abbrev gX:cH:=a0i (top 172) 0
abbrev lU:cH:=a0i (top 172) 1
def SK:UT:=[(.df "is_whole",lW,Y),(.df "is_place",lV,Y),(.df "check_hand",jO,Y),(.df "check_rank",jQ,Y),(.df "check_ways",jR,Y),(.df "check_row",kP,Y),(.df "check_rows",iB,Y),(.df "game_of",lJ,Y),(.df "ways_in",lK,Y),(.df "turned",nL,Y),(.df "place_marks",i5,Y),(.df "part_marks",jV,Y),(.df "lacking_ways",gx,Y),(.df "next_layer",jU,Y),(.df "layers_to",jn,Y),(.df "least_way",jq,Y),(.df "layer_ways",jT,Y),(.me "Cutter" "__init__" "Cutter.__init__",fU,Y),(.me "Cutter" "pull" "Cutter.pull",iX,Y),(.me "Cutter" "without" "Cutter.without",fz,Y),(.me "Cutter" "give" "Cutter.give",iW,Y),(.me "Cutter" "give_tops" "Cutter.give_tops",fE,Y),(.me "Cutter" "cut" "Cutter.cut",fb,Y),(.df "places_of",kW,Y),(.df "solved",o7,Y),(.df "check_start",iZ,Y),(.df "check_due",kO,Y),(.df "check_way",kQ,Y),(.me "RankPlay" "__init__" "RankPlay.__init__",dA,Y),(.me "RankPlay" "go" "RankPlay.go",iY,Y),(.me "RankPlay" "other" "RankPlay.other",gw,Y),(.df "is_made_of",iC,Y),(.df "is_name",nJ,Y),(.df "is_figures",jS,Y),(.df "is_number",kR,Y),(.df "check_form",jN,Y),(.df "places_told",i6,Y),(.df "read_head",jr,Y),(.df "read_place",iD,Y),(.df "numbered",kt,Y),(.df "number_of",kU,Y),(.df "read_game",gH,Y),(.me "Held" "__init__" "Held.__init__",gY,Y),(.df "check_name",jP,Y),(.df "held_by",nI,Y),(.df "place_in",lY,Y),(.df "play_held",kX,Y),(.df "put_game",lZ,Y),(.df "say_turn",l4,Y)]
def SL:UT:=[(.df "say_won",nK,Y),(.df "play_ranks",jW,Y),(.df "say_go",o6,Y),(.df "say_go_other",ij,Y),(.df "words_of",l5,Y),(.df "fits",qL,Y),(.me "Desk" "__init__" "Desk.__init__",gX,Y),(.me "Desk" "say" "Desk.say",lU,Y),(.df "_law_cell_at",i4,Y),(.df "_law_names",kT,Y),(.df "_law_rows",lX,Y),(.df "_law_text",kr,Y),(.df "_law_step",ko,Y),(.df "_law_asked",kS,Y),(.df "law",tS,Y)]
def fH:=({ ks:=SK++SL,cs:=[("Cutter",["game","entries","hands","ways"]),("RankPlay",["hand","at","rule","owners","outs"]),("Held",["kind","names","thing"]),("Desk",["things","play"])],is:=[("GREATEST_LOW_RANK",2),("GREATEST_RANK",40),("MOST_LETTERS",8),("MOST_NUMBER_FIGURES",9),("MOST_PLACES",160),("MOST_RANKED_PLACES",16)],ss:=[("FIGURES","0123456789"),("HAND_SIGNS","+-"),("LETTERS","abcdefghijklmnopqrstuvwxyz")],bs:=["all","bool","dict","enumerate","int","isinstance","len","list","max","min","range","set","sorted","str","zip"],xc:=λK=>true,ext:=λK=>(mI K "KINDS" C6,mI K "MOST_FIGURES" B7,mI K "ROWS" (BY ["put_game","put_purses","put_wishes","say_drop","say_show","say_turn","say_won","say_need","say_serve","play_ranks","play_purses","play_wishes","say_go","say_go_other","say_left","say_now","say_tick"]),()),NL:=λw=>(O (O (["game","purse","wish"]:List aE)),O (false,O (([("PURSE",70),("NUMBER",9)]:List (aE × Int)).map λp=>(kG w p.1,p.1,p.2))),O (false,O (([("game NAME TEXT","put_game"),("purse NAME TEXT","put_purses"),("wish NAME TEXT","put_wishes"),("drop NAME","say_drop"),("show NAME","say_show"),("turn NEW NAME","say_turn"),("won NAME PLACE","say_won"),("need NAME PLACE","say_need"),("serve NAME","say_serve"),("play NAME PLACE","play_ranks"),("play NAME PLACE PURSE","play_purses"),("play NAME","play_wishes"),("go","say_go"),("go PLACE","say_go_other"),("left","say_left"),("now","say_now"),("tick NUMBER","say_tick")]:List (aE × aE)).map λp=>(kG w p.1,p.1),([("game NAME TEXT","put_game"),("purse NAME TEXT","put_purses"),("wish NAME TEXT","put_wishes"),("drop NAME","say_drop"),("show NAME","say_show"),("turn NEW NAME","say_turn"),("won NAME PLACE","say_won"),("need NAME PLACE","say_need"),("serve NAME","say_serve"),("play NAME PLACE","play_ranks"),("play NAME PLACE PURSE","play_purses"),("play NAME","play_wishes"),("go","say_go"),("go PLACE","say_go_other"),("left","say_left"),("now","say_now"),("tick NUMBER","say_tick")]:List (aE × aE)).map λ_=>true)),()) }:iF _)
def G9:List Nat:=[0,1,2,3,4,5,6,7,8,9,10,11,12,13,14,15,177,178,184,185,191,192,198,199,205,206,212,213,217,218,222,223,227,228,232,233,239,240,246,247,251,252,258,259,263,264,268,269,275,276,289,290,296,297,301,302,308,309,315,316,320,321,323,324,334,335,341,342,816,817,823,824,830,831,842,843,849,850,856,857,859,860,944,945,951,952,958,959,965,966,979,980,986,987,991,992,996,997,1013,1014,1020,1021,1025,1026,1064,1065,1078,1079,1081,1082,1092,1093,1099,1100,1106,1107,1113,1114,1120,1121,1155,1156,1162,1163,1183,1184,1204,1205,1211,1212,1234,1240,1241,1245,1246,1259,1260,1266,1267,1269,1270,1280,1281,1287,1288,1294,1295,1299,1300,1304,1305,1311,1312,1318,1319]
def qV:aS:=PySem.W.view aw [180]
def F5:List aE:=(aw.main.scope.names.map (·.1)).filter λx=>!(x == "law")
def Q3(s:aq):Bool:=PySem.W.xlAt qV [] s && PySem.W.recOk (PySem.W.RowW.records bx.row.toRowW) s
set_option maxHeartbeats 0
noncomputable def rl (w:bv) (os:jF):Option PySem.W.SharedT:=rT aw w 11 (O (.ref 6)) 20530 ⟨xN w.params,11,{},Array.mk [],G3,Jv,os⟩ (PySem.W.topStub aw)
theorem Wc(w:bv)(os:jF):(rl (bT w "special-get-raises" false) os).map (λr=>EK aw (fZ (bT w "special-get-raises" false).params) r.abs)=O true:=by kernel_rfl
theorem We(w:bv)(os:jF):(rl (bT w "special-get-raises" false) os).map (λr=>ff qV F5 (FD aw.main.body) Q3 true r.abs)=O (iK qV F5):=by kernel_rfl
theorem Wg(w:bv)(os:jF):(rl (bT w "special-get-raises" false) os).map (λr=>qH SK (jh G9 r.abs.heap))=O (qI SK):=by kernel_rfl
theorem Wi(w:bv)(os:jF):(rl (bT w "special-get-raises" false) os).map (λr=>qH SL (jh G9 r.abs.heap))=O (qI SL):=by kernel_rfl
theorem Wk(w:bv)(os:jF):(rl (bT w "special-get-raises" false) os).map (λr=>fH.rest (jh G9 r.abs.heap))=O (fH.LN (bT w "special-get-raises" false)):=by kernel_rfl
theorem Wd(w:bv)(os:jF):(rl (bT w "special-get-raises" true) os).map (λr=>EK aw (fZ (bT w "special-get-raises" true).params) r.abs)=O true:=by kernel_rfl
theorem Wf(w:bv)(os:jF):(rl (bT w "special-get-raises" true) os).map (λr=>ff qV F5 (FD aw.main.body) Q3 true r.abs)=O (iK qV F5):=by kernel_rfl
theorem Wh(w:bv)(os:jF):(rl (bT w "special-get-raises" true) os).map (λr=>qH SK (jh G9 r.abs.heap))=O (qI SK):=by kernel_rfl
theorem Wj(w:bv)(os:jF):(rl (bT w "special-get-raises" true) os).map (λr=>qH SL (jh G9 r.abs.heap))=O (qI SL):=by kernel_rfl
theorem Wl(w:bv)(os:jF):(rl (bT w "special-get-raises" true) os).map (λr=>fH.rest (jh G9 r.abs.heap))=O (fH.LN (bT w "special-get-raises" true)):=by kernel_rfl
theorem c6{a b:Bool}(x:a=true)(y:b=true):(a && b)=true:=by rw[x,y];rfl
theorem N0:Jy bx.row.prog=true:=by
 unfold Jy;refine(c6 (c6 (c6 (c6 (c6 ?_ ?_) ?_) ?_) ?_) ?_)
 all_goals decide +kernel
theorem Sf:bx.row.wellSaid=true:=by
 unfold U1 U0;refine(c6 (c6 (c6 (c6 (c6 (c6 (c6 (c6 (c6 (c6 (c6 (c6 (c6 (c6 (c6 N0 ?_) ?_) ?_) ?_) ?_) ?_) ?_) ?_) ?_) ?_) ?_) ?_) ?_) ?_) ?_)
 all_goals decide +kernel
theorem N1:bx.wellSaid=true:=by
 unfold UZ;refine(c6 (c6 (c6 (c6 (c6 (c6 (c6 (c6 (c6 (c6 (c6 (c6 (c6 (c6 (c6 (c6 (c6 (c6 Sf ?_) ?_) ?_) ?_) ?_) ?_) ?_) ?_) ?_) ?_) ?_) ?_) ?_) ?_) ?_) ?_) ?_) ?_)
 all_goals decide +kernel
theorem KM:bx.row.prog.tablesWhole=true:=by trivial
end Law
namespace L2
open PySem PySem.Spec PyProof.Rows
abbrev Key:=Sum Int aE
def vD:Key->ae->Bool
 |.inl k,v=>G7 k v
 |.inr x,v=>Uf x v
def acu(w:bv):Key->Int
 |.inl k=>hashInt k
 |.inr x=>kG w x
theorem fj:∀{k:Key}{v:ae},vD k v=true->(∃ i t,k=gS i/\v=e5 i t)\/(∃ x t,k=iH x/\v=lg x t)
 |.inl i,v,h=>by
  obtain⟨t,e⟩:=MW (k:=i) (v:=v) h;exact .inl ⟨i,t,Z,e⟩
 |.inr x,v,h=>by
  obtain⟨t,e⟩:=Value.isStrOf_shape (x:=x) (v:=v) h;exact .inr ⟨x,t,Z,e⟩
theorem IA(i:Int)(t:YL):vD (.inl i) (.int i t)=true:=by simp[vD,G7]
theorem IB(x:aE)(t:YL):vD (.inr x) (.str x t)=true:=by simp[vD,Uf]
theorem SG(a b:Int):decide ((gS a:Key)=gS b)=(a == b):=by
 by_cases e:a=b
 .subst e;simp
 .have h:¬ (gS a:Key)=gS b:=λq=>e (Sum.inl.inj q);rw[decide_eq_false h];exact(beq_eq_false_iff_ne.mpr e).symm
theorem SJ(a b:aE):decide ((iH a:Key)=iH b)=decide (a=b):=by
 by_cases e:a=b
 .subst e;simp
 .have h:¬ (iH a:Key)=iH b:=λq=>e (lc q);rw[decide_eq_false h,decide_eq_false e]
theorem SH(a:Int)(b:aE):decide ((gS a:Key)=iH b)=false:=decide_eq_false (λq=>nomatch q)
theorem SI(a:aE)(b:Int):decide ((iH a:Key)=gS b)=false:=decide_eq_false (λq=>nomatch q)
def cT(prog:aS)(w:bv):PySem.KeyKind prog w Key where
 is:=vD
 hash:=acu w
 inj := λv a b ha hb=>by
  rcases fj ha with ⟨i,t,rfl,rfl⟩ | ⟨x,t,rfl,rfl⟩
  .rcases fj hb with ⟨j,u,rfl,e⟩ | ⟨y,u,rfl,e⟩
   .injection e with e1 _;rw[e1]
   .exact nomatch e
  .rcases fj hb with ⟨j,u,rfl,e⟩ | ⟨y,u,rfl,e⟩
   .exact nomatch e
   .injection e with e1 _;rw[e1]
 byValue:=λk v h=>by
  rcases fj h with ⟨i,t,rfl,rfl⟩ | ⟨x,t,rfl,rfl⟩ <;> rfl
 pyHash:=λhv h=>by
  rcases fj hv with ⟨i,t,rfl,rfl⟩ | ⟨x,t,rfl,rfl⟩
  .exact wpAny_pyHash_int h
  .exact wpAny_pyHash_str h
 eqBool:=λhu hv h=>by
  rcases fj hu with ⟨i,t,rfl,rfl⟩ | ⟨x,t,rfl,rfl⟩
  .rcases fj hv with ⟨j,u,rfl,rfl⟩ | ⟨y,u,rfl,rfl⟩
   .rw[SG] at h;exact wpAny_eqBool_int h
   .rw[SH] at h;exact Dq i t y u _ _ _ _ h
  .rcases fj hv with ⟨j,u,rfl,rfl⟩ | ⟨y,u,rfl,rfl⟩
   .rw[SI] at h;exact Dr x t j u _ _ _ _ h
   .rw[SJ] at h;exact wpAny_eqBool_str h
 «strs»:=λk x t v h=>by
  rcases fj h with ⟨i,u,rfl,e⟩ | ⟨y,u,rfl,e⟩
  .exact nomatch e
  .injection e with e1 _;subst e1;cases v <;> rfl
theorem Ce(prog:aS)(w:bv)(i:Int)(t:YL):(cT prog w).is (.inl i) (.int i t)=true:=IA i t
theorem kN(prog:aS)(w:bv)(x:aE)(t:YL):(cT prog w).is (.inr x) (.str x t)=true:=IB x t
inductive V where
 |fC | bl (b:Bool) | int (i:Int) | str (x:aE) | D7 (b:Array UInt8) | Qf (b:UInt64) | ref (a:ai) | ty (n:String)
 deriving DecidableEq
def RelV:V->ae->Prop
 |.fC,u=>u=g9
 |.bl b,u=>u=lf b
 |.int i,u=>∃ t,u=e5 i t
 |.str x,u=>∃ t,u=lg x t
 |.D7 b,u=>∃ t,u=YN b t
 |.Qf b,u=>∃ t,u=G6 b t
 |.ref a,u=>u=b8 a
 |.ty n,u=>u=jH n
abbrev Vals:List V->List ae->Prop:=gf RelV
theorem Vals.length{xs:List V}{us:List ae}(r:Vals xs us):xs.length=us.length:=jk r
theorem Vals.get:∀{xs:List V}{us:List ae}{i:Nat}{x:V},Vals xs us->xs[i]?=O x->∃ u,us[i]?=O u/\RelV x u
 |_,_,_,_,.nil,e=>by simp at e
 |_,_,0,_,.cons r _,e=>by simp at e;subst e;exact⟨_,Z,r⟩
 |_,_,i+1,x,.cons _ t,e=>by
  obtain⟨u,h1,h2⟩:=Vals.get (i:=i) (x:=x) t (by simpa using e);exact⟨u,by simpa using h1,h2⟩
theorem Vals.set{x:V}{u:ae}(r:RelV x u):∀{xs:List V}{us:List ae}(i:Nat),Vals xs us->Vals (xs.set i x) (us.set i u)
 |_,_,_,.nil=>.nil
 |_,_,0,.cons _ t=>.cons r t
 |_,_,i+1,.cons q t=>.cons q (Vals.set r i t)
theorem Vals.append:∀{xs ys:List V}{us ws:List ae},Vals xs us->Vals ys ws->Vals (xs++ys) (us++ws)
 |_,_,_,_,.nil,s=>s
 |_,_,_,_,.cons r t,s=>.cons r (Vals.append t s)
theorem Vals.take:∀{xs:List V}{us:List ae}(n:Nat),Vals xs us->Vals (xs.take n) (us.take n)
 |_,_,0,_=>.nil
 |_,_,_+1,.nil=>.nil
 |_,_,n+1,.cons r t=>.cons r (Vals.take n t)
theorem Vals.drop:∀{xs:List V}{us:List ae}(n:Nat),Vals xs us->Vals (xs.drop n) (us.drop n)
 |_,_,0,r=>r
 |_,_,_+1,.nil=>.nil
 |_,_,n+1,.cons _ t=>Vals.drop n t
def ml:Option V->Option ae->Prop
 |some v,O u=>RelV v u
 |none,Y=>True
 |_,_=>False
def KV{κ:Type}:List (κ × V)->List (κ × ae)->Prop:=gf λ(p:κ × V) (q:κ × ae)=>p.1=q.1/\RelV p.2 q.2
def kV:Key->V
 |.inl i=>.int i
 |.inr x=>.str x
inductive HO where
  |lst (xs:List V)
  |tup (xs:List V)
  |dK (bM:List (Key × V)) | dT (bM:List (List Key × V))
  |set (S:Int->Bool) (n:Nat)
  |ins (C dx:ai) (fs:List (aE × V))
  |own (x:ai)
  |xd (fs:List (aE × V))
  |met (f x:ai)
  |og (lo hi:Int)
  |Du (o:fY) (u:HO)
  |TY (ps:Array ae)
  |ext (φ:cR->Prop)
abbrev Hp:=ai->Option HO
def upd(H:Hp)(a:ai)(o:HO):Hp:=λb=>if b=a then O o else H b
theorem ao{H:Hp}{a:ai}{o:HO}:upd H a o a=O o:=by unfold upd;rw[if_pos rfl]
theorem bh{H:Hp}{a b:ai}{o:HO}(h:b≠a):upd H a o b=H b:=by unfold upd;rw[if_neg h]
theorem mL{H:Hp}{a:ai}{o u:HO}:upd (upd H a o) a u=upd H a u:=by
 funext b;unfold upd;split <;> rfl
theorem W9{H:Hp}{a b:ai}{o u:HO}(h:H a=O o)(h':H b=O u)(d:o≠u):a≠b:=by
 intro e;subst e;rw[h] at h';exact d (bQ h')
theorem cw{H:Hp}{a b:ai}{o:HO}(h:H a=O o)(h':H b=Y):a≠b:=by
 intro e;subst e;rw[h] at h';cases h'
section
variable (P:aS)(w:bv)
def gc(H:Hp)(h:cR)(a:ai):HO->Prop
 |.lst xs=>xs.length<=az/\∃(ci:List ae)(n:Nat),Vals xs ci/\h.get? a=O { cls:=.type "list",data:=.seq ci.toArray n }
 |.tup xs=>xs.length<=az/\∃ ci:List ae,Vals xs ci/\IsTup h a ci.toArray
 |.dK bM=>bM.length<=az/\(a == d4)=false/\∃ vs,KV bM vs/\h.DictOf (cT P w) a vs
 |.dT bM=>bM.length<=az/\(a == d4)=false/\∃ xs:List (List Key × ai × ae),
   gf (λ(p:List Key × V) (q:List Key × ai × ae)=>p.1=q.1/\H q.2.1=O (.tup (p.1.map kV))/\RelV p.2 q.2.2) bM xs /\
   ∃ o es ep,h.get? a=O o/\o.ExactDict/\o.data=.dict es ep/\es.toList=xs.map (entryOfKey (uU (cT P w)))/\(xs.map (·.1)).Nodup
 |.set S n=>h.SetOf (kH P w) a S n
 |.ins C dx fs=>H dx=O (.own a)/\fs.length<=1000/\dx≠a/\h.get? a=O (fV C dx) /\
   ∃ mA,h.Ns1 dx mA/\(∀ f,ml (fs.lookup f) (mA f))/\D3 mA (fs.map (·.1))
 |.own _=>∃ o,h.get? a=O o
 |.xd fs=>∃ mA,h.Ns1 a mA/\∀ f,ml (fs.lookup f) (mA f)
 |.og lo hi=>∃ t u v,h.get? a=O { cls:=.type "range",data:=.fields #[.int lo t,.int hi u,.int 1 v] }
 |.Du o u=>h.get? a=O o/\gc H h a u
 |.TY ps=>h.get? a=O { cls:=.none,data:=.fields ps }
 |.met f x=>h.get? a=O (sP (.ref f) (.ref x))
 |.ext φ=>φ h/\(∃ o,h.get? a=O o)/\∀ h1 h2:cR,φ h1->(∀ o,h1.get? a=O o->h2.get? a=O o)->φ h2
def pU(H:Hp)(h:cR):Prop:=∀ a o,H a=O o->gc P w H h a o
end
section
variable {P:aS}{w:bv}{H H':Hp}{h h':cR}{a:ai}{o:HO}
theorem gc.lt(x:gc P w H h a o):a<h.objs.size:=by
 cases o with
 |lst xs=>obtain⟨_,_,_,_,e⟩:=x;exact aH e
 |tup xs=>obtain⟨_,_,_,p⟩:=x;exact p.lt
 |dK bM=>obtain⟨_,_,_,_,o,_,_,e,_⟩:=x;exact aH e
 |dT bM=>obtain⟨_,_,_,_,o,_,_,e,_⟩:=x;exact aH e
 |set S n=>obtain⟨o,_,_,_,e,_⟩:=x;exact aH e
 |ins C dx fs=>obtain⟨_,_,_,e,_⟩:=x;exact aH e
 |own y=>obtain⟨_,e⟩:=x;exact aH e
 |xd fs=>obtain⟨_,⟨_,_,_,e,_⟩,_⟩:=x;exact aH e
 |og lo hi=>obtain⟨_,_,_,e⟩:=x;exact aH e
 |Du ob u=>obtain⟨e,_⟩:=x;exact aH e
 |TY ps=>exact aH (show h.get? a=O _ from x)
 |met f y=>exact aH (show h.get? a=O _ from x)
 |ext φ=>obtain⟨_,⟨_,e⟩,_⟩:=x;exact aH e
theorem Paired.Ot{α β:Type}{F G:α->β->Prop}:∀{l₁:List α}{l₂:List β},gf F l₁ l₂->(∀ a b,F a b->G a b)->gf G l₁ l₂
 |_,_,.nil,_=>.nil
 |_,_,.cons r t,f=>.cons (f _ _ r) (Paired.Ot t f)
theorem gc.Fm(x:gc P w H h a o)(k:∀ b u,(b=a\/H b=O (.own a))->h.get? b=O u->h'.get? b=O u)
  (ho:∀ b,H b=O (.own a)->H' b=O (.own a)) (ht:∀ b xs,H b=O (.tup xs)->H' b=O (.tup xs)):gc P w H' h' a o:=by
 induction o with
 |lst xs=>obtain⟨z,ci,n,r,e⟩:=x;exact⟨z,ci,n,r,k _ _ (.inl Z) e⟩
 |tup xs=>obtain⟨z,ci,r,ob,e,c⟩:=x;exact⟨z,ci,r,ob,k _ _ (.inl Z) e,c⟩
 |dK bM=>obtain⟨z,y,vs,r,ob,es,ep,e,c⟩:=x;exact⟨z,y,vs,r,ob,es,ep,k _ _ (.inl Z) e,c⟩
 |dT bM =>
  obtain⟨z,y,xs,r,ob,es,ep,e,c⟩:=x;exact⟨z,y,xs,Paired.Ot r λp q z=>⟨z.1,ht _ _ z.2.1,z.2.2⟩,ob,es,ep,k _ _ (.inl Z) e,c⟩
 |set S n=>obtain⟨ob,es,ep,t,e,c⟩:=x;exact⟨ob,es,ep,t,k _ _ (.inl Z) e,c⟩
 |ins C dx fs =>
  obtain⟨d,z,ne,e,mA,⟨od,es,ep,e2,c⟩,r⟩:=x;exact⟨ho _ d,z,ne,k _ _ (.inl Z) e,mA,⟨od,es,ep,k _ _ (.inr d) e2,c⟩,r⟩
 |own y=>obtain⟨ob,e⟩:=x;exact⟨ob,k _ _ (.inl Z) e⟩
 |xd fs=>obtain⟨mA,⟨od,es,ep,e,c⟩,r⟩:=x;exact⟨mA,⟨od,es,ep,k _ _ (.inl Z) e,c⟩,r⟩
 |og lo hi=>obtain⟨t,u,v,e⟩:=x;exact⟨t,u,v,k _ _ (.inl Z) e⟩
 |Du ob u ih=>obtain⟨e,q⟩:=x;exact⟨k _ _ (.inl Z) e,ih q⟩
 |TY ps =>
  have e:h.get? a=O { cls:=.none,data:=.fields ps }:=x;show h'.get? a=O { cls:=.none,data:=.fields ps };exact k a _ (.inl Z) e
 |met f y =>
  have e:h.get? a=O (sP (.ref f) (.ref y)):=x;show h'.get? a=O (sP (.ref f) (.ref y));exact k a _ (.inl Z) e
 |ext φ=>obtain⟨p,⟨o,e⟩,st⟩:=x;exact⟨st _ _ p λo q=>k _ _ (.inl Z) q,⟨o,k _ _ (.inl Z) e⟩,st⟩
theorem pU.lt(x:pU P w H h)(e:H a=O o):a<h.objs.size:=(x a o e).lt
theorem pU.fresh(x:pU P w H h)(e:h.objs.size<=a):H a=Y:=by
 cases q:H a with
 |none=>rfl
 |some u=>exact absurd (cp (x.lt q) e) (jE _)
theorem pU.kept(x:pU P w H h)(k:∀ b u,h.get? b=O u->h'.get? b=O u):pU P w H h':=λa o e =>
 (x a o e).Fm (λb u _ q=>k b u q) (λ_ q=>q) λ_ _ q=>q
theorem pU.laid(x:pU P w H h)(k:∀ b u,h.get? b=O u->h'.get? b=O u)(hp:h.objs.size<=a)(new:gc P w (upd H a o) h' a o):pU P w (upd H a o) h':=λb u e=>by
 have hn:=x.fresh hp
 by_cases hb:b=a
 .subst hb;rw[ao] at e;cases e;exact new
 .rw[bh hb] at e;exact(x b u e).Fm (λc v _ q=>k c v q) (λc q=>by rw[bh (cw q hn)];exact q) λc xs q=>by rw[bh (cw q hn)];exact q
end
def Rd(H:Hp)(a:ai)(u:HO):Prop:=H a=O u\/∃ o,H a=O (.Du o u)
theorem Rd.ok{P:aS}{w:bv}{H:Hp}{h:cR}{a:ai}{u:HO}(r:Rd H a u)(x:pU P w H h):gc P w H h a u:=by
 rcases r with r | ⟨o,r⟩
 .exact x a u r
 .obtain⟨_,q⟩:=x a _ r;exact q
def UW:Option HO->Prop
 |some (.lst _)=>True
 |some (.dK _)=>True
 |some (.dT _)=>True
 |some (.set _ _)=>True
 |some (.ins _ _ _)=>True
 |some (.ext _)=>True
 |_=>False
section
variable {P:aS}{w:bv}{H:Hp}{h h':cR}{x e:ai}{o':HO}
theorem pU.write(ok:pU P w H h)(mu:UW (H x))(he:e=x\/H e=O (.own x))(k:∀ b u,b≠e->h.get? b=O u->h'.get? b=O u)(Uk:∃ u,h'.get? e=O u)
  (new:gc P w (upd H x o') h' x o'):pU P w (upd H x o') h':=λb u q=>by
 have Xf:∀ c y,H c=O (.own y)->c≠x:=λc y r z=>by subst z;rw[r] at mu;exact mu
 have acH:∀ c xs,H c=O (.tup xs)->c≠x:=λc xs r z=>by subst z;rw[r] at mu;exact mu
 by_cases hb:b=x
 .subst hb;rw[ao] at q;cases q;exact new
 .rw[bh hb] at q
  by_cases HV:b=e
  .have q':H b=O (.own x):=by
    rcases he with z | z
    .exact absurd (HV.trans z) hb
    .rw[HV];exact z
   rw[q] at q';cases q';obtain⟨v,hv⟩:=Uk;exact⟨v,by rw[HV];exact hv⟩
  .refine(ok b u q).Fm (λc v hc r=>k c v ?_ r) (λc r=>by rw[bh (Xf c b r)];exact r) λc xs r=>by rw[bh (acH c xs r)];exact r
   rcases hc with rfl | hc
   .exact HV
   .rintro rfl;rcases he with z | z
    .exact Xf c b hc z
    .rw[hc] at z;cases z;exact hb Z
end
structure Un(fs ex:List ai)(H H':Hp)(h h':cR):Prop where
 keep:∀ b o,h.get? b=O o->H b=Y->b ∉ fs->b ∉ ex->h'.get? b=O o
 slot:∀ b o,h.get? b=O o->H b=Y->b∈fs->b ∉ ex->∃ sl,h'.get? b=O { o with slots:=sl }
 free:∀ b o,h.get? b=O o->H b=Y->b ∉ ex->H' b=Y
 there:∀ b o,h.get? b=O o->b ∉ ex->∃ o',h'.get? b=O o'
 AF:∀ b xs,H b=O (.tup xs)->H' b=O (.tup xs)
 wV:∀ b o u,H b=O (.Du o u)->H' b=O (.Du o u)
 AC:∀ b ps,H b=O (.TY ps)->∃ more,H' b=O (.TY (ps++more))
section
variable {fs fs' ex ex':List ai}{H H1 H2:Hp}{h h1 h2 h':cR}{a x e:ai}{o:HO}
theorem Un.any(u:Un fs ex H H1 h h1){b:ai}{ob:fY}(q:h.get? b=O ob)(n:H b=Y)(hx:b ∉ ex):∃ sl,h1.get? b=O { ob with slots:=sl }:=by
 by_cases hb:b∈fs
 .exact u.slot b ob q n hb hx
 .exact⟨ob.slots,u.keep b ob q n hb hx⟩
theorem Un.kept(k:∀ b u,h.get? b=O u->h'.get? b=O u):Un fs ex H H h h' :=
 ⟨λb ob q _ _ _=>k b ob q,λb ob q _ _ _=>⟨ob.slots,k b ob q⟩,λ_ _ _ n _=>n,λb ob q _=>⟨ob,k b ob q⟩,λ_ _ q=>q,λ_ _ _ q=>q,λ_ ps q=>⟨#[],by rw[q];simp⟩⟩
theorem Un.refl:Un fs ex H H h h:=Un.kept λ_ _ q=>q
theorem Un.laid(k:∀ b u,h.get? b=O u->h'.get? b=O u)(hp:h.objs.size<=a)(hn:H a=Y):Un fs ex H (upd H a o) h h' where
 keep:=λb u q _ _ _=>k b u q
 slot:=λb u q _ _ _=>⟨u.slots,k b u q⟩
 free:=λb u q n _=>by rw[bh (aP (cp (aH q) hp))];exact n
 there:=λb u q _=>⟨u,k b u q⟩
 AF:=λb xs q=>by rw[bh (cw q hn)];exact q
 wV:=λb u xs q=>by rw[bh (cw q hn)];exact q
 AC:=λb ps q=>⟨#[],by rw[bh (cw q hn),q];simp⟩
theorem Un.write(mu:UW (H x))(he:e=x\/H e=O (.own x))(k:∀ b u,b≠e->h.get? b=O u->h'.get? b=O u)(Uk:∃ u,h'.get? e=O u):Un fs ex H (upd H x o) h h':=by
 have hx:∀ b,H b=Y->b≠x:=λb n z=>by subst z;rw[n] at mu;exact mu
 have hb:∀ b,H b=Y->b≠e:=λb n z=>by
  subst z;rcases he with r | r
  .exact hx b n r
  .rw[n] at r;cases r
 have hm:∀ b u,H b=O u->¬ UW (O u)->b≠x:=λb u q nm z=>by subst z;rw[q] at mu;exact nm mu
 refine⟨λb u q n _ _=>k b u (hb b n) q,λb u q n _ _=>⟨u.slots,k b u (hb b n) q⟩,λb u q n _=>by rw[bh (hx b n)];exact n,λb u q _=>?_,
  λb xs q=>by rw[bh (hm b _ q λz=>z)];exact q,λb u xs q=>by rw[bh (hm b _ q λz=>z)];exact q,λb ps q=>⟨#[],by rw[bh (hm b _ q λz=>z),q];simp⟩⟩
 by_cases HV:b=e
 .subst HV;exact Uk
 .exact⟨u,k b u HV q⟩
end
def ZS(h:cR)(H:Hp):List ai:=(bn h.objs.size).filter λa=>(H a).isSome
def zr(h:cR)(H:Hp):cR:=PySem.W.hideAll h (ZS h H)
theorem Ie(h:cR)(H:Hp):(zr h H).objs.size=h.objs.size:=PySem.W.hideAll_size _ _
theorem KB{h:cR}{H:Hp}{b:ai}{o:fY}(e:h.get? b=O o)(n:H b=Y):(zr h H).get? b=O o :=
 PySem.W.hideAll_get _ e λhm=>by
  have q:(H b).isSome=true:=(bt.mp hm).2;rw[n] at q;simp at q
theorem OC{h:cR}{H:Hp}{b:ai}{o:fY}(e:(zr h H).get? b=O o):h.get? b=O o/\H b=Y:=by
 have e':h.get? b=O o:=PySem.W.of_hideAll (ZS h H) e;refine⟨e',?_⟩;cases q:H b with
 |none=>rfl
 |some x =>
  have hm:b∈ZS h H:=bt.mpr ⟨cm.mpr (aH e'),by simp[q]⟩;have z:(zr h H).get? b=Y:=PySem.W.hideAll_none (ZS h H) hm;rw[z] at e;cases e
structure Mod(K:af)(mg:aE->Option ae)(base:cR):Prop where
 UA:K.In base
 glob:base.Ns bo mg
 blt:∃ mb,base.Ns Hh mb/\∀ x:aE,x ≠ "__name__" -> mb x=n4 x
 nolimit:base.NoLimit
structure Cx where
 prog:aS
 w:bv
 K:af
 mg:aE->Option ae
 base:cR
 A:cK
 N:List aE
 s₀:aq
 H₀:Hp
 env:DX
 outer:List DX
 stack:List DX
 ex:List ai
 fn:aE->Bool
 calm:Bool
 pn:List (ai × fY)
 xe:ae->aq->Prop
def Ee(l:List DX):List ai:=l.filterMap (·.frame)
abbrev Cx.fs(X:Cx):List ai:=Ee X.outer
def Vis(sc:lp)(x:aE):Prop:=sc.names.lookup x=O .local\/sc.names.lookup x=O .cell\/sc.names.lookup x=O .free
def Loc(sc:lp)(x:aE):Prop:=sc.names.lookup x=O .local\/sc.names.lookup x=O .cell
def a0S(env:DX)(h:cR)(m:aE->Option ae)(x:aE)(u:ae):Prop :=
 (env.kindOf x=O .local/\m x=O u)\/((env.kindOf x=O .cell\/env.kindOf x=O .free)/\∃ c,env.cells.lookup x=O c/\h.IsCell c (O u))
structure Cx.Ok(X:Cx):Prop where
 mod:Mod X.K X.mg X.base
 kind:X.env.scope.kind=.function
 glob:X.env.globals=bo
 blt:X.env.builtins=Hh
 above:X.s₀.heap.objs.size<=X.env.locals
 inj:∀ x y c,X.env.cells.lookup x=O c->X.env.cells.lookup y=O c->x=y
 has:∀ x,(X.env.kindOf x=O .cell\/X.env.kindOf x=O .free)->∃ c,X.env.cells.lookup x=O c
 U9:∀ x c,X.fn x=true->X.env.cells.lookup x=O c->X.s₀.heap.objs.size<=c
 hd:X.calm=true->X.A.handled=Y
 frames:X.A.frames=O X.stack
 ZK:X.stack=X.outer\/(X.stack=X.env::X.outer/\X.env.frame=O X.env.locals)
 exf:∀ b∈X.ex,b≠X.env.locals/\∀ x c,X.env.cells.lookup x=O c->c≠b
 bs:∀ b o,X.base.get? b=O o->X.s₀.heap.get? b=O o/\X.H₀ b=Y
 P9:X.base.objs.size<=X.s₀.heap.objs.size
 K3:∀ b o,X.base.get? b=O o->b ∉ X.ex
 NK:∀ b∈X.ex,b ∉ X.fs
 ud:X.s₀.heap.FunFrames X.base X.outer
 RJ:∀ b∈X.fs,X.H₀ b=Y
structure Inv(X:Cx)(pins:List (ai × fY))(J:List (Option V))(H:Hp)(s:aq):Prop where
 ok:X.Ok
 os:s.os=X.s₀.os
 bare:qU s.gens
 base:Un X.fs X.ex X.H₀ H X.s₀.heap s.heap
 loc:∃ m,s.heap.Ns X.env.locals m/\∀(i:Nat)(x:aE)(v:V),X.N[i]?=O x->J[i]?=O (O v)->Vis X.env.scope x->∃ u,RelV v u/\a0S X.env s.heap m x u
 cell:∀ x c,X.env.cells.lookup x=O c->∃ v,s.heap.IsCell c v
 free:H X.env.locals=Y
 oQ:∀ x c,X.env.cells.lookup x=O c->H c=Y
 pin:∀ p∈X.pn++pins,s.heap.get? p.1=O p.2/\H p.1=Y/\p.1≠X.env.locals/\p.1 ∉ X.fs/\∀ v,p.2.data≠.cell v
 c8:pU X.prog X.w H s.heap
 len:J.length=X.N.length
section
variable {X:Cx}{pins:List (ai × fY)}{J:List (Option V)}{H H':Hp}{s:aq}{h':cR}
theorem Cx.Ok.acC(ok:X.Ok){b:ai}{o:fY}(e:X.base.get? b=O o):b ∉ X.fs:=λhb=>by
 have:=(ok.ud.mem hb).1;rw[e] at this;cases this
theorem Inv.bs(I:Inv X pins J H s):∀ b o,X.base.get? b=O o->s.heap.get? b=O o/\H b=Y:=λb o e =>
 ⟨I.base.keep b o (I.ok.bs b o e).1 (I.ok.bs b o e).2 (I.ok.acC e) (I.ok.K3 b o e),I.base.free b o (I.ok.bs b o e).1 (I.ok.bs b o e).2 (I.ok.K3 b o e)⟩
theorem Inv.bk(I:Inv X pins J H s):∀ b o,X.base.get? b=O o->s.heap.get? b=O o:=λb o e=>(I.bs b o e).1
theorem Inv.mod(I:Inv X pins J H s):Mod X.K X.mg X.base:=I.ok.mod
theorem Inv.qm(I:Inv X pins J H s):X.K.In s.heap:=I.ok.mod.UA.keeps I.bk
theorem Inv.lt(I:Inv X pins J H s):X.env.locals<s.heap.objs.size:=let ⟨_,hn,_⟩:=I.loc;hn.lt
theorem Inv.sz(I:Inv X pins J H s):X.s₀.heap.objs.size<=s.heap.objs.size:=bF I.ok.above (gn I.lt)
theorem Inv.Oz(I:Inv X pins J H s){a:ai}(h:s.heap.objs.size<=a):a ∉ X.fs:=λhb=>by
 obtain⟨_,o,ho,_⟩:=I.ok.ud.mem hb;exact absurd (cp (aH ho) (bF I.sz h)) (jE _)
theorem Inv.Rz(I:Inv X pins J H s):∀ x c,X.env.cells.lookup x=O c->c≠X.env.locals:=λx c e z=>by
 obtain⟨v,o,ho,hd⟩:=I.cell x c e;obtain⟨m,⟨o',es,ep,KJ,Vz,_⟩,_⟩:=I.loc;rw[z,KJ] at ho;cases ho;rw[Vz] at hd;cases hd
theorem Inv.ud(I:Inv X pins J H s):s.heap.FunFrames X.base X.outer:=by
 have all:∀(l:List DX),(∀ b∈Ee l,b∈X.fs)->X.s₀.heap.FunFrames X.base l->s.heap.FunFrames X.base l:=by
  intro l
  induction l with
  |nil=>intro _ _;trivial
  |cons env r ih =>
   intro hs hl;obtain⟨hk,⟨L,o,hf,hn,ho,hd⟩,hr⟩:=hl;have hL:L∈X.fs:=hs L (by unfold Ee;rw[gJ,hf];exact aL);obtain⟨sl,e⟩:=I.base.slot L o ho (I.ok.RJ L hL) hL λz=>I.ok.NK L z hL;exact⟨hk,⟨L,_,hf,hn,e,hd⟩,ih (λb hb=>hs b (by unfold Ee;rw[gJ,hf];exact aW _ hb)) hr⟩
 exact all X.outer (λ_ hb=>hb) I.ok.ud
theorem Inv.stack(I:Inv X pins J H s):s.heap.FunFrames X.base X.stack:=by
 rcases I.ok.ZK with e | ⟨e,hf⟩
 .rw[e];exact I.ud
 .rw[e];obtain⟨m,hn,_⟩:=I.loc;refine .cons (by rw[I.ok.kind];decide) hf hn ?_ I.ud;exact dX (bF I.ok.P9 I.ok.above)
theorem Inv.AA(I:Inv X pins J H s):∀ b∈Ee X.stack,b∈X.env.locals::X.fs:=λb hb=>by
 rcases I.ok.ZK with e | ⟨e,hf⟩
 .rw[e] at hb;exact aW _ hb
 .rw[e] at hb;unfold Ee at hb;rw[gJ,hf] at hb;exact hb
theorem Inv.GG(I:Inv X pins J H s):∀ b∈Ee X.stack,H b=Y:=λb hb=>by
 rcases aG.mp (I.AA b hb) with e | hb
 .rw[e];exact I.free
 .obtain⟨_,o,ho,_⟩:=I.ok.ud.mem hb;exact I.base.free b o ho (I.ok.RJ b hb) λz=>I.ok.NK b z hb
theorem Inv.step{g':Array G1}{t':Nat}{d':MM}{ch:List ai}(I:Inv X pins J H s)
  (M4:∀ b∈ch,(b∈X.ex\/X.s₀.heap.objs.size<=b)/\b≠X.env.locals/\(∀ x c,X.env.cells.lookup x=O c->c≠b)/\∀ p∈X.pn++pins,p.1≠b)
  (keep:∀ b o,b≠X.env.locals->b ∉ X.fs->b ∉ ch->s.heap.get? b=O o->H b=Y->h'.get? b=O o)
  (slot:∀ b o,b≠X.env.locals->b∈X.fs->b ∉ ch->s.heap.get? b=O o->H b=Y->∃ sl,h'.get? b=O { o with slots:=sl }) (free:∀ b o,b ∉ ch->s.heap.get? b=O o->H b=Y->H' b=Y)
  (there:∀ b o,b ∉ ch->s.heap.get? b=O o->∃ o',h'.get? b=O o')
  (AF:∀ b xs,H b=O (.tup xs)->H' b=O (.tup xs)) (wV:∀ b o u,H b=O (.Du o u)->H' b=O (.Du o u)) (AC:∀ b ps,H b=O (.TY ps)->∃ more,H' b=O (.TY (ps++more)))
  (ns:∀ m,s.heap.Ns X.env.locals m->h'.Ns X.env.locals m) (c8:pU X.prog X.w H' h') (hg:qU g') :
  Inv X pins J H' { s with heap:=h',gens:=g',drawn:=d',toks:=t' }:=by
 have neL:∀ b o,X.s₀.heap.get? b=O o->b≠X.env.locals:=λb o e=>aP (cp (aH e) I.ok.above);have Zt:∀ b o,X.s₀.heap.get? b=O o->b ∉ X.ex->b ∉ ch:=λb o e hx hb=>by
  rcases (M4 b hb).1 with z | z
  .exact hx z
  .exact absurd (cp (aH e) z) (jE _)
 have cellK:∀ x c,X.env.cells.lookup x=O c->∀ v,s.heap.IsCell c v->h'.IsCell c v:=λx c e v ⟨o,ho,hd⟩=>by
  have W7:c ∉ ch:=λz=>(M4 c z).2.2.1 x c e Z
  by_cases hc:c∈X.fs
  .obtain⟨sl,q⟩:=slot c o (I.Rz x c e) hc W7 ho (I.oQ x c e);exact⟨_,q,hd⟩
  .exact⟨o,keep c o (I.Rz x c e) hc W7 ho (I.oQ x c e),hd⟩
 refine⟨I.ok,I.os,hg,⟨λb o e n hb hx=>?_,λb o e n hb hx=>?_,λb o e n hx=>?_,λb o e hx=>?_,λb xs e=>AF b xs (I.base.AF b xs e),λb o xs e=>wV b o xs (I.base.wV b o xs e),λb ps e=>?_⟩,?_,λx c e=>?_,?_,λx c e=>?_,λp hp=>?_,c8,I.len⟩
 .exact keep b o (neL b o e) hb (Zt b o e hx) (I.base.keep b o e n hb hx) (I.base.free b o e n hx)
 .obtain⟨sl,e1⟩:=I.base.slot b o e n hb hx;obtain⟨sl',e2⟩:=slot b _ (neL b o e) hb (Zt b o e hx) e1 (I.base.free b o e n hx);exact⟨sl',e2⟩
 .obtain⟨o',e1⟩:=I.base.there b o e hx;exact free b o' (Zt b o e hx) e1 (I.base.free b o e n hx)
 .obtain⟨o',e1⟩:=I.base.there b o e hx;exact there b o' (Zt b o e hx) e1
 .obtain⟨m1,e1⟩:=I.base.AC b ps e;obtain⟨m2,e2⟩:=AC b _ e1;exact⟨m1++m2,by rw[e2,Array.append_assoc]⟩
 .obtain⟨m,hn,hl⟩:=I.loc;refine⟨m,ns m hn,λi x v e1 e2 e3=>?_⟩;obtain⟨u,r,l⟩:=hl i x v e1 e2 e3;refine⟨u,r,?_⟩;rcases l with l | ⟨k,c,e,z⟩
  .exact .inl l
  .exact .inr ⟨k,c,e,cellK x c e _ z⟩
 .obtain⟨v,z⟩:=I.cell x c e;exact⟨v,cellK x c e v z⟩
 .obtain⟨m,⟨o,_,_,ho,_⟩,_⟩:=I.loc;exact free _ o (λz=>(M4 _ z).2.1 Z) ho I.free
 .obtain⟨v,o,ho,hd⟩:=I.cell x c e;exact free c o (λz=>(M4 c z).2.2.1 x c e Z) ho (I.oQ x c e)
 .obtain⟨e,n,ne,nf,d⟩:=I.pin p hp;have W7:p.1 ∉ ch:=λz=>(M4 p.1 z).2.2.2 p hp Z;exact⟨keep p.1 p.2 ne nf W7 e n,free p.1 p.2 W7 e n,ne,nf,d⟩
theorem Inv.un{t':Nat}(I:Inv X pins J H s)(u:Un X.fs [] H H' s.heap h')(c8:pU X.prog X.w H' h'):Inv X pins J H' { s with heap:=h',toks:=t' }:=by
 obtain⟨m,⟨o,es,ep,ho,r⟩,_⟩:=id I.loc;obtain⟨sl,hL⟩:=u.any ho I.free (by simp);exact I.step (g':=s.gens) (d':=s.drawn) (ch:=[]) (λ_ z=>nomatch z) (λb o _ hb _ e n=>u.keep b o e n hb (by simp)) (λb o _ hb _ e n=>u.slot b o e n hb (by simp)) (λb o _ e n=>u.free b o e n (by simp)) (λb o _ e=>u.there b o e (by simp)) u.AF u.wV u.AC (λm' hm=>by
  obtain⟨o',es',ep',KJ,r'⟩:=hm;rw[ho] at KJ;cases KJ;exact⟨_,es',ep',hL,r'⟩) c8 I.bare
theorem Inv.call{g':Array G1}{t':Nat}{d':MM}{ch:List ai}(I:Inv X pins J H s)(u:Un (Ee X.stack) ch H H' s.heap h')(c8:pU X.prog X.w H' h')(hg:qU g')
  (M4:∀ b∈ch,(b∈X.ex\/X.s₀.heap.objs.size<=b)/\b≠X.env.locals/\(∀ x c,X.env.cells.lookup x=O c->c≠b)/\∀ p∈X.pn++pins,p.1≠b) :
  Inv X pins J H' { s with heap:=h',gens:=g',drawn:=d',toks:=t' }:=by
 obtain⟨m,⟨o,es,ep,ho,r⟩,_⟩:=id I.loc;obtain⟨sl,hL⟩:=u.any ho I.free λz=>(M4 _ z).2.1 Z;exact I.step (ch:=ch) M4 (λb o hL hb hc e n=>u.keep b o e n (λz=>(aG.mp (I.AA b z)).elim hL hb) hc) (λb o _ _ hc e n=>u.any e n hc) (λb o hc e n=>u.free b o e n hc) (λb o hc e=>u.there b o e hc) u.AF u.wV u.AC (λm' hm=>by
  obtain⟨o',es',ep',KJ,r'⟩:=hm;rw[ho] at KJ;cases KJ;exact⟨_,es',ep',hL,r'⟩) c8 hg
theorem Inv.turned{t':Nat}{it:ai}(I:Inv X pins J H s)(k:∀ b o,b≠it->s.heap.get? b=O o->h'.get? b=O o)(hn:H it=Y)(hL:it≠X.env.locals)
  (h1:it∈X.ex\/X.s₀.heap.objs.size<=it) (h2:∀ x c,X.env.cells.lookup x=O c->c≠it) (h3:∀ p∈X.pn++pins,p.1≠it):Inv X pins J H { s with heap:=h',toks:=t' }:=by
 have Xa:∀ b u,H b=O u->b≠it:=λb u e z=>by rw[z,hn] at e;cases e
 refine I.step (g':=s.gens) (d':=s.drawn) (ch:=[it]) (λb hb=>?_) (λb o _ _ hc e _=>k b o (λz=>hc (by simp[z])) e) (λb o _ _ hc e _=>⟨o.slots,k b o (λz=>hc (by simp[z])) e⟩) (λ_ _ _ _ n=>n)
  (λb o hc e=>⟨o,k b o (λz=>hc (by simp[z])) e⟩) (λ_ _ e=>e) (λ_ _ _ e=>e) (λb ps e=>⟨#[],by rw[e];simp⟩) (λm hm=>?_) (λb u e=>?_) I.bare
 .have e:b=it:=by simpa using hb
  subst e;exact⟨h1,hL,h2,h3⟩
 .obtain⟨o,es,ep,ho,r⟩:=hm;exact⟨o,es,ep,k _ o (cg hL) ho,r⟩
 .refine(I.c8 b u e).Fm (λc v hc q=>k c v ?_ q) (λ_ q=>q) λ_ _ q=>q;rcases hc with z | z
  .rw[z];exact Xa b u e
  .exact Xa c _ z
theorem Inv.tok(I:Inv X pins J H s)(t:Nat):Inv X pins J H { s with toks:=t }:=I.un (h':=s.heap) (t':=t) Un.refl I.c8
theorem Inv.kept{t':Nat}(I:Inv X pins J H s)(k:∀ b u,s.heap.get? b=O u->h'.get? b=O u):Inv X pins J H { s with heap:=h',toks:=t' }:=I.un (Un.kept k) (I.c8.kept k)
theorem Inv.laid{a:ai}{o:HO}{t':Nat}(I:Inv X pins J H s)(k:∀ b u,s.heap.get? b=O u->h'.get? b=O u)(hp:s.heap.objs.size<=a)(new:gc X.prog X.w (upd H a o) h' a o) :
  Inv X pins J (upd H a o) { s with heap:=h',toks:=t' }:=I.un (Un.laid k hp (I.c8.fresh hp)) (I.c8.laid k hp new)
theorem Inv.write{x e:ai}{o:HO}{t':Nat}(I:Inv X pins J H s)(mu:UW (H x))(he:e=x\/H e=O (.own x))(k:∀ b u,b≠e->s.heap.get? b=O u->h'.get? b=O u)(Uk:∃ u,h'.get? e=O u)
  (new:gc X.prog X.w (upd H x o) h' x o):Inv X pins J (upd H x o) { s with heap:=h',toks:=t' }:=I.un (Un.write mu he k Uk) (I.c8.write mu he k Uk new)
theorem Inv.weak{σ':List (Option V)}(I:Inv X pins J H s)(hl:σ'.length=J.length)(w:∀ (i:Nat) v,σ'[i]?=O (O v)->J[i]?=O (O v)):Inv X pins σ' H s :=
 ⟨I.ok,I.os,I.bare,I.base,let ⟨m,hn,R5⟩:=I.loc;⟨m,hn,λi x v e1 e2 e3=>R5 i x v e1 (w i v e2) e3⟩,I.cell,I.free,I.oQ,I.pin,I.c8,hl.trans I.len⟩
theorem Inv.uO{QL:List (ai × fY)}(I:Inv X pins J H s)(h:∀ p∈QL,s.heap.get? p.1=O p.2/\H p.1=Y/\p.1≠X.env.locals/\p.1 ∉ X.fs/\∀ v,p.2.data≠.cell v):Inv X QL J H s :=
 ⟨I.ok,I.os,I.bare,I.base,I.loc,I.cell,I.free,I.oQ,λp hp=>(bH.mp hp).elim (λz=>I.pin p (cY _ z)) (h p),I.c8,I.len⟩
theorem Ch{N:List aE}(hN:N.Nodup){i j:Nat}{x:aE}(a:N[i]?=O x)(b:N[j]?=O x):i=j:=by
 obtain⟨h1,e1⟩:=aj.mp a;obtain⟨h2,e2⟩:=aj.mp b;exact(P3 hN).mp (e1.trans e2.symm)
theorem yr{M:YI}{A:cK}{E:ae->aq->Prop}{i:Nat}{x:aE}{v:V}{u:ae}{Q:Unit->aq->Prop}(I:Inv X pins J H s)(hN:X.N.Nodup)(hi:X.N[i]?=O x)(hx:Loc X.env.scope x)(r:RelV v u)
  (h:∀ s',Inv X pins (J.set i (O v)) H s'->(∃ a,gg a s.heap s'.heap/\(a=X.env.locals\/X.env.cells.lookup x=O a))->Q () s') (hf:X.fn x=true\/X.env.scope.names.lookup x=O .local:=by first | exact .inl Z | exact .inr Z | assumption):wpAny M A (storeName X.env x u) Q E s:=by
 obtain⟨m,hn,hl⟩:=id I.loc;have aa4:(X.env.scope.kind == .class || (X.env.scope.kind == .module && X.env.locals != X.env.globals))=false:=by rw[I.ok.kind];rfl
 have hiσ:i<J.length:=by rw[I.len];exact(aj.mp hi).1
 have Rz:=I.Rz;have tracked:∀{a:ai}{h':cR},(∃ o,s.heap.get? a=O o/\H a=Y)->gg a s.heap h'->pU X.prog X.w H h':=λ{a h'} ha hs b ob e=>by
  obtain⟨_,_,vw⟩:=ha;refine(I.c8 b ob e).Fm (λc w' hc q=>(hs.2 c ?_).trans q) (λ_ q=>q) λ_ _ q=>q;rintro rfl;rcases hc with rfl | hc
  .rw[vw] at e;cases e
  .rw[vw] at hc;cases hc
 rcases hx with hk | hk
 .refine wpAny_storeName_local hk hn (λh' hn' hs=>?_) aa4;obtain⟨oL,_,_,V8,_⟩:=id hn;refine h _ ⟨I.ok,I.os,I.bare,⟨λb o e n hb hx=>?_,λb o e n hb hx=>?_,I.base.free,λb o e hx=>?_,I.base.AF,I.base.wV,I.base.AC⟩,⟨_,hn',λj y v' e1 e2 e3=>?_⟩,λy c e=>?_,I.free,I.oQ,λp hp=>?_,tracked ⟨oL,V8,I.free⟩ hs,by simpa using I.len⟩ ⟨_,hs,.inl Z⟩
  .exact(hs.2 b (aP (cp (aH e) I.ok.above))).trans (I.base.keep b o e n hb hx)
  .obtain⟨sl,e1⟩:=I.base.slot b o e n hb hx;exact⟨sl,(hs.2 b (aP (cp (aH e) I.ok.above))).trans e1⟩
  .obtain⟨o',e1⟩:=I.base.there b o e hx;exact⟨o',(hs.2 b (aP (cp (aH e) I.ok.above))).trans e1⟩
  .by_cases hj:j=i
   .subst hj;rw[hi] at e1;cases e1;rw[dC hiσ] at e2;cases e2;exact⟨u,r,.inl ⟨hk,by simp⟩⟩
   .rw[dY (cg hj)] at e2;obtain⟨u',r',q⟩:=hl j y v' e1 e2 e3;refine⟨u',r',?_⟩;rcases q with ⟨k,e⟩ | ⟨k,c,e,z⟩
    .refine .inl ⟨k,?_⟩;have:y≠x:=λe=>hj (Ch hN e1 (e ▸ hi));simp[this,e]
    .exact .inr ⟨k,c,e,z.sameBut hs (Rz y c e)⟩
  .obtain⟨w',z⟩:=I.cell y c e;exact⟨w',z.sameBut hs (Rz y c e)⟩
  .obtain⟨e,n,ne,nf,d⟩:=I.pin p hp;exact⟨(hs.2 p.1 ne).trans e,n,ne,nf,d⟩
 .have VJ:X.fn x=true:=by
   rcases hf with z | z
   .exact z
   .rw[z] at hk;cases hk
  obtain⟨c,hc⟩:=I.ok.has x (.inl hk);obtain⟨w',z⟩:=I.cell x c hc;refine wpAny_storeName_cell I.ok.kind hk hc z (λh' HW hs=>?_);obtain⟨oc,hoc,abG⟩:=id z;refine h { s with heap:=h' } ⟨I.ok,I.os,I.bare,⟨λb o e n hb hx=>?_,λb o e n hb hx=>?_,I.base.free,λb o e hx=>?_,I.base.AF,I.base.wV,I.base.AC⟩,⟨m,hn.sameBut hs (cg (Rz x c hc)),λj y v' e1 e2 e3=>?_⟩,λy c' e=>?_,I.free,I.oQ,λp hp=>?_,tracked ⟨oc,hoc,I.oQ x c hc⟩ hs,by simpa using I.len⟩ ⟨c,hs,.inr hc⟩
  .exact(hs.2 b (aP (cp (aH e) (I.ok.U9 x c VJ hc)))).trans (I.base.keep b o e n hb hx)
  .obtain⟨sl,e1⟩:=I.base.slot b o e n hb hx;exact⟨sl,(hs.2 b (aP (cp (aH e) (I.ok.U9 x c VJ hc)))).trans e1⟩
  .obtain⟨o',e1⟩:=I.base.there b o e hx;exact⟨o',(hs.2 b (aP (cp (aH e) (I.ok.U9 x c VJ hc)))).trans e1⟩
  .by_cases hj:j=i
   .subst hj;rw[hi] at e1;cases e1;rw[dC hiσ] at e2;cases e2;exact⟨u,r,.inr ⟨.inl hk,c,hc,HW⟩⟩
   .rw[dY (cg hj)] at e2;obtain⟨u',r',q⟩:=hl j y v' e1 e2 e3;refine⟨u',r',?_⟩;rcases q with q | ⟨k,c',e,z'⟩
    .exact .inl q
    .refine .inr ⟨k,c',e,z'.sameBut hs ?_⟩;rintro rfl;exact hj (Ch hN e1 (I.ok.inj _ _ _ e hc ▸ hi))
  .by_cases Vy:c'=c
   .subst Vy;exact⟨_,HW⟩
   .obtain⟨w2,z2⟩:=I.cell y c' e;exact⟨w2,z2.sameBut hs Vy⟩
  .obtain⟨e,n,ne,nf,d⟩:=I.pin p hp;refine⟨(hs.2 p.1 ?_).trans e,n,ne,nf,d⟩;intro q;rw[q,hoc] at e;have q':oc=p.2:=bQ e;exact d w' (by rw[← q'];exact abG)
theorem we{M:YI}{A:cK}{E:ae->aq->Prop}{i:Nat}{x:aE}{v:V}{u:ae}{Q:Unit->aq->Prop}(I:Inv X pins J H s)(hN:X.N.Nodup)(hi:X.N[i]?=O x)(hx:Loc X.env.scope x)(r:RelV v u)
  (h:∀ s',Inv X pins (J.set i (O v)) H s'->Q () s') (hf:X.fn x=true\/X.env.scope.names.lookup x=O .local:=by first | exact .inl Z | exact .inr Z | assumption):wpAny M A (storeName X.env x u) Q E s :=
 yr I hN hi hx r (λs' I' _=>h s' I') hf
theorem Inv.Qb{s':aq}{ch:List ai}(I:Inv X pins J H s)(ho:s'.os=s.os)(u:Un (Ee X.stack) ch H H' s.heap s'.heap)(c8:pU X.prog X.w H' s'.heap)(hg:qU s'.gens)
  (M4:∀ b∈ch,(b∈X.ex\/X.s₀.heap.objs.size<=b)/\b≠X.env.locals/\(∀ x c,X.env.cells.lookup x=O c->c≠b)/\∀ p∈X.pn++pins,p.1≠b):Inv X pins J H' s':=by
 obtain⟨h',g',d',t',o'⟩:=s';have e:o'=s.os:=ho;subst e;exact I.call (g':=g') (t':=t') (d':=d') u c8 hg M4
end
abbrev XK:=ae->Option ai->Hp->Prop
abbrev St:=List (Option V)
abbrev VK:=V->Hp->Prop
abbrev TE:=St->Hp->VK->Prop
abbrev TT:=St->Hp->(Bool->Hp->Prop)->Prop
abbrev TA:=St->Hp->(List V->Hp->Prop)->Prop
structure Ends where
 nx:St->Hp->Prop
 rt:VK
 bk:St->Hp->Prop:=λ_ _=>False
 ct:St->Hp->Prop:=λ_ _=>False
abbrev TS:=Ends->St->Hp->Prop
def EP(X:Cx)(pins:List (ai × fY))(J:St)(Q:VK)(u:ae)(s':aq):Prop:=∃ v H',Inv X pins J H' s'/\RelV v u/\Q v H'
def TP(X:Cx)(pins:List (ai × fY))(J:St)(Q:Bool->Hp->Prop)(b:Bool)(s':aq):Prop:=∃ H',Inv X pins J H' s'/\Q b H'
def AP(X:Cx)(pins:List (ai × fY))(J:St)(Q:List V->Hp->Prop)(us:List ae)(s':aq):Prop:=∃ vs H',Inv X pins J H' s'/\Vals vs us/\Q vs H'
def SP(X:Cx)(pins:List (ai × fY))(D:Ends)(f:Flow)(s':aq):Prop :=
 match f with
 |.next=>∃ σ' H',Inv X pins σ' H' s'/\D.nx σ' H'
 |.brk=>∃ σ' H',Inv X pins σ' H' s'/\D.bk σ' H'
 |.cont=>∃ σ' H',Inv X pins σ' H' s'/\D.ct σ' H'
 |.ret u=>∃ v σ' H',Inv X pins σ' H' s'/\RelV v u/\D.rt v H'
def PE(X:Cx)(e:cF)(t:TE):Prop :=
 ∀(pins:List (ai × fY))(s:aq)(J:St)(H:Hp)(Q:VK),Inv X pins J H s->t J H Q->wpAny (br X.prog X.w) X.A (dP e X.env) (EP X pins J Q) X.xe s
def PT(X:Cx)(e:cF)(t:TT):Prop :=
 ∀(pins:List (ai × fY))(s:aq)(J:St)(H:Hp)(Q:Bool->Hp->Prop),Inv X pins J H s->t J H Q->wpAny (br X.prog X.w) X.A (Og e X.env (dP e X.env)) (TP X pins J Q) X.xe s
def PW(X:Cx)(e:cF)(t:TT):Prop :=
 ∀(whole:U2 ae)(pins:List (ai × fY))(s:aq)(J:St)(H:Hp)(Q:Bool->Hp->Prop),Inv X pins J H s->t J H Q->wpAny (br X.prog X.w) X.A (Og e X.env whole) (TP X pins J Q) X.xe s
theorem PW.pt{X:Cx}{e:cF}{t:TT}(h:PW X e t):PT X e t:=h _
def PA(X:Cx)(es:List cF)(t:TA):Prop :=
 ∀(pos:jd)(pins:List (ai × fY))(s:aq)(J:St)(H:Hp)(Q:List V->Hp->Prop),Inv X pins J H s->t J H Q->wpAny (br X.prog X.w) X.A (spliced (gB pos (bD es X.env))) (AP X pins J Q) X.xe s
def PS(X:Cx)(st:cH)(t:TS):Prop :=
 ∀(pins:List (ai × fY))(s:aq)(J:St)(H:Hp)(D:Ends),Inv X pins J H s->t D J H->wpAny (br X.prog X.w) X.A (exec st X.env) (SP X pins D) X.xe s
def AR(X:Cx)(st:List cH)(t:TS):Prop :=
 ∀(pins:List (ai × fY))(s:aq)(J:St)(H:Hp)(D:Ends),Inv X pins J H s->t D J H->wpAny (br X.prog X.w) X.A (execs st X.env) (SP X pins D) X.xe s
theorem eC{α:Type}{t:U2 α}{Q Q':α->aq->Prop}{M:YI}{A:cK}{E:ae->aq->Prop}{s:aq}(h:wpAny M A t Q E s)(hQ:∀ a s,Q a s->Q' a s):wpAny M A t Q' E s:=fL h hQ λ_ _ x=>x
section
variable {X:Cx}
def Yh(i:Nat):TE:=λ J H Q=>∃ v,J[i]?=O (O v)/\Q v H
def tC(v:V):TE:=λ_ H Q=>Q v H
theorem Tk{i:Nat}{x:aE}{pos:jd}(hN:X.N[i]?=O x)(hv:Vis X.env.scope x)(hd:(x == ("__debug__" : aE))=false:=by decide)(Kv:(x == ("__classdict__" : aE))=false:=by decide):PE X (.Name x pos) (Yh i):=by
 intro pins s J H Q I h;obtain⟨v,e,h⟩:=h;obtain⟨m,hn,hl⟩:=I.loc;obtain⟨u,r,l⟩:=hl i x v hN e hv;have fin:EP X pins J Q u s:=⟨v,H,I,r,h⟩
 rcases l with ⟨hk,hm⟩ | ⟨hk,c,hc,Ql⟩
 .exact Yr (wpAny_loadName_local I.ok.kind hk hn hm fin) hd
 .rcases hk with hk | hk
  .exact Yr (wpAny_loadName_cell I.ok.kind hk hc Ql fin) hd
  .exact Yr (wpAny_loadName_free I.ok.kind hk hc Ql fin Kv) hd
theorem aD{i j pos}:PE X (.Constant (.int i) j pos) (tC (.int i)):=λ_ _ _ H _ I h=>wpAny_Constant_int ⟨.int i,H,I.tok _,⟨_,Z⟩,h⟩
theorem ln{b j pos}:PE X (.Constant (.bool b) j pos) (tC (.bl b)):=λ_ _ _ H _ I h=>Constant_bool ⟨.bl b,H,I,Z,h⟩
theorem zQ{j pos}:PE X (.Constant .none j pos) (tC .fC):=λ_ _ _ H _ I h=>Constant_none ⟨.fC,H,I,Z,h⟩
theorem cq{x j pos}:PE X (.Constant (.str x) j pos) (tC (.str x)):=λ_ _ _ H _ I h=>Calls.Constant_str ⟨.str x,H,I.tok _,⟨_,Z⟩,h⟩
def Gl(X:Cx)(x:aE):Prop:=X.env.kindOf x=O .globalImplicit
theorem uL{E:ae->aq->Prop}{pins:List (ai × fY)}{s:aq}{J:St}{H:Hp}{x:aE}{u:ae}{pos:jd}{Q:ae->aq->Prop}(I:Inv X pins J H s)(hg:Gl X x)(hm:X.mg x=O u)(h:Q u s)
  (hd:(x == ("__debug__" : aE))=false:=by decide):wpAny (br X.prog X.w) X.A (dP (.Name x pos) X.env) Q E s :=
 yT I.ok.kind hg (Calls.loadGlobal_global (by rw[I.ok.glob];exact I.mod.glob.keeps I.bk) hm h) hd
theorem mR{E:ae->aq->Prop}{pins:List (ai × fY)}{s:aq}{J:St}{H:Hp}{x:aE}{u:ae}{pos:jd}{Q:ae->aq->Prop}(I:Inv X pins J H s)(hg:Gl X x)(hm:X.mg x=Y)(hv:n4 x=O u)(h:Q u s)
  (hn:x ≠ "__name__" := by decide) (hd:(x == ("__debug__" : aE))=false:=by decide):wpAny (br X.prog X.w) X.A (dP (.Name x pos) X.env) Q E s:=by
 obtain⟨mb,h1,h2⟩:=I.mod.blt;exact yT I.ok.kind hg (Calls.loadGlobal_builtin (by rw[I.ok.glob];exact I.mod.glob.keeps I.bk) hm (by rw[I.ok.blt];exact h1.keeps I.bk) ((h2 x hn).trans hv) h) hd
theorem pE{x:aE}{v:V}{u:ae}{pos:jd}(hg:Gl X x)(hm:X.mg x=O u)(r:RelV v u)(hd:(x == ("__debug__" : aE))=false:=by decide):PE X (.Name x pos) (tC v) :=
 λ_ _ _ H _ I h=>uL I hg hm ⟨v,H,I,r,h⟩ hd
theorem rG{x:aE}{v:V}{u:ae}{pos:jd}(hg:Gl X x)(hm:X.mg x=Y)(hv:n4 x=O u)(r:RelV v u)(hn:x ≠ "__name__" := by decide)(hd:(x == ("__debug__" : aE))=false:=by decide):PE X (.Name x pos) (tC v) :=
 λ_ _ _ H _ I h=>mR I hg hm hv ⟨v,H,I,r,h⟩ hn hd
variable {a b:cF}{ta tb:TE}{pos:jd}
def PC(X:Cx)(op:Ra)(a b:cF)(t:TE):Prop :=
 ∀(pins:List (ai × fY))(s:aq)(J:St)(H:Hp)(Q:VK),Inv X pins J H s->t J H Q ->
  wpAny (br X.prog X.w) X.A (dP a X.env) (λv s₁=>wpAny (br X.prog X.w) X.A (dP b X.env) (λu s₂=>wpAny (br X.prog X.w) X.A (fI op v u) (EP X pins J Q) X.xe s₂) X.xe s₁) X.xe s
theorem K2(b:cF){op:Ra}(h:op≠.In)(h2:op≠.NotIn):kg op b=false:=by
 have e1:(op == CmpOp.In)=false:=by cases op <;> first | rfl | exact absurd Z h
 have e2:(op == YA)=false:=by cases op <;> first | rfl | exact absurd Z h2
 cases b <;> simp[kg,e1,e2]
def ac7(ta:TE):TE:=λ J H Q=>ta J H λx H1=>Q (.bl (decide (x=.fC))) H1
theorem RelV.K4{x:V}{v:ae}(r:RelV x v):(v == g9)=decide (x=.fC):=by
 cases x with
 |fC=>cases r;rfl
 |bl _=>cases r;rfl
 |int _=>obtain⟨t,rfl⟩:=r;rfl
 |str _=>obtain⟨t,rfl⟩:=r;rfl
 |D7 _=>obtain⟨t,rfl⟩:=r;rfl
 |Qf _=>obtain⟨t,rfl⟩:=r;rfl
 |ref _=>cases r;rfl
 |ty _=>cases r;rfl
theorem EU{j pos'}(ha:PE X a ta):PC X .Is a (.Constant .none j pos') (ac7 ta):=by
 intro pins s J H Q I h;refine eC (ha pins s J H _ I h) λv s1 cX=>?_;obtain⟨x,H1,I1,r1,q1⟩:=cX;exact Constant_none (is_none_gen ⟨.bl _,H1,I1,by rw[r1.K4];rfl,q1⟩)
def tB(t:TE):TT:=λ J H Q=>t J H λx H1=>∃ c,x=.bl c/\Q c H1
theorem vS{op:Ra}{t:TE}(h:PC X op a b t)(h1:kg op b=false:=by first | exact K2 _ (by decide) (by decide) | rfl):PT X (.Compare a [op] [b] pos) (tB t):=by
 intro pins s J H Q I hw;refine Q0 (eC (h pins s J H _ I hw) λv s1 h1=>eC h1 λu s2 h2=>eC h2 λc s3 cX=>?_) h1;obtain⟨x,H1,I1,r1,q1⟩:=cX;obtain⟨d,rfl,q⟩:=q1;cases r1;exact eI ⟨H1,I1,q⟩
theorem fM{e:cF}{t:TE}(h:PE X e t)(he:∀ whole,Og e X.env whole=(do let v ← whole;Az e.pos;lD [v] (truthy v)):=by intro _;rfl):PT X e (tB t):=by
 intro pins s J H Q I hw;refine isTrue_plain (eC (h pins s J H _ I hw) λv s1 cX=>?_) (he _);obtain⟨x,H1,I1,r1,q1⟩:=cX;obtain⟨d,rfl,q⟩:=q1;cases r1;exact eI ⟨H1,I1,q⟩
variable {tA ZN:TT}{rest:List cF}
def ac3(t u:TT):TT:=λ J H Q=>t J H λc H1=>if c=true then u J H1 Q else Q false H1
def tOr(t u:TT):TT:=λ J H Q=>t J H λc H1=>if c=true then Q true H1 else u J H1 Q
def ac9(t:TT):TT:=λ J H Q=>t J H λc H1=>Q (!c) H1
theorem a0G(ha:PT X a tA):PW X (.BoolOp .And [a] pos) tA:=by
 intro wh pins s J H Q I h;refine isTrue_and (eC (ha pins s J H Q I h) λc s1 e=>?_);cases c with
 |true=>exact isTrue_and_nil e
 |false=>exact e
theorem a0m(ha:PT X a tA):PW X (.BoolOp .Or [a] pos) tA:=by
 intro wh pins s J H Q I h;refine isTrue_or (eC (ha pins s J H Q I h) λc s1 e=>?_);cases c with
 |false=>exact isTrue_or_nil e
 |true=>exact e
theorem a0J(ha:PT X a tA)(hb:PW X (.BoolOp .And (b::rest) pos) ZN):PW X (.BoolOp .And (a::b::rest) pos) (ac3 tA ZN):=by
 intro wh pins s J H Q I h;refine isTrue_and (eC (ha pins s J H _ I h) λc s1 cX=>?_);obtain⟨H1,I1,q1⟩:=cX;cases c with
 |true=>exact hb wh pins s1 J H1 Q I1 q1
 |false=>exact⟨H1,I1,q1⟩
theorem a0o(ha:PT X a tA)(hb:PW X (.BoolOp .Or (b::rest) pos) ZN):PW X (.BoolOp .Or (a::b::rest) pos) (tOr tA ZN):=by
 intro wh pins s J H Q I h;refine isTrue_or (eC (ha pins s J H _ I h) λc s1 cX=>?_);obtain⟨H1,I1,q1⟩:=cX;cases c with
 |true=>exact⟨H1,I1,q1⟩
 |false=>exact hb wh pins s1 J H1 Q I1 q1
theorem ji(ha:PT X a tA):PT X (.UnaryOp .Not a pos) (ac9 tA):=by
 intro pins s J H Q I h;exact isTrue_not (ha pins s J H (λc H1=>Q (!c) H1) I h)
def X1(ta tb:TE):TE:=λ J H Q=>ta J H λx H1=>∃ c,x=.bl c/\if c=true then tb J H1 Q else Q (.bl false) H1
def ada(ta tb:TE):TE:=λ J H Q=>ta J H λx H1=>∃ c,x=.bl c/\if c=true then Q (.bl true) H1 else tb J H1 Q
def Yb(ta:TE):TE:=λ J H Q=>ta J H λx H1=>∃ c,x=.bl c/\Q (.bl (!c)) H1
theorem vN{op}{t:TE}(h:PE X a t):PE X (.BoolOp op [a] pos) t:=λpins s J H Q I hw=>BoolOp_one (h pins s J H Q I hw)
theorem zO(ha:PE X a ta)(hb:PE X (.BoolOp .And (b::rest) pos) tb):PE X (.BoolOp .And (a::b::rest) pos) (X1 ta tb):=by
 intro pins s J H Q I h;refine BoolOp_and (eC (ha pins s J H _ I h) λv s1 cX=>?_);obtain⟨x,H1,I1,r1,q1⟩:=cX;obtain⟨c,rfl,q1⟩:=q1;cases r1;refine eI ?_;cases c with
 |true=>exact hb pins s1 J H1 Q I1 q1
 |false=>exact⟨.bl false,H1,I1,Z,q1⟩
theorem Xr(ha:PE X a ta)(hb:PE X (.BoolOp .Or (b::rest) pos) tb):PE X (.BoolOp .Or (a::b::rest) pos) (ada ta tb):=by
 intro pins s J H Q I h;refine BoolOp_or (eC (ha pins s J H _ I h) λv s1 cX=>?_);obtain⟨x,H1,I1,r1,q1⟩:=cX;obtain⟨c,rfl,q1⟩:=q1;cases r1;refine eI ?_;cases c with
 |false=>exact hb pins s1 J H1 Q I1 q1
 |true=>exact⟨.bl true,H1,I1,Z,q1⟩
theorem Tj(ha:PE X a ta):PE X (.UnaryOp .Not a pos) (Yb ta):=by
 intro pins s J H Q I h;refine UnaryOp_ (eC (ha pins s J H _ I h) λv s1 cX=>?_);obtain⟨x,H1,I1,r1,q1⟩:=cX;obtain⟨c,rfl,q1⟩:=q1;cases r1;exact not_of (eI ⟨.bl (!c),H1,I1,Z,q1⟩)
def tIf(t:TT)(ta tb:TE):TE:=λ J H Q=>t J H λc H1=>if c=true then ta J H1 Q else tb J H1 Q
theorem rH{c:cF}(hc:PT X c tA)(ha:PE X a ta)(hb:PE X b tb):PE X (.IfExp c a b pos) (tIf tA ta tb):=by
 intro pins s J H Q I h;refine wpAny_IfExp (eC (hc pins s J H _ I h) λd s1 cX=>?_);obtain⟨H1,I1,q1⟩:=cX;cases d with
 |true=>exact ha pins s1 J H1 Q I1 q1
 |false=>exact hb pins s1 J H1 Q I1 q1
end
def bI(K:af)(H:Hp)(a:ai)(xs:List V):Prop :=
 Rd H a (.lst xs) \/
  ∃(o:fY)(ci:Array ae)(n:Nat),K.lookup a=O o/\o.cls=.type "list" /\ o.dict=Y/\o.data=.seq ci n/\ci.size<=az/\Vals xs ci.toList
def gA(K:af)(H:Hp)(a:ai)(xs:List V):Prop :=
 Rd H a (.tup xs) \/
  ∃(o:fY)(ci:Array ae)(n:Nat),K.lookup a=O o/\o.cls=.type "tuple" /\ o.data=.seq ci n/\ci.size<=az/\Vals xs ci.toList
def aaz:ae->Option V
 |.none=>O .fC
 |.bool b=>O (.bl b)
 |.int i _=>O (.int i)
 |.str x _=>O (.str x)
 |.bytes b _=>O (.D7 b)
 |.float b _=>O (.Qf b)
 |.ref a=>O (.ref a)
 |.type n=>O (.ty n)
 |_=>Y
theorem RelV.abs{x:V}{u:ae}(r:RelV x u):aaz u=O x:=by
 cases x with
 |fC=>cases r;rfl
 |bl _=>cases r;rfl
 |int _=>obtain⟨t,rfl⟩:=r;rfl
 |str _=>obtain⟨t,rfl⟩:=r;rfl
 |D7 _=>obtain⟨t,rfl⟩:=r;rfl
 |Qf _=>obtain⟨t,rfl⟩:=r;rfl
 |ref _=>cases r;rfl
 |ty _=>cases r;rfl
theorem RelV.inj{x y:V}{u:ae}(r:RelV x u)(q:RelV y u):x=y:=bQ (r.abs.symm.trans q.abs)
theorem Vals.inj:∀{xs ys:List V}{us:List ae},Vals xs us->Vals ys us->xs=ys
 |_,_,_,.nil,.nil=>rfl
 |_,_,_,.cons r t,.cons r' t'=>by rw[r.inj r',Vals.inj t t']
section
variable {X:Cx}{pins:List (ai × fY)}{J:St}{H:Hp}{s:aq}{a:ai}{xs ys:List V}
theorem bI.of{K:af}(h:H a=O (.lst xs)):bI K H a xs:=.inl (.inl h)
theorem gA.of{K:af}(h:H a=O (.tup xs)):gA K H a xs:=.inl (.inl h)
theorem Inv.list(I:Inv X pins J H s)(h:bI X.K H a xs):∃ ci:List ae,Vals xs ci/\PlainL s.heap a ci.toArray/\xs.length<=az:=by
 rcases h with h | ⟨o,ci,n,hk,hc,hd,hs,hz,r⟩
 .obtain⟨z,ci,n,r,e⟩:=h.ok I.c8;exact⟨ci,r,⟨_,n,e,Z,Z,Z⟩,z⟩
 .refine⟨ci.toList,r,⟨o,n,I.qm a o hk,hc,hd,by simpa using hs⟩,?_⟩;have e:=r.length;simp only [aT] at e;omega
theorem Inv.tuple(I:Inv X pins J H s)(h:gA X.K H a xs):∃ ci:List ae,Vals xs ci/\IsTup s.heap a ci.toArray/\xs.length<=az:=by
 rcases h with h | ⟨o,ci,n,hk,hc,hs,hz,r⟩
 .obtain⟨z,ci,r,p⟩:=h.ok I.c8;exact⟨ci,r,p,z⟩
 .refine⟨ci.toList,r,⟨o,I.qm a o hk,hc,n,by simpa using hs⟩,?_⟩;have e:=r.length;simp only [aT] at e;omega
theorem Inv.rC(I:Inv X pins J H s)(h:bI X.K H a xs)(h':bI X.K H a ys):xs=ys:=by
 obtain⟨ci,r,⟨o,n,e,_,_,d⟩,_⟩:=I.list h;obtain⟨its',r',⟨o',n',e',_,_,d'⟩,_⟩:=I.list h';rw[e] at e';cases e';rw[d] at d';injection d' with d1 _;have:ci=its':=by simpa using congrArg Array.toList d1
 subst this;exact r.inj r'
end
abbrev Cx.xz(X:Cx)(E:ae->aq->Prop):Cx:={ X with xe:=E }
abbrev Cx.Nb(X:Cx):Cx:=X.xz λ_ _=>False
theorem Cx.Ok.xz{X:Cx}(ok:X.Ok)(E:ae->aq->Prop):(X.xz E).Ok :=
 ⟨ok.mod,ok.kind,ok.glob,ok.blt,ok.above,ok.inj,ok.has,ok.U9,ok.hd,ok.frames,ok.ZK,ok.exf,ok.bs,ok.P9,ok.K3,ok.NK,ok.ud,ok.RJ⟩
theorem Cx.Ok.pb{X:Cx}{E:ae->aq->Prop}(ok:(X.xz E).Ok):X.Ok :=
 ⟨ok.mod,ok.kind,ok.glob,ok.blt,ok.above,ok.inj,ok.has,ok.U9,ok.hd,ok.frames,ok.ZK,ok.exf,ok.bs,ok.P9,ok.K3,ok.NK,ok.ud,ok.RJ⟩
section
variable {X:Cx}{pins:List (ai × fY)}{J:St}{H:Hp}{s:aq}{E:ae->aq->Prop}
theorem Inv.xz(I:Inv X pins J H s)(E:ae->aq->Prop):Inv (X.xz E) pins J H s:=⟨I.ok.xz E,I.os,I.bare,I.base,I.loc,I.cell,I.free,I.oQ,I.pin,I.c8,I.len⟩
theorem Inv.pb(I:Inv (X.xz E) pins J H s):Inv X pins J H s:=⟨I.ok.pb,I.os,I.bare,I.base,I.loc,I.cell,I.free,I.oQ,I.pin,I.c8,I.len⟩
theorem SP.pb{D:Ends}{f:Flow}{s':aq}(h:SP (X.xz E) pins D f s'):SP X pins D f s':=by
 cases f with
 |next=>obtain⟨σ',H',I,q⟩:=h;exact⟨σ',H',I.pb,q⟩
 |brk=>obtain⟨σ',H',I,q⟩:=h;exact⟨σ',H',I.pb,q⟩
 |cont=>obtain⟨σ',H',I,q⟩:=h;exact⟨σ',H',I.pb,q⟩
 |ret u=>obtain⟨v,σ',H',I,r,q⟩:=h;exact⟨v,σ',H',I.pb,r,q⟩
theorem AR.Nb{st:List cH}{t:TS}(h:AR X.Nb st t):AR X st t:=λpins s J H D I hw =>
 fL (h pins s J H D (I.xz _) hw) (λ_ _ q=>q.pb) λ_ _ z=>e6 z
end
section
variable {X:Cx}{st:cH}{rest:List cH}{t u:TS}{e:cF}{te:TE}{pos:jd}
def X9:TS:=λD J H=>D.nx J H
def Yd(t u:TS):TS:=λD J H=>t { D with nx:=u D } J H
theorem cv:AR X [] X9:=λ_ _ J H _ I h=>sj ⟨J,H,I,h⟩
theorem ak(h1:PS X st t)(h2:AR X rest u):AR X (st::rest) (Yd t u):=by
 intro pins s J H D I h;refine Dd (eC (h1 pins s J H { D with nx:=u D } I h) λf s1 q=>?_);cases f with
 |next =>
  obtain⟨σ',H',I',q⟩:=q;exact h2 pins s1 σ' H' D I' q
 |ret v=>exact q
 |brk=>exact q
 |cont=>exact q
theorem aA(h1:PS X st t):AR X [st] t:=by
 intro pins s J H D I h;refine Dd (eC (h1 pins s J H D I h) λf s1 q=>?_);cases f with
 |next=>exact sj q
 |ret v=>exact q
 |brk=>exact q
 |cont=>exact q
def TK:TS:=λD J H=>D.bk J H
theorem LJ:PS X (.Break pos) TK:=λ_ _ J H _ I h=>wpAny_Break ⟨J,H,I,h⟩
theorem Inv.quiet{pins:List (ai × fY)}{J:St}{H:Hp}{s:aq}(I:Inv X pins J H s):interactive X.env=false:=by simp[interactive,I.ok.kind]
def X5(te:TE):TS:=λD J H=>te J H λ_ H1=>D.nx J H1
theorem cL(he:PE X e te)(hs:qO e Y pos.line X.env=pure false:=by rfl):PS X (.Expr e pos) (X5 te):=by
 intro pins s J H D I h;refine wpAny_Expr_any (eC (he pins s J H _ I h) λv s1 cX=>?_) I.quiet hs;obtain⟨x,H1,I1,r1,q1⟩:=cX;exact⟨J,H1,I1,q1⟩
def adb(te:TE):TS:=λD J H=>te J H D.rt
theorem bU(he:PE X e te):PS X (.Return (O e) pos) (adb te):=by
 intro pins s J H D I h;refine wpAny_Return_some (eC (he pins s J H _ I h) λv s1 cX=>?_);obtain⟨x,H1,I1,r1,q1⟩:=cX;exact⟨x,J,H1,I1,r1,q1⟩
def ac6(c:TT)(t u:TS):TS:=λD J H=>c J H λb H1=>if b=true then t D J H1 else u D J H1
theorem dE{c:cF}{a b:List cH}{tc:TT}(hc:PT X c tc)(ha:AR X a t)(hb:AR X b u):PS X (.If c a b pos) (ac6 tc t u):=by
 intro pins s J H D I h;refine wpAny_If (eC (hc pins s J H _ I h) λd s1 cX=>?_);obtain⟨H1,I1,q1⟩:=cX;cases d with
 |true=>exact ha pins s1 J H1 D I1 q1
 |false=>exact hb pins s1 J H1 D I1 q1
def TR:TS:=λ_ _ _=>False
theorem dZ:PS X st TR:=λ_ _ _ _ _ _ h=>h.elim
end
abbrev TG:=V->St->Hp->(St->Hp->Prop)->Prop
abbrev Rr:=List V->St->Hp->(St->Hp->Prop)->Prop
def PG(X:Cx)(target:cF)(t:TG):Prop :=
 ∀(pins:List (ai × fY))(s:aq)(J:St)(H:Hp)(v:V)(u:ae)(Q:St->Hp->Prop),Inv X pins J H s->RelV v u->t v J H Q ->
  wpAny (br X.prog X.w) X.A (wR target X.env u) (λ_ s'=>∃ σ' H',Inv X pins σ' H' s'/\Q σ' H') X.xe s
def Ue(X:Cx)(ts:List cF)(t:Rr):Prop :=
 ∀(pins:List (ai × fY))(s:aq)(J:St)(H:Hp)(vs:List V)(us:List ae)(Q:St->Hp->Prop),Inv X pins J H s->Vals vs us->t vs J H Q ->
  wpAny (br X.prog X.w) X.A (assignInOrder ((re ts X.env).map (·.2)) us) (λ_ s'=>∃ σ' H',Inv X pins σ' H' s'/\Q σ' H') X.xe s
abbrev J4:=V->V->V->Hp->(Hp->Prop)->Prop
def Ro(X:Cx)(t:J4):Prop :=
 ∀(pins:List (ai × fY))(s:aq)(J:St)(H:Hp)(o i v:V)(ov iv u:ae)(Q:Hp->Prop),Inv X pins J H s->RelV o ov->RelV i iv->RelV v u->t o i v H Q ->
  wpAny (br X.prog X.w) X.A (ZH ov iv u) (λ_ s'=>∃ H',Inv X pins J H' s'/\Q H') X.xe s
abbrev YK:=V->V->Hp->VK->Prop
def PIp(X:Cx)(op:Operator)(t:YK):Prop :=
 ∀(pins:List (ai × fY))(s:aq)(J:St)(H:Hp)(x y:V)(v u:ae)(Q:VK),Inv X pins J H s->RelV x v->RelV y u->t x y H Q ->
  wpAny (br X.prog X.w) X.A (inplaceOp op v u) (EP X pins J Q) X.xe s
section
variable {X:Cx}{pos:jd}
def hV(i:Nat):TG:=λv J H Q=>Q (J.set i (O v)) H
theorem cU{i:Nat}{x:aE}(hN:X.N.Nodup)(hi:X.N[i]?=O x)(hx:Loc X.env.scope x)(hf:X.fn x=true\/X.env.scope.names.lookup x=O .local:=by first | exact .inl Z | exact .inr Z | assumption):PG X (.Name x pos) (hV i):=by
 intro pins s J H v u Q I r h;exact AI (we I hN hi hx r (λs' I'=>⟨_,H,I',h⟩) hf)
def Eg:Rr:=λvs J H Q=>vs=[]/\Q J H
def lm(t:TG)(u:Rr):Rr:=λvs J H Q=>∃ v r,vs=v::r/\t v J H λσ' H'=>u r σ' H' Q
theorem pG:Ue X [] Eg:=by
 intro pins s J H vs us Q I r h;obtain⟨e,h⟩:=h;subst e;cases r;exact assignInOrder_nil ⟨J,H,I,h⟩
theorem gu{e:cF}{es:List cF}{t:TG}{u:Rr}(h1:PG X e t)(h2:Ue X es u)
  (hs:(re (e::es) X.env).map (·.2)=wR e X.env::(re es X.env).map (·.2):=by rfl):Ue X (e::es) (lm t u):=by
 intro pins s J H vs us Q I r h;obtain⟨v,vr,e1,h⟩:=h;subst e1;cases r with
 |cons r rr =>
  rw[hs];refine assignInOrder_cons (eC (h1 pins s J H _ _ _ I r h) λ_ s1 cX=>?_);obtain⟨σ1,H1,I1,q1⟩:=cX;exact h2 pins s1 σ1 H1 _ _ Q I1 rr q1
def Kn(K:af)(n:Nat)(t:Rr):TG:=λv J H Q=>∃ a xs,v=.ref a/\gA K H a xs/\xs.length=n/\t xs J H Q
theorem tw{es:List cF}{k:Nat}{t:Rr}{n:Nat}(hc:X.calm=true)(h:Ue X es t)
  (hn:(re es X.env).length=n:=by rfl) (N9:(re es X.env).findIdx? (·.1)=Y:=by rfl):PG X (.Tuple es k pos) (Kn X.K n t):=by
 intro pins s J H v u Q I r hw;obtain⟨a,xs,e1,hq,hl,hw⟩:=hw;subst e1;cases r;obtain⟨ci,rv,ht,hz⟩:=I.tuple hq;refine assign_Tuple_tuple (I.ok.hd hc) ht (by simp[hn,← hl,rv.length]) N9 λh' hx=>?_;have I1:Inv X pins J H { s with heap:=h' }:=I.kept (t':=s.toks) λb o e=>hx b o (aP (aH e)) e;exact h pins _ J H xs _ Q I1 (by simpa using rv) hw
def aaN(to ti:TE)(t:J4):TG:=λv J H Q=>to J H λo H1=>ti J H1 λi H2=>t o i v H2 λH3=>Q J H3
theorem tq{o i:cF}{to ti:TE}{t:J4}(ho:PE X o to)(hi:PE X i ti)(hs:Ro X t)
  (ha:∀ v,wR (.Subscript o i pos) X.env v=(do
   let ov ← lD [v] (dP o X.env)
   let iv ← lD [v,ov] (dP i X.env)
   Az pos
   lD [v,ov,iv] (ZH ov iv v)
   release [v,ov,iv] []):=by intro _;rfl):PG X (.Subscript o i pos) (aaN to ti t):=by
 intro pins s J H v u Q I r h;rw[ha];refine ah (fW (eC (ho pins s J H _ I h) λov s1 cX=>?_));obtain⟨x,H1,I1,r1,q1⟩:=cX;refine ah (fW (eC (hi pins s1 J H1 _ I1 q1) λiv s2 cX=>?_));obtain⟨y,H2,I2,r2,q2⟩:=cX;refine ah (MF (ah (fW (eC (hs pins s2 J H2 x y v ov iv u _ I2 r1 r2 r q2) λ_ s3 cX=>?_))));obtain⟨H3,I3,q3⟩:=cX;exact wpAny_release ⟨J,H3,I3,q3⟩
def Pz(te:TE)(g:TG):TS:=λD J H=>te J H λx H1=>g x J H1 D.nx
theorem tD{tg e:cF}{te:TE}{g:TG}(he:PE X e te)(hg:PG X tg g)(hs:swapsWithSole [tg] e pos.line X.env=pure false:=by rfl)(hw:swappedStores [tg] e X.env=pure Y:=by rfl)
  (h1:(re [tg] X.env).map (·.2)=[wR tg X.env]:=by rfl):PS X (.Assign [tg] e pos) (Pz te g):=by
 intro pins s J H D I h;refine wpAny_Assign_stores (eC (he pins s J H _ I h) λv s1 cX=>?_) hs hw;obtain⟨x,H1,I1,r1,q1⟩:=cX;rw[h1];exact eC (hg pins s1 J H1 x v _ I1 r1 q1) λ_ s2 q=>q
theorem bz{i:Nat}{x:aE}{e:cF}{te:TE}{pos':jd}(hN:X.N.Nodup)(hi:X.N[i]?=O x)(hx:Loc X.env.scope x)(he:PE X e te)(hs:qO e (O (.Name x pos')) pos.line X.env=pure false:=by rfl)(hf:X.fn x=true\/X.env.scope.names.lookup x=O .local:=by first | exact .inl Z | exact .inr Z | assumption) :
  PS X (.Assign [.Name x pos'] e pos) (Pz te (hV i)):=by
 intro pins s J H D I h;refine wpAny_Assign_Name (eC (he pins s J H _ I h) λv s1 cX=>?_) hs;obtain⟨y,H1,I1,r1,q1⟩:=cX;exact we I1 hN hi hx r1 (λs2 I2=>⟨_,H1,I2,q1⟩) hf
def X2(to ti te:TE)(PF:V->V->Hp->VK->Prop)(ZP:YK)(PH:J4):TS:=λD J H=>to J H λo H1=>ti J H1 λi H2=>PF o i H2 λx H3=>te J H3 λy H4=>ZP x y H4 λz H5=>PH o i z H5 λH6=>D.nx J H6
def UX(X:Cx)(t:V->V->Hp->VK->Prop):Prop :=
 ∀(pins:List (ai × fY))(s:aq)(J:St)(H:Hp)(o i:V)(ov iv:ae)(Q:VK),Inv X pins J H s->RelV o ov->RelV i iv->t o i H Q ->
  wpAny (br X.prog X.w) X.A (zm ov iv) (EP X pins J Q) X.xe s
theorem O7{o i e:cF}{to ti te:TE}{PF:V->V->Hp->VK->Prop}{ZP:YK}{PH:J4}{op:Operator}{AE:jd}(ho:PE X o to)(hi:PE X i ti)(hg:UX X PF)(he:PE X e te)(hp:PIp X op ZP)(hs:Ro X PH)
  (ha:∀ ov iv new,augStore i ov iv new=(do lD [new,ov,iv] (ZH ov iv new);release [new,ov,iv] [];pure .next):=by intros;rfl):PS X (.AugAssign (.Subscript o i AE) op e pos) (X2 to ti te PF ZP PH):=by
 intro pins s J H D I h;refine wpAny_AugAssign_SubscriptAny (eC (ho pins s J H _ I h) λov s1 cX=>?_) ha;obtain⟨x1,H1,I1,r1,q1⟩:=cX;refine eC (hi pins s1 J H1 _ I1 q1) λiv s2 cX=>?_;obtain⟨x2,H2,I2,r2,q2⟩:=cX;refine eC (hg pins s2 J H2 x1 x2 ov iv _ I2 r1 r2 q2) λold s3 cX=>?_;obtain⟨x3,H3,I3,r3,q3⟩:=cX;refine eC (he pins s3 J H3 _ I3 q3) λv s4 cX=>?_;obtain⟨x4,H4,I4,r4,q4⟩:=cX;refine eC (hp pins s4 J H4 x3 x4 old v _ I4 r3 r4 q4) λnew s5 cX=>?_;obtain⟨x5,H5,I5,r5,q5⟩:=cX;refine eC (hs pins s5 J H5 x1 x2 x5 ov iv new _ I5 r1 r2 r5 q5) λ_ s6 cX=>?_;obtain⟨H6,I6,q6⟩:=cX;exact⟨J,H6,I6,q6⟩
def ipI(f:Int->Int->Int):YK:=λx y H Q=>∃ i j,x=.int i/\y=.int j/\Q (.int (f i j)) H
theorem SE:PIp X .Sub (ipI λi j=>i-j):=by
 intro pins s J H x y v u Q I r1 r2 h;obtain⟨i,j,e1,e2,q⟩:=h;subst e1;subst e2;obtain⟨t,rfl⟩:=r1;obtain⟨t',rfl⟩:=r2;exact isub_int ⟨.int _,H,I.tok _,⟨_,Z⟩,q⟩
end
section
variable {X:Cx}{pos:jd}
def TV(c:TT)(tb:TS):TS:=λD J H=>∃ W:Nat->St->Hp->Prop,(∃ m,W m J H)/\∀ m J H,W m J H ->
 c J H λb H1=>if b=true then ∃ N:St->Hp->Prop,(∀ σ' H',N σ' H'->∃ m',m'<m/\W m' σ' H')/\tb { D with nx:=N,ct:=N,bk:=D.nx } J H1 else D.nx J H1
theorem vR{c:cF}{body:List cH}{tc:TT}{tb:TS}(hp:PassesOwn (br X.prog X.w) X.A X.env X.xe)(hc:PT X c tc)(hb:AR X body tb):PS X (.While c body [] pos) (TV tc tb):=by
 intro pins s J H D I h;obtain⟨W,⟨m0,w0⟩,turn⟩:=h;refine wpAny_While (codeAny_whileLoop (λn s'=>∃ σ' H',Inv X pins σ' H' s'/\W n σ' H') ?_ m0 ⟨J,H,I,w0⟩);rintro n s1 ⟨σ1,H1,I1,w1⟩;refine iP hp (eC (hc pins s1 σ1 H1 _ I1 (turn n σ1 H1 w1)) λb s2 cX=>?_);obtain⟨H2,I2,q2⟩:=cX;cases b with
 |true =>
  obtain⟨N,hN,q2⟩:=q2;rw[if_pos rfl];refine iP hp (eC (hb pins s2 σ1 H2 _ I2 q2) λf s3 q3=>?_);cases f with
  |next =>
   obtain⟨σ3,H3,I3,n3⟩:=q3;obtain⟨m',hm,w3⟩:=hN σ3 H3 n3;exact⟨m',hm,σ3,H3,I3,w3⟩
  |cont =>
   obtain⟨σ3,H3,I3,n3⟩:=q3;obtain⟨m',hm,w3⟩:=hN σ3 H3 n3;exact⟨m',hm,σ3,H3,I3,w3⟩
  |brk=>exact q3
  |ret v=>exact q3
 |false =>
  rw[if_neg bc];exact sj ⟨σ1,H2,I2,q2⟩
end
structure It where
 go:Nat->Hp->Prop
 Df:Nat->Hp->V->Hp->Prop
 stop:Nat->Hp->Prop
def wL(X:Cx)(pins:List (ai × fY))(H:Hp)(b:ai):Prop :=
 H b=Y/\b≠X.env.locals/\b ∉ X.fs/\(b∈X.ex\/X.s₀.heap.objs.size<=b)/\(∀ x c,X.env.cells.lookup x=O c->c≠b)/\∀ p∈X.pn++pins,p.1≠b
theorem Inv.wU{X:Cx}{pins:List (ai × fY)}{J:St}{H H':Hp}{s:aq}{b:ai}(I:Inv X pins J H s)(hb:s.heap.objs.size<=b)(hn:H' b=Y):wL X pins H' b:=by
 refine⟨hn,cI (cp I.lt hb),I.Oz hb,.inr (bF I.sz hb),λx c e z=>?_,λp hp z=>?_⟩
 .obtain⟨v,q⟩:=I.cell x c e;exact absurd (cp q.lt (by rw[z];exact hb)) (jE _)
 .exact absurd (cp (aH (I.pin p hp).1) (by rw[z];exact hb)) (jE _)
structure Turn(P:aS)(w:bv)(K:af)(tg:cF)(E2:It)(fp:List ai)(it:ai)(tn:Nat->cR->Prop):Prop where
 mem:it∈fp
 obj:∀ i h,tn i h->∀ b∈fp,∃ o,h.get? b=O o/\∀ v,o.data≠.cell v
 keep:∀ i h h',tn i h->(∀ b∈fp,∀ o,h.get? b=O o->h'.get? b=O o)->tn i h'
 item:∀(X:Cx),X.prog=P->X.w=w->X.K=K->X.calm=true->∀(i:Nat)(pins:List (ai × fY))(s:aq)(J:St)(H:Hp)(E:ae->aq->Prop),Inv X pins J H s->(∀ b∈fp,wL X pins H b)->tn i s.heap->E2.go i H ->
  wpAny (br P w) X.A (ms (.ref it)) (λr s1=>∃ u,r=O u /\
   wpAny (br P w) X.A (si tg (.ref it) u) (λ_ s2=>∃ x H',Inv X pins J H' s2/\RelV x u/\E2.Df i H x H'/\tn (i+1) s2.heap/\∀ b∈fp,H' b=Y) E s1) E s
 done:∀(X:Cx),X.prog=P->X.w=w->X.K=K->X.calm=true->∀(i:Nat)(pins:List (ai × fY))(s:aq)(J:St)(H:Hp)(E:ae->aq->Prop),Inv X pins J H s->(∀ b∈fp,wL X pins H b)->tn i s.heap->E2.stop i H ->
  wpAny (br P w) X.A (ms (.ref it)) (λr s1=>r=Y/\Inv X pins J H s1) E s
 self:∀(A:cK)(i:Nat)(s:aq)(Q:ae->aq->Prop)(E:ae->aq->Prop),tn i s.heap->Q (.ref it) s->wpAny (br P w) A (IU (.ref it)) Q E s
abbrev TI:=St->Hp->(It->Hp->Prop)->Prop
def PIE(X:Cx)(pins:List (ai × fY))(J:St)(tg:cF)(R:It->Hp->Prop)(itv:ae)(s2:aq):Prop :=
 ∃(it:ai)(fp:List ai)(tn:Nat->cR->Prop)(E2:It)(H':Hp),itv=.ref it/\Inv X pins J H' s2/\Turn X.prog X.w X.K tg E2 fp it tn/\tn 0 s2.heap/\(∀ b∈fp,wL X pins H' b)/\R E2 H'
def PI(X:Cx)(tg iter:cF)(wi:TI):Prop :=
 ∀(pins:List (ai × fY))(s:aq)(J:St)(H:Hp)(R:It->Hp->Prop),Inv X pins J H s->wi J H R ->
  wpAny (br X.prog X.w) X.A (dP iter X.env) (λv s1=>wpAny (br X.prog X.w) X.A (IU v) (PIE X pins J tg R) X.xe s1) X.xe s
theorem FQ{M:YI}{A:cK}{E:ae->aq->Prop}{s:aq}{tg:cF}{it:ai}{u:ae}{o:fY}{n:String}{vs:Array ae}{Q:Unit->aq->Prop}(ho:s.heap.get? it=O o)(hc:o.cls=.type n)(hd:o.data=.fields vs)
  (hn:["enumerate","zip","dict_itemiterator","dict_reverseitemiterator","odict_iterator","itertools.zip_longest","itertools.pairwise"].contains n=false) (hQ:Q () s):wpAny M A (si tg (.ref it) u) Q E s:=by
 unfold si;cases tg <;> first
  |exact aF hQ
  | (cases u <;> first
    |exact aF hQ
    | (refine ah (xA ho ?_)
       rw[hc,hd];show wpAny M A (if (["enumerate","zip","dict_itemiterator","dict_reverseitemiterator","odict_iterator","itertools.zip_longest","itertools.pairwise"].contains n && vs[0]? == O (nH _))=true then _ else _) Q E s;rw[if_neg (by intro h;rw[hn,iQ] at h;cases h)];exact aF hQ))
def P1(K:af)(a:ai):It :=
 ⟨λi H=>∃ xs x,bI K H a xs/\xs[i]?=O x,λi H x H'=>H'=H/\∀ xs,bI K H a xs->xs[i]?=O x,λi H=>∃ xs,bI K H a xs/\xs.length<=i⟩
def Nn(lo:Int)(n:Nat):It:=⟨λi _=>i<n,λi H x H'=>H'=H/\x=.int (lo+i),λi _=>n<=i⟩
theorem Jm{P:aS}{w:bv}{K:af}{tg:cF}(a it:ai):Turn P w K tg (P1 K a) [it] it (λi h=>h.IsListIter it a i) where
 mem:=by simp
 obj:=λi h st b hb=>by
  have e:b=it:=by simpa using hb
  subst e;obtain⟨o,e,c,d⟩:=st;exact⟨o,e,λv z=>by rw[d] at z;cases z⟩
 keep:=λi h h' st k=>st.at λo e=>k it (by simp) o e
 item:=by
  intro X hP hw hK hc i pins s J H E I hf st hg;subst hP hw hK;obtain⟨xs,x,hq,hx⟩:=hg;obtain⟨ci,rv,p,hz⟩:=I.list hq;obtain⟨u,hu,ru⟩:=rv.get hx;obtain⟨f0,f1,f2,f3,f4,f5⟩:=hf it (by simp);refine PQ st p.isList (x:=u) (by simpa using hu) λh' Ji sb=>?_;have I1:Inv X pins J H { s with heap:=h' }:=I.turned (t':=s.toks) (λb o hb e=>(sb.2 b hb).trans e) f0 f1 f3 f4 f5;obtain⟨o,e,c,d⟩:=id Ji;exact⟨u,Z,FQ (s:={ s with heap:=h' }) e c d (by decide) ⟨x,H,I1,ru,⟨Z,λys hy=>by rw[I.rC hy hq];exact hx⟩,Ji,λb hb=>(hf b hb).1⟩⟩
 done:=by
  intro X hP hw hK hc i pins s J H E I hf st hg;subst hP hw hK;obtain⟨xs,hq,hx⟩:=hg;obtain⟨ci,rv,p,hz⟩:=I.list hq;obtain⟨f0,f1,f2,f3,f4,f5⟩:=hf it (by simp);have hl:=rv.length;exact Q2 (I.ok.hd hc) st p.isList (by simp;omega) λh' eb=>⟨Z,I.turned (t':=s.toks) (λb o hb e=>eb b o hb e) f0 f1 f3 f4 f5⟩
 self:=λ_ _ _ _ _ st h=>wpAny_pyIter_listiter st h
theorem Fp{P:aS}{w:bv}{K:af}{tg:cF}(it:ai)(lo:Int)(n:Nat):Turn P w K tg (Nn lo n) [it] it (λi h=>IsRangeIter h it (lo+(i:Nat)*1) ((n:Int)-(i:Nat)) 1) where
 mem:=by simp
 obj := λi h st b hb=>by
  have e:b=it:=by simpa using hb
  subst e;exact⟨_,st,λv z=>by
   have z':Data.fields _=Data.cell v:=z;cases z'⟩
 keep:=λi h h' st k=>k it (by simp) _ st
 item:=by
  intro X hP hw hK hc i pins s J H E I hf st hg;subst hP hw hK;obtain⟨f0,f1,f2,f3,f4,f5⟩:=hf it (by simp);have W:=Walks.range (prog:=X.prog) (w:=X.w) (I.ok.hd hc) it lo 1 n;refine W.item i s _ _ hg st λv h' tk hv Ji kk=>?_;obtain⟨t,rfl⟩:=hv;have I1:Inv X pins J H { s with heap:=h',toks:=tk }:=I.turned (λb o hb e=>kk b o (by simpa using hb) e) f0 f1 f3 f4 f5;refine⟨_,Z,FQ (s:={ s with heap:=h',toks:=tk }) (n := "range_iterator") Ji Z Z (by decide) ⟨.int (lo+i),H,I1,⟨t,?_⟩,⟨Z,Z⟩,Ji,λb hb=>(hf b hb).1⟩⟩;rw[Int.mul_one]
 done:=by
  intro X hP hw hK hc i pins s J H E I hf st hg;subst hP hw hK;obtain⟨f0,f1,f2,f3,f4,f5⟩:=hf it (by simp);exact wpAny_pyNext_range_end (I.ok.hd hc) st (by have:n<=i:=hg;omega) λh' eb=>⟨Z,I.turned (t':=s.toks) (λb o hb e=>eb b o hb e) f0 f1 f3 f4 f5⟩
 self:=λ_ _ _ _ _ st h=>wpAny_pyIter_rangeiter st h
section
variable {X:Cx}{tg:cF}
def WS(K:af)(tl:TE):TI:=λ J H R=>tl J H λx H1=>∃ a,x=.ref a/\(∃ xs,bI K H1 a xs)/\R (P1 K a) H1
theorem cV{l:cF}{tl:TE}(hl:PE X l tl):PI X tg l (WS X.K tl):=by
 intro pins s J H R I h;refine eC (hl pins s J H _ I h) λv s1 cX=>?_;obtain⟨x,H1,I1,r1,q1⟩:=cX;obtain⟨a,e,⟨xs,hq⟩,q⟩:=q1;subst e;cases r1;obtain⟨ci,rv,p,hz⟩:=I1.list hq;refine pQ p.isList ?_;refine⟨s1.heap.objs.size,[s1.heap.objs.size],_,_,H1,Z,I1.kept (t':=s1.toks) λb o e=>ar _ e,Jm a _,⟨_,aO _ Z,Z,Z⟩,λb hb=>?_,q⟩;have e:b=s1.heap.objs.size:=by simpa using hb
 subst e;exact I1.wU (ay _) (I1.c8.fresh (ay _))
theorem LM{pins:List (ai × fY)}{J:St}{H:Hp}{s:aq}{R:It->Hp->Prop}{E:ae->aq->Prop}{lo hi:Int}{t u v:YL}{tk:Nat}(I:Inv X pins J H s)(h1:-(2 ^ 62)<=lo)(h2:lo<2 ^ 62)(h3:-(2 ^ 62)<=hi)(h4:hi<2 ^ 62)
  (q:R (Nn lo (hi-lo).toNat) H):wpAny (br X.prog X.w) X.A (IU (.ref s.heap.objs.size)) (PIE X pins J tg R) E { s with heap:=s.heap.push { cls:=.type "range",data:=.fields #[.int lo t,.int hi u,.int 1 v] },toks:=tk }:=by
 refine wpAny_pyIter_range (IsRange.new ..) (small_one h1 h2 h3 h4) ?_;have I1:Inv X pins J H { s with heap:=s.heap.push { cls:=.type "range",data:=.fields #[.int lo t,.int hi u,.int 1 v] },toks:=tk }:=I.kept λb o e=>ar _ e;refine⟨(s.heap.push { cls:=.type "range",data:=.fields #[.int lo t,.int hi u,.int 1 v] }).objs.size,[(s.heap.push { cls:=.type "range",data:=.fields #[.int lo t,.int hi u,.int 1 v] }).objs.size],_,_,H,Z,
  I1.kept (t':=tk) λb o e=>ar _ e,Fp _ lo (hi-lo).toNat,?_,λb hb=>?_,q⟩
 .have e1:lo+((0:Nat):Int)*1=lo:=by simp
  have e2:(((hi-lo).toNat:Nat):Int)-((0:Nat):Int)=ut lo hi 1:=by rw[rangeSize_one];split <;> omega
  show IsRangeIter _ _ (lo+((0:Nat):Int)*1) ((((hi-lo).toNat:Nat):Int)-((0:Nat):Int)) 1;rw[e1,e2];exact aO _ Z
 .have e:b=(s.heap.push { cls:=.type "range",data:=.fields #[.int lo t,.int hi u,.int 1 v] }).objs.size:=by simpa using hb
  subst e;exact I1.wU (ay _) (I1.c8.fresh (ay _))
def WT(ta:TA):TI:=λ J H R=>ta J H λvs H1=>∃ j:Int,vs=[.int j]/\-(2 ^ 62)<=j/\j<2 ^ 62/\R (Nn 0 j.toNat) H1
theorem lI{a:cF}{ta:TA}{p pos:jd}(hg:Gl X "range")(hm:X.mg "range" = Y)(ha:PA X [a] ta)(hs:bD [a] X.env=[(false,dP a X.env)]:=by rfl):PI X tg (.Call (.Name "range" p) [a] [] pos) (WT ta):=by
 intro pins s J H R I h;refine ML (mR I hg hm boot_range (c7 (eC (ha pos pins s J H _ I h) λus s1 cX=>?_) hs Z));obtain⟨vs,H1,I1,r1,q1⟩:=cX;obtain⟨j,e,q1,q2,q⟩:=q1;subst e;cases r1 with
 |cons r rr =>
  cases rr;obtain⟨t,rfl⟩:=r;exact call_range_1 (LM I1 (by omega) (by omega) q1 q2 (by simpa using q))
def ac5(wi:TI)(g:TG)(tb:TS):TS:=λD J H=>wi J H λE2 H1=>∃ W:Nat->Nat->St->Hp->Prop,(∃ m,W 0 m J H1)/\∀ i m J H,W i m J H ->
 (E2.stop i H/\D.nx J H)\/(E2.go i H/\∃ N:St->Hp->Prop,(∀ σ' H',N σ' H'->∃ m',m'<m/\W (i+1) m' σ' H')/\∀ x H',E2.Df i H x H'->g x J H' λσ2 H2=>tb { D with nx:=N,ct:=N,bk:=D.nx } σ2 H2)
def vP(fp:List ai)(h:cR):List (ai × fY):=fp.filterMap λb=>(h.get? b).map λo=>(b,o)
theorem oe{fp:List ai}{h:cR}{b:ai}{o:fY}(hb:b∈fp)(e:h.get? b=O o):(b,o)∈vP fp h:=MP.mpr ⟨b,hb,by rw[e];rfl⟩
theorem IK{fp:List ai}{h:cR}{p:ai × fY}(hp:p∈vP fp h):p.1∈fp/\h.get? p.1=O p.2:=by
 obtain⟨b,hb,e⟩:=MP.mp hp;cases q:h.get? b with
 |none=>rw[q] at e;cases e
 |some o =>
  rw[q] at e;have e':(b,o)=p:=bQ e;subst e';exact⟨hb,q⟩
theorem Inv.pinned{pins:List (ai × fY)}{J:St}{H:Hp}{s:aq}{fp:List ai}(I:Inv X pins J H s)(hf:∀ b∈fp,wL X pins H b)(ho:∀ b∈fp,∃ o,s.heap.get? b=O o/\∀ v,o.data≠.cell v):Inv X (pins++vP fp s.heap) J H s :=
 I.uO λp hp=>(bH.mp hp).elim (λz=>I.pin p (b7 _ z)) λz=>by
  obtain⟨hb,e⟩:=IK z;obtain⟨f0,f1,f2,_⟩:=hf p.1 hb;obtain⟨o,e',d⟩:=ho p.1 hb;rw[e] at e';cases e';exact⟨e,f0,f1,f2,d⟩
theorem Inv.rW{pins pl:List (ai × fY)}{J:St}{H:Hp}{s:aq}(I:Inv X (pins++pl) J H s):Inv X pins J H s:=I.uO λp hp=>I.pin p (b7 _ (cY _ hp))
theorem fD{iter:cF}{body:List cH}{wi:TI}{g:TG}{tb:TS}{pos:jd}(hp:PassesOwn (br X.prog X.w) X.A X.env X.xe)(hc:X.calm=true)(hi:PI X tg iter wi)(hg:PG X tg g)(hb:AR X body tb)
  (hs:∀ x,lx iter X.env x=pure x:=by intro _;rfl):PS X (.For tg iter body [] pos) (ac5 wi g tb):=by
 intro pins s J H D I h;refine wpAny_For (eC (hi pins s J H _ I h) λv s1 h1=>eC h1 λitv s2 h2=>?_) hs;obtain⟨it,fp,tn,E2,H2,e,I2,T,XX,f2,W,⟨m0,w0⟩,turn⟩:=h2;subst e;have TF:∀{H':Hp},(∀ b∈fp,H' b=Y)->∀ b∈fp,wL X pins H' b:=λhn b hb=>⟨hn b hb,(f2 b hb).2⟩
 refine codeAny_forLoop_any (λn s'=>∃ i σ' H',Inv X pins σ' H' s'/\tn i s'.heap/\(∀ b∈fp,H' b=Y)/\W i n σ' H') ?_ m0 ⟨0,J,H2,I2,XX,λb hb=>(f2 b hb).1,w0⟩;rintro n s3 ⟨i,σ3,H3,I3,XY,Vh,w3⟩;rcases turn i n σ3 H3 w3 with ⟨stop,qn⟩ | ⟨go,N,hN,um⟩
 .refine iP hp (eC (T.done X Z Z Z hc i pins s3 σ3 H3 X.xe I3 (TF Vh) XY stop) λr s4 cX=>?_);obtain⟨hr,I4⟩:=cX;subst hr;exact sj ⟨σ3,H3,I4,qn⟩
 .refine iP hp (eC (T.item X Z Z Z hc i pins s3 σ3 H3 X.xe I3 (TF Vh) XY go) λr s4 cX=>?_);obtain⟨u,hr,h4⟩:=cX;subst hr;refine iP hp (eC h4 λ_ s5 cX=>?_);obtain⟨x,H5,I5,r5,y5,TD,fr5⟩:=cX;have Z6:=I5.pinned (TF fr5) (T.obj _ _ TD);refine iP hp (eC (hg _ s5 σ3 H5 x u _ Z6 r5 (um x H5 y5)) λ_ s6 cX=>?_);obtain⟨σ6,H6,I6,q6⟩:=cX;refine iP hp (eC (hb _ s6 σ6 H6 _ I6 q6) λf s7 q7=>?_);have again:∀{σ7:St}{H7:Hp},Inv X (pins++vP fp s5.heap) σ7 H7 s7->N σ7 H7->∃ m,m<n/\∃ i σ' H',Inv X pins σ' H' s7/\tn i s7.heap/\(∀ b∈fp,H' b=Y)/\W i m σ' H':=λ{σ7 H7} I7 n7=>by
   obtain⟨m',hm,w7⟩:=hN σ7 H7 n7;refine⟨m',hm,i+1,σ7,H7,I7.rW,T.keep _ _ _ TD λb hb o e=>(I7.pin (b,o) (b7 _ (b7 _ (oe hb e)))).1,λb hb=>?_,w7⟩;obtain⟨o,e,d⟩:=T.obj _ _ TD b hb;exact(I7.pin (b,o) (b7 _ (b7 _ (oe hb e)))).2.1
  cases f with
  |next=>obtain⟨σ7,H7,I7,n7⟩:=q7;exact again I7 n7
  |cont=>obtain⟨σ7,H7,I7,n7⟩:=q7;exact again I7 n7
  |brk=>obtain⟨σ7,H7,I7,q7⟩:=q7;exact⟨σ7,H7,I7.rW,q7⟩
  |ret v=>obtain⟨x7,σ7,H7,I7,r7,q7⟩:=q7;exact⟨x7,σ7,H7,I7.rW,r7,q7⟩
end
theorem gr{K:af}{a:ai}{xs:List V}{g:TG}{tb:TS}{D:Ends}{J:St}{H:Hp}(Pv:Nat->St->Hp->Prop)(h0:Pv 0 J H)(hl:∀ i J H,i<=xs.length->Pv i J H->bI K H a xs)
  (hs:∀ i x J H,xs[i]?=O x->Pv i J H->g x J H λσ2 H2=>tb { D with nx:=Pv (i+1),ct:=Pv (i+1),bk:=D.nx } σ2 H2) (hd:∀ J H,Pv xs.length J H->D.nx J H) :
  ∃ W:Nat->Nat->St->Hp->Prop,(∃ m,W 0 m J H)/\∀ i m J H,W i m J H ->
   ((P1 K a).stop i H/\D.nx J H)\/((P1 K a).go i H/\∃ N:St->Hp->Prop,(∀ σ' H',N σ' H'->∃ m',m'<m/\W (i+1) m' σ' H')/\∀ x H',(P1 K a).Df i H x H'->g x J H' λσ2 H2=>tb { D with nx:=N,ct:=N,bk:=D.nx } σ2 H2):=by
 refine⟨λi m J H=>m=xs.length-i/\i<=xs.length/\Pv i J H,⟨xs.length,by simp,bq _,h0⟩,?_⟩;rintro i m J H ⟨rfl,hi,p⟩;have q:=hl i J H hi p
 by_cases gz:i<xs.length
 .refine .inr ⟨⟨xs,xs[i],q,by simp[gz]⟩,Pv (i+1),λσ' H' p'=>⟨xs.length-(i+1),by omega,Z,gz,p'⟩,λx H' y=>?_⟩;obtain⟨e,y⟩:=y;subst e;exact hs i x J _ (y xs q) p
 .have e:i=xs.length:=by omega
  subst e;exact .inl ⟨⟨xs,q,ay _⟩,hd J H p⟩
theorem nt{lo:Int}{n:Nat}{g:TG}{tb:TS}{D:Ends}{J:St}{H:Hp}(Pv:Nat->St->Hp->Prop)(h0:Pv 0 J H)
  (hs:∀ i J H,i<n->Pv i J H->g (.int (lo+i)) J H λσ2 H2=>tb { D with nx:=Pv (i+1),ct:=Pv (i+1),bk:=D.nx } σ2 H2) (hd:∀ J H,Pv n J H->D.nx J H) :
  ∃ W:Nat->Nat->St->Hp->Prop,(∃ m,W 0 m J H)/\∀ i m J H,W i m J H ->
   ((Nn lo n).stop i H/\D.nx J H)\/((Nn lo n).go i H/\∃ N:St->Hp->Prop,(∀ σ' H',N σ' H'->∃ m',m'<m/\W (i+1) m' σ' H')/\∀ x H',(Nn lo n).Df i H x H'->g x J H' λσ2 H2=>tb { D with nx:=N,ct:=N,bk:=D.nx } σ2 H2):=by
 refine⟨λi m J H=>m=n-i/\i<=n/\Pv i J H,⟨n,by simp,bq _,h0⟩,?_⟩;rintro i m J H ⟨rfl,hi,p⟩
 by_cases gz:i<n
 .refine .inr ⟨gz,Pv (i+1),λσ' H' p'=>⟨n-(i+1),by omega,Z,gz,p'⟩,λx H' y=>?_⟩;obtain⟨e,y⟩:=y;subst e y;exact hs i J _ gz p
 .have e:i=n:=by omega
  subst e;exact .inl ⟨ay _,hd J H p⟩
abbrev R2:=V->V->Hp->VK->Prop
def tN(X:Cx)(f:ae->ae->U2 ae)(r:R2):Prop :=
 ∀(pins:List (ai × fY))(s:aq)(J:St)(H:Hp)(x y:V)(v u:ae)(Q:VK),Inv X pins J H s->RelV x v->RelV y u->r x y H Q ->
  wpAny (br X.prog X.w) X.A (f v u) (EP X pins J Q) X.xe s
def UnR(X:Cx)(f:ae->U2 ae)(r:V->Hp->VK->Prop):Prop :=
 ∀(pins:List (ai × fY))(s:aq)(J:St)(H:Hp)(x:V)(v:ae)(Q:VK),Inv X pins J H s->RelV x v->r x H Q ->
  wpAny (br X.prog X.w) X.A (f v) (EP X pins J Q) X.xe s
def jy(X:Cx)(f:ae)(r:List V->Hp->VK->Prop):Prop :=
 ∀(pins:List (ai × fY))(s:aq)(J:St)(H:Hp)(xs:List V)(us:List ae)(Q:VK),Inv X pins J H s->Vals xs us->r xs H Q ->
  wpAny (br X.prog X.w) X.A (BK f us) (EP X pins J Q) X.xe s
def aau(X:Cx)(r:V->Hp->(Bool->Hp->Prop)->Prop):Prop :=
 ∀(pins:List (ai × fY))(s:aq)(J:St)(H:Hp)(x:V)(v:ae)(Q:Bool->Hp->Prop),Inv X pins J H s->RelV x v->r x H Q ->
  wpAny (br X.prog X.w) X.A (truthy v) (TP X pins J Q) X.xe s
def ZO(r:R2)(ta tb:TE):TE:=λ J H Q=>ta J H λx H1=>tb J H1 λy H2=>r x y H2 Q
def tUn(r:V->Hp->VK->Prop)(ta:TE):TE:=λ J H Q=>ta J H λx H1=>r x H1 Q
def rI(C:Int->Int->Prop)(g:Int->Int->V):R2:=λx y H Q=>∃ i j,x=.int i/\y=.int j/\C i j/\Q (g i j) H
def Tq(g:Int->Int->V):R2:=λx y H Q=>∃ i j,x=.int i/\y=.int j/\Q (g i j) H
def rU(g:Int->V):V->Hp->VK->Prop:=λx H Q=>∃ i,x=.int i/\Q (g i) H
section
variable {X:Cx}{a b c:cF}{ta tb tc:TE}{pos:jd}
theorem Rw(ha:PE X a ta)(hb:PE X b tb){pins:List (ai × fY)}{s:aq}{J:St}{H:Hp}{R:V->V->Hp->Prop}(I:Inv X pins J H s)
  (h:ta J H λx H1=>tb J H1 λy H2=>R x y H2) {Q:ae->aq->Prop} {f:ae->ae->U2 ae}
  (hf:∀ v u s2 x y H2,Inv X pins J H2 s2->RelV x v->RelV y u->R x y H2->wpAny (br X.prog X.w) X.A (f v u) Q X.xe s2) :
  wpAny (br X.prog X.w) X.A (dP a X.env) (λv s₁=>wpAny (br X.prog X.w) X.A (dP b X.env) (λu s₂=>wpAny (br X.prog X.w) X.A (f v u) Q X.xe s₂) X.xe s₁) X.xe s:=by
 refine eC (ha pins s J H _ I h) λv s1 cX=>?_;obtain⟨x,H1,I1,r1,q1⟩:=cX;refine eC (hb pins s1 J H1 _ I1 q1) λu s2 cX=>?_;obtain⟨y,H2,I2,r2,q2⟩:=cX;exact hf v u s2 x y H2 I2 r1 r2 q2
theorem bA{op:Operator}{r:R2}(ho:tN X (ox op) r)(ha:PE X a ta)(hb:PE X b tb):PE X (.BinOp a op b pos) (ZO r ta tb):=by
 intro pins s J H Q I h;exact wpAny_BinOp (Rw ha hb I h λv u s2 x y H2 I2 rx ry q=>ho pins s2 J H2 x y v u Q I2 rx ry q)
theorem Gh{op:UnaryOp}{r:V->Hp->VK->Prop}(ho:UnR X (unaryOp op) r)(ha:PE X a ta):PE X (.UnaryOp op a pos) (tUn r ta):=by
 intro pins s J H Q I h;refine UnaryOp_ (eC (ha pins s J H _ I h) λv s1 cX=>?_);obtain⟨x,H1,I1,r1,q1⟩:=cX;exact ho pins s1 J H1 x v Q I1 r1 q1
theorem opI{f:ae->ae->U2 ae}{C:Int->Int->Prop}{g:Int->Int->Int}
  (rule:∀(i j:Int)(t u:YL)(s:aq)(Q:ae->aq->Prop)(E:ae->aq->Prop),C i j->Q (.int (g i j) s.toks) { s with toks:=s.toks+1 }->wpAny (br X.prog X.w) X.A (f (.int i t) (.int j u)) Q E s) :
  tN X f (rI C λi j=>.int (g i j)):=by
 intro pins s J H x y v u Q I rx ry h;obtain⟨i,j,rfl,rfl,hc,q⟩:=h;obtain⟨t,rfl⟩:=rx;obtain⟨t',rfl⟩:=ry;exact rule i j t t' s _ _ hc ⟨.int (g i j),H,I.tok _,⟨_,Z⟩,q⟩
theorem Xm{f:ae->ae->U2 ae}{g:Int->Int->Int}
  (rule:∀(i j:Int)(t u:YL)(s:aq)(Q:ae->aq->Prop)(E:ae->aq->Prop),Q (.int (g i j) s.toks) { s with toks:=s.toks+1 }->wpAny (br X.prog X.w) X.A (f (.int i t) (.int j u)) Q E s) :
  tN X f (Tq λi j=>.int (g i j)):=by
 intro pins s J H x y v u Q I rx ry h;obtain⟨i,j,rfl,rfl,q⟩:=h;obtain⟨t,rfl⟩:=rx;obtain⟨t',rfl⟩:=ry;exact rule i j t t' s _ _ ⟨.int (g i j),H,I.tok _,⟨_,Z⟩,q⟩
theorem Te{f:ae->ae->U2 ae}{g:Int->Int->Bool}
  (rule:∀(i j:Int)(t u:YL)(s:aq)(Q:ae->aq->Prop)(E:ae->aq->Prop),Q (.bool (g i j)) s->wpAny (br X.prog X.w) X.A (f (.int i t) (.int j u)) Q E s) :
  tN X f (Tq λi j=>.bl (g i j)):=by
 intro pins s J H x y v u Q I rx ry h;obtain⟨i,j,rfl,rfl,q⟩:=h;obtain⟨t,rfl⟩:=rx;obtain⟨t',rfl⟩:=ry;exact rule i j t t' s _ _ ⟨.bl (g i j),H,I,Z,q⟩
def Z0(i j:Int):Prop:=0<j/\j<1073741824
def Q9(i j:Int):Prop:=(-(2 ^ 64)<i/\i<2 ^ 64)\/(-(2 ^ 64)<j/\j<2 ^ 64)
theorem Q9.ok{i j:Int}(h:Q9 i j):IntMulOk i j:=by
 rcases h with ⟨h1,h2⟩ | ⟨h1,h2⟩
 .exact .of_left (intBits_le_64 h1 h2)
 .exact .of_right (intBits_le_64 h1 h2)
theorem iM:tN X (ox .Add) (Tq λi j=>.int (i+j)):=Xm λ_ _ _ _ _ _ _ q=>add_int q
theorem zM:tN X (ox .Sub) (Tq λi j=>.int (i-j)):=Xm λ_ _ _ _ _ _ _ q=>sub_int q
theorem iN:tN X (ox .Mult) (rI Q9 λi j=>.int (i*j)):=opI λ_ _ _ _ _ _ _ hc q=>mul_int q hc.ok
theorem lE:tN X (ox .FloorDiv) (rI Z0 λi j=>.int (i / j)):=opI λi j _ _ _ _ _ hc q=>by
 have h1:(0:Int)<j:=hc.1;have h2:j<1073741824:=hc.2;exact floordiv_int (by omega) (by rw[Int.fdiv_eq_ediv_of_nonneg i (by omega)];exact q) (.inl (PyProof.noPylong_small (by omega)))
theorem dG:tN X (ox .Mod) (rI (λ_ j=>0<j) λi j=>.int (i % j)):=opI λi j _ _ _ _ _ hc q=>by
 have h1:(0:Int)<j:=hc;exact mod_int' (by omega) (by rw[Int.fmod_eq_emod_of_nonneg i (by omega)];exact q)
theorem unI{f:ae->U2 ae}{g:Int->Int}
  (rule:∀(i:Int)(t:YL)(s:aq)(Q:ae->aq->Prop)(E:ae->aq->Prop),Q (.int (g i) s.toks) { s with toks:=s.toks+1 }->wpAny (br X.prog X.w) X.A (f (.int i t)) Q E s) :
  UnR X f (rU λi=>.int (g i)):=by
 intro pins s J H x v Q I rx h;obtain⟨i,rfl,q⟩:=h;obtain⟨t,rfl⟩:=rx;exact rule i t s _ _ ⟨.int (g i),H,I.tok _,⟨_,Z⟩,q⟩
theorem AG:UnR X (unaryOp .USub) (rU λi=>.int (-i)):=unI λ_ _ _ _ _ q=>neg_int q
end
def XR:V->V->Bool
 |.fC,.fC=>true | .fC,.int _=>true | .int _,.fC=>true | .fC,.bl _=>true | .bl _,.fC=>true | .fC,.str _=>true | .str _,.fC=>true
 |.int _,.int _=>true | .bl _,.bl _=>true | .str _,.str _=>true | .D7 _,.D7 _=>true
 |.int _,.str _=>true | .str _,.int _=>true | .bl _,.str _=>true | .str _,.bl _=>true
 |_,_=>false
def rEq:R2:=λx y H Q=>XR x y=true/\Q (.bl (decide (x=y))) H
def rNe:R2:=λx y H Q=>XR x y=true/\Q (.bl (!decide (x=y))) H
theorem FP{i j:Int}:decide (V.int i=V.int j)=(i == j):=by
 rw[em];simp
theorem Kg{i j:Bool}:decide (V.bl i=V.bl j)=(i == j):=by
 rw[em];simp
theorem uF{i j:aE}:decide (V.str i=V.str j)=(i == j):=by
 rw[em];simp
theorem FO{i j:Array UInt8}:decide (V.D7 i=V.D7 j)=(i.toList == j.toList):=by
 rw[em];cases i;cases j;simp
section
variable {X:Cx}{a b c:cF}{ta tb tc:TE}{pos:jd}
theorem dQ{pins:List (ai × fY)}{J:St}{H:Hp}{s:aq}{Q:VK}{k k':Bool}(I:Inv X pins J H s)(q:Q (.bl k) H)(e:k=k'):EP X pins J Q (.bool k') s:=by
 subst e;exact⟨.bl k,H,I,Z,q⟩
theorem lR:tN X (fI .Eq) rEq:=by
 intro pins s J H x y v u Q I rx ry h;obtain⟨hs,q⟩:=h;cases x with
 |fC =>
  cases rx;cases y with
  |fC=>cases ry;exact PySem.EqNone.eq_none_none (dQ I q (by simp))
  |bl j=>cases ry;exact PySem.EqNone.eq_none_bool (dQ I q (by simp))
  |int j=>obtain⟨t',rfl⟩:=ry;exact PySem.EqNone.eq_none_int (dQ I q (by simp))
  |str j=>obtain⟨t',rfl⟩:=ry;exact PySem.EqNone.eq_none_str (dQ I q (by simp))
  |_=>exact absurd (show false=true from hs) bc
 |bl i =>
  cases rx;cases y with
  |fC=>cases ry;exact PySem.EqNone.eq_bool_none (dQ I q (by simp))
  |bl j=>cases ry;exact eq_bool (dQ I q Kg)
  |str j=>obtain⟨t',rfl⟩:=ry;exact aag (dQ I q (by simp))
  |_=>exact absurd (show false=true from hs) bc
 |int i =>
  obtain⟨t,rfl⟩:=rx;cases y with
  |fC=>cases ry;exact PySem.EqNone.eq_int_none (dQ I q (by simp))
  |int j=>obtain⟨t',rfl⟩:=ry;exact eq_int (dQ I q FP)
  |str j=>obtain⟨t',rfl⟩:=ry;exact aah (dQ I q (by simp))
  |_=>exact absurd (show false=true from hs) bc
 |str i =>
  obtain⟨t,rfl⟩:=rx;cases y with
  |fC=>cases ry;exact PySem.EqNone.eq_str_none (dQ I q (by simp))
  |bl j=>cases ry;exact aai (dQ I q (by simp))
  |int j=>obtain⟨t',rfl⟩:=ry;exact aaj (dQ I q (by simp))
  |str j=>obtain⟨t',rfl⟩:=ry;exact eq_str (dQ I q uF)
  |_=>exact absurd (show false=true from hs) bc
 |D7 i =>
  obtain⟨t,rfl⟩:=rx;cases y with
  |D7 j=>obtain⟨t',rfl⟩:=ry;exact PySem.W.eq_bytes (dQ I q FO)
  |_=>exact absurd (show false=true from hs) bc
 |_=>cases y <;> exact absurd (show false=true from hs) bc
theorem o5:tN X (fI .NotEq) rNe:=by
 intro pins s J H x y v u Q I rx ry h;obtain⟨hs,q⟩:=h;cases x with
 |fC =>
  cases rx;cases y with
  |fC=>cases ry;exact PySem.EqNone.ne_none_none (dQ I q (by simp))
  |bl j=>cases ry;exact PySem.EqNone.ne_none_bool (dQ I q (by simp))
  |int j=>obtain⟨t',rfl⟩:=ry;exact PySem.EqNone.ne_none_int (dQ I q (by simp))
  |str j=>obtain⟨t',rfl⟩:=ry;exact PySem.EqNone.ne_none_str (dQ I q (by simp))
  |_=>exact absurd (show false=true from hs) bc
 |bl i =>
  cases rx;cases y with
  |fC=>cases ry;exact PySem.EqNone.ne_bool_none (dQ I q (by simp))
  |bl j=>cases ry;exact ne_bool (dQ I q (congrArg not Kg))
  |str j=>obtain⟨t',rfl⟩:=ry;exact aak (dQ I q (by simp))
  |_=>exact absurd (show false=true from hs) bc
 |int i =>
  obtain⟨t,rfl⟩:=rx;cases y with
  |fC=>cases ry;exact PySem.EqNone.ne_int_none (dQ I q (by simp))
  |int j=>obtain⟨t',rfl⟩:=ry;exact ne_int (dQ I q (congrArg not FP))
  |str j=>obtain⟨t',rfl⟩:=ry;exact aal (dQ I q (by simp))
  |_=>exact absurd (show false=true from hs) bc
 |str i =>
  obtain⟨t,rfl⟩:=rx;cases y with
  |fC=>cases ry;exact PySem.EqNone.ne_str_none (dQ I q (by simp))
  |bl j=>cases ry;exact aam (dQ I q (by simp))
  |int j=>obtain⟨t',rfl⟩:=ry;exact aan (dQ I q (by simp))
  |str j=>obtain⟨t',rfl⟩:=ry;exact ne_str (dQ I q (congrArg not uF))
  |_=>exact absurd (show false=true from hs) bc
 |D7 i =>
  obtain⟨t,rfl⟩:=rx;cases y with
  |D7 j=>obtain⟨t',rfl⟩:=ry;exact PySem.W.ne_bytes (dQ I q (congrArg not FO))
  |_=>exact absurd (show false=true from hs) bc
 |_=>cases y <;> exact absurd (show false=true from hs) bc
theorem Cs:tN X (fI .Lt) (Tq λi j=>.bl (decide (i<j))):=Te λ_ _ _ _ _ _ _ q=>lt_int q
theorem Lp:tN X (fI .LtE) (Tq λi j=>.bl (decide (i<=j))):=Te λ_ _ _ _ _ _ _ q=>le_int q
theorem yg:tN X (fI .Gt) (Tq λi j=>.bl (decide (j<i))):=Te λ_ _ _ _ _ _ _ q=>gt_int q
theorem yh:tN X (fI .In) (λx y H Q=>∃ i j,x=.str i/\y=.str j/\Q (.bl (!(bW j i 0 j.length 1).isEmpty)) H):=by
 intro pins s J H x y v u Q I rx ry h;obtain⟨i,j,rfl,rfl,q⟩:=h;obtain⟨t,rfl⟩:=rx;obtain⟨t',rfl⟩:=ry;exact in_str (dQ I q Z)
theorem de(b:cF){op:Ra}(h:op≠.In:=by decide)(h2:op≠.NotIn:=by decide):kg op b=false:=by
 have e1:(op == CmpOp.In)=false:=by cases op <;> first | rfl | exact absurd Z h
 have e2:(op == YA)=false:=by cases op <;> first | rfl | exact absurd Z h2
 cases b <;> simp[kg,e1,e2]
theorem kI{op:Ra}{r:R2}(ho:tN X (fI op) r)(ha:PE X a ta)(hb:PE X b tb)(hm:kg op b=false):PE X (.Compare a [op] [b] pos) (ZO r ta tb):=by
 intro pins s J H Q I h;exact wpAny_Compare1 (Rw ha hb I h λv u s2 x y H2 I2 rx ry q=>ho pins s2 J H2 x y v u Q I2 rx ry q) hm
def Yg(t:TE):TT:=λ J H Q=>t J H λx H'=>∃ k,x=.bl k/\Q k H'
theorem cA{op:Ra}{r:R2}(ho:tN X (fI op) r)(ha:PE X a ta)(hb:PE X b tb)(hm:kg op b=false):PT X (.Compare a [op] [b] pos) (Yg (ZO r ta tb)):=by
 intro pins s J H Q I h;refine Q0 (eC (ha pins s J H _ I h) λv s1 ⟨x,H1,I1,r1,q1⟩=>eC (hb pins s1 J H1 _ I1 q1) λu s2 ⟨y,H2,I2,r2,q2⟩ =>
  eC (ho pins s2 J H2 x y v u _ I2 r1 r2 q2) λc s3 ⟨z,H3,I3,r3,k,e,q3⟩=>?_) hm
 subst e;cases r3;exact eI ⟨H3,I3,q3⟩
def TL(r r':R2)(ta tb tc:TE):TE:=λ J H Q=>ta J H λx H1=>tb J H1 λy H2=>r x y H2 λz H3=>∃ k,z=.bl k /\
 (if k=true then tc J H3 λw' H4=>r' y w' H4 Q else Q (.bl false) H3)
theorem Cu{op op':Ra}{r r':R2}(ho:tN X (fI op) r)(KJ:tN X (fI op') r')(ha:PE X a ta)(hb:PE X b tb)(hc:PE X c tc)
  (hm:lastMarks [op,op'] [b,c]=false:=by with_unfolding_all rfl):PE X (.Compare a [op,op'] [b,c] pos) (TL r r' ta tb tc):=by
 intro pins s J H Q I h;refine Compare_chain (eC (ha pins s J H _ I h) λv s1 ⟨x,H1,I1,r1,q1⟩=>chain_link (eC (hb pins s1 J H1 _ I1 q1) λu s2 ⟨y,H2,I2,r2,q2⟩ =>
  eC (ho pins s2 J H2 x y v u _ I2 r1 r2 q2) λd s3 ⟨z,H3,I3,r3,k,e,q3⟩=>?_)) hm
 subst e;cases r3;refine eI ?_;cases k with
 |false=>exact ite_ff ⟨.bl false,H3,I3,Z,q3⟩
 |true=>exact ite_tt (chain_last (eC (hc pins s3 J H3 _ I3 q3) λw' s4 ⟨z',H4,I4,r4,q4⟩=>KJ pins s4 J H4 y z' u w' Q I4 r2 r4 q4))
def U4(K:af)(x:V)(H:Hp)(k:Bool):Prop :=
 match x with
 |.fC=>k=false
 |.bl b=>k=b
 |.int i=>k=(i != 0)
 |.str y=>y.length<=az/\k=((y.length:Int) != 0)
 |.D7 y=>y.size<=az/\k=((y.size:Int) != 0)
 |.ref p=>(∃ xs,bI K H p xs/\k=!xs.isEmpty)\/(∃ xs,gA K H p xs/\k=!xs.isEmpty)\/∃ bM,H p=O (.dK bM)/\k=!bM.isEmpty
 |_=>False
theorem Ev{κ:Type}{bM:List (κ × V)}{vs:List (κ × ae)}(r:KV bM vs):(!vs.isEmpty)=!bM.isEmpty:=by
 cases r <;> rfl
theorem vA{xs:List V}{ci:List ae}(r:Vals xs ci):(!ci.toArray.isEmpty)=!xs.isEmpty:=by
 cases r <;> simp
theorem mS:(az:Nat)<2 ^ 63:=by rw[DE];decide
theorem T2:aau X (λx H Q=>∃ k,U4 X.K x H k/\Q k H):=by
 intro pins s J H x v Q I rx h;obtain⟨k,e,q⟩:=h;have hl:=mS;have hs:az=16777216:=DE;cases x with
 |fC =>
  cases rx;have e':k=false:=e;subst e';exact truthy_none ⟨H,I,q⟩
 |bl b =>
  cases rx;have e':k=b:=e;subst e';exact eI ⟨H,I,q⟩
 |int i =>
  obtain⟨t,rfl⟩:=rx;have e':k=(i != 0):=e;subst e';exact PySem.P.truthy_int ⟨H,I,q⟩
 |str y =>
  obtain⟨t,rfl⟩:=rx;obtain⟨hy,e'⟩:y.length<=az/\k=((y.length:Int) != 0):=e;subst e';exact PySem.P.truthy_str (by omega) ⟨H,I.tok _,q⟩
 |D7 y =>
  obtain⟨t,rfl⟩:=rx;obtain⟨hy,e'⟩:y.size<=az/\k=((y.size:Int) != 0):=e;subst e';exact PySem.W.truthy_bytes (by omega) ⟨H,I.tok _,q⟩
 |ref p =>
  cases rx;have e':(∃ xs,bI X.K H p xs/\k=!xs.isEmpty)\/(∃ xs,gA X.K H p xs/\k=!xs.isEmpty)\/∃ bM,H p=O (.dK bM)/\k=!bM.isEmpty:=e;rcases e' with ⟨xs,hx,e'⟩ | ⟨xs,hx,e'⟩ | ⟨bM,hx,e'⟩
  .subst e';obtain⟨ci,r,pl,hz⟩:=I.list hx;have hlen:=r.length;exact wpAny_truthy_list pl.isList (by simp only [aZ];omega) ⟨H,I.tok _,by rw[vA r];exact q⟩
  .subst e';obtain⟨ci,r,pl,hz⟩:=I.tuple hx;have hlen:=r.length;exact truthy_tuple pl (by simp only [aZ];omega) ⟨H,I.tok _,by rw[vA r];exact q⟩
  .subst e';obtain⟨hz,hS,vs,r,m⟩:bM.length<=az/\(p == d4)=false/\∃ vs,KV bM vs/\s.heap.DictOf (cT X.prog X.w) p vs:=I.c8 p _ hx;have hlen:bM.length=vs.length:=jk r;exact wpAny_truthy_dict hS m (by omega) ⟨H,I.tok _,by rw[Ev r];exact q⟩
 |_=>exact(show False from e).elim
theorem rK(ha:PE X a ta)(he:∀ whole,Og a X.env whole=(do let v ← whole;Az a.pos;lD [v] (truthy v))) :
  PT X a (λ J H Q=>ta J H λx H'=>∃ k,U4 X.K x H' k/\Q k H'):=by
 intro pins s J H Q I h;refine isTrue_plain (eC (ha pins s J H _ I h) λv s1 cX=>?_) (he _);obtain⟨x,H1,I1,r1,q1⟩:=cX;exact T2 pins s1 J H1 x v Q I1 r1 q1
theorem cy:tN X (ox .Add) (λx y H Q=>∃ i j,x=.str i/\y=.str j/\i.length+j.length<=az/\Q (.str (i++j)) H):=by
 intro pins s J H x y v u Q I rx ry h;obtain⟨i,j,rfl,rfl,hz,q⟩:=h;obtain⟨t,rfl⟩:=rx;obtain⟨t',rfl⟩:=ry;exact add_str (λt' tk=>⟨.str (i++j),H,I.tok _,⟨_,Z⟩,q⟩) hz
theorem a0j{x:V}{us:List ae}(r:Vals [x] us):∃ u,us=[u]/\RelV x u:=by
 cases r with
 |cons r1 r2=>cases r2;exact⟨_,Z,r1⟩
theorem a0P{x y:V}{us:List ae}(r:Vals [x,y] us):∃ u w',us=[u,w']/\RelV x u/\RelV y w':=by
 cases r with
 |cons r1 r2 =>
  cases r2 with
  |cons r3 r4=>cases r4;exact⟨_,_,Z,r1,r3⟩
theorem Hm:jy X (.type "int") (λxs H Q=>(∃ i,xs=[.int i]/\Q (.int i) H)\/∃ k,xs=[.bl k]/\Q (.int (if k then 1 else 0)) H):=by
 intro pins s J H xs us Q I r h;rcases h with ⟨i,rfl,q⟩ | ⟨k,rfl,q⟩
 .obtain⟨u,rfl,t,rfl⟩:=a0j r;exact call_int_int ⟨.int i,H,I,⟨_,Z⟩,q⟩
 .obtain⟨u,rfl,r1⟩:=a0j r;cases r1;exact call_int_bool ⟨.int (if k then 1 else 0),H,I.tok _,⟨_,Z⟩,q⟩
theorem zh:jy X (.type "str") (λxs H Q=>∃ i,xs=[.int i]/\i.natAbs.log2<1920/\Q (.str (toString i)) H):=by
 intro pins s J H xs us Q I r h;obtain⟨i,rfl,hz,q⟩:=h;obtain⟨u,rfl,t,rfl⟩:=a0j r;exact PySem.P.str_of_int hz ⟨.str _,H,I.tok _,⟨_,Z⟩,q⟩
end
structure D2(h:cR)(x dx C:ai)(mA:aE->Option ae):Prop where
 obj:h.get? x=O (fV C dx)
 ns:h.Ns1 dx mA
 ne:dx≠x
theorem IE{h:cR}{dx:ai}{mA:aE->Option ae}(n:h.Ns1 dx mA):∃ od,h.get? dx=O od/\∀ name,pX name od=O (mA name):=by
 obtain⟨o,es,ep,ho,hd,hk,_,hm⟩:=n;refine⟨o,ho,λname=>?_⟩;have e:=hm name;unfold nsFind findBy at e;rw[← Array.find?_toList] at e;unfold pX;rw[hd];dsimp only;split
 .rename_i y q;rw[q] at e;exact congrArg O e
 .rename_i q;rw[q] at e;have a:es.toList.any (·.refKey)=false:=by
   rw[List.any_eq_false];intro y hy;obtain⟨z,t,Ig⟩:=hk y (Array.mem_toList_iff.mp hy);simp[DictEntry.refKey,Ig]
  have a':¬ es.toList.any (·.refKey)=true:=by rw[a];exact bc
  rw[if_neg a'];exact congrArg O e
theorem D2.look{h:cR}{x dx C:ai}{mA:aE->Option ae}(I:D2 h x dx C mA):∃ od,PySem.W.InstAt h x (fV C dx) C (O od)/\∀ name,pX name od=O (mA name) :=
 let ⟨od,ho,hl⟩:=IE I.ns
 ⟨od,⟨I.obj,Z,Z,ho⟩,hl⟩
section
variable {prog:aS}{w:bv}{A:cK}{E:ae->aq->Prop}{s:aq}{K:af}{x dx C f:ai}{mA:aE->Option ae}{name:aE}{v:ae}
theorem a0M{expr:Bool}{Q:ae->aq->Prop}(X:K.In s.heap)(I:D2 s.heap x dx C mA)(hg:nZ K C name=true)(hh:sO K C=true)
  (ha:eT K (.ref C) name=O Y) (hv:mA name=O v) (AW:J1 v=true) (h:Q v { s with toks:=s.toks+1 }) :
  wpAny (br prog w) A (getAttr (.ref x) name expr) Q E s:=by
 obtain⟨od,E2,hl⟩:=I.look;exact PySem.W.get_value X E2 (qy hg).1 (PySem.W.findObj_own hh ha Z (by rw[hl,hv])) AW h
theorem Kp{pl:U2 Bool}{Q:ae × List ae->aq->Prop}(X:K.In s.heap)(I:D2 s.heap x dx C mA)(hg:nZ K C name=true)
  (hf:eT K (.ref C) name=O (O (.ref f))) (ht:BB K (.ref f)=true) (hv:mA name=Y) (h:Q (.ref f,[.ref x]) s) :
  wpAny (br prog w) A (uG (.ref x) name pl) Q E s:=by
 obtain⟨od,E2,hl⟩:=I.look;exact PySem.W.method_fn X E2 (qy hg).1 (qy hg).2 hf (beq_iff_eq.mp ht) (by show(pX name od).map (·.isSome)=O false;rw[hl,hv];rfl) h
theorem Pt{ns:List aE}{Q:Unit->aq->Prop}(X:K.In s.heap)(I:D2 s.heap x dx C mA)
  (hs:eT K (.ref C) "__setattr__" = O (O (.builtin "object.__setattr__"))) (hp:Jz K C=true) (ht:vf K C name=O Y) (hh:sO K C=true)
  (hw:D3 mA ns) (hsz:ns.length<=az)
  (h:∀ h',D2 h' x dx C (λy=>if y=name then O v else mA y)->gg dx s.heap h'->Q () { s with heap:=h',toks:=s.toks+2 }) :
  wpAny (br prog w) A (setAttr (.ref x) name v) Q E s:=by
 obtain⟨od,E2,hl⟩:=I.look;refine PySem.W.set_plain X E2 hs (PySem.W.osa_open (s:={ s with toks:=s.toks+1 }) (r:=Y) X E2 hp ht λb=>?_);obtain⟨cd,hc,Vz⟩:=PySem.W.any_some hh;have hx:s.heap.get? x=O ⟨.ref C,O dx,.plain,#[]⟩:=I.obj;refine ah (aF (ah (ah (wpAny_loadPart hx (ah (aap (s:={ s with toks:=s.toks+1 }) (PySem.W.looks_clsIn X hc) ?_))))));rw[Vz];refine aF (a:=O dx) (ah (aF (ah ?_)));refine wpAny_nsSet1 (s:={ s with toks:=s.toks+1 }) I.ns λh' Eo Uv=>?_;obtain⟨oD,esD,epD,hoD,Ui,hcD⟩:=Eo.count (PySem.Within.cons name v hw);refine ah (wpAny_lookBehind hoD (by rw[Ui];exact pastItsLine_dict (bF hcD (by rw[cz];omega))) ?_);exact aF (h _ ⟨(Uv.2 _ (cg I.ne)).trans I.obj,Eo,I.ne⟩ Uv)
theorem K0{R:BC->aq->Prop}{vs:List ae}{kw:List (aE × ae)}(X:K.In s.heap)(hm:MV K C=true)
  (hi:eT K (.ref C) "__init__" = O (O (.ref f))) (hf:PySem.W.typeIn K (.ref f)=O (.type "function"))
  (h:codeAny (br prog w) (A.under (.builtin "type.__call__" ⟨.ref C::vs,kw⟩)) (.call (.ref f) ⟨.ref (s.heap.objs.size+1)::vs,kw⟩) (PySem.W.InitBack (s.heap.objs.size+1) R)
   { s with heap:=(s.heap.push d3).push (fV C s.heap.objs.size) }) :
  codeAny (br prog w) A (.call (.ref C) ⟨vs,kw⟩) R s:=by
 obtain⟨hh,g,d,t,os⟩:=s;exact PySem.W.make_core (PySem.W.makes_of X hm) (PySem.W.looks_findIn X hi) (λself=>PySem.W.bind_fn X self hf) (.inl Z) h
end
def cE(f:aE)(v:V):List (aE × V)->List (aE × V)
 |[]=>[(f,v)]
 |(g,x)::r=>if g=f then (g,v)::r else (g,x)::cE f v r
theorem aI(f g:aE)(v:V):∀ fs:List (aE × V),(cE f v fs).lookup g=if g=f then O v else fs.lookup g
 |[]=>by
  show fK g [(f,v)]=_
  by_cases h:g=f
  .have hb:(g == f)=true:=beq_iff_eq.mpr h;simp only [fK,hb,if_pos h]
  .have hb:(g == f)=false:=beq_eq_false_iff_ne.mpr h;simp only [fK,hb,if_neg h]
 |(k, x)::r=>by
  have ih:=aI f g v r;rw[show cE f v ((k,x)::r)=(if k=f then (k,v)::r else (k,x)::cE f v r) from rfl]
  by_cases hk:k=f
  .rw[if_pos hk]
   by_cases h:g=k
   .have hb:(g == k)=true:=beq_iff_eq.mpr h;simp only [fK,hb,if_pos (h.trans hk)]
   .have hb:(g == k)=false:=beq_eq_false_iff_ne.mpr h;simp only [fK,hb,if_neg (λe:g=f=>h (e.trans hk.symm))]
  .rw[if_neg hk]
   by_cases h:g=k
   .have hb:(g == k)=true:=beq_iff_eq.mpr h;simp only [fK,hb,if_neg (λe:g=f=>hk (h.symm.trans e))]
   .have hb:(g == k)=false:=beq_eq_false_iff_ne.mpr h;simp only [fK,hb];exact ih
theorem sY(f:aE)(v:V):∀ fs:List (aE × V),f∈(cE f v fs).map (·.1)/\∀ g,g∈fs.map (·.1)->g∈(cE f v fs).map (·.1)
 |[]=>⟨by simp[cE],λg h=>by simp at h⟩
 |(k, x)::r=>by
  obtain⟨i1,i2⟩:=sY f v r;rw[show cE f v ((k,x)::r)=(if k=f then (k,v)::r else (k,x)::cE f v r) from rfl]
  by_cases hk:k=f
  .rw[if_pos hk];subst hk;exact⟨by simp,λg h=>by simpa using h⟩
  .rw[if_neg hk];refine⟨?_,λg h=>?_⟩
   .rw[bY];exact aW _ i1
   .rw[bY] at h ⊢;rcases aG.mp h with e | e
    .exact aG.mpr (.inl e)
    .exact aW _ (i2 g e)
theorem mE(f:aE)(v:V):∀ fs:List (aE × V),(cE f v fs).length<=fs.length+1
 |[]=>by simp[cE]
 |(k,x)::r=>by
  have ih:=mE f v r;rw[show cE f v ((k,x)::r)=(if k=f then (k,v)::r else (k,x)::cE f v r) from rfl]
  by_cases hk:k=f
  .rw[if_pos hk,cz,cz];omega
  .rw[if_neg hk,cz,cz];omega
theorem ml.some_of{v:V}{o:Option ae}(r:ml (O v) o):∃ u,o=O u/\RelV v u:=by
 cases o with
 |none=>exact(show False from r).elim
 |some u=>exact⟨u,Z,r⟩
theorem ml.none_of{o:Option ae}(r:ml Y o):o=Y:=by
 cases o with
 |none=>rfl
 |some u=>exact(show False from r).elim
theorem HU{v:V}{u:ae}(r:RelV v u):J1 u=true:=by
 cases v with
 |fC=>cases (show u=g9 from r);rfl
 |bl b=>cases (show u=lf b from r);rfl
 |int i=>obtain⟨t,e⟩:=(show ∃ t,u=e5 i t from r);cases e;rfl
 |str x=>obtain⟨t,e⟩:=(show ∃ t,u=lg x t from r);cases e;rfl
 |D7 b=>obtain⟨t,e⟩:=(show ∃ t,u=YN b t from r);cases e;rfl
 |Qf b=>obtain⟨t,e⟩:=(show ∃ t,u=G6 b t from r);cases e;rfl
 |ref a=>cases (show u=b8 a from r);rfl
 |ty n=>cases (show u=jH n from r);rfl
section
variable {P:aS}{w:bv}{H H':Hp}{h h':cR}{a C dx:ai}{fs fs':List (aE × V)}
theorem uJ(c8:pU P w H h)(e:H a=O (.ins C dx fs)):∃ mA,D2 h a dx C mA/\(∀ f,ml (fs.lookup f) (mA f))/\D3 mA (fs.map (·.1))/\fs.length<=1000/\H dx=O (.own a):=by
 obtain⟨d,z,ne,ob,mA,n,r,q⟩:=(show gc P w H h a (.ins C dx fs) from c8 a _ e)
 exact⟨mA,⟨ob,n,ne⟩,r,q,z,d⟩
end
structure GW(K:af)(C:ai):Prop where
 pg:nZ K C FH=true
 hd:sO K C=true
 po:Jz K C=true
 sa:eT K (.ref C) "__setattr__" = O (O (.builtin "object.__setattr__"))
theorem GW.get{K:af}{C:ai}(c:GW K C)(f:aE):nZ K C f=true:=c.pg
def qx(K:af)(C:ai)(f:aE):Prop:=eT K (.ref C) f=O Y
theorem qx.Yi{K:af}{C:ai}{f:aE}(n:qx K C f):vf K C f=O Y:=by
 unfold vf;rw[show eT K (.ref C) f=O Y from n];rfl
structure Meth(K:af)(C:ai)(m:aE)(f:ai):Prop where
 at_:eT K (.ref C) m=O (O (.ref f))
 fn:BB K (.ref f)=true
 kp:ix K (.ref f)=true
section
variable {X:Cx}{pins:List (ai × fY)}{J:St}{H:Hp}{s:aq}{a C dx:ai}{fs:List (aE × V)}{f:aE}{v:V}{A:cK}{E:ae->aq->Prop}
theorem Eh{b:Bool}{Q:ae->aq->Prop}(I:Inv X pins J H s)(e:H a=O (.ins C dx fs))(c:GW X.K C)(n:qx X.K C f)(l:fs.lookup f=O v)
  (h:∀ u s',Inv X pins J H s'->RelV v u->Q u s'):wpAny (br X.prog X.w) A (getAttr (.ref a) f b) Q E s:=by
 obtain⟨mA,j',r,_,_,_⟩:=uJ I.c8 e;obtain⟨u,hu,ru⟩:=ml.some_of (v:=v) (o:=mA f) (by rw[← l];exact r f);exact a0M I.qm j' (c.get f) c.hd n hu (HU ru) (h u _ (I.tok _) ru)
theorem vv{m:aE}{g:ai}{pl:U2 Bool}{Q:ae × List ae->aq->Prop}(I:Inv X pins J H s)(e:H a=O (.ins C dx fs))(c:GW X.K C)(k:Meth X.K C m g)(l:fs.lookup m=Y)
  (h:Q (.ref g,[.ref a]) s):wpAny (br X.prog X.w) A (uG (.ref a) m pl) Q E s:=by
 obtain⟨mA,j',r,_,_,_⟩:=uJ I.c8 e;have hn:mA m=Y:=ml.none_of (by rw[← l];exact r m);exact Kp I.qm j' (c.get m) k.at_ k.fn hn h
theorem Ff{y:V}{u:ae}{Q:Unit->aq->Prop}(I:Inv X pins J H s)(e:H a=O (.ins C dx fs))(c:GW X.K C)(n:qx X.K C f)(hl:fs.length<1000)(ry:RelV y u)
  (h:∀ s',Inv X pins J (upd H a (.ins C dx (cE f y fs))) s'->Q () s'):wpAny (br X.prog X.w) A (setAttr (.ref a) f u) Q E s:=by
 obtain⟨mA,j',r,wi,_,ho⟩:=uJ I.c8 e;have hz:(fs.map (·.1)).length<=az:=by rw[ab,DE];omega
 refine Pt I.qm j' c.sa c.po n.Yi c.hd wi hz λh' O' sb=>h _ ?_;have hd:∃ o,h'.get? dx=O o:=let ⟨o,_,_,e',_⟩:=O'.ns;⟨o,e'⟩;refine I.write (x:=a) (e:=dx) (by rw[e];exact gy) (.inr ho) (λb q hb z=>(sb.2 b hb).trans z) hd ?_;refine⟨by rw[bh j'.ne];exact ho,?_,j'.ne,O'.obj,_,O'.ns,λg=>?_,λg hg=>?_⟩
 .have:=mE f y fs;omega
 .show ml ((cE f y fs).lookup g) (if g=f then O u else mA g);rw[aI]
  by_cases q:g=f
  .rw[if_pos q,if_pos q];exact ry
  .rw[if_neg q,if_neg q];exact r g
 .by_cases q:g=f
  .rw[q];exact(sY f y fs).1
  .refine(sY f y fs).2 g (wi g λz=>hg ?_);show(if g=f then O u else mA g)=Y;rw[if_neg q];exact z
theorem Inv.made(I:Inv X pins J H s):Inv X pins J (upd (upd H s.heap.objs.size (.own (s.heap.objs.size+1))) (s.heap.objs.size+1) (.ins C s.heap.objs.size []))
  { s with heap:=(s.heap.push d3).push (fV C s.heap.objs.size) }:=by
 have e1:(s.heap.push d3).get? s.heap.objs.size=O d3:=aO s.heap Z;have e2:((s.heap.push d3).push (fV C s.heap.objs.size)).get? (s.heap.objs.size+1)=O (fV C s.heap.objs.size):=by
  have:=aO (s.heap.push d3) (o:=fV C s.heap.objs.size) Z;rwa [kC] at this
 have e3:(s.heap.push d3).Ns s.heap.objs.size (λ_=>Y):=⟨d3,#[],_,e1,Z,(λe he=>absurd he (by simp)),λ_=>rfl⟩
 have I1:=I.laid (a:=s.heap.objs.size) (o:=.own (s.heap.objs.size+1)) (h':=s.heap.push d3) (t':=s.toks) (λb u q=>ar _ q) (ay _) ⟨_,e1⟩;refine I1.laid (a:=s.heap.objs.size+1) (o:=.ins C s.heap.objs.size []) (t':=s.toks) (λb u q=>ar _ q) (G2 (kC _ _)) ?_;have ne:s.heap.objs.size≠s.heap.objs.size+1:=aP (eS _);refine⟨by rw[bh ne,ao],bq _,ne,e2,λ_=>Y,(Heap.Ns1.of_empty e3).at λo q=>ar _ q,λ_=>gy,λy hy=>absurd Z hy⟩
theorem Ny{prog:aS}{w:bv}{env:DX}{e:cF}{f:aE}{pos:jd}{s:aq}{Q:ae->aq->Prop}(hb:kf e f env (dP e env)=dP e env)
  (h:wpAny (br prog w) A (dP e env) (λo s₁=>wpAny (br prog w) A (getAttr o f true) Q E s₁) E s):wpAny (br prog w) A (dP (.Attribute e f pos) env) Q E s :=
 Attribute_any_ h (by rw[arm_eval_Attribute,hb])
end
def X6(K:af)(ta:TE)(f:aE):TE:=λ J H Q=>ta J H λx H1=>∃ a C dx fs v,x=.ref a/\H1 a=O (.ins C dx fs)/\GW K C/\qx K C f/\fs.lookup f=O v/\Q v H1
def XN(K:af)(ta tv:TE)(f:aE):TS:=λD J H=>tv J H λy H1=>ta J H1 λx H2=>∃ a C dx fs,x=.ref a/\H2 a=O (.ins C dx fs)/\GW K C/\qx K C f/\fs.length<1000 /\
 D.nx J (upd H2 a (.ins C dx (cE f y fs)))
section
variable {X:Cx}{o e value:cF}{f:aE}{pos pos' AE:jd}{ta tv:TE}
theorem Ti(he:PE X e ta)(hb:kf e f X.env (dP e X.env)=dP e X.env):PE X (.Attribute e f pos) (X6 X.K ta f):=by
 intro pins s J H Q I h;refine Ny hb (eC (he pins s J H _ I h) λu s1 cX=>?_);obtain⟨x,H1,I1,rx,a,C,dx,fs,v,ex,ea,c,n,l,q⟩:=cX;subst ex;obtain rfl:u=b8 a:=rx;exact Eh I1 ea c n l λu' s2 I2 ru=>⟨v,H1,I2,ru,q⟩
theorem Tp(ha:PE X o ta)(hv:PE X value tv)(hs:qO value (O (.Attribute o f pos')) pos.line X.env=pure false):PS X (.Assign [.Attribute o f pos'] value pos) (XN X.K ta tv f):=by
 intro pins s J H D I h;refine plainObj_wpAny_Assign_Attribute (eC (hv pins s J H _ I h) λu s1 cX=>?_) hs;obtain⟨y,H1,I1,ry,q⟩:=cX;refine eC (ha pins s1 J H1 _ I1 q) λov s2 uI=>?_;obtain⟨x,H2,I2,rx,a,C,dx,fs,ex,ea,c,n,l,q2⟩:=uI;subst ex;obtain rfl:ov=b8 a:=rx;exact Ff I2 ea c n l ry λs3 I3=>⟨J,_,I3,q2⟩
end
section
variable {X:Cx}{pins:List (ai × fY)}{J:St}{H:Hp}{s:aq}{A:cK}{E:ae->aq->Prop}{Q:ae->aq->Prop}{c:ae}{b:Bool}
inductive sQ(K:af)(H:Hp):V->ae->Prop where
 |fC:sQ K H .fC (.type "NoneType")
 |bl (x:Bool):sQ K H (.bl x) (.type "bool")
 |int (i:Int):sQ K H (.int i) (.type "int")
 |str (x:aE):sQ K H (.str x) (.type "str")
 |Qf (x:UInt64):sQ K H (.Qf x) (.type "float")
 |lst {a:ai} {xs:List V} (e:H a=O (.lst xs)):sQ K H (.ref a) (.type "list")
 |Du {a:ai} {o:fY} {xs:List V} (e:H a=O (.Du o (.lst xs))):sQ K H (.ref a) (.type "list")
 |tup {a:ai} {xs:List V} (e:H a=O (.tup xs)):sQ K H (.ref a) (.type "tuple")
 |dK {a:ai} {bM:List (Key × V)} (e:H a=O (.dK bM)):sQ K H (.ref a) (.type "dict")
 |dT {a:ai} {bM:List (List Key × V)} (e:H a=O (.dT bM)):sQ K H (.ref a) (.type "dict")
 |ins {a C dx:ai} {fs:List (aE × V)} (e:H a=O (.ins C dx fs)) (cl:GW K C) (ha:eT K (.ref C) "__class__" = O (O (.builtin "object.__class__")))
   (hn:PySem.W.specialIn K (.builtin "object.__class__") "__get__" = O (O (.builtin "getset_descriptor.__get__"))) (htk:PySem.W.takesIn K (.builtin "object.__class__")=O true)
   (hm:PySem.W.mroIn K C (.type "object")=O true):sQ K H (.ref a) (.ref C)
theorem Iz{x:V}{u t:ae}(I:Inv X pins J H s)(rx:RelV x u)(ty:sQ X.K H x t)(e:j6 X.K t c=O b)(h:∀ tk,Q (.bool b) { s with toks:=tk }) :
  wpAny (br X.prog X.w) A (BK (.builtin "isinstance") [u,c]) Q E s:=by
 cases ty with
 |fC=>cases (show u=g9 from rx);exact dN PySem.W.kitx_none I.qm gy e (λz=>nomatch z) h
 |bl y=>cases (show u=lf y from rx);exact dN PySem.W.kitx_bool I.qm gy e (λz=>nomatch z) h
 |int i=>obtain⟨t,q⟩:=(show ∃ t,u=e5 i t from rx);cases q;exact dN PySem.W.kitx_int I.qm gy e (λz=>nomatch z) h
 |str y=>obtain⟨t,q⟩:=(show ∃ t,u=lg y t from rx);cases q;exact dN PySem.W.kitx_str I.qm gy e (λz=>nomatch z) h
 |Qf y=>obtain⟨t,q⟩:=(show ∃ t,u=G6 y t from rx);cases q;exact dN PySem.W.kitx_float I.qm gy e (λz=>nomatch z) h
 |@lst a xs ea =>
  cases (show u=b8 a from rx);obtain⟨_,_,n,_,h1⟩:=(show gc X.prog X.w H s.heap a (.lst xs) from I.c8 a _ ea)
  exact dN Jx I.qm ⟨_,h1,Z⟩ e (λz=>nomatch z) h
 |@Du a ob xs ea =>
  cases (show u=b8 a from rx);obtain⟨_,_,_,n,_,h1⟩:=(show gc X.prog X.w H s.heap a (.Du ob (.lst xs)) from I.c8 a _ ea)
  exact dN Jx I.qm ⟨_,h1,Z⟩ e (λz=>nomatch z) h
 |@tup a xs ea =>
  cases (show u=b8 a from rx);obtain⟨_,_,_,p⟩:=(show gc X.prog X.w H s.heap a (.tup xs) from I.c8 a _ ea)
  obtain⟨o,h1,h2,_⟩:=p;exact dN PySem.W.kitx_tuple I.qm ⟨o,h1,h2⟩ e (λz=>nomatch z) h
 |@dK a bM ea =>
  cases (show u=b8 a from rx);obtain⟨_,_,vs,_,p⟩:=(show gc X.prog X.w H s.heap a (.dK bM) from I.c8 a _ ea)
  obtain⟨o,es,ep,h1,h2,_⟩:=p;exact dN Jw I.qm ⟨o,h1,h2.1⟩ e (λz=>nomatch z) h
 |@dT a bM ea =>
  cases (show u=b8 a from rx);obtain⟨_,_,xs,_,o,es,ep,h1,h2,_⟩:=(show gc X.prog X.w H s.heap a (.dT bM) from I.c8 a _ ea)
  exact dN Jw I.qm ⟨o,h1,h2.1⟩ e (λz=>nomatch z) h
 |@ins a C dx fs ea cl ha hn htk hm =>
  cases (show u=b8 a from rx);obtain⟨mA,j',_⟩:=uJ I.c8 ea;obtain⟨od,E2,_⟩:=j'.look;exact dN (PySem.W.kitx_own (cl.get _) cl.hd ha hn htk hm) I.qm E2 e (λz=>nomatch z) h
end
structure ig(k:Nat)(A:cK):Prop where
 hd:A.handled=Y
 dp:A.depth+3*k+5<recursionLimit
 un:A.units+16*k+200<zd
theorem ig.mono{j k:Nat}{A:cK}(r:ig k A)(h:j<=k):ig j A:=⟨r.hd,by have:=r.dp;omega,by have:=r.un;omega⟩
theorem ig.deeper{k:Nat}{A:cK}(r:ig (k+1) A)(env:DX):ig k (A.deeper env) :=
 ⟨r.hd,by have:=r.dp;show A.depth+1+3*k+5<_;omega,by have:=r.un;show A.units+3+16*k+200<_;omega⟩
theorem EC{A:cK}{C:ai}{us:List ae}{kw:List (aE × ae)}:(A.under (.builtin "type.__call__" ⟨.ref C::us,kw⟩)).depth=A.depth+1:=by
 first | rfl | simp[Dg,Code.weight,Code.isCreation,Code.isGuard,Code.isCaller,Z1,Ft,guardIds]
theorem ED{A:cK}{C:ai}{us:List ae}{kw:List (aE × ae)}:(A.under (.builtin "type.__call__" ⟨.ref C::us,kw⟩)).units=A.units+1:=by
 first | rfl | simp[Dg,Code.cUnits,Z1,Ft]
theorem ig.make{k:Nat}{A:cK}(r:ig (k+1) A)(C:ai)(us:List ae)(kw:List (aE × ae)):ig k (A.under (.builtin "type.__call__" ⟨.ref C::us,kw⟩)) :=
 ⟨r.hd,by have:=r.dp;rw[EC];omega,by have:=r.un;rw[ED];omega⟩
theorem ig.depth{k:Nat}{A:cK}(r:ig k A):A.depth<recursionLimit:=by have:=r.dp;omega
theorem ig.units{k:Nat}{A:cK}(r:ig k A):A.units+64<zd:=by have:=r.un;omega
def Mp:TA:=λ_ H Q=>Q [] H
def X3(ta:TE)(tr:TA):TA:=λ J H Q=>ta J H λx H1=>tr J H1 λxs H2=>Q (x::xs) H2
section
variable {X:Cx}{e:cF}{es:List cF}{te:TE}{t:TA}{pos:jd}
theorem am:PA X [] Mp:=λ_ _ _ _ H Q I h=>nM ⟨[],H,I,.nil,h⟩
theorem aa(ha:PE X e te)(hr:PA X es t)(hs:bD (e::es) X.env=(false,dP e X.env)::bD es X.env:=by rfl):PA X (e::es) (X3 te t):=by
 intro pos pins s J H Q I h;rw[hs];show wpAny _ _ (spliced ((false,dP e X.env)::gB pos (bD es X.env))) _ _ s;refine jz (eC (ha pins s J H _ I h) λu s1 cX=>?_);obtain⟨x,H1,I1,r1,q1⟩:=cX;refine eC (hr pos pins s1 J H1 _ I1 q1) λus s2 cX=>?_;obtain⟨xs,H2,I2,r2,q2⟩:=cX;exact⟨x::xs,H2,I2,.cons r1 r2,q2⟩
def adc(t:TA):TE:=λ J H Q=>t J H λxs H1=>xs.length<=az/\∀ p,H1 p=Y->Q (.ref p) (upd H1 p (.tup xs))
def ac8(t:TA):TE:=λ J H Q=>t J H λxs H1=>xs.length<=az/\∀ p,H1 p=Y->Q (.ref p) (upd H1 p (.lst xs))
theorem gt{x1}(h:PA X es t):PE X (.Tuple es x1 pos) (adc t):=by
 intro pins s J H Q I hq;refine wpAny_Tuple_spliced (eC (h pos pins s J H _ I hq) λus s1 cX=>?_);obtain⟨xs,H1,I1,r,z,q⟩:=cX;refine⟨by rw[← r.length];exact z,?_⟩;have hf:H1 s1.heap.objs.size=Y:=I1.c8.fresh (ay _);refine⟨.ref s1.heap.objs.size,upd H1 s1.heap.objs.size (.tup xs),I1.laid (t':=s1.toks) (λb u e=>ar _ e) (ay _) ?_,Z,q _ hf⟩;exact⟨z,us,r,⟨_,aO _ Z,Z,_,Z⟩⟩
theorem eY(h:PA X es t):PE X (.List es pos) (ac8 t):=by
 intro pins s J H Q I hq;refine wpAny_List_spliced (eC (h pos pins s J H _ I hq) λus s1 cX=>?_);obtain⟨xs,H1,I1,r,z,q⟩:=cX;refine⟨by rw[← r.length];exact z,?_⟩;have hf:H1 s1.heap.objs.size=Y:=I1.c8.fresh (ay _);refine⟨.ref s1.heap.objs.size,upd H1 s1.heap.objs.size (.lst xs),I1.laid (t':=s1.toks) (λb u e=>ar _ e) (ay _) ?_,Z,q _ hf⟩;exact⟨z,us,0,r,aO _ Z⟩
end
abbrev Sp:=List V->Hp->VK->XK->Prop
abbrev Ni:=List DX->Hp->aq->XK->ae->aq->Prop
structure DY(P:aS)(w:bv)(K:af)(mg:aE->Option ae)(base:cR)(A:cK)(outer:List DX)(s:aq)(H:Hp):Prop where
 frames:A.frames=O outer
 mod:Mod K mg base
 bs:∀ b o,base.get? b=O o->s.heap.get? b=O o/\H b=Y
 P9:base.objs.size<=s.heap.objs.size
 ud:s.heap.FunFrames base outer
 RJ:∀ b∈Ee outer,H b=Y
 c8:pU P w H s.heap
 bare:qU s.gens
def CE(outer:List DX)(P:aS)(w:bv)(H:Hp)(s:aq)(Q:VK)(u:ae)(s':aq):Prop :=
 ∃ v H',s'.os=s.os/\qU s'.gens/\Un (Ee outer) [] H H' s.heap s'.heap/\pU P w H' s'.heap/\RelV v u/\Q v H'
def CR(CX:Ni)(outer:List DX)(P:aS)(w:bv)(H:Hp)(s:aq)(Q:VK)(E:XK)(r:BC)(s':aq):Prop :=
 match r with
 |.ok (.ret u)=>CE outer P w H s Q u s'
 |.ok _=>False
 |.error e=>CX outer H s E e s'
structure ow(P:aS)(w:bv)(K:af)(mg:aE->Option ae)(base:cR)(CX:Ni)(k:Nat)(f:ai)(fd:iJ)(ps:List aE)(sp:Sp):Prop where
 len:∀ vs H Q E,sp vs H Q E->vs.length=ps.length
 run:∀(A:cK)(outer:List DX)(s:aq)(H:Hp)(args:Args)(us:List ae)(vs:List V)(Q:VK)(E:XK),ig k A->DY P w K mg base A outer s H->Nh s fd args (ps.zip us)->Vals vs us->sp vs H Q E ->
  codeAny (br P w) A (.call (.ref f) args) (CR CX outer P w H s Q E) s
theorem DY.make{P:aS}{w:bv}{K:af}{mg:aE->Option ae}{base:cR}{A:cK}{outer:List DX}{s:aq}{H:Hp}(e:DY P w K mg base A outer s H)(C:ai)(us:List ae)(kw:List (aE × ae)) :
  DY P w K mg base (A.under (.builtin "type.__call__" ⟨.ref C::us,kw⟩)) outer s H:=⟨by first | exact e.frames | (simpa [Dg,Code.envs,Ft,pushEnvs] using e.frames),e.mod,e.bs,e.P9,e.ud,e.RJ,e.c8,e.bare⟩
section
variable {X:Cx}{pins:List (ai × fY)}{J:St}{H:Hp}{s s':aq}
theorem Inv.Ve(I:Inv X pins J H s):DY X.prog X.w X.K X.mg X.base X.A X.stack s H :=
 ⟨I.ok.frames,I.ok.mod,I.bs,bF I.ok.P9 I.sz,I.stack,I.GG,I.c8,I.bare⟩
theorem Inv.after{Q:VK}{u:ae}(I:Inv X pins J H s)(h:CE X.stack X.prog X.w H s Q u s'):EP X pins J Q u s':=by
 obtain⟨v,H',os,bare,un,c8,r,q⟩:=h;obtain⟨hh,g,d,t,os'⟩:=s';obtain rfl:os'=s.os:=os;exact⟨v,H',I.call (h':=hh) (g':=g) (d':=d) (t':=t) (ch:=[]) un c8 bare (λb z=>absurd z (by simp)),r,q⟩
end
def QT(sp:Sp)(vo:List V)(E:XK)(t:TA):TE:=λ J H Q=>t J H λvs H1=>sp (vs++vo) H1 Q E
def GJ(C:ai)(m:aE)(sp:Sp)(vo:List V)(E:XK)(ta:TE)(t:TA):TE:=λ J H Q=>ta J H λx H1=>∃ a dx fs,x=.ref a/\H1 a=O (.ins C dx fs)/\fs.lookup m=Y /\
 t J H1 λvs H2=>sp (x::(vs++vo)) H2 Q E
def GI(C:ai)(sp:Sp)(vo:List V)(E:XK)(t:TA):TE:=λ J H Q=>t J H λvs H1=>∀ x dx,H1 x=Y->H1 dx=Y->dx≠x ->
 sp (.ref x::(vs++vo)) (upd (upd H1 dx (.own x)) x (.ins C dx [])) (λv H2=>v=.fC/\Q (.ref x) H2) E
def Binds(K:af)(fd:iJ)(ps:List aE)(ds:List ae):Prop :=
 ∀(s:aq)(us:List ae),K.In s.heap->(us++ds).length=ps.length->Nh s fd ⟨us,[]⟩ (ps.zip (us++ds))
theorem Binds.all{K:af}{fd:iJ}{ps:List aE}(h:∀ us:List ae,us.length=ps.length->Hg fd ⟨us,[]⟩=pure (ps.zip us)):Binds K fd ps []:=λs us _ hl=>by
 rw[er] at hl ⊢;exact .of_eq (h us hl)
def a0n(CX:Ni)(X:Cx)(E:XK):Prop:=∀(pins:List (ai × fY))(J:St)(H:Hp)(s:aq)(e:ae)(s':aq),Inv X pins J H s->CX X.stack H s E e s'->X.xe e s'
section
variable {X:Cx}{CX:Ni}{k:Nat}{f C:ai}{fd:iJ}{ps:List aE}{sp:Sp}{vo:List V}{ds:List ae}{E:XK}{x m:aE}{p pos apos:jd}{e o:cF}{es:List cF}{ta:TE}{t:TA}
theorem z5{pins:List (ai × fY)}{J:St}{H:Hp}{s:aq}{Q:VK}{us:List ae}{vs:List V}(F:ow X.prog X.w X.K X.mg X.base CX k f fd ps sp)(hr:ig k X.A)(hb:Binds X.K fd ps ds)(hd:Vals vo ds)(hx:a0n CX X E)
  (I:Inv X pins J H s) (r:Vals vs us) (h:sp (vs++vo) H Q E):wpAny (br X.prog X.w) X.A (BK (.ref f) us) (EP X pins J Q) X.xe s:=by
 have r2:Vals (vs++vo) (us++ds):=r.append hd;have hl:(us++ds).length=ps.length:=by rw[← r2.length];exact F.len _ _ _ _ h
 refine Ys (lu (F.run X.A X.stack s H ⟨us,[]⟩ (us++ds) (vs++vo) Q E hr I.Ve (hb s us I.qm hl) r2 h) λr s' hq=>?_);cases r with
 |error e=>exact hx pins J H s e s' I hq
 |ok fl =>
  cases fl with
  |ret u=>exact I.after hq
  |next=>exact e6 hq
  |brk=>exact e6 hq
  |cont=>exact e6 hq
theorem OX(F:ow X.prog X.w X.K X.mg X.base CX k f fd ps sp)(hr:ig k X.A)(hg:Gl X x)(hm:X.mg x=O (.ref f))(hk:ix X.K (.ref f)=true)(hb:Binds X.K fd ps ds)(hd:Vals vo ds)(hx:a0n CX X E)
  (ha:PA X (e::es) t) (Ei:(x == ("__debug__" : aE))=false:=by decide) (he:bD (e::es) X.env=(false,dP e X.env)::bD es X.env:=by rfl) (m8:(gB pos (bD es X.env)).any (·.1)=false:=by rfl) :
  PE X (.Call (.Name x p) (e::es) [] pos) (QT sp vo E t):=by
 intro pins s J H Q I h;refine kY (uL I hg hm ?_ Ei);refine mj (h₀:=X.base) I.ok.mod.UA hk (eC (ha pos pins s J H _ I h) λus s1 cX=>?_) he m8;obtain⟨vs,H1,I1,r,q⟩:=cX;refine⟨I1.qm,?_⟩;exact z5 F hr hb hd hx I1 r q
theorem O5{pl:U2 Bool}(he:PE X o ta)(c:GW X.K C)(hm:Meth X.K C m f)(F:ow X.prog X.w X.K X.mg X.base CX k f fd ps sp)(hr:ig k X.A)(hb:Binds X.K fd ps ds)(hd:Vals vo ds)(hx:a0n CX X E)(ha:PA X (e::es) t)
  (N9:bD (e::es) X.env=(false,dP e X.env)::bD es X.env:=by rfl) (m8:(gB pos (bD es X.env)).any (·.1)=false:=by rfl)
  (ht:dP (.Call (.Attribute o m apos) (e::es) [] pos) X.env=(do
   let ov ← dP o X.env
   Az apos.atName
   let (f,first) ← lD [ov] (uG ov m pl)
   Hl pos f first (gB pos (bD (e::es) X.env)) (qz pos (k5 [] X.env))):=by rfl) :
  PE X (.Call (.Attribute o m apos) (e::es) [] pos) (GJ C m sp vo E ta t):=by
 intro pins s J H Q I h;refine Dp (pl:=pl) (eC (he pins s J H _ I h) λu s1 cX=>?_) ht;obtain⟨x,H1,I1,rx,a,dx,fs,ex,ea,l,q⟩:=cX;subst ex;obtain rfl:u=b8 a:=rx;refine vv I1 ea c hm l ?_;refine mj (first:=[.ref a]) (h₀:=X.base) I.ok.mod.UA hm.kp (eC (ha pos pins s1 J H1 _ I1 q) λus s2 cX=>?_) N9 m8;obtain⟨vs,H2,I2,r,q2⟩:=cX;refine⟨I2.qm,?_⟩;exact z5 (us:=.ref a::us) (vs:=.ref a::vs) F hr hb hd hx I2 (.cons Z r) q2
theorem LA{pl:U2 Bool}(he:PE X o ta)(c:GW X.K C)(hm:Meth X.K C m f)(F:ow X.prog X.w X.K X.mg X.base CX k f fd ps sp)(hr:ig k X.A)(hb:Binds X.K fd ps ds)(hd:Vals vo ds)(hx:a0n CX X E)
  (ht:dP (.Call (.Attribute o m apos) [] [] pos) X.env=(do
   let ov ← dP o X.env
   Az apos.atName
   let (f,first) ← lD [ov] (uG ov m pl)
   Hl pos f first (gB pos (bD [] X.env)) (qz pos (k5 [] X.env))):=by rfl) :
  PE X (.Call (.Attribute o m apos) [] [] pos) (GJ C m sp vo E ta Mp):=by
 intro pins s J H Q I h;refine Dp (pl:=pl) (eC (he pins s J H _ I h) λu s1 cX=>?_) ht;obtain⟨x,H1,I1,rx,a,dx,fs,ex,ea,l,q⟩:=cX;subst ex;obtain rfl:u=b8 a:=rx;refine vv I1 ea c hm l ?_;exact FC (first:=[.ref a]) I1.qm hm.kp (z5 (us:=[.ref a]) (vs:=[.ref a]) F hr hb hd hx I1 (.cons Z .nil) q)
structure Mk(K:af)(C f:ai):Prop where
 makes:MV K C=true
 init:eT K (.ref C) "__init__" = O (O (.ref f))
 fn:BB K (.ref f)=true
 kp:ix K (.ref C)=true
theorem CB{pins:List (ai × fY)}{J:St}{H:Hp}{s:aq}{Q:VK}{us:List ae}{vs:List V}(M:Mk X.K C f)(F:ow X.prog X.w X.K X.mg X.base CX k f fd ps sp)(hr:ig (k+1) X.A)(hb:Binds X.K fd ps ds)(hd:Vals vo ds)
  (hx:a0n CX X E) (I:Inv X pins J H s) (r:Vals vs us)
  (h:∀ x dx,H x=Y->H dx=Y->dx≠x->sp (.ref x::(vs++vo)) (upd (upd H dx (.own x)) x (.ins C dx [])) (λv H2=>v=.fC/\Q (.ref x) H2) E) :
  wpAny (br X.prog X.w) X.A (BK (.ref C) us) (EP X pins J Q) X.xe s:=by
 have hq:=h (s.heap.objs.size+1) s.heap.objs.size (I.c8.fresh (hU _)) (I.c8.fresh (ay _)) (aP (eS _));have I2:=Inv.made (C:=C) I;have r2:Vals (V.ref (s.heap.objs.size+1)::(vs++vo)) (b8 (s.heap.objs.size+1)::(us++ds)):=.cons Z (r.append hd);have hl:(b8 (s.heap.objs.size+1)::us++ds).length=ps.length:=by
  have e:=r2.length;rw[F.len _ _ _ _ hq] at e;exact e.symm
 refine Ys (K0 (f:=f) I.qm M.makes M.init (beq_iff_eq.mp M.fn) (lu (F.run _ X.stack _ _ ⟨b8 (s.heap.objs.size+1)::us,[]⟩ (b8 (s.heap.objs.size+1)::(us++ds)) _ _ E (hr.make C us [])
  (I2.Ve.make C us []) (hb _ (b8 (s.heap.objs.size+1)::us) I2.qm hl) r2 hq) λr s' QB=>?_))
 cases r with
 |error e=>exact hx pins J _ _ e s' I2 QB
 |ok fl =>
  cases fl with
  |ret u =>
   obtain⟨v,H',I3,rv,ev,q3⟩:=I2.after QB;subst ev;exact⟨rv,⟨V.ref (s.heap.objs.size+1),H',I3,Z,q3⟩⟩
  |next=>exact e6 QB
  |brk=>exact e6 QB
  |cont=>exact e6 QB
theorem O4(M:Mk X.K C f)(F:ow X.prog X.w X.K X.mg X.base CX k f fd ps sp)(hr:ig (k+1) X.A)(hg:Gl X x)(hm:X.mg x=O (.ref C))(hb:Binds X.K fd ps ds)(hd:Vals vo ds)(hx:a0n CX X E)
  (ha:PA X (e::es) t) (Ei:(x == ("__debug__" : aE))=false:=by decide) (he:bD (e::es) X.env=(false,dP e X.env)::bD es X.env:=by rfl) (m8:(gB pos (bD es X.env)).any (·.1)=false:=by rfl) :
  PE X (.Call (.Name x p) (e::es) [] pos) (GI C sp vo E t):=by
 intro pins s J H Q I h;refine kY (uL I hg hm ?_ Ei);refine mj (h₀:=X.base) I.ok.mod.UA M.kp (eC (ha pos pins s J H _ I h) λus s1 cX=>?_) he m8;obtain⟨vs,H1,I1,r,q⟩:=cX;refine⟨I1.qm,?_⟩;exact CB M F hr hb hd hx I1 r q
theorem Lz(M:Mk X.K C f)(F:ow X.prog X.w X.K X.mg X.base CX k f fd ps sp)(hr:ig (k+1) X.A)(hg:Gl X x)(hm:X.mg x=O (.ref C))(hb:Binds X.K fd ps ds)(hd:Vals vo ds)(hx:a0n CX X E)
  (Ei:(x == ("__debug__" : aE))=false:=by decide):PE X (.Call (.Name x p) [] [] pos) (GI C sp vo E Mp):=by
 intro pins s J H Q I h;refine kY (uL I hg hm ?_ Ei);exact FC I.qm M.kp (CB (us:=[]) M F hr hb hd hx I .nil h)
end
structure bg(N P:List aE)(sc:lp):Prop where
 kind:sc.kind=.function
 co:sc.isCoroutine=false
 gen:sc.isGenerator=false
 nd:N.Nodup
 pre:N.take P.length=P
 par:∀ x∈P,sc.names.lookup x=O .local\/sc.names.lookup x=O .cell
 SX:∀ y∈sc.names,y.2≠.free
theorem xM{ny:aE->Option t6}{x:aE}:∀{binds:List (aE × ae)}{m:aE->Option ae},(∀ v,(x,v) ∉ binds)->MY ny binds m x=m x
 |[],_,_=>rfl
 |(n,v)::r,m,h=>by
  unfold MY;rw[xM λw hw=>h w (aW _ hw)];split
  .have:x≠n:=by rintro rfl;exact h v aL
   simp[this]
  .rfl
theorem xK{ny:aE->Option t6}{x:aE}:∀{binds:List (aE × ae)}{m:aE->Option ae},(∀ v,(x,v) ∉ binds)->MX ny binds m x=m x
 |[],_,_=>rfl
 |(n,v)::r,m,h=>by
  unfold MX;rw[xK λw hw=>h w (aW _ hw)];split
  .rfl
  .have:x≠n:=by rintro rfl;exact h v aL
   simp[this]
theorem xL{ny:aE->Option t6}{x:aE}{v:ae}:∀{P:List aE}{vs:List ae}{i:Nat}{m:aE->Option ae},P.Nodup->P[i]?=O x->vs[i]?=O v->ny x=O .local ->
  MY ny (P.zip vs) m x=O v
 |[],_,_,_,_,h,_,_=>by simp at h
 |_::_,[],_,_,_,_,h,_=>by simp at h
 |p::P,w::vs,0,m,nd,h1,h2,hk=>by
  simp at h1 h2;subst h1;subst h2;show MY ny ((p,w)::P.zip vs) m p=_;unfold MY;rw[xM λv hv=>(dt.mp nd).1 (jD hv).1,if_pos hk];simp
 |p::P,w::vs,i+1,m,nd,h1,h2,hk=>by
  show MY ny ((p,w)::P.zip vs) m x=_;unfold MY;exact xL (i:=i) (dt.mp nd).2 (by simpa using h1) (by simpa using h2) hk
theorem xJ{ny:aE->Option t6}{x:aE}{v:ae}:∀{P:List aE}{vs:List ae}{i:Nat}{m:aE->Option ae},P.Nodup->P[i]?=O x->vs[i]?=O v->ny x≠O .local ->
  MX ny (P.zip vs) m x=O v
 |[],_,_,_,_,h,_,_=>by simp at h
 |_::_,[],_,_,_,_,h,_=>by simp at h
 |p::P,w::vs,0,m,nd,h1,h2,hk=>by
  simp at h1 h2;subst h1;subst h2;show MX ny ((p,w)::P.zip vs) m p=_;unfold MX;rw[xK λv hv=>(dt.mp nd).1 (jD hv).1,if_neg hk];simp
 |p::P,w::vs,i+1,m,nd,h1,h2,hk=>by
  show MX ny ((p,w)::P.zip vs) m x=_;unfold MX;exact xJ (i:=i) (dt.mp nd).2 (by simpa using h1) (by simpa using h2) hk
def start(N:List aE)(vs:List V):St:=vs.map O++aX (N.length-vs.length) Y
def zj(CX:Ni)(P:aS)(w:bv)(K:af)(mg:aE->Option ae)(base:cR)(N:List aE)(qual:aE)(scope:lp)(f:ai)(cd:ae)(A:cK)(outer:List DX)(s:aq)(H:Hp)(E:XK):Cx where
 prog:=P
 w:=w
 K:=K
 mg:=mg
 base:=base
 A:=A.deeper (qc qual scope s.heap.objs.size f cd)
 N:=N
 s₀:=s
 H₀:=H
 env:=qc qual scope s.heap.objs.size f cd
 outer:=outer
 stack:=qc qual scope s.heap.objs.size f cd::outer
 ex:=[]
 calm:=true
 fn:=λ_=>true
 pn:=[]
 xe:=λe s'=>wpAny (br P w) (A.deeper (qc qual scope s.heap.objs.size f cd)) (leaving (qc qual scope s.heap.objs.size f cd) e) (λ_ s''=>CX outer H s E e s'') (λe' s''=>CX outer H s E e' s'') s'
theorem BL{sc:lp}{n:Nat}{x:aE}(h:sc.names.lookup x=O .cell):∃ c,(aaE n sc.names []).lookup x=O c:=by
 have q:=BA sc.names n [] (.inl h);exact nO.mp q
theorem Ix{CX:Ni}{P:aS}{w:bv}{K:af}{mg:aE->Option ae}{base:cR}{N ps:List aE}{qual:aE}{scope:lp}{f:ai}{cd:ae}{A:cK}{outer:List DX}{s s1:aq}{H:Hp}{E:XK}{us:List ae}{vs:List V}
  (S:bg N ps scope) (hd:A.handled=Y) (e0:DY P w K mg base A outer s H) (hl:vs.length=ps.length) (r:Vals vs us)
  (x:InCallC s s.heap.objs.size (MY (qc qual scope s.heap.objs.size f cd).kindOf (ps.zip us) λ_=>Y) (aaE (s.heap.objs.size+1) scope.names []) (MX (qc qual scope s.heap.objs.size f cd).kindOf (ps.zip us) λ_=>Y) s1) :
  Inv (zj CX P w K mg base N qual scope f cd A outer s H E) [] (start N vs) H s1:=by
 have m8:ps.length<=N.length:=by have:=congrArg j3 S.pre;rw[db] at this;omega
 obtain⟨h1,tk,rfl,hk⟩:=x.done;have Xe:∀ b:ai,b ∉ (zj CX P w K mg base N qual scope f cd A outer s H E).ex:=λb z=>absurd (show b∈([]:List ai) from z) (by simp);refine⟨⟨e0.mod,S.kind,Z,Z,ay _,λy z c h1 h2=>?_,λy hy=>?_,λy c _ h=>?_,λ_=>hd,Around.frames_deeper e0.frames,.inr ⟨Z,Z⟩,λb z=>absurd z (Xe b),e0.bs,e0.P9,λb _ _=>Xe b,λb z=>absurd z (Xe b),e0.ud,e0.RJ⟩,
  rfl,e0.bare,Un.kept hk,⟨_,x.toInCall.ns,λi y v h1 h2 h3=>?_⟩,λy c h=>⟨_,x.cell y c h⟩,e0.c8.fresh (ay _),λy c h=>?_,λp hp=>absurd (show p∈([]:List (ai × fY)) from hp) (by simp),e0.c8.kept hk,?_⟩
 .exact name_of_addr x.apart (gF h1) (gF h2)
 .have hy:scope.names.lookup y=O .cell\/scope.names.lookup y=O .free:=hy;rcases hy with hy | hy
  .exact BL hy
  .exact absurd Z (S.SX _ (gF hy))
 .exact gn (x.above y c (gF h))
 .have hi:i<vs.length:=by
   unfold start at h2
   by_cases hi:i<vs.length
   .exact hi
   .rw[cN (by simpa using hi)] at h2;rw[j0] at h2;split at h2 <;> cases h2
  have ha:vs[i]?=O v:=by
   unfold start at h2;rw[ck (by simpa using hi),au] at h2;cases e:vs[i]? with
   |none=>rw[e] at h2;cases h2
   |some a=>rw[e] at h2;cases h2;rfl
  obtain⟨u,hu,rv⟩:=r.get ha;have hp:ps[i]?=O y:=by
   rw[← S.pre,Dl (by omega)];exact h1
  have ndP:ps.Nodup:=by rw[← S.pre];exact S.nd.sublist (uw _ _)
  refine⟨u,rv,?_⟩;rcases S.par y (ag hp) with k | k
  .exact .inl ⟨k,xL ndP hp hu k⟩
  .obtain⟨c,e⟩:=BL (n:=s.heap.objs.size+1) k;refine .inr ⟨.inl k,c,e,?_⟩;have q:=x.cell y c e;rw[xJ ndP hp hu (by show scope.names.lookup y≠_;rw[k];decide)] at q;exact q
 .exact e0.c8.fresh (gn (x.above y c (gF h)))
 .unfold start;show _=N.length;rw[aV,ab,qi];omega
theorem Vg{CX:Ni}{P:aS}{w:bv}{K:af}{mg:aE->Option ae}{base:cR}{k:Nat}{f:ai}{name qual:aE}{params:ZY}{body:List cH}{scope:lp}{dV kV doc pm dW ct oc:ae}{an od:Option ai}
  {QJ:Array (Option ae)} {N ps:List aE} {sp:Sp} (lk:K.lookup f=O ⟨oc,od,.func (lM name qual params body scope dV kV doc pm an dW ct),QJ⟩) (Kv:wQ K dW qual=true) (S:bg N ps scope)
  (len:∀ vs H Q E,sp vs H Q E->vs.length=ps.length)
  (rm:∀ (A:cK) (outer:List DX) (s:aq) (H:Hp) (vs:List V) (Q:VK) (E:XK),ig k (A.deeper (qc qual scope s.heap.objs.size f dW))->sp vs H Q E ->
   ∃ t,AR (zj CX P w K mg base N qual scope f dW A outer s H E) body t/\t { nx:=λ_ H'=>Q .fC H',rt:=Q } (start N vs) H) :
  ow P w K mg base CX (k+1) f (lM name qual params body scope dV kV doc pm an dW ct) ps sp:=by
 refine⟨len,λA outer s H args us vs Q E hr e0 hb r M8=>?_⟩;have hl:=len _ _ _ _ M8;have KX:K.In s.heap:=e0.mod.UA.keeps λb o e=>(e0.bs b o e).1;have lim:s.heap.NoLimit:=e0.mod.nolimit.keeps λb o e=>(e0.bs b o e).1;have VT:∀ y∈ps.zip us,scope.names.lookup y.1=O .local\/(scope.names.lookup y.1=O .cell/\((aaE (s.heap.objs.size+1) scope.names []).lookup y.1).isSome=true):=λ⟨n,v⟩ hy=>by
  rcases S.par n (jD hy).1 with q | q
  .exact .inl q
  .exact .inr ⟨q,BA _ _ _ (.inl q)⟩
 refine codeAny_call_function hr.depth (KX _ _ lk) Z S.co S.gen Z (PySem.W.codeRec_of KX Kv) (hb _ _ _ _ ?_);refine wpAny_newFunctionEnv_cells S.kind VT λenv he s1 x=>?_;subst he;refine⟨lim.keeps x.toInCall.keep,codeAny_func ?_⟩;obtain⟨t,ht,hq⟩:=rm A outer s H vs Q E (hr.deeper _) M8;have I:Inv (zj CX P w K mg base N qual scope f dW A outer s H E) [] (start N vs) H s1:=Ix S hr.hd e0 hl r x;refine fL (ht [] s1 (start N vs) H _ I hq) (λfl s' hs=>?_) λe s' hs=>hs;have fin:∀{σ':St}{H':Hp}{v:V}{u:ae},Inv (zj CX P w K mg base N qual scope f dW A outer s H E) [] σ' H' s'->RelV v u->Q v H'->CE outer P w H s Q u s' :=
  λ{σ' H' v u} E2 rv q=>⟨v,H',E2.os,E2.bare,E2.base,E2.c8,rv,q⟩
 cases fl with
 |ret u =>
  obtain⟨v,σ',H',E2,rv,q⟩:=hs;exact fin E2 rv q
 |next =>
  obtain⟨σ',H',E2,q⟩:=hs;exact fin (v:=V.fC) (u:=g9) E2 Z q
 |brk =>
  obtain⟨_,_,_,q⟩:=hs;exact e6 q
 |cont =>
  obtain⟨_,_,_,q⟩:=hs;exact e6 q
section
variable {X:Cx}{x:aE}{p pos:jd}{e:cF}{es:List cF}{t:TA}{id T:String}{r:List V->Hp->VK->Prop}
def tCB(r:List V->Hp->VK->Prop)(t:TA):TE:=λ J H Q=>t J H λvs H1=>r vs H1 Q
theorem bP(hc:jy X (.builtin id) r)(hg:Gl X x)(hm:X.mg x=Y)(hv:n4 x=O (.builtin id))(ha:PA X (e::es) t)(hn:x ≠ "__name__" := by decide)(Ei:(x == ("__debug__" : aE))=false:=by decide)
  (he:bD (e::es) X.env=(false,dP e X.env)::bD es X.env:=by rfl) (m8:(gB pos (bD es X.env)).any (·.1)=false:=by rfl):PE X (.Call (.Name x p) (e::es) [] pos) (tCB r t):=by
 intro pins s J H Q I h;refine kY (mR I hg hm hv ?_ hn Ei);refine qR (eC (ha pos pins s J H _ I h) λus s1 cX=>?_) he m8;obtain⟨vs,H1,I1,r1,q1⟩:=cX;exact hc pins s1 J H1 vs us Q I1 r1 q1
theorem km(hc:jy X (.type T) r)(hg:Gl X x)(hm:X.mg x=Y)(hv:n4 x=O (.type T))(ha:PA X (e::es) t)(hn:x ≠ "__name__" := by decide)(Ei:(x == ("__debug__" : aE))=false:=by decide)
  (he:bD (e::es) X.env=(false,dP e X.env)::bD es X.env:=by rfl) (m8:(gB pos (bD es X.env)).any (·.1)=false:=by rfl):PE X (.Call (.Name x p) (e::es) [] pos) (tCB r t):=by
 intro pins s J H Q I h;refine kY (mR I hg hm hv ?_ hn Ei);refine c7 (eC (ha pos pins s J H _ I h) λus s1 cX=>?_) he m8;obtain⟨vs,H1,I1,r1,q1⟩:=cX;exact hc pins s1 J H1 vs us Q I1 r1 q1
end
end L2
namespace HT
open PySem PyProof.Rows
section
variable {prog:aS}{w:bv}{A:cK}{E:ae->aq->Prop}{s:aq}
def AX(n d:Nat):Option Int->Nat
 |none=>d
 |some v=>if v<0 then (v+(n:Int)).toNat else min v.toNat n
theorem CD(n d:Nat):AX n d Y=d:=rfl
theorem Go(n d k:Nat):AX n d (O (k:Int))=min k n:=by
 show(if (k:Int)<0 then ((k:Int)+(n:Int)).toNat else min (k:Int).toNat n)=min k n;rw[if_neg (by omega),bO]
end
end HT
namespace L2
open PySem PySem.Spec PyProof.Rows
abbrev TO:=St->Hp->(Option Int->Hp->Prop)->Prop
def PO(X:Cx)(e:Option cF)(t:TO):Prop :=
 ∀(pins:List (ai × fY))(s:aq)(J:St)(H:Hp)(Q:Option Int->Hp->Prop),Inv X pins J H s->t J H Q ->
  wpAny (br X.prog X.w) X.A (evalPart e X.env) (λu s'=>∃ o H',Inv X pins J H' s'/\IsPart u o/\Q o H') X.xe s
def PD:TO:=λ_ H Q=>Q Y H
def Yc(t:TE):TO:=λ J H Q=>t J H λx H1=>∃ i,x=.int i/\Q (O i) H1
theorem a0l{ns:List Int}:∀{us:List ae},Vals (ns.map V.int) us->dB us ns:=by
 induction ns with
 |nil=>intro us r;rw[Fz] at r;cases r;exact .nil
 |cons n ns ih =>
  intro us r;rw[bY] at r;cases r with
  |cons r1 r2 =>
   obtain⟨t,e⟩:=r1;subst e;exact .cons n t (ih r2)
section
variable {X:Cx}{e:cF}{te:TE}{lo hi:Option cF}{tl th:TO}{pos p2:jd}
theorem pH:PO X Y PD:=by
 intro pins s J H Q I h;rw[evalPart_none];exact aF ⟨Y,H,I,.none,h⟩
theorem pI(h:PE X e te):PO X (O e) (Yc te):=by
 intro pins s J H Q I hw;rw[evalPart_some];refine eC (h pins s J H _ I hw) λu s1 cX=>?_;obtain⟨x,H1,I1,r1,q1⟩:=cX;obtain⟨i,rfl,q⟩:=q1;obtain⟨t,rfl⟩:=r1;exact⟨O i,H1,I1,.int i t,q⟩
def SlR(X:Cx)(r:V->Option Int->Option Int->Hp->VK->Prop):Prop :=
 ∀(pins:List (ai × fY))(s:aq)(J:St)(H:Hp)(x:V)(v vl vu:ae)(lo hi:Option Int)(sl:ai)(Q:VK),Inv X pins J H s->RelV x v->s.heap.IsSliceOf sl vl vu .none->IsPart vl lo->IsPart vu hi->r x lo hi H Q ->
  ∃ T id,Yo (.type T) "__getitem__" = pure (O (.builtin id))/\s.TypeIs v T/\wpAny (br X.prog X.w) X.A (zm v (.ref sl)) (EP X pins J Q) X.xe s
def tSl(r:V->Option Int->Option Int->Hp->VK->Prop)(te:TE)(tl th:TO):TE:=λ J H Q=>te J H λx H1=>tl J H1 λl H2=>th J H2 λu H3=>r x l u H3 Q
theorem nG{r:V->Option Int->Option Int->Hp->VK->Prop}(hr:SlR X r)(he:PE X e te)(hl:PO X lo tl)(hu:PO X hi th):PE X (.Subscript e (.Slice lo hi Y p2) pos) (tSl r te tl th):=by
 intro pins s J H Q I h;refine U3 (eC (he pins s J H _ I h) λv s1 cX=>?_);obtain⟨x,H1,I1,r1,q1⟩:=cX;refine wpAny_Slice (eC (hl pins s1 J H1 _ I1 q1) λvl s2 cX=>?_);obtain⟨l,H2,I2,pl,q2⟩:=cX;refine eC (hu pins s2 J H2 _ I2 q2) λvu s3 uI=>?_;obtain⟨u,H3,I3,pu,q3⟩:=uI;rw[evalPart_none];refine aF ?_;have I4:Inv X pins J H3 { s3 with heap:=s3.heap.push { cls:=.type "slice",data:=.fields #[vl,vu,.none] } }:=I3.kept (t':=s3.toks) λb ob q=>ar _ q;obtain⟨T,id,hT,ht,hg⟩:=hr pins { s3 with heap:=s3.heap.push { cls:=.type "slice",data:=.fields #[vl,vu,.none] } } J H3 x v vl vu l u s3.heap.objs.size Q I4 r1 (YG ..) pl pu q3;show wpAny (br X.prog X.w) X.A (Mn e (.Slice lo hi Y p2) v (.ref s3.heap.objs.size)) (EP X pins J Q) X.xe { s3 with heap:=s3.heap.push { cls:=.type "slice",data:=.fields #[vl,vu,.none] } };exact tail_any (ops:=[.ref s3.heap.objs.size,v]) ht hT hg (by with_unfolding_all rfl)
def BQ(xs:List V)(lo hi:Option Int):List V:=(xs.drop (HT.AX xs.length 0 lo)).take (HT.AX xs.length xs.length hi-HT.AX xs.length 0 lo)
theorem BR(xs:List V)(lo hi:Option Int):(BQ xs lo hi).length<=xs.length:=by
 unfold BQ;rw[db,i8];omega
end
def B8(n:Nat)(i:Int):Option Nat:=if 0<=i then (if i<n then O i.toNat else Y) else if -(n:Int)<=i then O (i+n).toNat else Y
def oB{α:Type}(xs:List α)(i:Int):Option α:=(B8 xs.length i).bind λj=>xs[j]?
theorem F1{n:Nat}{i:Int}{j:Nat}(h:B8 n i=O j):seqIndex? i n=O j/\j<n/\-(n:Int)<=i/\i<n:=by
 unfold B8 at h
 by_cases h0:0<=i
 .rw[if_pos h0] at h
  by_cases h1:i<n
  .rw[if_pos h1] at h;have e:i.toNat=j:=bQ h;exact⟨by rw[DD h0 h1,e],by omega,by omega,h1⟩
  .rw[if_neg h1] at h;cases h
 .rw[if_neg h0] at h
  by_cases h1:-(n:Int)<=i
  .rw[if_pos h1] at h;have e:(i+n).toNat=j:=bQ h;exact⟨by rw[Pq (by omega) h1,e],by omega,h1,by omega⟩
  .rw[if_neg h1] at h;cases h
theorem uB{α:Type}{xs:List α}{i:Int}{v:α}(h:oB xs i=O v):∃ j,seqIndex? i xs.length=O j/\xs[j]?=O v/\j<xs.length/\-(xs.length:Int)<=i/\i<xs.length:=by
 unfold oB at h;cases e:B8 xs.length i with
 |none=>rw[e] at h;cases h
 |some j =>
  rw[e] at h;obtain⟨h1,h2,h3,h4⟩:=F1 e;exact⟨j,h1,h,h2,h3,h4⟩
theorem bb{α:Type}{xs:List α}{j:Nat}{v:α}(h:xs[j]?=O v):oB xs (j:Int)=O v:=by
 have hj:j<xs.length:=(aj.mp h).1;have e:B8 xs.length (j:Int)=O j:=by
  unfold B8;rw[if_pos (by omega),if_pos (by omega)];simp
 unfold oB;rw[e];exact h
theorem vg{α:Type}(xs:List α)(v:α):oB (xs++[v]) (-1)=O v:=by
 have hl:(xs++[v]).length=xs.length+1:=by simp
 have e:B8 (xs++[v]).length (-1)=O xs.length:=by
  unfold B8;rw[hl,if_neg (by decide),if_pos (by omega)];congr 1;omega
 unfold oB;rw[e];show(xs++[v])[xs.length]?=O v;simp
def Nt(b:cF):Prop:=∀ o i,DF b false o i=operate [o,i] (zm o i)
def Ub(X:Cx)(r:R2):Prop :=
 ∀(value slice:cF)(pins:List (ai × fY))(s:aq)(J:St)(H:Hp)(x y:V)(v u:ae)(Q:VK),Inv X pins J H s->RelV x v->RelV y u->r x y H Q ->
  DF slice false v u=operate [v,u] (zm v u)->wpAny (br X.prog X.w) X.A (Mn value slice v u) (EP X pins J Q) X.xe s
def MtR(X:Cx)(id:String)(r:V->List V->Hp->VK->Prop):Prop :=
 ∀(pins:List (ai × fY))(s:aq)(J:St)(H:Hp)(x:V)(xs:List V)(v:ae)(us:List ae)(Q:VK),Inv X pins J H s->RelV x v->Vals xs us->r x xs H Q ->
  wpAny (br X.prog X.w) X.A (BK (.builtin id) (v::us)) (EP X pins J Q) X.xe s
section
variable {X:Cx}{a b:cF}{ta tb:TE}{pos:jd}
theorem be{r:R2}(hr:Ub X r)(ha:PE X a ta)(hb:PE X b tb)(hs:Nt b):PE X (.Subscript a b pos) (ZO r ta tb):=by
 intro pins s J H Q I h;exact U3 (Rw ha hb I h λv u s2 x y H2 I2 rx ry q=>hr a b pins s2 J H2 x y v u Q I2 rx ry q (hs _ _))
def Xx(K:af):R2:=λx y H Q=>∃ p xs i v,x=.ref p/\y=.int i/\bI K H p xs/\oB xs i=O v/\Q v H
def Xy(K:af):R2:=λx y H Q=>∃ p xs i v,x=.ref p/\y=.int i/\gA K H p xs/\oB xs i=O v/\Q v H
def acP:R2:=λx y H Q=>∃ z i c,x=.str z/\y=.int i/\z.length<=az/\oB z.cps.toList i=O c/\Q (.str ⟨#[c]⟩) H
theorem Oi:Ub X (Xx X.K):=by
 intro value slice pins s J H x y v u Q I rx ry h hs;obtain⟨p,xs,i,z,rfl,rfl,hq,he,q⟩:=h;cases rx;obtain⟨t,rfl⟩:=ry;obtain⟨ci,r,pl,hz⟩:=I.list hq;obtain⟨j,h1,h2,h3,h4,h5⟩:=uB he;obtain⟨w,ew,xh⟩:=r.get h2;have hl:=r.length;have hn:=mS;have fin:EP X pins J Q w s:=⟨z,H,I,xh,q⟩
 by_cases h0:0<=i
 .have hj:i.toNat=j:=by
   rw[DD h0 h5] at h1;exact bQ h1
  exact item_listR pl.isList h0 (by omega) (by rw[hj];simpa using ew) fin hs
 .have hj:(i+(ci.toArray.size:Int)).toNat=j:=by
   rw[Pq (by omega) h4] at h1;rw[aZ,← hl];exact bQ h1
  exact Py (x:=w) pl.isList.typeIs ZI.lookup
   (wpAny_getItem_list_neg (Q:=λr s'=>r=w/\EP X pins J Q r s') pl.isList (by omega) (by rw[aZ] <;> omega) (by omega) (by rw[hj];simpa using ew) ⟨Z,fin⟩) hs
theorem SF:Ub X (Xy X.K):=by
 intro value slice pins s J H x y v u Q I rx ry h hs;obtain⟨p,xs,i,z,rfl,rfl,hq,he,q⟩:=h;cases rx;obtain⟨t,rfl⟩:=ry;obtain⟨ci,r,pl,hz⟩:=I.tuple hq;obtain⟨j,h1,h2,h3,h4,h5⟩:=uB he;obtain⟨w,ew,xh⟩:=r.get h2;have hl:=r.length;have hn:=mS;have fin:EP X pins J Q w s:=⟨z,H,I,xh,q⟩
 exact Py (x:=w) pl.typeIs slot_tuple_getitem.lookup
  (getItem_tuple (j:=j) (Q:=λr s'=>r=w/\EP X pins J Q r s') pl (by omega) (by omega) (by rw[aZ,← hl];exact h1) (by simpa using ew) ⟨Z,fin⟩) hs
theorem qG:Ub X acP:=by
 intro value slice pins s J H x y v u Q I rx ry h hs;obtain⟨z,i,c,rfl,rfl,hz,he,q⟩:=h;obtain⟨t,rfl⟩:=rx;obtain⟨t',rfl⟩:=ry;obtain⟨j,h1,h2,h3,h4,h5⟩:=uB he;have hl:z.cps.toList.length=z.length:=by simp[Str.length]
 rw[hl] at h1 h4 h5;have hn:=mS;exact tail_any (ju s z t) slot_str_getitem.lookup (getItem_str (c:=c) (by
  have e1:decide (i < -(2 ^ 63:Int))=false:=decide_eq_false (by omega);have e2:decide (i ≥ 2 ^ 63)=false:=decide_eq_false (by omega);rw[e1,e2,UM]) (by rw[h1];simpa using h2) ⟨.str ⟨#[c]⟩,H,I.tok _,⟨_,Z⟩,q⟩) hs
theorem EE(ci:List ae)(n j:Nat)(u:ae):nj (·.setIfInBounds j u) { cls:=.type "list",data:=.seq ci.toArray n }={ cls:=.type "list",data:=.seq (ci.set j u).toArray n }:=by
 simp[nj]
theorem Inv.lst{pins:List (ai × fY)}{J:St}{H:Hp}{s:aq}{p:ai}{xs:List V}(I:Inv X pins J H s)(h:H p=O (.lst xs)) :
  ∃(ci:List ae)(n:Nat),Vals xs ci/\s.heap.get? p=O { cls:=.type "list",data:=.seq ci.toArray n }/\xs.length<=az:=by
 obtain⟨z,ci,n,r,e⟩:=I.c8 p _ h;exact⟨ci,n,r,e,z⟩
theorem Inv.SO{pins:List (ai × fY)}{J:St}{H:Hp}{s:aq}{p:ai}{xs ys:List V}{ci its':List ae}{n n':Nat}{f:fY->fY}(I:Inv X pins J H s)(h:H p=O (.lst xs))
  (ho:s.heap.get? p=O { cls:=.type "list",data:=.seq ci.toArray n }) (hf:f { cls:=.type "list",data:=.seq ci.toArray n }={ cls:=.type "list",data:=.seq its'.toArray n' }) (r:Vals ys its') (hz:ys.length<=az) (t:Nat) :
  Inv X pins J (upd H p (.lst ys)) { s with heap:=s.heap.update p f,toks:=t }:=by
 have e:(s.heap.update p f).get? p=O { cls:=.type "list",data:=.seq its'.toArray n' }:=by
  rw[k8 f ho (by rw[hf] <;> rfl),hf]
 refine I.write (x:=p) (e:=p) (by rw[h];trivial) (.inl Z) (λb u hb q=>(fF _ _ (cg hb)).trans q) ⟨_,e⟩ ?_;exact⟨hz,its',n',r,e⟩
def XA:V->V->V->Hp->(Hp->Prop)->Prop:=λo i v H Q=>∃ p xs k j,o=.ref p/\i=.int k/\H p=O (.lst xs)/\B8 xs.length k=O j/\Q (upd H p (.lst (xs.set j v)))
theorem a0k:Ro X XA:=by
 intro pins s J H o i v ov iv u Q I ro ri rv h;obtain⟨p,xs,k,j,rfl,rfl,hp,hj,q⟩:=h;cases ro;obtain⟨t,rfl⟩:=ri;obtain⟨ci,n,r,ho,hz⟩:=I.lst hp;obtain⟨h1,h2,h3,h4⟩:=F1 hj;have hl:=r.length;have hn:=mS;have I':Inv X pins J (upd H p (.lst (xs.set j v))) { s with heap:=s.heap.update p (nj (·.setIfInBounds j u)) } :=
  I.SO hp ho (EE ci n j u) (r.set rv j) (by rw[jC];exact hz) s.toks
 by_cases h0:0<=k
 .have hk:k.toNat=j:=by
   rw[DD h0 h4] at h1;exact bQ h1
  exact PySem.W.ki_setAt ho h0 (by omega) (by rw[aZ,← hl];exact h4) (by rw[hk];exact⟨_,I',q⟩)
 .have hk:(k+(ci.toArray.size:Int)).toNat=j:=by
   rw[Pq (by omega) h3] at h1;rw[aZ,← hl];exact bQ h1
  exact PySem.W.ki_setBack ho (by omega) (by rw[aZ,← hl];exact h3) (by omega) (by rw[hk];exact⟨_,I',q⟩)
theorem Ao(lo hi:Option Int)(n:Nat):(mV lo hi Y n).1=((HT.AX n 0 lo:Nat):Int)/\(mV lo hi Y n).2.1=((HT.AX n n hi:Nat):Int)/\(mV lo hi Y n).2.2=1:=by
 refine⟨?_,?_,Z⟩
 .cases lo with
  |none=>simp[mV,HT.AX]
  |some i =>
   simp only [mV,HT.AX,MS,show(1:Int) > 0 by decide,if_true]
   by_cases h:i<0
   .simp only [h,if_true] <;> omega
   .simp only [h,if_false] <;> omega
 .cases hi with
  |none=>simp[mV,HT.AX]
  |some i =>
   simp only [mV,HT.AX,MS,show(1:Int) > 0 by decide,if_true]
   by_cases h:i<0
   .simp only [h,if_true] <;> omega
   .simp only [h,if_false] <;> omega
theorem xx(ci:List ae)(lo hi:Option Int):slicePick ci.toArray lo hi Y=((ci.drop (HT.AX ci.length 0 lo)).take (HT.AX ci.length ci.length hi-HT.AX ci.length 0 lo)).toArray:=by
 obtain⟨h1,h2,h3⟩:=Ao lo hi ci.toArray.size;unfold slicePick;rw[h1,h2,h3];simp only [sliceRange_one,pick_run,aZ] <;> rfl
def XB(K:af):V->Option Int->Option Int->Hp->VK->Prop:=λx lo hi H Q=>∃ a xs,x=.ref a/\bI K H a xs/\∀ p,H p=Y->Q (.ref p) (upd H p (.lst (BQ xs lo hi)))
theorem Pw:SlR X (XB X.K):=by
 intro pins s J H x v vl vu lo hi sl Q I rx hs pl pu h;obtain⟨a,xs,rfl,hx,q⟩:=h;cases rx;obtain⟨ci,r,ht,hz⟩:=I.list hx;have hlen:=r.length;refine⟨"list",_,ZI.lookup,ht.isList.typeIs,?_⟩;refine wpAny_getItem_list_slice ht.isList hs pl pu .none (by simp) ?_ (by rw[aZ] <;> omega);rw[xx,← hlen];refine⟨.ref s.heap.objs.size,_,I.laid (t':=s.toks) (o:=.lst (BQ xs lo hi)) (λb ob q=>ar _ q) (ay _) ?_,Z,q _ (I.c8.fresh (ay _))⟩;exact⟨bF (BR xs lo hi) hz,_,0,(r.drop (HT.AX xs.length 0 lo)).take (HT.AX xs.length xs.length hi-HT.AX xs.length 0 lo),aO _ Z⟩
def oq:V->Bool
 |.fC=>true
 |.bl _=>true
 |.int _=>true
 |.str _=>true
 |_=>false
def BU:V->V->Bool
 |.fC,.fC=>true
 |.bl a,.bl b=>a == b
 |.bl a,.int b=>(if a then 1 else 0) == b
 |.int a,.bl b=>a == (if b then 1 else 0)
 |.int a,.int b=>a == b
 |.str a,.str b=>a == b
 |_,_=>false
theorem RG{A:cK}{s:aq}{y x:V}{u v:ae}(ry:RelV y u)(rx:RelV x v)(fy:oq y=true)(fx:oq x=true):aar A s u v (BU y x):=by
 cases y with
 |fC =>
  cases ry;cases x with
  |fC=>cases rx;exact SeqAt.EqAt.same _
  |bl b=>cases rx;exact SeqAt.EqAt.none_bool b
  |int b=>obtain⟨t,rfl⟩:=rx;exact SeqAt.EqAt.none_int b t
  |str b=>obtain⟨t,rfl⟩:=rx;exact SeqAt.EqAt.none_str b t
  |_=>exact absurd (show false=true from fx) bc
 |bl a =>
  cases ry;cases x with
  |fC=>cases rx;exact SeqAt.EqAt.bool_none a
  |bl b=>cases rx;exact SeqAt.EqAt.bool_bool a b
  |int b=>obtain⟨t,rfl⟩:=rx;exact SeqAt.EqAt.bool_int a b t
  |str b=>obtain⟨t,rfl⟩:=rx;exact SeqAt.EqAt.bool_str a b t
  |_=>exact absurd (show false=true from fx) bc
 |int a =>
  obtain⟨t',rfl⟩:=ry;cases x with
  |fC=>cases rx;exact SeqAt.EqAt.int_none a t'
  |bl b=>cases rx;exact SeqAt.EqAt.int_bool a t' b
  |int b=>obtain⟨t,rfl⟩:=rx;exact SeqAt.EqAt.int_int a t' b t
  |str b=>obtain⟨t,rfl⟩:=rx;exact Dq a t' b t
  |_=>exact absurd (show false=true from fx) bc
 |str a =>
  obtain⟨t',rfl⟩:=ry;cases x with
  |fC=>cases rx;exact SeqAt.EqAt.str_none a t'
  |bl b=>cases rx;exact SeqAt.EqAt.str_bool a t' b
  |int b=>obtain⟨t,rfl⟩:=rx;exact Dr a t' b t
  |str b=>obtain⟨t,rfl⟩:=rx;exact SeqAt.EqAt.str_str a t' b t
  |_=>exact absurd (show false=true from fx) bc
 |_=>exact absurd (show false=true from fy) bc
def zl(x:V)(u:ae):Bool:=match u with
 |.none=>BU .fC x
 |.bool b=>BU (.bl b) x
 |.int i _=>BU (.int i) x
 |.str z _=>BU (.str z) x
 |_=>false
theorem Eb{x y:V}{u:ae}(r:RelV y u)(f:oq y=true):zl x u=BU y x:=by
 cases y with
 |fC=>cases r;rfl
 |bl b=>cases r;rfl
 |int i=>obtain⟨t,rfl⟩:=r;rfl
 |str z=>obtain⟨t,rfl⟩:=r;rfl
 |_=>exact absurd (show false=true from f) bc
theorem rb{x:V}:∀{xs:List V}{us:List ae},Vals xs us->xs.all oq=true->us.any (zl x)=xs.any λy=>BU y x
 |_,_,.nil,_=>rfl
 |y::xs,u::us,.cons r t,f=>by
  rw[UU,aQ] at f;rw[oj,oj,Eb r f.1,rb t f.2]
theorem nA{A:cK}{s:aq}{x:V}{v:ae}(rx:RelV x v)(fx:oq x=true):∀{xs:List V}{us:List ae},Vals xs us->xs.all oq=true->∀ u∈us,aar A s u v (zl x u)
 |_,_,.nil,_=>λu hu=>by cases hu
 |y::xs,u::us,.cons r t,f=>λu' hu=>by
  rw[UU,aQ] at f;rcases aG.mp hu with rfl | hu
  .rw[Eb r f.1];exact RG r rx f.1 fx
  .exact nA rx fx t f.2 u' hu
def SC(x:V)(xs:List V):Bool:=xs.any λy=>BU y x
def ZB(K:af)(neg:Bool):R2:=λx y H Q=>∃ p xs,y=.ref p/\(bI K H p xs\/gA K H p xs)/\oq x=true/\xs.all oq=true/\Q (.bl (if neg then !SC x xs else SC x xs)) H
theorem IR:tN X (fI .In) (ZB X.K false):=by
 intro pins s J H x y v u Q I rx ry h;obtain⟨p,xs,rfl,hq,fx,fs,q⟩:=h;cases ry;rcases hq with hq | hq
 .obtain⟨ci,r,pl,hz⟩:=I.list hq;refine SeqAt.in_listAt (zl x) pl.isList (λw hw=>nA rx fx r fs w (by simpa using hw)) ⟨.bl _,H,I,Z,?_⟩;rw[show ci.toArray.any (zl x)=ci.any (zl x) by simp,rb r fs];exact q
 .obtain⟨ci,r,pl,hz⟩:=I.tuple hq;refine SeqAt.in_tupleAt (zl x) pl (λw hw=>nA rx fx r fs w (by simpa using hw)) ⟨.bl _,H,I,Z,?_⟩;rw[show ci.toArray.any (zl x)=ci.any (zl x) by simp,rb r fs];exact q
theorem zL:tN X (fI .NotIn) (ZB X.K true):=by
 intro pins s J H x y v u Q I rx ry h;obtain⟨p,xs,rfl,hq,fx,fs,q⟩:=h;cases ry;rcases hq with hq | hq
 .obtain⟨ci,r,pl,hz⟩:=I.list hq;refine SeqAt.notIn_listAt (zl x) pl.isList (λw hw=>nA rx fx r fs w (by simpa using hw)) ⟨.bl _,H,I,Z,?_⟩;rw[show ci.toArray.any (zl x)=ci.any (zl x) by simp,rb r fs];exact q
 .obtain⟨ci,r,pl,hz⟩:=I.tuple hq;refine SeqAt.notIn_tupleAt (zl x) pl (λw hw=>nA rx fx r fs w (by simpa using hw)) ⟨.bl _,H,I,Z,?_⟩;rw[show ci.toArray.any (zl x)=ci.any (zl x) by simp,rb r fs];exact q
theorem ze:jy X (.builtin "len") (λxs H Q=>∃ p ys,xs=[.ref p]/\(bI X.K H p ys\/gA X.K H p ys)/\Q (.int ys.length) H):=by
 intro pins s J H xs us Q I r h;obtain⟨p,ys,rfl,hq,q⟩:=h;obtain⟨u,rfl,rx⟩:=a0j r;cases rx;have hn:=mS;rcases hq with hq | hq
 .obtain⟨ci,r',pl,hz⟩:=I.list hq;have hlen:=r'.length;exact Calls.call_len_list pl.isList (by simp only [aZ] <;> omega) ⟨.int ys.length,H,I.tok _,⟨s.toks+1,by rw[aZ,hlen]⟩,q⟩
 .obtain⟨ci,r',pl,hz⟩:=I.tuple hq;have hlen:=r'.length;exact len_tuple pl (by simp only [aZ] <;> omega) ⟨.int ys.length,H,I.tok _,⟨s.toks+1,by rw[aZ,hlen]⟩,q⟩
theorem zf:jy X (.builtin "len") (λxs H Q=>∃ z,xs=[.str z]/\z.length<=az/\Q (.int z.length) H):=by
 intro pins s J H xs us Q I r h;obtain⟨z,rfl,hz,q⟩:=h;obtain⟨u,rfl,t,rfl⟩:=a0j r;have hn:=mS;exact len_str (by omega) ⟨.int z.length,H,I.tok _,⟨_,Z⟩,q⟩
theorem zg:jy X (.type "list") (λxs H Q=>∃ p ys,xs=[.ref p]/\(bI X.K H p ys\/gA X.K H p ys)/\∀ l,H l=Y->Q (.ref l) (upd H l (.lst ys))):=by
 intro pins s J H xs us Q I r h;obtain⟨p,ys,rfl,hq,q⟩:=h;obtain⟨u,rfl,rx⟩:=a0j r;cases rx;have fin:∀(ci:List ae),Vals ys ci->ys.length<=az->∀(h':cR)(c':Nat),(∀ b o',s.heap.get? b=O o'->h'.get? b=O o') ->
   h'.get? s.heap.objs.size=O { cls:=.type "list",dict:=Y,data:=.seq ci.toArray c',slots:=#[] }->EP X pins J Q (.ref s.heap.objs.size) { s with heap:=h' }:=λci r' hz h' c' kp e =>
  ⟨.ref s.heap.objs.size,_,I.laid (t':=s.toks) kp (ay _) (show gc X.prog X.w _ h' _ (.lst ys) from⟨hz,ci,c',r',e⟩),Z,q _ (I.c8.fresh (ay _))⟩
 rcases hq with hq | hq
 .obtain⟨ci,r',pl,hz⟩:=I.list hq;have hlen:=r'.length;obtain⟨o,ho,hc,n,hd⟩:=pl.isList;exact call_list_seq p (.inl Z) ho hc hd (λh' c' kp e=>fin ci r' hz h' c' kp e) (by simp only [aZ] <;> omega)
 .obtain⟨ci,r',pl,hz⟩:=I.tuple hq;have hlen:=r'.length;obtain⟨o,ho,hc,n,hd⟩:=pl;exact call_list_seq p (.inr Z) ho hc hd (λh' c' kp e=>fin ci r' hz h' c' kp e) (by simp only [aZ] <;> omega)
def tyV(K:af)(T:String)(x:V)(H:Hp):Prop:=match x with
 |.str _=>T = "str"
 |.int _=>T = "int"
 |.ref p=>(T = "list" /\ ∃ xs,bI K H p xs)\/(T = "tuple" /\ ∃ o,K.lookup p=O o/\o.cls=.type "tuple" /\ o.dict=Y) \/
   (T = "dict" /\ ((∃ bM,H p=O (.dK bM))\/∃ bM,H p=O (.dT bM)))\/(T = "set" /\ ∃ S n,H p=O (.set S n))
 |_=>False
theorem MA{pins:List (ai × fY)}{J:St}{H:Hp}{s:aq}{T:String}{x:V}{v:ae}(I:Inv X pins J H s)(r:RelV x v)(ty:tyV X.K T x H) :
  s.TypeIs v T/\∀ a,v=.ref a->∃ ob,s.heap.get? a=O ob/\ob.dict=Y:=by
 cases x with
 |str z =>
  obtain⟨t,rfl⟩:=r;cases (show T = "str" from ty);exact⟨ju s z t,λ_ e=>nomatch e⟩
 |int i =>
  obtain⟨t,rfl⟩:=r;cases (show T = "int" from ty);exact⟨Yn s i t,λ_ e=>nomatch e⟩
 |ref p =>
  cases r;rcases ty with ⟨rfl,xs,hq⟩ | ⟨rfl,o,hk,hc,hd⟩ | ⟨rfl,hk⟩ | ⟨rfl,S,n,hk⟩
  .obtain⟨ci,_,pl,_⟩:=I.list hq;refine⟨pl.isList.typeIs,λa e=>?_⟩;cases e;obtain⟨o,n,e,c,hd,_⟩:=pl;exact⟨o,e,hd⟩
  .refine⟨⟨o,I.qm p o hk,hc⟩,λa e=>?_⟩;cases e;exact⟨o,I.qm _ o hk,hd⟩
  .have z:∃ o,s.heap.get? p=O o/\o.ExactDict:=by
    rcases hk with ⟨bM,hk⟩ | ⟨bM,hk⟩
    .obtain⟨_,_,_,_,o,_,_,e,ex,_⟩:=I.c8 p _ hk;exact⟨o,e,ex⟩
    .obtain⟨_,_,_,_,o,_,_,e,ex,_⟩:=I.c8 p _ hk;exact⟨o,e,ex⟩
   obtain⟨o,e,ex⟩:=z;refine⟨⟨o,e,ex.1⟩,λa e2=>?_⟩;cases e2;exact⟨o,e,ex.2.1⟩
  .obtain⟨o,_,_,_,e,ex,_⟩:=I.c8 p _ hk;refine⟨⟨o,e,ex.1⟩,λa e2=>?_⟩;cases e2;exact⟨o,e,ex.2.1⟩
 |_=>exact e6 ty
def ac4(K:af)(T:String)(r:V->List V->Hp->VK->Prop)(to:TE):TE:=λ J H Q=>to J H λx H1=>tyV K T x H1/\r x [] H1 Q
def tBM(K:af)(T:String)(r:V->List V->Hp->VK->Prop)(to:TE)(t:TA):TE:=λ J H Q=>to J H λx H1=>tyV K T x H1/\t J H1 λxs H2=>r x xs H2 Q
variable {o e:cF}{es:List cF}{to:TE}{t:TA}{name:aE}{apos lj:jd}{T id:String}{r:V->List V->Hp->VK->Prop}
theorem Th(pa:PlainAttrs T)(slot:Slot T name id)(hty:typeOf (.builtin id)=pure (.type "method_descriptor"))(hm:MtR X id r)(ho:PE X o to)
  (Ku:kf o name X.env (dP o X.env)=dP o X.env:=by rfl) (KF:(apos.endLine == lj.line)=true:=by rfl):PE X (.Call (.Attribute o name apos) [] [] lj) (ac4 X.K T r to):=by
 intro pins s J H Q I h;refine wpAny_Call_method0_late Ku KF (eC (ho pins s J H _ I h) λv s1 cX=>?_);obtain⟨x,H1,I1,r1,ty,q1⟩:=cX;obtain⟨h1,h2⟩:=MA I1 r1 ty;exact⟨T,id,pa,slot,hty,h1,h2,ke Z (PySem.evalArgs_none (hm pins s1 J H1 x [] v [] Q I1 r1 .nil q1))⟩
theorem ge(pa:PlainAttrs T)(slot:Slot T name id)(hty:typeOf (.builtin id)=pure (.type "method_descriptor"))(hm:MtR X id r)(ho:PE X o to)(ha:PA X (e::es) t)
  (Ku:kf o name X.env (dP o X.env)=dP o X.env:=by rfl)
  (abb:((gB lj (bD (e::es) X.env)).all (λx=>!x.1) && (qz lj (k5 [] X.env)).all (λx=>x.1.isSome)
   && decide ((e::es).length+([]:List Fw).length+(if ([]:List Fw).isEmpty then 0 else 1)<30))=true:=by rfl)
  (KF:(apos.endLine == lj.line)=true:=by rfl) (hs:bD (e::es) X.env=(false,dP e X.env)::bD es X.env:=by rfl) (Si:(gB lj (bD es X.env)).any (·.1)=false:=by rfl) :
  PE X (.Call (.Attribute o name apos) (e::es) [] lj) (tBM X.K T r to t):=by
 intro pins s J H Q I h;refine wpAny_Call_method_late Ku abb KF Z (eC (ho pins s J H _ I h) λv s1 cX=>?_);obtain⟨x,H1,I1,r1,ty,q1⟩:=cX;obtain⟨h1,h2⟩:=MA I1 r1 ty;refine⟨T,id,pa,slot,hty,h1,h2,?_⟩;have hA:=ha lj pins s1 J H1 _ I1 q1;rw[hs] at hA ⊢;refine ke (by show(false || (gB lj (bD es X.env)).any (·.1))=false;rw[Si] <;> rfl) (qp ?_);refine eC hA λus s2 cX=>?_;obtain⟨vs,H2,I2,r2,q2⟩:=cX;exact hm pins s2 J H2 x vs v us Q I2 r1 r2 q2
/- xs.append(e),list.index on a W6 tuple .. are MtR facts of 06m -/
end
def MR(X:Cx)(id:String)(r:V->List V->Hp->VK->Prop):Prop :=
 ∀(pins:List (ai × fY))(s:aq)(J:St)(H:Hp)(x:V)(xs:List V)(v:ae)(us:List ae)(Q:VK),Inv X pins J H s->RelV x v->Vals xs us->r x xs H Q ->
  wpAny (br X.prog X.w) X.A (BK (.builtin id) (v::us)) (EP X pins J Q) X.xe s
theorem Vals.one{x:V}{us:List ae}(h:Vals [x] us):∃ u,us=[u]/\RelV x u:=by
 cases h with
 |cons r e=>cases e;exact⟨_,Z,r⟩
theorem Vals.two{x y:V}{us:List ae}(h:Vals [x,y] us):∃ u v,us=[u,v]/\RelV x u/\RelV y v:=by
 cases h with
 |cons r e =>
  obtain⟨v,e1,q⟩:=Vals.one e;subst e1;exact⟨_,_,Z,r,q⟩
theorem Vals.zero:∀{us:List ae},Vals [] us->us=[]
 |_,.nil=>rfl
theorem Vals.dropLast{xs:List V}{us:List ae}(h:Vals xs us):Vals xs.dropLast us.dropLast:=by
 induction h with
 |nil=>exact .nil
 |cons r t ih =>
  cases t with
  |nil=>exact .nil
  |cons q t'=>exact .cons r ih
theorem Vals.rep{xs:List V}{us:List ae}(h:Vals xs us):∀ k:Nat,Vals (aX k xs).flatten (aX k us).flatten
 |0=>.nil
 |k+1=>by
  rw[jj,jj,iu,iu];exact Vals.append h (Vals.rep h k)
theorem Ec{α:Type}(l:List α):l.eraseIdx (l.length-1)=l.dropLast:=by
 induction l with
 |nil=>rfl
 |cons a r ih =>
  cases r with
  |nil=>rfl
  |cons b r =>
   have e:(a::b::r).length-1=((b::r).length-1)+1:=by
    have h1:(a::b::r).length=r.length+2:=rfl;have h2:(b::r).length=r.length+1:=rfl;omega
   rw[e,List.eraseIdx_cons_succ,ih]
   all_goals rfl
theorem a0w(ci:List ae):∀(k:Nat)(acc:List ae),
  AN (λx1 x2=>x1++x2) acc.toArray (aX k ci.toArray)=(acc++(aX k ci).flatten).toArray
 |0,acc=>by simp
 |k + 1,acc=>by
  have e:acc.toArray++ci.toArray=(acc++ci).toArray:=by simp
  have e2:(acc++ci)++(aX k ci).flatten=acc++(aX (k+1) ci).flatten:=by
   rw[jj,iu,d6]
  rw[← e2,← a0w ci k (acc++ci),← e,jj,List.foldl_cons]
section
variable {X:Cx}{pins:List (ai × fY)}{J:St}{H:Hp}{s:aq}{l b:ai}{xs ys zs:List V}
theorem Inv.SN{ci its':List ae}{n:Nat}{f:Array ae->Array ae}{t':Nat}(I:Inv X pins J H s)(hH:H l=O (.lst xs))
  (e:s.heap.get? l=O { cls:=.type "list",data:=.seq ci.toArray n }) (hf:f ci.toArray=its'.toArray) (hv:Vals ys its') (hz:ys.length<=az) :
  Inv X pins J (upd H l (.lst ys)) { s with heap:=s.heap.update l (nj f),toks:=t' }:=by
 have q:=PySem.IsL.update e f;rw[hf] at q;refine I.write (x:=l) (e:=l) (by rw[hH];exact trivial) (.inl Z) (λb' u hb hu=>(fF s.heap (nj f) (cg hb)).trans hu) ⟨_,q⟩ ?_;exact⟨hz,its',_,hv,q⟩
theorem Inv.WY{ci:List ae}{t':Nat}(I:Inv X pins J H s)(hv:Vals ys ci)(hz:ys.length<=az) :
  Inv X pins J (upd H s.heap.objs.size (.lst ys)) { s with heap:=s.heap.push { cls:=.type "list",data:=.seq ci.toArray },toks:=t' } :=
 I.laid (λ_ _ q=>ar _ q) (ay _) ⟨hz,ci,0,hv,aO _ Z⟩
theorem Inv.fresh(I:Inv X pins J H s):H s.heap.objs.size=Y:=I.c8.fresh (ay _)
theorem Inv.EA(I:Inv X pins J H s)(hH:H l=O (.lst xs)):xs.length<=az/\∃(ci:List ae)(n:Nat),Vals xs ci/\xs.length=ci.length/\s.heap.get? l=O { cls:=.type "list",data:=.seq ci.toArray n }:=by
 obtain⟨z,ci,n,r,e⟩:=I.c8 l _ hH;exact⟨z,ci,n,r,r.length,e⟩
theorem Cj{n:Nat}(h:n<=az):iG n=false:=by
 unfold iG;exact decide_eq_false (by omega)
end
section
variable {X:Cx}
def Pb:V->List V->Hp->VK->Prop:=λx vs H Q=>∃ l xs y,x=.ref l/\vs=[y]/\H l=O (.lst xs)/\xs.length<az/\Q .fC (upd H l (.lst (xs++[y])))
theorem fw:MR X "list.append" Pb:=by
 intro pins s J H x vs v us Q I rx rv h;obtain⟨l,xs,y,rfl,rfl,hH,hz,q⟩:=h;cases rx;obtain⟨u,rfl,ru⟩:=rv.one;obtain⟨z,ci,n,r,hl,e⟩:=I.EA hH;refine eG F.slot_list_append ⟨_,e,Z⟩ F.entry_list_append (F.args_list_append_2 _ _) (PySem.list_append l ci.toArray n u (by rw[aZ];omega)) ⟨e,?_⟩;refine⟨.fC,_,I.SN (its':=ci++[u]) hH e (by simp) (r.append (.cons ru .nil)) ?_,Z,q⟩;rw[aV,dM];omega
def Pc:V->List V->Hp->VK->Prop:=λx vs H Q=>∃ l b xs zs,x=.ref l/\vs=[.ref b]/\H l=O (.lst xs)/\H b=O (.lst zs)/\xs.length+zs.length<=az/\Q .fC (upd H l (.lst (xs++zs)))
theorem IF:MR X "list.extend" Pc:=by
 intro pins s J H x vs v us Q I rx rv h;obtain⟨l,b,xs,zs,rfl,rfl,hH,hB,hz,q⟩:=h;cases rx;obtain⟨u,rfl,ru⟩:=rv.one;cases ru;obtain⟨z,ci,n,r,hl,e⟩:=I.EA hH;obtain⟨z2,vB,n2,r2,wX,e2⟩:=I.EA hB;have hsz:ci.toArray.size+vB.toArray.size<=az:=by rw[aZ,aZ];omega
 have KG:¬ (!ci.toArray.isEmpty && iG (ci.toArray.size+vB.toArray.size))=true:=by
  rw[Cj hsz,AK];exact bc
 refine eG F.slot_list_extend ⟨_,e,Z⟩ F.entry_list_extend (F.args_list_extend_2 _ _)
  (AutoSeq1.list_extend_list_list_0 l ci.toArray n b vB.toArray n2 KG (by rw[aZ];omega) (by omega)) ⟨e,e2,?_⟩
 refine⟨.fC,_,I.SN (its':=ci++vB) hH e (by simp) (r.append r2) ?_,Z,q⟩;rw[aV];omega
def acQ:V->List V->Hp->VK->Prop:=λx vs H Q=>∃ l xs y,x=.ref l/\vs=[]/\H l=O (.lst xs)/\xs[xs.length-1]?=O y/\Q y (upd H l (.lst xs.dropLast))
theorem SV:MR X "list.pop" acQ:=by
 intro pins s J H x vs v us Q I rx rv h;obtain⟨l,xs,y,rfl,rfl,hH,hy,q⟩:=h;cases rx;have hus:=rv.zero;subst hus;obtain⟨z,ci,n,r,hl,e⟩:=I.EA hH;obtain⟨u,hu,ru⟩:=r.get hy;have hy':ci.toArray[ci.toArray.size-1]?=O u:=by
  show ci.toArray[ci.length-1]?=O u;rw[← b6,← hl];exact hu
 refine eG F.slot_list_pop ⟨_,e,Z⟩ F.entry_list_pop (F.args_list_pop_1 _) (MeetsSeq.list_pop_last l ci.toArray n u hy' (by rw[aZ];omega)) ⟨e,?_⟩;refine⟨y,_,I.SN (its':=ci.dropLast) hH e ?_ r.dropLast ?_,ru,q⟩
 .show ci.toArray.eraseIdxIfInBounds (ci.toArray.size-1)=ci.dropLast.toArray;rw[aZ,List.eraseIdxIfInBounds_toArray,Ec]
 .rw[List.length_dropLast];omega
def acO:R2:=λx y H Q=>∃ l b xs zs,x=.ref l/\y=.ref b/\H l=O (.lst xs)/\H b=O (.lst zs)/\xs.length+zs.length<=az/\∀ p,H p=Y->Q (.ref p) (upd H p (.lst (xs++zs)))
theorem Tf:tN X (ox .Add) acO:=by
 intro pins s J H x y v u Q I rx ry h;obtain⟨l,b,xs,zs,rfl,rfl,hH,hB,hz,q⟩:=h;cases rx;cases ry;obtain⟨z,ci,n,r,hl,e⟩:=I.EA hH;obtain⟨z2,vB,n2,r2,wX,e2⟩:=I.EA hB;refine PySem.P.add_list e e2 ?_ (by rw[aZ,aZ];omega);have ea:ci.toArray++vB.toArray=(ci++vB).toArray:=by simp
 rw[ea];exact⟨.ref _,_,I.WY (t':=s.toks) (r.append r2) (by rw[aV];omega),Z,q _ I.fresh⟩
def acR:R2:=λx y H Q=>∃ l k xs,x=.ref l/\y=.int k/\H l=O (.lst xs)/\-(2 ^ 63)<=k/\k<2 ^ 63/\xs.length*k.toNat<=az /\
 ∀ p,H p=Y->Q (.ref p) (upd H p (.lst (aX k.toNat xs).flatten))
theorem a0L{α:Type}(xs:List α)(k:Nat):(aX k xs).flatten.length=k*xs.length:=by
 induction k with
 |zero=>simp
 |succ k ih=>rw[jj,iu,aV,ih,aae,vc]
theorem vJ:tN X (ox .Mult) acR:=by
 intro pins s J H x y v u Q I rx ry h;obtain⟨l,k,xs,rfl,rfl,hH,h1,h2,hz,q⟩:=h;cases rx;obtain⟨t,rfl⟩:=ry;obtain⟨z,ci,n,r,hl,e⟩:=I.EA hH;have hlen:ci.toArray.size*k.toNat<=az:=by rw[aZ,← hl];exact hz
 have aa3:¬ ci.toArray.size*k.toNat > (2 ^ 63-1) / 8:=by
  have:(az:Nat)<=(2 ^ 63-1) / 8:=by decide
  omega
 have RV:¬ (!Builtin.List.listFitsIndex k)=true:=by
  rw[fitsIndex_both h1 h2];exact bc
 have KG:¬ iG (ci.toArray.size*k.toNat)=true:=by
  rw[Cj hlen];exact bc
 have KH:AN (λx1 x2=>x1++x2) #[] (aX (if ci.toArray.isEmpty=true then 0 else k.toNat) ci.toArray)=(aX k.toNat ci).flatten.toArray:=by
  have f0:∀ m:Nat,AN (λx1 x2=>x1++x2) #[] (aX m ci.toArray)=(aX m ci).flatten.toArray:=λm=>by
   have:=a0w ci m [];rw[xF] at this;exact this
  rw[f0];cases ci with
  |nil=>simp
  |cons a r'=>rw[if_neg (by simp)]
 refine wpAny_binaryOp_repeat_ref (T := "list") (U := "int") (by decide) ⟨_,e,Z⟩ (λs'=>Yn s' k t) noFill_list_mul F.fills_int_mul YE repeat_list F.slot_int_index.lookup
  (eG YE (Yn s k t) F.entry_int_rmul (F.args_int_rmul_2 _ _) (int___rmul___int_list k t l ci.toArray n)
   ⟨e,Z,⟨_,e,Z⟩,eG F.slot_list_mul ⟨_,e,Z⟩ F.entry_list_mul (F.args_list_mul_2 _ _) (AutoListH.list___mul___list_int_3 l ci.toArray n k t RV aa3 KG) ⟨e,?_⟩⟩)
 rw[KH];exact⟨.ref _,_,I.WY (t':=s.toks) (r.rep k.toNat) (by rw[a0L,Nat.mul_comm];exact hz),Z,q _ I.fresh⟩
end
section
variable {κ:Type}[DecidableEq κ]
def eO(bM:List (κ × V))(k:κ):Option V:=(bM.find? λkv=>decide (kv.1=k)).map (·.2)
def a0f(bM:List (κ × V))(k:κ)(v:V):List (κ × V) :=
 if (bM.any λkv=>decide (kv.1=k))=true then bM.map (λkv=>if kv.1=k then (kv.1,v) else kv) else bM++[(k,v)]
theorem il{p:κ × V}{r:List (κ × V)}{k:κ}(e:p.1=k):eO (p::r) k=O p.2:=by simp[eO,jA,e]
theorem ik{p:κ × V}{r:List (κ × V)}{k:κ}(e:¬ p.1=k):eO (p::r) k=eO r k:=by simp[eO,jA,e]
theorem rX(k:κ):∀ bM:List (κ × V),(bM.any λkv=>decide (kv.1=k))=(eO bM k).isSome
 |[]=>rfl
 |p::r=>by
  rw[oj]
  by_cases e:p.1=k
  .simp only [il e,decide_eq_true e,Yz,Option.isSome_some]
  .rw[ik e,decide_eq_false e,UL];exact rX k r
theorem C7(k j:κ)(y:V):∀ bM:List (κ × V),eO (bM.map λkv=>if kv.1=k then (kv.1,y) else kv) j=(eO bM j).map λx=>if j=k then y else x
 |[]=>rfl
 |p :: r=>by
  have ih:=C7 k j y r;rw[bY]
  by_cases h:p.1=k
  .rw[if_pos h]
   by_cases e:p.1=j
   .rw[il (p:=(p.1,y)) e,il e,d8,if_pos (e.symm.trans h)]
   .rw[ik (p:=(p.1,y)) e,ik e,ih]
  .rw[if_neg h]
   by_cases e:p.1=j
   .rw[il (p:=p) e,il e,d8,if_neg (λz=>h (e.trans z))]
   .rw[ik (p:=p) e,ik e,ih]
theorem yx(k j:κ)(y:V):∀ bM:List (κ × V),eO bM k=Y->eO (bM++[(k,y)]) j=if j=k then O y else eO bM j
 |[],_=>by
  by_cases e:k=j
  .rw[if_pos e.symm];exact il (p:=(k,y)) e
  .rw[if_neg (λz=>e z.symm)];exact ik (p:=(k,y)) e
 |p::r,hn=>by
  rw[List.cons_append];have hk:¬ p.1=k:=λz=>by rw[il z] at hn;cases hn
  rw[ik hk] at hn;have ih:=yx k j y r hn
  by_cases e:p.1=j
  .rw[il e,il e,if_neg (λz=>hk (e.trans z))]
  .rw[ik e,ik e,ih]
theorem rY(bM:List (κ × V))(k j:κ)(y:V):eO (a0f bM k y) j=if j=k then O y else eO bM j:=by
 unfold a0f
 by_cases a:(bM.any λkv=>decide (kv.1=k))=true
 .rw[if_pos a,C7];rw[rX] at a
  by_cases e:j=k
  .obtain⟨x,hx⟩:=nO.mp a;rw[if_pos e,e,hx,d8,if_pos rfl]
  .rw[if_neg e];cases eO bM j with
   |none=>rfl
   |some x=>rw[d8,if_neg e]
 .rw[if_neg a];refine yx k j y bM ?_;rw[rX] at a;cases q:eO bM k with
  |none=>rfl
  |some x=>rw[q] at a;exact(a Z).elim
theorem jm(bM:List (κ × V))(k:κ)(v:V):(a0f bM k v).length<=bM.length+1:=by
 unfold a0f;split
 .rw[ab];omega
 .rw[aV,cz,xE];omega
theorem ml.pz{o:Option V}{u:Option ae}(r:ml o u):o.isSome=u.isSome:=by
 cases o with
 |none=>cases u with
  |none=>rfl
  |some _=>exact(show False from r).elim
 |some _=>cases u with
  |none=>exact(show False from r).elim
  |some _=>rfl
theorem ml.getD{o:Option V}{u:Option ae}{d:V}{d':ae}(r:ml o u)(rd:RelV d d'):RelV (o.getD d) (u.getD d'):=by
 cases o with
 |none=>cases u with
  |none=>exact rd
  |some _=>exact(show False from r).elim
 |some _=>cases u with
  |none=>exact(show False from r).elim
  |some _=>exact r
theorem KV.val{bM:List (κ × V)}{vs:List (κ × ae)}(r:KV bM vs)(k:κ):ml (eO bM k) (oi vs k):=by
 unfold KV at r
 induction r with
 |nil=>exact gy
 |@cons p q ps qs h t ih =>
  obtain⟨h1,h2⟩:=h
  by_cases e:p.1=k
  .have e':q.1=k:=h1.symm.trans e;have b:oi (q::qs) k=O q.2:=by simp[oi,jA,e']
   rw[il e,b];exact h2
  .have e':¬ q.1=k:=λz=>e (h1.trans z);have b:oi (q::qs) k=oi qs k:=by simp[oi,jA,e']
   rw[ik e,b];exact ih
theorem KV.any{bM:List (κ × V)}{vs:List (κ × ae)}(r:KV bM vs)(k:κ):(bM.any λkv=>decide (kv.1=k))=vs.any λkv=>decide (kv.1=k):=by
 unfold KV at r
 induction r with
 |nil=>rfl
 |cons h t ih=>rw[oj,oj,ih,h.1]
theorem KV.Tu{bM:List (κ × V)}{vs:List (κ × ae)}(r:KV bM vs)(k:κ){y:V}{u:ae}(ry:RelV y u) :
  KV (bM.map λkv=>if kv.1=k then (kv.1,y) else kv) (vs.map λkv=>if kv.1=k then (kv.1,u) else kv):=by
 unfold KV at r ⊢
 induction r with
 |nil=>exact .nil
 |@cons p q ps qs h t ih =>
  rw[bY,bY];refine .cons ?_ ih;obtain⟨h1,h2⟩:=h
  by_cases e:p.1=k
  .rw[if_pos e,if_pos (h1.symm.trans e)];exact⟨h1,ry⟩
  .rw[if_neg e,if_neg (λz=>e (h1.trans z))];exact⟨h1,h2⟩
theorem KV.put{bM:List (κ × V)}{vs:List (κ × ae)}(r:KV bM vs)(k:κ){y:V}{u:ae}(ry:RelV y u):KV (a0f bM k y) (stored vs k u):=by
 unfold a0f stored;rw[r.any k]
 by_cases e:(vs.any λkv=>decide (kv.1=k))=true
 .rw[if_pos e,if_pos e];exact r.Tu k ry
 .rw[if_neg e,if_neg e];exact UY r ⟨Z,ry⟩
theorem KV.length{bM:List (κ × V)}{vs:List (κ × ae)}(r:KV bM vs):bM.length=vs.length:=jk r
end
theorem rB{P:aS}{w:bv}{k:Key}{u:ae}(r:RelV (kV k) u):(cT P w).is k u=true:=by
 cases k with
 |inl i=>obtain⟨t,e⟩:=(show ∃ t,u=e5 i t from r);subst e;exact Ce P w i t
 |inr x=>obtain⟨t,e⟩:=(show ∃ t,u=lg x t from r);subst e;exact kN P w x t
theorem x8{P:aS}{w:bv}:∀{ks:List Key}{us:List ae},Vals (ks.map kV) us->ItemsAre (cT P w) ks us
 |[],_,r=>by rw[Fz] at r;cases r;exact .nil
 |k::ks,_,r=>by
  rw[bY] at r;cases r with
  |cons h t=>exact .cons (rB h) (x8 t)
abbrev KT(H:Hp):List (List Key × V)->List (List Key × ai × ae)->Prop:=gf λp q=>p.1=q.1/\H q.2.1=O (.tup (p.1.map kV))/\RelV p.2 q.2.2
theorem KT.val{H:Hp}{bM:List (List Key × V)}{xs:List (List Key × ai × ae)}(r:KT H bM xs)(k:List Key):ml (eO bM k) ((Hf xs k).map (·.2)):=by
 induction r with
 |nil=>exact gy
 |@cons p q ps qs h t ih =>
  obtain⟨h1,_,h2⟩:=h
  by_cases e:p.1=k
  .have e':q.1=k:=h1.symm.trans e;have b:Hf (q::qs) k=O q.2:=by simp[Hf,jA,e']
   rw[il e,b];exact h2
  .have e':¬ q.1=k:=λz=>e (h1.trans z);have b:Hf (q::qs) k=Hf qs k:=by simp[Hf,jA,e']
   rw[ik e,b];exact ih
theorem KT.Tu{H:Hp}{bM:List (List Key × V)}{xs:List (List Key × ai × ae)}(r:KT H bM xs)(k:List Key){y:V}{u:ae}(ry:RelV y u) :
  KT H (bM.map λkv=>if kv.1=k then (kv.1,y) else kv) (xs.map (putAt k u)):=by
 induction r with
 |nil=>exact .nil
 |@cons p q ps qs h t ih =>
  rw[bY,bY];refine .cons ?_ ih;obtain⟨h1,h2,h3⟩:=h;unfold putAt
  by_cases e:p.1=k
  .rw[if_pos e,if_pos (h1.symm.trans e)];exact⟨h1,h2,ry⟩
  .rw[if_neg e,if_neg (λz=>e (h1.trans z))];exact⟨h1,h2,h3⟩
theorem KT.put{H:Hp}{bM:List (List Key × V)}{xs:List (List Key × ai × ae)}(r:KT H bM xs)(k:List Key){b:ai}{y:V}{u:ae}(hb:H b=O (.tup (k.map kV)))(ry:RelV y u) :
  KT H (a0f bM k y) (storedH xs k b u):=by
 have e:(bM.any λkv=>decide (kv.1=k))=(Hf xs k).isSome:=by
  rw[rX,(r.val k).pz,nk]
 unfold a0f storedH;rw[e]
 by_cases q:(Hf xs k).isSome=true
 .rw[if_pos q,if_pos q];exact r.Tu k ry
 .rw[if_neg q,if_neg q];exact UY r ⟨Z,hb,ry⟩
theorem KT.keeps{H H':Hp}{bM:List (List Key × V)}{xs:List (List Key × ai × ae)}(r:KT H bM xs)(ht:∀ b ys,H b=O (.tup ys)->H' b=O (.tup ys)):KT H' bM xs :=
 Paired.Ot r λ_ _ z=>⟨z.1,ht _ _ z.2.1,z.2.2⟩
section
variable {P:aS}{w:bv}{H:Hp}{h:cR}{a:ai}
theorem QM{u:HO}(ok:pU P w H h)(e:Rd H a u):gc P w H h a u:=e.ok ok
theorem vn{bM:List (Key × V)}(ok:pU P w H h)(e:Rd H a (.dK bM)):bM.length<=az/\(a == d4)=false/\∃ vs,KV bM vs/\h.DictOf (cT P w) a vs :=
 show gc P w H h a (.dK bM) from QM ok e
theorem Qc{bM:List (Key × V)}(ok:pU P w H h)(e:H a=O (.dK bM)):bM.length<=az/\(a == d4)=false/\∃ vs,KV bM vs/\h.DictOf (cT P w) a vs:=vn ok (.inl e)
theorem vE{ks:List Key}(ok:pU P w H h)(e:H a=O (.tup (ks.map kV))):(uU (cT P w)).is h ks a:=by
 obtain⟨_,ci,r,o,h1,h2,n,h3⟩:=(show gc P w H h a (.tup (ks.map kV)) from ok a _ e)
 exact⟨o,ci.toArray,n,h1,h2,h3,by simpa using x8 r⟩
theorem xT{bM:List (List Key × V)}(ok:pU P w H h)(e:Rd H a (.dT bM)):bM.length<=az/\(a == d4)=false /\
  ∃ xs,KT H bM xs/\h.DictOfH (uU (cT P w)) a xs:=by
 obtain⟨z,y,xs,r,o,es,ep,h1,h2,h3,h4,h5⟩:=(show gc P w H h a (.dT bM) from QM ok e)
 refine⟨z,y,xs,r,o,es,ep,h1,h2,h3,h4,λx hx=>?_,h5⟩;have all:∀{l:List (List Key × V)}{m:List (List Key × ai × ae)},KT H l m->∀ x∈m,(uU (cT P w)).is h x.1 x.2.1:=by
  intro l m q
  induction q with
  |nil=>intro x hx;exact nomatch hx
  |@cons p q ps qs hq t ih =>
   intro x hx;rcases aG.mp hx with e | hx
   .subst e;exact vE ok (by rw[← hq.1];exact hq.2.1)
   .exact ih x hx
 exact all r x hx
theorem Vc{bM:List (List Key × V)}(ok:pU P w H h)(e:H a=O (.dT bM)):bM.length<=az/\(a == d4)=false /\
  ∃ xs,KT H bM xs/\h.DictOfH (uU (cT P w)) a xs:=xT ok (.inl e)
end
def u4(H:Hp)(a:ai)(y:V)(r:Option V):Prop :=
 (∃ bM k,Rd H a (.dK bM)/\y=kV k/\r=eO bM k)\/∃ bM k b,Rd H a (.dT bM)/\y=.ref b/\H b=O (.tup (k.map kV))/\r=eO bM k
def GX(H:Hp)(a:ai)(y v:V)(H':Hp):Prop :=
 (∃ bM k,H a=O (.dK bM)/\y=kV k/\bM.length<az/\H'=upd H a (.dK (a0f bM k v))) \/
 ∃ bM k b,H a=O (.dT bM)/\y=.ref b/\H b=O (.tup (k.map kV))/\bM.length<az/\H'=upd H a (.dT (a0f bM k v))
theorem u4.k{H:Hp}{a:ai}{bM:List (Key × V)}{k:Key}(e:H a=O (.dK bM)):u4 H a (kV k) (eO bM k):=.inl ⟨bM,k,.inl e,Z,Z⟩
theorem GX.k{H:Hp}{a:ai}{bM:List (Key × V)}{k:Key}{v:V}(e:H a=O (.dK bM))(hl:bM.length<az):GX H a (kV k) v (upd H a (.dK (a0f bM k v))):=.inl ⟨bM,k,e,Z,hl,Z⟩
section
variable {X:Cx}{pins:List (ai × fY)}{J:St}{H:Hp}{s:aq}{a:ai}{y v:V}{u r:ae}{o:Option V}{A:cK}{E:ae->aq->Prop}
theorem Inv.big(I:Inv X pins J H s):d4<s.heap.objs.size:=by
 have h:bo<s.heap.objs.size:=(I.mod.glob.keeps I.bk).lt;exact mN (by decide) h
theorem HJ{Q:ae->aq->Prop}(hu:A.units+1<zd)(I:Inv X pins J H s)(g:u4 H a y (O v))(ry:RelV y u)(h:∀ w' s',Inv X pins J H s'->RelV v w'->Q w' s') :
  wpAny (br X.prog X.w) A (zm (.ref a) u) Q E s:=by
 rcases g with ⟨bM,k,e,ey,l⟩ | ⟨bM,k,b,e,ey,eb,l⟩
 .subst ey;obtain⟨z,hd,vs,rel,dd⟩:=vn I.c8 e;obtain⟨w',hw,xh⟩:=ml.some_of (v:=v) (o:=oi vs k) (by rw[l];exact rel.val k);exact adj (rB ry) dd.mapOf hw (h w' _ (I.tok _) xh)
 .subst ey;cases (show u=b8 b from ry);obtain⟨z,hd,xs,rel,dd⟩:=xT I.c8 e;obtain⟨w',hw,xh⟩:=ml.some_of (v:=v) (o:=(Hf xs k).map (·.2)) (by rw[l];exact rel.val k);obtain⟨p,hp,NZ⟩:=d5.mp hw;refine wpAny_getItem_heap (oz hu) (vE I.c8 eb) dd hp ?_;rw[NZ];exact h w' _ (I.tok _) xh
theorem NI{Q:ae->aq->Prop}(hu:A.units+1<zd)(I:Inv X pins J H s)(g:u4 H a y o)(ry:RelV y u)(h:∀ s',Inv X pins J H s'->Q (.bool (!o.isSome)) s') :
  wpAny (br X.prog X.w) A (fI .NotIn u (.ref a)) Q E s:=by
 rcases g with ⟨bM,k,e,ey,l⟩ | ⟨bM,k,b,e,ey,eb,l⟩
 .subst ey;obtain⟨z,hd,vs,rel,dd⟩:=vn I.c8 e;refine wpAny_notIn_of (rB ry) hd dd.mapOf ?_;rw[← (rel.val k).pz,← l];exact h _ (I.tok _)
 .subst ey;cases (show u=b8 b from ry);obtain⟨z,hd,xs,rel,dd⟩:=xT I.c8 e;refine wpAny_notIn_heap (oz hu) (vE I.c8 eb) hd dd ?_;have q:=(rel.val k).pz;rw[nk] at q;rw[← q,← l];exact h _ (I.tok _)
theorem zk{h':cR}{t':Nat}{ob:HO}(I:Inv X pins J H s)(mu:UW (H a))(hs:gg a s.heap h')(he:∃ q,h'.get? a=O q)(new:gc X.prog X.w (upd H a ob) h' a ob) :
  Inv X pins J (upd H a ob) { s with heap:=h',toks:=t' } :=
 I.write (x:=a) (e:=a) mu (.inl Z) (λb q hb z=>(hs.2 b hb).trans z) he new
theorem Ea{P:aS}{w:bv}{H':Hp}{h':cR}{bM:List (Key × V)}{vs:List (Key × ae)}(z:bM.length<=az)(hd:(a == d4)=false)(rel:KV bM vs)(dd:h'.DictOf (cT P w) a vs) :
  gc P w H' h' a (.dK bM):=⟨z,hd,vs,rel,dd⟩
theorem HK{H':Hp}{Q:Unit->aq->Prop}(hu:A.units+1<zd)(I:Inv X pins J H s)(g:GX H a y v H')(ry:RelV y u)(rv:RelV v r)(h:∀ s',Inv X pins J H' s'->Q () s') :
  wpAny (br X.prog X.w) A (ZH (.ref a) u r) Q E s:=by
 rcases g with ⟨bM,k,e,ey,l,eH⟩ | ⟨bM,k,b,e,ey,eb,l,eH⟩
 .subst ey eH;obtain⟨z,hd,vs,rel,dd⟩:=Qc I.c8 e;have hz:vs.length<=az:=by rw[← rel.length];exact z
  have hl:(a0f bM k v).length<=az:=by have:=jm bM k v;omega
  refine wpAny_setItem_pairs (hsz:=hz) (rB ry) dd λh' sf hs=>h _ ?_;have he:∃ q,h'.get? a=O q:=let ⟨q,_,_,hq,_⟩:=sf;⟨q,hq⟩;exact zk I (by rw[e];exact gy) hs he (Ea hl hd (rel.put k rv) sf)
 .subst ey eH;cases (show u=b8 b from ry);obtain⟨z,hd,xs,rel,dd⟩:=Vc I.c8 e;have hz:xs.length<=az:=by rw[← jk rel];exact z
  have hl:(a0f bM k v).length<=az:=by have:=jm bM k v;omega
  refine wpAny_setItem_heap (hsz:=hz) (oz hu) (vE I.c8 eb) dd λh' sf hs=>h _ ?_;obtain⟨q,es,ep,hq,h2,h3,h4,_,h5⟩:=sf;refine zk I (by rw[e];exact gy) hs ⟨q,hq⟩ ⟨hl,hd,_,(rel.put k eb rv).keeps λc ys ec=>?_,q,es,ep,hq,h2,h3,h4,h5⟩;rw[bh (W9 ec e (λz=>nomatch z))];exact ec
end
section
variable {X:Cx}{pins:List (ai × fY)}{J:St}{H:Hp}{s:aq}{a:ai}{bM:List (Key × V)}{k:Key}{u:ae}{A:cK}{E:ae->aq->Prop}
theorem Vb{Q:ae->aq->Prop}(I:Inv X pins J H s)(e:Rd H a (.dK bM))(h:∀ t s',Inv X pins J H s'->Q (.int bM.length t) s'):wpAny (br X.prog X.w) A (BK (.builtin "len") [.ref a]) Q E s:=by
 obtain⟨z,hd,vs,rel,dd⟩:=vn I.c8 e;refine call_len_dict hd dd (by rw[← rel.length];rw[DE] at z;omega) ?_;rw[← rel.length];exact h _ _ (I.tok _)
end
def Np(i:cF):Prop:=∀ ov iv,DF i false ov iv=operate [ov,iv] (zm ov iv)
theorem GH{prog:aS}{w:bv}{A:cK}{E:ae->aq->Prop}{s:aq}{env:DX}{value slice:cF}{pos:jd}{T id:String}{Q:ae->aq->Prop}
  (hl:Yo (.type T) "__getitem__" = pure (O (.builtin id))) (hs:Np slice)
  (h:wpAny (br prog w) A (dP value env) (λo s₁=>wpAny (br prog w) A (dP slice env) (λi s₂=>s₂.TypeIs o T/\wpAny (br prog w) A (zm o i) Q E s₂) E s₁) E s) :
  wpAny (br prog w) A (dP (.Subscript value slice pos) env) Q E s:=by
 refine U3 (fL h (λo s₁ h₁=>fL h₁ (λi s₂ h₂=>?_) λ_ _ x=>x) λ_ _ x=>x);obtain⟨hT,h₂⟩:=h₂;unfold Mn;refine ah ?_;rw[getitemInPython_of_ne hT.not_modules];refine ah (wpAny_specialOf hT hl ?_);have fin:wpAny (br prog w) A (DF slice false o i) (λr s₃=>wpAny (br prog w) A (letTemporaryGo value o r >>= λ_=>pure r) Q E s₃) E s₂:=by
  rw[hs o i];exact wpAny_operating (fL h₂ (λr s₃ h₃=>ah (wpAny_letTemporaryGo (aF h₃))) λ_ _ x=>x)
 first
  |exact aF (ah fin)
  |exact ah (aF (ah fin))
  |exact ah fin
theorem BS{X:Cx}{pins:List (ai × fY)}{J:St}{H:Hp}{s:aq}{a:ai}{y:V}{o:Option V}(I:Inv X pins J H s)(g:u4 H a y o):s.TypeIs (.ref a) "dict" := by
 rcases g with ⟨bM,k,e,_,_⟩ | ⟨bM,k,b,e,_,_,_⟩
 .obtain⟨_,_,vs,_,dd⟩:=vn I.c8 e;exact dd.typeIs
 .obtain⟨_,_,xs,_,dd⟩:=xT I.c8 e;exact dd.typeIs
def X4(td ty:TE):TE:=λ J H Q=>td J H λx H1=>ty J H1 λy H2=>∃ a v,x=.ref a/\u4 H2 a y (O v)/\Q v H2
def PB(ty td:TE):TE:=λ J H Q=>ty J H λy H1=>td J H1 λx H2=>∃ a o,x=.ref a/\u4 H2 a y o/\Q (.bl (!o.isSome)) H2
def XM(td ty tv:TE):TS:=λD J H=>tv J H λv H1=>td J H1 λx H2=>ty J H2 λy H3=>∃ a H4,x=.ref a/\GX H3 a y v H4/\D.nx J H4
section
variable {X:Cx}{o i e value:cF}{pos pos' AE:jd}{td ty tv:TE}
theorem OZ(hu:X.A.units+1<zd)(ho:PE X o td)(hi:PE X i ty)(hs:Np i):PE X (.Subscript o i pos) (X4 td ty):=by
 intro pins s J H Q I h;refine GH xI.lookup hs (eC (ho pins s J H _ I h) λu s1 cX=>?_);obtain⟨x,H1,I1,rx,q1⟩:=cX;refine eC (hi pins s1 J H1 _ I1 q1) λiv s2 uI=>?_;obtain⟨y,H2,I2,ry,a,v,ex,g,q2⟩:=uI;subst ex;obtain rfl:u=b8 a:=rx;exact⟨BS I2 g,HJ hu I2 g ry λw' s3 I3 xh=>⟨v,H2,I3,xh,q2⟩⟩
theorem IS(hu:X.A.units+1<zd)(hi:PE X i ty)(ho:PE X o td):PC X .NotIn i o (PB ty td):=by
 intro pins s J H Q I h;refine eC (hi pins s J H _ I h) λiv s1 cX=>?_;obtain⟨y,H1,I1,ry,q1⟩:=cX;refine eC (ho pins s1 J H1 _ I1 q1) λu s2 uI=>?_;obtain⟨x,H2,I2,rx,a,ov,ex,g,q2⟩:=uI;subst ex;obtain rfl:u=b8 a:=rx;exact NI hu I2 g ry λs3 I3=>⟨.bl (!ov.isSome),H2,I3,Z,q2⟩
theorem Gi(hu:X.A.units+1<zd)(ho:PE X o td)(hi:PE X i ty)(hv:PE X value tv)(hs:qO value (O (.Subscript o i pos')) pos.line X.env=pure false) :
  PS X (.Assign [.Subscript o i pos'] value pos) (XM td ty tv):=by
 intro pins s J H D I h;refine wpAny_Assign_Subscript (eC (hv pins s J H _ I h) λr s1 cX=>?_) hs;obtain⟨v,H1,I1,rv,q1⟩:=cX;refine eC (ho pins s1 J H1 _ I1 q1) λu s2 uI=>?_;obtain⟨x,H2,I2,rx,q2⟩:=uI;refine eC (hi pins s2 J H2 _ I2 q2) λiv s3 Dz=>?_;obtain⟨y,H3,I3,ry,a,H4,ex,g,q3⟩:=Dz;subst ex;obtain rfl:u=b8 a:=rx;exact HK hu I3 g ry rv λs4 I4=>⟨J,H4,I4,q3⟩
end
theorem Kh{P:aS}{w:bv}{H:Hp}(h:cR)(hb:d4<h.objs.size):gc P w H (h.push { cls:=.type "dict",data:=.dict #[] }) h.objs.size (.dK []) :=
 ⟨bq _,beq_eq_false_iff_ne.mpr (cg (aP hb)),[],.nil,Fv h⟩
def TN:TE:=λ_ H Q=>∀ p,H p=Y->Q (.ref p) (upd H p (.dK []))
section
variable {X:Cx}{pos:jd}
theorem Cw:PE X (.Dict [] [] pos) TN:=λpins s J H Q I h =>
 wpAny_Dict_empty ⟨.ref s.heap.objs.size,_,I.laid (a:=s.heap.objs.size) (o:=.dK []) (t':=s.toks) (λ_ _ q=>ar _ q) (ay _) (Kh s.heap I.big),Z,h _ (I.c8.fresh (ay _))⟩
end
structure M1(X:Cx)(o:cF)(m:aE)(apos:jd)(e:cF)(lj:jd):Prop where
 base:kf o m X.env (dP o X.env)=dP o X.env
 HL:((gB lj (bD [e] X.env)).all (λx=>!x.1) && (qz lj (k5 [] X.env)).all (λx=>x.1.isSome)
  && decide (([e]:List cF).length+([]:List Fw).length+(if ([]:List Fw).isEmpty then 0 else 1)<30))=true
 line:(apos.endLine == lj.line)=true
 trees:gB lj (bD [e] X.env)=[(false,dP e X.env)]
structure M2(X:Cx)(o:cF)(m:aE)(apos:jd)(e f:cF)(lj:jd):Prop where
 base:kf o m X.env (dP o X.env)=dP o X.env
 HL:((gB lj (bD [e,f] X.env)).all (λx=>!x.1) && (qz lj (k5 [] X.env)).all (λx=>x.1.isSome)
  && decide (([e,f]:List cF).length+([]:List Fw).length+(if ([]:List Fw).isEmpty then 0 else 1)<30))=true
 line:(apos.endLine == lj.line)=true
 trees:gB lj (bD [e,f] X.env)=[(false,dP e X.env),(false,dP f X.env)]
def Z8(H:Hp)(a:ai):Prop:=(∃ bM,Rd H a (.dK bM))\/∃ bM,Rd H a (.dT bM)
theorem KR{X:Cx}{pins:List (ai × fY)}{J:St}{H:Hp}{s:aq}{a:ai}(I:Inv X pins J H s)(d:Z8 H a) :
  s.TypeIs (.ref a) "dict" /\ (∀ b,b8 a=.ref b->∃ ob,s.heap.get? b=O ob/\ob.dict=Y)/\(a == d4)=false:=by
 rcases d with ⟨bM,e⟩ | ⟨bM,e⟩
 .obtain⟨_,hd,vs,_,dd⟩:=vn I.c8 e;refine⟨dd.typeIs,λb q=>?_,hd⟩;cases q;obtain⟨ob,_,_,h1,h2,_⟩:=dd;exact⟨ob,h1,h2.2.1⟩
 .obtain⟨_,hd,xs,_,dd⟩:=xT I.c8 e;refine⟨dd.typeIs,λb q=>?_,hd⟩;cases q;obtain⟨ob,_,_,h1,h2,_⟩:=dd;exact⟨ob,h1,h2.2.1⟩
section
variable {X:Cx}{pins:List (ai × fY)}{J:St}{H:Hp}{s:aq}{a:ai}{y d:V}{u r:ae}{o:Option V}{A:cK}{E:ae->aq->Prop}
theorem RD{Q:ae->aq->Prop}(hu:A.units+1<zd)(I:Inv X pins J H s)(g:u4 H a y o)(ry:RelV y u)(h:∀ w' s',Inv X pins J H s'->RelV (o.getD .fC) w'->Q w' s') :
  wpAny (br X.prog X.w) A (BK (.builtin "dict.get") [.ref a,u]) Q E s:=by
 rcases g with ⟨bM,k,e,ey,l⟩ | ⟨bM,k,b,e,ey,eb,l⟩
 .subst ey;obtain⟨z,hd,vs,rel,dd⟩:=vn I.c8 e;refine NF oK dd.typeIs Bx (AS _ _) (meets_dict_get (cT X.prog X.w) a (rB ry) hd) ⟨_,dd.mapOf,h _ _ (I.tok _) ?_⟩;rw[l];exact(rel.val k).getD Z
 .subst ey;cases (show u=b8 b from ry);obtain⟨z,hd,xs,rel,dd⟩:=xT I.c8 e;refine NF oK dd.typeIs Bx (AS _ _) (meetsH_dict_get (uU (cT X.prog X.w)) a b hd) ⟨oz hu,k,xs,vE I.c8 eb,dd,h _ _ (I.tok _) ?_⟩;rw[l];exact(rel.val k).getD Z
end
def TM(td ty:TE):TE:=λ J H Q=>td J H λx H1=>∃ a,x=.ref a/\Z8 H1 a/\ty J H1 λy H2=>∃ o,u4 H2 a y o/\Q (o.getD .fC) H2
section
variable {X:Cx}{o e f:cF}{apos lj:jd}{td ty tx:TE}
theorem Lv(hu:X.A.units+1<zd)(ho:PE X o td)(he:PE X e ty)(m:M1 X o "get" apos e lj):PE X (.Call (.Attribute o "get" apos) [e] [] lj) (TM td ty):=by
 intro pins s J H Q I h;refine ZT m.base m.HL m.line AT oK PySem.F.type_dict_get (eC (ho pins s J H _ I h) λu s1 cX=>?_);obtain⟨x,H1,I1,rx,a,ex,d,q1⟩:=cX;subst ex;obtain rfl:u=b8 a:=rx;obtain⟨t1,t2,_⟩:=KR I1 d;refine⟨t1,t2,?_⟩;rw[m.trees];refine ke Z (qp (jz (eC (he pins s1 J H1 _ I1 q1) λiv s2 cX=>?_)));obtain⟨y,H2,I2,ry,ov,g,q2⟩:=cX;refine nM ?_;exact RD hu I2 g ry λw' s3 I3 xh=>⟨_,H2,I3,xh,q2⟩
end
end L2
namespace Yy
open PySem PySem.W PySem.Calls PyProof.Rows
theorem ui{P:Nr}{h:cR}:∀(ns:List Int)(vs:List ae),WellAll P h vs (ns.map WData.int)->dB vs ns:=by
 intro ns
 induction ns with
 |nil =>
  intro vs w;rw[Fz] at w;cases w;exact .nil
 |cons n ns ih =>
  intro vs w;rw[bY] at w;cases w with
  |cons a b =>
   cases a;exact .cons _ _ (ih _ b)
theorem Ja{l:OpenLaw}{n:Nat}(hn:l.most=O n){P:Nr}{h:cR}{args:List WData}{vals:List ae}
  (N4:l.row.toRowW.claim.pre args=true) (oT:WellAll P h vals args) :
  ∃ a vs ns,vals=[b8 a]/\args=[WData.list (ns.map WData.int)]/\h.get? a=O { cls:=.type "list",data:=.seq vs.toArray }/\dB vs ns/\ns.length<=n:=by
 have hsh:WShape.hasAll [] args [.list .int]=true:=(pre_splitW N4).1;have hc:l.pre.holds [] { args:=args }=true:=(pre_splitW N4).2;obtain⟨d,r,rfl,h1,h2⟩:=hasAllW_cons hsh;obtain rfl:=hasAllW_nil h2;obtain⟨xs,rfl,h3⟩:=hasW_list h1;obtain⟨ns,rfl⟩:=items_int h3;have hlen:ns.length<=n:=by
  unfold OpenLaw.pre at hc;have h4:(WTm.not (.lt (.lit (.int (n:Int))) (.len (.arg 0)))).holds [] { args:=[.list (ns.map .int)] }=true:=by
   have h4:=(holds_andW hc).1;rw[hn] at h4;exact h4
  have h5:=condW_of h4 (w_not (w_lt w_lit (w_len_list (w_arg Z))));rw[ab] at h5;refine oJ λq=>?_;have q':(n:Int)<((ns.length:Nat):Int):=by omega
  first
   |(rw[decide_eq_true q'] at h5;exact absurd h5 (by decide))
   |(simp at h5;omega)
 cases oT with
 |cons w1 w2 =>
  cases w2;cases w1 with
  |list ho RP=>exact⟨_,_,ns,Z,Z,ho,ui ns _ RP,hlen⟩
theorem IT(l:OpenLaw)(args:List WData):l.row.toRowW.claim.post args (.bool true) args=true :=
 postW_of (r:=l.row.toRowW) (X:=(true == true))
  (show WShape.has [] (.bool true) .bool=true by first | rfl | decide | simp[WShape.has,WShape.arms,WShape.armsAll])
  (show(WTm.eq .res (.lit (.bool true))).value [] { args:=args,res:=O (.bool true),after:=args }=O (.bool (true == true)) from w_eq_bool (w_res Z) w_lit) Z
theorem BG{l:OpenLaw}{n:Nat}{q:aS}{loose:List aE}{XP:(aE->Option ae)->cR->Prop}{YP:bv->cR->Prop}{d:DefRec}
  (hn:l.most=O n) (hdf:d.params.defaults=[])
  (BK:∀ (w:bv) (s₀ s₁:aq) (mg mb:aE->Option ae) (fa:ai) (o:fY) (pm cd doc:ae) (a:ai) (vs:List ae) (ns:List Int),
   Ground q loose [] XP w s₀ mg mb s₁.heap->YP w s₁.heap ->
   s₁.heap.get? fa=O o->o.data=.func (docDef d.name d.params d.body d.scope pm cd doc)->s₁.heap.CodeRec cd d.name->mg d.name=O (.ref fa) ->
   s₁.heap.get? a=O { cls:=.type "list",data:=.seq vs.toArray }->dB vs ns->ns.length<=n->s₁.gens=#[] ->
   codeAny (br l.prog w) zi (.call (.ref fa) ⟨[.ref a],[]⟩) (λr s'=>r=.ok (.ret (.bool true))/\OldK s₁.heap s'.heap/\s'.os=s₁.os/\qU s'.gens) s₁) :
  WalkO q loose XP YP l.row.toRowW d [] (λf vs=>aaq f vs):=by
 intro w s₀ s₁ mg mb G E1 fa o pm cd doc dV kV ho hd Kv hD Qw hg args vals as N4 ahE hrd oT Y9;obtain rfl:dV=.none:=Dflts.none hD hdf;obtain rfl:kV=.none:=Dflts.noKw hD;obtain⟨a,vs,ns,rfl,rfl,Sd,hints,hlen⟩:=Ja hn N4 oT;refine enter_call (lu (BK w s₀ s₁ mg mb fa o pm cd doc a vs ns G E1 ho (fd_plain hd) Kv Qw Sd hints hlen hg) λr s' hq=>?_);obtain⟨rfl,h2,h3,h4⟩:=hq;exact⟨.inl ⟨.bool true,.bool true,[],Z,λ_=>rfl,.bool true,IT l _,λ_=>⟨AM,λ_ hm=>(nomatch hm)⟩⟩,h2,h3,h4⟩
end Yy
namespace L2
open PySem PySem.Spec PyProof.Rows
theorem yy:∀{vs:List ae}{ns:List Int},dB vs ns->Vals (ns.map V.int) vs
 |_,_,.nil=>.nil
 |_,_,.cons n t h=>.cons ⟨t,Z⟩ (yy h)
def Rm(H:Hp):Prop:=∀ b,H b=Y\/∃ o xs,H b=O (.Du o (.lst xs))
theorem KU{P:aS}{w:bv}{K:af}{mg mb:aE->Option ae}{CX:Ni}{k:Nat}{fa a:ai}{fd:iJ}{x:aE}{sp:Sp}{s₁:aq}{vs:List ae}{ns:List Int}
  (KX:K.In s₁.heap) (kc:s₁.heap.Ns bo mg) (hb:s₁.heap.Ns Hh mb) (hbb:∀ x:aE,x ≠ "__name__" -> mb x=n4 x) (aby:s₁.heap.NoLimit) (hg:s₁.gens=#[])
  (ha:s₁.heap.get? a=O { cls:=.type "list",data:=.seq vs.toArray }) (hi:dB vs ns) (hl:ns.length<=az) (hr:ig k zi)
  (F:∀ base:cR,K.In base->base.Ns bo mg->ow P w K mg base CX k fa fd [x] sp) (Vv:∀(s:aq)(u:ae),Nh s fd ⟨[u],[]⟩ [(x,u)])
  (M8:∀ H:Hp,Rm H->bI K H a (ns.map V.int)->sp [.ref a] H (λv _=>v=.bl true) λ_ _ _=>False)
  (hCX:∀ H e s',CX [] H s₁ (λ_ _ _=>False) e s'->False) :
  codeAny (br P w) zi (.call (.ref fa) ⟨[.ref a],[]⟩) (λr s'=>r=.ok (.ret (.bool true))/\OldK s₁.heap s'.heap/\s'.os=s₁.os/\qU s'.gens) s₁:=by
 have rv:=yy hi;have acA:=hi.length;have core : ∀ H:Hp,Rm H->bI K H a (ns.map V.int)->pU P w H s₁.heap->(∀ b,H b≠Y->b=a)->(H a≠Y->K.lookup a=Y) ->
   codeAny (br P w) zi (.call (.ref fa) ⟨[.ref a],[]⟩) (λr s'=>r=.ok (.ret (.bool true))/\OldK s₁.heap s'.heap/\s'.os=s₁.os/\qU s'.gens) s₁:=by
  intro H hO hS c8 hA hK;have FJ:∀{b:ai}{o:fY},s₁.heap.get? b=O o->H b=Y->(zr s₁.heap H).get? b=O o:=λe n=>KB e n;have Xe:∀{b:ai}{o:fY}{es:Array Bv}{ep:Nat},s₁.heap.get? b=O o->o.data=.dict es ep->H b=Y:=λ{b o es ep} e d=>by
   cases q:H b with
   |none=>rfl
   |some u =>
    have e':b=a:=hA b (by rw[q];simp);subst e';rw[ha] at e;cases e;have d':Data.seq vs.toArray _=Data.dict es ep:=d;cases d'
  have Zx:∀{b:ai}{m:aE->Option ae},s₁.heap.Ns b m->(zr s₁.heap H).Ns b m:=λ{b m} ⟨o,es,ep,e,d,r⟩=>⟨o,es,ep,FJ e (Xe e d),d,r⟩
  have hKb:K.In (zr s₁.heap H):=λb o e=>FJ (KX b o e) (by
   cases q:H b with
   |none=>rfl
   |some u =>
    have e':b=a:=hA b (by rw[q];simp);subst e';rw[hK (by rw[q];simp)] at e;cases e)
  have hM:Mod K mg (zr s₁.heap H):=⟨hKb,Zx kc,⟨mb,Zx hb,hbb⟩,let ⟨mc,h1,h2⟩:=aby;⟨mc,Zx h1,h2⟩⟩
  have e0:DY P w K mg (zr s₁.heap H) zi [] s₁ H:=⟨Z,hM,λb o e=>OC e,G2 (Ie _ _),trivial,λb hb=>absurd (show b∈([]:List ai) from hb) (by simp),c8,.of_eq hg⟩
  refine lu ((F _ hKb (Zx kc)).run zi [] s₁ H ⟨[.ref a],[]⟩ [.ref a] [.ref a] _ _ hr e0 (Vv s₁ (.ref a)) (.cons Z .nil) (M8 H hO hS)) λr s' h=>?_;cases r with
  |error e=>exact(hCX H e s' h).elim
  |ok fl =>
   cases fl with
   |next=>exact e6 h
   |brk=>exact e6 h
   |cont=>exact e6 h
   |ret u =>
    obtain⟨v,H',os,bare,un,abH,r',q⟩:=h;have q':v=.bl true:=q;subst q';obtain rfl:u=lf true:=r';refine⟨Z,OldK.of_keep λb o e=>?_,os,bare⟩;cases q:H b with
    |none=>exact un.keep b o e q (by intro z;exact absurd (show b∈([]:List ai) from z) (by simp)) (by simp)
    |some u =>
     rcases hO b with z | ⟨ob,xs,z⟩
     .rw[q] at z;cases z
     .have z2:=un.wV b ob _ z;obtain⟨e1,_⟩:=c8 b _ z;obtain⟨e2,_⟩:=abH b _ z2;rw[e] at e1;cases e1;exact e2
 cases hk:K.lookup a with
 |some o =>
  have e:=KX a o hk;rw[ha] at e;cases e;refine core (λ_=>Y) (λ_=>.inl Z) (.inr ⟨_,vs.toArray,_,hk,Z,Z,Z,by rw[aZ,acA];exact hl,by simpa using rv⟩) (λb u z=>by have z':(Y:Option HO)=O u:=z;cases z') (λb z=>absurd Z z) λz=>absurd Z z
 |none =>
  refine core (λb=>if b=a then O (.Du { cls:=.type "list",data:=.seq vs.toArray } (.lst (ns.map V.int))) else Y) (λb=>?_) (.inl (.inr ⟨{ cls:=.type "list",data:=.seq vs.toArray },if_pos Z⟩)) (λb u z=>?_) (λb z=>?_) λ_=>hk
  .by_cases hb:b=a
   .exact .inr ⟨_,_,if_pos hb⟩
   .exact .inl (if_neg hb)
  .by_cases hb:b=a
   .have z':=(if_pos hb).symm.trans z;cases z';subst hb;exact⟨ha,by rw[ab];exact hl,vs,_,rv,ha⟩
   .have z':=(if_neg hb).symm.trans z;cases z'
  .by_cases hb:b=a
   .exact hb
   .exact absurd (if_neg hb) z
end L2
/- THE aaa Nw (shape;LID,My.* are Yv):
   My.Adr: a structure of JK addresses ade adp WX names (classes,HM);My.Txt K t: a structure (Prop) of JK equations over K;
   My.Fq:{K} {implicit addresses ..} (e1:nsIn K bo "law" = O (O (.ref f))) (e2:K.lookup f=O ⟨oc,od,.func (fnOf "law" "law" params body scope dV kV doc pm an dW ct),sl⟩) (e3:codeIn K dW "law" = true) ..:∃ t,My.Txt K t
set_option maxRecDepth 100000 in
set_option maxHeartbeats 0 in
theorem PySem.Challenge.cw_LID_holds : PySem.Challenge.rw_LID.Holds := by
 w_on;o_law;k_head;(case hw=>w_witness2)
 k_fill
 refine L2.PK (l:=PySem.Challenge.rw_LID) (n:=63) (k:=40) (x := "script") (CX:=λw=>..) (sp:=λ_=>My.TC) Z (by decide) Z ⟨Z,by decide,by decide⟩ (λw h E1=>Nu E1) ?F ?S ?C
 case F =>
  intro w mg fa h KX G Qw;have T:∃ t,My.Txt (L2.Z9 KX) t:=by
   dsimp only [L2.Z9]                          -- K acB XZ as «<heap const> w.params» for k_is;refine' My.Fq ?e1 ?e2 ?e3 ..
   (case e1=>PySem.W.k_is)                    -- in JK order: a name -> ci address -> ci object -> ci parts
   (case e2=>PySem.W.k_is)
   ..
  obtain⟨t,T⟩:=T;have e0:=Qw.symm.trans (P8 KX G T.law);cases e0                                       -- fa is JK WW own address;exact⟨_,λs u=>.of_eq Z,λbase kb nb=>My.Ey T kb nb⟩     -- if «.of_eq rfl» comes too early: refine' ⟨_,?b,λbase kb nb=>My.Ey T kb nb⟩;exact λs u=>.of_eq Z
 case S=>exact λw H a ns hl hO hS=>..
 case C=>exact ..
(JK tactic k_is has no namespace: write k_is) -/
namespace L2
open PySem PySem.Spec PyProof.Rows
abbrev DR:Ni:=λ_ _ _ _ _ _=>False
abbrev E0:XK:=λ_ _ _=>False
theorem yk{X:Cx}:a0n DR X E0:=λ_ _ _ _ _ _ _ h=>h.elim
structure Jt(K:af)(x qual:aE)(st:cH)(f:ai)(fd:iJ):Prop where
 ex:∃(oc:ae)(od:Option ai)(kV doc pm:ae)(an:Option ai)(dW ct:ae)(QJ:Array (Option ae)),
  fd=lM x qual (jJ st) (gM st) (aC st) .none kV doc pm an dW ct/\K.lookup f=O ⟨oc,od,.func fd,QJ⟩/\wQ K dW qual=true
 kp:ix K (.ref f)=true
section
variable {P:aS}{w:bv}{K:af}{mg:aE->Option ae}{base:cR}
theorem Jt.ok{x qual:aE}{st:cH}{f:ai}{fd:iJ}{N ps:List aE}{k:Nat}{sp:Sp}(F:Jt K x qual st f fd)(S:bg N ps (aC st))(len:∀ vs H Q E,sp vs H Q E->vs.length=ps.length)
  (rm:∀ (dW:ae) (A:cK) (outer:List DX) (s:aq) (H:Hp) (vs:List V) (Q:VK) (E:XK),ig k (A.deeper (qc qual (aC st) s.heap.objs.size f dW))->sp vs H Q E ->
   ∃ t,AR (zj DR P w K mg base N qual (aC st) f dW A outer s H E).Nb (gM st) t/\t { nx:=λ_ H'=>Q .fC H',rt:=Q } (start N vs) H):ow P w K mg base DR (k+1) f fd ps sp:=by
 obtain⟨oc,od,kV,doc,pm,an,dW,ct,QJ,rfl,lk,Kv⟩:=F.ex;refine Vg lk Kv S len λA outer s H vs Q E hr M8=>?_;obtain⟨t,h,q⟩:=rm dW A outer s H vs Q E hr M8;exact⟨t,h.Nb,q⟩
theorem Jt.binds{x qual:aE}{st:cH}{f:ai}{fd:iJ}{ps:List aE}(F:Jt K x qual st f fd)
  (h:∀(kV doc pm:ae)(an:Option ai)(dW ct:ae)(us:List ae),us.length=ps.length->Hg (lM x qual (jJ st) (gM st) (aC st) .none kV doc pm an dW ct) ⟨us,[]⟩=pure (ps.zip us)):Binds K fd ps []:=by
 obtain⟨oc,od,kV,doc,pm,an,dW,ct,QJ,rfl,lk,Kv⟩:=F.ex;exact .all (h kV doc pm an dW ct)
theorem Km{x qual:aE}{st:cH}{f:ai}{oc:ae}{od an:Option ai}{QJ:Array (Option ae)}{kV doc pm dW ct:ae}(l:K.lookup f=O ⟨oc,od,.func (lM x qual (jJ st) (gM st) (aC st) .none kV doc pm an dW ct),QJ⟩)
  (c:wQ K dW qual=true) (k:ix K (.ref f)=true):Jt K x qual st f (lM x qual (jJ st) (gM st) (aC st) .none kV doc pm an dW ct):=⟨⟨oc,od,kV,doc,pm,an,dW,ct,QJ,Z,l,c⟩,k⟩
end
section
variable {X:Cx}
theorem pv(i:Nat){x:aE}{pos:jd}(hN:X.N[i]?=O x:=by rfl)(hv:Vis X.env.scope x:=by first | exact aY Z | exact uy (aY Z) | exact uy (uy Z))(hd:(x == ("__debug__" : aE))=false:=by decide)
  (Kv:(x == ("__classdict__" : aE))=false:=by decide):PE X (.Name x pos) (Yh i):=Tk hN hv hd Kv
theorem Hn:jy X (.builtin "len") (λxs H Q=>∃ a bM,xs=[V.ref a]/\H a=O (.dK bM)/\Q (.int bM.length) H):=by
 intro pins s J H xs us Q I r h;obtain⟨a,bM,rfl,ha,q⟩:=h;obtain⟨u,rfl,ru⟩:=a0j r;cases ru;exact Vb I (.inl ha) λt s' I'=>⟨.int bM.length,H,I',⟨t,Z⟩,q⟩
end
theorem gO{A B:Prop}(h:B):if false=true then A else B:=by
 rw[if_neg bc];exact h
theorem KS{A B:Prop}(h:A):if true=true then A else B:=by
 rw[if_pos rfl];exact h
theorem gN{c A B:Prop}[Decidable c](h1:c->A)(h2:¬ c->B):if c then A else B:=by
 by_cases h:c
 .rw[if_pos h];exact h1 h
 .rw[if_neg h];exact h2 h
def aU(H H':Hp):Prop:=∀ b o,H b=O o->H' b=O o
theorem aU.refl(H:Hp):aU H H:=λ_ _ h=>h
theorem aU.trans{H H1 H2:Hp}(a:aU H H1)(b:aU H1 H2):aU H H2:=λc o h=>b c o (a c o h)
theorem aU.free{H H':Hp}(e:aU H H'){l:ai}(h:H' l=FB):H l=FB:=by
 cases q:H l with
 |none=>rfl
 |some o =>
  rw[e l o q] at h;cases h
theorem aU.seq{K:af}{H H':Hp}{a:ai}{xs:List V}(e:aU H H')(h:bI K H a xs):bI K H' a xs:=by
 rcases h with (h | ⟨o,h⟩) | h
 .exact .inl (.inl (e _ _ h))
 .exact .inl (.inr ⟨o,e _ _ h⟩)
 .exact .inr h
theorem vm{env:DX}:∀(names:List (aE × t6))(cs:List (aE × ai)),(∀ x∈names,x.2=.free->∃ c,env.cells.lookup x.1=O c)->(∀ x c,cs.lookup x=O c->env.cells.lookup x=O c) ->
  ∃ cl:List (aE × ai),(forIn names cs λx r=>if (x.snd == cQ)=true then (do let a ← cellOf env x.fst;pure (eW ((x.fst,a)::r)):U2 (ForInStep (List (aE × ai)))) else pure (eW r))=pure cl /\
   (∀ x c,cl.lookup x=O c->env.cells.lookup x=O c)/\∀ x,((x,cQ)∈names\/∃ c,cs.lookup x=O c)->∃ c,cl.lookup x=O c
 |[],cs,_,h2=>⟨cs,Z,h2,λx hx=>hx.elim (λz=>nomatch z) id⟩
 |(n, k)::r,cs,h1,h2=>by
  rw[Rk]
  by_cases hk:k=.free
  .subst hk;obtain⟨c,hc⟩:=h1 (n,.free) aL Z;obtain⟨cl,e,q1,q2⟩:=vm r ((n,c)::cs) (λx hx=>h1 x (aW _ hx)) (λx d hd=>by
    rw[dc] at hd;split at hd
    .rename_i hx;cases hd;have:x=n:=by simpa using hx
     subst this;exact hc
    .exact h2 x d hd)
   refine⟨cl,?_,q1,λx hx=>q2 x ?_⟩
   .simp only [beq_self_eq_true,if_true];rw[show cellOf env n=pure c by unfold cellOf;rw[hc]];simp only [pure_bind];exact e
   .rcases hx with hx | ⟨d,hd⟩
    .rcases aG.mp hx with z | z
     .cases z;exact .inr ⟨c,by rw[dc];simp⟩
     .exact .inl z
    .refine .inr ?_;rw[dc];split
     .exact⟨_,Z⟩
     .exact⟨d,hd⟩
  .obtain⟨cl,e,q1,q2⟩:=vm r cs (λx hx=>h1 x (aW _ hx)) h2;have hb:(k == cQ)=false:=by simpa using hk
   refine⟨cl,?_,q1,λx hx=>q2 x ?_⟩
   .simp only [hb,mX,if_false,pure_bind];exact e
   .rcases hx with hx | hx
    .rcases aG.mp hx with z | z
     .cases z;exact absurd Z hk
     .exact .inl z
    .exact .inr hx
theorem FM{env:DX}{scope:lp}(h:∀ x∈scope.names,x.2=.free->∃ c,env.cells.lookup x.1=O c) :
  ∃ cl:List (aE × ai),closureFor scope env=pure cl/\(∀ x c,cl.lookup x=O c->env.cells.lookup x=O c)/\∀ x,(x,cQ)∈scope.names->∃ c,cl.lookup x=O c:=by
 obtain⟨cl,e,q1,q2⟩:=vm scope.names [] h (λx c z=>by simp at z);refine⟨cl,?_,q1,λx hx=>q2 x (.inl hx)⟩;simp only [closureFor];rw[e];rfl
theorem Hv{prog:aS}{w:bv}{A:cK}{R:BC->aq->Prop}{s:aq}{elt target iter:cF}{ifs:List cF}{scope:lp}{pos:jd}{it acc:ae}{env:DX}(I:Nat->aq->Prop)
  (turn : ∀ n s,I n s->wpAny (br prog w) A (ms it) (λr s₁=>match r with
   |none=>R (.ok .next) s₁
   | some v=>wpAny (br prog w) A (si target it v) (λ_ s₁'=>wpAny (br prog w) A (wR target env v) (λ_ s₂ =>
     wpAny (br prog w) A (forIn ifs true λc r=>if r=true then do let ok ← Og c env (dP c env);pure (eW ok) else pure (eW r)) (λok s₃ =>
      if ok=true then wpAny (br prog w) A (dP elt env) (λx s₄ =>
       wpAny (br prog w) A (BK (.builtin "list.append") [acc,x]) (λ_ s₅=>∃ m,m<n/\I m s₅) (λ_ _=>False) s₄) (λ_ _=>False) s₃
      else ∃ m,m<n/\I m s₃) (λ_ _=>False) s₂) (λ_ _=>False) s₁') (λ_ _=>False) s₁) (λ_ _=>False) s)
  (n:Nat) (h:I n s) :
  codeAny (br prog w) A (.compLoop (.ListComp elt [⟨target,iter,ifs,0⟩] scope pos) 0 it acc env) R s:=by
 refine codeAny_loop Z I (λn s hI=>?_) n h;show wpAny _ A ((compTurn (.ListComp elt [⟨target,iter,ifs,0⟩] scope pos) 0 it acc env).onRaise (λx=>do noteFrame x env;theTreesLotGoes x)) _ _ s;refine wpAny_noted ?_;rw[compTurn_list];refine ah (MF (ah (fL (turn n s hI) (λr s₁ h₁=>?_) λ_ _ h'=>h'.elim)));cases r with
 |none=>exact aF h₁
 |some v =>
  refine ah (fL h₁ (λ_ s₁' h₁'=>?_) λ_ _ h'=>h'.elim);refine ah (fL h₁' (λ_ s₂ h₂=>ah (fL h₂ (λok s₃ h₃=>?_) λ_ _ h'=>h'.elim)) λ_ _ h'=>h'.elim);cases ok with
  |false=>exact aF ⟨Z,h₃⟩
  |true =>
   exact ah (ah (fL h₃ (λx s₄ h₄=>ah (fL h₄ (λ_ s₅ h₅=>aF (aF ⟨Z,h₅⟩)) λ_ _ h'=>h'.elim)) λ_ _ h'=>h'.elim))
abbrev ii(X:Cx)(scope:lp)(N:List aE)(cl:List (aE × ai))(C:ai)(s:aq)(H:Hp)(ex:List ai)(pn:List (ai × fY)):Cx where
 prog:=X.prog
 w:=X.w
 K:=X.K
 mg:=X.mg
 base:=X.base
 A:=X.A
 N:=N
 s₀:=s
 H₀:=H
 env:=compEnvC scope cl C X.env
 outer:=X.stack
 stack:=X.stack
 ex:=ex
 calm:=X.calm
 fn:=λ_=>false
 pn:=pn
 xe:=λ_ _=>False
def P6(X:Cx)(ifs:List cF)(t:TT):Prop :=
 ∀(pins:List (ai × fY))(s:aq)(J:St)(H:Hp)(Q:Bool->Hp->Prop),Inv X pins J H s->t J H Q ->
  wpAny (br X.prog X.w) X.A (forIn ifs true λc r=>if r=true then do let ok ← Og c X.env (dP c X.env);pure (eW ok) else pure (eW r)) (TP X pins J Q) X.xe s
def TW:TT:=λ_ H Q=>Q true H
theorem gm{X:Cx}:P6 X [] TW:=λ_ _ _ H _ I h=>wpAny_tests_nil ⟨H,I,h⟩
theorem mH{X:Cx}{c:cF}{t:TT}(h:PT X c t):P6 X [c] t:=λpins s J H Q I hq=>wpAny_tests_one (h pins s J H Q I hq)
abbrev G5:=V->Hp->(List V->Prop)->Prop
def JY(X:Cx)(k:Nat)(tg:cF)(tt:G5):Prop :=
 ∀(pins:List (ai × fY))(s:aq)(J:St)(H:Hp)(v:V)(u:ae)(Q:List V->Prop),Inv X pins J H s->k<=J.length->RelV v u->tt v H Q ->
  wpAny (br X.prog X.w) X.A (wR tg X.env u) (λ_ s'=>∃ ws,ws.length=k/\Q ws/\Inv X pins (ws.map O++J.drop k) H s') X.xe s
def Mt:G5:=λv _ Q=>Q [v]
theorem d0{X:Cx}{x:aE}{pos:jd}(hN:X.N.Nodup)(hi:X.N[0]?=O x)(hx:X.env.scope.names.lookup x=O .local):JY X 1 (.Name x pos) Mt:=by
 intro pins s J H v u Q I hl r h;refine AI (we I hN hi (.inl hx) r (λs' I'=>⟨[v],Z,h,?_⟩) (.inr hx));cases J with
 |nil=>simp at hl
 |cons a t=>exact I'
def C4(K:af)(n:Nat):G5:=λv H Q=>∃ a xs,v=.ref a/\gA K H a xs/\xs.length=n/\Q xs
theorem Pu{α:Type}(a b:α):∀(J:List α),2<=J.length->(J.set 0 a).set 1 b=[a,b]++J.drop 2
 |_::_::_,_=>rfl
theorem Jc{α:Type}(a b c:α):∀(J:List α),3<=J.length->((J.set 0 a).set 1 b).set 2 c=[a,b,c]++J.drop 3
 |_::_::_::_,_=>rfl
theorem Op{α:Type}:∀(xs:List α),xs.length=2->∃ a b,xs=[a,b]
 |[a,b],_=>⟨a,b,Z⟩
theorem ID{α:Type}:∀(xs:List α),xs.length=3->∃ a b c,xs=[a,b,c]
 |[a,b,c],_=>⟨a,b,c,Z⟩
theorem LK{X:Cx}{x y:aE}{p1 p2 pos:jd}{k:Nat}(hc:X.calm=true)(hN:X.N.Nodup)(h0:X.N[0]?=O x)(h1:X.N[1]?=O y)(hx:X.env.scope.names.lookup x=O .local)(hy:X.env.scope.names.lookup y=O .local) :
  JY X 2 (.Tuple [.Name x p1,.Name y p2] k pos) (C4 X.K 2):=by
 have g:PG X (.Tuple [.Name x p1,.Name y p2] k pos) (Kn X.K 2 (lm (hV 0) (lm (hV 1) Eg))):=by
  have a1:PG X (.Name x p1) (hV 0):=cU hN h0 (.inl hx) (.inr hx);have a2:PG X (.Name y p2) (hV 1):=cU hN h1 (.inl hy) (.inr hy);have a3:Ue X [.Name x p1,.Name y p2] (lm (hV 0) (lm (hV 1) Eg)):=gu a1 (gu a2 pG);exact tw hc a3
 intro pins s J H v u Q I hl r h;obtain⟨a,xs,rfl,hq,hlen,q⟩:=h;obtain⟨x0,x1,e⟩:=Op xs hlen;subst e;have w:Kn X.K 2 (lm (hV 0) (lm (hV 1) Eg)) (.ref a) J H (λσ' H'=>σ'=(J.set 0 (O x0)).set 1 (O x1)/\H'=H):=⟨a,[x0,x1],Z,hq,Z,x0,[x1],Z,x1,[],Z,Z,Z,Z⟩
 refine eC (g pins s J H _ _ _ I r w) ?_;intro _ s' z;obtain⟨σ',H',I',e1,e2⟩:=z;subst e2;rw[Pu _ _ _ hl] at e1;subst e1;exact⟨[x0,x1],Z,q,I'⟩
theorem LL{X:Cx}{x y z:aE}{p1 p2 p3 pos:jd}{k:Nat}(hc:X.calm=true)(hN:X.N.Nodup)(h0:X.N[0]?=O x)(h1:X.N[1]?=O y)(h2:X.N[2]?=O z)(hx:X.env.scope.names.lookup x=O .local)(hy:X.env.scope.names.lookup y=O .local)
  (hz:X.env.scope.names.lookup z=O .local):JY X 3 (.Tuple [.Name x p1,.Name y p2,.Name z p3] k pos) (C4 X.K 3):=by
 have g:PG X (.Tuple [.Name x p1,.Name y p2,.Name z p3] k pos) (Kn X.K 3 (lm (hV 0) (lm (hV 1) (lm (hV 2) Eg)))):=by
  have a1:PG X (.Name x p1) (hV 0):=cU hN h0 (.inl hx) (.inr hx);have a2:PG X (.Name y p2) (hV 1):=cU hN h1 (.inl hy) (.inr hy);have a4:PG X (.Name z p3) (hV 2):=cU hN h2 (.inl hz) (.inr hz);have a3:Ue X [.Name x p1,.Name y p2,.Name z p3] (lm (hV 0) (lm (hV 1) (lm (hV 2) Eg))):=gu a1 (gu a2 (gu a4 pG));exact tw hc a3
 intro pins s J H v u Q I hl r h;obtain⟨a,xs,rfl,hq,hlen,q⟩:=h;obtain⟨x0,x1,x2,e⟩:=ID xs hlen;subst e;have w:Kn X.K 3 (lm (hV 0) (lm (hV 1) (lm (hV 2) Eg))) (.ref a) J H (λσ' H'=>σ'=((J.set 0 (O x0)).set 1 (O x1)).set 2 (O x2)/\H'=H):=⟨a,[x0,x1,x2],Z,hq,Z,x0,[x1,x2],Z,x1,[x2],Z,x2,[],Z,Z,Z,Z⟩
 refine eC (g pins s J H _ _ _ I r w) ?_;intro _ s' z;obtain⟨σ',H',I',e1,e2⟩:=z;subst e2;rw[Jc _ _ _ _ hl] at e1;subst e1;exact⟨[x0,x1,x2],Z,q,I'⟩
theorem pU.adopt{P:aS}{w:bv}{H:Hp}{h:cR}{a:ai}{o:HO}(x:pU P w H h)(hn:H a=Y)(new:gc P w (upd H a o) h a o):pU P w (upd H a o) h:=λb u e=>by
 by_cases hb:b=a
 .subst hb;rw[ao] at e;cases e;exact new
 .rw[bh hb] at e;exact(x b u e).Fm (λc v _ q=>q) (λc q=>by rw[bh (cw q hn)];exact q) λc xs q=>by rw[bh (cw q hn)];exact q
theorem rM{env:DX}{x:aE}:∀{names:List (aE × t6)},names.lookup x=O .free ->
  (names.map λ(n,k)=>if (k == cQ && env.scope.kind == .function && env.kindOf n == O .cell) then (n,g8) else (n,k)).lookup x=O .cell \/
  (names.map λ(n,k)=>if (k == cQ && env.scope.kind == .function && env.kindOf n == O .cell) then (n,g8) else (n,k)).lookup x=O .free
 |[],h=>by simp at h
 |(n,k)::r,h=>by
  have ih:=@rM env x r;show(fK x ((if (k == cQ && env.scope.kind == .function && env.kindOf n == O .cell)=true then (n,g8) else (n,k))::_)=_)\/(fK x ((if (k == cQ && env.scope.kind == .function && env.kindOf n == O .cell)=true then (n,g8) else (n,k))::_)=_);cases hx:x == n with
  |true =>
   simp only [dc,hx] at h;cases h;split
   .left;simp[dc,hx]
   .right;simp[dc,hx]
  |false =>
   simp only [dc,hx] at h;split
   .simp only [dc,hx];exact ih h
   .simp only [dc,hx];exact ih h
theorem rL{env:DX}{x:aE}:∀{names:List (aE × t6)},(∀ y∈names,y.2≠.cell) ->
  ((names.map λ(n,k)=>if (k == cQ && env.scope.kind == .function && env.kindOf n == O .cell) then (n,g8) else (n,k)).lookup x=O .cell \/
  (names.map λ(n,k)=>if (k == cQ && env.scope.kind == .function && env.kindOf n == O .cell) then (n,g8) else (n,k)).lookup x=O .free)->(x,cQ)∈names
 |[],_,h=>by simp at h
 |(n, k)::r,hc,h=>by
  have ih:=@rL env x r (λy hy=>hc y (aW _ hy));have hk:k≠.cell:=hc (n,k) aL;have h':(fK x ((if (k == cQ && env.scope.kind == .function && env.kindOf n == O .cell)=true then (n,g8) else (n,k))::_)=_)\/(fK x ((if (k == cQ && env.scope.kind == .function && env.kindOf n == O .cell)=true then (n,g8) else (n,k))::_)=_):=h;cases hx:x == n with
  |true =>
   have e:x=n:=by simpa using hx
   subst e
   by_cases RQ:(k == cQ && env.scope.kind == .function && env.kindOf x == O .cell)=true
   .have:k=.free:=by
     have:=(lF.mp (lF.mp RQ).1).1;simpa using this
    subst this;exact aL
   .rw[if_neg RQ] at h';simp only [dc,hx] at h';rcases h' with h' | h'
    .exact absurd (bQ h') hk
    .cases h';exact aL
  |false =>
   refine aW _ (ih ?_);split at h' <;> (simp only [dc,hx] at h';exact h')
structure u3(scope DB:lp)(N PN:List aE)(k:Nat)(cap:List Nat):Prop where
 kind:scope.kind=.function
 len:N.length=k+cap.length
 cell:∀ y∈scope.names,y.2≠.cell
 loc:∀ y∈scope.names,y.2=.local->scope.names.lookup y.1=O .local
 free:∀ y∈scope.names,y.2=.free->DB.names.lookup y.1=O .cell\/DB.names.lookup y.1=O .free
 cap:∀ j∈bn cap.length,∃ x i,N[k+j]?=O x/\cap[j]?=O i/\PN[i]?=O x/\scope.names.lookup x=O .free
 adC:∀ y∈scope.names,y.2=.free->scope.names.lookup y.1=O .free
def gD(J:St)(cap:List Nat):St:=cap.map λj=>(J[j]?).join
def CY(wi:TI)(tt:G5)(tc:TT)(te:TE)(cap:List Nat):TE:=λ J H Q=>wi J H λE2 H1 =>
 ∃ W : Nat->Nat->List V->Hp->Prop,(∃ m,W 0 m [] H1)/\∀ i m ys H2,W i m ys H2 ->
  (E2.stop i H2/\ys.length<=az/\∀ p,H2 p=Y->Q (.ref p) (upd H2 p (.lst ys))) \/
  (E2.go i H2/\∃ N:List V->Hp->Prop,(∀ l9 H',N l9 H'->l9.length<=az/\∃ m',m'<m/\W (i+1) m' l9 H') /\
   ∀ x H3,E2.Df i H2 x H3->tt x H3 λws=>tc (ws.map O++gD J cap) H3 λb H4 =>
    if b=true then te (ws.map O++gD J cap) H4 λy H5=>N (ys++[y]) H5 else N ys H4)
structure ZZ(X:Cx)(pins:List (ai × fY))(H:Hp)(s:aq)(C:ai):Prop where
 ns:∃ m,s.heap.Ns C m
 un:H C=Y
 ne:C≠X.env.locals
 new:X.s₀.heap.objs.size<=C
 cells:∀ x c,X.env.cells.lookup x=O c->c≠C
 pins:∀ p∈X.pn++pins,p.1≠C
theorem ZZ.turn{X:Cx}{pins:List (ai × fY)}{H:Hp}{J:St}{s:aq}{C:ai}{h':cR}(B:ZZ X pins H s C)(I:Inv X pins J H s)(hs:gg C s.heap h'):Inv X pins J H { s with heap:=h' } :=
 I.turned (t':=s.toks) (λb o hb e=>hs.extBut b o hb e) B.un B.ne (.inr B.new) B.cells B.pins
theorem D9{X:Cx}{pins:List (ai × fY)}{J:St}{H:Hp}{s:aq}{scope:lp}{N:List aE}{k:Nat}{cap:List Nat}{cl:List (aE × ai)}{h₁:cR}{fp:List ai}{tk:Nat}(I:Inv X pins J H s)(S:u3 scope X.env.scope N X.N k cap)
  (qF:∀ x c,cl.lookup x=O c->X.env.cells.lookup x=O c) (BZ:∀ x,(x,cQ)∈scope.names->∃ c,cl.lookup x=O c)
  (hf:∀ b∈fp,wL X pins H b) (ho:∀ b∈fp,∃ o,s.heap.get? b=O o)
  {m:aE->Option ae} (kc:h₁.Ns (s.heap.objs.size+1) m)
  (N7:∀ b o,(s.heap.push { cls:=.type "list",data:=.seq #[] }).get? b=O o->h₁.get? b=O o) :
  Inv (ii X scope N cl (s.heap.objs.size+1) { s with heap:=s.heap.push { cls:=.type "list",data:=.seq #[] } } H (s.heap.objs.size::fp) (X.pn++pins))
   [(s.heap.objs.size,{ cls:=.type "list",data:=.seq #[] })] (aX k Y++gD J cap) H { s with heap:=h₁,toks:=tk }:=by
 have Ik:Inv X pins J H { s with heap:=s.heap.push { cls:=.type "list",data:=.seq #[] } }:=I.kept (t':=s.toks) λb o e=>ar _ e;have hold:∀ b o,s.heap.get? b=O o->h₁.get? b=O o:=λb o e=>N7 b o (ar _ e);have ltD:∀{b o},s.heap.get? b=O o->b<s.heap.objs.size:=λe=>aH e;have QP:(s.heap.push { cls:=.type "list",data:=.seq #[] }).objs.size=s.heap.objs.size+1:=kC ..;have nD:H s.heap.objs.size=Y:=I.fresh;have nC:H (s.heap.objs.size+1)=Y:=I.c8.fresh (hU _);have vk:∀ x c,X.env.cells.lookup x=O c->c<s.heap.objs.size:=λx c e=>by
  obtain⟨v,q⟩:=I.cell x c e;exact q.lt
 have wc:∀ b,b≠X.env.locals->b ∉ X.fs->b ∉ Ee X.stack:=λb h1 h2 hb=>(aG.mp (I.AA b hb)).elim h1 h2;have Kl:∀ b∈fp,b<s.heap.objs.size:=λb hb=>by obtain⟨o,e⟩:=ho b hb;exact aH e
 have VJ:∀ {x:aE},scope.names.lookup x=O .free->(x,cQ)∈scope.names:=λe=>gF e;refine⟨⟨I.ok.mod,S.kind,I.ok.glob,I.ok.blt,?_,λx y c h1 h2=>I.ok.inj x y c (qF x c h1) (qF y c h2),λx hx=>BZ x (rL S.cell hx),λx c z=>(by cases z),I.ok.hd,I.ok.frames,.inl Z,?_,?_,?_,?_,?_,Ik.stack,I.GG⟩,
  rfl,I.bare,Un.kept N7,?_,?_,nC,λx c e=>I.oQ x c (qF x c e),?_,I.c8.kept hold,?_⟩
 .exact G2 QP
 .intro b hb;rcases aG.mp hb with rfl | hb
  .exact⟨aP (eS _),λx c e=>aP (vk x c (qF x c e))⟩
  .exact⟨aP (dJ (Kl b hb)),λx c e=>(hf b hb).2.2.2.2.1 x c (qF x c e)⟩
 .intro b o e;obtain⟨e1,e2⟩:=I.bs b o e;exact⟨ar _ e1,e2⟩
 .show X.base.objs.size<=(s.heap.push _).objs.size;rw[QP];exact P5 (bF I.ok.P9 I.sz)
 .intro b o e hb;obtain⟨e1,e2⟩:=I.bs b o e;rcases aG.mp hb with rfl | hb
  .exact absurd (ltD e1) (jE _)
  .rcases (hf b hb).2.2.2.1 with z | z
   .exact I.ok.K3 b o e z
   .exact absurd (cp (aH (I.ok.bs b o e).1) z) (jE _)
 .intro b hb;rcases aG.mp hb with rfl | hb
  .exact wc _ (cI I.lt) (I.Oz (ay _))
  .exact wc b (hf b hb).2.1 (hf b hb).2.2.1
 .refine⟨m,kc,λi x v h1 h2 h3=>?_⟩;have Y3:k<=i:=by
   refine oJ λgz=>?_;rw[ck (by simpa using gz),j0] at h2;split at h2 <;> cases h2
  obtain⟨j,rfl⟩:=Nat.exists_eq_add_of_le Y3;rw[cN (by simp),qi,FA] at h2;have hj:j<cap.length:=by
   have:=(aj.mp h2).1;simpa [gD] using this
  obtain⟨x',i,e1,e2,e3,e4⟩:=S.cap j (cm.mpr hj);rw[show N[k+j]?=O x from h1] at e1;cases e1;have Qg:J[i]?=O (O v):=by
   unfold gD at h2;rw[au,e2] at h2;have Qg:(J[i]?).join=O v:=bQ h2;cases q:J[i]? with
   |none=>rw[q] at Qg;cases Qg
   |some z=>rw[q] at Qg;exact congrArg O Qg
  have hfm:=VJ e4;have pk:=S.free _ hfm Z;obtain⟨m0,_,hl⟩:=I.loc;obtain⟨u,r,lk⟩:=hl i x v e3 Qg (pk.elim (λz=>.inr (.inl z)) λz=>.inr (.inr z));refine⟨u,r,?_⟩;rcases lk with ⟨kl,_⟩ | ⟨_,c,e,ic⟩
  .rcases pk with z | z
   .have:X.env.scope.names.lookup x=O .local:=kl;rw[z] at this;cases this
   .have:X.env.scope.names.lookup x=O .local:=kl;rw[z] at this;cases this
  .obtain⟨c',ec⟩:=BZ x hfm;have:=qF x c' ec;rw[e] at this;cases this;refine .inr ⟨?_,c,ec,?_⟩
   .exact rM e4
   .obtain⟨ob,h3,h4⟩:=ic;exact⟨ob,hold _ _ h3,h4⟩
 .intro x c e;obtain⟨v,ob,h3,h4⟩:=I.cell x c (qF x c e);exact⟨v,ob,hold _ _ h3,h4⟩
 .intro p hp;rcases bH.mp hp with hp | hp
  .obtain⟨e,n,ne,nf,d⟩:=I.pin p hp;exact⟨hold _ _ e,n,aP (dJ (ltD e)),wc _ ne nf,d⟩
  .have:p=(s.heap.objs.size,{ cls:=.type "list",data:=.seq #[] }):=by simpa using hp
   subst this;refine⟨N7 _ _ (aO _ Z),nD,aP (eS _),wc _ (cI I.lt) (I.Oz (ay _)),λv z=>by cases z⟩
 .show _=N.length;rw[S.len];simp[gD]
theorem xQ{X:Cx}{elt tg iter:cF}{ifs:List cF}{scope:lp}{pos:jd}{N:List aE}{k:Nat}{cap:List Nat}{wi:TI}{tt:G5}{tc:TT}{te:TE}{cl:List (aE × ai)}
  (hc:X.calm=true) (hi:PI X tg iter wi) (hg:∀ cl C s H ex pn,JY (ii X scope N cl C s H ex pn) k tg tt) (ht:∀ cl C s H ex pn,P6 (ii X scope N cl C s H ex pn) ifs tc)
  (he:∀ cl C s H ex pn,PE (ii X scope N cl C s H ex pn) elt te) (S:u3 scope X.env.scope N X.N k cap)
  (qF:∀ x c,cl.lookup x=O c->X.env.cells.lookup x=O c) (BZ:∀ x,(x,cQ)∈scope.names->∃ c,cl.lookup x=O c)
  {pins:List (ai × fY)} {s:aq} {J:St} {H:Hp} {Q:VK} (I:Inv X pins J H s) (h:CY wi tt tc te cap J H Q) {RR:ae->ai->BC->aq->Prop}
  (hRR:∀ D C s1 H',Inv X pins J H' s1->ZZ X pins H' s1 C->Q (.ref D) H'->RR (.ref D) C (.ok .next) s1) :
  wpAny (br X.prog X.w) X.A (dP iter X.env) (λx s₁=>wpAny (br X.prog X.w) X.A (IU x) (λit s₂=>wpAny (br X.prog X.w) X.A (newList []) (λacc s₃ =>
   wpAny (br X.prog X.w) X.A (newFunctionEnv scope X.env.globals cl [] X.env.qual Y .none (O X.env)) (λVa s₄ =>
    codeAny (br X.prog X.w) X.A (.compStart (.ListComp elt [⟨tg,iter,ifs,0⟩] scope pos) 0 it acc { Va with scope:=relabel scope X.env }) (RR acc Va.locals) s₄) X.xe s₃) X.xe s₂) X.xe s₁) X.xe s:=by
 refine eC (hi pins s J H _ I h) λv s1 h1=>eC h1 λitv s2 h2=>?_;obtain⟨it,fp,tn,E2,H2,e,I2,T,XX,f2,W,⟨m0,w0⟩,turn⟩:=h2;subst e;refine fJ (wpAny_newFunctionEnv S.cell (by intro y hy;simp at hy) (λh₁ NY N8=>?_) S.kind);dsimp only at NY N8 ⊢;have hP:s2.heap.push { cls:=.type "list",dict:=Y,data:=.seq ([]:List ae).toArray }=s2.heap.push { cls:=.type "list",data:=.seq #[] }:=rfl;rw[hP] at NY N8 ⊢;have hC:(s2.heap.push { cls:=.type "list",data:=.seq #[] }).objs.size=s2.heap.objs.size+1:=kC ..;rw[hC] at NY N8 ⊢;have N7:∀ b o,(s2.heap.push { cls:=.type "list",data:=.seq #[] }).get? b=O o->h₁.get? b=O o:=λb o e =>
  N8.extBut b o (by have:=aH e;rw[hC] at this;exact aP this) (ar _ e)
 have hob:∀ b∈fp,∃ o,s2.heap.get? b=O o:=λb hb=>by obtain⟨o,e,_⟩:=T.obj _ _ XX b hb;exact⟨o,e⟩
 have IY:=D9 (N:=N) (k:=k) (cap:=cap) (tk:=s2.toks+([]:List (aE × ae)).length) I2 S qF BZ f2 hob NY N7;generalize hY:ii X scope N cl (s2.heap.objs.size+1) { s2 with heap:=s2.heap.push { cls:=.type "list",data:=.seq #[] } } H2 (s2.heap.objs.size::fp) (X.pn++pins)=E1 at IY;have yp:E1.prog=X.prog:=by rw[← hY]
 have yw:E1.w=X.w:=by rw[← hY]
 have yK:E1.K=X.K:=by rw[← hY]
 have yA:E1.A=X.A:=by rw[← hY]
 have yc:E1.calm=true:=by rw[← hY];exact hc
 have yl:E1.env.locals=s2.heap.objs.size+1:=by rw[← hY];rfl
 have Ua:E1.env=compEnvC scope cl (s2.heap.objs.size+1) X.env:=by rw[← hY]
 have yex:E1.ex=s2.heap.objs.size::fp:=by rw[← hY]
 have yfs:E1.fs=Ee X.stack:=by rw[← hY]
 have ypn:E1.pn=X.pn++pins:=by rw[← hY]
 have ycl:E1.env.cells=cl:=by rw[← hY];rfl
 have yxe:E1.xe=λ_ _=>False:=by rw[← hY]
 have gT:JY E1 k tg tt:=by rw[← hY];exact hg _ _ _ _ _ _
 have gC:P6 E1 ifs tc:=by rw[← hY];exact ht _ _ _ _ _ _
 have gE:PE E1 elt te:=by rw[← hY];exact he _ _ _ _ _ _
 have yH:E1.H₀=H2:=by rw[← hY]
 have ys0:E1.s₀={ s2 with heap:=s2.heap.push { cls:=.type "list",data:=.seq #[] } }:=by rw[← hY]
 have Kl:∀ b∈fp,b<s2.heap.objs.size:=λb hb=>by obtain⟨o,e⟩:=hob b hb;exact aH e
 have LF:∀ p∈X.pn++pins,p.1<s2.heap.objs.size:=λp hp=>aH (I2.pin p hp).1;have vk:∀ x c,X.env.cells.lookup x=O c->c<s2.heap.objs.size:=λx c e=>by
  obtain⟨v,q⟩:=I2.cell x c e;exact q.lt
 have wc:∀ b,b≠X.env.locals->b ∉ X.fs->b ∉ Ee X.stack:=λb h1 h2 hb=>(aG.mp (I2.AA b hb)).elim h1 h2;have fpY:∀{H':Hp}{pl:List (ai × fY)},(∀ b∈fp,H' b=Y)->(∀ p∈pl,p.1=s2.heap.objs.size)->∀ b∈fp,wL E1 pl H' b:=λ{H' pl} hn m8 b hb=>by
  refine⟨hn b hb,?_,?_,.inl ?_,λx c e=>?_,λp hp=>?_⟩
  .rw[yl];exact aP (dJ (Kl b hb))
  .rw[yfs];exact wc b (f2 b hb).2.1 (f2 b hb).2.2.1
  .rw[yex];exact aW _ hb
  .rw[ycl] at e;exact(f2 b hb).2.2.2.2.1 x c (qF x c e)
  .rcases bH.mp hp with hp | hp
   .rw[ypn] at hp;exact(f2 b hb).2.2.2.2.2 p hp
   .rw[m8 p hp];exact cI (Kl b hb)
 have loop:∀ s₃:aq,s₃={ s2 with heap:=h₁,toks:=s2.toks+([]:List (aE × ae)).length } ->
   codeAny (br X.prog X.w) X.A (.compLoop (.ListComp elt [⟨tg,iter,ifs,0⟩] scope pos) 0 (.ref it) (.ref s2.heap.objs.size) (compEnvC scope cl (s2.heap.objs.size+1) X.env)) (RR (.ref s2.heap.objs.size) (s2.heap.objs.size+1)) s₃:=by
  rintro s₃ rfl;refine Hv (λn s'=>∃ i ys ci H' c,Inv E1 [(s2.heap.objs.size,{ cls:=.type "list",data:=.seq (List.toArray ci) c })] (aX k Y++gD J cap) H' s'/\tn i s'.heap/\(∀ b∈fp,H' b=Y)/\Vals ys ci/\W i n ys H') ?_ m0
   ⟨0,[],[],H2,_,IY,T.keep _ _ _ XX λb hb o e=>N7 b o (ar _ e),λb hb=>(f2 b hb).1,.nil,w0⟩
  rintro n s3 ⟨i,ys,ci,H3,c3,I3,XY,Vh,ZC,w3⟩;have Lo:∀ p∈[(s2.heap.objs.size,({ cls:=.type "list",data:=.seq ci.toArray c3 }:fY))],p.1=s2.heap.objs.size:=λp hp=>by
   have:p=(s2.heap.objs.size,{ cls:=.type "list",data:=.seq ci.toArray c3 }):=by simpa using hp
   rw[this]
  have Xu:∀{pl:List (ai × fY)}{σ':St}{H':Hp}{s':aq},Inv E1 ([(s2.heap.objs.size,({ cls:=.type "list",data:=.seq ci.toArray c3 }:fY))]++pl) σ' H' s'->s'.heap.get? s2.heap.objs.size=O { cls:=.type "list",data:=.seq ci.toArray c3 }/\H' s2.heap.objs.size=Y:=λI'=>by
   obtain⟨e,n,_⟩:=I'.pin (s2.heap.objs.size,{ cls:=.type "list",data:=.seq ci.toArray c3 }) (b7 _ (cY _ (by simp)));exact⟨e,n⟩
  rcases turn i n ys H3 w3 with ⟨stop,hz,qn⟩ | ⟨go,Nx,hNx,um⟩
  .have hd:=T.done E1 yp yw yK yc i _ s3 _ H3 (λ_ _=>False) I3 (fpY Vh Lo) XY stop;rw[yA] at hd;refine eC hd λr s4 cX=>?_;obtain⟨hr,I4⟩:=cX;subst hr;obtain⟨eD,nD⟩:=Xu (pl:=[]) (by simpa using I4);have nC:H3 (s2.heap.objs.size+1)=Y:=by have:=I4.free;rw[yl] at this;exact this
   obtain⟨mC,nsC,_⟩:=I4.loc;rw[yl] at nsC;have U:=I4.base;rw[yfs,yex,yH,ys0] at U;have old:∀{b o},s2.heap.get? b=O o->b<s2.heap.objs.size:=λe=>aH e;have Un2:Un (Ee X.stack) (s2.heap.objs.size::fp) H2 (upd H3 s2.heap.objs.size (.lst ys)) s2.heap s4.heap :=
    ⟨λb o e n hb hx=>U.keep b o (ar _ e) n hb hx,λb o e n hb hx=>U.slot b o (ar _ e) n hb hx,
     λb o e n hx=>by rw[bh (aP (old e))];exact U.free b o (ar _ e) n hx,λb o e hx=>U.there b o (ar _ e) hx,
     λb xs e=>by have q:=U.AF b xs e;rw[bh (cw q nD)];exact q,λb o u e=>by have q:=U.wV b o u e;rw[bh (cw q nD)];exact q,
     λb ps e=>by obtain⟨mo,q⟩:=U.AC b ps e;exact⟨mo,by rw[bh (cw q nD)];exact q⟩⟩
   have V9:=I4.c8;rw[yp,yw] at V9;have IX:Inv X pins J (upd H3 s2.heap.objs.size (.lst ys)) s4:=by
    refine I2.Qb (ch:=s2.heap.objs.size::fp) ?_ Un2 (V9.adopt nD ⟨hz,ci,c3,ZC,eD⟩) I4.bare λb hb=>?_
    .have:=I4.os;rw[ys0] at this;exact this
    .rcases aG.mp hb with rfl | hb
     .exact⟨.inr I2.sz,cI I2.lt,λx c e=>aP (vk x c e),λp hp=>aP (LF p hp)⟩
     .exact⟨(f2 b hb).2.2.2.1,(f2 b hb).2.1,(f2 b hb).2.2.2.2.1,(f2 b hb).2.2.2.2.2⟩
   refine hRR _ _ s4 _ IX ⟨⟨mC,nsC⟩,?_,?_,P5 I2.sz,λx c e=>aP (dJ (vk x c e)),λp hp=>aP (dJ (LF p hp))⟩ (qn _ nD)
   .rw[bh (wP _)];exact nC
   .exact cI (dJ I2.lt)
  .have hd := T.item E1 yp yw yK yc i _ s3 _ H3 (λ_ _=>False) I3 (fpY Vh Lo) XY go;rw[yA] at hd;refine eC hd λr s4 cX=>?_;obtain⟨u,hr,h4⟩:=cX;subst hr;refine eC h4 λ_ s5 cX=>?_;obtain⟨x,H5,I5,r5,y5,TD,fr5⟩:=cX;have Z6:=I5.pinned (fpY fr5 Lo) (T.obj _ _ TD);have a5:=gT _ s5 _ H5 x u _ Z6 (by simp) r5 (um x H5 y5);rw[yp,yw,yA,yxe,Ua] at a5;refine eC a5 λ_ s6 cX=>?_;obtain⟨ws,hlw,q6,I6⟩:=cX;have dr:(aX k (Y:Option V)++gD J cap).drop k=gD J cap:=by
    rw[List.drop_append_of_le_length (by simp)];simp
   rw[dr] at I6;have a6:=gC _ s6 _ H5 _ I6 q6;rw[yp,yw,yA,yxe,Ua] at a6;refine eC a6 λok s7 cX=>?_;obtain⟨H7,I7,q7⟩:=cX;have wk:∀ (j:Nat) v,(aX k (Y:Option V)++gD J cap)[j]?=O (O v)->(ws.map O++gD J cap)[j]?=O (O v):=λj v e=>by
    have Y3:k<=j:=by
     refine oJ λgz=>?_;rw[ck (by simpa using gz),j0] at e;split at e <;> cases e
    rw[cN (by simpa using Y3),qi] at e;rw[cN (by simpa [hlw] using Y3),ab,hlw];exact e
   have wl:(aX k (Y:Option V)++gD J cap).length=(ws.map O++gD J cap).length:=by simp[hlw]
   have X0:∀{H':Hp}{s':aq},Inv E1 ([(s2.heap.objs.size,({ cls:=.type "list",data:=.seq ci.toArray c3 }:fY))]++vP fp s5.heap) (ws.map O++gD J cap) H' s'->tn (i+1) s'.heap/\∀ b∈fp,H' b=Y:=λ{H' s'} I'=>by
    refine⟨T.keep _ _ _ TD λb hb o e=>(I'.pin (b,o) (b7 _ (b7 _ (oe hb e)))).1,λb hb=>?_⟩;obtain⟨o,e,d⟩:=T.obj _ _ TD b hb;exact(I'.pin (b,o) (b7 _ (b7 _ (oe hb e)))).2.1
   cases ok with
   |false =>
    obtain⟨_,m',hm,w'⟩:=hNx _ _ q7;obtain⟨t7,f7⟩:=X0 I7;exact⟨m',hm,i+1,ys,ci,H7,c3,(I7.weak wl wk).rW,t7,f7,ZC,w'⟩
   |true =>
    have a7:=gE _ s7 _ H7 _ I7 q7;rw[yp,yw,yA,yxe,Ua] at a7;rw[if_pos rfl];refine eC a7 λyv s8 cX=>?_;obtain⟨y,H8,I8,r8,q8⟩:=cX;obtain⟨hz8,m',hm,w'⟩:=hNx _ _ q8;rw[aV,dM] at hz8;obtain⟨eD,nD⟩:=Xu I8;obtain⟨t8,f8⟩:=X0 I8;refine wpAny_list_append_plain (hsz:=by rw[aZ,← ZC.length];omega) ⟨c3,eD⟩ λh9 pl9 sb9=>?_;obtain⟨c9,e9⟩:=pl9;have I8':Inv E1 [] (aX k Y++gD J cap) H8 s8:=(I8.weak wl wk).uO λp hp=>by cases hp
    have I9:Inv E1 [] (aX k Y++gD J cap) H8 { s8 with heap:=h9 } :=
     I8'.turned (t':=s8.toks) (it:=s2.heap.objs.size) (λb o hb e=>sb9.extBut b o hb e) nD (by rw[yl];exact aP (eS _)) (.inl (by rw[yex];exact aL)) (λx c e=>by rw[ycl] at e;exact aP (vk x c (qF x c e)))
      λp hp=>by
       rw[er,ypn] at hp;exact aP (LF p hp)
    have e9':h9.get? s2.heap.objs.size=O { cls:=.type "list",data:=.seq (ci++[yv]).toArray c9 }:=by rw[e9];simp
    refine⟨m',hm,i+1,ys++[y],ci++[yv],H8,c9,I9.uO λp hp=>?_,T.keep _ _ _ t8 λb hb o e=>sb9.extBut b o (aP (Kl b hb)) e,f8,ZC.append (.cons r8 .nil),w'⟩;have:p=(s2.heap.objs.size,{ cls:=.type "list",data:=.seq (ci++[yv]).toArray c9 }):=by simpa using hp
    subst this;refine⟨e9',nD,?_,?_,λv z=>by cases z⟩
    .rw[yl];exact aP (eS _)
    .rw[yfs];exact wc _ (cI I2.lt) (I2.Oz (ay _))
 exact codeAny_compStart_list (loop _ Z) (T.self _ 0 _ _ _ (T.keep _ _ _ XX λb hb o e=>N7 b o (ar _ e)) (loop _ Z))
section
variable {X:Cx}{elt tg iter:cF}{ifs:List cF}{scope:lp}{pos:jd}{N:List aE}{k:Nat}{cap:List Nat}{wi:TI}{tt:G5}{tc:TT}{te:TE}
theorem OY(hc:X.calm=true)(S:u3 scope X.env.scope N X.N k cap)(hi:PI X tg iter wi)(hg:∀ cl C s H ex pn,JY (ii X scope N cl C s H ex pn) k tg tt)(ht:∀ cl C s H ex pn,P6 (ii X scope N cl C s H ex pn) ifs tc)
  (he:∀ cl C s H ex pn,PE (ii X scope N cl C s H ex pn) elt te) (hs:∀ x,lx iter X.env x=pure x:=by intro _;rfl) :
  PE X (.ListComp elt [⟨tg,iter,ifs,0⟩] scope pos) (CY wi tt tc te cap):=by
 intro pins s J H Q I h;obtain⟨cl,Kw,qF,BZ⟩:=FM (scope:=scope) (env:=X.env) λy hy hf=>I.ok.has y.1 (S.free y hy hf);rw[eval_ListComp];refine ME (use:=Y) Z hs Kw S.kind S.loc ?_;refine xQ hc hi hg ht he S qF BZ I h λD C s1 H' I1 B q=>?_;obtain⟨m,hm⟩:=B.ns;exact⟨m,hm,λh' sb=>⟨.ref D,H',B.turn I1 sb,Z,q⟩⟩
theorem O8{i:Nat}{y:aE}{py Ml:jd}(hc:X.calm=true)(S:u3 scope X.env.scope N X.N k cap)(hN:X.N.Nodup)(hiy:X.N[i]?=O y)(hy:X.env.scope.names.lookup y=O .local)(hi:PI X tg iter wi)
  (hg:∀ cl C s H ex pn,JY (ii X scope N cl C s H ex pn) k tg tt) (ht:∀ cl C s H ex pn,P6 (ii X scope N cl C s H ex pn) ifs tc)
  (he:∀ cl C s H ex pn,PE (ii X scope N cl C s H ex pn) elt te)
  (hsw:qO (.ListComp elt [⟨tg,iter,ifs,0⟩] scope pos) (O (.Name y py)) Ml.line X.env=pure true:=by rfl) (hs:∀ x,lx iter X.env x=pure x:=by intro _;rfl) :
  PS X (.Assign [.Name y py] (.ListComp elt [⟨tg,iter,ifs,0⟩] scope pos) Ml) (Pz (CY wi tt tc te cap) (hV i)):=by
 intro pins s J H D I h;obtain⟨cl,Kw,qF,BZ⟩:=FM (scope:=scope) (env:=X.env) λy hy hf=>I.ok.has y.1 (S.free y hy hf);rw[exec_Assign_Name_used _ _ _ _ hsw];refine ah (MF (ah ?_));show wpAny _ X.A (do let _ ← comprehension (.ListComp elt [⟨tg,iter,ifs,0⟩] scope pos) scope X.env _ (newList []) false (dP iter X.env) (O (wR (.Name y py) X.env))) _ _ s;refine ah (fL (ME (use:=O (wR (.Name y py) X.env)) (Q:=λ_ s'=>SP X pins D .next s') Z hs Kw S.kind S.loc ?_) (λ_ s' hq=>aF (aF hq)) λ_ _ e=>e);refine xQ hc hi hg ht he S qF BZ I h λDa C s1 H' I1 B q=>?_;show wpAny _ X.A (wR (.Name y py) X.env (.ref Da)) _ _ _;refine AI (yr (v:=.ref Da) I1 hN hiy (.inl hy) Z (λs' I' z=>?_) (.inr hy));obtain⟨a,N7,ha⟩:=z;have hCa:C≠a:=by
  rcases ha with rfl | ha
  .exact B.ne
  .exact λe=>B.cells _ _ ha e.symm
 obtain⟨m,hm⟩:=B.ns;refine⟨m,hm.sameBut N7 hCa,λh' sb=>?_⟩;exact⟨_,H',I'.turned (t':=s'.toks) (λb o hb e=>sb.extBut b o hb e) B.un B.ne (.inr B.new) B.cells B.pins,q⟩
end
abbrev Rel(α:Type):=Hp->α->V->Prop
def lT:Rel Int:=λ_ i v=>v=.int i
def iV{α:Type}(R:Rel α):Rel (List α):=λH xs v=>∃ a vs,v=.ref a/\H a=O (.lst vs)/\gf (R H) xs vs
def rT3{α β γ:Type}(R:Rel α)(S:Rel β)(T:Rel γ):Rel (α × β × γ):=λH p v=>∃ a x y z,v=.ref a/\H a=O (.tup [x,y,z])/\R H p.1 x/\S H p.2.1 y/\T H p.2.2 z
structure kJ{α:Type}(R:Rel α):Prop where
 go:∀(H H':Hp)(x:α)(v:V),aU H H'->R H x v->R H' x v
theorem kJ.up{α:Type}{R:Rel α}(m:kJ R){H H':Hp}{x:α}{v:V}(s:aU H H')(h:R H x v):R H' x v:=m.go H H' x v s h
theorem fS:kJ lT:=⟨λ_ _ _ _ _ h=>h⟩
theorem dq{α:Type}{R:Rel α}(m:kJ R){H H':Hp}(s:aU H H'){xs:List α}{vs:List V}(p:gf (R H) xs vs):gf (R H') xs vs:=Paired.Ot p λ_ _ q=>m.up s q
theorem dv{α:Type}{R:Rel α}(m:kJ R):kJ (iV R):=⟨λH H' x v s h=>by
 obtain⟨a,vs,e,h1,p⟩:=h;exact⟨a,vs,e,s _ _ h1,dq m s p⟩⟩
theorem Ow{α β γ:Type}{R:Rel α}{S:Rel β}{T:Rel γ}(m:kJ R)(n:kJ S)(o:kJ T):kJ (rT3 R S T):=⟨λH H' x v s h=>by
 obtain⟨a,x,y,z,e,h1,p,q,r⟩:=h;exact⟨a,x,y,z,e,s _ _ h1,m.up s p,n.up s q,o.up s r⟩⟩
theorem vK{α β:Type}{F:α->β->Prop}{f:α->β}(h:∀ a,F a (f a)):∀ xs:List α,gf F xs (xs.map f)
 |[]=>.nil
 |a::r=>.cons (h a) (vK h r)
theorem a0r{H:Hp}:∀{xs:List Int}{vs:List V},gf (lT H) xs vs->vs=xs.map V.int
 |_,_,.nil=>rfl
 |_,_,.cons h t=>by rw[bY,← a0r t];exact congrArg (·::_) h
theorem B6{H:Hp}(xs:List Int):gf (lT H) xs (xs.map V.int):=vK (F:=lT H) (f:=V.int) (λ_=>rfl) xs
theorem iA{H:Hp}{xs:List Int}{v:V}:iV lT H xs v↔∃ a,v=.ref a/\H a=O (.lst (xs.map V.int)):=by
 constructor
 .rintro⟨a,vs,rfl,h,p⟩;rw[a0r p] at h;exact⟨a,Z,h⟩
 .rintro⟨a,rfl,h⟩;exact⟨a,_,Z,h,B6 xs⟩
theorem Paired.at{α β:Type}{F:α->β->Prop}:∀{xs:List α}{ys:List β}{i:Nat}{x:α},gf F xs ys->xs[i]?=O x->∃ y,ys[i]?=O y/\F x y
 |_,_,_,_,.nil,e=>by simp at e
 |_,_,0,_,.cons r _,e=>by simp at e;subst e;exact⟨_,Z,r⟩
 |_,_,i+1,x,.cons _ t,e=>by
  obtain⟨u,h1,h2⟩:=Paired.at (i:=i) (x:=x) t (by simpa using e);exact⟨u,by simpa using h1,h2⟩
theorem Paired.ta{α β:Type}{F:α->β->Prop}:∀{xs:List α}{ys:List β}{i:Nat}{y:β},gf F xs ys->ys[i]?=O y->∃ x,xs[i]?=O x/\F x y
 |_,_,_,_,.nil,e=>by simp at e
 |_,_,0,_,.cons r _,e=>by simp at e;subst e;exact⟨_,Z,r⟩
 |_,_,i+1,x,.cons _ t,e=>by
  obtain⟨u,h1,h2⟩:=Paired.ta (i:=i) (y:=x) t (by simpa using e);exact⟨u,by simpa using h1,h2⟩
theorem Paired.app{α β:Type}{F:α->β->Prop}:∀{xs xs':List α}{ys l9:List β},gf F xs ys->gf F xs' l9->gf F (xs++xs') (ys++l9)
 |_,_,_,_,.nil,s=>s
 |_,_,_,_,.cons r t,s=>.cons r (Paired.app t s)
section
variable {X:Cx}
def F3(H:Hp):V->String->Prop
 |.fC,T=>T = "NoneType"
 |.bl _,T=>T = "bool"
 |.int _,T=>T = "int"
 |.str _,T=>T = "str"
 |.ref a,T=>(T = "list" /\ ((∃ xs,H a=O (.lst xs))\/∃ o xs,H a=O (.Du o (.lst xs))))\/(T = "tuple" /\ ∃ xs,H a=O (.tup xs))\/(T = "dict" /\ ∃ bM,H a=O (.dK bM))
 |_,_=>False
theorem F3.ty{K:af}{H:Hp}{x:V}{T:String}(h:F3 H x T):sQ K H x (.type T):=by
 cases x with
 |fC=>cases (show T = "NoneType" from h);exact .fC
 |bl b=>cases (show T = "bool" from h);exact .bl b
 |int i=>cases (show T = "int" from h);exact .int i
 |str z=>cases (show T = "str" from h);exact .str z
 |ref a =>
  rcases h with ⟨rfl,⟨xs,e⟩ | ⟨o,xs,e⟩⟩ | ⟨rfl,xs,e⟩ | ⟨rfl,bM,e⟩
  .exact .lst e
  .exact .Du e
  .exact .tup e
  .exact .dK e
 |_=>exact e6 h
theorem Kd{T:String}:jy X (.builtin "isinstance") (λxs H Q=>∃ x S b,xs=[x,.ty T]/\F3 H x S/\j6 X.K (.type S) (.type T)=O b/\Q (.bl b) H):=by
 intro pins s J H xs us Q I r h;obtain⟨x,S,b,rfl,hk,e,q⟩:=h;obtain⟨u,c,rfl,ru,rc⟩:=r.two;cases (show c=jH T from rc);exact Iz I ru hk.ty e λtk=>⟨.bl b,H,I.tok _,Z,q⟩
theorem rA{K:af}(T:String):j6 K (.type T) (.type T)=O true:=by
 unfold j6;rw[if_pos (by simp)]
theorem zy{K:af}:j6 K (.type "int") (.type "bool")=O false:=rfl
def Tr(K:af):V->List V->Hp->VK->Prop:=λx vs H Q=>∃(l:ai)(ns:List Int)(k:Int),x=.ref l/\vs=[.int k]/\bI K H l (ns.map V.int)/\k∈ns/\Q (.int (ns.idxOf k:Nat)) H
theorem K1:MR X "list.index" (Tr X.K):=by
 intro pins s J H x vs v us Q I rx rv h;obtain⟨l,ns,k,rfl,rfl,hS,hk,q⟩:=h;cases rx;obtain⟨u,rfl,ru⟩:=rv.one;obtain⟨t,rfl⟩:=ru;obtain⟨ci,r,pl,hz⟩:=I.list hS;have hi:dB ci ns:=a0l r;obtain⟨⟨cls,dd,data,sl⟩,ho,hc,n,hd⟩:=id pl.isList;simp only at hc hd;subst hc hd;have hlen:=hi.length;have hj:ns.idxOf k<ns.length:=List.idxOf_lt_length_iff.mpr hk;have hn:=mS;rw[ab] at hz;refine eG eZ ⟨_,ho,Z⟩ zb (xG _ _)
  (J3 l ci.toArray n dd sl (.int k t) (pe k) (ns.idxOf k) (by simpa [hlen] using hj) (by (clear hlen;omega)) ?_ ?_) ⟨ho,λy hy=>(eq_isInt k t hi y (by simpa using hy)).at _ _,⟨.int _,H,I.tok _,⟨_,Z⟩,q⟩⟩
 .show pe k ci[ns.idxOf k]=true;rw[isInt_at k hi _ (by omega) hj];simpa using MO hj
 .intro j hjs gz;show pe k ci[j]=false;rw[isInt_at k hi j (by simpa using hjs) (by (clear hz hlen hn hjs;omega))];exact ne_of_lt_idxOf gz _
end
def uE(scope DB:lp)(N PN:List aE)(k:Nat)(cap:List Nat):Bool :=
 (scope.kind == .function) && (N.length == k+cap.length) &&
 (scope.names.all λy=>(y.2 != .cell) && (y.2 != .local || scope.names.lookup y.1 == O .local) &&
  (y.2 != .free || (scope.names.lookup y.1 == O .free && (DB.names.lookup y.1 == O .cell || DB.names.lookup y.1 == O .free)))) &&
 ((bn cap.length).all λj=>match N[k+j]?,cap[j]? with
  |some x,O i=>PN[i]? == O x && scope.names.lookup x == O .free
  | _,_=>false)
theorem xP{scope DB:lp}{N PN:List aE}{k:Nat}{cap:List Nat}(h:uE scope DB N PN k cap=true):u3 scope DB N PN k cap:=by
 unfold uE at h;simp only [aQ] at h;obtain⟨⟨⟨h1,h2⟩,h3⟩,h4⟩:=h;rw[bL] at h3 h4;have q:∀ y∈scope.names,y.2≠.cell/\(y.2=.local->scope.names.lookup y.1=O .local)/\(y.2=.free->scope.names.lookup y.1=O .free/\(DB.names.lookup y.1=O .cell\/DB.names.lookup y.1=O .free)):=λy hy=>by
  have:=h3 y hy;simp only [aQ,xB,bne_iff_ne,beq_iff_eq] at this;obtain⟨⟨a,b⟩,c⟩:=this;exact⟨a,λe=>b.elim (λz=>absurd e z) id,λe=>c.elim (λz=>absurd e z) id⟩
 refine⟨by simpa using h1,by simpa using h2,λy hy=>(q y hy).1,λy hy=>(q y hy).2.1,λy hy e=>((q y hy).2.2 e).2,λj hj=>?_,λy hy e=>((q y hy).2.2 e).1⟩;have:=h4 j hj;split at this
 .rename_i x i e1 e2;simp only [aQ,beq_iff_eq] at this;exact⟨x,i,e1,e2,this.1,this.2⟩
 .cases this
section
variable {X:Cx}{elt tg iter:cF}{ifs:List cF}{scope:lp}{pos:jd}{wi:TI}{tt:G5}{tc:TT}{te:TE}
theorem lS(DB:lp)(PN N:List aE)(k:Nat)(cap:List Nat)(hi:PI X tg iter wi)(hg:∀ cl C s H ex pn,JY (ii X scope N cl C s H ex pn) k tg tt)(ht:∀ cl C s H ex pn,P6 (ii X scope N cl C s H ex pn) ifs tc)
  (he:∀ cl C s H ex pn,PE (ii X scope N cl C s H ex pn) elt te) (hc:X.calm=true:=by rfl) (h1:X.env.scope=DB:=by rfl) (h2:X.N=PN:=by rfl) (S:uE scope DB N PN k cap=true:=by trivial)
  (hs:∀ x,lx iter X.env x=pure x:=by intro _;rfl) :
  PE X (.ListComp elt [⟨tg,iter,ifs,0⟩] scope pos) (CY wi tt tc te cap):=OY hc (by rw[h1,h2];exact xP S) hi hg ht he hs
theorem rJ{i:Nat}{y:aE}{py Ml:jd}(DB:lp)(PN N:List aE)(k:Nat)(cap:List Nat)(hN:X.N.Nodup)(hiy:X.N[i]?=O y)(hy:X.env.scope.names.lookup y=O .local)(hi:PI X tg iter wi)
  (hg:∀ cl C s H ex pn,JY (ii X scope N cl C s H ex pn) k tg tt) (ht:∀ cl C s H ex pn,P6 (ii X scope N cl C s H ex pn) ifs tc)
  (he:∀ cl C s H ex pn,PE (ii X scope N cl C s H ex pn) elt te) (hc:X.calm=true:=by rfl) (h1:X.env.scope=DB:=by rfl) (h2:X.N=PN:=by rfl) (S:uE scope DB N PN k cap=true:=by trivial)
  (hsw:qO (.ListComp elt [⟨tg,iter,ifs,0⟩] scope pos) (O (.Name y py)) Ml.line X.env=pure true:=by rfl) (hs:∀ x,lx iter X.env x=pure x:=by intro _;rfl) :
  PS X (.Assign [.Name y py] (.ListComp elt [⟨tg,iter,ifs,0⟩] scope pos) Ml) (Pz (CY wi tt tc te cap) (hV i)):=O8 hc (by rw[h1,h2];exact xP S) hN hiy hy hi hg ht he hsw hs
end
structure Dn(P:aS)(w:bv)(K:af)(mg:aE->Option ae)(base:cR)(x:aE)(n:Nat)(ps:List aE)(sp:Sp):Prop where
 ex:∃ f fd,ow P w K mg base DR n f fd ps sp/\mg x=O (.ref f)/\ix K (.ref f)=true/\Binds K fd ps []
structure aN(K:af)(mg:aE->Option ae)(x:aE)(st:cH)(ps:List aE):Prop where
 ex:∃ f fd,Jt K x x st f fd/\mg x=O (.ref f)/\Binds K fd ps []
section
variable {P:aS}{w:bv}{K:af}{mg:aE->Option ae}{base:cR}
theorem aN.ok{x:aE}{st:cH}{N ps:List aE}{k:Nat}{sp:Sp}(F:aN K mg x st ps)(S:bg N ps (aC st))(len:∀ vs H Q E,sp vs H Q E->vs.length=ps.length)
  (rm:∀ (f:ai) (dW:ae) (A:cK) (outer:List DX) (s:aq) (H:Hp) (vs:List V) (Q:VK) (E:XK),ig k (A.deeper (qc x (aC st) s.heap.objs.size f dW))->sp vs H Q E ->
   ∃ t,AR (zj DR P w K mg base N x (aC st) f dW A outer s H E).Nb (gM st) t/\t { nx:=λ_ H'=>Q .fC H',rt:=Q } (start N vs) H):Dn P w K mg base x (k+1) ps sp:=by
 obtain⟨f,fd,F,hm,hb⟩:=F.ex;exact⟨f,fd,F.ok S len λdW A outer s H vs Q E=>rm f dW A outer s H vs Q E,hm,F.kp,hb⟩
end
theorem b9{X:Cx}{x:aE}{n k:Nat}{ps:List aE}{sp:Sp}{e:cF}{es:List cF}{t:TA}{p pos:jd}(D:Dn X.prog X.w X.K X.mg X.base x n ps sp)(hr:ig k X.A)(ha:PA X (e::es) t)(hk:n<=k:=by decide)(hg:Gl X x:=by rfl)
  (Ei:(x == ("__debug__" : aE))=false:=by decide) (he:bD (e::es) X.env=(false,dP e X.env)::bD es X.env:=by rfl) (m8:(gB pos (bD es X.env)).any (·.1)=false:=by rfl) :
  PE X (.Call (.Name x p) (e::es) [] pos) (QT sp [] E0 t):=by
 obtain⟨f,fd,F,hm,kp,hb⟩:=D.ex;exact OX F (hr.mono hk) hg hm kp hb .nil yk ha Ei he m8
theorem KO{A:cK}{k:Nat}(hr:ig k A)(n:Nat)(h:n<=64:=by decide):A.units+n<zd:=Nat.lt_of_le_of_lt (Nat.add_le_add_left h _) hr.units
def Ye(t u:TS):TS:=λD J H=>∃ M:St->Hp->Prop,t { D with nx:=M } J H/\∀ σ' H',M σ' H'->u D σ' H'
theorem zV{X:Cx}{st:cH}{rest:List cH}{t u:TS}(h1:PS X st t)(h2:AR X rest u):AR X (st::rest) (Ye t u):=by
 intro pins s J H D I h;obtain⟨M,h,k⟩:=h;refine Dd (eC (h1 pins s J H { D with nx:=M } I h) λf s1 q=>?_);cases f with
 |next =>
  obtain⟨σ',H',I',q⟩:=q;exact h2 pins s1 σ' H' D I' (k σ' H' q)
 |ret v=>exact q
 |brk=>exact q
 |cont=>exact q
def jf(H H':Hp):Hp:=λb=>match H b with
 |none=>H' b
 |some _=>Y
theorem ye(H H':Hp):aU (jf H H') H':=λb o e=>by
 unfold jf at e;cases q:H b with
 |none=>rw[q] at e;exact e
 |some u=>rw[q] at e;cases e
theorem nE{H H':Hp}{b:ai}{o:HO}(h:H b=O o):jf H H' b=Y:=by unfold jf;rw[h]
theorem eV{H H':Hp}{b:ai}(h:H b=Y):jf H H' b=H' b:=by unfold jf;rw[h]
theorem kj{H H1 H' H2:Hp}(a:aU H H1)(b:aU H' H2):aU (jf H1 H') (jf H H2):=λc o e=>by
 cases q:H1 c with
 |some u=>rw[nE q] at e;cases e
 |none =>
  rw[eV q] at e;rw[eV (a.free q)];exact b c o e
theorem av{H:Hp}{p:ai}(h:H p=Y)(o:HO):aU H (upd H p o):=λb u q=>by rw[bh (cw q h)];exact q
theorem aU.put{Hs H:Hp}{p:ai}(s:aU Hs H)(h:Hs p=Y)(o:HO):aU Hs (upd H p o):=λb u q=>by
 rw[bh (cw q h)];exact s b u q
theorem a0a{n m:Nat}(h:n<=m)(hm:m<=1000000:=by decide):n<=az:=bF h (bF hm (by decide))
theorem gq{x:V}{H:Hp}{f:List V->St}{A B:List V->Hp->Prop}(h:A [x] H):Mt x H λws=>TW (f ws) H λb H4=>if b=true then A ws H4 else B ws H4:=by
 show if true=true then A [x] H else B [x] H;rw[if_pos rfl];exact h
theorem sV{K:af}{n:Nat}{a:ai}{xs:List V}{H:Hp}{f:List V->St}{A B:List V->Hp->Prop}(hq:gA K H a xs)(hn:xs.length=n)(h:A xs H):C4 K n (.ref a) H λws=>TW (f ws) H λb H4=>if b=true then A ws H4 else B ws H4:=by
 refine⟨a,xs,Z,hq,hn,?_⟩;show if true=true then A xs H else B xs H;rw[if_pos rfl];exact h
theorem a0F:∀(vs:List ae),(∀ v∈vs,∃ k t,v=e5 k t)->∃ ns,dB vs ns
 |[],_=>⟨[],.nil⟩
 |v::r,h=>by
  obtain⟨k,t,rfl⟩:=h v aL;obtain⟨ns,q⟩:=a0F r λu hu=>h u (aW _ hu);exact⟨k::ns,.cons k t q⟩
theorem uV:∀{vs:List ae}{ns:List Int},dB vs ns->Vals (ns.map V.int) vs
 |_,_,.nil=>.nil
 |_,_,.cons _ t r=>.cons ⟨t,Z⟩ (uV r)
section
variable {X:Cx}
theorem rf:jy X (.builtin "sorted") (λxs H Q=>∃ (a:ai) (ks:List Int),xs=[.ref a]/\bI X.K H a (ks.map V.int)/\ks.length<64 /\
  ∀ (p:ai) (ns:List Int),H p=Y->ns.Perm ks->ns.Pairwise (·<=·)->Q (.ref p) (upd H p (.lst (ns.map V.int)))):=by
 intro pins s J H xs us Q I r h;obtain⟨a,ks,rfl,ha,HQ,q⟩:=h;obtain⟨u,rfl,ru⟩:=a0j r;cases ru;obtain⟨ci,rv,pl,hz⟩:=I.list ha;have hi:dB ci ks:=a0l rv;refine sorted_ints pl.isList hi (by rw[hi.length];exact HQ) λout Ck i2 pm pw=>?_;obtain⟨e,he⟩:=sortedAll_at s.heap ci out;have hz:(Ck.map V.int).length<=az:=by rw[ab,pm.length_eq];exact a0a (m:=64) (gn HQ)
 have k0:∀ b o,s.heap.get? b=O o->(sortedAll s.heap ci out).get? b=O o:=λb o=>sortedAll_old;have I1:Inv X pins J H { s with heap:=sortedAll s.heap ci out }:=I.kept (t':=s.toks) k0;have f1:H (s.heap.objs.size+1)=Y:=I.c8.fresh (hU _);refine⟨.ref (s.heap.objs.size+1),_,I.laid (t':=s.toks) (o:=.lst (Ck.map V.int)) k0 (hU _) ⟨hz,out.toList,e,uV i2,by simpa using he⟩,Z,q _ Ck f1 pm pw⟩
def TU(ta:TA):TE:=λ J H Q=>ta J H λvs H1=>∃ j:Int,vs=[.int j]/\∀ p,H1 p=Y->Q (.ref p) (upd H1 p (.og 0 j))
theorem yn{a:cF}{ta:TA}{p pos:jd}(hg:Gl X "range")(hm:X.mg "range" = Y)(ha:PA X [a] ta)(hs:bD [a] X.env=[(false,dP a X.env)]:=by rfl):PE X (.Call (.Name "range" p) [a] [] pos) (TU ta):=by
 intro pins s J H Q I h;refine ML (mR I hg hm boot_range (c7 (eC (ha pos pins s J H _ I h) λus s1 cX=>?_) hs Z));obtain⟨vs,H1,I1,r1,q1⟩:=cX;obtain⟨j,e,q⟩:=q1;subst e;cases r1 with
 |cons r rr =>
  cases rr;obtain⟨t,rfl⟩:=r;refine call_range_1 ⟨.ref s1.heap.objs.size,_,I1.laid (o:=.og 0 j) (λb o e=>ar _ e) (ay _) ⟨_,_,_,aO _ Z⟩,Z,q _ I1.fresh⟩
theorem qk(hc:X.calm=true):jy X (.type "list") (λxs H Q=>∃(a:ai)(j:Int),xs=[.ref a]/\H a=O (.og 0 j)/\j<=100000/\-100000<=j /\
  ∀ p,H p=Y->Q (.ref p) (upd H p (.lst (((bn j.toNat).map λ(i:Nat)=>(i:Int)).map V.int)))):=by
 intro pins s J H xs us Q I r h;obtain⟨a,j,rfl,ha,hj,KD,q⟩:=h;obtain⟨u,rfl,ru⟩:=a0j r;cases ru;obtain⟨t,u,v,ho⟩:=I.c8 a _ ha;have hn:ut 0 j 1=((j.toNat:Nat):Int):=by rw[rangeSize_one];split <;> omega
 refine call_list_range (n:=j.toNat) (I.ok.hd hc) ho (small_one (by decide) (by decide) (by omega) (by omega)) hn (by omega) λh' tk acc c' k KJ HS=>?_;have hI:dB acc.toList ((bn j.toNat).map λ(i:Nat)=>(i:Int)):=by
  obtain⟨ns,kc⟩:=a0F acc.toList λv hv=>by
   obtain⟨i,hi⟩:=cP hv;obtain⟨t,e⟩:=HS.2 i v (by rw[← b6];exact hi);exact⟨_,t,e⟩
  have e:ns=(bn j.toNat).map λ(i:Nat)=>(i:Int):=by
   have hl:=kc.length;have hs:acc.toList.length=j.toNat:=by rw[aT];exact HS.1
   refine dg λi=>?_
   by_cases hi:i<acc.toList.length
   .obtain⟨w',hw⟩:∃ w',acc.toList[i]?=O w':=⟨acc.toList[i],by simp⟩
    obtain⟨t,e1⟩:=HS.2 i w' (by rw[← b6];exact hw);obtain⟨t',e2⟩:=IntsAre.int_at kc i _ hw;rw[e1] at e2;injection e2 with e2 _;have h1:i<ns.length:=by (clear hc hj KD q hn e2 k hs;omega)
    have h2:i<j.toNat:=by (clear hc hj KD q hn k e2 h1 hl;omega)
    have h3:ns.getD i 0=(i:Int):=by rw[← e2];(clear hc hj KD q hn k hl hs hi e2 h1 h2;omega)
    simp[DZ,h1] at h3;simp[h1,h2,h3]
   .rw[bf (by (clear hc hj KD q hn k hs;omega)),bf (by simp;(clear hc hj KD q hn k hl;omega))]
  rw[← e];exact kc
 have hz:(((bn j.toNat).map λ(i:Nat)=>(i:Int)).map V.int).length<=az:=by simp only [ab,gi];exact a0a (m:=100000) (by omega)
 refine⟨.ref s.heap.objs.size,_,I.laid (t':=tk) (o:=.lst _) k (ay _) ⟨hz,acc.toList,c',uV hI,by simpa using KJ⟩,Z,q _ I.fresh⟩
theorem sS(hc:X.calm=true):jy X (.builtin "max") (λxs H Q=>∃(a:ai)(ks:List Int),xs=[.ref a]/\bI X.K H a (ks.map V.int)/\ks≠[]/\∀ M,M∈ks->(∀ k∈ks,k<=M)->Q (.int M) H):=by
 intro pins s J H xs us Q I r h;obtain⟨a,ks,rfl,ha,jZ,q⟩:=h;obtain⟨u,rfl,ru⟩:=a0j r;cases ru;obtain⟨ci,rv,pl,hz⟩:=I.list ha;have hi:dB ci ks:=a0l rv;obtain⟨xs,e⟩:=hi.allInts.items;have kc:ks=xs.toList.map (·.1):=by rw[← hi.numsOf,← nums_intItems,← e]
 have hsz:0<xs.size:=by
  have h3:0<ks.length:=dI.mpr jZ;rw[kc,ab,aT] at h3;exact h3
 have hl:=pl.isList;rw[e] at hl;refine max_intList (I.ok.hd hc) hl hsz λv h' tk hv hk=>?_;obtain⟨t,rfl⟩:=intItems_at hv;obtain⟨h1,h2⟩:=argBest_gt (numAt xs) (xs.size-1);refine⟨.int _,H,I.kept (t':=tk) hk,⟨t,Z⟩,q _ ?_ λk hk=>?_⟩
 .rw[kc,SY];exact Rp (by rw[ab,aT];(clear hc jZ q hz hk h2;omega))
 .rw[kc] at hk;obtain⟨j,hj,rfl⟩:=Rq hk;rw[ab,aT] at hj;rw[← SY];exact h2 j (by (clear hc jZ q hz hsz h1 h2;omega))
end
def JA(xs:List Nat):Prop:=xs.Pairwise (·<·)
theorem JA.lt{xs:List Nat}(h:JA xs){i j a b:Nat}(xY:i<j)(ha:xs[i]?=O a)(hb:xs[j]?=O b):a<b:=by
 obtain⟨h1,e1⟩:=aj.mp ha;obtain⟨h2,e2⟩:=aj.mp hb;have:=List.pairwise_iff_getElem.mp h i j h1 h2 xY;rw[e1,e2] at this;exact this
theorem vi(xs:Array Nat)(hr:JA xs.toList)(j:Nat):∀(fuel lo hi:Nat),hi-lo<=fuel->lo<=hi->hi<=xs.size->(∀(i v:Nat),i<lo->xs.toList[i]?=O v->v<j)->(∀(i v:Nat),hi<=i->xs.toList[i]?=O v->j<=v) ->
  lq xs j fuel lo hi<=xs.size/\(∀(i v:Nat),i<lq xs j fuel lo hi->xs.toList[i]?=O v->v<j)/\∀(i v:Nat),lq xs j fuel lo hi<=i->xs.toList[i]?=O v->j<=v
 |0,lo,hi,h1,h2,h3,h4,h5=>by
  have e:lo=hi:=by omega
  subst e;exact⟨h3,h4,h5⟩
 |fuel+1,lo,hi,h1,h2,h3,h4,h5=>by
  rw[lq]
  by_cases hl:lo<hi
  .rw[if_pos hl];have hm:(lo+hi) / 2<xs.size:=by (clear h1 h2 h4 h5;omega)
   have hg:xs.toList[(lo+hi) / 2]?=O (xs.getD ((lo+hi) / 2) j):=by
    rw[b6,nc hm];simp[Array.getD,hm]
   dsimp only
   by_cases hc:xs.getD ((lo+hi) / 2) j<j
   .rw[if_pos hc];refine vi xs hr j fuel _ _ (by (clear h5 hl hm hc h3 h4 h2;omega)) (by (clear h1 h2 h3 h4 hm hc h5;omega)) h3 (λi v Em hv=>?_) h5
    by_cases e:i=(lo+hi) / 2
    .subst e;rw[hg] at hv;cases hv;exact hc
    .exact mN (hr.lt (by (clear h1 h2 h3 h4 h5 hl hm hc;omega)) hv hg) hc
   .rw[if_neg hc];refine vi xs hr j fuel _ _ (by (clear h5 hl hm hc h3 h4 h2;omega)) (by (clear h1 h2 h3 h4 hm hc h5;omega)) (by (clear h1 h2 h3 h4 h5 hl hc;omega)) h4 (λi v Em hv=>?_)
    by_cases e:i=(lo+hi) / 2
    .subst e;rw[hg] at hv;cases hv;(clear h1 h2 h3 h4 h5 Em hl hm;omega)
    .have:=hr.lt (by (clear h1 h2 h3 h4 h5 hl hm hc;omega):(lo+hi) / 2<i) hg hv;(clear h1 h2 h3 h4 h5 hl Em e hm;omega)
  .rw[if_neg hl];have e:lo=hi:=by (clear h3 h4 h1 h5;omega)
   subst e;exact⟨h3,h4,h5⟩
theorem qA(xs:Array Nat)(hr:JA xs.toList)(j:Nat):bG xs j<=xs.size/\(∀(i v:Nat),i<bG xs j->xs.toList[i]?=O v->v<j)/\∀(i v:Nat),bG xs j<=i->xs.toList[i]?=O v->j<=v :=
 vi xs hr j xs.size 0 xs.size (by omega) (bq _) (ay _) (λi v h=>by omega) (λi v h e=>by
  have:=(aj.mp e).1;rw[aT] at this;omega)
theorem a0y{xs:Array Nat}(hr:JA xs.toList){k v:Nat}(h:xs.toList[k]?=O v):bG xs (v+1)=k+1:=by
 obtain⟨h1,h2,h3⟩:=qA xs hr (v+1);have hk:=(aj.mp h).1;rw[aT] at hk;rcases oo (bG xs (v+1)) (k+1) with gz | he | VM
 .have:=h3 k v (by omega) h;omega
 .exact he
 .have hk1:k+1<xs.size:=by omega
  obtain⟨u,hu⟩:∃ u,xs.toList[k+1]?=O u:=⟨xs[k+1],by rw[b6,nc hk1]⟩
  have a:=h2 (k+1) u VM hu;have b:=hr.lt (eS k) h hu
  (clear h1 h2 h3 hk VM hk1;omega)
theorem vj{xs:Array Nat}(hr:JA xs.toList):bG xs 0=0:=by
 obtain⟨h1,h2,_⟩:=qA xs hr 0;cases e:bG xs 0 with
 |zero=>rfl
 |succ k =>
  have hk:0<xs.size:=by omega
  have:=h2 0 xs[0] (by omega) (by rw[b6,nc hk]);omega
theorem EW{xs:Array Nat}(hr:JA xs.toList){j:Nat}(hn:xs[bG xs j]?≠O j):JA (SetTable.insertAt xs (bG xs j) j).toList:=by
 obtain⟨h1,h2,h3⟩:=qA xs hr j;rw[SetTable.toList_insertAt];have gz:∀ a∈xs.toList.take (bG xs j),a<j:=λa ha=>by
  obtain⟨i,hi⟩:=cP ha;have Em:i<bG xs j:=by
   have:=(aj.mp hi).1;rw[db] at this;omega
  rw[Dl Em] at hi;exact h2 i a Em hi
 have VM : ∀ b∈xs.toList.drop (bG xs j),j<b:=λb hb=>by
  obtain⟨i,hi⟩:=cP hb;rw[dU] at hi;have hle:=h3 _ b (jc _ i) hi;rcases Nat.lt_or_eq_of_le hle with z | z
  .exact z
  .subst z;exfalso;cases i with
   |zero=>rw[aad,b6] at hi;exact hn hi
   |succ i =>
    obtain⟨u,hu⟩:∃ u,xs.toList[bG xs j]?=O u:=by
     have hs:=(aj.mp hi).1;have:bG xs j<xs.toList.length:=by (clear hn h1 h2 h3 gz hle;omega)
     exact⟨xs.toList[bG xs j],by simp⟩
    have a:=h3 _ u (ay _) hu;have b:=hr.lt (by omega:bG xs j<bG xs j+(i+1)) hu hi;omega
 refine List.pairwise_append.mpr ⟨hr.sublist (uw _ _),mZ.mpr ⟨VM,hr.sublist (List.drop_sublist _ _)⟩,λa ha b hb=>?_⟩;rcases aG.mp hb with rfl | hb
 .exact gz a ha
 .exact mN (gz a ha) (VM b hb)
structure Tab(led:Bool)(t:dO):Prop where
 led:t.led=led
 dum:t.dummies=#[]
 XE:JA t.place.toList
theorem Tab.standIn{led:Bool}{t:dO}(h:Tab led t)(n:Nat):Tab led (t.standIn n):=⟨h.led,Z,by
 show JA (Array.range n).toList;rw[Array.toList_range];exact fG⟩
theorem FU(j:Nat):r6 #[] j=false:=by
 unfold r6;simp
theorem Gs(t:dO)(j:Nat):t.slot j=if (t.place[bG t.place j]? == O j)=true then .live (bG t.place j) else if r6 t.dummies j=true then .dummy else .empty:=rfl
theorem vQ{t:dO}(hd:t.dummies=#[])(f:Nat->Int)(h:Int):∀(fuel:Nat)(p:SetTable.Probe)(j:Nat)(d:Option Nat),p.dummy=Y->pf t f h fuel p=O (.empty j d)->d=Y/\t.place[bG t.place j]?≠O j
 |0,p,j,d,_,e=>by rw[pf] at e;cases e
 |fuel+1,p,j,d,hp,e=>by
  rw[pf] at e;have aa0:(t.advance p).dummy=Y:=by
   unfold SetTable.advance;split
   .exact hp
   .exact hp
  split at e
  .rename_i hs;cases e;refine⟨hp,λhc=>?_⟩;rw[Gs,hc] at hs;simp at hs
  .rename_i hs;rw[Gs,hd,FU] at hs;exfalso
   by_cases hb:(t.place[bG t.place p.j]? == O p.j)=true
   .rw[if_pos hb] at hs;cases hs
   .rw[if_neg hb] at hs;simp at hs
  .split at e
   .cases e
   .exact vQ hd f h fuel _ j d aa0 e
theorem Tab.layNew{led:Bool}{t:dO}(T:Tab led t)(es:Array (Int × ae))(h:Int)(x:ae):Tab led (layNew t es h x).2.1:=by
 unfold PySem.layNew;cases e:t.freeSlot h with
 |none=>exact T.standIn _
 |some sw =>
  obtain⟨slot,wd⟩:=sw;dsimp only;have key:Tab led (t.put slot).1:=by
   have jZ:t.place[bG t.place slot]?≠O slot:=by
    unfold SetTable.freeSlot at e;split at e
    .rename_i j d hp;cases e;unfold SetTable.probe at hp;obtain⟨e1,e2⟩:=vQ T.dum _ _ _ _ _ _ Z hp;subst e1;exact e2
    .cases e
   refine⟨T.led,?_,EW T.XE jZ⟩;show(if r6 t.dummies slot then _ else t.dummies)=#[];rw[T.dum,FU];rfl
  unfold SetTable.orStandIn;split
  .exact key
  .exact key.standIn _
theorem qd(f:Nat->Option Nat)(n:Nat):JA (((bn n).filterMap λj=>(f j).map λk=>(j,k)).map (·.1)):=by
 have:JA (((bn n).filterMap λj=>(f j).map λk=>(j,k)).map (·.1)):=by
  have e:((bn n).filterMap λj=>(f j).map λk=>(j,k)).map (·.1)=(bn n).filter λj=>(f j).isSome:=by
   induction (bn n) with
   |nil=>rfl
   |cons a r ih =>
    cases h:f a with
    |none=>simp[gJ,h,ih]
    |some k=>simp[gJ,h,ih]
  rw[e];exact fG.sublist List.filter_sublist
 exact this
theorem Tab.XC{led:Bool}{t:dO}(T:Tab led t)(es:Array (Int × ae))(wanted:Nat):Tab led (zX t es wanted).2.1:=by
 unfold zX;cases e:t.relaid (es.map (·.1)) wanted with
 |none=>exact T.standIn _
 |some q =>
  obtain⟨t',order⟩:=q;dsimp only;split
  .unfold SetTable.relaid SetTable.laid at e;cases e2:SetTable.layClean (FF wanted-1) (es.map (·.1)) with
   |none=>rw[e2] at e;cases e
   |some owner =>
    rw[e2] at e;cases e;refine⟨T.led,Z,?_⟩;have:=qd (λj=>owner.getD j Y) (FF wanted-1+1);simpa using this
  .exact T.standIn _
def nn(P:aS)(w:bv)(h:cR)(a:ai)(led:Bool)(ks:List Int):Prop :=
 ∃(o:fY)(es:Array (Int × ae))(ep:Nat)(t:dO)(ns:List Int),h.get? a=O o/\o.ExactSet/\o.data=.set es ep t/\ElemsOf (kH P w) es.toList/\dB (es.toList.map (·.2)) ns/\ns.Nodup/\(∀ k,k∈ns↔k∈ks) /\
  es.size<mv/\t.fits es.size=true/\Tab led t
theorem nn.keep{P:aS}{w:bv}{h h':cR}{a:ai}{led:Bool}{ks:List Int}(S:nn P w h a led ks)(k:∀ o,h.get? a=O o->h'.get? a=O o):nn P w h' a led ks:=by
 obtain⟨o,es,ep,t,ns,e,r⟩:=S;exact⟨o,es,ep,t,ns,k o e,r⟩
theorem x6:∀{l l':List ae}{ns:List Int},l'.Perm l->dB l ns->∃ Ck,dB l' Ck/\Ck.Perm ns:=by
 intro l l' ns hp
 induction hp generalizing ns with
 |nil=>intro h;exact⟨ns,h,.refl _⟩
 |cons x _ ih =>
  intro h;cases h with
  |cons n t r =>
   obtain⟨Ck,h1,h2⟩:=ih r;exact⟨n::Ck,.cons n t h1,h2.cons n⟩
 |swap x y l =>
  intro h;cases h with
  |cons n t r =>
   cases r with
   |cons m u r=>exact⟨m::n::_,.cons m u (.cons n t r),.swap n m _⟩
 |trans _ _ ih1 ih2 =>
  intro h;obtain⟨n1,a1,a2⟩:=ih2 h;obtain⟨n2,b1,b2⟩:=ih1 a1;exact⟨n2,b1,b2.trans a2⟩
theorem mQ{l l':List (Int × ae)}{ns:List Int}(hp:l'.Perm l)(h:dB (l.map (·.2)) ns):∃ Ck,dB (l'.map (·.2)) Ck/\Ck.Perm ns:=x6 (hp.map _) h
theorem g7:∀(l1 l2:List Int),l1.Nodup->(∀ x∈l1,x∈l2)->l1.length<=l2.length
 |[],_,_,_=>bq _
 |x::l1,l2,hn,hs=>by
  have hx:x∈l2:=hs x aL;have hxn:=(dt.mp hn).1;have:=g7 l1 (l2.erase x) (dt.mp hn).2 λy hy=>(List.mem_erase_of_ne (λe=>by subst e;exact hxn hy)).mpr (hs y (aW _ hy));rw[List.length_erase_of_mem hx] at this;have hp:0<l2.length:=List.length_pos_of_mem hx;rw[cz];omega
theorem a0v{k:Int}{t:YL}:∀{vs:List ae}{ns:List Int},dB vs ns->dB (vs++[.int k t]) (ns++[k])
 |_,_,.nil=>.cons k t .nil
 |_,_,.cons n u r=>.cons n u (a0v r)
theorem sX{P:aS}{w:bv}{k:Int}:∀{l:List (Int × ae)}{ns:List Int},dB (l.map (·.2)) ns->((∃ e∈l,(kH P w).is k e.2=true)↔k∈ns)
 |[],_,h=>by cases h;simp
 |(hh,v)::l,_,h=>by
  cases h with
  |cons n t r =>
   have ih:=sX (P:=P) (w:=w) (k:=k) r;rw[aG,← ih];constructor
   .rintro⟨e,he,q⟩;rcases aG.mp he with rfl | he
    .obtain⟨u,z⟩:=MW (k:=k) (v:=e5 n t) q;injection z with z _;exact .inl z.symm
    .exact .inr ⟨e,he,q⟩
   .rintro (rfl | ⟨e,he,q⟩)
    .exact⟨_,aL,by simp[kH,G7]⟩
    .exact⟨e,aW _ he,q⟩
theorem stored{h:cR}{a:ai}{ob:fY}{es:Array (Int × ae)}{ep:Nat}{t:dO}(ho:h.get? a=O ob)(hd:ob.data=.set es ep t)(M0:Array (Int × ae))(t2:dO) :
  (h.update a (Bw M0 t2)).get? a=O { ob with data:=.set M0 (ep+1) t2 }:=by
 have z:=k8 (Bw M0 t2) ho (by rw[putSet_of M0 t2 hd];rfl);rwa [putSet_of M0 t2 hd] at z
section
variable {P:aS}{w:bv}{A:cK}{E:ae->aq->Prop}
theorem BD{s:aq}{g:Bool->U2 Unit}(hg:∀(b:Bool)(s1:aq)(Q1:Unit->aq->Prop),Q1 () s1->wpAny (br P w) A (g b) Q1 E s1){a:ai}{ob:fY}{es:Array (Int × ae)}{ep:Nat}{t:dO}
  (ho:s.heap.get? a=O ob) (hex:ob.ExactSet) (hd:ob.data=.set es ep t) {led:Bool} {ks:List Int} {sh:Array (Int × ae)} {t2:dO} {ns:List Int} (Qq:ElemsOf (kH P w) sh.toList)
  (hi:dB (sh.toList.map (·.2)) ns) (nd:ns.Nodup) (hm:∀ k,k∈ns↔k∈ks) (hb:sh.size<mv) (hf:t2.fits sh.size=true) (hT:Tab led t2) {wd:Bool} {R:Option Bool->aq->Prop}
  (h:∀ h',gg a s.heap h'->nn P w h' a led ks->R (O true) { s with heap:=h' }) :
  wpAny (br P w) A (storeSet a sh t2 >>= λ_=>if (!wd && t2.tooFull)=true then (g (zX t2 sh (io sh.size)).2.2 >>= λ_ =>
   storeSet a (zX t2 sh (io sh.size)).1 (zX t2 sh (io sh.size)).2.1 >>= λ_=>pure (O true)) else pure (O true)) R E s:=by
 refine ah (ZW ho hd ?_ (pj hb));have g1:=stored ho hd sh t2;have sb:=y9 s.heap a (Bw sh t2);have S1:nn P w (s.heap.update a (Bw sh t2)) a led ks:=⟨_,sh,ep+1,t2,ns,g1,hex,Z,Qq,hi,nd,hm,hb,hf,hT⟩
 by_cases hc:(!wd && t2.tooFull)=true
 .rw[if_pos hc];have pm:=relayAll_perm t2 sh (io sh.size);have ft:=relayAll_fits t2 sh (io sh.size);have T3:=hT.XC sh (io sh.size);generalize zX t2 sh (io sh.size)=q at pm ft T3 ⊢;obtain⟨M0,t3,gv⟩:=q;dsimp only at pm ft T3 ⊢;obtain⟨ns2,i2,p2⟩:=mQ pm hi;have sz:M0.size=sh.size:=by rw[← aT,pm.length_eq,aT]
  have hb2:M0.size<mv:=by omega
  refine ah (hg _ _ _ (ah (ZW g1 Z ?_ (pj hb2))));have g2:=stored g1 Z M0 t3;refine aF (h _ (sb.trans (y9 _ a _)) ⟨_,M0,ep+1+1,t3,ns2,g2,hex,Z,Qq.perm pm,i2,p2.symm.nodup nd,λk=>(p2.mem_iff).trans (hm k),hb2,ft,T3⟩)
 .rw[if_neg hc];exact aF (h _ sb S1)
theorem Ps{s:aq}{a:ai}{led:Bool}{ks:List Int}{k:Int}{tk:YL}{Q:Bool->aq->Prop}(S:nn P w s.heap a led ks)(aeE:ks.length+1<mv)
  (h:∀ b h',gg a s.heap h'->nn P w h' a led (ks++[k])->Q b { s with heap:=h' }) :
  wpAny (br P w) A (setAddHashed a (.int k tk) ((kH P w).hash k)) Q E s:=by
 obtain⟨ob,es,ep,t,ns,ho,hex,hd,Qq,hi,nd,hm,hb,hf,hT⟩:=S;have Ig:(kH P w).is k (.int k tk)=true:=intKind_is _ _ _ _;have hsc:(e5 k tk).scannable=true:=rfl;have sW:ns.length<=ks.length:=g7 ns ks nd λx hx=>(hm x).mp hx;have NV:es.size=ns.length:=by
  have:=hi.length;rw[ab,aT] at this;exact this
 unfold setAddHashed setAddHashedIn;refine fW (ah (i9 ho hd hf ?_));dsimp only;rw[byScan_of hsc hb Qq];simp only [↓reduceIte];unfold setAddByScan;refine ah (ah (Jq (ah (wpAny_setScan_of Ig ho hd hf Qq ?_))));cases hr:List.findIdx? (λe=>(kH P w).is k e.2) es.toList with
 |some j =>
  dsimp only;obtain⟨hj,hpj,_⟩:=t4.mp hr;have FX:k∈ns:=(sX (P:=P) (w:=w) hi).mp ⟨es.toList[j],oA hj,hpj⟩;refine aF (aF ?_);have z:=h false s.heap (Heap.SameBut.refl a s.heap) ⟨ob,es,ep,t,ns,ho,hex,hd,Qq,hi,nd,λx=>?_,hb,hf,hT⟩
  .exact z
  .rw[bH,bj,hm x];exact⟨.inl,λq=>q.elim id λe=>by subst e;exact(hm _).mp FX⟩
 |none =>
  dsimp only;have abE:k ∉ ns:=λhk=>by
   obtain⟨e,he,q⟩:=(sX (P:=P) (w:=w) hi).mpr hk;have:=List.findIdx?_eq_none_iff.mp hr e he;rw[q] at this;cases this
  have hgw:∀(b:Bool)(s1:aq)(Q1:Unit->aq->Prop),Q1 () s1->wpAny (br P w) A (match b with | true=>rule "set.scan.the-table-gave-way" | false=>pure ()) Q1 E s1:=λb s1 Q1 hq=>by
   cases b
   .exact aF hq
   .exact Jq hq
  have pm:=layNew_perm t es ((kH P w).hash k) (.int k tk);have ft:=layNew_fits t es ((kH P w).hash k) (.int k tk);have T1:=hT.layNew es ((kH P w).hash k) (.int k tk);generalize layNew t es ((kH P w).hash k) (.int k tk)=q at pm ft T1 ⊢;obtain⟨sh,t1,wd,gv⟩:=q;dsimp only at pm ft T1 ⊢;rw[tY] at pm;have VG:ElemsOf (kH P w) sh.toList:=(Qq.push Ig hsc).perm pm;obtain⟨ns1,i1,p1⟩:=mQ pm (ns:=ns++[k]) (by rw[aB];exact a0v hi);have nd1:ns1.Nodup:=p1.symm.nodup (e7.mpr ⟨nd,by simp,λx hx y hy=>by
   have:y=k:=by simpa using hy
   subst this;exact λe=>abE (e ▸ hx)⟩)
  have uI:∀ x,x∈ns1↔x∈ks++[k]:=λx=>by rw[p1.mem_iff,bH,bH,hm x]
  have sz1:sh.size=es.size+1:=by rw[← aT,pm.length_eq,aV,aT];rfl
  have hb1:sh.size<mv:=by omega
  refine ah (hgw _ _ _ ?_);have fin:∀ h',gg a s.heap h'->nn P w h' a led (ks++[k])->Q true { s with heap:=h' }:=λh' sb S'=>h true h' sb S';split
  .refine ah ?_;rw[hashByValue_scannable 8 hsc];refine aF ?_;have e1:plainKind (e5 k tk)=true:=rfl;rw[e1];refine BD (g:=λb=>match b with | true=>rule "set.scan.the-table-gave-way" | false=>pure ()) hgw ho hex hd VG i1 nd1 uI hb1 ft T1 λh' sb S'=>?_;exact aF (fin h' sb S')
  .refine ah (aF ?_);refine BD (g:=λb=>match b with | true=>rule "set.scan.the-table-gave-way" | false=>pure ()) hgw ho hex hd VG i1 nd1 uI hb1 ft T1 λh' sb S'=>?_;exact aF (fin h' sb S')
end
end L2
namespace PySem
section
variable {prog:aS}{w:bv}{A:cK}{E:ae->aq->Prop}{s:aq}
theorem Ct(v:ae){Qn:ae->aq->Prop}
  (h:Qn (.ref s.heap.objs.size) { s with heap:=s.heap.push { cls:=.type "set",dict:=Y,data:=.set #[] 0 (.fresh 0 0 (!w.params.followText "set-order")) } }) :
  codeAny (br prog w) A (.call (.builtin "set.__new__") ⟨[.type "set",v],[]⟩) (wants Qn E) s:=by
 refine codeAny_of_tree ?_;show wpAny _ A.in1 (checkBuiltinCall "set.__new__" ⟨[.type "set",v],[]⟩ >>= λ_=>again (.builtin "set.__new__" ⟨[.type "set",v],[]⟩)) _ _ s;refine ah (T9 (F.newCall_set_1 v) (aF ⟨kn YD _,gG F.entry_set_new ?_⟩));rw[eU YD _];unfold jx.«set.__new__» Q7;have sW:=sub_set_self;obtain⟨hp,g,d,tk,os⟩:=s;dsimp only
 wp_walk
 refine jY (aF ?_);dsimp only;simp only [newObj];refine ah (wpAny_alloc (aF ?_));exact aF h
end
end PySem
namespace L2
open PySem PySem.Spec PyProof.Rows
section
variable {P:aS}{w:bv}{A:cK}{R:BC->aq->Prop}{I:ai}{fp wr:List ai}{G:Array G1->Array G1->Prop}{n:Nat}{Pv:Nat->ae->Prop}{St:Nat->aq->Prop}
theorem LW(W:WalksS P w A.in1 I fp wr G n Pv St)(a:ai)(YR:a ∉ fp)(led:Bool)(val:Nat->Int)(Sv:∀ i v,Pv i v->∃ t,v=.int (val i) t)(hb:n+1<mv) :
  ∀(k i:Nat)(s:aq),n-i=k->i<=n->St i s->nn P w s.heap a led ((bn i).map val) ->
   (∀ s',Moved (a::wr) G s s'->nn P w s'.heap a led ((bn n).map val)->R (.ok (.ret .none)) s') ->
   codeAny (br P w) A (.builtin "set.update.loop" ⟨[.ref a,.ref I],[]⟩) R s:=by
 have hSw:a ∉ wr:=λh=>YR (W.sub _ h);have sW:∀ b∈wr,b∈a::wr:=λb hb=>aW _ hb;intro k
 induction k with
 |zero =>
  intro i s hk hi N9 hS hR;obtain rfl:i=n:=by omega
  refine gG Js ?_;rw[eU pT _];show wpAny _ A.in1 (ms (.ref I) >>= _) _ _ s;refine ah (W.done s _ _ N9 λs' hm=>?_);show wpAny _ A.in1 (ret g9) _ _ s';exact aF (hR s' (hm.mono sW) (hS.keep λo e=>hm.heap a o hSw e))
 |succ k ih =>
  intro i s hk hi N9 hS hR;have gz:i<n:=by omega
  refine gG Js ?_;rw[eU pT _];show wpAny _ A.in1 (ms (.ref I) >>= _) _ _ s;refine ah (W.item i s _ _ gz N9 λv s1 hP ab0 hm=>?_);obtain⟨t,rfl⟩:=Sv i v hP;have S1:nn P w s1.heap a led ((bn i).map val):=hS.keep λo e=>hm.heap a o hSw e;show wpAny _ A.in1 (lD [e5 (val i) t] (setAdd a (.int (val i) t)) >>= _) _ _ s1;refine ah (fW ?_);unfold setAdd;refine fW (ah ((kH P w).pyHash (k:=val i) (intKind_is _ _ _ _) ?_));refine Ps (s:={ s1 with toks:=s1.toks+1 }) S1 (by rw[ab,gi];omega) λb h2 sb S2=>?_;have S3:nn P w h2 a led ((bn (i+1)).map val):=by
   rw[fe,aB];exact S2
  refine aF ⟨kn pT _,ih (i+1) _ (by omega) gz (W.frame _ s1 _ _ ab0 (hU _) λc hc o e=>?_) S3 λs2 Dz S4=>?_⟩
  .rw[sb.2 c (λz:c=a=>YR (by rw[← z];exact hc))];exact e
  .refine hR s2 (Moved.trans W.gtrans ((hm.mono sW).then_heap (hU _) λc o hc e=>?_) Dz) S4;rw[sb.2 c (λz:c=a=>hc (by rw[z];exact aL))];exact e
end
theorem LV{P:aS}{w:bv}{h:cR}{a:ai}{led:Bool}(e:h.get? a=O { cls:=.type "set",dict:=Y,data:=.set #[] 0 (.fresh 0 0 led) }):nn P w h a led [] :=
 ⟨_,#[],0,.fresh 0 0 led,[],e,⟨Z,Z,Z⟩,Z,λe he=>by simp at he,.nil,qP,λk=>Z7,by decide,Z,⟨Z,Z,AM⟩⟩
end L2
namespace PySem
open L2
section
variable {prog:aS}{w:bv}{A:cK}{E:ae->aq->Prop}{s:aq}
theorem zN{l:ai}{items:Array ae}{ns:List Int}{Q:ae->aq->Prop}(hh:A.handled=Y)(hl:s.heap.IsList l items)(hi:PyProof.Rows.IntsAre items.toList ns)(hb:items.size+1<mv)
  (h:∀(h':cR)(tk:Nat),nn prog w h' s.heap.objs.size (!w.params.followText "set-order") ((bn items.size).map λi=>ns.getD i 0)->(∀ b o,s.heap.get? b=O o->h'.get? b=O o)->Q (.ref s.heap.objs.size) { s with heap:=h',toks:=tk }) :
  wpAny (br prog w) A (BK (.type "set") [.ref l]) Q E s:=by
 obtain⟨cc,tl,ahK⟩:=js.mro;have aem:=js.made;have sW:=js.sub;refine Ys (codeAny_of_tree ?_);show wpAny _ _ (callAny (.type "set") _) _ _ _;refine aF ⟨Code.quiet_builtin _ (by trivial),gG F.entry_type_call ?_⟩;rw[Around.under_plain (weight_type_call_type "set" [.ref l] []) rfl];have hnt:=js.notType;have Vy:=js.canCreate;have hct:=F.typeCall_set_1 (.ref l)
 repeat (any_goals (first | assumption | wp_step))
 refine lu (Ct (.ref l) (E:=E) (Qn:=λob s1=>ob=.ref s.heap.objs.size/\s1={ s with heap:=s.heap.push { cls:=.type "set",dict:=Y,data:=.set #[] 0 (.fresh 0 0 (!w.params.followText "set-order")) } }) ⟨Z,Z⟩) λr s1 hr=>?_;generalize ahG:(!w.params.followText "set-order")=led at hr h;cases r with
 |error e=>exact hr
 |ok fl =>
  cases fl with
  |ret ob =>
   obtain⟨rfl,rfl⟩:=hr;have hS:(s.heap.push { cls:=.type "set",dict:=Y,data:=.set #[] 0 (.fresh 0 0 led) }).get? s.heap.objs.size=O { cls:=.type "set",dict:=Y,data:=.set #[] 0 (.fresh 0 0 led) }:=aO _ Z;have hT:Shared.TypeIs { s with heap:=s.heap.push { cls:=.type "set",dict:=Y,data:=.set #[] 0 (.fresh 0 0 led) } } (.ref s.heap.objs.size) "set" := ⟨_,hS,Z⟩
   have hli:=js.init.lookup;have YV:=js.init.bind (.ref s.heap.objs.size)
   repeat (any_goals (first | assumption | wp_step))
   refine lu (codeAny_call_builtin (R:=wants (λr s2=>r=.none/\∃ h' tk,s2={ s with heap:=h',toks:=tk }/\nn prog w h' s.heap.objs.size led ((bn items.size).map λi=>ns.getD i 0) /\
     (∀ b o,s.heap.get? b=O o->h'.get? b=O o)) E) js.init.plain F.entry_set_init (check_set_init_1 hT ?_)) λr2 s2 Wu=>?_
   .obtain⟨ol,Zb,YX,nl,M5⟩:=hl;obtain⟨ai2,Xh,ae8,Tg⟩:=ol;simp only at YX M5;subst YX;subst M5;have abI:(s.heap.push { cls:=.type "set",dict:=Y,data:=.set #[] 0 (.fresh 0 0 led) }).get? l=O { cls:=.type "list",dict:=Xh,data:=.seq items nl,slots:=Tg }:=ar _ Zb;have ah7:=F.sub_list_set;have ah6:=F.sub_list_frozenset;have JF:(jH "list" == jH "dict")=false:=by decide
    have Ii:(s.heap.push { cls:=.type "set",dict:=Y,data:=.set #[] 0 (.fresh 0 0 led) }).IsList l items:=⟨_,abI,Z,nl,Z⟩
    unfold jx.«set.__init__» noKeywords Q8;generalize hPI:IU=PI
    wp_walk
    subst hPI;refine pQ Ii ?_;refine ah (wpAny_runValue ?_);have hlS:l<s.heap.objs.size:=aH Zb;have Ic:A.in1.in1.in1.handled=Y:=by simp[hh]
    have hsz:(s.heap.push { cls:=.type "set",dict:=Y,data:=.set #[] 0 (.fresh 0 0 led) }).objs.size=s.heap.objs.size+1:=kC ..;have abD:l≠(s.heap.push { cls:=.type "set",dict:=Y,data:=.set #[] 0 (.fresh 0 0 led) }).objs.size:=by rw[hsz];exact aP (dJ hlS)
    have YR:s.heap.objs.size ∉ [(s.heap.push { cls:=.type "set",dict:=Y,data:=.set #[] 0 (.fresh 0 0 led) }).objs.size,l]:=by
     rw[hsz];intro z;rcases aG.mp z with z | z
     .exact absurd z (aP (eS _))
     .exact absurd (bj.mp z) (cI hlS)
    have Sv:∀(i:Nat)(v:ae),items[i]?=O v->∃ t,v=.int ((λi=>ns.getD i 0) i) t:=λi v hv=>MU hi i v (by rw[b6];exact hv);refine LW ((aax Ic _ l abD items).toS) s.heap.objs.size YR led (λi=>ns.getD i 0) Sv hb (items.size-0) 0 _ (by omega) (bq _) ⟨⟨_,aO _ Z,Z,Z⟩,Ii.push _⟩ ?hS0 ?hR
    case hS0=>exact LV (ar _ hS)
    case hR =>
     intro s' hm hS';obtain⟨h',g',d',ZQ,os'⟩:=s';have eg:g'=s.gens:=hm.gens;have ed:d'=s.drawn:=hm.drawn;have eo:os'=s.os:=hm.os;subst eg;subst ed;subst eo;show wpAny _ _ _ _ _ _;refine aF ?_;show wpAny _ _ (ret g9) _ _ _;refine aF ⟨Z,h',ZQ,Z,hS',λb o e=>hm.heap b o (λz=>?_) (ar _ (ar _ e))⟩;have gz:=aH e;rcases aG.mp z with z | z
     .exact absurd z (aP gz)
     .have z':=bj.mp z;rw[hsz] at z';exact absurd z' (aP (dJ gz))
   .cases r2 with
    |error e=>exact Wu
    |ok fl2 =>
     cases fl2 with
     |ret r =>
      obtain⟨rfl,h',tk,rfl,hS',hk'⟩:=Wu
      repeat (any_goals (first | assumption | wp_step))
      exact h _ _ hS' hk'
     |_=>exact Wu.elim
  |_=>exact hr.elim
end
end PySem
namespace PySem.F
theorem jX:Slot "set_iterator" "__next__" "set_iterator.__next__" :=
 .of (owner := "set_iterator") (n := "__next__") (by rw[typeLookup_type,Qa];kernel_rfl) (by trivial) (by trivial) (by trivial) (by first | exact .inl (by trivial) | exact .inr (by trivial)) (by rw[Iy];kernel_rfl)
theorem pK:RF table "set_iterator.__next__" = O jx.«set_iterator.__next__»:=aaH (by kernel_rfl)
theorem CT:Manifest.owners.lookup (String.ofList ['r','o','t','a','r','e','t','i','_','t','e','s'].reverse)=O Manifest.sig_set_iterator:=by kernel_rfl
theorem pJ(a:ae):argsOk "set_iterator.__next__" ⟨[a],[]⟩:=by
 unfold argsOk;rw[signature?_of (id := "set_iterator.__next__") (n:=['_','_','t','x','e','n','_','_']) (o:=['r','o','t','a','r','e','t','i','_','t','e','s']) (by kernel_rfl) CT];kernel_rfl
theorem Gr:Slot "set_iterator" "__iter__" "set_iterator.__iter__" :=
 .of (owner := "set_iterator") (n := "__iter__") (by rw[typeLookup_type,Qa];kernel_rfl) (by trivial) (by trivial) (by trivial) (by first | exact .inl (by trivial) | exact .inr (by trivial)) (by rw[Iy];kernel_rfl)
theorem Jf:RF table "set_iterator.__iter__" = O jx.«dict_keyiterator.__iter__»:=entryFor_alias (id' := "dict_keyiterator.__iter__") (by kernel_rfl) Z (by trivial) (by kernel_rfl)
theorem Je(a:ae):argsOk "set_iterator.__iter__" ⟨[a],[]⟩:=by
 unfold argsOk;rw[signature?_of (id := "set_iterator.__iter__") (n:=['_','_','r','e','t','i','_','_']) (o:=['r','o','t','a','r','e','t','i','_','t','e','s']) (by kernel_rfl) CT];kernel_rfl
theorem Fe:RF table "set.__iter__" = O jx.«frozenset.__iter__»:=entryFor_alias (id' := "frozenset.__iter__") (by kernel_rfl) Z (by trivial) (by kernel_rfl)
end PySem.F
namespace L2
open PySem PySem.Spec PyProof.Rows
section
variable {P:aS}{w:bv}{A:cK}{E:ae->aq->Prop}{s:aq}
theorem ET{M:YI}{src:Source}{n:Nat}{Q:Nat->aq->Prop}(hn:n≠0)(h:∀ i,i<n->Q i { s with drawn:=s.drawn.bump src }):wpAny M A (choose src n) Q E s :=
 λ_ _ _=>⟨hn,h _ (No _ (Nat.pos_of_ne_zero hn))⟩
theorem qB{α:Type}:∀(l:List α)(i:Nat)(h:i<l.length),(l[i]::l.eraseIdx i).Perm l
 |x::l,0,_=>.refl _
 |x::l,i+1,h=>by
  have h':i<l.length:=by simpa using h
  have:=qB l i h';show((x::l)[i+1]::x::l.eraseIdx i).Perm (x::l);exact(List.Perm.swap x _ _).trans (this.cons x)
theorem yi{α:Type}{M:YI}:∀(n:Nat)(xs:List α)(s:aq)(Q:List α->aq->Prop),xs.length=n->(∀ ys d,ys.Perm xs->Q ys { s with drawn:=d })->wpAny M A (drawOrder n xs) Q E s
 |0,xs,s,Q,hl,h=>by
  have:xs=[]:=j4.mp hl;subst this;exact aF (h [] s.drawn (.refl _))
 |n+1,[],s,Q,hl,h=>by simp at hl
 |n + 1,x::xs,s,Q,hl,h=>by
  rw[drawOrder]
  .refine ah (ET (by simp) λi hi=>?_);have e:(x::xs)[i]?=O ((x::xs)[i]):=by simp[hi]
   rw[e];dsimp only;refine ah (yi n _ _ _ ?_ λys d hp=>?_)
   .rw[AO hi];simp at hl ⊢;exact hl
   .refine aF (h _ d ?_);refine(hp.cons _).trans ?_;exact qB _ i hi
  .simp
structure G4(h:cR)(a:ai)(es:Array (Int × ae))(ep:Nat)(t:dO):Prop where
 ex:∃ o,h.get? a=O o/\o.ExactSet/\o.data=.set es ep t
 fits:t.fits es.size=true
theorem tR{a:ai}{es:Array (Int × ae)}{ep:Nat}{t:dO}{slot given:Nat}{Q:Option (ae × Nat)->aq->Prop}(S:G4 s.heap a es ep t)(hb:w.params.followText "set-order" = false)(hl:t.led=true)(hp:t.plain=true\/es.size<=1)
  (h:Q (match es[bG t.place slot]?,t.place[bG t.place slot]? with | some (_,x),O j=>O (x,j+1) | _,_=>Y) s):wpAny (br P w) A (uP a slot given ep) Q E s:=by
 obtain⟨o,ho,hex,hd⟩:=S.ex;unfold uP;refine ah (i9 ho hd S.fits ?_);dsimp only;unfold Jd;refine ah (ah (jY (aF ?_)));show wpAny _ _ (if w.params.followText "set-order" = true then _ else _) _ _ _;rw[hb];simp only [mX,if_false];have VE:(!t.plain && decide (es.size > 1))=false:=by
  rcases hp with hp | hp
  .rw[hp];rfl
  .rw[decide_eq_false (by omega),AK]
 refine eQ (λhc=>?_) (λ_=>?_)
 .have HW:(!t.plain && decide (es.size > 1))=true:=hc;rw[VE] at HW;cases HW
 .show wpAny _ _ ((if (!t.led && !es.isEmpty)=true then unsupported "set:maker-not-led" else pure ()) >>= λ_=>pure _) Q E s;rw[hl];simp only [Bool.not_true,iQ,mX,if_false];exact ah (aF (aF h))
theorem yf{a:ai}{es:Array (Int × ae)}{ep:Nat}{t:dO}{slot given:Nat}{Q:Option (ae × Nat)->aq->Prop}(S:G4 s.heap a es ep t)(hb:w.params.followText "set-order" = true)
  (h:Q (((mr (w.params.setOrder a ep) es)[given]?).map λe=>(e.2,slot)) s):wpAny (br P w) A (uP a slot given ep) Q E s:=by
 obtain⟨o,ho,hex,hd⟩:=S.ex;unfold uP;refine ah (i9 ho hd S.fits ?_);dsimp only;unfold Jd;refine ah (ah (jY (aF ?_)));show wpAny _ _ (if w.params.followText "set-order" = true then _ else _) _ _ _;rw[if_pos hb];refine eQ (λhc=>by simp at hc) (λ_=>?_);unfold setWalk;refine ah (ah (i9 ho hd S.fits ?_));dsimp only;unfold Jd;refine ah (ah (jY (aF ?_)));show wpAny _ _ (if w.params.followText "set-order" = true then _ else _) _ _ _;rw[if_pos hb];refine ah (jY (aF ?_));exact aF h
theorem EF{a:ai}{es:Array (Int × ae)}{ep:Nat}{t:dO}{place:Nat}{e:Int × ae}{Q:ae->aq->Prop}(S:G4 s.heap a es ep t)(he:es[place]?=O e)(h:Q e.2 s):wpAny (br P w) A (Pr a place ep) Q E s:=by
 obtain⟨o,ho,hex,hd⟩:=S.ex;unfold Pr;refine ah (i9 ho hd S.fits ?_);dsimp only;refine eQ (λhc=>by simp at hc) (λ_=>?_);rw[he];exact aF h
theorem yo{α:Type}(f:Nat->Nat):∀(fuel k:Nat)(left:List α)(out:Array α),left.length=fuel->(zT f fuel k left out).toList.Perm (out.toList++left)
 |0,k,left,out,hl=>by
  have:left=[]:=j4.mp hl;subst this;rw[zT];simp
 |fuel+1,k,left,out,hl=>by
  rw[zT];have hi:f k % left.length<left.length:=No _ (by omega);have e:left[f k % left.length]?=O (left[f k % left.length]):=by simp[hi]
  rw[e];dsimp only;refine(yo f fuel (k+1) _ _ (by rw[AO hi];omega)).trans ?_;rw[tY,d6];exact List.Perm.append_left _ (by simpa using qB left _ hi)
theorem LD{α:Type}(f:Nat->Nat)(es:Array α):(mr f es).toList.Perm es.toList:=by
 have:=yo f es.size 0 es.toList #[] (by simp);simpa [mr] using this
end
def mJ(first:ae)(S:ai)(i n ep:Nat):fY:={ cls:=.type "set_iterator",data:=.fields #[first,.int i 0,.ref S,.int n 0,.int ep 0] }
section
variable {P:aS}{w:bv}{A:cK}{E:ae->aq->Prop}{s:aq}
theorem Gq{I S:ai}{slot i n ep nx:Nat}{x:ae}{es:Array (Int × ae)}{t:dO}{Q:Option ae->aq->Prop}(hI:s.heap.get? I=O (mJ (.int slot 0) S i n ep))(hS:G4 s.heap S es ep t)(hn:es.size=n)
  (hN:∀(A':cK)(E':ae->aq->Prop)(Q':Option (ae × Nat)->aq->Prop),Q' (O (x,nx)) s->wpAny (br P w) A' (uP S slot i ep) Q' E' s)
  (h:∀ h',h'.get? I=O (mJ (.int nx 0) S (i+1) n ep)->gg I s.heap h'->Q (O x) { s with heap:=h' }):wpAny (br P w) A (ms (.ref I)) Q E s:=by
 have hT:s.TypeIs (.ref I) "set_iterator" := ⟨_,hI,Z⟩
 obtain⟨o,ho,hex,hd⟩:=hS.ex;unfold ms;refine ah (wz (k7 (name:=pY "__next__") hT F.jX (ib F.jX hT F.pK ?_ (F.pJ _))));unfold jx.«set_iterator.__next__»;refine ah (aF ?_);refine ah (uo hI Z ?_);show wpAny _ _ (Jb S >>= _) _ _ _;refine ah (j9 ho hd hS.fits ?_);refine eQ (λhc=>by rw[hn] at hc;simp at hc) (λ_=>?_);show wpAny _ _ (uP S slot i ep >>= _) _ _ _;refine ah (hN _ _ _ ?_);show wpAny _ _ (setField (.ref I) 0 (nH nx) >>= _) _ _ _;refine ah (iE hI (by simp) λh1 g1 XQ=>?_);refine ah (iE (s:={ s with heap:=h1 }) g1 (by simp) λh2 g2 sb2=>?_);exact aF ⟨_,Z,aF (h h2 (by simpa [mJ,nH] using g2) (XQ.trans sb2))⟩
theorem L3{I S:ai}{slot i n ep:Nat}{es:Array (Int × ae)}{t:dO}{Q:Option ae->aq->Prop}(hh:A.handled=Y)(hI:s.heap.get? I=O (mJ (.int slot 0) S i n ep))(hS:G4 s.heap S es ep t)(hn:es.size=n)
  (hN:∀(A':cK)(E':ae->aq->Prop)(Q':Option (ae × Nat)->aq->Prop),Q' Y s->wpAny (br P w) A' (uP S slot i ep) Q' E' s)
  (h:∀ h',Z5 I s.heap h'->Q Y { s with heap:=h' }):wpAny (br P w) A (ms (.ref I)) Q E s:=by
 have hT:s.TypeIs (.ref I) "set_iterator" := ⟨_,hI,Z⟩
 obtain⟨o,ho,hex,hd⟩:=hS.ex;unfold ms;refine ah (wz (k7 (name:=pY "__next__") hT F.jX (ib F.jX hT F.pK ?_ (F.pJ _))));unfold jx.«set_iterator.__next__»;refine ah (aF ?_);refine ah (uo hI Z ?_);show wpAny _ _ (Jb S >>= _) _ _ _;refine ah (j9 ho hd hS.fits ?_);refine eQ (λhc=>by rw[hn] at hc;simp at hc) (λ_=>?_);show wpAny _ _ (uP S slot i ep >>= _) _ _ _;refine ah (hN _ _ _ ?_);show wpAny _ _ (setField (.ref I) 2 .none >>= _) _ _ _;refine ah (iE hI (by simp) λh1 g1 XQ=>?_);show wpAny _ _ (newExc (.type "StopIteration") [] >>= _) _ _ _;refine ah ?_;simp only [newExc,newTuple];refine ah (fJ ?_ (by size_fits));refine ah (m:=uc _ _) (T9 (a:=g9) (by first | rfl | (simp only [uc];rfl)) ?_);refine fJ ?_ (by size_fits);simp only [raiseNew];refine ah (wpAny_handled ?_);rw[show A.in1.handled=Y from hh];refine ah (aF (wpAny_throw ?_));refine ah (De (T := "StopIteration") (b:=true) ⟨_,aO _ Z,Z⟩ isSubtype_stop ?_);exact aF (h _ ((XQ.extBut.push _).push _))
theorem Pp{I S T:ai}{i n ep:Nat}{e:Int × ae}{pl:List Nat}{p:Nat}{es:Array (Int × ae)}{t:dO}{Q:Option ae->aq->Prop}(hI:s.heap.get? I=O (mJ (.ref T) S i n ep))(hS:G4 s.heap S es ep t)(hn:es.size=n)
  (hT':s.heap.get? T=O { cls:=.type "tuple",data:=.seq (pl.map λ(k:Nat)=>nH k).toArray }) (hp:pl[i]?=O p) (he:es[p]?=O e)
  (h:∀ h',h'.get? I=O (mJ (.ref T) S (i+1) n ep)->gg I s.heap h'->Q (O e.2) { s with heap:=h' }):wpAny (br P w) A (ms (.ref I)) Q E s:=by
 have hT:s.TypeIs (.ref I) "set_iterator" := ⟨_,hI,Z⟩
 obtain⟨o,ho,hex,hd⟩:=hS.ex;unfold ms;refine ah (wz (k7 (name:=pY "__next__") hT F.jX (ib F.jX hT F.pK ?_ (F.pJ _))));unfold jx.«set_iterator.__next__»;refine ah (aF ?_);refine ah (uo hI Z ?_);show wpAny _ _ (Jb S >>= _) _ _ _;refine ah (j9 ho hd hS.fits ?_);refine eQ (λhc=>by rw[hn] at hc;simp at hc) (λ_=>?_);dsimp only;refine ah ?_;show wpAny _ _ (load T >>= _) _ _ _;refine ah (xA hT' (aF ?_));dsimp only;rw[show((Uc (λ(k:Nat)=>nH k) pl).toArray)[((i:Nat):Int).toNat]?=O (nH p) by rw[bO];simp[hp]];show wpAny _ _ (Pr S ((p:Nat):Int).toNat ((ep:Nat):Int).toNat >>= _) _ _ _;rw[bO,bO];refine ah (EF hS he ?_);refine ah (iE hI (by simp) λh2 g2 sb2=>?_);exact aF ⟨_,Z,aF (h h2 (by simpa [mJ,nH] using g2) sb2)⟩
theorem Tw{I S T:ai}{i n ep:Nat}{pl:List Nat}{es:Array (Int × ae)}{t:dO}{Q:Option ae->aq->Prop}(hh:A.handled=Y)(hI:s.heap.get? I=O (mJ (.ref T) S i n ep))(hS:G4 s.heap S es ep t)(hn:es.size=n)
  (hT':s.heap.get? T=O { cls:=.type "tuple",data:=.seq (pl.map λ(k:Nat)=>nH k).toArray }) (hp:pl[i]?=Y)
  (h:∀ h',Z5 I s.heap h'->Q Y { s with heap:=h' }):wpAny (br P w) A (ms (.ref I)) Q E s:=by
 have hT:s.TypeIs (.ref I) "set_iterator" := ⟨_,hI,Z⟩
 obtain⟨o,ho,hex,hd⟩:=hS.ex;unfold ms;refine ah (wz (k7 (name:=pY "__next__") hT F.jX (ib F.jX hT F.pK ?_ (F.pJ _))));unfold jx.«set_iterator.__next__»;refine ah (aF ?_);refine ah (uo hI Z ?_);show wpAny _ _ (Jb S >>= _) _ _ _;refine ah (j9 ho hd hS.fits ?_);refine eQ (λhc=>by rw[hn] at hc;simp at hc) (λ_=>?_);dsimp only;refine ah ?_;show wpAny _ _ (load T >>= _) _ _ _;refine ah (xA hT' (aF ?_));dsimp only;rw[show((Uc (λ(k:Nat)=>nH k) pl).toArray)[((i:Nat):Int).toNat]?=Y by rw[bO];simpa using hp];dsimp only;refine ah (iE hI (by simp) λh0 g0 sb0=>?_);refine ah (iE (s:={ s with heap:=h0 }) g0 (by simp) λh1 g1 XQ=>?_);show wpAny _ _ (newExc (.type "StopIteration") [] >>= _) _ _ _;refine ah ?_;simp only [newExc,newTuple];refine ah (fJ ?_ (by size_fits));refine ah (m:=uc _ _) (T9 (a:=g9) (by first | rfl | (simp only [uc];rfl)) ?_);refine fJ ?_ (by size_fits);simp only [raiseNew];refine ah (wpAny_handled ?_);rw[show A.in1.handled=Y from hh];refine ah (aF (wpAny_throw ?_));refine ah (De (T := "StopIteration") (b:=true) ⟨_,aO _ Z,Z⟩ isSubtype_stop ?_);exact aF (h _ (((sb0.trans XQ).extBut.push _).push _))
theorem Am{I S:ai}{first:ae}{i n ep:Nat}{Q:ae->aq->Prop}(hI:s.heap.get? I=O (mJ first S i n ep))(h:Q (.ref I) s):wpAny (br P w) A (IU (.ref I)) Q E s:=by
 have hT:s.TypeIs (.ref I) "set_iterator" := ⟨_,hI,Z⟩
 refine ZU hT F.Gr (ib F.Gr hT F.Jf ?_ (F.Je _));show wpAny _ _ (ret (.ref I)) _ _ s;exact aF ⟨_,Z,"set_iterator",_,hT,F.jX.lookup,h⟩
theorem G4.keep{h h':cR}{a:ai}{es:Array (Int × ae)}{ep:Nat}{t:dO}(x:G4 h a es ep t)(k:∀ o,h.get? a=O o->h'.get? a=O o):G4 h' a es ep t:=by
 obtain⟨o,e,r⟩:=x.ex;exact⟨⟨o,k o e,r⟩,x.fits⟩
theorem a0x{l:List Nat}{i:Nat}(h:i<l.length):l[i]?=O (l.getD i 0):=by simp[DZ,h]
def Ap(t:dO):Nat->Nat
 |0=>0
 |i+1=>t.place.toList.getD i 0+1
theorem AH(hh:A.handled=Y)(hb:w.params.followText "set-order" = false){I S:ai}(jZ:S≠I){es:Array (Int × ae)}{ep:Nat}{t:dO}(T:Tab true t)(hf:t.fits es.size=true)(hp:t.plain=true\/es.size<=1) :
  Walks P w A I [I,S] [I] es.toList.length (λi v=>(es.toList[i]?).map (·.2)=O v) (λi h=>h.get? I=O (mJ (.int (Ap t i) 0) S i es.size ep)/\G4 h S es ep t/\i<=es.size) where
 sub:=λb hb=>by simp at hb;simp[hb]
 frame:=λi h h' st hk=>⟨hk I (by simp) _ st.1,st.2.1.keep λo e=>hk S (by simp) o e,st.2.2⟩
 item:=λi s Q E hi st hQ=>by
  rw[aT] at hi;have hsz:t.place.size=es.size:=by unfold Nv at hf;simp at hf;exact hf.1
  have m8:t.place.toList[i]?=O (t.place.toList.getD i 0):=by
   have:i<t.place.toList.length:=by rw[aT];omega
   exact a0x this
  have YW:bG t.place (Ap t i)=i:=by
   cases i with
   |zero=>exact vj T.XE
   |succ j =>
    refine a0y T.XE ?_;have:j<t.place.toList.length:=by rw[aT];omega
    exact a0x this
  have NV:es[i]?=O (es[i]):=by simp[hi]
  refine Gq (x:=(es[i]).2) (nx:=Ap t (i+1)) st.1 st.2.1 Z (λA' E' Q' q=>tR st.2.1 hb T.led hp ?_) λh' g sb=>?_
  .rw[YW,NV,← b6,m8];exact q
  .refine hQ _ h' s.toks ?_ ⟨g,st.2.1.keep λo e=>sb.extBut S o jZ e,hi⟩ λb o hb e=>sb.extBut b o (λz=>hb (by simp[z])) e;rw[b6,NV];rfl
 done:=λs Q E st hQ=>by
  rw[aT] at st;have hsz:t.place.size=es.size:=by unfold Nv at hf;simp at hf;exact hf.1
  have YW:bG t.place (Ap t es.size)=es.size:=by
   cases e:es.size with
   |zero=>exact vj T.XE
   |succ j =>
    refine a0y T.XE ?_;have:j<t.place.toList.length:=by rw[aT];omega
    exact a0x this
  refine L3 hh st.1 st.2.1 Z (λA' E' Q' q=>tR st.2.1 hb T.led hp ?_) λh' eb=>hQ h' s.toks λb o hb e=>eb b o (λz=>hb (by simp[z])) e;rw[YW,show es[es.size]?=Y by simp];exact q
 self:=λ_ _ _ _ st hQ=>Am st.1 hQ
theorem Fs(hh:A.handled=Y)(hb:w.params.followText "set-order" = true){I S:ai}(jZ:S≠I){es:Array (Int × ae)}{ep:Nat}{t:dO}{slot:Nat} :
  Walks P w A I [I,S] [I] (mr (w.params.setOrder S ep) es).toList.length (λi v=>((mr (w.params.setOrder S ep) es).toList[i]?).map (·.2)=O v) (λi h=>h.get? I=O (mJ (.int slot 0) S i es.size ep)/\G4 h S es ep t) where
 sub:=λb hb=>by simp at hb;simp[hb]
 frame:=λi h h' st hk=>⟨hk I (by simp) _ st.1,st.2.keep λo e=>hk S (by simp) o e⟩
 item:=λi s Q E hi st hQ=>by
  have NV:(mr (w.params.setOrder S ep) es).toList[i]?=O ((mr (w.params.setOrder S ep) es).toList[i]):=by simp
  refine Gq (x:=((mr (w.params.setOrder S ep) es).toList[i]).2) (nx:=slot) st.1 st.2 Z (λA' E' Q' q=>yf st.2 hb ?_) λh' g sb=>?_
  .rw[← b6,NV];exact q
  .refine hQ _ h' s.toks (by rw[NV];rfl) ⟨g,st.2.keep λo e=>sb.extBut S o jZ e⟩ λb o hb e=>sb.extBut b o (λz=>hb (by simp[z])) e
 done:=λs Q E st hQ=>by
  refine L3 hh st.1 st.2 Z (λA' E' Q' q=>yf st.2 hb ?_) λh' eb=>hQ h' s.toks λb o hb e=>eb b o (λz=>hb (by simp[z])) e;rw[← b6,bf (ay _)];exact q
 self:=λ_ _ _ _ st hQ=>Am st.1 hQ
theorem Db(hh:A.handled=Y){I S T:ai}(jZ:S≠I)(hnt:T≠I){es:Array (Int × ae)}{ep:Nat}{t:dO}{pl:List Nat}(hp:pl.Perm (bn es.size)) :
  Walks P w A I [I,S,T] [I] pl.length (λi v=>∃ p e,pl[i]?=O p/\es.toList[p]?=O e/\v=e.2) (λi h=>h.get? I=O (mJ (.ref T) S i es.size ep)/\G4 h S es ep t/\h.get? T=O { cls:=.type "tuple",data:=.seq (pl.map λ(k:Nat)=>nH k).toArray }) where
 sub:=λb hb=>by simp at hb;simp[hb]
 frame:=λi h h' st hk=>⟨hk I (by simp) _ st.1,st.2.1.keep λo e=>hk S (by simp) o e,hk T (by simp) _ st.2.2⟩
 item:=λi s Q E hi st hQ=>by
  have m8:pl[i]?=O pl[i]:=by simp[hi]
  have gz:pl[i]<es.size:=cm.mp (hp.mem_iff.mp (oA hi));have NV:es[pl[i]]?=O (es[pl[i]]):=by simp[gz]
  refine Pp st.1 st.2.1 Z st.2.2 m8 NV λh' g sb=>?_;exact hQ _ h' s.toks ⟨_,_,m8,by rw[b6];exact NV,Z⟩ ⟨g,st.2.1.keep λo e=>sb.extBut S o jZ e,sb.extBut T _ hnt st.2.2⟩ λb o hb e=>sb.extBut b o (λz=>hb (by simp[z])) e
 done:=λs Q E st hQ=>Tw hh st.1 st.2.1 Z st.2.2 (by simp) λh' eb=>hQ h' s.toks λb o hb e=>eb b o (λz=>hb (by simp[z])) e
 self:=λ_ _ _ _ st hQ=>Am st.1 hQ
end
section
variable {P:aS}{w:bv}{A:cK}{E:ae->aq->Prop}{s:aq}
theorem KC{S:ai}{Q:Bool->aq->Prop}(hT:s.TypeIs (.ref S) "set")(h:Q false s):wpAny (br P w) A (sv (.ref S)) Q E s:=by
 unfold sv;refine ah (wpAny_specialOf hT PySem.F.slot_set_len.lookup ?_);generalize hid:("set.__len__" : String)=id0
 wp_delta
 rw[show splitId id0=O ("set","__len__") from by subst hid;decide +kernel];subst hid;refine ah (De (T := "set") (b:=true) hT (by rw[Iy];kernel_rfl) ?_);refine eQ (λYS=>absurd YS (by decide)) (λ_=>?_);refine eQ (λ_=>?_) (λYS=>absurd (by trivial) YS);exact ah (AJ hT (aF h))
theorem a0z{α:Type}(d:α)(L:List α):(bn L.length).map (λp=>L.getD p d)=L:=by
 refine dg λi=>?_
 by_cases h:i<L.length
 .simp[DZ,h]
 .rw[bf (by simp;omega),bf (by omega)]
def Rn(n:Nat)(Pv:Nat->ae->Prop)(ks:List Int):Prop:=∀ vs:List ae,vs.length=n->(∀ (j:Nat) v,vs[j]?=O v->Pv j v)->∃ ns,dB vs ns/\ns.Nodup/\∀ k,k∈ns↔k∈ks
theorem Gg{es ord:List (Int × ae)}{ns ks:List Int}(hi:dB (es.map (·.2)) ns)(nd:ns.Nodup)(hm:∀ k,k∈ns↔k∈ks)(hp:ord.Perm es):Rn ord.length (λi v=>(ord[i]?).map (·.2)=O v) ks:=λvs hl hv=>by
 have e:vs=ord.map (·.2):=by
  refine dg λi=>?_
  by_cases h:i<vs.length
  .have AW:=hv i vs[i] (by simp);rw[au,AW];simp
  .rw[bf (by omega),bf (by simp;omega)]
 obtain⟨Ck,h1,h2⟩:=mQ hp hi;exact⟨Ck,e ▸ h1,h2.symm.nodup nd,λk=>(h2.mem_iff).trans (hm k)⟩
theorem ES{es:List (Int × ae)}{ns ks:List Int}{pl:List Nat}(hi:dB (es.map (·.2)) ns)(nd:ns.Nodup)(hm:∀ k,k∈ns↔k∈ks)(hp:pl.Perm (bn es.length)):Rn pl.length (λi v=>∃ p e,pl[i]?=O p/\es[p]?=O e/\v=e.2) ks:=λvs hl hv=>by
 have e:vs=pl.map (λp=>(es.map (·.2)).getD p .none):=by
  refine dg λi=>?_
  by_cases h:i<vs.length
  .obtain⟨p,en,h1,h2,h3⟩:=hv i vs[i] (by simp);rw[au,h1,bi h,h3];simp[DZ,h2]
  .rw[bf (by omega),bf (by simp;omega)]
 have NZ:vs.Perm (es.map (·.2)):=by
  rw[e];have:=hp.map (λp=>(es.map (·.2)).getD p g9);rw[show bn es.length=bn (es.map (·.2)).length by simp,a0z] at this;exact this
 obtain⟨Ck,h1,h2⟩:=x6 NZ hi;exact⟨Ck,h1,h2.symm.nodup nd,λk=>(h2.mem_iff).trans (hm k)⟩
theorem LX{S:ai}{ks:List Int}{Q:ae->aq->Prop}(hh:A.handled=Y)(hS:nn P w s.heap S (!w.params.followText "set-order") ks)
  (h:∀ (I:ai) (h2:cR) (dr:MM) (fp:List ai) (n:Nat) (Pv:Nat->ae->Prop) (St:Nat->cR->Prop),(∀ b o,s.heap.get? b=O o->h2.get? b=O o)->Walks P w A I fp [I] n Pv St->St 0 h2->(∀ b∈fp,b=S\/s.heap.get? b=Y)->s.heap.get? I=Y->n<mv->Rn n Pv ks ->
   Q (.ref I) { s with heap:=h2,drawn:=dr }):wpAny (br P w) A (IU (.ref S)) Q E s:=by
 obtain⟨o,es,ep,t,ns,ho,hex,hd,Qq,hi,nd,hm,hb,hf,hT⟩:=hS;have Vu:s.TypeIs (.ref S) "set" := ⟨o,ho,hex.1⟩
 have Vs:=aH ho;refine ZU Vu YF (ib YF Vu F.Fe ?_ (F.args_set_iter_1 _));unfold jx.«frozenset.__iter__»;refine ah (aF ?_);show wpAny _ _ (qW S >>= _) _ _ _;unfold qW;refine ah (ah (j9 ho hd hf (aF ?_)));unfold setDrawn;refine ah (ah (i9 ho hd hf ?_));dsimp only;unfold Jd;refine ah (ah (jY (aF (aF ?_))));show wpAny _ _ (if (!w.params.followText "set-order" && (!t.plain && decide (es.size > 1)))=true then _ else _) _ _ _;have aer:∀{h':cR}{b:ai},s.heap.objs.size<=b->s.heap.get? b=Y:=λhb=>dX hb
 by_cases hc:(!w.params.followText "set-order" && (!t.plain && decide (es.size > 1)))=true
 .rw[if_pos hc];refine ah (yi es.size (bn es.size) _ _ (by simp) λpl dr hp=>?_);have m8:pl.length=es.size:=by rw[hp.length_eq,gi]
  refine ah (wpAny_newTuple ?_ (by rw[ab,m8];exact pj hb));refine ah (ZV (s:={ s with heap:=s.heap.push { cls:=.type "tuple",data:=.seq (pl.map λ(k:Nat)=>nH k).toArray },drawn:=dr }) (ar _ ho) hd hf ?_);refine ah (fJ (aF ⟨_,Z,"set_iterator",_,⟨_,aO _ Z,Z⟩,F.jX.lookup,?_⟩));have hsz:(s.heap.push { cls:=.type "tuple",data:=.seq (pl.map λ(k:Nat)=>nH k).toArray }).objs.size=s.heap.objs.size+1:=kC ..;have e2:∀ b ob,s.heap.get? b=O ob->((s.heap.push { cls:=.type "tuple",data:=.seq (pl.map λ(k:Nat)=>nH k).toArray }).push (mJ (.ref s.heap.objs.size) S 0 es.size ep)).get? b=O ob:=λb ob e=>ar _ (ar _ e);refine h _ _ dr [_,S,s.heap.objs.size] pl.length _ _ e2 (Db (t:=t) hh ?_ ?_ hp) ⟨?_,⟨⟨o,e2 _ _ ho,hex,hd⟩,hf⟩,?_⟩ ?_ ?_ (by rw[m8];exact hb) (ES hi nd hm (by simpa using hp))
  .rw[hsz];exact aP (dJ Vs)
  .rw[hsz];exact aP (eS _)
  .exact aO _ Z
  .exact ar _ (aO _ Z)
  .intro b Kt;simp only [aG,gR,or_false] at Kt;rcases Kt with rfl | rfl | rfl
   .exact .inr (dX (by rw[hsz];exact hU _))
   .exact .inl Z
   .exact .inr (dX (ay _))
  .exact dX (by rw[hsz];exact hU _)
 .rw[if_neg hc];refine ah (aF (ah (ZV ho hd hf ?_)));refine ah (fJ (aF ⟨_,Z,"set_iterator",_,⟨_,aO _ Z,Z⟩,F.jX.lookup,?_⟩));have e2:∀ b ob,s.heap.get? b=O ob->(s.heap.push (mJ (.int 0 0) S 0 es.size ep)).get? b=O ob:=λb ob e=>ar _ e;have jZ:S≠s.heap.objs.size:=aP Vs;have Y0:∀ b∈[s.heap.objs.size,S],b=S\/s.heap.get? b=Y:=λb Kt=>by
   simp only [aG,gR,or_false] at Kt;rcases Kt with rfl | rfl
   .exact .inr (dX (ay _))
   .exact .inl Z
  cases ht:w.params.followText "set-order" with
  |true =>
   have pm:=LD (w.params.setOrder S ep) es;have hlen:(mr (w.params.setOrder S ep) es).toList.length<mv:=by rw[pm.length_eq,aT];exact hb
   exact h _ _ s.drawn [s.heap.objs.size,S] _ _ _ e2 (Fs (t:=t) (slot:=0) hh ht jZ) ⟨aO _ Z,⟨⟨o,e2 _ _ ho,hex,hd⟩,hf⟩⟩ Y0 (dX (ay _)) hlen (Gg hi nd hm pm)
  |false =>
   rw[ht] at hT hc;have hp:t.plain=true\/es.size<=1:=by
    cases m8:t.plain with
    |true=>exact .inl Z
    |false =>
     rw[m8] at hc;refine .inr (oJ λz=>hc ?_);simpa using z
   exact h _ _ s.drawn [s.heap.objs.size,S] _ _ _ e2 (AH hh ht jZ hT hf hp) ⟨aO _ Z,⟨⟨o,e2 _ _ ho,hex,hd⟩,hf⟩,bq _⟩ Y0 (dX (ay _)) (by rw[aT];exact hb) (Gg hi nd hm (.refl _))
end
section
variable {P:aS}{w:bv}{A:cK}{E:ae->aq->Prop}{s:aq}
theorem Fd{S D:ai}{ks:List Int}{R:BC->aq->Prop}(hh:A.handled=Y)(hS:nn P w s.heap S (!w.params.followText "set-order") ks)(jZ:D≠S)(res:ae){c0:Nat}(hD:s.heap.get? D=O { cls:=.type "list",data:=.seq #[] c0 })
  (hR:∀ (h':cR) (tk:Nat) (dr:MM) (acc:Array ae) (c:Nat) (ns:List Int),(∀ b o,b≠D->s.heap.get? b=O o->h'.get? b=O o)->h'.get? D=O { cls:=.type "list",dict:=Y,data:=.seq acc c,slots:=#[] }->dB acc.toList ns->ns.Nodup->(∀ k,k∈ns↔k∈ks) ->
   R (.ok (.ret res)) { s with heap:=h',toks:=tk,drawn:=dr }) :
  wpAny (br P w) A.in1 (kZ (.ref D) (.ref S) res) (λfin s'=>match fin with | .done f=>R (.ok f) s' | .again c'=>c'.quiet=true/\codeAny (br P w) A c' R s') (λe s'=>R (.error e) s') s:=by
 have Vu:s.TypeIs (.ref S) "set" := by
  obtain⟨o,es,ep,t,ns,ho,hex,_⟩:=hS;exact⟨o,ho,hex.1⟩
 unfold kZ;refine ah (AJ (T := "set") Vu ?_);have h1:ur (.ref D) (.ref S)=false:=by simp[ur,jZ]
 have h2:(jH "set" == jH "list")=false:=by decide
 have h3:(jH "set" == jH "tuple")=false:=by decide
 simp only [h1,h2,h3,UM,mX,if_false];refine ah (LX (A:=A.in1) hh hS λI hp dr fp n Pv St kp W st Y0 hI hn outs=>?_);have hDp:=kp _ _ hD;have hDf:D ∉ fp:=λhm=>by
  rcases Y0 D hm with e | e
  .exact jZ e
  .rw[hD] at e;cases e
 have key:∀(h4:cR)(c4 tk:Nat),St 0 h4->(∀ b o,b≠D->s.heap.get? b=O o->h4.get? b=O o)->h4.get? D=O { cls:=.type "list",data:=.seq #[] c4 } ->
   codeAny (br P w) A (.builtin "list.extend.loop" ⟨[.ref D,.ref I,res],[]⟩) R { s with heap:=h4,toks:=tk,drawn:=dr }:=by
  intro h4 c4 tk st4 k4 hD4;refine codeAny_extend_loopS W.toS (pj hn) D hDf res n 0 _ #[] c4 Z (bq _) st4 hD4 (ItemsOf.nil _) λs5 acc c5 hm hD5 HS=>?_;obtain⟨ns,i1,i2,i3⟩:=outs acc.toList (by rw[aT];exact HS.1) λj v e=>HS.2 j v (by rw[← b6];exact e);rw[Moved.eq_with hm];refine hR s5.heap s5.toks dr acc c5 ns (λb o hb e=>hm.heap b o (λEn=>?_) (k4 b o hb e)) hD5 i1 i2 i3;rcases aG.mp En with z | z
  .exact hb z
  .rw[bj.mp z] at e;rw[hI] at e;cases e
 refine ah (fW (KC (s:={ s with heap:=hp,drawn:=dr }) (by obtain⟨o,ho,hc⟩:=Vu;exact⟨o,kp _ _ ho,hc⟩) ?_));refine eQ (λ_=>?_) (λ_=>aF ⟨kn xH _,key hp c0 _ st (λb o _ e=>kp b o e) hDp⟩);refine ah (Jq (ah ?_));show wpAny _ _ (updateSeq D (·.push .none) >>= λ_=>updateSeq D (·.pop)) _ _ _;refine ah (wpAny_updateSeq hDp Z ?_);have g2:=k8 (nj (·.push g9)) hDp Z;refine wpAny_updateSeq (hz:=by seq_fits) g2 Z ?_;have g3:=k8 (nj (·.pop)) g2 Z;refine aF ⟨kn xH _,key _ _ _ (W.frame 0 _ _ st λb hb o e=>?_) (λb o hb e=>?_) g3⟩
 .have hbD:b≠D:=λz=>hDf (z ▸ hb);exact(fF _ _ (cg hbD)).trans ((fF _ _ (cg hbD)).trans e)
 .exact(fF _ _ (cg hb)).trans ((fF _ _ (cg hb)).trans (kp b o e))
theorem CS{S:ai}{ks:List Int}{R:List ae->aq->Prop}(hh:A.handled=Y)(hS:nn P w s.heap S (!w.params.followText "set-order") ks)
  (h:∀(h':cR)(tk:Nat)(dr:MM)(vs:List ae)(ns:List Int),(∀ b o,s.heap.get? b=O o->h'.get? b=O o)->dB vs ns->ns.Nodup->(∀ k,k∈ns↔k∈ks)->R vs { s with heap:=h',toks:=tk,drawn:=dr }) :
  wpAny (br P w) A (collect (.ref S)) R E s:=by
 have gz:S<s.heap.objs.size:=by
  obtain⟨o,es,ep,t,ns,ho,_⟩:=hS;exact aH ho
 unfold collect;refine ah (wpAny_runValue (gG entry_proto_collect' ?_));rw[eU PySem.F.plain_proto_collect _];show wpAny _ A.in1 (newList [] >>= λl=>again (.builtin "list.__iadd__" ⟨[l,.ref S],[]⟩)) _ _ s;refine ah (fJ (aF ⟨kn AU _,gG entry_list_iadd' ?_⟩));rw[eU AU _];have hD:(s.heap.push { cls:=.type "list",data:=.seq ([]:List ae).toArray }).get? s.heap.objs.size=O { cls:=.type "list",data:=.seq #[] }:=aO _ Z;show wpAny _ A.in1 (kZ (.ref s.heap.objs.size) (.ref S) (.ref s.heap.objs.size)) _ _ _;have key:=Fd (A:=A) (s:={ s with heap:=s.heap.push { cls:=.type "list",data:=.seq ([]:List ae).toArray } }) (ks:=ks)
  (R:=λ(q:BC) (s':aq)=>∃ (h':cR) (tk:Nat) (dr:MM) (acc:Array ae) (c:Nat) (ns:List Int),q=.ok (.ret (.ref s.heap.objs.size))/\s'={ s with heap:=h',toks:=tk,drawn:=dr }/\(∀ b o,s.heap.get? b=O o->h'.get? b=O o) /\
   h'.get? s.heap.objs.size=O { cls:=.type "list",dict:=Y,data:=.seq acc c,slots:=#[] }/\dB acc.toList ns/\ns.Nodup/\∀ k,k∈ns↔k∈ks)
  hh (hS.keep λo e=>ar _ e) (cI gz) (.ref s.heap.objs.size) hD
  (λh' tk dr acc c ns hk g i1 i2 i3=>⟨h',tk,dr,acc,c,ns,Z,Z,λb o e=>hk b o (aP (aH e)) (ar _ e),g,i1,i2,i3⟩)
 refine fL key (λfin s' x=>?_) λe s' x=>?_
 .cases fin with
  |done f =>
   obtain⟨h',tk,dr,acc,c,ns,e,rfl,hk,g,i1,i2,i3⟩:=x;cases e;show wpAny _ A (load s.heap.objs.size >>= _) _ _ _;exact ah (xA g (aF (h h' tk dr acc.toList ns hk i1 i2 i3)))
  |again c1 =>
   refine⟨x.1,lu x.2 λq s2 y=>?_⟩;obtain⟨h',tk,dr,acc,c,ns,rfl,rfl,hk,g,i1,i2,i3⟩:=y;show wpAny _ A (load s.heap.objs.size >>= _) _ _ _;exact ah (xA g (aF (h h' tk dr acc.toList ns hk i1 i2 i3)))
 .obtain⟨_,_,_,_,_,_,z,_⟩:=x;cases z
theorem Fg{S:ai}{ks:List Int}{Q:ae->aq->Prop}(hh:A.handled=Y)(hS:nn P w s.heap S (!w.params.followText "set-order") ks)(HQ:∀ ns:List Int,ns.Nodup->(∀ k∈ns,k∈ks)->ns.length<64)
  (h:∀ (h1 h2:cR) (tk:Nat) (dr:MM) (out:List ae) (ns:List Int) (e:Nat),(∀ b o,s.heap.get? b=O o->h1.get? b=O o)->(∀ b o,h1.get? b=O o->h2.get? b=O o)->dB out ns->ns.Nodup->ns.Pairwise (·<=·)->(∀ k,k∈ns↔k∈ks) ->
   h2.get? h1.objs.size=O { cls:=.type "list",data:=.seq out.toArray e }->Q (.ref h1.objs.size) { s with heap:=h2,toks:=tk,drawn:=dr }) :
  wpAny (br P w) A (BK (.builtin "sorted") [.ref S]) Q E s:=by
 refine Calls.call_function_entry kind_sorted plain_sorted entry_sorted (args_sorted1 _) ?_;unfold jx.«sorted»;refine ah (m:=checkCount "sorted" 1 1 _) (aF ?_);refine ah (CS (A:=A.in1) hh hS λh' tk dr vs ns hk i1 i2 i3=>?_);have hl:vs.length<64:=by rw[i1.length];exact HQ ns i2 λk hk=>(i3 k).mp hk
 refine ah (wpAny_newList ?_ (a0a (m:=64) (gn hl)));have V8:(h'.push (seqObj "list" vs.toArray 0)).get? h'.objs.size=O (seqObj "list" vs.toArray 0):=aO _ Z;refine ah (fW (ib slot_list_sort ⟨_,V8,Z⟩ entry_list_sort (list_sort_tree (n:=0) V8 i1 hl λout Ck a1 a2 a3=>⟨_,Z,?_⟩) (args_list_sort _)));obtain⟨e,he⟩:=sortedHeap_at (out:=out) V8;refine aF ⟨_,Z,h h' _ tk dr out.toList Ck e hk (λb o q1=>?_) a1 (a2.symm.nodup i2) a3 (λk=>a2.mem_iff.trans (i3 k)) (by simpa using he)⟩;rw[sortedHeap_old (aP (aH q1)) (by rw[size_push'];exact dJ (aH q1))];exact ar _ q1
end
theorem Gk{ns:List Int}(h:ns.Pairwise (·<=·))(d:ns.Nodup):ns.Pairwise (·<·):=by
 refine(h.and d).imp λcX=>?_;obtain⟨a,b⟩:=cX;omega
def QW(K:af)(ta:TA):TE:=λ J H Q=>ta J H λvs H1=>∃(a:ai)(ks:List Int),vs=[.ref a]/\bI K H1 a (ks.map V.int)/\ks.length+1<4096/\(∀ ns:List Int,ns.Nodup->(∀ k∈ns,k∈ks)->ns.length<64) /\
 ∀(p:ai)(ns:List Int),H1 p=Y->ns.Pairwise (·<·)->(∀ k,k∈ns↔k∈ks)->Q (.ref p) (upd H1 p (.lst (ns.map V.int)))
theorem xg{X:Cx}{e:cF}{ta:TA}{p1 p2 To zU:jd}(hc:X.calm=true)(hg:Gl X "sorted")(hm:X.mg "sorted" = Y)(Qs:Gl X "set")(Dz:X.mg "set" = Y)(he:PA X [e] ta)
  (h1:bD [e] X.env=[(false,dP e X.env)]:=by rfl) (h2:bD [.Call (.Name "set" p2) [e] [] zU] X.env=[(false,dP (.Call (.Name "set" p2) [e] [] zU) X.env)]:=by rfl) :
  PE X (.Call (.Name "sorted" p1) [.Call (.Name "set" p2) [e] [] zU] [] To) (QW X.K ta):=by
 intro pins s J H Q I h;have inner:wpAny (br X.prog X.w) X.A (dP (.Call (.Name "set" p2) [e] [] zU) X.env) (λv s1=>∃ (S:ai) (H1:Hp) (ks:List Int),v=.ref S/\Inv X pins J H1 s1/\nn X.prog X.w s1.heap S (!X.w.params.followText "set-order") ks/\(∀ ns:List Int,ns.Nodup->(∀ k∈ns,k∈ks)->ns.length<64) /\
   ∀ (p:ai) (ns:List Int),H1 p=Y->ns.Pairwise (·<·)->(∀ k,k∈ns↔k∈ks)->Q (.ref p) (upd H1 p (.lst (ns.map V.int)))) X.xe s:=by
  refine ML (mR I Qs Dz PyProof.Rows.boot_set (c7 (eC (he zU pins s J H _ I h) λus s1 cX=>?_) h1 Z));obtain⟨vs,H1,I1,r,q⟩:=cX;obtain⟨a,ks,rfl,ha,hz,HQ,q⟩:=q;obtain⟨u,rfl,ru⟩:=a0j r;cases ru;obtain⟨ci,rv,pl,_⟩:=I1.list ha;have hi:dB ci ks:=a0l rv;have hs:ci.toArray.size=ks.length:=by rw[aZ];exact hi.length
  refine PySem.zN (I1.ok.hd hc) pl.isList (by simpa using hi) (by rw[hs];exact hz) λh' tk sI k=>?_;rw[hs,a0z] at sI;exact⟨_,H1,ks,Z,I1.kept (t':=tk) k,sI,HQ,q⟩
 refine ML (mR I hg hm mf (qR (by
  rw[h2];refine jz (eC inner λv s1 x=>nM ?_);obtain⟨S,H1,ks,rfl,I1,sI,HQ,q⟩:=x;refine Fg (I1.ok.hd hc) sI HQ λh1 h2 tk dr out ns e k1 k2 i1 nd pw mem ho=>?_;have I2:Inv X pins J H1 { s1 with heap:=h1,toks:=tk,drawn:=dr }:=I1.Qb (s':={ s1 with heap:=h1,toks:=tk,drawn:=dr }) (ch:=[]) Z (Un.kept k1) (I1.c8.kept k1) I1.bare (λ_ z=>nomatch z);have hz:(ns.map V.int).length<=az:=by rw[ab];exact a0a (m:=64) (gn (HQ ns nd λk hk=>(mem k).mp hk))
  exact⟨.ref h1.objs.size,_,I2.laid (t':=tk) (o:=.lst (ns.map V.int)) k2 (ay _) ⟨hz,out,e,uV i1,ho⟩,Z,q _ ns I2.fresh (Gk pw nd) mem⟩) h2 Z))
theorem px(ns:List Int):(ns.map V.int).all oq=true:=by rw[bL];intro v hv;obtain⟨i,_,rfl⟩:=bE.mp hv;rfl
theorem oV(x:Int)(ns:List Int):SC (.int x) (ns.map V.int)=decide (x∈ns):=by
 unfold SC;rw[List.any_map,em,decide_eq_true_iff,i7];constructor
 .rintro⟨y,hy,e⟩;have:y=x:=by simpa [BU] using e
  exact this ▸ hy
 .intro h;exact⟨x,h,by simp[BU]⟩
theorem Kf(ns:List Int)(k:Nat)(h:k<=ns.length):BQ (ns.map V.int) (O (k:Int)) Y=(ns.drop k).map V.int:=by
 unfold BQ;rw[HT.Go,HT.CD,ab,Nat.min_eq_left h,← UV,hE (by simp)]
theorem dR{ns:List Int}{i:Nat}{x:V}(h:(ns.map V.int)[i]?=O x):∃ z,ns[i]?=O z/\x=.int z:=by
 rw[au] at h;cases e:ns[i]? with
 |none=>rw[e] at h;cases h
 |some z=>rw[e] at h;exact⟨z,Z,(bQ h).symm⟩
theorem o9{n m:Nat}(h:n<=m)(hm:m+1<=1000000:=by decide):n<az:=a0a (n:=n+1) (m:=m+1) (Nat.succ_le_succ h) hm
theorem cG{xs:List Int}{i:Nat}{z:Int}(h:xs[i]?=O z){x:Int}:x∈xs.take (i+1)↔x∈xs.take i\/x=z:=by
 rw[aM,h];simp
def del(H:Hp)(g:ai):Hp:=λb=>if b=g then Y else H b
theorem dF{H:Hp}{g b:ai}(h:b≠g):del H g b=H b:=if_neg h
theorem n5{H:Hp}{g:ai}{o:HO}:del (upd H g o) g=del H g:=by
 funext b
 by_cases e:b=g
 .unfold del;rw[if_pos e,if_pos e]
 .rw[dF e,dF e,bh e]
theorem kL(H:Hp)(g:ai):aU (del H g) H:=λb o e=>by
 by_cases q:b=g
 .unfold del at e;rw[if_pos q] at e;cases e
 .rw[dF q] at e;exact e
theorem lO{H H':Hp}(s:aU H H')(g:ai):aU (del H g) (del H' g):=λb o e=>by
 by_cases q:b=g
 .unfold del at e;rw[if_pos q] at e;cases e
 .rw[dF q] at e;rw[dF q];exact s b o e
def KL(H H2:Hp)(g:ai):Hp:=jf H (del H2 g)
structure Dh{α:Type}(R:Rel α)(H H2:Hp)(g:ai)(xs:List α):Prop where
 g0:H g=Y
 s:aU H H2
 ex:∃ vs,H2 g=O (.lst vs)/\gf (R (KL H H2 g)) xs vs
section
variable {α:Type}{R:Rel α}{H H1 H2 H3:Hp}{g:ai}{xs:List α}
theorem Dh.start(s:aU H H1)(h:H1 g=Y):Dh R H (upd H1 g (.lst [])) g []:=⟨s.free h,s.trans (av h _),[],ao,.nil⟩
theorem Dh.go(m:kJ R)(b:Dh R H H2 g xs)(s:aU H2 H3):Dh R H H3 g xs:=by
 obtain⟨g0,s0,vs,h,p⟩:=b;exact⟨g0,s0.trans s,vs,s _ _ h,dq m (kj (aU.refl _) (lO s g)) p⟩
theorem Dh.push(m:kJ R)(b:Dh R H H2 g xs)(s:aU H2 H3){x:α}{v:V}(r:R (jf H2 H3) x v):∃ vs,H3 g=O (.lst vs)/\vs.length=xs.length/\Dh R H (upd H3 g (.lst (vs++[v]))) g (xs++[x]):=by
 have b3:=b.go m s;obtain⟨g0,s0,vs,h,p⟩:=b3;refine⟨vs,h,p.length.symm,g0,s0.put g0 _,vs++[v],ao,?_⟩;have e:KL H (upd H3 g (.lst (vs++[v]))) g=KL H H3 g:=by unfold KL;rw[n5]
 rw[e];refine Paired.app p (.cons (m.up (λc o q=>?_) r) .nil);have RQ:H2 c=Y:=by
  cases z:H2 c with
  |none=>rfl
  |some u=>rw[nE z] at q;cases q
 rw[eV RQ] at q;have hcg:c≠g:=λz=>by subst z;rw[b.ex.choose_spec.1] at RQ;cases RQ
 unfold KL;rw[eV (b.s.free RQ),dF hcg];exact q
theorem Dh.done(m:kJ R)(b:Dh R H H2 g xs):iV R (jf H H2) xs (.ref g):=by
 obtain⟨g0,s0,vs,h,p⟩:=b;exact⟨g,vs,Z,by rw[eV g0];exact h,dq m (kj (aU.refl _) (kL _ _)) p⟩
theorem Dh.sq(b:Dh R H H2 g xs):∃ vs,H2 g=O (.lst vs)/\vs.length=xs.length:=by
 obtain⟨vs,h,p⟩:=b.ex;exact⟨vs,h,p.length.symm⟩
end
theorem uM{H H1 H2:Hp}(s:aU H1 H2):aU (jf H H1) (jf H H2):=kj (aU.refl _) s
theorem Cg{H H':Hp}{p:ai}{ns:List Int}(h:H p=Y)(h':H' p=O (.lst (ns.map V.int))):iV lT (jf H H') ns (.ref p):=iA.mpr ⟨p,Z,by rw[eV h];exact h'⟩
abbrev Row:=Int × Int × List Int
abbrev zW:Rel Row:=rT3 lT lT (iV lT)
abbrev hZ:Rel (List Row):=iV zW
theorem iU:kJ zW:=Ow fS fS (dv fS)
theorem dS:kJ hZ:=dv iU
theorem tE{H:Hp}{r:Row}{v:V}(h:zW H r v):∃ t wa,v=.ref t/\H t=O (.tup [.int r.1,.int r.2.1,.ref wa])/\H wa=O (.lst (r.2.2.map V.int)):=by
 obtain⟨t,x,y,z,rfl,h1,h2,h3,h4⟩:=h;obtain⟨wa,rfl,h5⟩:=iA.mp h4;cases h2;cases h3;exact⟨t,wa,Z,h1,h5⟩
theorem zZ{H H1:Hp}{h r:Int}{ws:List Int}{wa t:ai}(s:aU H H1)(h1:H wa=Y)(h2:H1 wa=O (.lst (ws.map V.int)))(ht:H1 t=Y):zW (jf H (upd H1 t (.tup [.int h,.int r,.ref wa]))) (h,r,ws) (.ref t):=by
 refine⟨t,_,_,_,Z,?_,Z,Z,Cg h1 ?_⟩
 .rw[eV (s.free ht),ao]
 .rw[bh (cw h2 ht)];exact h2
theorem dk{H:Hp}{G:List Row}{v:V}(h:hZ H G v):∃ g vs,v=.ref g/\H g=O (.lst vs)/\vs.length=G.length /\
  ∀(i:Nat)(r:Row),G[i]?=O r->∃ t wa,vs[i]?=O (.ref t)/\H t=O (.tup [.int r.1,.int r.2.1,.ref wa])/\H wa=O (.lst (r.2.2.map V.int)):=by
 obtain⟨g,vs,rfl,h1,p⟩:=h;refine⟨g,vs,Z,h1,p.length.symm,λi r hr=>?_⟩;obtain⟨y,hy,ry⟩:=Paired.at p hr;obtain⟨t,wa,rfl,h2,h3⟩:=tE ry;exact⟨t,wa,hy,h2,h3⟩
theorem Vj{α:Type}{xs:List α}{z:Int}(h0:0<=z)(h1:z<xs.length):∃ x,xs[z.toNat]?=O x:=⟨xs[z.toNat]'(by omega),by simp⟩
theorem fi{vs:List V}{z:Int}{v:V}(h0:0<=z)(h:vs[z.toNat]?=O v):oB vs z=O v:=by
 have:=bb h;rwa [gQ h0] at this
section
variable {X:Cx}{K:af}(hK:X.K=K)
include hK
theorem iy:Ub X (Xx K):=by subst hK;exact Oi
theorem m9:Ub X (Xy K):=by subst hK;exact SF
theorem UK:SlR X (XB K):=by subst hK;exact Pw
theorem inS:tN X (fI .In) (ZB K false):=by subst hK;exact IR
theorem lQ:tN X (fI .NotIn) (ZB K true):=by subst hK;exact zL
theorem gp:jy X (.builtin "len") (λxs H Q=>∃ p ys,xs=[.ref p]/\(bI K H p ys\/gA K H p ys)/\Q (.int ys.length) H):=by subst hK;exact ze
theorem Ry:jy X (.type "list") (λxs H Q=>∃ p ys,xs=[.ref p]/\(bI K H p ys\/gA K H p ys)/\∀ l,H l=Y->Q (.ref l) (upd H l (.lst ys))):=by subst hK;exact zg
theorem BM{T:String}:jy X (.builtin "isinstance") (λxs H Q=>∃ x S b,xs=[x,.ty T]/\F3 H x S/\j6 K (.type S) (.type T)=O b/\Q (.bl b) H):=by subst hK;exact Kd
theorem acN{x y z:aE}{p1 p2 p3 pos:jd}{k:Nat}(hc:X.calm=true)(hN:X.N.Nodup)(h0:X.N[0]?=O x)(h1:X.N[1]?=O y)(h2:X.N[2]?=O z)(hx:X.env.scope.names.lookup x=O .local)(hy:X.env.scope.names.lookup y=O .local)
  (hz:X.env.scope.names.lookup z=O .local):JY X 3 (.Tuple [.Name x p1,.Name y p2,.Name z p3] k pos) (C4 K 3):=by subst hK;exact LL hc hN h0 h1 h2 hx hy hz
theorem O9{x y:aE}{p1 p2 pos:jd}{k:Nat}(hc:X.calm=true)(hN:X.N.Nodup)(h0:X.N[0]?=O x)(h1:X.N[1]?=O y)(hx:X.env.scope.names.lookup x=O .local)(hy:X.env.scope.names.lookup y=O .local) :
  JY X 2 (.Tuple [.Name x p1,.Name y p2] k pos) (C4 K 2):=by subst hK;exact LK hc hN h0 h1 hx hy
end
theorem cW{K:af}{a:ai}{xs:List V}{tt:G5}{tc:TT}{te:TE}{cap:List Nat}{J:St}{H:Hp}{D:ai->List V->Hp->Prop}(Pv:Nat->List V->Hp->Prop)(h0:Pv 0 [] H)(hz:xs.length<=az)(hl:∀ i ys H,i<=xs.length->Pv i ys H->bI K H a xs/\ys.length<=i)
  (hs:∀ i x ys H,xs[i]?=O x->Pv i ys H->tt x H λws=>tc (ws.map O++gD J cap) H λb H4=>if b=true then te (ws.map O++gD J cap) H4 λy H5=>Pv (i+1) (ys++[y]) H5 else Pv (i+1) ys H4)
  (hd:∀ ys H,Pv xs.length ys H->∀ p,H p=Y->D p ys H) :
  ∃ W:Nat->Nat->List V->Hp->Prop,(∃ m,W 0 m [] H)/\∀ i m ys H2,W i m ys H2 ->
  ((P1 K a).stop i H2/\ys.length<=az/\∀ p,H2 p=Y->D p ys H2) \/
  ((P1 K a).go i H2/\∃ N:List V->Hp->Prop,(∀ l9 H',N l9 H'->l9.length<=az/\∃ m',m'<m/\W (i+1) m' l9 H') /\
   ∀ x H3,(P1 K a).Df i H2 x H3->tt x H3 λws=>tc (ws.map O++gD J cap) H3 λb H4 =>
    if b=true then te (ws.map O++gD J cap) H4 λy H5=>N (ys++[y]) H5 else N ys H4):=by
 refine⟨λi m ys H=>m=xs.length-i/\i<=xs.length/\Pv i ys H,⟨xs.length,by simp,bq _,h0⟩,?_⟩;rintro i m ys H2 ⟨rfl,hi,p⟩;obtain⟨q,hy⟩:=hl i ys H2 hi p
 by_cases gz:i<xs.length
 .refine .inr ⟨⟨xs,xs[i],q,by simp[gz]⟩,Pv (i+1),λl9 H' r=>?_,λx H3 y=>?_⟩
  .obtain⟨_,h2⟩:=hl (i+1) l9 H' gz r;exact⟨by omega,xs.length-(i+1),by omega,Z,gz,r⟩
  .obtain⟨e,y⟩:=y;subst e;exact hs i x ys _ (y xs q) p
 .have e:i=xs.length:=by omega
  subst e;exact .inl ⟨⟨xs,q,ay _⟩,by omega,hd ys H2 p⟩
theorem BP{lo:Int}{n:Nat}{tt:G5}{tc:TT}{te:TE}{cap:List Nat}{J:St}{H:Hp}{D:ai->List V->Hp->Prop}(Pv:Nat->List V->Hp->Prop)(h0:Pv 0 [] H)(hz:n<=az)(hl:∀ i ys H,i<=n->Pv i ys H->ys.length<=i)
  (hs:∀ i ys H,i<n->Pv i ys H->tt (.int (lo+i)) H λws=>tc (ws.map O++gD J cap) H λb H4=>if b=true then te (ws.map O++gD J cap) H4 λy H5=>Pv (i+1) (ys++[y]) H5 else Pv (i+1) ys H4)
  (hd:∀ ys H,Pv n ys H->∀ p,H p=Y->D p ys H) :
  ∃ W:Nat->Nat->List V->Hp->Prop,(∃ m,W 0 m [] H)/\∀ i m ys H2,W i m ys H2 ->
  ((Nn lo n).stop i H2/\ys.length<=az/\∀ p,H2 p=Y->D p ys H2) \/
  ((Nn lo n).go i H2/\∃ N:List V->Hp->Prop,(∀ l9 H',N l9 H'->l9.length<=az/\∃ m',m'<m/\W (i+1) m' l9 H') /\
   ∀ x H3,(Nn lo n).Df i H2 x H3->tt x H3 λws=>tc (ws.map O++gD J cap) H3 λb H4 =>
    if b=true then te (ws.map O++gD J cap) H4 λy H5=>N (ys++[y]) H5 else N ys H4):=by
 refine⟨λi m ys H=>m=n-i/\i<=n/\Pv i ys H,⟨n,by simp,bq _,h0⟩,?_⟩;rintro i m ys H2 ⟨rfl,hi,p⟩;have hy:=hl i ys H2 hi p
 by_cases gz:i<n
 .refine .inr ⟨gz,Pv (i+1),λl9 H' r=>?_,λx H3 y=>?_⟩
  .have h2:=hl (i+1) l9 H' gz r;exact⟨by omega,n-(i+1),by omega,Z,gz,r⟩
  .obtain⟨e,y⟩:=y;subst e;subst y;exact hs i ys _ gz p
 .have e:i=n:=by omega
  subst e;exact .inl ⟨ay _,by omega,hd ys H2 p⟩
theorem Inv.pN{X:Cx}{pins:List (ai × fY)}{J:St}{H:Hp}{s:aq}{h':cR}{t':Nat}{ch:List ai}(I:Inv X pins J H s)(hf:∀ b∈ch,wL X pins H b)(k:∀ b o,b ∉ ch->s.heap.get? b=O o->h'.get? b=O o) :
  Inv X pins J H { s with heap:=h',toks:=t' }:=by
 have Xa:∀ b u,H b=O u->b ∉ ch:=λb u e z=>by rw[(hf b z).1] at e;cases e
 refine I.step (g':=s.gens) (d':=s.drawn) (ch:=ch) (λb hb=>?_) (λb o _ _ hc e _=>k b o hc e) (λb o _ _ hc e _=>⟨o.slots,k b o hc e⟩) (λ_ _ _ _ n=>n)
  (λb o hc e=>⟨o,k b o hc e⟩) (λ_ _ e=>e) (λ_ _ _ e=>e) (λb ps e=>⟨#[],by rw[e];simp⟩) (λm hm=>?_) (λb u e=>?_) I.bare
 .obtain⟨_,h1,_,h3,h4,h5⟩:=hf b hb;exact⟨h3,h1,h4,h5⟩
 .obtain⟨o,es,ep,ho,r⟩:=hm;exact⟨o,es,ep,k _ o (λz=>(hf _ z).2.1 Z) ho,r⟩
 .refine(I.c8 b u e).Fm (λc v hc q=>k c v ?_ q) (λ_ q=>q) λ_ _ q=>q;rcases hc with z | z
  .rw[z];exact Xa b u e
  .exact Xa c _ z
theorem Inv.adopt{X:Cx}{pins:List (ai × fY)}{J:St}{H:Hp}{s:aq}{T:ai}{o:HO}(I:Inv X pins J H s)(hf:wL X pins H T)(new:gc X.prog X.w (upd H T o) s.heap T o):Inv X pins J (upd H T o) s:=by
 obtain⟨h0,h1,h2,h3,h4,h5⟩:=hf;refine I.step (h':=s.heap) (g':=s.gens) (d':=s.drawn) (t':=s.toks) (ch:=[T]) (λb hb=>?_) (λb u _ _ _ e _=>e) (λb u _ _ _ e _=>⟨u.slots,e⟩) (λb u hc e n=>?_)
  (λb u _ e=>⟨u,e⟩) (λb xs e=>?_) (λb u v e=>?_) (λb ps e=>⟨#[],?_⟩) (λm hm=>hm) (I.c8.adopt h0 new) I.bare
 .have e:b=T:=by simpa using hb
  subst e;exact⟨h3,h1,h4,h5⟩
 .rw[bh (λz=>hc (by simp[z]))];exact n
 .rw[bh (cw e h0)];exact e
 .rw[bh (cw e h0)];exact e
 .rw[bh (cw e h0),e];simp
def P0(K:af)(a:ai):It :=
 ⟨λi H=>∃ xs x,bI K H a xs/\xs[i]?=O x,λi H v H'=>∃ T x,v=.ref T/\H T=Y/\(∀ xs,bI K H a xs->xs[i]?=O x)/\H'=upd H T (.tup [.int (i:Nat),x]),λi H=>∃ xs,bI K H a xs/\xs.length<=i⟩
theorem Jk{P:aS}{w:bv}{K:af}{elts:List cF}{k:Nat}{pos:jd}(a e it:ai)(jZ:e≠it):Turn P w K (.Tuple elts k pos) (P0 K a) [e,it] e (λi h=>(∃ old,IsEnum h e it (i:Nat) old)/\h.IsListIter it a i) where
 mem:=by simp
 obj := λi h st b hb=>by
  obtain⟨⟨old,s1⟩,o,e1,c,d⟩:=st;rcases aG.mp hb with z | z
  .subst z;exact⟨_,s1,λv z=>by cases z⟩
  .have z:b=it:=by simpa using z
   subst z;exact⟨o,e1,λv z=>by rw[d] at z;cases z⟩
 keep:=λi h h' st k=>⟨by obtain⟨⟨old,s1⟩,_⟩:=st;exact⟨old,k e (by simp) _ s1⟩,st.2.at λo q=>k it (by simp) o q⟩
 item:=by
  intro X hP hw hK hc i pins s J H E I hf st hg;subst hP hw hK;obtain⟨xs,x,hq,hx⟩:=hg;obtain⟨ci,rv,p,hz⟩:=I.list hq;obtain⟨u,hu,ru⟩:=rv.get hx;obtain⟨⟨old,s1⟩,s2⟩:=st;have le:e<s.heap.objs.size:=aH s1;refine wpAny_pyNext_enum_item s1 s2 p.isList (x:=u) (by simpa using hu) jZ λh' ho Em ht hsz kp=>?_;refine⟨_,Z,Jp ho λh2 he2 sb=>?_⟩;have I1:Inv X pins J H { s with heap:=h2,toks:=s.toks+1 }:=I.pN (t':=s.toks+1) (ch:=[e,it]) hf λb o hb q=>by
   have HV:b≠e:=λz=>hb (by simp[z]);have YV:b≠it:=λz=>hb (by simp[z]);exact(sb.2 b HV).trans (kp b o HV YV q)
  have hT:h2.get? s.heap.objs.size=O { cls:=.type "tuple",data:=.seq #[e5 (i:Nat) s.toks,u] }:=(sb.2 _ (cI le)).trans ht;have Qr:H s.heap.objs.size=Y:=I.c8.fresh (ay _);have vs2:Vals [V.int (i:Nat),x] [e5 (i:Nat) s.toks,u]:=.cons ⟨s.toks,Z⟩ (.cons ru .nil);have I2:=I1.adopt (o:=.tup [.int (i:Nat),x]) (I.wU (ay _) Qr) ⟨(by show 2<=az;decide),[e5 (i:Nat) s.toks,u],vs2,⟨_,hT,Z,_,Z⟩⟩;have en:IsEnum h2 e it ((i+1:Nat):Int) u:=by
   have e1:((i+1:Nat):Int)=((i:Nat):Int)+1:=by omega
   rw[e1];exact he2
  refine⟨.ref s.heap.objs.size,_,I2,Z,⟨_,x,Z,Qr,λys hy=>by rw[I.rC hy hq];exact hx,Z⟩,⟨⟨u,en⟩,Em.at λo q=>(sb.2 it (cg jZ)).trans q⟩,λb hb=>?_⟩;rw[bh (λz=>?_)]
  .exact(hf b hb).1
  .subst z;rcases aG.mp hb with z | z
   .exact absurd z (cI le)
   .have z:s.heap.objs.size=it:=by simpa using z
    obtain⟨o,q,_⟩:=s2;exact absurd z (cI (aH q))
 done:=by
  intro X hP hw hK hc i pins s J H E I hf st hg;subst hP hw hK;obtain⟨xs,hq,hx⟩:=hg;obtain⟨ci,rv,p,hz⟩:=I.list hq;obtain⟨⟨old,s1⟩,s2⟩:=st;have hl:=rv.length;refine wpAny_pyNext_enum_end (I.ok.hd hc) s1 s2 p.isList (by simp;omega) λh' eb=>⟨Z,?_⟩
  exact I.pN (t':=s.toks) (ch:=[it]) (λb hb=>hf b (aW _ hb)) λb o hb q=>eb b o (λz=>hb (by simp[z])) q
 self:=λ_ _ _ _ _ st h=>pP st.1.choose_spec h
def WR(K:af)(ta:TA):TI:=λ J H R=>ta J H λvs H1=>∃ a,vs=[.ref a]/\(∃ xs,bI K H1 a xs)/\R (P0 K a) H1
theorem zR{X:Cx}{K:af}{elts:List cF}{k:Nat}{AE:jd}{l:cF}{ta:TA}{p pos:jd}(hK:X.K=K)(hg:Gl X "enumerate")(hm:X.mg "enumerate" = Y)(ha:PA X [l] ta)(hs:bD [l] X.env=[(false,dP l X.env)]:=by rfl) :
  PI X (.Tuple elts k AE) (.Call (.Name "enumerate" p) [l] [] pos) (WR K ta):=by
 subst hK;intro pins s J H R I h;refine ML (mR I hg hm sN (c7 (eC (ha pos pins s J H _ I h) λus s1 cX=>?_) hs Z));obtain⟨vs,H1,I1,r1,q1⟩:=cX;obtain⟨a,rfl,⟨xs,hq⟩,q⟩:=q1;obtain⟨u,rfl,ru⟩:=a0j r1;cases ru;obtain⟨ci,rv,p,hz⟩:=I1.list hq;refine call_enumerate_list p.isList λh' he hi hsz kp=>?_;refine pP he ?_;refine⟨s1.heap.objs.size+1,[s1.heap.objs.size+1,s1.heap.objs.size],_,_,H1,Z,I1.kept (t':=s1.toks) kp,Jk a _ _ (wP _),⟨⟨_,he⟩,hi⟩,λb hb=>?_,q⟩;have Kt:s1.heap.objs.size<=b:=by
  rcases aG.mp hb with z | z
  .rw[z];exact hU _
  .have z:b=s1.heap.objs.size:=by simpa using z
   rw[z];exact ay _
 exact I1.wU Kt (I1.c8.fresh Kt)
theorem BX{K:af}{a:ai}{xs:List V}{g:TG}{tb:TS}{D:Ends}{J:St}{H:Hp}(Pv:Nat->St->Hp->Prop)(h0:Pv 0 J H)(hl:∀ i J H,i<=xs.length->Pv i J H->bI K H a xs)
  (hs:∀ i x J H T,xs[i]?=O x->Pv i J H->H T=Y->g (.ref T) J (upd H T (.tup [.int (i:Nat),x])) λσ2 H2=>tb { D with nx:=Pv (i+1),ct:=Pv (i+1),bk:=D.nx } σ2 H2) (hd:∀ J H,Pv xs.length J H->D.nx J H) :
  ∃ W:Nat->Nat->St->Hp->Prop,(∃ m,W 0 m J H)/\∀ i m J H,W i m J H ->
   ((P0 K a).stop i H/\D.nx J H)\/((P0 K a).go i H/\∃ N:St->Hp->Prop,(∀ σ' H',N σ' H'->∃ m',m'<m/\W (i+1) m' σ' H')/\∀ x H',(P0 K a).Df i H x H'->g x J H' λσ2 H2=>tb { D with nx:=N,ct:=N,bk:=D.nx } σ2 H2):=by
 refine⟨λi m J H=>m=xs.length-i/\i<=xs.length/\Pv i J H,⟨xs.length,by simp,bq _,h0⟩,?_⟩;rintro i m J H ⟨rfl,hi,p⟩;have q:=hl i J H hi p
 by_cases gz:i<xs.length
 .refine .inr ⟨⟨xs,xs[i],q,by simp[gz]⟩,Pv (i+1),λσ' H' p'=>⟨xs.length-(i+1),by omega,Z,gz,p'⟩,λx H' y=>?_⟩;obtain⟨T,z,rfl,hT,y,rfl⟩:=y;exact hs i z J _ T (y xs q) p hT
 .have e:i=xs.length:=by omega
  subst e;exact .inl ⟨⟨xs,q,ay _⟩,hd J H p⟩
end L2
namespace L2
open PySem
theorem yj{α β:Type}{F:α->β->Prop}:∀{xs:List α}{ys:List β},xs.length=ys.length->(∀ (i:Nat) x y,xs[i]?=O x->ys[i]?=O y->F x y)->gf F xs ys
 |[],[],_,_=>.nil
 |x::xs,y::ys,hl,h=>.cons (h 0 x y Z Z) (yj (by simpa using hl) λi a b ha hb=>h (i+1) a b (by simpa using ha) (by simpa using hb))
 |[],_::_,hl,_=>by cases hl
 |_::_,[],hl,_=>by cases hl
structure Cells(H:Hp)(r:ai)(as:List ai)(Ls:List (List Int)):Prop where
 hd:H r=O (.lst (as.map V.ref))
 nd:as.Nodup
 rn:r ∉ as
 len:as.length=Ls.length
 cell:∀ (i:Nat) a,as[i]?=O a->∃ L,Ls[i]?=O L/\H a=O (.lst (L.map V.int))
theorem pB{α:Type}{as:List α}(h:as.Nodup){i j:Nat}{a:α}(h1:as[i]?=O a)(h2:as[j]?=O a):i=j:=by
 obtain⟨l1,e1⟩:=aj.mp h1;obtain⟨l2,e2⟩:=aj.mp h2;exact(P3 h).mp (e1.trans e2.symm)
section
variable {H H':Hp}{r:ai}{as:List ai}{Ls:List (List Int)}
theorem Cells.up(c:Cells H r as Ls)(s:aU H H'):Cells H' r as Ls:=⟨s _ _ c.hd,c.nd,c.rn,c.len,λi a h=>by
 obtain⟨L,h1,h2⟩:=c.cell i a h;exact⟨L,h1,s _ _ h2⟩⟩
theorem Cells.put(c:Cells H r as Ls){i:Nat}{a:ai}(h:as[i]?=O a)(L:List Int):Cells (upd H a (.lst (L.map V.int))) r as (Ls.set i L):=by
 refine⟨?_,c.nd,c.rn,by rw[jC];exact c.len,λj b hb=>?_⟩
 .rw[bh (λz=>c.rn (by rw[z];exact ag h))];exact c.hd
 .by_cases e:j=i
  .subst e;rw[h] at hb;cases hb;refine⟨L,?_,ao⟩;have:=(aj.mp h).1;rw[dC (by rw[← c.len];exact this)]
  .obtain⟨L',h1,h2⟩:=c.cell j b hb;refine⟨L',by rw[dY (cg e)];exact h1,?_⟩;rw[bh (λz=>e (pB c.nd (a:=a) (by rw[← z];exact hb) h))];exact h2
theorem Cells.at(c:Cells H r as Ls){z:Int}(h0:0<=z)(h1:z<Ls.length):∃ a L,as[z.toNat]?=O a/\Ls[z.toNat]?=O L/\oB (as.map V.ref) z=O (.ref a)/\H a=O (.lst (L.map V.int)):=by
 obtain⟨a,ha⟩:=Vj (xs:=as) h0 (by rw[c.len];exact h1);obtain⟨L,h2,h3⟩:=c.cell _ a ha;exact⟨a,L,ha,h2,fi h0 (by rw[au,ha];rfl),h3⟩
end
end L2
namespace L2
open PySem PySem.Spec PyProof.Rows
section
variable {X:Cx}
theorem pD{x:aE}{n:Int}{pos:jd}(hm:∃ t,X.mg x=O (.int n t))(hg:Gl X x:=by rfl)(hd:(x == ("__debug__" : aE))=false:=by decide):PE X (.Name x pos) (tC (.int n)):=by
 obtain⟨t,hm⟩:=hm;exact pE hg hm ⟨t,Z⟩ hd
theorem vO{K:af}{e:cF}{ta:TA}{p1 p2 To zU:jd}(hK:X.K=K)(hc:X.calm=true)(hg:Gl X "sorted")(hm:X.mg "sorted" = Y)(Qs:Gl X "set")(Dz:X.mg "set" = Y)(he:PA X [e] ta)
  (h1:bD [e] X.env=[(false,dP e X.env)]:=by rfl) (h2:bD [.Call (.Name "set" p2) [e] [] zU] X.env=[(false,dP (.Call (.Name "set" p2) [e] [] zU) X.env)]:=by rfl) :
  PE X (.Call (.Name "sorted" p1) [.Call (.Name "set" p2) [e] [] zU] [] To) (QW K ta):=by subst hK;exact xg hc hg hm Qs Dz he h1 h2
end
theorem EB:∀{xs ys:List Int},xs.Pairwise (·<·)->ys.Pairwise (·<·)->(∀ k,k∈xs↔k∈ys)->xs=ys
 |[],[],_,_,_=>rfl
 |[],y::ys,_,_,h=>by have:=(h y).mpr aL;cases this
 |x::xs,[],_,_,h=>by have:=(h x).mp aL;cases this
 |x :: xs,y::ys,hx,hy,h=>by
  obtain⟨a1,a2⟩:=mZ.mp hx;obtain⟨b1,b2⟩:=mZ.mp hy;have e:x=y:=by
   rcases aG.mp ((h x).mp aL) with z | z
   .exact z
   .rcases aG.mp ((h y).mpr aL) with z2 | z2
    .exact z2.symm
    .have:=b1 x z;have:=a1 y z2;omega
  subst e;have:xs=ys:=EB a2 b2 λk=>by
   constructor
   .intro hk;rcases aG.mp ((h k).mp (aW _ hk)) with z | z
    .subst z;have:=a1 _ hk;omega
    .exact z
   .intro hk;rcases aG.mp ((h k).mpr (aW _ hk)) with z | z
    .subst z;have:=b1 _ hk;omega
    .exact z
  rw[this]
def a0p(n:Nat)(ws:List Int):List Int:=((bn n).filter λ(k:Nat)=>decide ((k:Int)∈ws)).map λ(k:Nat)=>(k:Int)
theorem Gb(n:Nat)(ws:List Int):(a0p n ws).Pairwise (·<·):=by
 unfold a0p;rw[kF];exact(fG.filter _).imp λh=>by omega
theorem rF{n:Nat}{ws:List Int}(h:∀ x∈ws,0<=x/\x<n)(k:Int):k∈a0p n ws↔k∈ws:=by
 unfold a0p;rw[bE];constructor
 .rintro⟨j,hj,rfl⟩;exact of_decide_eq_true (bt.mp hj).2
 .intro hk;obtain⟨a,b⟩:=h k hk;refine⟨k.toNat,bt.mpr ⟨cm.mpr (by omega),decide_eq_true ?_⟩,by omega⟩;rw[gQ a];exact hk
theorem a0E{n:Nat}{ws ns:List Int}(h:∀ x∈ws,0<=x/\x<n)(pw:ns.Pairwise (·<·))(mem:∀ k,k∈ns↔k∈ws):ns=a0p n ws:=EB pw (Gb n ws) λk=>(mem k).trans (rF h k).symm
theorem K5(n:Nat)(ws:List Int):(a0p n ws).length<=n:=by
 unfold a0p;rw[ab];exact bF (cC _ _) (by simp)
section
variable {X:Cx}
theorem Ho(hc:X.calm=true):jy X (.builtin "min") (λxs H Q=>∃(a:ai)(ks:List Int),xs=[.ref a]/\bI X.K H a (ks.map V.int)/\ks≠[]/\∀ M,M∈ks->(∀ k∈ks,M<=k)->Q (.int M) H):=by
 intro pins s J H xs us Q I r h;obtain⟨a,ks,rfl,ha,jZ,q⟩:=h;obtain⟨u,rfl,ru⟩:=a0j r;cases ru;obtain⟨ci,rv,pl,hz⟩:=I.list ha;have hi:dB ci ks:=a0l rv;obtain⟨xs,e⟩:=hi.allInts.items;have kc:ks=xs.toList.map (·.1):=by rw[← hi.numsOf,← nums_intItems,← e]
 have hsz:0<xs.size:=by
  have h3:0<ks.length:=dI.mpr jZ;rw[kc,ab,aT] at h3;exact h3
 have hl:=pl.isList;rw[e] at hl;refine min_intList (I.ok.hd hc) hl hsz λv h' tk hv hk=>?_;obtain⟨t,rfl⟩:=intItems_at hv;obtain⟨h1,h2⟩:=argBest_lt (numAt xs) (xs.size-1);refine⟨.int _,H,I.kept (t':=tk) hk,⟨t,Z⟩,q _ ?_ λk hk=>?_⟩
 .rw[kc,SY];exact Rp (by rw[ab,aT];omega)
 .rw[kc] at hk;obtain⟨j,hj,rfl⟩:=Rq hk;rw[ab,aT] at hj;rw[← SY];exact h2 j (by omega)
end
def JV(K:af)(a b:ai):It :=
 ⟨λi H=>∃ xs ys x y,bI K H a xs/\bI K H b ys/\xs[i]?=O x/\ys[i]?=O y,
  λi H v H'=>∃ T x y,v=.ref T/\H T=Y/\(∀ xs,bI K H a xs->xs[i]?=O x)/\(∀ ys,bI K H b ys->ys[i]?=O y)/\H'=upd H T (.tup [x,y]),
  λi H=>∃ xs ys,bI K H a xs/\bI K H b ys/\(xs.length<=i\/ys.length<=i)⟩
structure U5(a b z TI TO i1 i2:ai)(i:Nat)(h:cR):Prop where
 zz:IsZip h z TI TO .none
 ti:IsPair h TI (.ref i1) (.ref i2)
 to:∃ p q,IsPair h TO p q
 s1:h.IsListIter i1 a i
 s2:h.IsListIter i2 b i
theorem Mz{P:aS}{w:bv}{K:af}{elts:List cF}{k:Nat}{pos:jd}(a b z TI TO i1 i2:ai)(ap:ZipApart z TI TO i1 i2 a b):Turn P w K (.Tuple elts k pos) (JV K a b) [z,TI,TO,i1,i2] z (U5 a b z TI TO i1 i2) where
 mem:=by simp
 obj:=λi h st c hc=>by
  obtain⟨zz,ti,⟨p,q,to⟩,⟨o1,e1,c1,d1⟩,⟨o2,e2,c2,d2⟩⟩:=st;simp only [aG,gR,or_false] at hc;rcases hc with rfl | rfl | rfl | rfl | rfl
  .exact⟨_,zz,λv z=>by cases z⟩
  .exact⟨_,ti,λv z=>by cases z⟩
  .exact⟨_,to,λv z=>by cases z⟩
  .exact⟨o1,e1,λv z=>by rw[d1] at z;cases z⟩
  .exact⟨o2,e2,λv z=>by rw[d2] at z;cases z⟩
 keep:=λi h h' st k=>by
  obtain⟨zz,ti,⟨p,q,to⟩,s1,s2⟩:=st;exact⟨k z (by simp) _ zz,k TI (by simp) _ ti,⟨p,q,k TO (by simp) _ to⟩,s1.at λo q=>k i1 (by simp) o q,s2.at λo q=>k i2 (by simp) o q⟩
 item:=by
  intro X hP hw hK hc i pins s J H E I hf st hg;subst hP hw hK;obtain⟨xs,ys,x,y,hq,Ut,hx,hy⟩:=hg;obtain⟨ci,rv,p,hz⟩:=I.list hq;obtain⟨vB,UE,p2,QE⟩:=I.list Ut;obtain⟨u,hu,ru⟩:=rv.get hx;obtain⟨u2,hu2,ru2⟩:=UE.get hy;obtain⟨zz,ti,⟨pp,qq,to⟩,s1,s2⟩:=st;have lz:z<s.heap.objs.size:=aH zz;refine wpAny_pyNext_zip_item ap zz ti to s1 s2 p.isList p2.isList (x:=u) (y:=u2) (by simpa using hu) (by simpa using hu2) λh' zo to' ZD XH ht hsz kp=>?_;refine⟨_,Z,wpAny_letOwnedTupleGo_zip zo λh2 zz2 sb=>?_⟩;have I1:Inv X pins J H { s with heap:=h2 }:=I.pN (t':=s.toks) (ch:=[z,TI,TO,i1,i2]) hf λc o hc q=>by
   simp only [aG,gR,or_false,not_or] at hc;exact(sb.2 c hc.1).trans (kp c o hc.1 hc.2.2.1 hc.2.2.2.1 hc.2.2.2.2 q)
  have hT:h2.get? s.heap.objs.size=O { cls:=.type "tuple",data:=.seq #[u,u2] }:=(sb.2 _ (cI lz)).trans ht;have Qr:H s.heap.objs.size=Y:=I.c8.fresh (ay _);have I2:=I1.adopt (o:=.tup [x,y]) (I.wU (ay _) Qr) ⟨(by show 2<=az;decide),[u,u2],.cons ru (.cons ru2 .nil),⟨_,hT,Z,_,Z⟩⟩;have hti:IsPair h2 TI (.ref i1) (.ref i2):=(sb.2 TI ap.TIz).trans (kp TI _ ap.TIz ap.TITO ap.TIi1 ap.TIi2 ti);refine⟨.ref s.heap.objs.size,_,I2,Z,⟨_,x,y,Z,Qr,(λzs hzs=>by rw[I.rC hzs hq];exact hx),(λzs hzs=>by rw[I.rC hzs Ut];exact hy),Z⟩,
   ⟨zz2,hti,⟨u,u2,(sb.2 TO ap.TOz).trans to'⟩,ZD.at λo q=>(sb.2 i1 ap.i1z).trans q,XH.at λo q=>(sb.2 i2 ap.i2z).trans q⟩,λc hc=>?_⟩
  rw[bh (λe=>?_)]
  .exact(hf c hc).1
  .subst e;obtain⟨o1,e1,_⟩:=s1;obtain⟨o2,e2,_⟩:=s2;simp only [aG,gR,or_false] at hc;rcases hc with h | h | h | h | h
   .exact absurd h (cI lz)
   .exact absurd h (cI (aH ti))
   .exact absurd h (cI (aH to))
   .exact absurd h (cI (aH e1))
   .exact absurd h (cI (aH e2))
 done:=by
  intro X hP hw hK hc i pins s J H E I hf st hg;subst hP hw hK;obtain⟨xs,ys,hq,Ut,hx⟩:=hg;obtain⟨ci,rv,p,hz⟩:=I.list hq;obtain⟨vB,UE,p2,QE⟩:=I.list Ut;have hl:=rv.length;have wX:=UE.length;obtain⟨zz,ti,⟨pp,qq,to⟩,s1,s2⟩:=st;refine wpAny_pyNext_zip_end (I.ok.hd hc) ap zz ti to s1 s2 p.isList p2.isList ?_ λh' kp=>⟨Z,?_⟩
  .rcases hx with h | h
   .exact .inl (by simp;(clear hc hf hz QE wX;omega))
   .exact .inr (by simp;(clear hc hf hz QE hl;omega))
  .exact I.pN (t':=s.toks) (ch:=[z,TI,TO,i1,i2]) hf λc o hc q=>by
    simp only [aG,gR,or_false,not_or] at hc;exact kp c o hc.1 hc.2.2.1 hc.2.2.2.1 hc.2.2.2.2 q
 self:=λ_ _ _ _ _ st h=>adk st.zz h
theorem Jr(n a b:Nat)(la:a<n)(lb:b<n):ZipApart (n+4) (n+2) (n+3) n (n+1) a b:=by
 constructor
 all_goals (intro h;have h':(_:Nat)=_:=h;omega)
def acs(K:af)(ta:TA):TI:=λ J H R=>ta J H λvs H1=>∃ a b,vs=[.ref a,.ref b]/\(∃ xs,bI K H1 a xs)/\(∃ ys,bI K H1 b ys)/\R (JV K a b) H1
theorem EV{X:Cx}{K:af}{elts:List cF}{k:Nat}{AE:jd}{l l2:cF}{ta:TA}{p pos:jd}(hK:X.K=K)(hg:Gl X "zip")(hm:X.mg "zip" = Y)(ha:PA X [l,l2] ta)(hs:bD [l,l2] X.env=(false,dP l X.env)::bD [l2] X.env:=by rfl)
  (Uv:(gB pos (bD [l2] X.env)).any (·.1)=false:=by rfl) :
  PI X (.Tuple elts k AE) (.Call (.Name "zip" p) [l,l2] [] pos) (acs K ta):=by
 subst hK;intro pins s J H R I h;refine ML (mR I hg hm PyProof.Rows.boot_zip (c7 (eC (ha pos pins s J H _ I h) λus s1 cX=>?_) hs Uv));obtain⟨vs,H1,I1,r1,q1⟩:=cX;obtain⟨a,b,rfl,⟨xs,hq⟩,⟨ys,Ut⟩,q⟩:=q1;cases r1 with
 |cons ra rr =>
  cases ra;obtain⟨u,rfl,ru⟩:=a0j rr;cases ru;obtain⟨ci,rv,p,hz⟩:=I1.list hq;obtain⟨vB,UE,p2,QE⟩:=I1.list Ut;have la:a<s1.heap.objs.size:=by obtain⟨o,e,_⟩:=p.isList;exact aH e
  have lb:b<s1.heap.objs.size:=by obtain⟨o,e,_⟩:=p2.isList;exact aH e
  refine call_zip_2 p.isList p2.isList λh' zz ti to i1 i2 hsz kp=>?_;refine adk zz ?_;refine⟨s1.heap.objs.size+4,[s1.heap.objs.size+4,s1.heap.objs.size+2,s1.heap.objs.size+3,s1.heap.objs.size,s1.heap.objs.size+1],_,_,H1,Z,I1.kept (t':=s1.toks) kp,Mz a b _ _ _ _ _ (Jr _ a b la lb),⟨zz,ti,⟨_,_,to⟩,i1,i2⟩,λc hc=>?_,q⟩;have HW:s1.heap.objs.size<=c:=by
   simp only [aG,gR,or_false] at hc;rcases hc with rfl | rfl | rfl | rfl | rfl
   .exact jc _ _
   .exact jc _ _
   .exact jc _ _
   .exact ay _
   .exact jc _ _
  exact I1.wU HW (I1.c8.fresh HW)
theorem NO{K:af}{a b:ai}{xs ys:List V}{g:TG}{tb:TS}{D:Ends}{J:St}{H:Hp}(hlen:xs.length=ys.length)(Pv:Nat->St->Hp->Prop)(h0:Pv 0 J H)(hl:∀ i J H,i<=xs.length->Pv i J H->bI K H a xs/\bI K H b ys)
  (hs:∀ i x y J H T,xs[i]?=O x->ys[i]?=O y->Pv i J H->H T=Y->g (.ref T) J (upd H T (.tup [x,y])) λσ2 H2=>tb { D with nx:=Pv (i+1),ct:=Pv (i+1),bk:=D.nx } σ2 H2) (hd:∀ J H,Pv xs.length J H->D.nx J H) :
  ∃ W:Nat->Nat->St->Hp->Prop,(∃ m,W 0 m J H)/\∀ i m J H,W i m J H ->
   ((JV K a b).stop i H/\D.nx J H)\/((JV K a b).go i H/\∃ N:St->Hp->Prop,(∀ σ' H',N σ' H'->∃ m',m'<m/\W (i+1) m' σ' H')/\∀ x H',(JV K a b).Df i H x H'->g x J H' λσ2 H2=>tb { D with nx:=N,ct:=N,bk:=D.nx } σ2 H2):=by
 refine⟨λi m J H=>m=xs.length-i/\i<=xs.length/\Pv i J H,⟨xs.length,by simp,bq _,h0⟩,?_⟩;rintro i m J H ⟨rfl,hi,p⟩;obtain⟨q,q2⟩:=hl i J H hi p
 by_cases gz:i<xs.length
 .refine .inr ⟨⟨xs,ys,xs[i],ys[i]'(by omega),q,q2,by simp[gz],by simp⟩,Pv (i+1),λσ' H' p'=>⟨xs.length-(i+1),by (clear hlen hl hs hd hi;omega),Z,gz,p'⟩,λx H' y=>?_⟩;obtain⟨T,u,v,rfl,hT,e1,e2,rfl⟩:=y;exact hs i u v J _ T (e1 xs q) (e2 ys q2) p hT
 .have e:i=xs.length:=by (clear hlen hl hs hd;omega)
  subst e;exact .inl ⟨⟨xs,ys,q,q2,.inl (ay _)⟩,hd J H p⟩
end L2
namespace L2
open PySem PySem.Spec PySem.W PyProof.Rows PySem.Builtin PySem.Builtin.ObjectAttr PySem.Builtin.Getset_descriptor
end L2
namespace L2
open PySem PySem.Spec PyProof.Rows
theorem Oj{k:Key}{v:ae}(h:vD k v=true):RelV (kV k) v:=by
 rcases fj h with ⟨i,t,rfl,rfl⟩ | ⟨x,t,rfl,rfl⟩
 .exact⟨t,Z⟩
 .exact⟨t,Z⟩
end L2
namespace L2
open PySem PyProof.Rows
end L2
namespace L2
open PySem PySem.Spec PyProof.Rows
def Xw(K:af):V->V->Hp->VK->Prop:=λx y H Q=>∃ p xs i v,x=.ref p/\y=.int i/\bI K H p xs/\0<=i/\oB xs i=O v/\Q v H
theorem Ko{X:Cx}{K:af}(hK:X.K=K):UX X (Xw K):=by
 subst hK;intro pins s J H x y v u Q I rx ry h;obtain⟨p,xs,i,z,rfl,rfl,hq,h0,he,q⟩:=h;cases rx;obtain⟨t,rfl⟩:=ry;obtain⟨ci,r,pl,hz⟩:=I.list hq;obtain⟨j,h1,h2,h3,h4,h5⟩:=uB he;obtain⟨w,ew,xh⟩:=r.get h2;have hl:=r.length;have hn:=mS;have hj:i.toNat=j:=by
  rw[DD h0 h5] at h1;exact bQ h1
 exact wpAny_getItem_list pl.isList h0 (by omega) (by rw[hj];simpa using ew) ⟨z,H,I,xh,q⟩
def bm(n:Nat)(f:Int->Bool):List V:=(bn n).map λp=>V.bl (f ((p:Nat):Int))
theorem zc(n:Nat)(f:Int->Bool):(bm n f).length=n:=by unfold bm;simp
theorem BH{n:Nat}{f g:Int->Bool}(h:∀ p:Int,0<=p->p<n->f p=g p):bm n f=bm n g:=by
 unfold bm;refine gK λp hp=>?_;rw[h _ (by omega) (by have:=cm.mp hp;omega)]
theorem tO{n:Nat}{f:Int->Bool}{z:Int}(h0:0<=z)(h1:z<n):(bm n f)[z.toNat]?=O (.bl (f z)):=by
 unfold bm;rw[au,dH (by omega)];show O (V.bl (f ((z.toNat:Nat):Int)))=_;rw[gQ h0]
theorem Rx{n:Nat}{f:Int->Bool}{z:Int}(h0:0<=z)(h1:z<n):(bm n f).set z.toNat (.bl true)=bm n λx=>f x || decide (x=z):=by
 apply dg;intro p
 by_cases hp:p<n
 .by_cases e:p=z.toNat
  .subst e;rw[dC (by rw[zc];exact hp),tO h0 h1];simp
  .rw[dY (cg e)];have jZ:¬ ((p:Nat):Int)=z:=by omega
   unfold bm;rw[au,au,dH hp];simp[jZ]
 .rw[bf (by rw[jC,zc];omega),bf (by rw[zc];omega)]
theorem Kc(n:Nat)(b:Bool):(aX n [V.bl b]).flatten=bm n λ_=>b:=by
 unfold bm
 induction n with
 |zero=>rfl
 |succ n ih=>rw[qQ,fA,ih,fe,aB];rfl
def im(n:Nat)(f:Int->Int):List Int:=(bn n).map λp=>f ((p:Nat):Int)
theorem mP(n:Nat)(f:Int->Int):(im n f).length=n:=by unfold im;simp
theorem rq{n:Nat}{f:Int->Int}{z:Int}(h0:0<=z)(h1:z<n):(im n f)[z.toNat]?=O (f z):=by
 unfold im;rw[au,dH (by omega)];show O (f ((z.toNat:Nat):Int))=_;rw[gQ h0]
theorem Eu{n:Nat}{f:Int->Int}{z v:Int}(h0:0<=z)(h1:z<n):(im n f).set z.toNat v=im n λx=>if x=z then v else f x:=by
 apply dg;intro p
 by_cases hp:p<n
 .by_cases e:p=z.toNat
  .subst e;rw[dC (by rw[mP];exact hp),rq h0 h1,if_pos rfl]
  .rw[dY (cg e)];have jZ:¬ ((p:Nat):Int)=z:=by omega
   unfold im;rw[au,au,dH hp];simp[jZ]
 .rw[bf (by rw[jC,mP];omega),bf (by rw[mP];omega)]
theorem oU{n:Nat}{f g:Int->Int}(h:∀ p:Int,0<=p->p<n->f p=g p):im n f=im n g:=by
 unfold im;refine gK λp hp=>?_;rw[h _ (by omega) (by have:=cm.mp hp;omega)]
theorem Of(n:Nat)(f:Int->Int):im (n+1) f=im n f++[f ((n:Nat):Int)]:=by unfold im;rw[fe,aB];rfl
theorem oY(l:List Int)(k:Nat)(v:Int):(l.map V.int).set k (.int v)=(l.set k v).map V.int:=by rw[List.map_set]
end L2
namespace Law
open PySem L2
def iO(G:List Row)(k:Nat):List Int:=((G[k]?).getD (0,0,[])).2.2
theorem Jo{G:List Row}{k:Nat}{r:Row}(h:G[k]?=O r):iO G k=r.2.2:=by unfold iO;rw[h];rfl
def WV(G:List Row)(p k:Nat):Bool:=decide ((p:Int)∈iO G k)
def col(G:List Row)(i p:Nat):List Int:=((bn i).filter (WV G p)).map λ(k:Nat)=>(k:Int)
def wi(G:List Row)(i:Nat):List (List Int):=(bn G.length).map (col G i)
def GL(G:List Row)(i j:Nat):List (List Int):=(bn G.length).map λp=>col G i p++if (p:Int)∈(iO G i).take j then [(i:Int)] else []
theorem MD(G:List Row)(i:Nat):(wi G i).length=G.length:=by simp[wi]
theorem GM(G:List Row)(i j:Nat):(GL G i j).length=G.length:=by simp[GL]
theorem PP(G:List Row):wi G 0=aX G.length []:=by
 apply dg;intro p
 by_cases h:p<G.length
 .simp[wi,h];rfl
 .simp[wi,h]
theorem MC(G:List Row)(i:Nat):GL G i 0=wi G i:=by simp[GL,wi]
theorem PL(G:List Row)(i:Nat):GL G i (iO G i).length=wi G (i+1):=by
 unfold GL wi;refine gK λp _=>?_;rw[aR];unfold col;rw[fe,cD,aB];congr 1
 by_cases h:(p:Int)∈iO G i
 .simp[h,WV]
 .simp[h,WV]
theorem T5{G:List Row}{i j:Nat}{z:Int}(h:(iO G i)[j]?=O z)(hn:(iO G i).Nodup)(h0:0<=z)(h1:z<G.length):(GL G i j)[z.toNat]?=O (col G i z.toNat):=by
 have hz:z.toNat<G.length:=by omega
 have e:((z.toNat:Nat):Int)=z:=by omega
 have hni:z ∉ (iO G i).take j:=λhm=>by
  obtain⟨k,hk⟩:=cP hm;rw[fP] at hk;split at hk
  .have:=pB hn hk h;omega
  .cases hk
 simp[GL,hz,e,hni]
theorem PM{G:List Row}{i j:Nat}{z:Int}(h:(iO G i)[j]?=O z)(h0:0<=z)(h1:z<G.length):(GL G i j).set z.toNat (col G i z.toNat++[(i:Int)])=GL G i (j+1):=by
 have hz:z.toNat<G.length:=by omega
 have e:((z.toNat:Nat):Int)=z:=by omega
 apply dg;intro p
 by_cases hp:p=z.toNat
 .subst hp;rw[dC (by rw[GM];exact hz)];have:z∈(iO G i).take (j+1):=(cG h).mpr (.inr Z);simp[GL,hz,e,this]
 .rw[dY (cg hp)]
  by_cases hl:p<G.length
  .have jZ:(p:Int)≠z:=by omega
   have:(p:Int)∈(iO G i).take (j+1)↔(p:Int)∈(iO G i).take j:=by rw[cG h];simp[jZ]
   simp[GL,hl,this]
  .simp[GL,hl]
def wy(G:List Row)(p:Int):List Int:=((G[p.toNat]?).getD (0,0,[])).2.2
def hd(G:List Row)(p:Int):Int:=((G[p.toNat]?).getD (0,0,[])).1
theorem tV{G:List Row}{p:Int}{r:Row}(h:G[p.toNat]?=O r):wy G p=r.2.2:=by unfold wy;rw[h];rfl
theorem ql{G:List Row}{p:Int}{r:Row}(h:G[p.toNat]?=O r):hd G p=r.1:=by unfold hd;rw[h];rfl
def og(n:Nat):List Int:=(bn n).map λ(i:Nat)=>(i:Int)
theorem gk{n:Nat}{p:Int}:p∈og n↔0<=p/\p<n:=by
 unfold og;rw[bE];constructor
 .rintro⟨i,hi,rfl⟩;have:=cm.mp hi;omega
 .rintro⟨h0,h1⟩;exact⟨p.toNat,cm.mpr (by omega),by (clear h1;omega)⟩
theorem zY(n:Nat):(og n).Pairwise (·<·):=by
 unfold og;rw[kF];exact fG.imp λh=>by omega
theorem LP(n:Nat):og (n+1)=og n++[(n:Int)]:=by unfold og;rw[fe,aB];rfl
def G8(G:List Row):Prop:=∀ row∈G,row.2.2.Pairwise (·<·)/\∀ x∈row.2.2,0<=x/\x<G.length
theorem MI{G:List Row}(h:G8 G)(p:Int):(wy G p).Nodup:=by
 unfold wy;cases e:G[p.toNat]? with
 |none=>exact qP
 |some r=>exact(h r (ag e)).1.imp λh=>by omega
theorem Yt{G:List Row}(h:G8 G){p w:Int}(hw:w∈wy G p):0<=w/\w<G.length:=by
 unfold wy at hw;cases e:G[p.toNat]? with
 |none=>rw[e] at hw;cases hw
 |some r=>rw[e] at hw;exact(h r (ag e)).2 w hw
section
variable (G:List Row)(hand:Int)(ins:Int->Bool)
def chr(S:List Int)(p:Int):Bool:=ins p && decide (p ∉ S) && (if hd G p=hand then (wy G p).any (λw=>decide (w∈S)) else (wy G p).any ins && (wy G p).all λw=>!ins w || decide (w∈S))
def EI(S:List Int):List Int:=(og G.length).filter (chr G hand ins S)
def run:Nat->List (List Int)->List Int->List (List Int)
 |0,Ls,_=>Ls
 |k+1,Ls,L=>if L=[] then Ls else run k (Ls++[L]) (EI G hand ins (Ls.flatten++L))
def a0u(want:Int->Bool):List Int:=(og G.length).filter λp=>ins p && want p
def ki(want:Int->Bool):List (List Int):=run G hand ins (G.length+1) [] (a0u G ins want)
end
section
variable {G:List Row}{hand:Int}{ins:Int->Bool}
theorem pC{S:List Int}{p:Int}:p∈EI G hand ins S↔(0<=p/\p<G.length)/\chr G hand ins S p=true:=by
 unfold EI;rw[bt,gk]
theorem EJ(S:List Int):(EI G hand ins S).Pairwise (·<·):=(zY _).filter _
theorem Gc{S:List Int}{p:Int}(h:p∈EI G hand ins S):p ∉ S/\ins p=true:=by
 have:=(pC.mp h).2;unfold chr at this;simp only [aQ,decide_eq_true_eq] at this;exact⟨this.1.2,this.1.1⟩
structure LI(G:List Row)(hand:Int)(ins:Int->Bool)(Ls:List (List Int))(L:List Int):Prop where
 nd:(Ls.flatten++L).Nodup
 rg:∀ p∈Ls.flatten++L,0<=p/\p<G.length
 Iw:∀ p∈Ls.flatten++L,ins p=true
theorem oX{l:List Int}(h:l.Pairwise (·<·)):l.Nodup:=h.imp λh=>by omega
theorem LI.start(want:Int->Bool):LI G hand ins [] (a0u G ins want):=by
 refine⟨?_,λp hp=>?_,λp hp=>?_⟩
 .exact oX ((zY _).filter _)
 .exact gk.mp (bt.mp hp).1
 .have:=(bt.mp hp).2;simp only [aQ] at this;exact this.1
theorem LI.next{Ls:List (List Int)}{L:List Int}(h:LI G hand ins Ls L):LI G hand ins (Ls++[L]) (EI G hand ins (Ls.flatten++L)):=by
 have e:(Ls++[L]).flatten=Ls.flatten++L:=by simp
 refine⟨?_,λp hp=>?_,λp hp=>?_⟩
 .rw[e7];exact⟨by rw[e];exact h.nd,oX (EJ _),λa ha b hb z=>(Gc hb).1 (by rw[← z];rw[e] at ha;exact ha)⟩
 .rcases bH.mp hp with hp | hp
  .rw[e] at hp;exact h.rg p hp
  .exact(pC.mp hp).1
 .rcases bH.mp hp with hp | hp
  .rw[e] at hp;exact h.Iw p hp
  .exact(Gc hp).2
theorem LI.len{Ls:List (List Int)}{L:List Int}(h:LI G hand ins Ls L):Ls.flatten.length+L.length<=G.length:=by
 have:=g7 (Ls.flatten++L) (og G.length) h.nd λx hx=>gk.mpr (h.rg x hx);rw[aV] at this;unfold og at this;simpa using this
end
section
variable (G:List Row)(hand:Int)(ins want:Int->Bool)
def cnt(S:List Int)(p:Int):Nat:=((wy G p).filter λw=>decide (w∈S)).length
def eJ(p:Int):Nat:=if ins p=false\/want p=true then 0 else if hd G p=hand then 1 else ((wy G p).filter ins).length
end
section
variable {G:List Row}{hand:Int}{ins want:Int->Bool}
theorem vp{l:List Int}{p q:Int->Bool}(h:∀ x,p x=true->q x=true):(l.filter p).length<=(l.filter q).length:=by
 induction l with
 |nil=>simp
 |cons a l ih =>
  cases e1:p a with
  |true=>rw[bw e1,bw (h a e1)];simpa using ih
  |false =>
   rw[bJ (by simp[e1])];cases e2:q a with
   |true=>rw[bw e2,cz];omega
   |false=>rw[bJ (by simp[e2])];exact ih
theorem BN{S T:List Int}(h:∀ x∈S,x∈T)(p:Int):cnt G S p<=cnt G T p:=by
 unfold cnt;exact vp λw hw=>by simp only [decide_eq_true_eq] at hw ⊢;exact h w hw
theorem ub{l:List Int}(nd:l.Nodup){S:List Int}{x:Int}(hx:x ∉ S):(l.filter λw=>decide (w∈S++[x])).length=(l.filter λw=>decide (w∈S)).length+if x∈l then 1 else 0:=by
 induction l with
 |nil=>simp
 |cons a l ih =>
  obtain⟨na,nl⟩:=dt.mp nd;have ih:=ih nl
  by_cases e:a=x
  .subst e;rw[bw (by simp),bJ (by simpa using hx),cz,ih,if_neg na,if_pos (by simp)]
  .have h1:(x∈a::l)↔x∈l:=by rw[aG];exact⟨λz=>z.resolve_left λz=>e z.symm,.inr⟩
   by_cases c:a∈S
   .rw[bw (by simp[c]),bw (by simp[c]),cz,cz,ih];simp only [h1];(clear hx na ih e h1;omega)
   .rw[bJ (by simp[c,e]),bJ (by simpa using c),ih];simp only [h1]
theorem Ke(h:G8 G){S:List Int}{x:Int}(hx:x ∉ S)(p:Int):cnt G (S++[x]) p=cnt G S p+if x∈wy G p then 1 else 0:=ub (MI h p) hx
def Seen(G:List Row)(hand:Int)(ins want:Int->Bool)(S0 S:List Int):Prop:=∀ p:Int,0<=p/\p<G.length->(p∈S↔(ins p=true/\want p=true)\/(1<=eJ G hand ins want p/\eJ G hand ins want p<=cnt G S0 p))
theorem D4{l:List Int}{p q:Int->Bool}(hpq:∀ x,q x=true->p x=true):((l.filter p).length<=(l.filter q).length↔∀ x∈l,p x=true->q x=true):=by
 induction l with
 |nil=>simp
 |cons a l ih =>
  have hle:(l.filter q).length<=(l.filter p).length:=vp λx hx=>hpq x hx;cases e1:p a with
  |true =>
   cases e2:q a with
   |true=>rw[bw e1,bw e2];simp[ih,e2]
   |false =>
    rw[bw e1,bJ (by simp[e2]),cz];constructor
    .intro h;omega
    .intro h;have:=h a (by simp) e1;rw[e2] at this;cases this
  |false =>
   have e2:q a=false:=by
    cases z:q a with
    |false=>rfl
    |true=>rw[hpq a z] at e1;cases e1
   rw[bJ (by simp[e1]),bJ (by simp[e2]),ih];simp[e1]
theorem sU(hG:G8 G){S0 S:List Int}(hS:Seen G hand ins want S0 S)(FX:∀ x∈S,ins x=true)(h0:∀ x∈S0,x∈S){p:Int}(hp:0<=p/\p<G.length):chr G hand ins S p=true↔1<=eJ G hand ins want p/\cnt G S0 p<eJ G hand ins want p/\eJ G hand ins want p<=cnt G S p:=by
 have key:ins p=true->want p=false->((if hd G p=hand then (wy G p).any (λw=>decide (w∈S)) else (wy G p).any ins && (wy G p).all λw=>!ins w || decide (w∈S))=true↔1<=eJ G hand ins want p/\eJ G hand ins want p<=cnt G S p):=λhi hw=>by
  have hl:eJ G hand ins want p=if hd G p=hand then 1 else ((wy G p).filter ins).length:=by unfold eJ;rw[if_neg (by rw[hi,hw];simp)]
  rw[hl]
  by_cases ho:hd G p=hand
  .simp only [if_pos ho];unfold cnt;rw[i7];constructor
   .rintro⟨w,h1,h2⟩;exact⟨ay _,dI.mpr (MQ (bt.mpr ⟨h1,h2⟩))⟩
   .rintro⟨_,h⟩;obtain⟨w,hw⟩:=wM h;exact⟨w,(bt.mp hw).1,(bt.mp hw).2⟩
  .simp only [if_neg ho];rw[aQ,i7,bL];unfold cnt;rw[D4 (p:=ins) (q:=λw=>decide (w∈S)) λx hx=>FX x (of_decide_eq_true hx)];constructor
   .rintro⟨⟨w,h1,h2⟩,h3⟩;refine⟨dI.mpr (MQ (bt.mpr ⟨h1,h2⟩)),λx hx hi=>?_⟩;have:=h3 x hx;rw[hi] at this;simpa using this
   .rintro⟨h1,h2⟩;obtain⟨w,hw⟩:=wM h1;refine⟨⟨w,(bt.mp hw).1,(bt.mp hw).2⟩,λx hx=>?_⟩;cases e:ins x with
    |false=>rfl
    |true=>have:=h2 x hx e;simpa using this
 have hs:=hS p hp;unfold chr;rw[aQ,aQ,decide_eq_true_eq];constructor
 .rintro⟨⟨hi,hn⟩,hc⟩;have hw:want p=false:=by
   cases e:want p with
   |false=>rfl
   |true=>exact absurd (hs.mpr (.inl ⟨hi,e⟩)) hn
  obtain⟨k1,k2⟩:=(key hi hw).mp hc;refine⟨k1,?_,k2⟩;rcases pW (cnt G S0 p) (eJ G hand ins want p) with z | z
  .exact z
  .exact absurd (hs.mpr (.inr ⟨k1,z⟩)) hn
 .rintro⟨h1,h2,h3⟩;have VQ:ins p=true/\want p=false:=by
   unfold eJ at h1
   by_cases c:ins p=false\/want p=true
   .rw[if_pos c] at h1;omega
   .constructor
    .cases e:ins p with
     |true=>rfl
     |false=>exact absurd (.inl e) c
    .cases e:want p with
     |false=>rfl
     |true=>exact absurd (.inr e) c
  refine⟨⟨VQ.1,λhm=>?_⟩,(key VQ.1 VQ.2).mpr ⟨h1,h3⟩⟩;rcases hs.mp hm with z | z
  .rw[VQ.2] at z;cases z.2
  ·(clear FX h0 hp key hs h3 VQ h1;omega)
theorem Seen.start:Seen G hand ins want [] (a0u G ins want):=λp hp=>by
 unfold a0u;rw[bt,gk,aQ];have:cnt G [] p=0:=by unfold cnt;simp
 rw[this];constructor
 .rintro⟨_,h⟩;exact .inl h
 .rintro (h | h)
  .exact⟨hp,h⟩
  ·(clear hp this;omega)
theorem Seen.next(hG:G8 G){S0 S:List Int}(hS:Seen G hand ins want S0 S)(FX:∀ x∈S,ins x=true)(h0:∀ x∈S0,x∈S):Seen G hand ins want S (S++EI G hand ins S):=λp hp=>by
 have hm:=BN (G:=G) h0 p;rw[bH,hS p hp,pC,sU hG hS FX h0 hp];constructor
 .rintro ((h | h) | ⟨_,h⟩)
  .exact .inl h
  .exact .inr ⟨h.1,by (clear FX h0 hp;omega)⟩
  .exact .inr ⟨h.1,h.2.2⟩
 .rintro (h | ⟨h1,h2⟩)
  .exact .inl (.inl h)
  .by_cases c:eJ G hand ins want p<=cnt G S0 p
   .exact .inl (.inr ⟨h1,c⟩)
   .exact .inr ⟨hp,h1,by (clear FX h0 hp hm h1 h2;omega),h2⟩
end
def lv(R:List (List Int))(k:Nat)(p:Int):Prop:=∃ L,R[k]?=O L/\p∈L
theorem Cc{R:List (List Int)}{k:Nat}{p:Int}(h:lv R k p):k<R.length:=by
 obtain⟨L,h,_⟩:=h;exact(aj.mp h).1
theorem mF{R:List (List Int)}{k:Nat}{p:Int}:p∈(R.take k).flatten↔∃ j,j<k/\lv R j p:=by
 rw[wu];constructor
 .rintro⟨L,hL,hp⟩;obtain⟨j,hj⟩:=cP hL;rw[fP] at hj
  by_cases c:j<k
  .rw[if_pos c] at hj;exact⟨j,c,L,hj,hp⟩
  .rw[if_neg c] at hj;cases hj
 .rintro⟨j,c,L,hj,hp⟩;exact⟨L,ag (i:=j) (by rw[fP,if_pos c];exact hj),hp⟩
theorem rD{R:List (List Int)}{p:Int}:p∈R.flatten↔∃ j,lv R j p:=by
 have h:=mF (R:=R) (k:=R.length) (p:=p);rw[aR] at h;rw[h];exact⟨λ⟨j,_,h⟩=>⟨j,h⟩,λ⟨j,h⟩=>⟨j,Cc h,h⟩⟩
theorem QG{R:List (List Int)}{j k:Nat}{p:Int}(nd:R.flatten.Nodup)(c:j<k)(h1:lv R j p)(h2:lv R k p):False:=by
 have e:R.flatten=(R.take k).flatten++(R.drop k).flatten:=by rw[← fA,qj]
 rw[e,e7] at nd;obtain⟨L,hL,hp⟩:=h2;refine nd.2.2 p (mF.mpr ⟨j,c,h1⟩) p ?_ Z;rw[wu];exact⟨L,ag (i:=0) (by rw[dU];exact hL),hp⟩
theorem mT{R:List (List Int)}{j k:Nat}{p:Int}(nd:R.flatten.Nodup)(h1:lv R j p)(h2:lv R k p):j=k:=by
 rcases oo j k with h | h | h
 .exact(QG nd h h1 h2).elim
 .exact h
 .exact(QG nd h h2 h1).elim
section
variable (G:List Row)(hand:Int)(ins want:Int->Bool)
def nx(Ls:List (List Int)):List Int:=if Ls=[] then a0u G ins want else EI G hand ins Ls.flatten
def a0C(Ls:List (List Int)):Prop:=∀ k L,Ls[k]?=O L->L=nx G hand ins want (Ls.take k)/\L≠[]
structure Lay(R:List (List Int)):Prop where
 ch:a0C G hand ins want R
 nil:nx G hand ins want R=[]
 li:LI G hand ins R []
end
section
variable {G:List Row}{hand:Int}{ins want:Int->Bool}
theorem a0B{Ls:List (List Int)}{L:List Int}(h:a0C G hand ins want Ls)(e:L=nx G hand ins want Ls)(jZ:L≠[]):a0C G hand ins want (Ls++[L]):=by
 intro k M hk
 by_cases c:k<Ls.length
 .rw[ck c] at hk;rw[wN (by omega)];exact h k M hk
 .have h2:=(aj.mp hk).1;rw[aV,dM] at h2;have R3:k=Ls.length:=by omega
  subst R3;rw[cN (ay _),vd] at hk;have:L=M:=bQ hk;subst this;rw[wN (ay _),aR];exact⟨e,jZ⟩
theorem Pg(k:Nat):∀(Ls:List (List Int))(L:List Int),LI G hand ins Ls L->a0C G hand ins want Ls->L=nx G hand ins want Ls->G.length+1<=k+Ls.flatten.length->Lay G hand ins want (run G hand ins k Ls L):=by
 induction k with
 |zero=>intro Ls L h1 _ _ h4;have:=h1.len;omega
 |succ k ih =>
  intro Ls L h1 h2 h3 h4;show Lay G hand ins want (if L=[] then Ls else run G hand ins k (Ls++[L]) (EI G hand ins (Ls.flatten++L)))
  by_cases c:L=[]
  .rw[if_pos c];subst c;exact⟨h2,h3.symm,h1⟩
  .rw[if_neg c];have Ek:(Ls++[L]).flatten=Ls.flatten++L:=by simp
   have:0<L.length:=dI.mpr c;refine ih _ _ h1.next (a0B h2 h3 c) ?_ (by rw[Ek,aV];omega);unfold nx;rw[if_neg (by simp),Ek]
theorem qJ:Lay G hand ins want (ki G hand ins want) :=
 Pg _ _ _ (LI.start want) (λk L h=>by simp at h) (by unfold nx;rw[if_pos rfl]) (by simp)
variable {R:List (List Int)}
theorem Lay.nd(h:Lay G hand ins want R):R.flatten.Nodup:=by have:=h.li.nd;rwa [er] at this
theorem GK{k:Nat}(h0:1<=k)(h1:k<=R.length):R.take k≠[]:=λz=>by
 have:=congrArg j3 z;rw[db] at this;simp at this;rcases this with h | h
 .omega
 .subst h;simp at h1;omega
theorem Lay.zero(h:Lay G hand ins want R){p:Int}(hp:0<=p/\p<G.length):lv R 0 p↔ins p=true/\want p=true:=by
 have e:p∈a0u G ins want↔ins p=true/\want p=true:=by
  unfold a0u;rw[bt,gk,aQ];exact⟨λz=>z.2,λz=>⟨hp,z⟩⟩
 rw[← e];constructor
 .rintro⟨L,h1,h2⟩;have:=(h.ch 0 L h1).1;rw[this] at h2;unfold nx at h2;rw[m4,if_pos rfl] at h2;exact h2
 .intro h1;cases c:R with
  |nil =>
   have:=h.nil;rw[c] at this;unfold nx at this;rw[if_pos rfl] at this;rw[this] at h1;cases h1
  |cons L R' =>
   refine⟨L,Z,?_⟩;have:=(h.ch 0 L (by rw[c];rfl)).1;unfold nx at this;rw[m4,if_pos rfl] at this;rw[this];exact h1
theorem Lay.on(h:Lay G hand ins want R){k:Nat}{p:Int}(hp:0<=p/\p<G.length)(h0:1<=k)(h1:k<=R.length)(hc:chr G hand ins (R.take k).flatten p=true):lv R k p:=by
 have hn:=GK h0 h1;have hm:p∈nx G hand ins want (R.take k):=by unfold nx;rw[if_neg hn];exact pC.mpr ⟨hp,hc⟩
 by_cases c:k<R.length
 .have e:R[k]?=O R[k]:=by simp
  exact⟨_,e,by rw[(h.ch k _ e).1];exact hm⟩
 .have:k=R.length:=by (clear hp h0 hc hn;omega)
  subst this;rw[aR,h.nil] at hm;cases hm
theorem Lay.chr(h:Lay G hand ins want R){k:Nat}{p:Int}(h0:1<=k)(hl:lv R k p):chr G hand ins (R.take k).flatten p=true:=by
 obtain⟨L,h1,h2⟩:=hl;have h3:=(h.ch k L h1).1;have h4:=(aj.mp h1).1;unfold nx at h3;rw[if_neg (GK h0 (by omega))] at h3;rw[h3] at h2;exact(pC.mp h2).2
theorem uC{S:List Int}{p:Int}:Law.chr G hand ins S p=true↔ins p=true/\p ∉ S/\(if hd G p=hand then ∃ w∈wy G p,w∈S else (∃ w∈wy G p,ins w=true)/\∀ w∈wy G p,ins w=true->w∈S):=by
 unfold Law.chr
 by_cases c:hd G p=hand
 .rw[if_pos c,if_pos c];simp[and_assoc]
 .rw[if_neg c,if_neg c];simp only [aQ,decide_eq_true_eq,i7,bL,xB,nT,and_assoc];refine⟨λ⟨a,b,c,d⟩=>⟨a,b,c,λw hw hi=>(d w hw).resolve_left (by rw[hi];simp)⟩,λ⟨a,b,c,d⟩=>⟨a,b,c,λw hw=>?_⟩⟩;cases e:ins w with
  |false=>exact .inl Z
  |true=>exact .inr (d w hw e)
theorem Lay.own(h:Lay G hand ins want R){p:Int}(hp:0<=p/\p<G.length)(hi:ins p=true)(hw:want p=false)(ho:hd G p=hand) :
  (∀ k,lv R k p->∃ j,k=j+1/\(∃ w∈wy G p,lv R j w)/\∀ w∈wy G p,∀ i,lv R i w->j<=i)/\((∀ k,¬ lv R k p)->∀ w∈wy G p,∀ i,¬ lv R i w):=by
 have mk:∀ i w,w∈wy G p->lv R i w->(∀ j,j<=i->¬ lv R j p)->lv R (i+1) p:=λi w mO hl ug=>by
  refine h.on hp (by (clear hp hi hw ho ug;omega)) (Cc hl) (uC.mpr ⟨hi,λz=>?_,?_⟩)
  .obtain⟨j,hj,wX⟩:=mF.mp z;exact ug j (by (clear hp hi hw ho ug;omega)) wX
  .rw[if_pos ho];exact⟨w,mO,mF.mpr ⟨i,by (clear hp hi hw ho ug;omega),hl⟩⟩
 constructor
 .intro k hk;cases k with
  |zero=>rw[((h.zero hp).mp hk).2] at hw;cases hw
  |succ j =>
   obtain⟨_,c2,c3⟩:=uC.mp (h.chr (by (clear hp hi hw ho mk;omega)) hk);rw[if_pos ho] at c3;have least:∀ w∈wy G p,∀ i,lv R i w->j<=i:=λw mO i hl=>by
    rcases pW i j with c | c
    .have:=mk i w mO hl λj' hj' R5=>by have:=mT h.nd R5 hk;(clear hp hi hw ho mk c2;omega)
     have:=mT h.nd this hk
     (clear hp hi hw ho mk c2 c;omega)
    .exact c
   obtain⟨w,mO,nS⟩:=c3;obtain⟨i,Up,hl⟩:=mF.mp nS;have:=least w mO i hl;have e:i=j:=by (clear hp hi hw ho mk c2 least;omega)
   subst e;exact⟨i,Z,⟨w,mO,hl⟩,least⟩
 .intro ug w mO i hl;exact ug _ (mk i w mO hl λj _=>ug j)
theorem Lay.oth(h:Lay G hand ins want R){p:Int}(hp:0<=p/\p<G.length)(hi:ins p=true)(hw:want p=false)(ho:¬ hd G p=hand) :
  (∀ k,lv R k p->∃ j,k=j+1/\(∃ w∈wy G p,ins w=true/\lv R j w)/\∀ w∈wy G p,ins w=true->∃ i,i<=j/\lv R i w) /\
  ((∀ k,¬ lv R k p)->(∀ w∈wy G p,ins w=false)\/∃ w∈wy G p,ins w=true/\∀ i,¬ lv R i w):=by
 have mk:∀ k,1<=k->k<=R.length->(∃ w∈wy G p,ins w=true)->(∀ w∈wy G p,ins w=true->∃ i,i<k/\lv R i w)->(∀ j,j<k->¬ lv R j p)->lv R k p:=λk k0 k1 he ha ug=>by
  refine h.on hp k0 k1 (uC.mpr ⟨hi,λz=>?_,?_⟩)
  .obtain⟨j,hj,wX⟩:=mF.mp z;exact ug j hj wX
  .rw[if_neg ho];exact⟨he,λw mO nS=>mF.mpr (ha w mO nS)⟩
 constructor
 .intro k hk;cases k with
  |zero=>rw[((h.zero hp).mp hk).2] at hw;cases hw
  |succ j =>
   obtain⟨_,c2,c3⟩:=uC.mp (h.chr (by (clear hp hi hw ho mk;omega)) hk);rw[if_neg ho] at c3;obtain⟨he,ha⟩:=c3;have Qk:∀ w∈wy G p,ins w=true->∃ i,i<j+1/\lv R i w:=λw mO nS=>mF.mp (ha w mO nS);refine⟨j,Z,?_,λw mO nS=>by obtain⟨i,a,b⟩:=Qk w mO nS;exact⟨i,by (clear hp hi hw ho mk c2 ha Qk nS;omega),b⟩⟩;refine bX λug=>?_;have hl:∀ w∈wy G p,ins w=true->∃ i,i<j/\lv R i w:=λw mO nS=>by
    obtain⟨i,a,b⟩:=Qk w mO nS;rcases pW i j with c | c
    .exact⟨i,c,b⟩
    .have:i=j:=by (clear hp hi hw ho mk c2 ha Qk ug nS;omega)
     subst this;exact(ug ⟨w,mO,nS,b⟩).elim
   obtain⟨w,mO,nS⟩:=he;obtain⟨i,xY,_⟩:=hl w mO nS;have:=Cc hk;have h2:=mk j (by (clear hp hi hw ho mk c2 ha Qk ug hl nS this;omega)) (by (clear hp hi hw ho mk c2 ha Qk ug hl nS xY;omega)) ⟨w,mO,nS⟩ hl λj' hj' R5=>by have:=mT h.nd R5 hk;(clear hp hi hw ho mk c2 ha Qk ug hl nS xY;omega)
   have:=mT h.nd h2 hk
   (clear hp hi hw ho mk c2 ha Qk ug hl nS xY;omega)
 .intro ug;refine bX λhn=>?_;have he:∃ w∈wy G p,ins w=true:=bX λz=>hn (.inl λw mO=>by
   cases e:ins w with
   |false=>rfl
   | true=>exact (z ⟨w,mO,e⟩).elim)
  have ha:∀ w∈wy G p,ins w=true->∃ i,i<R.length/\lv R i w:=λw mO nS=>bX λz=>hn (.inr ⟨w,mO,nS,λi hl=>z ⟨i,Cc hl,hl⟩⟩);obtain⟨w,mO,nS⟩:=he;obtain⟨i,xY,_⟩:=ha w mO nS;exact ug _ (mk R.length (by (clear hp hi hw ho mk ug hn ha nS;omega)) (ay _) ⟨w,mO,nS⟩ ha λj _=>ug j)
end
end Law
namespace L2
open PySem PySem.Spec PyProof.Rows
theorem Kk{K:af}{a b:ai}{xs ys:List V}{g:TG}{tb:TS}{D:Ends}{J:St}{H:Hp}(n:Nat)(vx:n<=xs.length)(Eo:n<=ys.length)(hn:n=xs.length\/n=ys.length)(Pv:Nat->St->Hp->Prop)(h0:Pv 0 J H)(hl:∀ i J H,i<=n->Pv i J H->bI K H a xs/\bI K H b ys)
  (hs:∀ i x y J H T,i<n->xs[i]?=O x->ys[i]?=O y->Pv i J H->H T=Y->g (.ref T) J (upd H T (.tup [x,y])) λσ2 H2=>tb { D with nx:=Pv (i+1),ct:=Pv (i+1),bk:=D.nx } σ2 H2) (hd:∀ J H,Pv n J H->D.nx J H) :
  ∃ W:Nat->Nat->St->Hp->Prop,(∃ m,W 0 m J H)/\∀ i m J H,W i m J H ->
   ((JV K a b).stop i H/\D.nx J H)\/((JV K a b).go i H/\∃ N:St->Hp->Prop,(∀ σ' H',N σ' H'->∃ m',m'<m/\W (i+1) m' σ' H')/\∀ x H',(JV K a b).Df i H x H'->g x J H' λσ2 H2=>tb { D with nx:=N,ct:=N,bk:=D.nx } σ2 H2):=by
 refine⟨λi m J H=>m=n-i/\i<=n/\Pv i J H,⟨n,by simp,bq _,h0⟩,?_⟩;rintro i m J H ⟨rfl,hi,p⟩;obtain⟨q,q2⟩:=hl i J H hi p
 by_cases gz:i<n
 .refine .inr ⟨⟨xs,ys,xs[i]'(by omega),ys[i]'(by omega),q,q2,by simp,by simp⟩,Pv (i+1),λσ' H' p'=>⟨n-(i+1),by (clear vx Eo hn hl hs hd hi;omega),Z,gz,p'⟩,λx H' y=>?_⟩;obtain⟨T,u,v,rfl,hT,e1,e2,rfl⟩:=y;exact hs i u v J _ T gz (e1 xs q) (e2 ys q2) p hT
 .have e:i=n:=by (clear vx Eo hn hl hs hd;omega)
  subst e;refine .inl ⟨⟨xs,ys,q,q2,?_⟩,hd J H p⟩;rcases hn with h | h
  .exact .inl (by omega)
  .exact .inr (by omega)
theorem nq(xs:List V):BQ xs (O 1) Y=xs.drop 1:=by
 unfold BQ;show P4 _ (List.drop (HT.AX xs.length 0 (O ((1:Nat):Int))) xs)=_;rw[HT.Go,HT.CD];cases xs with
 |nil=>rfl
 |cons x xs =>
  have:min 1 (x::xs).length=1:=by simp
  show P4 ((x::xs).length-min 1 (x::xs).length) (List.drop (min 1 (x::xs).length) (x::xs))=_;rw[this];refine hE ?_;simp
def oW:Option Int->V
 |none=>.fC
 |some z=>.int z
def om(n:Nat)(f:Int->Option Int):List V:=(bn n).map λp=>oW (f ((p:Nat):Int))
theorem mU(n:Nat)(f:Int->Option Int):(om n f).length=n:=by unfold om;simp
theorem Cr{n:Nat}{f g:Int->Option Int}(h:∀ p:Int,0<=p->p<n->f p=g p):om n f=om n g:=by
 unfold om;refine gK λp hp=>?_;rw[h _ (by omega) (by have:=cm.mp hp;omega)]
theorem Gf{n:Nat}{f:Int->Option Int}{z:Int}(h0:0<=z)(h1:z<n):(om n f)[z.toNat]?=O (oW (f z)):=by
 unfold om;rw[au,dH (by omega)];show O (oW (f ((z.toNat:Nat):Int)))=_;rw[gQ h0]
theorem Td{n:Nat}{f:Int->Option Int}{z v:Int}(h0:0<=z)(h1:z<n):(om n f).set z.toNat (.int v)=om n λx=>if x=z then O v else f x:=by
 apply dg;intro p
 by_cases hp:p<n
 .by_cases e:p=z.toNat
  .subst e;rw[dC (by rw[mU];exact hp),Gf h0 h1,if_pos rfl];rfl
  .rw[dY (cg e)];have jZ:¬ ((p:Nat):Int)=z:=by (clear h0 h1 hp;omega)
   unfold om;rw[au,au,dH hp];simp[jZ]
 .rw[bf (by rw[jC,mU];omega),bf (by rw[mU];omega)]
theorem Ln(n:Nat):(aX n [V.fC]).flatten=om n λ_=>Y:=by
 unfold om
 induction n with
 |zero=>rfl
 |succ n ih=>rw[qQ,fA,ih,fe,aB];rfl
theorem HH{K:af}{a b:ai}{xs zs:List V}{tt:G5}{tc:TT}{te:TE}{cap:List Nat}{J:St}{H:Hp}{D:ai->List V->Hp->Prop}(n:Nat)(vx:n<=xs.length)(Eo:n<=zs.length)(hn:n=xs.length\/n=zs.length)(Pv:Nat->List V->Hp->Prop)(h0:Pv 0 [] H)(hz:n<=az)(hl:∀ i ys H,i<=n->Pv i ys H->bI K H a xs/\bI K H b zs/\ys.length<=i)
  (hs:∀ i x z ys H T,i<n->xs[i]?=O x->zs[i]?=O z->Pv i ys H->H T=Y->tt (.ref T) (upd H T (.tup [x,z])) λws=>tc (ws.map O++gD J cap) (upd H T (.tup [x,z])) λb H4=>if b=true then te (ws.map O++gD J cap) H4 λy H5=>Pv (i+1) (ys++[y]) H5 else Pv (i+1) ys H4)
  (hd:∀ ys H,Pv n ys H->∀ p,H p=Y->D p ys H) :
  ∃ W:Nat->Nat->List V->Hp->Prop,(∃ m,W 0 m [] H)/\∀ i m ys H2,W i m ys H2 ->
  ((JV K a b).stop i H2/\ys.length<=az/\∀ p,H2 p=Y->D p ys H2) \/
  ((JV K a b).go i H2/\∃ N:List V->Hp->Prop,(∀ l9 H',N l9 H'->l9.length<=az/\∃ m',m'<m/\W (i+1) m' l9 H') /\
   ∀ x H3,(JV K a b).Df i H2 x H3->tt x H3 λws=>tc (ws.map O++gD J cap) H3 λb H4 =>
    if b=true then te (ws.map O++gD J cap) H4 λy H5=>N (ys++[y]) H5 else N ys H4):=by
 refine⟨λi m ys H=>m=n-i/\i<=n/\Pv i ys H,⟨n,by simp,bq _,h0⟩,?_⟩;rintro i m ys H2 ⟨rfl,hi,p⟩;obtain⟨q,q2,hy⟩:=hl i ys H2 hi p
 by_cases gz:i<n
 .refine .inr ⟨⟨xs,zs,xs[i]'(by omega),zs[i]'(by omega),q,q2,by simp,by simp⟩,Pv (i+1),λl9 H' r=>?_,λx H3 y=>?_⟩
  .obtain⟨_,_,h2⟩:=hl (i+1) l9 H' gz r;exact⟨by (clear vx Eo hn hd hi hy hl hs;omega),n-(i+1),by (clear vx Eo hn hz hl hs hd hi hy h2;omega),Z,gz,r⟩
  .obtain⟨T,u,v,rfl,hT,e1,e2,rfl⟩:=y;exact hs i u v ys _ T gz (e1 xs q) (e2 zs q2) p hT
 .have e:i=n:=by (clear vx Eo hn hz hl hs hd hy;omega)
  subst e;refine .inl ⟨⟨xs,zs,q,q2,?_⟩,by omega,hd ys H2 p⟩;rcases hn with h | h
  .exact .inl (by omega)
  .exact .inr (by omega)
end L2
namespace Law
open PySem L2
def Cm(R:List (List Int))(k:Nat):List Int:=(R[k]?).getD []
theorem KZ{R:List (List Int)}{k:Nat}{p:Int}:lv R k p↔p∈Cm R k:=by
 unfold lv Cm;cases e:R[k]? with
 |none=>simp
 |some L=>simp
def Cy(G:List Row)(R:List (List Int))(p:Int)(k:Nat):Option Int:=((wy G p).filter λw=>decide (w∈Cm R k)).head?
def PR(G:List Row)(R:List (List Int))(S:Nat->Int->Prop)(X:Int->Option Int):Prop:=∀ p:Int,0<=p->p<G.length->(∀ k,S k p->X p=Cy G R p k)/\((∀ k,¬ S k p)->X p=Y)
section
variable {G:List Row}{hand:Int}{ins want:Int->Bool}{R:List (List Int)}
theorem PR.congr{S S':Nat->Int->Prop}{X:Int->Option Int}(h:PR G R S X)(e:∀ k p,S k p↔S' k p):PR G R S' X:=λp p0 p1=>by
 obtain⟨a,b⟩:=h p p0 p1;exact⟨λk hk=>a k ((e k p).mpr hk),λhn=>b λk hk=>hn k ((e k p).mp hk)⟩
theorem PR.set{S S':Nat->Int->Prop}{X:Int->Option Int}{z v:Int}{i:Nat}(h:PR G R S X)(e:∀ k p,p≠z->(S' k p↔S k p))(hz:∀ k,S' k z↔k=i)(hv:Cy G R z i=O v):PR G R S' (λx=>if x=z then O v else X x):=λp p0 p1=>by
 by_cases c:p=z
 .subst c;show(∀ k,S' k p->(if p=p then O v else X p)=_)/\((∀ k,¬ S' k p)->(if p=p then O v else X p)=Y);rw[if_pos rfl];refine⟨λk hk=>?_,λhn=>(hn i ((hz i).mpr Z)).elim⟩;rw[(hz k).mp hk,hv]
 .show(∀ k,S' k p->(if p=z then O v else X p)=_)/\((∀ k,¬ S' k p)->(if p=z then O v else X p)=Y);rw[if_neg c];obtain⟨a,b⟩:=h p p0 p1;exact⟨λk hk=>a k ((e k p c).mp hk),λhn=>b λk hk=>hn k ((e k p c).mpr hk)⟩
theorem PR.zero(S:Nat->Int->Prop)(h:∀ k p,¬ S k p):PR G R S (λ_=>Y):=λp _ _=>⟨λk hk=>(h k p hk).elim,λ_=>rfl⟩
theorem Lay.Iw(hL:Lay G hand ins want R){i:Nat}{w:Int}(h:lv R i w):ins w=true:=hL.li.Iw w (cY _ (rD.mpr ⟨i,h⟩))
theorem Lay.rg(hL:Lay G hand ins want R){i:Nat}{w:Int}(h:lv R i w):0<=w/\w<G.length:=hL.li.rg w (cY _ (rD.mpr ⟨i,h⟩))
theorem Lay.QI(hL:Lay G hand ins want R){i:Nat}{p:Int}(h:lv R (i+1) p):want p=false:=by
 cases e:want p with
 |false=>rfl
 |true =>
  have h0:=(hL.zero (hL.rg h)).mpr ⟨hL.Iw h,e⟩;have:=mT hL.nd h0 h;omega
theorem Lay.pick(hL:Lay G hand ins want R){i:Nat}{p:Int}(h:lv R (i+1) p)(ho:hd G p=hand):∃ v,Cy G R p i=O v/\v∈wy G p/\lv R i v:=by
 obtain⟨j,e,⟨w,mO,nS⟩,_⟩:=(hL.own (hL.rg h) (hL.Iw h) (hL.QI h) ho).1 _ h;have:i=j:=by (clear ho;omega)
 subst this;have hm:w∈(wy G p).filter λw=>decide (w∈Cm R i):=bt.mpr ⟨mO,decide_eq_true (KZ.mp nS)⟩;unfold Cy;cases e:(wy G p).filter λw=>decide (w∈Cm R i) with
 |nil=>rw[e] at hm;cases hm
 |cons v vs =>
  have hv:v∈(wy G p).filter λw=>decide (w∈Cm R i):=by rw[e];exact aL ..
  obtain⟨a,b⟩:=bt.mp hv;exact⟨v,Z,a,KZ.mpr (of_decide_eq_true b)⟩
theorem Ej{l:List Int}(h:l.Pairwise (·<·)){M v:Int}(hv:l.head?=O v)(hM:M∈l)(R9:∀ k∈l,M<=k):M=v:=by
 cases l with
 |nil=>cases hM
 |cons a l =>
  have:a=v:=by simpa using hv
  subst this;rcases aG.mp hM with e | e
  .exact e
  .have:=R9 a (aL ..);have:=(mZ.mp h).1 M e;omega
end
end Law
namespace L2
open PySem PySem.Spec PyProof.Rows
end L2
namespace Law
open PySem L2
def NE(G:List Row):Prop:=∀ row∈G,row.2.2≠[]
def Ri(G:List Row):Prop:=∀ row∈G,row.1=0\/row.1=1
theorem Yu{G:List Row}(h:NE G){p:Int}(hp:0<=p/\p<G.length):∃ w,w∈wy G p:=by
 obtain⟨row,iL⟩:∃ row,G[p.toNat]?=O row:=⟨G[p.toNat]'(by omega),by simp⟩
 rw[tV iL];have:=h row (ag iL);cases e:row.2.2 with
 |nil=>exact absurd e this
 |cons a l=>exact⟨a,aL ..⟩
theorem RT{G:List Row}(h:Ri G){p:Int}(hp:0<=p/\p<G.length):hd G p=0\/hd G p=1:=by
 obtain⟨row,iL⟩:∃ row,G[p.toNat]?=O row:=⟨G[p.toNat]'(by omega),by simp⟩
 rw[ql iL];exact h row (ag iL)
def x9(G:List Row)(hand:Int)(S:List Int)(p:Int):Option Int:=if decide (p∈S) && decide (hd G p=hand) then ((wy G p).filter λw=>decide (w∈S)).head? else Y
theorem F4{G:List Row}{hand:Int}{S:List Int}{p:Int}(h1:p∈S)(h2:hd G p=hand)(h3:∃ w∈wy G p,w∈S):∃ v,((wy G p).filter λw=>decide (w∈S)).head?=O v/\x9 G hand S p=O v/\v∈wy G p/\v∈S:=by
 obtain⟨w,mO,nS⟩:=h3;have hm:w∈(wy G p).filter λw=>decide (w∈S):=bt.mpr ⟨mO,decide_eq_true nS⟩;unfold x9;rw[decide_eq_true h1,decide_eq_true h2];cases e:(wy G p).filter λw=>decide (w∈S) with
 |nil=>rw[e] at hm;cases hm
 |cons v vs =>
  have hv:v∈(wy G p).filter λw=>decide (w∈S):=by rw[e];exact aL ..
  obtain⟨a,b⟩:=bt.mp hv;exact⟨v,Z,Z,a,of_decide_eq_true b⟩
theorem a0D{G:List Row}{hand:Int}{S:List Int}{p:Int}(h:¬ (p∈S/\hd G p=hand)):x9 G hand S p=Y:=by
 unfold x9;rw[if_neg];rw[aQ,decide_eq_true_eq,decide_eq_true_eq];exact h
end Law
namespace L2
open PySem PySem.Spec PyProof.Rows
structure ClsAt(K:af)(mg:aE->Option ae)(x:aE)(C:ai)(fs:List aE):Prop where
 cl:GW K C
 mgC:mg x=O (.ref C)
 na:∀ f∈fs,qx K C f
structure j5(K:af)(C:ai)(m qual:aE)(st:cH)(ps:List aE):Prop where
 ex:∃ f fd,Jt K m qual st f fd/\Meth K C m f/\Binds K fd ps []
structure qw(K:af)(C:ai)(qual:aE)(st:cH)(ps:List aE):Prop where
 ex:∃ f fd,Jt K "__init__" qual st f fd/\Mk K C f/\Binds K fd ps []
structure tL(P:aS)(w:bv)(K:af)(mg:aE->Option ae)(base:cR)(C:ai)(m:aE)(n:Nat)(ps:List aE)(sp:Sp):Prop where
 ex:∃ f fd,ow P w K mg base DR n f fd ps sp/\Meth K C m f/\Binds K fd ps []
structure GZ(P:aS)(w:bv)(K:af)(mg:aE->Option ae)(base:cR)(C:ai)(n:Nat)(ps:List aE)(sp:Sp):Prop where
 ex:∃ f fd,ow P w K mg base DR n f fd ps sp/\Mk K C f/\Binds K fd ps []
section
variable {P:aS}{w:bv}{K:af}{mg:aE->Option ae}{base:cR}
theorem j5.ok{C:ai}{m qual:aE}{st:cH}{N ps:List aE}{k:Nat}{sp:Sp}(F:j5 K C m qual st ps)(S:bg N ps (aC st))(len:∀ vs H Q E,sp vs H Q E->vs.length=ps.length)
  (rm:∀ (f:ai) (dW:ae) (A:cK) (outer:List DX) (s:aq) (H:Hp) (vs:List V) (Q:VK) (E:XK),ig k (A.deeper (qc qual (aC st) s.heap.objs.size f dW))->sp vs H Q E ->
   ∃ t,AR (zj DR P w K mg base N qual (aC st) f dW A outer s H E).Nb (gM st) t/\t { nx:=λ_ H'=>Q .fC H',rt:=Q } (start N vs) H):tL P w K mg base C m (k+1) ps sp:=by
 obtain⟨f,fd,F,hm,hb⟩:=F.ex;exact⟨f,fd,F.ok S len λdW A outer s H vs Q E=>rm f dW A outer s H vs Q E,hm,hb⟩
theorem qw.ok{C:ai}{qual:aE}{st:cH}{N ps:List aE}{k:Nat}{sp:Sp}(F:qw K C qual st ps)(S:bg N ps (aC st))(len:∀ vs H Q E,sp vs H Q E->vs.length=ps.length)
  (rm:∀ (f:ai) (dW:ae) (A:cK) (outer:List DX) (s:aq) (H:Hp) (vs:List V) (Q:VK) (E:XK),ig k (A.deeper (qc qual (aC st) s.heap.objs.size f dW))->sp vs H Q E ->
   ∃ t,AR (zj DR P w K mg base N qual (aC st) f dW A outer s H E).Nb (gM st) t/\t { nx:=λ_ H'=>Q .fC H',rt:=Q } (start N vs) H):GZ P w K mg base C (k+1) ps sp:=by
 obtain⟨f,fd,F,hm,hb⟩:=F.ex;exact⟨f,fd,F.ok S len λdW A outer s H vs Q E=>rm f dW A outer s H vs Q E,hm,hb⟩
end
section
variable {X:Cx}
theorem gP{C:ai}{m:aE}{n k:Nat}{ps:List aE}{sp:Sp}{o e:cF}{es:List cF}{ta:TE}{t:TA}{apos pos:jd}{pl:U2 Bool}(cl:GW X.K C)(D:tL X.prog X.w X.K X.mg X.base C m n ps sp)(hr:ig k X.A)(he:PE X o ta)(ha:PA X (e::es) t)(hk:n<=k:=by decide)
  (N9:bD (e::es) X.env=(false,dP e X.env)::bD es X.env:=by rfl) (m8:(gB pos (bD es X.env)).any (·.1)=false:=by rfl)
  (ht:dP (.Call (.Attribute o m apos) (e::es) [] pos) X.env=(do
   let ov ← dP o X.env
   Az apos.atName
   let (f,first) ← lD [ov] (uG ov m pl)
   Hl pos f first (gB pos (bD (e::es) X.env)) (qz pos (k5 [] X.env))):=by rfl) :
  PE X (.Call (.Attribute o m apos) (e::es) [] pos) (GJ C m sp [] E0 ta t):=by
 obtain⟨f,fd,F,hm,hb⟩:=D.ex;exact O5 he cl hm F (hr.mono hk) hb .nil yk ha N9 m8 ht
theorem O1{C:ai}{m:aE}{n k:Nat}{ps:List aE}{sp:Sp}{o:cF}{ta:TE}{apos pos:jd}{pl:U2 Bool}(cl:GW X.K C)(D:tL X.prog X.w X.K X.mg X.base C m n ps sp)(hr:ig k X.A)(he:PE X o ta)(hk:n<=k:=by decide)
  (ht:dP (.Call (.Attribute o m apos) [] [] pos) X.env=(do
   let ov ← dP o X.env
   Az apos.atName
   let (f,first) ← lD [ov] (uG ov m pl)
   Hl pos f first (gB pos (bD [] X.env)) (qz pos (k5 [] X.env))):=by rfl) :
  PE X (.Call (.Attribute o m apos) [] [] pos) (GJ C m sp [] E0 ta Mp):=by
 obtain⟨f,fd,F,hm,hb⟩:=D.ex;exact LA he cl hm F (hr.mono hk) hb .nil yk ht
theorem vM{C:ai}{x:aE}{fs:List aE}{n k:Nat}{ps:List aE}{sp:Sp}{e:cF}{es:List cF}{t:TA}{p pos:jd}(CL:ClsAt X.K X.mg x C fs)(D:GZ X.prog X.w X.K X.mg X.base C n ps sp)(hr:ig k X.A)(ha:PA X (e::es) t)(hk:n+1<=k:=by decide)(hg:Gl X x:=by rfl)
  (Ei:(x == ("__debug__" : aE))=false:=by decide) (he:bD (e::es) X.env=(false,dP e X.env)::bD es X.env:=by rfl) (m8:(gB pos (bD es X.env)).any (·.1)=false:=by rfl) :
  PE X (.Call (.Name x p) (e::es) [] pos) (GI C sp [] E0 t):=by
 obtain⟨f,fd,F,hm,hb⟩:=D.ex;exact O4 hm F (hr.mono hk) hg CL.mgC hb .nil yk ha Ei he m8
theorem bV{K:af}{e:cF}{f:aE}{pos:jd}{ta:TE}(hK:X.K=K)(he:PE X e ta)(hb:kf e f X.env (dP e X.env)=dP e X.env):PE X (.Attribute e f pos) (X6 K ta f):=by
 subst hK;exact Ti he hb
theorem fT{K:af}{o value:cF}{f:aE}{pos pos':jd}{ta tv:TE}(hK:X.K=K)(ha:PE X o ta)(hv:PE X value tv)(hs:qO value (O (.Attribute o f pos')) pos.line X.env=pure false):PS X (.Assign [.Attribute o f pos'] value pos) (XN K ta tv f):=by
 subst hK;exact Tp ha hv hs
end
def mn(H:Hp)(a b:ai):Hp:=del (del H a) b
section
variable {H H':Hp}{a b c:ai}
theorem mG(h1:c≠a)(h2:c≠b):mn H a b c=H c:=by unfold mn;rw[dF h2,dF h1]
theorem yb:mn H a b a=Y:=by
 unfold mn del
 by_cases c:a=b
 .rw[if_pos c]
 .rw[if_neg c,if_pos rfl]
theorem vH:mn H a b b=Y:=by unfold mn del;rw[if_pos rfl]
theorem F8{o:HO}(h:mn H a b c=O o):c≠a/\c≠b:=⟨λz=>(by rw[z,yb] at h;cases h),λz=>(by rw[z,vH] at h;cases h)⟩
theorem iz:aU (mn H a b) H:=λc o h=>by
 obtain⟨h1,h2⟩:=F8 h;rw[mG h1 h2] at h;exact h
theorem jL(s:aU H H'):aU (mn H a b) (mn H' a b):=λc o h=>by
 obtain⟨h1,h2⟩:=F8 h;rw[mG h1 h2] at h ⊢;exact s _ _ h
theorem oZ(s:aU (mn H a b) H'):aU (mn H a b) (mn H' a b):=λc o h=>by
 obtain⟨h1,h2⟩:=F8 h;rw[mG h1 h2];exact s _ _ h
theorem W5(s:aU H H')(h1:H a=Y)(h2:H b=Y):aU H (mn H' a b):=λc o h=>by
 rw[mG (λz=>by rw[z,h1] at h;cases h) (λz=>by rw[z,h2] at h;cases h)];exact s _ _ h
theorem Ga{o1 o2:HO}(h1:H a=O o1)(h2:H b=O o2):aU (jf H H') (mn H' a b):=λc o h=>by
 have hc:H c=Y:=by
  cases e:H c with
  |none=>rfl
  |some u=>rw[nE e] at h;cases h
 rw[eV hc] at h;rw[mG (λz=>by rw[z,h1] at hc;cases hc) (λz=>by rw[z,h2] at hc;cases hc)];exact h
theorem lP{xs:List V}(h:H c=O (.lst xs))(h1:c≠a)(h2:c≠b):mn H a b c=O (.lst xs):=by rw[mG h1 h2];exact h
theorem eK{o:HO}(h:H a=O o)(hn:H c=Y):c≠a:=λz=>by rw[z,h] at hn;cases hn
end
theorem SB(n:Nat)(z:Int):(aX n [V.int z]).flatten=(im n λ_=>z).map V.int:=by
 unfold im
 induction n with
 |zero=>rfl
 |succ n ih=>rw[qQ,fA,ih,fe,aB,aB];rfl
theorem Lm{n:Nat}{f:Int->Option Int}{z:Int}{o:Option Int}(h0:0<=z)(h1:z<n):(om n f).set z.toNat (oW o)=om n λx=>if x=z then o else f x:=by
 apply dg;intro p
 by_cases hp:p<n
 .by_cases e:p=z.toNat
  .subst e;rw[dC (by rw[mU];exact hp),Gf h0 h1,if_pos rfl]
  .rw[dY (cg e)];have jZ:¬ ((p:Nat):Int)=z:=by omega
   unfold om;rw[au,au,dH hp];simp[jZ]
 .rw[bf (by rw[jC,mU];omega),bf (by rw[mU];omega)]
theorem eL{t u:TS}{D:Ends}{J:St}{H:Hp}(h:∀ E:Ends,E={ D with nx:=u D }->t E J H):Yd t u D J H:=h _ Z
theorem eM{u:TS}{E D:Ends}{J:St}{H:Hp}(e:E={ D with nx:=u D })(h:u D J H):E.nx J H:=by subst e;exact h
end L2
namespace L2
inductive Nk{A0 A1:Type}(p:A0->A1->Prop):Prop
 |mk (a0:A0) (a1:A1) (h:p a0 a1):Nk p
inductive YB{A0 A1 A2:Type}(p:A0->A1->A2->Prop):Prop
 |mk (a0:A0) (a1:A1) (a2:A2) (h:p a0 a1 a2):YB p
inductive Ex4{A0 A1 A2 A3:Type}(p:A0->A1->A2->A3->Prop):Prop
 |mk (a0:A0) (a1:A1) (a2:A2) (a3:A3) (h:p a0 a1 a2 a3):Ex4 p
inductive YC{A0 A1 A2 A3 A4:Type}(p:A0->A1->A2->A3->A4->Prop):Prop
 |mk (a0:A0) (a1:A1) (a2:A2) (a3:A3) (a4:A4) (h:p a0 a1 a2 a3 a4):YC p
inductive Z3{A0 A1 A2 A3 A4 A5:Type}(p:A0->A1->A2->A3->A4->A5->Prop):Prop
 |mk (a0:A0) (a1:A1) (a2:A2) (a3:A3) (a4:A4) (a5:A5) (h:p a0 a1 a2 a3 a4 a5):Z3 p
inductive Z4{A0 A1 A2 A3 A4 A5 A6:Type}(p:A0->A1->A2->A3->A4->A5->A6->Prop):Prop
 |mk (a0:A0) (a1:A1) (a2:A2) (a3:A3) (a4:A4) (a5:A5) (a6:A6) (h:p a0 a1 a2 a3 a4 a5 a6):Z4 p
inductive Ex9{A0 A1 A2 A3 A4 A5 A6 A7 A8:Type}(p:A0->A1->A2->A3->A4->A5->A6->A7->A8->Prop):Prop
 |mk (a0:A0) (a1:A1) (a2:A2) (a3:A3) (a4:A4) (a5:A5) (a6:A6) (a7:A7) (a8:A8) (h:p a0 a1 a2 a3 a4 a5 a6 a7 a8):Ex9 p
inductive UQ{A0 A1 A2 A3 A4 A5 A6 A7 A8 A9:Type}(p:A0->A1->A2->A3->A4->A5->A6->A7->A8->A9->Prop):Prop
 |mk (a0:A0) (a1:A1) (a2:A2) (a3:A3) (a4:A4) (a5:A5) (a6:A6) (a7:A7) (a8:A8) (a9:A9) (h:p a0 a1 a2 a3 a4 a5 a6 a7 a8 a9):UQ p
inductive Rg{A0 A1 A2 A3 A4 A5 A6 A7 A8 A9 MJ:Type}(p:A0->A1->A2->A3->A4->A5->A6->A7->A8->A9->MJ->Prop):Prop
 |mk (a0:A0) (a1:A1) (a2:A2) (a3:A3) (a4:A4) (a5:A5) (a6:A6) (a7:A7) (a8:A8) (a9:A9) (U6:MJ) (h:p a0 a1 a2 a3 a4 a5 a6 a7 a8 a9 U6):Rg p
inductive Nj{A0 A1 A2 A3 A4 A5 A6 A7 A8 A9 MJ Q4:Type}(p:A0->A1->A2->A3->A4->A5->A6->A7->A8->A9->MJ->Q4->Prop):Prop
 |mk (a0:A0) (a1:A1) (a2:A2) (a3:A3) (a4:A4) (a5:A5) (a6:A6) (a7:A7) (a8:A8) (a9:A9) (U6:MJ) (a11:Q4) (h:p a0 a1 a2 a3 a4 a5 a6 a7 a8 a9 U6 a11):Nj p
inductive Rh{A0 A1 A2 A3 A4 A5 A6 A7 A8 A9 MJ Q4 Yw Yx:Type}(p:A0->A1->A2->A3->A4->A5->A6->A7->A8->A9->MJ->Q4->Yw->Yx->Prop):Prop
 |mk (a0:A0) (a1:A1) (a2:A2) (a3:A3) (a4:A4) (a5:A5) (a6:A6) (a7:A7) (a8:A8) (a9:A9) (U6:MJ) (a11:Q4) (a12:Yw) (a13:Yx) (h:p a0 a1 a2 a3 a4 a5 a6 a7 a8 a9 U6 a11 a12 a13):Rh p
inductive Bl(p0 p1 p2 p3:Prop):Prop
 |mk (h0:p0) (h1:p1) (h2:p2) (h3:p3):Bl p0 p1 p2 p3
inductive GV(p0 p1 p2 p3 p4:Prop):Prop
 |mk (h0:p0) (h1:p1) (h2:p2) (h3:p3) (h4:p4):GV p0 p1 p2 p3 p4
inductive Nf(p0 p1 p2 p3 p4 p5:Prop):Prop
 |mk (h0:p0) (h1:p1) (h2:p2) (h3:p3) (h4:p4) (h5:p5):Nf p0 p1 p2 p3 p4 p5
inductive JQ(p0 p1 p2 p3 p4 p5 p6:Prop):Prop
 |mk (h0:p0) (h1:p1) (h2:p2) (h3:p3) (h4:p4) (h5:p5) (h6:p6):JQ p0 p1 p2 p3 p4 p5 p6
inductive Q6(p0 p1 p2 p3 p4 p5 p6 p7:Prop):Prop
 |mk (h0:p0) (h1:p1) (h2:p2) (h3:p3) (h4:p4) (h5:p5) (h6:p6) (h7:p7):Q6 p0 p1 p2 p3 p4 p5 p6 p7
inductive Ng(p0 p1 p2 p3 p4 p5 p6 p7 p8:Prop):Prop
 |mk (h0:p0) (h1:p1) (h2:p2) (h3:p3) (h4:p4) (h5:p5) (h6:p6) (h7:p7) (h8:p8):Ng p0 p1 p2 p3 p4 p5 p6 p7 p8
inductive JO(p0 p1 p2 p3 p4 p5 p6 p7 p8 p9:Prop):Prop
 |mk (h0:p0) (h1:p1) (h2:p2) (h3:p3) (h4:p4) (h5:p5) (h6:p6) (h7:p7) (h8:p8) (h9:p9):JO p0 p1 p2 p3 p4 p5 p6 p7 p8 p9
inductive JP(p0 p1 p2 p3 p4 p5 p6 p7 p8 p9 QK:Prop):Prop
 |mk (h0:p0) (h1:p1) (h2:p2) (h3:p3) (h4:p4) (h5:p5) (h6:p6) (h7:p7) (h8:p8) (h9:p9) (h10:QK):JP p0 p1 p2 p3 p4 p5 p6 p7 p8 p9 QK
inductive PY(p0 p1 p2 p3 p4 p5 p6 p7 p8 p9 QK Xp Xq:Prop):Prop
 |mk (h0:p0) (h1:p1) (h2:p2) (h3:p3) (h4:p4) (h5:p5) (h6:p6) (h7:p7) (h8:p8) (h9:p9) (h10:QK) (h11:Xp) (RL:Xq):PY p0 p1 p2 p3 p4 p5 p6 p7 p8 p9 QK Xp Xq
inductive PZ(p0 p1 p2 p3 p4 p5 p6 p7 p8 p9 QK Xp Xq p13 p14 p15:Prop):Prop
 |mk (h0:p0) (h1:p1) (h2:p2) (h3:p3) (h4:p4) (h5:p5) (h6:p6) (h7:p7) (h8:p8) (h9:p9) (h10:QK) (h11:Xp) (RL:Xq) (h13:p13) (h14:p14) (h15:p15):PZ p0 p1 p2 p3 p4 p5 p6 p7 p8 p9 QK Xp Xq p13 p14 p15
end L2
namespace Law
open PySem L2
def rk(G:List Row)(p:Int):Int:=((G[p.toNat]?).getD (0,0,[])).2.1
theorem vT{G:List Row}{p:Int}{r:Row}(h:G[p.toNat]?=O r):rk G p=r.2.1:=by unfold rk;rw[h];rfl
inductive TG(r:Int->Int->Prop):Int->Int->Prop
 |one {a b:Int}:r a b->TG r a b
 |cons {a b c:Int}:r a b->TG r b c->TG r a c
theorem TG.imp{r s:Int->Int->Prop}(h:∀ x y,r x y->s x y){a b:Int}(t:TG r a b):TG s a b:=by
 induction t with
 |one e=>exact .one (h _ _ e)
 |cons e _ ih=>exact .cons (h _ _ e) ih
theorem TG.trans{r:Int->Int->Prop}{a b c:Int}(t:TG r a b)(u:TG r b c):TG r a c:=by
 induction t with
 |one e=>exact .cons e u
 |cons e _ ih=>exact .cons e (ih u)
theorem TG.fwd{r s:Int->Int->Prop}{Q:Int->Prop}(h:∀ x y,r x y->Q x->Q y/\s x y){a b:Int}(t:TG r a b)(qa:Q a):Q b/\TG s a b:=by
 induction t with
 |one e=>exact⟨(h _ _ e qa).1,.one (h _ _ e qa).2⟩
 |cons e _ ih =>
  obtain⟨h1,h2⟩:=h _ _ e qa;obtain⟨h3,h4⟩:=ih h1;exact⟨h3,.cons h2 h4⟩
theorem TG.bwd{r s:Int->Int->Prop}{Q:Int->Prop}(h:∀ x y,r x y->Q y->Q x/\s x y){a b:Int}(t:TG r a b)(qb:Q b):Q a/\TG s a b:=by
 induction t with
 |one e=>exact⟨(h _ _ e qb).1,.one (h _ _ e qb).2⟩
 |cons e _ ih =>
  obtain⟨h3,h4⟩:=ih qb;obtain⟨h1,h2⟩:=h _ _ e h3;exact⟨h1,.cons h2 h4⟩
def ed(G:List Row)(wf:Int->Option Int)(h:Int)(x y:Int):Prop:=if hd G x=h then wf x=O y else y∈wy G x
theorem oN{G:List Row}{wf:Int->Option Int}{h x y:Int}(e:hd G x=h):ed G wf h x y↔wf x=O y:=by unfold ed;rw[if_pos e]
theorem n6{G:List Row}{wf:Int->Option Int}{h x y:Int}(e:¬ hd G x=h):ed G wf h x y↔y∈wy G x:=by unfold ed;rw[if_neg e]
theorem rh{G:List Row}{wf wf':Int->Option Int}{h x y:Int}(e:wf x=wf' x):ed G wf h x y↔ed G wf' h x y:=by unfold ed;rw[e]
def Rl(G:List Row)(wf:Int->Option Int)(h:Int)(D:Int->Prop):Prop:=∀ p,D p->rk G p % 2≠h->¬ TG (λx y=>(D x/\D y/\ed G wf h x y)/\rk G x<=rk G p/\rk G y<=rk G p) p p
structure uA(G:List Row)(P:Int->Prop)(wf:Int->Option Int)(h:Int)(D:Int->Prop):Prop where
 sub:∀ p,D p->P p
 own:∀ p,D p->hd G p=h->∃ q,wf p=O q/\q∈wy G p/\D q
 oth:∀ p,D p->¬ hd G p=h->wf p=Y/\∀ q∈wy G p,P q->D q
 nb:Rl G wf h D
theorem uA.congr{G:List Row}{P:Int->Prop}{wf wf':Int->Option Int}{h:Int}{D D':Int->Prop}(w:uA G P wf h D)(e:∀ p,D p->wf p=wf' p)(MZ:∀ p,D p↔D' p):uA G P wf' h D':=by
 refine⟨λp hp=>w.sub p ((MZ p).mpr hp),λp hp ho=>?_,λp hp ho=>?_,λp hp hr t=>?_⟩
 .obtain⟨q,a,b,c⟩:=w.own p ((MZ p).mpr hp) ho;exact⟨q,by rw[← e p ((MZ p).mpr hp)];exact a,b,(MZ q).mp c⟩
 .obtain⟨a,b⟩:=w.oth p ((MZ p).mpr hp) ho;exact⟨by rw[← e p ((MZ p).mpr hp)];exact a,λq hq hP=>(MZ q).mp (b q hq hP)⟩
 .refine w.nb p ((MZ p).mpr hp) hr (t.imp λx y z=>?_);obtain⟨⟨a,b,c⟩,d⟩:=z;have ax:=(MZ x).mpr a;exact⟨⟨ax,(MZ y).mpr b,(rh (e x ax)).mpr c⟩,d⟩
structure FG(G:List Row)(P:Int->Prop)(hf:Int->Int)(wf:Int->Option Int):Prop where
 mh:∀ p,P p->hf p=0\/hf p=1
 QZ:∀ h,h=0\/h=1->uA G P wf h (λp=>P p/\hf p=h)
theorem uA.empty{G:List Row}{P:Int->Prop}{wf:Int->Option Int}{h:Int}{D:Int->Prop}(e:∀ p,¬ D p):uA G P wf h D :=
 ⟨λp hp=>(e p hp).elim,λp hp=>(e p hp).elim,λp hp=>(e p hp).elim,λp hp=>(e p hp).elim⟩
def YM(G:List Row)(P:Int->Prop):Prop:=∀ p,P p->∃ w∈wy G p,P w
section
variable {G:List Row}{hand:Int}{left:List Int}{want:Int->Bool}{R:List (List Int)}
theorem Ge(hL:Lay G hand (λx=>decide (x∈left)) want R)(hr:∀ x∈left,0<=x/\x<G.length)(ht:YM G (·∈left)){rest:List Int}(B3:∀ p,p∈rest↔p∈left/\∀ k,¬ lv R k p) :
  YM G (·∈rest)/\∀ p∈rest,hd G p=hand->∀ w∈wy G p,w∈left->w∈rest:=by
 have hnw:∀ p∈rest,want p=false:=λp hp=>by
  obtain⟨a,b⟩:=(B3 p).mp hp;cases e:want p with
  |false=>rfl
  |true=>exact(b 0 ((hL.zero (hr p a)).mpr ⟨decide_eq_true a,e⟩)).elim
 have own:∀ p∈rest,hd G p=hand->∀ w∈wy G p,w∈left->w∈rest:=λp hp ho w hw hl=>by
  obtain⟨a,b⟩:=(B3 p).mp hp;exact(B3 w).mpr ⟨hl,λi=>(hL.own (hr p a) (decide_eq_true a) (hnw p hp) ho).2 b w hw i⟩
 refine⟨λp hp=>?_,own⟩;obtain⟨a,b⟩:=(B3 p).mp hp;obtain⟨w,hw,oT⟩:=ht p a
 by_cases ho:hd G p=hand
 .exact⟨w,hw,own p hp ho w hw oT⟩
 .rcases (hL.oth (hr p a) (decide_eq_true a) (hnw p hp) ho).2 b with h1 | ⟨u,h1,h2,h3⟩
  .exact absurd (h1 w hw) (by simp[oT])
  .exact⟨u,h1,(B3 u).mpr ⟨of_decide_eq_true h2,h3⟩⟩
theorem Ca(hL:Lay G hand (λx=>decide (x∈left)) want R){wf:Int->Option Int}(hw:∀ p k,lv R (k+1) p->hd G p=hand->∃ v,wf p=O v/\lv R k v){x y:Int}{k:Nat}(hx:lv R (k+1) x)(hy:y∈left)(e:ed G wf hand x y):∃ i,i<=k/\lv R i y:=by
 by_cases ho:hd G x=hand
 .obtain⟨v,h1,h2⟩:=hw x k hx ho;rw[oN ho,h1] at e;cases e;exact⟨k,ay _,h2⟩
 .rw[n6 ho] at e;obtain⟨j,ej,_,all⟩:=(hL.oth (hL.rg hx) (hL.Iw hx) (hL.QI hx) ho).1 _ hx;obtain⟨i,h1,h2⟩:=all y e (decide_eq_true hy);exact⟨i,by omega,h2⟩
theorem uA.Xs{P Done lost:Int->Prop}{oth:List Int}{wf wf0 wf':Int->Option Int}(hL:Lay G hand (λx=>decide (x∈left)) want R)
  (hP:∀ p,P p↔Done p\/p∈left) (VD:∀ p,Done p->p ∉ left) (wD:uA G P wf hand Done) (wl:uA G (·∈oth) wf0 hand lost) (Zb:∀ p∈oth,p∈left)
  (QC:∀ p∈oth,¬ hd G p=hand->∀ w∈wy G p,w∈left->w∈oth)
  (ou:∀ p,lost p↔lv R 0 p) (e1:∀ p,Done p->wf' p=wf p) (e2:∀ p,lv R 0 p->wf' p=wf0 p)
  (e3:∀ p k,lv R (k+1) p->hd G p=hand->∃ v,wf' p=O v/\v∈wy G p/\lv R k v) (e4:∀ p k,lv R (k+1) p->¬ hd G p=hand->wf' p=Y) :
  uA G P wf' hand (λp=>Done p\/∃ k,lv R k p):=by
 have inl:∀{k p},lv R k p->p∈left:=λh=>of_decide_eq_true (hL.Iw h);have F6:∀{p},lv R 0 p->p∈oth:=λh=>wl.sub _ ((ou _).mpr h);have L0:∀ p,lv R 0 p->¬ hd G p=hand->∀ q∈wy G p,q∈left->lv R 0 q:=λp hp ho q hq hql =>
  (ou q).mp ((wl.oth p ((ou p).mpr hp) ho).2 q hq (QC p (F6 hp) ho q hq hql))
 have Mm:∀ x y,lv R 0 x->y∈left->ed G wf' hand x y->lv R 0 y:=λx y hx hy e=>by
  by_cases ho:hd G x=hand
  .obtain⟨q,a,_,c⟩:=wl.own x ((ou x).mpr hx) ho;rw[oN ho,e2 x hx,a] at e;cases e;exact(ou _).mp c
  .rw[n6 ho] at e;exact L0 x hx ho y e hy
 have rS:∀ x y k,lv R (k+1) x->y∈left->ed G wf' hand x y->∃ i,i<=k/\lv R i y:=λx y k hx hy e =>
  Ca hL (λp k h1 h2=>by obtain⟨v,a,_,c⟩:=e3 p k h1 h2;exact⟨v,a,c⟩) hx hy e
 refine⟨λp hp=>?_,λp hp ho=>?_,λp hp ho=>?_,λp hp hr t=>?_⟩
 .rcases hp with h | ⟨k,h⟩
  .exact(hP p).mpr (.inl h)
  .exact(hP p).mpr (.inr (inl h))
 .rcases hp with h | ⟨k,h⟩
  .obtain⟨q,a,b,c⟩:=wD.own p h ho;exact⟨q,by rw[e1 p h];exact a,b,.inl c⟩
  .cases k with
   |zero =>
    obtain⟨q,a,b,c⟩:=wl.own p ((ou p).mpr h) ho;exact⟨q,by rw[e2 p h];exact a,b,.inr ⟨0,(ou q).mp c⟩⟩
   |succ k =>
    obtain⟨v,a,b,c⟩:=e3 p k h ho;exact⟨v,a,b,.inr ⟨k,c⟩⟩
 .rcases hp with h | ⟨k,h⟩
  .obtain⟨a,b⟩:=wD.oth p h ho;exact⟨by rw[e1 p h];exact a,λq hq RO=>.inl (b q hq RO)⟩
  .cases k with
   |zero =>
    refine⟨by rw[e2 p h];exact(wl.oth p ((ou p).mpr h) ho).1,λq hq RO=>?_⟩;rcases (hP q).mp RO with z | z
    .exact .inl z
    .exact .inr ⟨0,L0 p h ho q hq z⟩
   |succ k =>
    refine⟨e4 p k h ho,λq hq RO=>?_⟩;rcases (hP q).mp RO with z | z
    .exact .inl z
    .obtain⟨i,_,hi⟩:=rS p q k h z ((n6 ho).mpr hq);exact .inr ⟨i,hi⟩
 .-- a ring
  have L1:∀ x y,Done x->P y->ed G wf' hand x y->Done y:=λx y hx hy e=>by
   by_cases ho:hd G x=hand
   .obtain⟨q,a,_,c⟩:=wD.own x hx ho;rw[oN ho,e1 x hx,a] at e;cases e;exact c
   .rw[n6 ho] at e;exact(wD.oth x hx ho).2 y e hy
  have SU:∀ y,(Done y\/∃ k,lv R k y)->P y:=λy hy=>by
   rcases hy with h | ⟨k,h⟩
   .exact(hP y).mpr (.inl h)
   .exact(hP y).mpr (.inr (inl h))
  rcases hp with h | ⟨k,h⟩
  .obtain⟨_,t2⟩:=t.fwd (Q:=Done) (s:=λx y=>(Done x/\Done y/\ed G wf hand x y)/\rk G x<=rk G p/\rk G y<=rk G p) (λx y z hx=>by
    obtain⟨⟨_,b,c⟩,d⟩:=z;have hy:=L1 x y hx (SU y b) c;exact⟨hy,⟨hx,hy,(rh (e1 x hx)).mp c⟩,d⟩) h
   exact wD.nb p h hr t2
  .have hnD:¬ Done p:=λz=>VD p z (inl h);obtain⟨_,t2⟩:=t.bwd (Q:=λx=>¬ Done x) (s:=λx y=>((∃ k,lv R k x)/\(∃ k,lv R k y)/\ed G wf' hand x y)/\rk G x<=rk G p/\rk G y<=rk G p) (λx y z hy=>by
    obtain⟨⟨a,b,c⟩,d⟩:=z;have hx:¬ Done x:=λz=>hy (L1 x y z (SU y b) c);exact⟨hx,⟨a.resolve_left hx,b.resolve_left hy,c⟩,d⟩) hnD
   cases k with
   |zero =>
    obtain⟨_,t3⟩:=t2.fwd (Q:=λx=>lv R 0 x) (s:=λx y=>(lost x/\lost y/\ed G wf0 hand x y)/\rk G x<=rk G p/\rk G y<=rk G p) (λx y z hx=>by
     obtain⟨⟨_,⟨j,b⟩,c⟩,d⟩:=z;have hy:=Mm x y hx (inl b) c;exact⟨hy,⟨(ou x).mpr hx,(ou y).mpr hy,(rh (e2 x hx)).mp c⟩,d⟩) h
    exact wl.nb p ((ou p).mpr h) hr t3
   |succ k =>
    have near:∀ x y,((∃ k,lv R k x)/\(∃ k,lv R k y)/\ed G wf' hand x y)->(∃ i,i<=k+1/\lv R i x)->∃ i,i<=k/\lv R i y:=λx y z hx=>by
     obtain⟨_,⟨j,b⟩,c⟩:=z;obtain⟨i,hi,hx⟩:=hx;cases i with
     |zero=>exact⟨0,bq _,Mm x y hx (inl b) c⟩
     |succ i =>
      obtain⟨i',h1,h2⟩:=rS x y i hx (inl b) c;exact⟨i',by omega,h2⟩
    have far:∃ i,i<=k/\lv R i p:=by
     cases t2 with
     |one z=>exact near p p z.1 ⟨k+1,ay _,h⟩
     |cons z t =>
      have h1:=near _ _ z.1 ⟨k+1,ay _,h⟩;exact (t.fwd (Q:=λx=>∃ i,i<=k/\lv R i x) (s:=λ_ _=>True) (λx y z hx=>by
       obtain⟨i,hi,hx⟩:=hx;exact⟨near x y z.1 ⟨i,by (clear hP VD Zb QC ou e1 e2 e3 e4 inl F6 L0 Mm rS hr L1 SU hnD near z;omega),hx⟩,trivial⟩) h1).1
    obtain⟨i,hi,hx⟩:=far;have:=mT hL.nd hx h;omega
theorem uA.final{P:Int->Prop}{oth:List Int}{wf0 wf':Int->Option Int}{top:Int}(hL:Lay G hand (λx=>decide (x∈left)) want R)
  (V0:∀ p∈left,P p) (tQ:∀ p∈left,¬ hd G p=hand->∀ w∈wy G p,P w->w∈left)
  (KN:∀ p∈left,rk G p<=top) (Es:top % 2=hand) (KQ:∀ p,lv R 0 p↔p∈left/\rk G p=top)
  (Er:∀ p,p∈oth↔p∈left/\∀ k,¬ lv R k p) (wo:uA G (·∈oth) wf0 hand (·∈oth))
  (e0:∀ p,lv R 0 p->hd G p=hand->∃ v,wf' p=O v/\v∈wy G p/\v∈left) (Vd:∀ p,lv R 0 p->¬ hd G p=hand->wf' p=Y)
  (e2:∀ p∈oth,wf' p=wf0 p)
  (e3:∀ p k,lv R (k+1) p->hd G p=hand->∃ v,wf' p=O v/\v∈wy G p/\lv R k v) (e4:∀ p k,lv R (k+1) p->¬ hd G p=hand->wf' p=Y) :
  uA G P wf' hand (·∈left):=by
 have inl:∀{k p},lv R k p->p∈left:=λh=>of_decide_eq_true (hL.Iw h);have split:∀ p∈left,p∈oth\/∃ k,lv R k p:=λp hp=>by
  by_cases c:∃ k,lv R k p
  .exact .inr c
  .exact .inl ((Er p).mpr ⟨hp,λk hk=>c ⟨k,hk⟩⟩)
 refine⟨V0,λp hp ho=>?_,λp hp ho=>?_,λp hp hr t=>?_⟩
 .rcases split p hp with h | ⟨k,h⟩
  .obtain⟨q,a,b,c⟩:=wo.own p h ho;exact⟨q,by rw[e2 p h];exact a,b,((Er q).mp c).1⟩
  .cases k with
   |zero=>exact e0 p h ho
   |succ k =>
    obtain⟨v,a,b,c⟩:=e3 p k h ho;exact⟨v,a,b,inl c⟩
 .refine⟨?_,λq hq RO=>tQ p hp ho q hq RO⟩;rcases split p hp with h | ⟨k,h⟩
  .rw[e2 p h];exact(wo.oth p h ho).1
  .cases k with
   |zero=>exact Vd p h ho
   |succ k=>exact e4 p k h ho
 .-- no place of JK ring has JK Vl rank
  have gz:rk G p<top:=by
   have:=KN p hp;rcases Nm this with h | h
   .exact h
   .rw[h] at hr;exact absurd Es hr
  have UC:∀ x,rk G x<=rk G p->¬ lv R 0 x:=λx hx z=>by
   have:=((KQ x).mp z).2
   (clear V0 tQ KN Es KQ Er e0 Vd e2 e3 e4 inl split hr;omega)
  have rS:∀ x y k,lv R (k+1) x->y∈left->ed G wf' hand x y->∃ i,i<=k/\lv R i y:=λx y k hx hy e =>
   Ca hL (λp k h1 h2=>by obtain⟨v,a,_,c⟩:=e3 p k h1 h2;exact⟨v,a,c⟩) hx hy e
  rcases split p hp with h | ⟨k,h⟩
  .obtain⟨_,t2⟩:=t.bwd (Q:=λx=>x∈oth) (s:=λx y=>(x∈oth/\y∈oth/\ed G wf0 hand x y)/\rk G x<=rk G p/\rk G y<=rk G p) (λx y z hy=>by
    obtain⟨⟨a,b,c⟩,d1,d2⟩:=z;rcases split x a with hx | ⟨k,hx⟩
    .exact⟨hx,⟨hx,hy,(rh (e2 x hx)).mp c⟩,d1,d2⟩
    .cases k with
     |zero=>exact(UC x d1 hx).elim
     |succ k =>
      obtain⟨i,_,h2⟩:=rS x y k hx b c;exact (((Er y).mp hy).2 i h2).elim) h
   exact wo.nb p h hr t2
  .cases k with
   |zero=>exact UC p (JT _) h
   |succ k =>
    have near:∀ x y,((x∈left/\y∈left/\ed G wf' hand x y)/\rk G x<=rk G p/\rk G y<=rk G p)->(∃ i,i<=k+1/\lv R i x)->∃ i,i<=k/\lv R i y:=λx y z hx=>by
     obtain⟨⟨a,b,c⟩,d1,d2⟩:=z;obtain⟨i,hi,hx⟩:=hx;cases i with
     |zero=>exact(UC x d1 hx).elim
     |succ i =>
      obtain⟨i',h1,h2⟩:=rS x y i hx b c;exact⟨i',by (clear V0 tQ KN Es KQ Er e0 Vd e2 e3 e4 inl split hr gz UC rS d1 d2;omega),h2⟩
    have far:∃ i,i<=k/\lv R i p:=by
     cases t with
     |one z=>exact near p p z ⟨k+1,ay _,h⟩
     |cons z t =>
      have h1:=near _ _ z ⟨k+1,ay _,h⟩;exact (t.fwd (Q:=λx=>∃ i,i<=k/\lv R i x) (s:=λ_ _=>True) (λx y z hx=>by
       obtain⟨i,hi,hx⟩:=hx;exact⟨near x y z ⟨i,by (clear V0 tQ KN Es KQ Er e0 Vd e2 e3 e4 inl split hr gz UC rS near z;omega),hx⟩,trivial⟩) h1).1
    obtain⟨i,hi,hx⟩:=far;have:=mT hL.nd hx h
    (clear V0 tQ KN Es KQ Er e0 Vd e2 e3 e4 inl split hr gz UC rS near;omega)
end
theorem LU{n:Nat}{f:Nat->Int}(h:∀ k,0<=f k/\f k<n):∃ i j,i<j/\f i=f j:=by
 refine bX λhn=>?_;have jZ:∀ i j,i<j->f i≠f j:=λi j xY e=>hn ⟨i,j,xY,e⟩;have nd:((bn (n+1)).map f).Nodup:=by
  rw[cM,kF];exact fG.imp λh=>jZ _ _ h
 have:=g7 _ (og n) nd λx hx=>by
  obtain⟨k,_,rfl⟩:=bE.mp hx;exact gk.mpr (h k)
 unfold og at this;simp at this;omega
theorem Gp(g:Nat->Int)(i:Nat):∀ d,∃ k,i<=k/\k<=i+d/\∀ c,i<=c->c<=i+d->g c<=g k
 |0=>⟨i,ay _,ay _,λc h1 h2=>by have:c=i:=(by omega);subst this;exact JT _⟩
 |d + 1=>by
  obtain⟨k,h1,h2,h3⟩:=Gp g i d
  by_cases c:g k<=g (i+(d+1))
  .refine⟨i+(d+1),by (clear h1 h2 h3 c;omega),ay _,λe h4 h5=>?_⟩
   by_cases c2:e=i+(d+1)
   .rw[c2];exact JT _
   .exact Int.le_trans (h3 e h4 (by (clear h1 h2 h3 c h4;omega))) c
  .refine⟨k,h1,by omega,λe h4 h5=>?_⟩
   by_cases c2:e=i+(d+1)
   .rw[c2];(clear h4 h5 c2 h1 h2 h3;omega)
   .exact h3 e h4 (by (clear h1 h2 h3 c h4;omega))
theorem Al{r:Int->Int->Prop}{f:Nat->Int}(a:Nat):∀ d,(∀ c,a<=c->c<=a+d->r (f c) (f (c+1)))->TG r (f a) (f (a+d+1))
 |0,h=>.one (h a (ay _) (ay _))
 |d+1,h=>(Al a d λc h1 h2=>h c h1 (by omega)).trans (.one (h (a+d+1) (by omega) (by omega)))
section
variable {G:List Row}{P D0 D1:Int->Prop}{wf wf':Int->Option Int}
theorem Dc(hr:∀ p,P p->0<=p/\p<G.length)(mh:Ri G)(W0:uA G P wf 0 D0)(W1:uA G P wf' 1 D1)(p:Int)(h0:D0 p)(h1:D1 p):False:=by
 have next:∀ x,D0 x/\D1 x->∃ y,(D0 y/\D1 y)/\ed G wf 0 x y/\ed G wf' 1 x y:=λx hx=>by
  rcases RT mh (hr x (W0.sub x hx.1)) with e | e
  .obtain⟨q,a,b,c⟩:=W0.own x hx.1 e;have hn:¬ hd G x=1:=by omega
   exact⟨q,⟨c,(W1.oth x hx.2 hn).2 q b (W0.sub q c)⟩,(oN e).mpr a,(n6 hn).mpr b⟩
  .obtain⟨q,a,b,c⟩:=W1.own x hx.2 e;have hn:¬ hd G x=0:=by omega
   exact⟨q,⟨(W0.oth x hx.1 hn).2 q b (W1.sub q c),c⟩,(n6 hn).mpr b,(oN e).mpr a⟩
 let nx:{x:Int // D0 x/\D1 x}->{x:Int // D0 x/\D1 x}:=λx=>⟨Classical.choose (next x.1 x.2),(AL (next x.1 x.2)).1⟩
 let sq:Nat->{x:Int // D0 x/\D1 x}:=λk=>Nat.rec ⟨p,h0,h1⟩ (λ_ x=>nx x) k
 have um:∀ k,ed G wf 0 (sq k).1 (sq (k+1)).1/\ed G wf' 1 (sq k).1 (sq (k+1)).1:=λk=>(AL (next (sq k).1 (sq k).2)).2;have dd:∀ k,D0 (sq k).1/\D1 (sq k).1:=λk=>(sq k).2;generalize hf:(λk=>(sq k).1)=f;have fk:∀ k,f k=(sq k).1:=λk=>by rw[← hf]
 have l6:∀ k,ed G wf 0 (f k) (f (k+1))/\ed G wf' 1 (f k) (f (k+1)):=λk=>by rw[fk,fk];exact um k
 have sf:∀ k,D0 (f k)/\D1 (f k):=λk=>by rw[fk];exact dd k
 obtain⟨i,j,xY,e⟩:=LU (n:=G.length) (f:=f) λk=>hr _ (W0.sub _ (sf k).1);obtain⟨k,k1,k2,k3⟩:=Gp (λc=>rk G (f c)) i (j-1-i);have ring:∀(r:Int->Int->Prop),(∀ c,i<=c->c<j->r (f c) (f (c+1)))->TG r (f k) (f k):=λr Sm=>by
  have t1:TG r (f k) (f j):=by
   have:=Al (r:=r) (f:=f) k (j-1-k) λc h1 h2=>Sm c (by (clear hr um dd fk l6 sf xY k2 k3 h2 e Sm;omega)) (by (clear hr um dd fk l6 e k1 Sm h1 sf k3;omega));have e2:k+(j-1-k)+1=j:=by (clear hr um dd fk l6 sf k3 Sm e k1;omega)
   rwa [e2] at this
  by_cases c:k=i
  .subst c;rw[← e] at t1;exact t1
  .have:=Al (r:=r) (f:=f) i (k-1-i) λc h1 h2=>Sm c (by omega) (by (clear hr um dd fk l6 sf xY Sm h1 e k3;omega));have e2:i+(k-1-i)+1=k:=by (clear hr um dd fk l6 sf xY e k3 Sm k2;omega)
   rw[e2,e] at this;exact t1.trans this
 have le:∀ c,i<=c->c<=j->rk G (f c)<=rk G (f k):=λc h1 h2=>by
  by_cases c2:c=j
  .rw[c2,← e];exact k3 i (ay _) (by (clear hr um dd fk l6 sf xY e k1 k2 k3 ring h1 h2 c2;omega))
  .exact k3 c h1 (by omega)
 by_cases par:rk G (f k) % 2=0
 .refine W1.nb (f k) (sf k).2 (by (clear hr um dd fk l6 sf xY e k1 k2 k3 ring le;omega)) (ring _ λc h1 h2=>?_);exact⟨⟨(sf c).2,(sf (c+1)).2,(l6 c).2⟩,le c h1 (by (clear hr um dd fk l6 sf xY e k1 k2 k3 ring le par h1;omega)),le (c+1) (by (clear hr um dd fk l6 sf xY e k1 k2 k3 ring le h2 par;omega)) (by (clear hr um dd fk l6 sf xY e k1 k2 k3 ring le par h1;omega))⟩
 .refine W0.nb (f k) (sf k).1 par (ring _ λc h1 h2=>?_);exact⟨⟨(sf c).1,(sf (c+1)).1,(l6 c).1⟩,le c h1 (by (clear hr um dd fk l6 sf xY e k1 k2 k3 ring le par h1;omega)),le (c+1) (by (clear hr um dd fk l6 sf xY e k1 k2 k3 ring le h2 par;omega)) (by (clear hr um dd fk l6 sf xY e k1 k2 k3 ring le par h1;omega))⟩
theorem Aq{hf JC:Int->Int}(hr:∀ p,P p->0<=p/\p<G.length)(mh:Ri G)(s:FG G P hf wf)(s':FG G P JC wf')(p:Int)(hp:P p):hf p=JC p:=by
 rcases s.mh p hp with a | a <;> rcases s'.mh p hp with b | b
 .rw[a,b]
 .exact(Dc hr mh (s.QZ 0 (.inl Z)) (s'.QZ 1 (.inr Z)) p ⟨hp,a⟩ ⟨hp,b⟩).elim
 .exact(Dc hr mh (s'.QZ 0 (.inl Z)) (s.QZ 1 (.inr Z)) p ⟨hp,b⟩ ⟨hp,a⟩).elim
 .rw[a,b]
end
def je(G:List Row)(p:Int):Prop:=0<=p/\p<G.length
theorem LO{G:List Row}{wf:Int->Option Int}{h:Int}{D:Int->Prop}(hn:Rl G wf h D){r:List Int}(jZ:r≠[])(hw:∀ (i:Nat) x y,r[i]?=O x->r[(i+1) % r.length]?=O y->D x/\D y/\ed G wf h x y){m:Int}(hm:m∈r)(B2:∀ x∈r,rk G x<=rk G m):rk G m % 2=h:=by
 refine bX λhb=>?_;have hl:0<r.length:=dI.mpr jZ
 let f:Nat->Int:=λc=>(r[c % r.length]?).getD 0
 have hf:∀ c,r[c % r.length]?=O (f c):=λc=>by
  have:c % r.length<r.length:=No _ hl;show r[c % r.length]?=O ((r[c % r.length]?).getD 0);rw[bi this];rfl
 have hs:∀ c,D (f c)/\D (f (c+1))/\ed G wf h (f c) (f (c+1)):=λc=>by
  refine hw (c % r.length) _ _ (hf c) ?_;rw[Nat.mod_add_mod];exact hf (c+1)
 have En:∀ c,f c∈r:=λc=>ag (hf c);obtain⟨k,hk⟩:=cP hm;have hkl:=(aj.mp hk).1;have e1:f k=m:=by
  have:=hf k;rw[wO hkl,hk] at this;exact(bQ this).symm
 have e2:f (k+r.length)=m:=by
  have:=hf (k+r.length);rw[Nat.add_mod_right,wO hkl,hk] at this;exact(bQ this).symm
 have t:=Al (r:=λx y=>(D x/\D y/\ed G wf h x y)/\rk G x<=rk G m/\rk G y<=rk G m) (f:=f) k (r.length-1) λc _ _=>⟨hs c,B2 _ (En c),B2 _ (En (c+1))⟩
 have e3:k+(r.length-1)+1=k+r.length:=by omega
 rw[e3,e1,e2] at t;exact hn m (by rw[← e1];exact(hs k).1) hb t
end Law
namespace L2
open PySem PySem.W PySem.Spec PyProof.Rows
end L2
namespace L2
open PySem PySem.Spec PyProof.Rows
end L2
namespace L2
open PySem
section
variable {P:List ae->Prop}
theorem J6{n:Nat}(h:∀ a (us:List ae),us.length=n->P (a::us))(us:List ae)(e:us.length=n+1):P us:=by
 cases us with
 |nil=>exact absurd e (Nat.succ_ne_zero n).symm
 |cons a us=>exact h a us (Nat.succ.inj e)
theorem aaA(h:P [])(us:List ae)(e:us.length=0):P us:=by
 rw[j4.mp e];exact h
theorem lr(h:∀ a,P [a]):∀ us:List ae,us.length=1->P us:=J6 λa=>aaA (h a)
theorem j7(h:∀ a b,P [a,b]):∀ us:List ae,us.length=2->P us:=J6 λa=>lr (P:=λus=>P (a::us)) (h a)
theorem BE(h:∀ a b c,P [a,b,c]):∀ us:List ae,us.length=3->P us:=J6 λa=>j7 (P:=λus=>P (a::us)) (h a)
theorem J5(h:∀ a b c d,P [a,b,c,d]):∀ us:List ae,us.length=4->P us:=J6 λa=>BE (P:=λus=>P (a::us)) (h a)
theorem aaB(h:∀ a b c d e,P [a,b,c,d,e]):∀ us:List ae,us.length=5->P us:=J6 λa=>J5 (P:=λus=>P (a::us)) (h a)
end
end L2
namespace L2
open PySem PySem.Spec PyProof.Rows
theorem C8:∀{bs:List Bool}{us:List ae},Vals (bs.map V.bl) us->us=bs.map lf
 |[],_,.nil=>rfl
 |b::r,_,.cons h q=>by cases h;rw[C8 q];rfl
end L2
namespace L2
open PySem
section
variable {X:Cx}{pins:List (ai × fY)}{J:St}{H:Hp}{s:aq}{a:ai}{bM:List (Key × V)}{k:Key}{u:ae}{A:cK}{E:ae->aq->Prop}
theorem RE{z:V}{r:ae}{Q:ae->aq->Prop}(I:Inv X pins J H s)(e:H a=O (.dK bM))(hz0:bM.length<az)(ry:RelV (kV k) u)(rz:RelV z r)
  (h1:∀ v w' s',eO bM k=O v->Inv X pins J H s'->RelV v w'->Q w' s') (h2:∀ s',eO bM k=Y->Inv X pins J (upd H a (.dK (a0f bM k z))) s'->Q r s') :
  wpAny (br X.prog X.w) A (BK (.builtin "dict.setdefault") [.ref a,u,r]) Q E s:=by
 obtain⟨z0,hd,vs,rel,dd⟩:=Qc I.c8 e;refine NF ve dd.typeIs PySem.F.entry_dict_setdefault (PySem.F.args_dict_setdefault_3 _ _ _) (PySem.kt_meets_setdefault (cT X.prog X.w) a (rB ry) hd r) ⟨vs,dd,by rw[← rel.length];exact z0,λw' hw=>?_,λhn h' sf hs=>?_⟩
 .cases l:eO bM k with
  |none =>
   have:=ml.none_of (o:=oi vs k) (by rw[← l];exact rel.val k);rw[this] at hw;cases hw
  |some v =>
   obtain⟨w2,nS,xh⟩:=ml.some_of (v:=v) (o:=oi vs k) (by rw[← l];exact rel.val k);rw[hw] at nS;cases nS;exact h1 v w' _ l (I.tok _) xh
 .have l:eO bM k=Y:=by
   cases l:eO bM k with
   |none=>rfl
   |some v =>
    obtain⟨w2,nS,_⟩:=ml.some_of (v:=v) (o:=oi vs k) (by rw[← l];exact rel.val k);rw[hn] at nS;cases nS
  have hl:(a0f bM k z).length<=az:=by have:=jm bM k z;omega
  have he:∃ q,h'.get? a=O q:=let ⟨q,_,_,hq,_⟩:=sf;⟨q,hq⟩;exact h2 _ l (zk I (by rw[e];exact gy) hs he (Ea hl hd (rel.put k rz) sf))
end
def TQ(td ty tx:TE):TE:=λ J H Q=>td J H λx H1=>∃ a,x=.ref a/\Z8 H1 a/\ty J H1 λy H2=>tx J H2 λz H3=>∃ bM k,H3 a=O (.dK bM)/\y=kV k/\bM.length<az /\
 (∀ v,eO bM k=O v->Q v H3)/\(eO bM k=Y->Q z (upd H3 a (.dK (a0f bM k z))))
section
variable {X:Cx}{o e f:cF}{apos lj:jd}{td ty tx:TE}
theorem Lx(ho:PE X o td)(he:PE X e ty)(hf:PE X f tx)(m:M2 X o "setdefault" apos e f lj):PE X (.Call (.Attribute o "setdefault" apos) [e,f] [] lj) (TQ td ty tx):=by
 intro pins s J H Q I h;refine ZT m.base m.HL m.line AT ve PySem.F.type_dict_setdefault (eC (ho pins s J H _ I h) λu s1 cX=>?_);obtain⟨x,H1,I1,rx,a,ex,d,q1⟩:=cX;subst ex;obtain rfl:u=b8 a:=rx;obtain⟨t1,t2,_⟩:=KR I1 d;refine⟨t1,t2,?_⟩;rw[m.trees];refine ke Z (qp (jz (eC (he pins s1 J H1 _ I1 q1) λiv s2 uI=>?_)));obtain⟨y,H2,I2,ry,q2⟩:=uI;refine jz (eC (hf pins s2 J H2 _ I2 q2) λfv s3 Dz=>nM ?_);obtain⟨z,H3,I3,rz,bM,k,ea,ey,hl,q3,q4⟩:=Dz;subst ey;exact RE I3 ea hl ry rz (λv w' s4 l I4 xh=>⟨v,_,I4,xh,q3 v l⟩) λs4 l I4=>⟨z,_,I4,rz,q4 l⟩
end
end L2
namespace L2
open PySem PySem.Spec PyProof.Rows
theorem pF{X:Cx}{x z:aE}{pos:jd}(hm:∃ t,X.mg x=O (.str z t))(hg:Gl X x:=by rfl)(hd:(x == ("__debug__" : aE))=false:=by decide):PE X (.Name x pos) (tC (.str z)):=by
 obtain⟨t,hm⟩:=hm;exact pE hg hm ⟨t,Z⟩ hd
theorem tI:∀(ps:List aE)(k:Nat),Vals (ps.map V.str) (strsFrom k ps)
 |[],_=>.nil
 |p::r,k=>.cons ⟨k,Z⟩ (tI r (k+1))
def Ts:V->List V->Hp->VK->Prop:=λx vs H Q=>∃ z y,x=.str z/\vs=[.str y]/\(y.length == 0)=false/\z.length+2<=az/\∀ p,H p=Y->Q (.ref p) (upd H p (.lst ((bK z y).map V.str)))
section
variable {X:Cx}
theorem rE:MR X "str.split" Ts:=by
 intro pins s J H x vs v us Q I rx rv h;obtain⟨z,y,rfl,rfl,hy,hz,q⟩:=h;obtain⟨t,rfl⟩:=rx;obtain⟨u,rfl,t',rfl⟩:=rv.one;have hf:=(fact_split z y).2;have lay:∀(ci:List ae)(tk:Nat),Vals ((bK z y).map V.str) ci->EP X pins J Q (.ref s.heap.objs.size) { heap:=s.heap.push { cls:=.type "list",data:=.seq ci.toArray },gens:=s.gens,drawn:=s.drawn,toks:=tk,os:=s.os }:=λci tk r=>by
  refine⟨.ref s.heap.objs.size,_,I.laid (t':=tk) (o:=.lst ((bK z y).map V.str)) (λb ob q=>ar _ q) (ay _) ?_,Z,q _ (I.c8.fresh (ay _))⟩;exact⟨by rw[ab];omega,ci,0,r,aO _ Z⟩
 cases c1:(decide (z.length<y.length) || decide (cS z<cS y)) with
 |true =>
  have e:bK z y=[z]:=by unfold bK;rw[if_pos c1]
  exact eG jt (ju s z t) iR (u7 _ _) (meets_str_split_cannot_occur z y t t' c1) (lay [.str z t] _ (by rw[e];exact .cons ⟨t,Z⟩ .nil))
 |false =>
  cases c2:(bW z y 0 z.length (z.length+1)).isEmpty with
  |true =>
   have e:bK z y=[z]:=by unfold bK;rw[if_neg (by rw[c1];decide),if_pos c2]
   exact eG jt (ju s z t) iR (u7 _ _) (meets_str_split_not_found z y t t' c1 hy c2) (lay [.str z t] _ (by rw[e];exact .cons ⟨t,Z⟩ .nil))
  |false =>
   have e:bK z y=uZ z (bW z y 0 z.length (z.length+1)) y.length:=by unfold bK;rw[if_neg (by rw[c1];decide),if_neg (by rw[c2];decide)]
   exact eG jt (ju s z t) iR (u7 _ _) (meets_str_split_sep z y t t' c1 hy c2 (by omega) (by rw[← e];omega)) (lay _ _ (by rw[e];exact tI _ _))
def Xz:V->List V->Hp->VK->Prop:=λx vs H Q=>∃ z y,x=.str z/\vs=[.str y]/\(y.length == 0)=false/\z.length<=az/\∀ p,H p=Y->Q (.ref p) (upd H p (.tup [.str (eX z y).1,.str (eX z y).2.1,.str (eX z y).2.2]))
theorem zG:MR X "str.partition" Xz:=by
 intro pins s J H x vs v us Q I rx rv h;obtain⟨z,y,rfl,rfl,hy,hz,q⟩:=h;obtain⟨t,rfl⟩:=rx;obtain⟨u,rfl,t',rfl⟩:=rv.one;have lay:∀(ci:List ae)(tk:Nat),Vals [.str (eX z y).1,.str (eX z y).2.1,.str (eX z y).2.2] ci->EP X pins J Q (.ref s.heap.objs.size) { heap:=s.heap.push { cls:=.type "tuple",data:=.seq ci.toArray },gens:=s.gens,drawn:=s.drawn,toks:=tk,os:=s.os }:=λci tk r=>by
  refine⟨.ref s.heap.objs.size,_,I.laid (t':=tk) (o:=.tup _) (λb ob q=>ar _ q) (ay _) ?_,Z,q _ (I.c8.fresh (ay _))⟩;exact⟨by show 3<=az;decide,ci,r,IsTup.new _ _⟩
 refine eG F.slot_str_partition (ju s z t) F.entry_str_partition (F.args_str_partition_2 _ _) (meets_str_partition z y t t' hy hz) ?_;cases c:bW z y 0 z.length 1 with
 |nil=>exact lay [.str z t,.str FH s.toks,.str FH s.toks] _ (by unfold eX;rw[c];exact .cons ⟨_,Z⟩ (.cons ⟨_,Z⟩ (.cons ⟨_,Z⟩ .nil)))
 |cons i r=>exact lay [.str (fu z 0 i) s.toks,.str y t',.str (fu z (i+y.length) z.length) (s.toks+1)] _ (by unfold eX;rw[c];exact .cons ⟨_,Z⟩ (.cons ⟨_,Z⟩ (.cons ⟨_,Z⟩ .nil)))
theorem CW:∀{ys:List aE}{us:List ae},Vals (ys.map V.str) us->StrsAre us ys
 |[],_,r=>by cases r;exact .nil
 |y :: ys,_,r=>by
  cases r with
  |cons h r =>
   obtain⟨t,e⟩:=h;subst e;exact .cons y t (CW r)
def a0Q(K:af):V->List V->Hp->VK->Prop:=λx vs H Q=>∃(z:aE)(a:ai)(ys:List aE),x=.str z/\vs=[.ref a]/\bI K H a (ys.map V.str)/\z.length<=64/\(ys.map λx=>x.length).sum+ys.length*64<=16777216/\Q (.str (fB z ys)) H
theorem F9:MR X "str.join" (a0Q X.K):=by
 intro pins s J H x vs v us Q I rx rv h;obtain⟨z,a,ys,rfl,rfl,hq,HQ,hs,q⟩:=h;obtain⟨t,rfl⟩:=rx;obtain⟨u,rfl,ru⟩:=rv.one;cases ru;obtain⟨ci,r,pl,hz⟩:=I.list hq;exact PyProof.Rows.join_listC pl.isList (by simpa using CW r) HQ hs λt' k=>⟨.str _,H,I.kept (t':=k) λb o e=>e,⟨t',Z⟩,q⟩
end
theorem a0H(bs:List Bool):(bn bs.length).all (λi=>bs.getD i false)=bs.all id:=by
 rw[em,bL,bL];constructor
 .intro h b hb;obtain⟨i,hi⟩:=cP hb;have hl:=(aj.mp hi).1;have:=h i (cm.mpr hl);rw[fO,hi] at this;exact this
 .intro h i hi;have hl:=cm.mp hi;rw[fO,bi hl];exact h _ (oA hl)
section
variable {X:Cx}
theorem sR(hc:X.calm=true):jy X (.builtin "all") (λxs H Q=>∃(a:ai)(bs:List Bool),xs=[.ref a]/\bI X.K H a (bs.map V.bl)/\Q (.bl (bs.all id)) H):=by
 intro pins s J H xs us Q I r h;obtain⟨a,bs,rfl,ha,q⟩:=h;obtain⟨u,rfl,ru⟩:=a0j r;cases ru;obtain⟨ci,rv,pl,hz⟩:=I.list ha;have ei:=C8 rv;subst ei;have M3:a<s.heap.objs.size:=by
  obtain⟨o,h1,_⟩:=pl.isList;exact aH h1
 refine call_all_walk (pQ pl.isList ⟨s.heap.objs.size,_,_,_,_,_,λi=>bs.getD i false,Z,aax (A:=X.A.in1) (I.ok.hd hc) s.heap.objs.size a (aP M3) (bs.map lf).toArray,⟨⟨_,aO _ Z,Z,Z⟩,?_⟩,λi v s' Q' E' hv hq=>?_,λh' tk k=>?_⟩)
 .obtain⟨o,h1,h2⟩:=pl.isList;exact⟨o,ar _ h1,h2⟩
 .have AW:(bs.map lf)[i]?=O v:=by simpa using hv
  rw[au] at AW;cases e:bs[i]? with
  |none=>rw[e] at AW;cases AW
  |some b =>
   rw[e] at AW;cases AW;refine eI ?_;have:bs.getD i false=b:=by rw[fO,e];rfl
   have QB:Q' (bs.getD i false) s':=hq;rw[this] at QB;exact QB
 .have e:(bn (bs.map lf).toArray.size).all (λi=>bs.getD i false)=bs.all id:=by
   rw[← a0H bs];simp
  rw[e];refine⟨.bl (bs.all id),H,I.kept (t':=tk) λb o hb=>?_,Z,q⟩;exact k b o (by rw[bj];exact aP (aH hb)) (ar _ hb)
end
def US(z:aE):It where
 go:=λi _=>i<z.cps.size
 Df:=λi H x H'=>H'=H/\∃ c,z.cps[i]?=O c/\x=.str ⟨#[c]⟩
 stop:=λi _=>i=z.cps.size
theorem C9{P:aS}{w:bv}{A:cK}(h:A.handled=Y)(it:ai)(z:aE)(t:YL):Walks P w A it [it] [it] z.cps.size (SignAt z) (λi h=>h.IsStrIter it (k6 z) z t i):=by
 unfold k6;split
 .exact Walks.strAscii h it z t
 .exact Walks.strWide h it z t
theorem Mw{P:aS}{w:bv}{K:af}{tg:cF}(z:aE)(t:YL)(it:ai):Turn P w K tg (US z) [it] it (λi h=>h.IsStrIter it (k6 z) z t i) where
 mem:=by simp
 obj:=λi h st b hb=>by
  have e:b=it:=by simpa using hb
  subst e;obtain⟨o,e,c,d⟩:=st;exact⟨o,e,λv z=>by rw[d] at z;cases z⟩
 keep:=λi h h' st k=>by
  obtain⟨o,e,c,d⟩:=st;exact⟨o,k it (by simp) o e,c,d⟩
 item:=by
  intro X hP hw hK hc i pins s J H E I hf st hg;subst hP hw hK;obtain⟨f0,f1,f2,f3,f4,f5⟩:=hf it (by simp);refine(C9 (P:=X.prog) (w:=X.w) (I.ok.hd hc) it z t).item i s _ _ hg st λv h' tk hv Ji kk=>?_;obtain⟨c,u,HW,rfl⟩:=hv;have I1:Inv X pins J H { s with heap:=h',toks:=tk }:=I.turned (λb o hb e=>kk b o (by simpa using hb) e) f0 f1 f3 f4 f5;obtain⟨o,e,cc,d⟩:=id Ji;refine⟨_,Z,FQ (s:={ s with heap:=h',toks:=tk }) e cc d (by unfold k6;split <;> decide) ⟨.str ⟨#[c]⟩,H,I1,⟨u,Z⟩,⟨Z,c,HW,Z⟩,Ji,λb hb=>(hf b hb).1⟩⟩
 done:=by
  intro X hP hw hK hc i pins s J H E I hf st hg;subst hP hw hK;obtain⟨f0,f1,f2,f3,f4,f5⟩:=hf it (by simp);have e:i=z.cps.size:=hg;subst e;exact(C9 (P:=X.prog) (w:=X.w) (I.ok.hd hc) it z t).done s _ _ st λh' tk kk=>⟨Z,I.turned (λb o hb e=>kk b o (by simpa using hb) e) f0 f1 f3 f4 f5⟩
 self:=λA i s Q E st h=>by
  unfold k6 at st;split at st
  .exact wpAny_pyIter_striter_ascii st h
  .exact wpAny_pyIter_striter_wide st h
def acr(tl:TE):TI:=λ J H R=>tl J H λx H1=>∃ z,x=.str z/\R (US z) H1
theorem Tl{X:Cx}{tg l:cF}{tl:TE}(hl:PE X l tl):PI X tg l (acr tl):=by
 intro pins s J H R I h;refine eC (hl pins s J H _ I h) λv s1 cX=>?_;obtain⟨x,H1,I1,r1,q1⟩:=cX;obtain⟨z,e,q⟩:=q1;subst e;obtain⟨t,rfl⟩:=r1;refine wpAny_pyIter_strU ?_;refine⟨s1.heap.objs.size,[s1.heap.objs.size],_,_,H1,Z,I1.kept (t':=s1.toks) λb o e=>ar _ e,Mw z t _,⟨_,aO _ Z,Z,Z⟩,λb hb=>?_,q⟩;have e:b=s1.heap.objs.size:=by simpa using hb
 subst e;exact I1.wU (ay _) (I1.c8.fresh (ay _))
theorem Hw{z:aE}{tt:G5}{tc:TT}{te:TE}{cap:List Nat}{J:St}{H:Hp}{D:ai->List V->Hp->Prop}(Pv:Nat->List V->Hp->Prop)(h0:Pv 0 [] H)(hz:z.cps.size<=az)(hl:∀ i ys H,i<=z.cps.size->Pv i ys H->ys.length<=i)
  (hs:∀ i c ys H,z.cps[i]?=O c->Pv i ys H->tt (.str ⟨#[c]⟩) H λws=>tc (ws.map O++gD J cap) H λb H4=>if b=true then te (ws.map O++gD J cap) H4 λy H5=>Pv (i+1) (ys++[y]) H5 else Pv (i+1) ys H4)
  (hd:∀ ys H,Pv z.cps.size ys H->∀ p,H p=Y->D p ys H) :
  ∃ W:Nat->Nat->List V->Hp->Prop,(∃ m,W 0 m [] H)/\∀ i m ys H2,W i m ys H2 ->
  ((US z).stop i H2/\ys.length<=az/\∀ p,H2 p=Y->D p ys H2) \/
  ((US z).go i H2/\∃ N:List V->Hp->Prop,(∀ l9 H',N l9 H'->l9.length<=az/\∃ m',m'<m/\W (i+1) m' l9 H') /\
   ∀ x H3,(US z).Df i H2 x H3->tt x H3 λws=>tc (ws.map O++gD J cap) H3 λb H4=>if b=true then te (ws.map O++gD J cap) H4 λy H5=>N (ys++[y]) H5 else N ys H4):=by
 refine⟨λi m ys H=>m=z.cps.size-i/\i<=z.cps.size/\Pv i ys H,⟨z.cps.size,by simp,bq _,h0⟩,?_⟩;rintro i m ys H2 ⟨rfl,hi,p⟩;have q:=hl i ys H2 hi p
 by_cases gz:i<z.cps.size
 .refine .inr ⟨gz,Pv (i+1),λl9 H' p'=>⟨bF (hl (i+1) l9 H' gz p') (bF gz hz),z.cps.size-(i+1),by omega,Z,gz,p'⟩,λx H' y=>?_⟩;obtain⟨rfl,c,hc,rfl⟩:=y;exact hs i c ys _ hc p
 .have e:i=z.cps.size:=by omega
  subst e;exact .inl ⟨Z,bF q hz,λp' hp'=>hd ys H2 p p' hp'⟩
def xD(P:aS)(w:bv)(K:af)(a:ai)(bM:List (Key × V)):Prop :=
 (a == d4)=false/\∃ vs,KV bM vs/\∀ h:cR,K.In h->h.DictOf (cT P w) a vs
def Mo(P:aS)(w:bv)(K:af)(td ty:TE):TE:=λ J H Q=>td J H λx H1=>ty J H1 λy H2=>∃ a bM k v,x=.ref a/\xD P w K a bM/\y=kV k/\eO bM k=O v/\Q v H2
def QU(P:aS)(w:bv)(K:af)(neg:Bool)(ty td:TE):TE:=λ J H Q=>ty J H λy H1=>td J H1 λx H2=>∃ a bM k,x=.ref a/\xD P w K a bM/\y=kV k/\Q (.bl (if neg then !(eO bM k).isSome else (eO bM k).isSome)) H2
section
variable {X:Cx}{o i:cF}{pos:jd}{td ty:TE}
theorem Cv(ho:PE X o td)(hi:PE X i ty)(hs:Np i):PE X (.Subscript o i pos) (Mo X.prog X.w X.K td ty):=by
 intro pins s J H Q I h;refine GH xI.lookup hs (eC (ho pins s J H _ I h) λu s1 cX=>?_);obtain⟨x,H1,I1,rx,q1⟩:=cX;refine eC (hi pins s1 J H1 _ I1 q1) λiv s2 uI=>?_;obtain⟨y,H2,I2,ry,a,bM,k,v,ex,⟨hd,vs,rel,dd⟩,ey,hv,q2⟩:=uI;subst ex;subst ey;obtain rfl:u=b8 a:=rx;have d:=dd _ I2.qm;obtain⟨w',hw,xh⟩:=ml.some_of (v:=v) (o:=oi vs k) (by rw[← hv];exact rel.val k);exact⟨d.typeIs,adj (rB ry) d.mapOf hw ⟨v,H2,I2.tok _,xh,q2⟩⟩
theorem OW(hi:PE X i ty)(ho:PE X o td):PC X .In i o (QU X.prog X.w X.K false ty td):=by
 intro pins s J H Q I h;refine eC (hi pins s J H _ I h) λiv s1 cX=>?_;obtain⟨y,H1,I1,ry,q1⟩:=cX;refine eC (ho pins s1 J H1 _ I1 q1) λu s2 uI=>?_;obtain⟨x,H2,I2,rx,a,bM,k,ex,⟨hd,vs,rel,dd⟩,ey,q2⟩:=uI;subst ex;subst ey;obtain rfl:u=b8 a:=rx;have d:=dd _ I2.qm;refine wpAny_in_of (rB ry) hd d.mapOf ?_;rw[← (rel.val k).pz];exact⟨.bl (eO bM k).isSome,H2,I2.tok _,Z,q2⟩
end
theorem zB:Yo (.type "list") "keys" = pure Y:=am_miss_of_fast (by trivial)
theorem zH{prog:aS}{w:bv}{A:cK}{E:ae->aq->Prop}{s:aq}{a:ai}{o:fY}{xs:Array ae}{k:Nat}{Q:Option ae->aq->Prop}
  (hx:s.heap.get? a=O o) (hc:o.cls=.type "list") (HX:o.data=.seq xs k) (hd:o.dict=Y) (hA:A.handled=Y)
  (h:∀ h' tk,(∀ b ob,s.heap.get? b=O ob->h'.get? b=O ob)->Q Y { s with heap:=h',toks:=tk }) :
  wpAny (br prog w) A (getAttr? (.ref a) "keys") Q E s:=by
 obtain⟨c,dct,dat,sl⟩:=o;simp only at hc HX hd;subst hc HX hd;obtain⟨hp,g,d,tk,os⟩:=s;have hT:∀ ZQ,(⟨hp,g,d,ZQ,os⟩:aq).TypeIs (.ref a) "list" := λ_=>⟨_,hx,Z⟩
 have f1:=sub_AttributeError;have f3:=oG.lookup;have f4:=oG.bind (.ref a);have f5:=am_list_getattr_none;unfold getAttr? getAttrBy? getAttrBy
 repeat (any_goals (first | assumption | exact hT _ | ((with_reducible show wpAny _ _ (BK (r9 "list.__getattribute__") _ _) _ _ _);refine eG oG (hT _) am_entry_list_getattribute (F.args_list_getattribute_2 _ _) (meets_getattribute_miss_list a xs k sl "keys" _ zB (by trivial) (by size_fits)) ⟨hx,hA,λh' ZQ e Ir=>?_⟩) | wp_step))
 obtain⟨t',u',he⟩:=Ir.there;show wpAny _ _ (Vk _ _ _ _ _ _ _) _ _ _;unfold Vk
 repeat (any_goals (first | assumption | wp_step))
 exact h _ _ Ir.keeps
theorem jK:RF table "dict.update.loop" = O jx.«dict.update.loop»:=aaH (by kernel_rfl)
theorem e8:plainId "dict.update.loop" = true:=by trivial
def a0q:List (Key × V)->List (Key × V)->List (Key × V):=AN λc p=>a0f c p.1 p.2
def Nq(P:aS)(w:bv)(h:cR)(d it:ai)(items:List ae)(kys:List (Key × V)):Prop :=
 ∀(j:Nat)(ky:Key × V),kys[j]?=O ky->∃(t:ai)(ku vu:ae),items[j]?=O (.ref t)/\h.IsTuple t #[ku,vu]/\(cT P w).is ky.1 ku=true/\RelV ky.2 vu/\t≠d/\t≠it
theorem MB{P:aS}{w:bv}{A:cK}{d it l:ai}{items:List ae}{kys:List (Key × V)}(hh:A.handled=Y)(hlen:items.length=kys.length)(hz:kys.length<=az)(hdi:d≠it)(hld:l≠d)(hli:l≠it) :
  ∀(n i:Nat)(s:aq)(cur:List (Key × V))(vs:List (Key × ae))(tk:YL)(R:BC->aq->Prop),kys.length-i=n->i<=kys.length->s.heap.IsListIter it l i->s.heap.IsList l items.toArray->Nq P w s.heap d it items kys->KV cur vs->s.heap.DictOf (cT P w) d vs->cur.length<=i ->
   (∀ h' t' Yp,KV (a0q cur (kys.drop i)) Yp->h'.DictOf (cT P w) d Yp->(a0q cur (kys.drop i)).length<=kys.length->(∀ b o,b≠d->b≠it->s.heap.get? b=O o->h'.get? b=O o)->R (.ok (.ret .none)) { s with heap:=h',toks:=t' }) ->
   codeAny (br P w) A (.builtin "dict.update.loop" ⟨[.ref d,.ref it,.int (i:Int) tk,.none],[]⟩) R s:=by
 intro n
 induction n with
 |zero =>
  intro i s cur vs tk R hn hi hit hl hp Ih hd hc hR;have e:i=kys.length:=by omega
  subst e;refine gG jK ?_;rw[eU e8 _];show wpAny _ A.in1 (ms (.ref it) >>= _) _ _ s;refine ah (Q2 hh hit hl (by simp;omega) λh' eb=>?_);show wpAny _ A.in1 (Builtin.Dict.addKeywords d [] >>= _) _ _ _;refine ah (aF ?_);rw[List.drop_length] at hR;exact aF (hR h' s.toks vs Ih (hd.extBut eb hdi) hc λb o _ h2 h3=>eb b o h2 h3)
 |succ n ih =>
  intro i s cur vs tk R hn hi hit hl hp Ih hd hc hR;obtain⟨ky,hky⟩:∃ ky,kys[i]?=O ky:=⟨kys[i]'(by omega),by simp⟩
  obtain⟨t,ku,vu,h1,h2,h3,h4,h5,h6⟩:=hp i ky hky;refine gG jK ?_;rw[eU e8 _];show wpAny _ A.in1 (ms (.ref it) >>= _) _ _ s;refine ah (PQ hit hl (x:=.ref t) (by simpa using h1) λh' Ji sb=>?_);have Qg:h'.IsTuple t #[ku,vu]:=by
   obtain⟨o,e1,e2,n1,e3⟩:=h2;exact⟨o,(sb.2 t h6).trans e1,e2,n1,e3⟩
  obtain⟨o,e1,e2,n1,e3⟩:=id Qg;have Vz:h'.DictOf (cT P w) d vs:=by
   obtain⟨q,es,ep,hq,r⟩:=hd;exact⟨q,es,ep,(sb.2 d hdi).trans hq,r⟩
  show wpAny _ A.in1 (lD [b8 t] _ >>= _) _ _ _;refine ah (fW (ah (wpAny_tryCatch ?_)));unfold Builtin.Dict.pairItems;refine ah (AJ (T := "tuple") ⟨o,e1,e2⟩ ?_);rw[if_pos (by trivial)];refine ah (wpAny_seqItems (s:={ s with heap:=h' }) e1 e3 (aF ?_));show wpAny _ A.in1 (lD [ku,vu] (dictSet d ku vu)) _ _ _;refine fW (wpAny_dictSet_pairs (s:={ s with heap:=h' }) (hsz:=by rw[← Ih.length];omega) h3 Vz λh'' aa6 ZG=>?_);have eR:nH ((i:Int)+1)=.int ((i+1:Nat):Int) 0:=rfl;refine aF ⟨kn e8 _,?_⟩;rw[eR];have Ii:=jm cur ky.1 ky.2;have ed:kys.drop i=ky::kys.drop (i+1):=by
   obtain⟨gz,e⟩:=aj.mp hky;rw[cZ gz,e]
  refine ih (i+1) _ (a0f cur ky.1 ky.2) _ _ R (by omega) (by omega) ?_ ?_ (λj ky' hj=>?_) (Ih.put ky.1 h4) aa6 (by omega) λh3' t' Yp k1 k2 k3 k4=>?_
  .obtain⟨q,q1,q2,q3⟩:=Ji;exact⟨q,(ZG.2 it (cg hdi)).trans q1,q2,q3⟩
  .obtain⟨q,q1,q2,q3⟩:=hl;exact⟨q,(ZG.2 l hld).trans ((sb.2 l hli).trans q1),q2,q3⟩
  .obtain⟨t2,ku2,vu2,g1,⟨q,q1,q2,q3⟩,g3,g4,g5,g6⟩:=hp j ky' hj;exact⟨t2,ku2,vu2,g1,⟨q,(ZG.2 t2 g5).trans ((sb.2 t2 g6).trans q1),q2,q3⟩,g3,g4,g5,g6⟩
  .have ep:a0q (a0f cur ky.1 ky.2) (kys.drop (i+1))=a0q cur (kys.drop i):=by rw[ed];rfl
   rw[ep] at k1 k3;exact hR h3' t' Yp k1 k2 k3 λb o b1 b2 hb=>k4 b o b1 b2 ((ZG.2 b b1).trans ((sb.2 b b2).trans hb))
theorem t9{X:Cx}{K:af}(hK:X.K=K)(hc:X.calm=true):jy X (.type "dict") (λxs H Q=>∃(a:ai)(ts:List (ai × Key × V)),xs=[.ref a]/\bI K H a (ts.map λt=>V.ref t.1)/\(∀ t∈ts,gA K H t.1 [kV t.2.1,t.2.2])/\∀ p,H p=Y->Q (.ref p) (upd H p (.dK (a0q [] (ts.map λt=>t.2))))):=by
 intro pins s J H xs us Q I r h;subst hK;obtain⟨a,ts,rfl,ha,ht,q⟩:=h;obtain⟨u,rfl,ru⟩:=a0j r;cases ru;obtain⟨ci,rv,pl,hz⟩:=I.list ha;have hl:ci.length=(ts.map λt=>t.2).length:=by rw[ab,← rv.length,ab]
 have Zq:(ts.map λt=>t.2).length<=az:=by rw[ab] at hz ⊢;exact hz
 have M3:a<s.heap.objs.size:=by
  obtain⟨o,h1,_⟩:=pl.isList;exact aH h1
 have hh:X.A.handled=Y:=I.ok.hd hc;refine callType_codes (Q₁:=λobj s₁=>obj=.ref s.heap.objs.size/\s₁={ s with heap:=s.heap.push { cls:=.type "dict",data:=.dict #[] } }) PySem.F.kt_called_dict (PySem.F.kt_typeCall_dict_1 _) PySem.F.entry_dict_init (kt_code_dict_new _ ⟨Z,Z⟩) ?_;rintro obj s₁ ⟨rfl,rfl⟩;have KH:(s.heap.push { cls:=.type "dict",data:=.dict #[] }).DictOf (cT X.prog X.w) s.heap.objs.size []:=Fv s.heap;refine⟨KH.typeIs,PySem.F.args_dict_init_2 _ _,?_⟩;unfold jx.«dict.__init__»;refine ah ?_;unfold Builtin.Dict.selfAndRest;refine ah (wpAny_notOrdered_dict KH.typeIs ?_);show wpAny _ _ (pure (s.heap.objs.size,[b8 a])) _ _ _;refine aF ?_;show wpAny _ _ (uY "dict.__init__" s.heap.objs.size (.ref a) [] .none) _ _ _;unfold uY;obtain⟨o,n,e1,e2,e3,e4⟩:=pl;refine ah (AJ (T := "list") ⟨o,ar _ e1,e2⟩ ?_);rw[if_pos (by decide)];refine ah (zH (s:={ s with heap:=s.heap.push { cls:=.type "dict",data:=.dict #[] } }) (ar _ e1) e2 e4 e3 hh λh' tk kp=>?_);rw[if_pos (show(Y:Option ae).isNone=true from Z)];refine ah (Jq ?_);have R5:h'.IsList a ci.toArray:=⟨o,kp _ _ (ar _ e1),e2,n,e4⟩
 refine ah (pQ R5 ?_);have M5:s.heap.objs.size<h'.objs.size:=aH (kp _ _ (aO _ Z));have kq:∀ b ob,s.heap.get? b=O ob->(h'.push { cls:=.type "list_iterator",data:=.fields #[.ref a,.int 0 0] }).get? b=O ob:=λb ob e=>ar _ (kp _ _ (ar _ e));refine aF ⟨kn e8 _,?_⟩;refine MB (kys:=ts.map λt=>t.2) (l:=a) (A:=X.A.in1) hh hl Zq (aP M5) (aP M3) (aP (mN M3 M5)) _ 0 _ [] [] 0 _ Z (bq _) ⟨_,aO _ Z,Z,Z⟩ ?_ ?_ .nil ?_ (bq _) ?_
 .exact⟨o,kq _ _ e1,e2,n,e4⟩
 .intro j ky hj;rw[au] at hj;cases et:ts[j]? with
  |none=>rw[et] at hj;cases hj
  |some t =>
   rw[et] at hj;cases hj;obtain⟨u,hu,ru⟩:=rv.get (i:=j) (x:=V.ref t.1) (by rw[au,et];rfl);cases ru;obtain⟨vB,UE,tp,_⟩:=I.tuple (ht t (ag et));obtain⟨k1,k2,rfl,r1,r2⟩:=a0P UE;obtain⟨o2,g1,g2,n2,g3⟩:=tp;have gz:=aH g1;exact⟨t.1,k1,k2,hu,⟨o2,kq _ _ g1,g2,n2,g3⟩,rB r1,r2,aP gz,aP (mN gz M5)⟩
 .exact Heap.DictOf.push (by
   obtain⟨q,es,ep,hq,r⟩:=KH;exact⟨q,es,ep,kp _ _ hq,r⟩) _
 .intro h3 t3 Yp k1 k2 k3 k4;rw[mY] at k1 k3;refine⟨Z,.ref s.heap.objs.size,_,?_,Z,q _ (I.c8.fresh (ay _))⟩;refine I.laid (a:=s.heap.objs.size) (λb ob e=>?_) (ay _) (Ea (bF k3 Zq) (beq_eq_false_iff_ne.mpr (cg (aP I.big))) k1 k2);have gz:=aH e;exact k4 b ob (aP gz) (aP (mN gz M5)) (kq _ _ e)
def JU(z:aE):It where
 go:=λi _=>i<z.cps.size
 Df:=λi H v H'=>∃ T c,v=.ref T/\H T=Y/\z.cps[i]?=O c/\H'=upd H T (.tup [.int (i:Nat),.str ⟨#[c]⟩])
 stop:=λi _=>i=z.cps.size
theorem xS{P:aS}{w:bv}{A:cK}(h:A.handled=Y)(it:ai)(z:aE)(t:YL):Draws P w A it [it] z.cps.size (λi v=>∃ c u,z.cps[i]?=O c/\v=.str ⟨#[c]⟩ u) (λi h=>h.IsStrIter it (k6 z) z t i):=by
 unfold k6;split
 .exact Draws.strAscii h it z t
 .exact Draws.strWide h it z t
theorem Fn{P:aS}{w:bv}{K:af}{elts:List cF}{k:Nat}{pos:jd}(z:aE)(t:YL)(e it:ai)(jZ:e≠it):Turn P w K (.Tuple elts k pos) (JU z) [e,it] e (λi h=>(∃ old,IsEnum h e it (i:Nat) old)/\h.IsStrIter it (k6 z) z t i) where
 mem:=by simp
 obj := λi h st b hb=>by
  obtain⟨⟨old,s1⟩,o,e1,c,d⟩:=st;rcases aG.mp hb with z | z
  .subst z;exact⟨_,s1,λv z=>by cases z⟩
  .have z:b=it:=by simpa using z
   subst z;exact⟨o,e1,λv z=>by rw[d] at z;cases z⟩
 keep:=λi h h' st k=>by
  obtain⟨⟨old,s1⟩,o,e1,c,d⟩:=st;exact⟨⟨old,k e (by simp) _ s1⟩,o,k it (by simp) o e1,c,d⟩
 item:=by
  intro X hP hw hK hc i pins s J H E I hf st hg;subst hP hw hK;obtain⟨⟨old,s1⟩,s2⟩:=st;have le:e<s.heap.objs.size:=aH s1;refine wpAny_pyNext_enum_itemD (xS (A:=X.A.in1) (I.ok.hd hc) it z t) s1 s2 hg jZ (by simpa using jZ) λu h' tk hP ho Em ht hsz kp=>?_;obtain⟨c,uu,Vy,rfl⟩:=hP;refine⟨_,Z,Jp ho λh2 he2 sb=>?_⟩;have I1:Inv X pins J H { s with heap:=h2,toks:=tk+1 }:=I.pN (t':=tk+1) (ch:=[e,it]) hf λb o hb q=>by
   have HV:b≠e:=λz=>hb (by simp[z]);have YV:b≠it:=λz=>hb (by simp[z]);exact(sb.2 b HV).trans (kp b o HV YV q)
  have hT:h2.get? s.heap.objs.size=O { cls:=.type "tuple",data:=.seq #[e5 (i:Nat) tk,lg ⟨#[c]⟩ uu] }:=(sb.2 _ (cI le)).trans ht;have Qr:H s.heap.objs.size=Y:=I.c8.fresh (ay _);have vs2:Vals [V.int (i:Nat),V.str ⟨#[c]⟩] [e5 (i:Nat) tk,lg ⟨#[c]⟩ uu]:=.cons ⟨tk,Z⟩ (.cons ⟨uu,Z⟩ .nil);have I2:=I1.adopt (o:=.tup [.int (i:Nat),.str ⟨#[c]⟩]) (I.wU (ay _) Qr) ⟨(by show 2<=az;decide),[e5 (i:Nat) tk,lg ⟨#[c]⟩ uu],vs2,⟨_,hT,Z,_,Z⟩⟩;have en:IsEnum h2 e it ((i+1:Nat):Int) (lg ⟨#[c]⟩ uu):=by
   have e1:((i+1:Nat):Int)=((i:Nat):Int)+1:=by omega
   rw[e1];exact he2
  refine⟨.ref s.heap.objs.size,_,I2,Z,⟨_,c,Z,Qr,Vy,Z⟩,⟨⟨_,en⟩,?_⟩,λb hb=>?_⟩
  .obtain⟨o,q,r1,r2⟩:=Em;exact⟨o,(sb.2 it (cg jZ)).trans q,r1,r2⟩
  rw[bh (λz=>?_)]
  .exact(hf b hb).1
  .subst z;rcases aG.mp hb with z | z
   .exact absurd z (cI le)
   .have z:s.heap.objs.size=it:=by simpa using z
    obtain⟨o,q,_⟩:=s2;exact absurd z (cI (aH q))
 done:=by
  intro X hP hw hK hc i pins s J H E I hf st hg;subst hP hw hK;obtain⟨⟨old,s1⟩,s2⟩:=st;have hg':i=z.cps.size:=hg;subst hg';refine wpAny_pyNext_enum_endD (xS (A:=X.A.in1) (I.ok.hd hc) it z t) s1 s2 λh' eb=>⟨Z,?_⟩
  exact I.pN (t':=s.toks) (ch:=[it]) (λb hb=>hf b (aW _ hb)) λb o hb q=>eb b o (λz=>hb (by simp[z])) q
 self:=λ_ _ _ _ _ st h=>pP st.1.choose_spec h
def SA(ta:TA):TI:=λ J H R=>ta J H λvs H1=>∃ z,vs=[.str z]/\R (JU z) H1
theorem LC{X:Cx}{elts:List cF}{k:Nat}{AE:jd}{l:cF}{ta:TA}{p pos:jd}(hg:Gl X "enumerate")(hm:X.mg "enumerate" = Y)(ha:PA X [l] ta)(hs:bD [l] X.env=[(false,dP l X.env)]:=by rfl) :
  PI X (.Tuple elts k AE) (.Call (.Name "enumerate" p) [l] [] pos) (SA ta):=by
 intro pins s J H R I h;refine ML (mR I hg hm sN (c7 (eC (ha pos pins s J H _ I h) λus s1 cX=>?_) hs Z));obtain⟨vs,H1,I1,r1,q1⟩:=cX;obtain⟨z,rfl,q⟩:=q1;obtain⟨u,rfl,ru⟩:=a0j r1;obtain⟨t,rfl⟩:=ru;refine call_enumerate_str λh' he hi hsz kp=>?_;refine pP he ?_;refine⟨s1.heap.objs.size+1,[s1.heap.objs.size+1,s1.heap.objs.size],_,_,H1,Z,I1.kept (t':=s1.toks) kp,Fn z t _ _ (wP _),⟨⟨_,he⟩,hi⟩,λb hb=>?_,q⟩;have Kt:s1.heap.objs.size<=b:=by
  rcases aG.mp hb with z | z
  .rw[z];exact hU _
  .have z:b=s1.heap.objs.size:=by simpa using z
   rw[z];exact ay _
 exact I1.wU Kt (I1.c8.fresh Kt)
theorem BO{z:aE}{tt:G5}{tc:TT}{te:TE}{cap:List Nat}{J:St}{H:Hp}{D:ai->List V->Hp->Prop}(Pv:Nat->List V->Hp->Prop)(h0:Pv 0 [] H)(hz:z.cps.size<=az)(hl:∀ i ys H,i<=z.cps.size->Pv i ys H->ys.length<=i)
  (hs:∀ i c T ys H,z.cps[i]?=O c->Pv i ys H->H T=Y->tt (.ref T) (upd H T (.tup [.int (i:Nat),.str ⟨#[c]⟩])) λws=>tc (ws.map O++gD J cap) (upd H T (.tup [.int (i:Nat),.str ⟨#[c]⟩])) λb H4=>if b=true then te (ws.map O++gD J cap) H4 λy H5=>Pv (i+1) (ys++[y]) H5 else Pv (i+1) ys H4)
  (hd:∀ ys H,Pv z.cps.size ys H->∀ p,H p=Y->D p ys H) :
  ∃ W:Nat->Nat->List V->Hp->Prop,(∃ m,W 0 m [] H)/\∀ i m ys H2,W i m ys H2 ->
  ((JU z).stop i H2/\ys.length<=az/\∀ p,H2 p=Y->D p ys H2) \/
  ((JU z).go i H2/\∃ N:List V->Hp->Prop,(∀ l9 H',N l9 H'->l9.length<=az/\∃ m',m'<m/\W (i+1) m' l9 H') /\
   ∀ x H3,(JU z).Df i H2 x H3->tt x H3 λws=>tc (ws.map O++gD J cap) H3 λb H4=>if b=true then te (ws.map O++gD J cap) H4 λy H5=>N (ys++[y]) H5 else N ys H4):=by
 refine⟨λi m ys H=>m=z.cps.size-i/\i<=z.cps.size/\Pv i ys H,⟨z.cps.size,by simp,bq _,h0⟩,?_⟩;rintro i m ys H2 ⟨rfl,hi,p⟩;have q:=hl i ys H2 hi p
 by_cases gz:i<z.cps.size
 .refine .inr ⟨gz,Pv (i+1),λl9 H' p'=>⟨bF (hl (i+1) l9 H' gz p') (bF gz hz),z.cps.size-(i+1),by omega,Z,gz,p'⟩,λx H' y=>?_⟩;obtain⟨T,c,rfl,hT,hc,rfl⟩:=y;exact hs i c T ys _ hc p hT
 .have e:i=z.cps.size:=by omega
  subst e;exact .inl ⟨Z,bF q hz,λp' hp'=>hd ys H2 p p' hp'⟩
theorem D8{K:af}{a:ai}{xs:List V}{tt:G5}{tc:TT}{te:TE}{cap:List Nat}{J:St}{H:Hp}{D:ai->List V->Hp->Prop}(Pv:Nat->List V->Hp->Prop)(h0:Pv 0 [] H)(hz:xs.length<=az)(hl:∀ i ys H,i<=xs.length->Pv i ys H->bI K H a xs/\ys.length<=i)
  (hs:∀ i x T ys H,xs[i]?=O x->Pv i ys H->H T=Y->tt (.ref T) (upd H T (.tup [.int (i:Nat),x])) λws=>tc (ws.map O++gD J cap) (upd H T (.tup [.int (i:Nat),x])) λb H4=>if b=true then te (ws.map O++gD J cap) H4 λy H5=>Pv (i+1) (ys++[y]) H5 else Pv (i+1) ys H4)
  (hd:∀ ys H,Pv xs.length ys H->∀ p,H p=Y->D p ys H) :
  ∃ W:Nat->Nat->List V->Hp->Prop,(∃ m,W 0 m [] H)/\∀ i m ys H2,W i m ys H2 ->
  ((P0 K a).stop i H2/\ys.length<=az/\∀ p,H2 p=Y->D p ys H2) \/
  ((P0 K a).go i H2/\∃ N:List V->Hp->Prop,(∀ l9 H',N l9 H'->l9.length<=az/\∃ m',m'<m/\W (i+1) m' l9 H') /\
   ∀ x H3,(P0 K a).Df i H2 x H3->tt x H3 λws=>tc (ws.map O++gD J cap) H3 λb H4=>if b=true then te (ws.map O++gD J cap) H4 λy H5=>N (ys++[y]) H5 else N ys H4):=by
 refine⟨λi m ys H=>m=xs.length-i/\i<=xs.length/\Pv i ys H,⟨xs.length,by simp,bq _,h0⟩,?_⟩;rintro i m ys H2 ⟨rfl,hi,p⟩;obtain⟨q,hy⟩:=hl i ys H2 hi p
 by_cases gz:i<xs.length
 .refine .inr ⟨⟨xs,xs[i],q,by simp[gz]⟩,Pv (i+1),λl9 H' r=>?_,λx H3 y=>?_⟩
  .obtain⟨_,h2⟩:=hl (i+1) l9 H' gz r;exact⟨by omega,xs.length-(i+1),by omega,Z,gz,r⟩
  .obtain⟨T,z,rfl,hT,y,rfl⟩:=y;exact hs i z T ys _ (y xs q) p hT
 .have e:i=xs.length:=by omega
  subst e;exact .inl ⟨⟨xs,q,ay _⟩,by omega,hd ys H2 p⟩
section
variable {X:Cx}
theorem wT:jy X (.type "int") (λxs H Q=>∃(x:aE)(n:Int),xs=[.str x]/\SD x=O n/\x.length<=640/\Q (.int n) H):=by
 intro pins s J H xs us Q I r h;obtain⟨x,n,rfl,hn,hl,q⟩:=h;obtain⟨u,rfl,t,rfl⟩:=a0j r;exact PySem.W.KIN.call_text hn hl ⟨.int n,H,I.tok _,⟨_,Z⟩,q⟩
end
end L2
namespace Law
open PySem L2
structure Pl(G:List Row)(hf:Int->Int)(wf:Int->Option Int)(h:Int)(ps:List Int):Prop where
 nd:ps.Nodup
 Qd:∀ p∈ps,je G p/\hf p=h
 edg:∀(i:Nat)(x y:Int),ps[i]?=O x->ps[i+1]?=O y->ed G wf h x y
theorem Pl.one{G:List Row}{hf:Int->Int}{wf:Int->Option Int}{p:Int}(hp:je G p):Pl G hf wf (hf p) [p] :=
 ⟨by simp,λq hq=>by rw[bj.mp hq];exact⟨hp,Z⟩,λi x y _ h2=>by simp at h2⟩
theorem Pl.push{G:List Row}{hf:Int->Int}{wf:Int->Option Int}{h:Int}{ps:List Int}(P:Pl G hf wf h ps){l q:Int}(hl:ps[ps.length-1]?=O l)(e:ed G wf h l q)(hq:je G q/\hf q=h)(hn:q ∉ ps):Pl G hf wf h (ps++[q]):=by
 refine⟨?_,λp hp=>?_,λi x y h1 h2=>?_⟩
 .rw[e7];refine⟨P.nd,by simp,λa ha b hb=>?_⟩;rw[bj.mp hb];exact λz=>hn (z ▸ ha)
 .rcases bH.mp hp with h | h
  .exact P.Qd p h
  .rw[bj.mp h];exact hq
 .have hi:i+1<(ps++[q]).length:=(aj.mp h2).1;rw[aV,dM] at hi;rw[ck (by omega)] at h1
  by_cases c:i+1<ps.length
  .rw[ck c] at h2;exact P.edg i x y h1 h2
  .have e1:i=ps.length-1:=by omega
   rw[cN (by omega)] at h2;have e2:i+1-ps.length=0:=by omega
   rw[e2] at h2;rw[e1,hl] at h1;cases h1;simp at h2;rw[← h2];exact e
theorem Pl.cut{G:List Row}{hf:Int->Int}{wf:Int->Option Int}{h:Int}{ps:List Int}(P:Pl G hf wf h ps)(n:Nat):Pl G hf wf h (ps.take n):=by
 refine⟨P.nd.sublist (uw _ _),λp hp=>P.Qd p (List.mem_of_mem_take hp),λi x y h1 h2=>?_⟩;rw[fP] at h1 h2;split at h2
 .rw[if_pos (by omega)] at h1;exact P.edg i x y h1 h2
 .cases h2
theorem Pl.ring{G:List Row}{hf:Int->Int}{wf:Int->Option Int}{h:Int}{ps:List Int}(P:Pl G hf wf h ps)(hn:Rl G wf h (λp=>je G p/\hf p=h)){l q:Int}{s:Nat}(hl:ps[ps.length-1]?=O l)(e:ed G wf h l q)(hs:ps[s]?=O q){M:Int}(hM:M∈(ps.drop s).map (rk G))(B2:∀ k∈(ps.drop s).map (rk G),k<=M):M % 2=h:=by
 obtain⟨m,hm,rfl⟩:=bE.mp hM;have M7:=(aj.mp hs).1;refine LO hn (r:=ps.drop s) (λz=>by have:=congrArg j3 z;simp at this;omega) (λi x y h1 h2=>?_) hm λx hx=>B2 _ (bE.mpr ⟨x,hx,Z⟩);have m1:=P.Qd x (lG (ag h1));have m2:=P.Qd y (lG (ag h2));refine⟨m1,m2,?_⟩;have hi:=(aj.mp h1).1;rw[i8] at hi h2;rw[dU] at h1 h2
 by_cases c:i+1<ps.length-s
 .rw[wO c] at h2;exact P.edg (s+i) x y h1 h2
 .have e1:i+1=ps.length-s:=by omega
  rw[e1,Nat.mod_self,aad,hs] at h2;have e2:s+i=ps.length-1:=by omega
  rw[e2,hl] at h1;cases h1;cases h2;exact e
end Law
namespace L2
open PySem PySem.Spec PyProof.Rows
theorem ER{x:aE}{c i:Nat}:kK x ⟨#[c]⟩ x.length i↔x.cps.toList[i]?=O c:=by
 have hl:x.cps.toList.length=x.length:=aT;unfold kK Dj;show i+1<=x.length/\(x.cps.extract i (i+1) == #[c])=true↔_;have e:(x.cps.extract i (i+1)).toList=(x.cps.toList.drop i).take 1:=by rw[iI,nN];simp
 constructor
 .rintro⟨h1,h2⟩;have h3:x.cps.extract i (i+1)=#[c]:=eq_of_beq h2;rw[h3] at e;have h4:x.cps.toList[i]?=O (x.cps.toList[i]'(by omega)):=by simp
  rw[cZ (show i<x.cps.toList.length by omega)] at e;have h5:c=x.cps.toList[i]'(by omega):=by simpa using e
  rw[h4,h5]
 .intro h;obtain⟨h1,h2⟩:=aj.mp h;refine⟨by omega,?_⟩;have h3:x.cps.extract i (i+1)=#[c]:=by
   apply iT.mp;rw[e,cZ h1,h2];simp
  rw[h3];simp
theorem Lq{a b:List Nat}{c:Nat}(hc:c ∉ a):eX ⟨(a++c::b).toArray⟩ ⟨#[c]⟩=(⟨a.toArray⟩,⟨#[c]⟩,⟨b.toArray⟩):=by
 have hl:(⟨(a++c::b).toArray⟩:aE).length=a.length+1+b.length:=by show(a++c::b).toArray.size=_;simp;omega
 have here:(a++c::b)[a.length]?=O c:=by simp
 unfold eX;rcases StrLaws.occ_head (⟨(a++c::b).toArray⟩:aE) ⟨#[c]⟩ 1 (ay 1) with ⟨h0,hn⟩ | ⟨i,r,h0,hi,hn⟩
 .exact absurd (ER.mpr (by simpa using here)) (hn a.length)
 .rw[h0];have Em:(a++c::b)[i]?=O c:=by simpa using ER.mp hi
  have e:i=a.length:=by
   rcases oo i a.length with h | h | h
   .rw[ck h] at Em;exact absurd (ag Em) hc
   .exact h
   .exact absurd (ER.mpr (by simpa using here)) (hn _ h)
  subst e;show(fu _ 0 a.length,(⟨#[c]⟩:aE),fu _ (a.length+1) _)=_;unfold fu;rw[hl];refine uz ?_ (uz Z ?_)
  .show(⟨_⟩:aE)=⟨_⟩;congr 1;apply iT.mp;rw[iI];simp
  .show(⟨_⟩:aE)=⟨_⟩;congr 1;apply iT.mp;rw[iI];simp
theorem a0g{x:aE}{l:List Nat}(h:x.cps.toList=l):x=⟨l.toArray⟩:=by
 obtain⟨a⟩:=x;subst h;rfl
theorem a0e(x:aE):x.length=x.cps.toList.length:=by rw[aT];rfl
theorem a0h(x y:aE):(x++y).cps.toList=x.cps.toList++y.cps.toList:=by
 show(x.cps++y.cps).toList=_;simp
theorem l7(x:aE)(i j:Nat):(fu x i j).cps.toList=(x.cps.toList.drop i).take (j-i):=by
 unfold fu;show(x.cps.extract i j).toList=_;rw[iI,nN]
theorem D5{x y:aE}{i:Nat}:kK x y x.length i↔i+y.cps.toList.length<=x.cps.toList.length/\(x.cps.toList.drop i).take y.cps.toList.length=y.cps.toList:=by
 have hl:=a0e x;have hy:=a0e y;unfold kK Dj;rw[hl,hy];refine and_congr_right λh=>?_;have e:(x.cps.extract i (i+y.cps.toList.length)).toList=(x.cps.toList.drop i).take y.cps.toList.length:=by
  rw[iI,nN];simp
 rw[← e];constructor
 .intro h;rw[eq_of_beq h]
 .intro h;have:=iT.mp h;rw[this];simp
theorem BF{x y:aE}{c:Nat}{r:List Nat}{i:Nat}(hy:y.cps.toList=c::r)(h:kK x y x.length i):x.cps.toList[i]?=O c:=by
 obtain⟨h1,h2⟩:=D5.mp h;rw[hy] at h1 h2;have hi:i<x.cps.toList.length:=by simp at h1;simp;omega
 rw[cZ hi] at h2;rw[bi hi];have:=congrArg List.head? h2;simpa using this
def oP(s:List Nat):List (List Nat)->List Nat
 |[]=>[]
 |[p]=>p
 |p::q::r=>p++s++oP s (q::r)
theorem kh(y:aE):∀ ps:List aE,(fB y ps).cps.toList=oP y.cps.toList (ps.map λp=>p.cps.toList):=by
 intro ps;show(Di y ps).cps.toList=_;rw[Ds]
 induction ps with
 |nil=>rfl
 |cons p r ih =>
  cases r with
  |nil=>rfl
  |cons q r =>
   rw[Str.join.eq_3 _ _ _ (λz=>by cases z),a0h,a0h,ih];rfl
theorem vL{x y:aE}{c:Nat}{s:List Nat}(hy:y.cps.toList=c::s):∀(ps:List (List Nat))(a f:Nat)(HI:List Nat),ps≠[]->(∀ p∈ps,c ∉ p)->a<=x.cps.toList.length->x.cps.toList.drop a=oP (c::s) ps->pZ x y x.length a HI f->(∀ k,f<=k->¬ kK x y x.length k)->cJ x y.length a HI=ps.map λp=>⟨p.toArray⟩
 |[],_,_,_,h,_,_,_,_,_=>absurd Z h
 |[p],a,f,HI,_,hp,ha,he,hc,hf=>by
  have NT:x.cps.toList.drop a=p:=he;cases HI with
  |nil =>
   rw[PySem.StrLaws.partsFrom.eq_1];refine congrArg (λz=>[z]) (a0g ?_);rw[l7,NT,hE];rw[a0e,← NT,i8];omega
  |cons i r =>
   rw[PySem.StrLaws.ChainG.eq_2] at hc;have h1:=BF hy hc.2.1;refine absurd ?_ (hp p aL);rw[← NT,k9];exact⟨i-a,by rw[dU,← h1];congr 1;omega⟩
 |p :: q::r,a,f,HI,_,hp,ha,he,hc,hf=>by
  have NT:x.cps.toList.drop a=p++(c::s)++oP (c::s) (q::r):=he;have hl:x.cps.toList.length-a=p.length+(s.length+1)+(oP (c::s) (q::r)).length:=by
   rw[← i8,NT];simp;omega
  have here:kK x y x.length (a+p.length):=by
   rw[D5,hy];refine⟨by rw[cz];omega,?_⟩;rw[← iS,NT,d6,kD,Ud]
  cases HI with
  |nil =>
   rw[PySem.StrLaws.ChainG.eq_1] at hc;exact absurd here (hf _ (by omega))
  |cons i t =>
   rw[PySem.StrLaws.ChainG.eq_2] at hc;obtain⟨c1,c2,c3,c4⟩:=hc;have h1:=BF hy c2;have ei:i=a+p.length:=by
    rcases oo i (a+p.length) with h | h | h
    .refine absurd ?_ (hp p aL);have e1:(x.cps.toList.drop a)[i-a]?=O c:=by rw[dU,← h1];congr 1;omega
     rw[NT,d6,ck (by omega)] at e1;exact ag e1
    .exact h
    .exact absurd here (c3 _ (by omega) h)
   subst ei;rw[PySem.StrLaws.partsFrom.eq_2,bY];have Na:y.length=s.length+1:=by rw[a0e,hy];rfl
   refine congr (congrArg P2 (a0g ?_)) ?_
   .rw[l7,NT,d6,FA,Ud]
   .refine vL hy (q::r) _ f t (λz=>by cases z) (λp' h'=>hp p' (aW _ h')) (by omega) ?_ c4 hf;rw[Na,Nat.add_assoc,← iS,NT,d6,← iS,kD];exact kD (l₁:=c::s)
theorem oh{y:aE}{c:Nat}{s:List Nat}(hy:y.cps.toList=c::s)(hk:cS y=1){ps:List aE}(jZ:ps≠[])(hp:∀ p∈ps,c ∉ p.cps.toList):bK (fB y ps) y=ps:=by
 obtain⟨f,h1,h2⟩:=StrLaws.occ_tight (fB y ps) y (by rw[a0e,hy];simp);have key:=vL (x:=fB y ps) hy (ps.map λp=>p.cps.toList) 0 f _ (λz=>jZ (JX.mp z)) (λp h=>by obtain⟨q,hq,rfl⟩:=bE.mp h;exact hp q hq) (bq _) (by rw[mY,kh,hy]) h1 h2;have eq:(ps.map λp=>p.cps.toList).map (λp=>(⟨p.toArray⟩:aE))=ps:=by
  rw[dD];exact List.map_id'' (λx=>rfl) _
 rw[eq] at key;have one:∀ p,ps=[p]->fB y ps=p:=λp e=>by rw[e];rfl
 unfold bK
 by_cases c1:(decide ((fB y ps).length<y.length) || decide (cS (fB y ps)<cS y))=true
 .rw[if_pos c1]
  match Us:ps,jZ with
  |[p],_=>rfl
  |p :: q::r,_ =>
   exfalso;rw[xB] at c1;rcases c1 with c1 | c1
   .have c1:=of_decide_eq_true c1;rw[a0e,a0e,kh] at c1;have:oP y.cps.toList ((p::q::r).map λp=>p.cps.toList)=p.cps.toList++y.cps.toList++oP y.cps.toList ((q::r).map λp=>p.cps.toList):=rfl;rw[Us,this] at c1;simp at c1;omega
   .have c1:=of_decide_eq_true c1;rw[hk] at c1;unfold cS at c1;split at c1
    .omega
    .split at c1 <;> omega
 .rw[if_neg c1]
  by_cases c2:(bW (fB y ps) y 0 (fB y ps).length ((fB y ps).length+1)).isEmpty=true
  .rw[if_pos c2];have e:=List.isEmpty_iff.mp c2;rw[e,PySem.StrLaws.partsFrom.eq_1] at key;refine Eq.trans ?_ key;refine congrArg (λz=>[z]) ?_;symm;refine(a0g (l7 _ _ _)).trans ?_;rw[a0e,mY,Nat.sub_zero,aR]
  .rw[if_neg c2,jw];exact key
theorem yu:∀{us:List ae}{xs:List aE},wq us=O xs->Vals (xs.map V.str) us
 |[],xs,h=>by cases h;exact .nil
 |u :: r,xs,h=>by
  cases u with
  |str x t =>
   unfold wq at h;cases e:wq r with
   |none=>rw[e] at h;cases h
   |some ys =>
    rw[e] at h;cases h;exact .cons ⟨t,Z⟩ (yu e)
  |_=>cases h
theorem T4{K:af}{H:Hp}{a:ai}{xs:List aE}(h:C6 K a=O xs):gA K H a (xs.map V.str):=by
 unfold C6 at h;split at h
 .rename_i dd ci n sl hl;split at h
  .rename_i HQ;exact .inr ⟨_,ci,_,hl,Z,Z,bF HQ (by decide),yu h⟩
  .cases h
 .cases h
def u9(K:af)(mg:aE->Option ae)(x:aE)(xs:List aE):Prop:=∃ d,mg x=O (.ref d)/\C6 K d=O xs
def X8(K:af)(xs:List aE):TE:=λ_ H Q=>∀ a,(∀ H',gA K H' a (xs.map V.str))->Q (.ref a) H
theorem O3{X:Cx}{K:af}{x:aE}{xs:List aE}{pos:jd}(hm:u9 K X.mg x xs)(hg:Gl X x:=by rfl)(hd:(x == ("__debug__" : aE))=false:=by decide):PE X (.Name x pos) (X8 K xs):=by
 obtain⟨d,hm,ht⟩:=hm;intro pins s J H Q I h;exact pE (v:=.ref d) hg hm Z hd pins s J H Q I (h d λH'=>T4 ht)
theorem Lu{X:Cx}{k:Nat}{func e:cF}{es:List cF}{tf:TE}{t:TA}{pos:jd}(hf:PE X func tf)(hr:ig k X.A)(ha:PA X (e::es) t)
  (hev:dP (.Call func (e::es) [] pos) X.env=(do let f ← dP func X.env;Hl pos f [] (gB pos (bD (e::es) X.env)) (qz pos (k5 [] X.env))):=by rfl)
  (he:bD (e::es) X.env=(false,dP e X.env)::bD es X.env:=by rfl) (m8:(gB pos (bD es X.env)).any (·.1)=false:=by rfl) :
  PE X (.Call func (e::es) [] pos) (λ J H Q=>tf J H λx H1=>∃(f:ai)(fd:iJ)(n:Nat)(ps:List aE)(sp:Sp),x=.ref f/\ow X.prog X.w X.K X.mg X.base DR n f fd ps sp/\n<=k/\ix X.K (.ref f)=true/\Binds X.K fd ps []/\t J H1 λvs H2=>sp vs H2 Q E0):=by
 intro pins s J H Q I h;refine ML (eC (hf pins s J H _ I h) λu s1 cX=>?_) hev;obtain⟨x,H1,I1,rx,f,fd,n,ps,sp,rfl,F,hn,kp,hb,q⟩:=cX;obtain rfl:u=b8 f:=rx;refine mj (h₀:=X.base) I1.ok.mod.UA kp (eC (ha pos pins s1 J H1 _ I1 q) λus s2 cX=>?_) he m8;obtain⟨vs,H2,I2,r,q2⟩:=cX;refine⟨I2.qm,?_⟩;have r2:=z5 F (hr.mono hn) hb (.nil:Vals [] []) yk I2 r (by rw[er];exact q2);simpa using r2
theorem Cz{P:aS}{w:bv}:∀{es:List Bv}{l:List (Int × aE × ai)},a0t es=O l->(∀ p∈l,p.1=kG w p.2.1) ->
  Pairs (cT P w) es (l.map λp=>((.inr p.2.1:Key),b8 p.2.2))/\(∀ e∈es,∃ k,(cT P w).is k e.key=true/\e.hash=(cT P w).hash k)
 |[],l,h,_=>by
  cases h;exact⟨.nil,λ_ z=>by cases z⟩
 |⟨hs,k,v⟩::r,l,h,hh=>by
  cases k with
  |str x t =>
   cases v with
   |ref a =>
    unfold a0t at h;cases e2:a0t r with
    |none=>rw[e2] at h;cases h
    |some l2 =>
     rw[e2] at h;cases h;obtain⟨p1,p2⟩:=Cz (P:=P) (w:=w) e2 λp hp=>hh p (aW _ hp);have hx:hs=kG w x:=hh _ aL;refine⟨.cons (kN P w x t) Z p1,λe he=>?_⟩;rcases aG.mp he with rfl | he
     .exact⟨.inr x,kN P w x t,hx⟩
     .exact p2 e he
   |_=>cases h
  |_=>cases h
def JW(P:aS)(w:bv)(K:af)(mg:aE->Option ae)(x:aE)(tab:List (aE × aE)):Prop:=∃ d bM,mg x=O (.ref d)/\xD P w K d bM/\∀ p∈tab,∃ f,eO bM (.inr p.1)=O (.ref f)/\mg p.2=O (.ref f)
def X7(P:aS)(w:bv)(K:af)(mg:aE->Option ae)(tab:List (aE × aE)):TE:=λ_ H Q=>∀(d:ai)(bM:List (Key × V)),xD P w K d bM->(∀ p∈tab,∃ f,eO bM (.inr p.1)=O (.ref f)/\mg p.2=O (.ref f))->Q (.ref d) H
theorem O2{X:Cx}{x:aE}{tab:List (aE × aE)}{pos:jd}(hm:JW X.prog X.w X.K X.mg x tab)(hg:Gl X x:=by rfl)(hd:(x == ("__debug__" : aE))=false:=by decide):PE X (.Name x pos) (X7 X.prog X.w X.K X.mg tab):=by
 obtain⟨d,bM,hm,hk,ht⟩:=hm;intro pins s J H Q I h;exact pE (v:=.ref d) hg hm Z hd pins s J H Q I (h d bM hk ht)
abbrev kvI(l:List (Int × aE × Int)):List (Key × V):=l.map λp=>((.inr p.2.1:Key),V.int p.2.2)
theorem B5{P:aS}{w:bv}:∀{es:List Bv}{l:List (Int × aE × Int)},a0s es=O l->(∀ p∈l,p.1=kG w p.2.1) ->
  ∃ vs:List (Key × ae),Pairs (cT P w) es vs/\KV (kvI l) vs/\(∀ e∈es,∃ k,(cT P w).is k e.key=true/\e.hash=(cT P w).hash k)/\vs.map (·.1)=l.map λp=>(.inr p.2.1:Key)
 |[],l,h,_=>by
  cases h;exact⟨[],.nil,.nil,(λ_ z=>by cases z),Z⟩
 |⟨hs,k,v⟩::r,l,h,hh=>by
  cases k with
  |str x t =>
   cases v with
   |int i t2 =>
    unfold a0s at h;cases e2:a0s r with
    |none=>rw[e2] at h;cases h
    |some l2 =>
     rw[e2] at h;cases h;obtain⟨vs,p1,p3,p2,p4⟩:=B5 (P:=P) (w:=w) e2 λp hp=>hh p (aW _ hp);have hx:hs=kG w x:=hh _ aL;refine⟨(.inr x,.int i t2)::vs,.cons (kN P w x t) Z p1,.cons ⟨Z,⟨_,Z⟩⟩ p3,λe he=>?_,by rw[bY,bY,p4]⟩;rcases aG.mp he with rfl | he
     .exact⟨.inr x,kN P w x t,hx⟩
     .exact p2 e he
   |_=>cases h
  |_=>cases h
def qu(P:aS)(w:bv)(K:af)(mg:aE->Option ae)(x:aE)(tab:List (aE × Int)):Prop:=∃ d,mg x=O (.ref d)/\xD P w K d (tab.map λp=>((.inr p.1:Key),V.int p.2))
theorem Oh{P:aS}{w:bv}{K:af}{mg:aE->Option ae}{x:aE}{d:ai}{tab:List (aE × Int)}(hm:mg x=O (.ref d))(hd:(d == d4)=false)(h:Ew K d=O (tab.map λp=>(kG w p.1,p.1,p.2)))(nd:(tab.map (·.1)).Nodup):qu P w K mg x tab:=by
 unfold Ew at h;cases hl:K.lookup d with
 |none=>rw[hl] at h;cases h
 |some o =>
  rw[hl] at h;simp only at h;split at h
  case isFalse=>cases h
  rename_i hc;rw[aQ,aQ] at hc;obtain⟨⟨c1,c2⟩,c3⟩:=hc;split at h
  case h_2=>cases h
  rename_i es ep HX;split at h
  .obtain⟨vs,p1,p3,p2,p4⟩:=B5 (P:=P) (w:=w) h λp hp=>by
    obtain⟨q,_,rfl⟩:=bE.mp hp;rfl
   have e0:kvI (tab.map λp=>(kG w p.1,p.1,p.2))=tab.map λp=>((.inr p.1:Key),V.int p.2):=by rw[kvI,dD];rfl
   rw[e0] at p3;have W8:(vs.map (·.1)).Nodup:=by
    rw[p4,dD];have:tab.map ((λp:Int × aE × Int=>(.inr p.2.1:Key)) ∘ λp=>(kG w p.1,p.1,p.2))=(tab.map (·.1)).map iH:=by rw[dD];rfl
    rw[this];exact nd.map _ λx y h z=>h (lc z)
   exact⟨d,hm,hd,vs,p3,λhp KI=>⟨o,es,ep,KI d o hl,⟨eq_of_beq c1,m6.mp c2,MK.mp c3⟩,HX,(λe he=>p2 e (by simpa using he)),p1,W8⟩⟩
  .cases h
def QV(P:aS)(w:bv)(K:af)(tab:List (aE × Int)):TE:=λ_ H Q=>∀ d:ai,xD P w K d (tab.map λp=>((.inr p.1:Key),V.int p.2))->Q (.ref d) H
theorem Ly{X:Cx}{x:aE}{tab:List (aE × Int)}{pos:jd}(hm:qu X.prog X.w X.K X.mg x tab)(hg:Gl X x:=by rfl)(hd:(x == ("__debug__" : aE))=false:=by decide):PE X (.Name x pos) (QV X.prog X.w X.K tab):=by
 obtain⟨d,hm,hk⟩:=hm;intro pins s J H Q I h;exact pE (v:=.ref d) hg hm Z hd pins s J H Q I (h d hk)
end L2
namespace L2
open PySem PySem.W PySem.Calls PyProof.Rows
def rV(tb:String->Option jx)(p:aS)(w:bv)(n₀:Nat)(ann:Option ae):Nat->SharedT->Thread->Option SharedT
 |0,_,_=>Y
 |n + 1,s,t=>match through t with
  |true=>O s
  |false=>match stepOk n₀ ann t with
   |false=>Y
   |true=>match stepT (denote tb) p w s t with
    |some (s',t')=>rV tb p w n₀ ann n s' t'
    |none=>Y
theorem yt{tb:String->Option jx}{p:aS}{w:bv}{n₀:Nat}{ann:Option ae}:∀{n:Nat}{s s':SharedT}{t:Thread},rV tb p w n₀ ann n s t=O s'->topRun tb p w n₀ ann n s.abs t=O s'.abs
 |0,_,_,_,h=>by cases h
 |n + 1,s,s',t,h=>by
  unfold rV at h;unfold topRun;cases he:through t with
  |true=>rw[he] at h;cases h;rfl
  |false =>
   rw[he] at h;cases hk:stepOk n₀ ann t with
   |false=>rw[hk] at h;cases h
   |true =>
    rw[hk] at h;cases hs:stepT (denote tb) p w s t with
    |none=>rw[hs] at h;cases h
    |some r=>obtain⟨s₂,t₂⟩:=r;rw[hs] at h;rw[stepT_spec hs];exact yt h
theorem wj{p:aS}{w:bv}{n₀:Nat}{ann:Option ae}:∀(n:Nat)(s:SharedT)(t:Thread),rT p w n₀ ann n s t=rV C0 p w n₀ ann n s t
 |0,_,_=>rfl
 |n + 1,s,t=>by
  unfold rT rV;rw[← PySem.W.Fast.te6613529449190102663,← PySem.W.Fast.te10156331382660048174,← PySem.W.Fast.te11892475500146522536,← PySem.W.Fast.te14364793385576792824];cases through t with
  |true=>rfl
  |false =>
   dsimp only;cases stepOk n₀ ann t with
   |false=>rfl
   |true =>
    dsimp only;cases stepT (denote C0) p w s t with
    |none=>rfl
    |some r=>exact wj n r.1 r.2
noncomputable def mK {α:Type} (p q:aS) (loose:List aE) (Xt:aq->Bool) (g0:Bool) (Yf:aq->α) (H:cR) (s:aq) :=
 ((staticsOk (nv p.main.body) H s.heap && namesBound p s.heap && gensDone s && laidKept H s.heap),ff q loose (nv p.main.body) Xt g0 s,Yf s)
theorem IC{p q:aS}{loose:List aE}{Xt:aq->Bool}{α:Type}{Yf:aq->α}{Ya:bv->α}{N:Nat}{g0:Bool}{H₀:Nr->cR}{gs₀:Array G1}{d₀:MM}{k₀:Nat}{m₀:Nat}{ann:Option ae}{M:Nat}{T₀:Nr->BT}{n₀:Nat}{life:Life}
  (Xn:∀ w:bv,(fencedOpening C0 p w N).map (λs=>(s.heap,s.gens,s.drawn,s.toks))=O (H₀ w.params,gs₀,d₀,k₀))
  (size:∀ w:bv,((H₀ w.params).isNs bo && gs₀.size == 0,(H₀ w.params).objs.size,(H₀ w.params).nsMap bo "__annotations__")=(true,m₀,ann))
  (tree:∀ P:Nr,absHeap (T₀ P) n₀ life=H₀ P)
  (run:∀(w:bv)(os:jF),(rT p w m₀ ann M ⟨T₀ w.params,n₀,life,gs₀,d₀,k₀,os⟩ (topStub p)).map (λr=>mK p q loose Xt g0 Yf (H₀ w.params) r.abs)=O (true,openGood q loose,Ya w))
  (le:Nat.ble M N=true):LeftO p q loose Xt Yf Ya N g0:=λw=>by
 obtain⟨⟨h,gs,d,k,os⟩,e,e'⟩:=d5.mp (Xn w);obtain⟨rfl,rfl,rfl,rfl⟩:h=H₀ w.params/\gs=gs₀/\d=d₀/\k=k₀:=by simpa using e'
 obtain⟨z1,z2,z3⟩:_/\_/\_:=by simpa only [P7] using size w
 obtain⟨r,hr,hl⟩:=d5.mp (run w os);obtain⟨l1,l2,l3⟩:_/\_/\_:=by simpa only [mK,← PySem.W.Fast.te4187177175401517315,P7] using hl
 rw[wj] at hr;have r2:=yt hr;have ea:SharedT.abs ⟨T₀ w.params,n₀,life,gs,d,k,os⟩=⟨H₀ w.params,gs,d,k,os⟩:=by
  unfold SharedT.abs;rw[tree]
 rw[ea] at r2;have r3:=topRun_mono (N-M) _ _ _ _ r2;rw[show M+(N-M)=N by have:=Nat.le_of_ble_eq_true le;omega] at r3;have t:topFrom C0 p w N ⟨H₀ w.params,gs,d,k,os⟩=O r.abs:=by
  unfold topFrom;dsimp only;rw[z1,z2,z3,r3];show(match staticsOk (nv p.main.body) (H₀ w.params) r.abs.heap && namesBound p r.abs.heap && gensDone r.abs && laidKept (H₀ w.params) r.abs.heap with | true=>_ | false=>_)=_;rw[l1]
 unfold openEnds;rw[e];show(topFrom C0 p w N _).map _=_;rw[t];exact congrArg O (uz l2 l3)
theorem tm(h:cR):∀ as:List ai,(jh as h).In h
 |[],a,o,e=>by cases e
 |b :: l,a,o,e=>by
  unfold jh at e;rw[gJ] at e;cases hb:h.get? b with
  |none=>rw[hb] at e;exact tm h l a o e
  |some x =>
   rw[hb] at e;have e:fK a ((b,x)::l.filterMap λa=>(h.get? a).map λo=>(a,o))=O o:=e;rw[dc] at e;cases q:a == b with
   |true =>
    rw[q] at e;have eab:a=b:=eq_of_beq q;have e:O x=O o:=e;rw[eab,hb,e]
   |false=>rw[q] at e;exact tm h l a o e
def a0R(s:cH):jd:=match s with
 |.FunctionDef _ _ _ _ _ _ _ _ _ p=>p
 |_=>⟨0,0,0,0⟩
theorem F2{K:Frag}{f:ai}{oc:ae}{od:Option ai}{fd:iJ}{sl:Array (Option ae)}(l:K.lookup f=O ⟨oc,od,.func fd,sl⟩):keepIn K (.ref f)=true:=by
 unfold keepIn;simp only [l]
theorem xV{K:Frag}{v:Option (Option ae)}{x qual:aE}{st:cH}{df:Option (List ae)}(e:qD K v qual=O (Jg x qual st df)) :
  ∃(f:ai)(oc:ae)(od:Option ai)(dV kV doc pm:ae)(an:Option ai)(dW ct:ae)(sl:Array (Option ae)),v=O (O (.ref f))/\K.lookup f=O ⟨oc,od,.func (fnOf x qual (jJ st) (gM st) (aC st) dV kV doc pm an dW ct),sl⟩ /\
   codeIn K dW qual=true/\isFn K (.ref f)=true/\NJ K dV=O df:=by
 unfold qD at e;split at e
 .rename_i f;split at e
  .rename_i oc od fd sl hl;obtain⟨nm,qn,ps,bd,sc,gl,cl,dV,kV,doc,pm,an,cd,ct,bl⟩:=fd;injection e with e;injection e with e1 e2;injection e1 with a1 e1;injection e1 with a2 e1;injection e1 with a3 e1;injection e1 with a4 e1;injection e1 with a5 a6;injection e2 with e3 e4;injection e3 with b1 b2;injection e4 with c1 e4;injection e4 with c2 c3;dsimp only at a1 a2 a3 a4 a5 a6 b1 b2 c1 c2 c3;subst a1 a2 a3 a4 a6 c1 c2 c3;exact⟨f,oc,od,dV,kV,doc,pm,an,cd,ct,sl,Z,hl,b1,b2,a5⟩
  .cases e
 .cases e
theorem xR{K:Frag}{v:ae}(e:NJ K v=O Y):v=.none:=by
 unfold NJ at e;split at e
 .rfl
 .split at e <;> cases e
 .cases e
theorem qE{K:Frag}{v:Option (Option ae)}{x qual:aE}{st:cH}(e:qD K v qual=O (Jg x qual st Y)):∃ f fd,v=O (O (.ref f))/\Jt K x qual st f fd/\isFn K (.ref f)=true:=by
 obtain⟨f,oc,od,dV,kV,doc,pm,an,dW,ct,sl,hv,l,c,i,d⟩:=xV e;obtain rfl:=xR d;exact⟨f,_,hv,Km l c (F2 l),i⟩
section
variable {β:Type}(A:iF β)
def iF.look(K:Frag):=(A.ks.map λk=>qD K (k.1.val K) k.1.qual,A.cs.map (uD K),A.is.map λx=>uK K x.1,A.ss.map λx=>uS K x.1,A.bs.map λx=>nsIn K bo x,A.xc K,A.ext K)
def iF.want(w:bv):=(A.ks.map λk=>O (Jg k.1.nm k.1.qual k.2.1 k.2.2),A.cs.map λc=>O (true,O (O (r9 "object.__setattr__")),c.2.map λ_=>O (Y:Option ae)),A.is.map λx=>O x.2,A.ss.map λx=>O x.2,A.bs.map λ_=>O (Y:Option ae),true,A.NL w)
def iF.Ok(w:bv)(K:Frag):Prop:=A.look K=A.want w
end
theorem sZ{α γ:Type}{l:List α}{f g:α->γ}(e:l.map f=l.map g){i:Nat}{a:α}(h:l[i]?=O a):f a=g a:=by
 have z:=congrArg (λl=>l[i]?) e;simp only [au,h,d8] at z;injection z
section
variable {β:Type}{A:iF β}{w:bv}{K:Frag}{h:cR}{mg:aE->Option ae}
theorem iF.Ok.fn(e:A.Ok w K){i:Nat}{k:Ky}{st:cH}{df:Option (List ae)}(hi:A.ks[i]?=O (k,st,df)):qD K (k.val K) k.qual=O (Jg k.nm k.qual st df):=sZ (f:=λk:Ky × cH × Option (List ae)=>qD K (k.1.val K) k.1.qual) (g:=λk=>O (Jg k.1.nm k.1.qual k.2.1 k.2.2)) (congrArg Prod.fst e) hi
theorem iF.Ok.defAt(e:A.Ok w K)(X:K.In h)(G:h.Ns bo mg)(i:Nat){x:aE}{st:cH}{ps:List aE}(hi:A.ks[i]?=O (.df x,st,Y))
  (hb:∀(kV doc pm:ae)(an:Option ai)(dW ct:ae)(us:List ae),us.length=ps.length->Hg (fnOf x x (jJ st) (gM st) (aC st) .none kV doc pm an dW ct) ⟨us,[]⟩=pure (ps.zip us)):aN K mg x st ps:=by
 obtain⟨f,fd,hv,F,_⟩:=qE (e.fn hi);exact⟨f,fd,F,mg_of X G hv,F.binds hb⟩
theorem iF.Ok.law(e:A.Ok w K)(X:K.In h)(G:h.Ns bo mg)(i:Nat){x:aE}{st:cH}{fa:ai}(hi:A.ks[i]?=O (.df x,st,Y))(hm:mg x=O (.ref fa)) :
  ∃ kV doc pm an dW ct,Jt K x x st fa (fnOf x x (jJ st) (gM st) (aC st) .none kV doc pm an dW ct):=by
 obtain⟨f,oc,od,dV,kV,doc,pm,an,dW,ct,sl,hv,l,c,_,d⟩:=xV (e.fn hi);obtain rfl:=xR d;have z:=hm.symm.trans (mg_of X G hv);injection z with z;injection z with z;subst z;exact⟨kV,doc,pm,an,dW,ct,Km l c (F2 l)⟩
theorem iF.Ok.cls(e:A.Ok w K)(X:K.In h)(G:h.Ns bo mg)(i:Nat){x:aE}{fs:List aE}(hi:A.cs[i]?=O (x,fs)):∃ C,nsIn K bo x=O (O (.ref C))/\makesIn K C=true/\keepIn K (.ref C)=true/\ClsAt K mg x C fs:=by
 have z:=sZ (f:=uD K) (g:=λc=>O (true,O (O (r9 "object.__setattr__")),c.2.map λ_=>O (Y:Option ae))) (congrArg (λp=>p.2.1) e) hi;unfold uD at z;split at z
 .rename_i C hC;injection z with z;injection z with z1 z2;injection z2 with z2 z3;simp only [aQ] at z1;obtain⟨⟨⟨⟨g1,g2⟩,g3⟩,g4⟩,g5⟩:=z1;refine⟨C,hC,g4,g5,⟨g1,g2,g3,z2⟩,mg_of X G hC,λf hf=>?_⟩;obtain⟨j,hj⟩:=k9.mp hf;exact sZ (f:=λf=>findIn K (.ref C) f) (g:=λ_=>O (Y:Option ae)) z3 hj
 .cases z
theorem iF.Ok.Cd(e:A.Ok w K)(i:Nat){c m qual:aE}{C:ai}{st:cH}{ps:List aE}(hC:nsIn K bo c=O (O (.ref C)))(hi:A.ks[i]?=O (.me c m qual,st,Y))
  (hb:∀(kV doc pm:ae)(an:Option ai)(dW ct:ae)(us:List ae),us.length=ps.length->Hg (fnOf m qual (jJ st) (gM st) (aC st) .none kV doc pm an dW ct) ⟨us,[]⟩=pure (ps.zip us)):j5 K C m qual st ps:=by
 obtain⟨f,fd,hv,F,i⟩:=qE (e.fn hi);have hv:(match nsIn K bo c with | some (O v)=>findIn K v m | _=>Y)=O (O (.ref f)):=hv;rw[hC] at hv;exact⟨f,fd,F,⟨hv,i,F.kp⟩,F.binds hb⟩
theorem iF.Ok.Ov(e:A.Ok w K)(i:Nat){c qual:aE}{C:ai}{st:cH}{ps:List aE}(hC:nsIn K bo c=O (O (.ref C)))(hm:makesIn K C=true)(hk:keepIn K (.ref C)=true)(hi:A.ks[i]?=O (.me c "__init__" qual,st,Y))
  (hb:∀(kV doc pm:ae)(an:Option ai)(dW ct:ae)(us:List ae),us.length=ps.length->Hg (fnOf "__init__" qual (jJ st) (gM st) (aC st) .none kV doc pm an dW ct) ⟨us,[]⟩=pure (ps.zip us)):qw K C qual st ps:=by
 obtain⟨f,fd,hv,F,i⟩:=qE (e.fn hi);have hv:(match nsIn K bo c with | some (O v)=>findIn K v "__init__" | _=>Y)=O (O (.ref f)):=hv;rw[hC] at hv;exact⟨f,fd,F,⟨hm,hv,i,hk⟩,F.binds hb⟩
theorem iF.Ok.int(e:A.Ok w K)(X:K.In h)(G:h.Ns bo mg)(i:Nat){x:aE}{v:Int}(hi:A.is[i]?=O (x,v)):∃ t,mg x=O (.int v t):=by
 have z:=sZ (f:=λx:aE × Int=>uK K x.1) (g:=λx=>O x.2) (congrArg (λp=>p.2.2.1) e) hi;unfold uK at z;split at z
 .rename_i u t hC;injection z with z;dsimp only at z hC;subst z;exact⟨t,mg_of X G hC⟩
 .cases z
theorem iF.Ok.str(e:A.Ok w K)(X:K.In h)(G:h.Ns bo mg)(i:Nat){x:aE}{v:aE}(hi:A.ss[i]?=O (x,v)):∃ t,mg x=O (.str v t):=by
 have z:=sZ (f:=λx:aE × aE=>uS K x.1) (g:=λx=>O x.2) (congrArg (λp=>p.2.2.2.1) e) hi;unfold uS at z;split at z
 .rename_i u t hC;injection z with z;dsimp only at z hC;subst z;exact⟨t,mg_of X G hC⟩
 .cases z
theorem iF.Ok.jg(e:A.Ok w K)(X:K.In h)(G:h.Ns bo mg)(i:Nat){x:aE}(hi:A.bs[i]?=O x):mg x=FB :=
 mg_none_of X G (sZ (f:=λx=>nsIn K bo x) (g:=λ_=>O (Y:Option ae)) (congrArg (λp=>p.2.2.2.2.1) e) hi)
theorem iF.Ok.more(e:A.Ok w K):A.ext K=A.NL w:=congrArg (λp=>p.2.2.2.2.2.2) e
theorem qK{γ:Type}{x:aE}{g:Frag->ai->γ}{v:γ}(X:K.In h)(G:h.Ns bo mg)(e:mI K x g=O v):∃ d,mg x=O (.ref d)/\g K d=v:=by
 unfold mI at e;split at e
 .rename_i d hC;injection e with e;exact⟨d,mg_of X G hC,e⟩
 .cases e
end
theorem PJ{l:OpenLaw}{n k:Nat}{q:aS}{loose:List aE}{XP:(aE->Option ae)->cR->Prop}{d:DefRec}{Fc:bv->Frag->Prop}{sp:Frag->Sp}{x nm:aE}
  (hn:l.most=O n) (Eo:n<=az) (hdf:d.params.defaults=[]) (hr:ig k zi) (qg:d.name=nm)
  (F:∀ (w:bv) (K:Frag) (mg:aE->Option ae) (fa:ai) (h:cR),Fc w K->K.In h->h.Ns bo mg->mg nm=O (.ref fa) ->
   ∃ fd:iJ,(∀ (s:aq) (u:ae),Nh s fd ⟨[u],[]⟩ [(x,u)])/\∀ base:cR,K.In base->base.Ns bo mg->ow l.prog w K mg base DR k fa fd [x] (sp K))
  (M8:∀(K:Frag)(H:Hp)(a:ai)(ns:List Int),ns.length<=n->Rm H->bI K H a (ns.map V.int)->sp K [.ref a] H (λv _=>v=.bl true) λ_ _ _=>False)
  (hCX:∀(H:Hp)(s:aq)(e:ae)(s':aq),DR [] H s (λ_ _ _=>False) e s'->False) :
  WalkO q loose XP (λw h=>∃ K:Frag,K.In h/\Fc w K) l.row.toRowW d [] (λf vs=>aaq f vs):=by
 refine Yy.BG hn hdf λw s₀ s₁ mg mb fa o pm cd doc a vs ns G E1 ho hd Kv Qw Sd hints hlen hg=>?_;obtain⟨K,KX,fc⟩:=E1;rw[qg] at Qw;obtain⟨fd,hb,hF⟩:=F w K mg fa _ fc KX G.T.g Qw;exact KU KX G.T.g G.T.b G.T.builtins G.T.nolimit hg Sd hints (bF hlen Eo) hr hF hb (λH hO hS=>M8 K H a ns hlen hO hS) λH e s'=>hCX H s₁ e s'
section
variable {w:bv}{K:Frag}{h:cR}{mg:aE->Option ae}{x:aE}
theorem On{xs:List aE}(X:K.In h)(G:h.Ns bo mg)(e:mI K x C6=O (O xs)):u9 K mg x xs:=qK X G e
theorem Ol{P:aS}{tab:List (aE × Int)}(X:K.In h)(G:h.Ns bo mg)(e:mI K x B7=O (false,O (tab.map λp=>(kG w p.1,p.1,p.2))))(nd:(tab.map (·.1)).Nodup):qu P w K mg x tab:=by
 obtain⟨d,hm,hd⟩:=qK X G e;injection hd with h1 h2;exact Oh hm h1 h2 nd
end
end L2
namespace L2
open PySem PySem.Spec PyProof.Rows
section
variable {X:Cx}
def Pd(K:af):V->List V->Hp->VK->Prop:=λx vs H Q=>∃(l:ai)(xs:List V)(k:V)(j:Nat),x=.ref l/\vs=[k]/\bI K H l xs/\oq k=true/\xs.all oq=true/\xs.findIdx? (λy=>BU y k)=O j/\Q (.int (j:Nat)) H
theorem tj:MR X "list.index" (Pd X.K):=by
 intro pins s J H x vs v us Q I rx rv h;obtain⟨l,xs,k,j,rfl,rfl,hS,fk,fs,hj,q⟩:=h;cases rx;obtain⟨u,rfl,ru⟩:=rv.one;obtain⟨ci,r,pl,hz⟩:=I.list hS;obtain⟨⟨cls,dd,data,sl⟩,ho,hc,n,hd⟩:=id pl.isList;simp only at hc hd;subst hc hd;have hlen:=r.length;obtain⟨hj1,KD,VR⟩:=t4.mp hj;have hn:=mS;have at_:∀ m (h1:m<xs.length) (h2:m<ci.length),zl k ci[m]=BU xs[m] k:=λm h1 h2=>by
  obtain⟨v',AW,rv'⟩:=L2.Paired.at r (bi h1);rw[bi h2] at AW;injection AW with AW;rw[AW];exact Eb rv' (bL.mp fs _ (oA h1))
 refine eG eZ ⟨_,ho,Z⟩ zb (xG _ _)
  (J3 l ci.toArray n dd sl u (zl k) j (by simpa [hlen] using hj1) (by (clear hlen;omega)) ?_ ?_) ⟨ho,λy hy=>nA ru fk r fs y (by simpa using hy),⟨.int _,H,I.tok _,⟨_,Z⟩,q⟩⟩
 .show zl k ci[j]=true;rw[at_ j hj1 (by omega)];exact KD
 .intro m hm gz;show zl k ci[m]=false;have hm':m<ci.length:=by simpa using hm
  rw[at_ m (by omega) hm'];simpa using VR m gz
end
end L2
namespace Law
open PySem L2
def fo(G:List Row):List Row:=G.map λr=>(1-r.1,r.2.1+1,r.2.2)
section
variable {G:List Row}{hf:Int->Int}{wf:Int->Option Int}
theorem l8(G:List Row):(fo G).length=G.length:=ab _
theorem pM{p:Int}(hp:je G p):hd (fo G) p=1-hd G p/\rk (fo G) p=rk G p+1/\wy (fo G) p=wy G p:=by
 obtain⟨row,hr⟩:=Vj hp.1 hp.2;have h2:(fo G)[p.toNat]?=O (1-row.1,row.2.1+1,row.2.2):=by unfold fo;rw[au,hr];rfl
 rw[ql h2,vT h2,tV h2,ql hr,vT hr,tV hr];exact⟨Z,Z,Z⟩
theorem wm:je (fo G)=je G:=funext λp=>by unfold je;rw[l8]
theorem Mx{h:Int}{D:Int->Prop}(hh:h=0\/h=1)(w:uA G (je G) wf h D):uA (fo G) (je (fo G)) wf (1-h) D:=by
 rw[wm];have ho:∀ p,D p->(hd (fo G) p=1-h↔hd G p=h):=λp hp=>by
  have:=(pM (w.sub p hp)).1;omega
 refine⟨w.sub,λp hp o=>?_,λp hp o=>?_,λp hp hr t=>?_⟩
 .rw[(pM (w.sub p hp)).2.2];exact w.own p hp ((ho p hp).mp o)
 .rw[(pM (w.sub p hp)).2.2];exact w.oth p hp λz=>o ((ho p hp).mpr z)
 .have e:=(pM (w.sub p hp)).2.1;refine w.nb p hp (by omega) (t.imp λx y z=>?_);obtain⟨⟨a,b,c⟩,r1,r2⟩:=z;have ex:=pM (w.sub x a);have ey:=pM (w.sub y b);refine⟨⟨a,b,?_⟩,by omega,by omega⟩
  by_cases o:hd G x=h
  .exact(oN o).mpr ((oN ((ho x a).mpr o)).mp c)
  .have:=(n6 (λz=>o ((ho x a).mp z))).mp c;rw[ex.2.2] at this;exact(n6 o).mpr this
theorem Mv(s:FG G (je G) hf wf):FG (fo G) (je (fo G)) (λp=>1-hf p) wf:=by
 refine⟨λp hp=>?_,λh hh=>?_⟩
 .rw[wm] at hp;have:=s.mh p hp;omega
 .have w:=Mx (h:=1-h) (by omega) (s.QZ (1-h) (by omega));rw[show 1-(1-h)=h by omega] at w;refine w.congr (λ_ _=>rfl) λp=>?_;rw[wm];exact and_congr Z7 (by omega)
end
end Law
namespace L2
open PySem PySem.Spec PyProof.Rows
def oH(P:aS)(w:bv)(K:af)(mg:aE->Option ae)(x:aE)(tab:List (aE × aE)):Prop:=∃(d:ai)(bM:List (Key × V))(ep:Nat),mg x=O (.ref d)/\(d == d4)=false/\(∃ vs,KV bM vs/\∀ h:cR,K.In h->h.DictAt (cT P w) d vs ep)/\bM.map (·.1)=tab.map (λp=>(iH p.1:Key))/\∀ p∈tab,∃ f,eO bM (.inr p.1)=O (.ref f)/\mg p.2=O (.ref f)
theorem oH.fn{P:aS}{w:bv}{K:af}{mg:aE->Option ae}{x:aE}{tab:List (aE × aE)}(h:oH P w K mg x tab):JW P w K mg x tab:=by
 obtain⟨d,bM,ep,hm,hd,⟨vs,rel,dd⟩,_,ht⟩:=h;exact⟨d,bM,hm,⟨hd,vs,rel,λh k=>(dd h k).dictOf⟩,ht⟩
theorem Pf{P:aS}{w:bv}{K:af}{mg:aE->Option ae}{x:aE}{d:ai}{tab:List (aE × aE)}{l:List (Int × aE × ai)}(hm:mg x=O (.ref d))(hd:(d == d4)=false)(h:Ef K d=O l)(hh:∀ p∈l,p.1=kG w p.2.1)(nd:(l.map (·.2.1)).Nodup)(JE:l.map (·.2.1)=tab.map (·.1))(hf:∀ p∈tab,∃ q∈l,q.2.1=p.1/\mg p.2=O (.ref q.2.2)):oH P w K mg x tab:=by
 unfold Ef at h;cases hl:K.lookup d with
 |none=>rw[hl] at h;cases h
 |some o =>
  rw[hl] at h;simp only at h;split at h
  case isFalse=>cases h
  rename_i hc;rw[aQ,aQ] at hc;obtain⟨⟨c1,c2⟩,c3⟩:=hc;split at h
  case h_2=>cases h
  rename_i es ep HX;split at h
  .obtain⟨p1,p2⟩:=Cz (P:=P) (w:=w) h hh;have W8:((l.map λp=>((.inr p.2.1:Key),b8 p.2.2)).map (·.1)).Nodup:=by
    rw[dD];have:l.map ((λkv:Key × ae=>kv.1) ∘ λp=>((.inr p.2.1:Key),b8 p.2.2))=(l.map (·.2.1)).map iH:=by rw[dD];rfl
    rw[this];exact nd.map _ λx y h z=>h (lc z)
   refine⟨d,l.map λp=>((.inr p.2.1:Key),V.ref p.2.2),ep,hm,hd,⟨_,?_,λhp KI=>⟨o,es,KI d o hl,⟨eq_of_beq c1,m6.mp c2,MK.mp c3⟩,HX,(λe he=>p2 e (by simpa using he)),p1,W8⟩⟩,?_,λp hp=>?_⟩
   .clear p1 p2 W8 hf h hh nd JE
    induction l with
    |nil=>exact .nil
    |cons q r ih=>exact .cons ⟨Z,Z⟩ ih
   .rw[dD,show tab.map (λp=>(iH p.1:Key))=(tab.map (·.1)).map iH by rw[dD];rfl,← JE,dD];rfl
   .obtain⟨q,hq,e1,e2⟩:=hf p hp;refine⟨q.2.2,?_,e2⟩;clear p1 p2 W8 hf h hh JE;rw[← e1];unfold eO
    induction l with
    |nil=>cases hq
    |cons z r ih =>
     rw[bY,dt] at nd;rcases aG.mp hq with rfl | hq
     .rw[bY,Fy (by simp)];rfl
     .have jZ:z.2.1≠q.2.1:=λe=>nd.1 (by rw[e];exact bE.mpr ⟨q,hq,Z⟩);rw[bY,kE (by simp[jZ])];exact ih nd.2 hq
  .cases h
section
open PySem.W PySem.Calls
variable {w:bv}{K:Frag}{h:cR}{mg:aE->Option ae}{x:aE}
theorem Om{P:aS}{tab:List (aE × aE)}{ns:List aE}(hn:tab.map (·.2)=ns)(X:K.In h)(G:h.Ns bo mg)(e:mI K x (BY ns)=O (false,O (tab.map λp=>(kG w p.1,p.1),tab.map λ_=>true)))(nd:(tab.map (·.1)).Nodup):oH P w K mg x tab:=by
 subst hn;obtain⟨d,hm,hd⟩:=qK X G e;injection hd with h1 h2;obtain⟨l,hl,h3⟩:=d5.mp h2;injection h3 with h3 h4;have len:l.length=tab.length:=by simpa using congrArg j3 h3
 have at_:∀ i (p:aE × aE),tab[i]?=O p->∃ q:Int × aE × ai,l[i]?=O q/\q.1=kG w p.1/\q.2.1=p.1/\nsIn K bo p.2=O (O (.ref q.2.2)):=λi p hp=>by
  have hi:i<l.length:=by
   rw[len];exact(aj.mp hp).1
  refine⟨l[i],bi hi,?_⟩;have z:=congrArg (λl=>l[i]?) h3;simp only [au,hp,bi hi,d8] at z;injection z with z;injection z with z1 z2;have y:=congrArg (λl=>l[i]?) h4;have hz:(l.zip (tab.map (·.2)))[i]?=O (l[i],p.2):=by
   rw[gb];exact⟨bi hi,by rw[au,hp];rfl⟩
  simp only [au,hp,hz,d8] at y;injection y with y;exact⟨z1,z2,beq_iff_eq.mp y⟩
 have JE:l.map (·.2.1)=tab.map (·.1):=by
  have z:=congrArg (Uc Prod.snd) h3;rw[dD,dD] at z;exact z
 refine Pf (l:=l) hm h1 hl (λp hp=>?_) ?_ JE λp hp=>?_
 .obtain⟨i,hi⟩:=k9.mp hp;have lt:i<tab.length:=by rw[← len];exact(aj.mp hi).1
  obtain⟨q,hq,e1,e2,_⟩:=at_ i _ (bi lt);rw[hi] at hq;injection hq with hq;rw[hq,e1,e2]
 .rw[JE];exact nd
 .obtain⟨i,hi⟩:=k9.mp hp;obtain⟨q,hq,_,e2,e3⟩:=at_ i p hi;exact⟨q,ag hq,e2,mg_of X G e3⟩
end
def UR(ks:List aE):It:=⟨λi _=>i<ks.length,λi H v H'=>H'=H/\∃ k,ks[i]?=O k/\v=.str k,λi _=>ks.length<=i⟩
theorem Jl{P:aS}{w:bv}{K:af}{tg:cF}(d it:ai)(ks:List aE)(bM:List (Key × V))(vs:List (Key × ae))(ep:Nat)(JE:bM.map (·.1)=ks.map (iH:aE->Key))(Ih:KV bM vs)(FV:∀ h:cR,K.In h->h.DictAt (cT P w) d vs ep) :
  Turn P w K tg (UR ks) [it] it (λi h=>h.IsKeyIter it d i vs.length ep) where
 mem:=by simp
 obj:=λi h st b hb=>by
  have e:b=it:=by simpa using hb
  subst e;obtain⟨o,e,c,dd⟩:=st;exact⟨o,e,λv z=>by rw[dd] at z;cases z⟩
 keep:=λi h h' st k=>let ⟨o,e,c⟩:=st;⟨o,k it (by simp) o e,c⟩
 item:=by
  intro X hP hw hK hc i pins s J H E I hf st hg;subst hP hw hK;have hl:bM.length=vs.length:=jk Ih;have wX:bM.length=ks.length:=by simpa using congrArg j3 JE
  have hg:i<ks.length:=hg;obtain⟨f0,f1,f2,f3,f4,f5⟩:=hf it (by simp);have hx:vs[i]?=O vs[i]:=by simp
  obtain⟨p,hp,r1,r2⟩:∃ p,bM[i]?=O p/\p.1=vs[i].1/\RelV p.2 vs[i].2:=by
   exact Paired.ta Ih hx
  have hk:ks[i]?=O ks[i]:=by simp
  have Zf:p.1=iH ks[i]:=by
   have z:=congrArg (λl=>l[i]?) JE;simp only [au,hp,hk,d8] at z;injection z
  refine wpAny_pyNext_dict_item (knd:=cT X.prog X.w) st (FV _ I.qm) (k:=vs[i].1) (v:=vs[i].2) hx λkey h' Ig Ji sb=>?_;have I1:Inv X pins J H { s with heap:=h' }:=I.turned (t':=s.toks) (λb o hb e=>(sb.2 b hb).trans e) f0 f1 f3 f4 f5;obtain⟨ob,e,c,dd⟩:=id Ji;exact⟨key,Z,FQ (s:={ s with heap:=h' }) e c dd (by decide) ⟨kV p.1,H,I1,by rw[r1];exact Oj Ig,⟨Z,ks[i],hk,by rw[Zf];rfl⟩,Ji,λb hb=>(hf b hb).1⟩⟩
 done:=by
  intro X hP hw hK hc i pins s J H E I hf st hg;subst hP hw hK;have hl:bM.length=vs.length:=jk Ih;have wX:bM.length=ks.length:=by simpa using congrArg j3 JE
  have hg:ks.length<=i:=hg;obtain⟨f0,f1,f2,f3,f4,f5⟩:=hf it (by simp);refine wpAny_pyNext_dict_end (knd:=cT X.prog X.w) (I.ok.hd hc) st (FV _ I.qm) (bf (by omega)) λh' eb=>⟨Z,I.turned (t':=s.toks) (λb o hb e=>eb b o hb e) f0 f1 f3 f4 f5⟩
 self:=λA i s Q E st h=>by
  exact wpAny_pyIter_keyiter st h
theorem O6{X:Cx}{tg:cF}{x:aE}{tab:List (aE × aE)}{pos:jd}(hc:X.calm=true)(hm:oH X.prog X.w X.K X.mg x tab)(hg:Gl X x:=by rfl)(hd:(x == ("__debug__" : aE))=false:=by decide):PI X tg (.Name x pos) (λ J H R=>R (UR (tab.map (·.1))) H):=by
 obtain⟨d,bM,ep,hm,lo,⟨vs,rel,dd⟩,JE,_⟩:=hm;intro pins s J H R I h;refine eC (pE (v:=.ref d) hg hm Z hd pins s J H (λx H1=>x=.ref d/\H1=H) I ⟨Z,Z⟩) λv s1 cX=>?_;obtain⟨x,H1,I1,r1,e,e2⟩:=cX;subst e e2;cases r1;refine wpAny_pyIter_dict lo (dd _ I1.qm) ?_;refine⟨s1.heap.objs.size,[s1.heap.objs.size],_,_,_,Z,I1.kept (t':=s1.toks) λb o e=>ar _ e,Jl d _ (tab.map (·.1)) bM vs ep (by rw[JE,dD];rfl) rel dd,⟨_,aO _ Z,Z,Z⟩,λb hb=>?_,h⟩;have e:b=s1.heap.objs.size:=by simpa using hb
 subst e;exact I1.wU (ay _) (I1.c8.fresh (ay _))
theorem Kj{ks:List aE}{g:TG}{tb:TS}{D:Ends}{J:St}{H:Hp}(Pv:Nat->St->Hp->Prop)(h0:Pv 0 J H)
  (hs:∀ i k J H,ks[i]?=O k->Pv i J H->g (.str k) J H λσ2 H2=>tb { D with nx:=Pv (i+1),ct:=Pv (i+1),bk:=D.nx } σ2 H2) (hd:∀ J H,Pv ks.length J H->D.nx J H) :
  ∃ W:Nat->Nat->St->Hp->Prop,(∃ m,W 0 m J H)/\∀ i m J H,W i m J H ->
   ((UR ks).stop i H/\D.nx J H)\/((UR ks).go i H/\∃ N:St->Hp->Prop,(∀ σ' H',N σ' H'->∃ m',m'<m/\W (i+1) m' σ' H')/\∀ x H',(UR ks).Df i H x H'->g x J H' λσ2 H2=>tb { D with nx:=N,ct:=N,bk:=D.nx } σ2 H2):=by
 refine⟨λi m J H=>m=ks.length-i/\i<=ks.length/\Pv i J H,⟨ks.length,by simp,bq _,h0⟩,?_⟩;rintro i m J H ⟨rfl,hi,p⟩
 by_cases gz:i<ks.length
 .refine .inr ⟨gz,Pv (i+1),λσ' H' p'=>⟨ks.length-(i+1),by omega,Z,gz,p'⟩,λx H' y=>?_⟩;obtain⟨rfl,k,hk,rfl⟩:=y;exact hs i k J _ hk p
 .have e:i=ks.length:=by omega
  subst e;exact .inl ⟨ay _,hd J H p⟩
def Pe:V->List V->Hp->VK->Prop:=λx vs H Q=>∃ z y k,x=.str z/\vs=[.str y,.int k]/\(y.length == 0)=false/\0<=k/\k<1000/\z.length<=az/\(dj z y k).length<=az/\∀ p,H p=Y->Q (.ref p) (upd H p (.lst ((dj z y k).map V.str)))
section
variable {X:Cx}
theorem IG:MR X "str.split" Pe:=by
 intro pins s J H x vs v us Q I rx rv h;obtain⟨z,y,k,rfl,rfl,hy,hk0,hk1,hz,hl,q⟩:=h;obtain⟨t,rfl⟩:=rx;obtain⟨u,u',rfl,⟨t',rfl⟩,⟨t'',rfl⟩⟩:=rv.two;have hk:(decide (k < -2 ^ 63) || decide (k ≥ 2 ^ 63))=false:=by rw[decide_eq_false (by omega),decide_eq_false (by omega)];rfl
 have lay:∀(ci:List ae)(tk:Nat),Vals ((dj z y k).map V.str) ci->EP X pins J Q (.ref s.heap.objs.size) { heap:=s.heap.push { cls:=.type "list",data:=.seq ci.toArray },gens:=s.gens,drawn:=s.drawn,toks:=tk,os:=s.os }:=λci tk r=>by
  refine⟨.ref s.heap.objs.size,_,I.laid (t':=tk) (o:=.lst ((dj z y k).map V.str)) (λb ob q=>ar _ q) (ay _) ?_,Z,q _ (I.c8.fresh (ay _))⟩;exact⟨by rw[ab];exact hl,ci,0,r,aO _ Z⟩
 cases c1:(decide (z.length<y.length) || decide (cS z<cS y)) with
 |true =>
  have e:dj z y k=[z]:=by unfold dj;rw[if_pos c1]
  exact eG jt (ju s z t) iR (u8 _ _ _) (meets_str_split_max_cannot_occur z y k t t' t'' hk c1) (lay [.str z t] _ (by rw[e];exact .cons ⟨t,Z⟩ .nil))
 |false =>
  cases c2:(bW z y 0 z.length (Oq z k)).isEmpty with
  |true =>
   have e:dj z y k=[z]:=by unfold dj;rw[if_neg (by rw[c1];decide),if_pos c2]
   exact eG jt (ju s z t) iR (u8 _ _ _) (meets_str_split_max_not_found z y k t t' t'' hk c1 hy c2) (lay [.str z t] _ (by rw[e];exact .cons ⟨t,Z⟩ .nil))
  |false =>
   have e:dj z y k=uZ z (bW z y 0 z.length (Oq z k)) y.length:=by unfold dj;rw[if_neg (by rw[c1];decide),if_neg (by rw[c2];decide)]
   exact eG jt (ju s z t) iR (u8 _ _ _) (meets_str_split_sep_max z y k t t' t'' hk c1 hy c2 hz (by rw[← e];exact hl)) (lay _ _ (by rw[e];exact tI _ _))
theorem yd:MR X "str.index" (λx vs H Q=>∃(z y:aE)(i:Nat)(r:List Nat),x=.str z/\vs=[.str y]/\bW z y 0 z.length 1=i::r/\Q (.int i) H):=by
 intro pins s J H x vs v us Q I rx rv h;obtain⟨z,y,i,r,rfl,rfl,e,q⟩:=h;obtain⟨t,rfl⟩:=rx;obtain⟨u,rfl,t',rfl⟩:=rv.one;exact eG F.slot_str_index (ju s z t) F.entry_str_index (F.args_str_index_2 _ _) (gives_str_index z y t t' i r e).meets ⟨.int _,H,I.tok _,⟨_,Z⟩,q⟩
theorem O0{C:ai}{x:aE}{fs:List aE}{n k:Nat}{ps:List aE}{sp:Sp}{p pos:jd}(CL:ClsAt X.K X.mg x C fs)(D:GZ X.prog X.w X.K X.mg X.base C n ps sp)(hr:ig k X.A)(hk:n+1<=k:=by decide)(hg:Gl X x:=by rfl)(Ei:(x == ("__debug__" : aE))=false:=by decide):PE X (.Call (.Name x p) [] [] pos) (GI C sp [] E0 Mp):=by
 obtain⟨f,fd,F,hm,hb⟩:=D.ex;exact Lz hm F (hr.mono hk) hg CL.mgC hb .nil yk Ei
theorem ym{P:aS}{w:bv}{K:af}{mg:aE->Option ae}{x:aE}{tab:List (aE × Int)}{pos:jd}(hP:X.prog=P)(hw:X.w=w)(hK:X.K=K)(hg':X.mg=mg)(hm:qu P w K mg x tab)(hg:Gl X x:=by rfl)(hd:(x == ("__debug__" : aE))=false:=by decide):PE X (.Name x pos) (QV P w K tab):=by
 subst hP hw hK hg';exact Ly hm hg hd
theorem OV{P:aS}{w:bv}{K:af}{i o:cF}{td ty:TE}(hP:X.prog=P)(hw:X.w=w)(hK:X.K=K)(hi:PE X i ty)(ho:PE X o td):PC X .In i o (QU P w K false ty td):=by
 subst hP hw hK;exact OW hi ho
theorem Lw{P:aS}{w:bv}{K:af}{i o:cF}{pos:jd}{td ty:TE}(hP:X.prog=P)(hw:X.w=w)(hK:X.K=K)(ho:PE X o td)(hi:PE X i ty)(hs:Np i):PE X (.Subscript o i pos) (Mo P w K td ty):=by
 subst hP hw hK;exact Cv ho hi hs
theorem LB{e:cF}:PE X e (λ_ _ _=>False):=λ_ _ _ _ _ _ h=>h.elim
end
theorem J7{x:aE}{c i:Nat}:kK x ⟨#[c]⟩ x.length i↔x.cps.toList[i]?=O c:=by
 rw[D5];show i+1<=_/\(x.cps.toList.drop i).take 1=[c]↔_;constructor
 .rintro⟨h1,h2⟩;rw[cZ (by omega)] at h2;rw[bi (by omega)];simpa using h2
 .intro h;obtain⟨h1,h2⟩:=aj.mp h;refine⟨by omega,?_⟩;rw[cZ h1,h2];rfl
theorem uN{x:aE}{c lim:Nat}:∀(m i free:Nat)(acc:Array Nat),free<=i ->
  (forIn (gj i m) (acc,free) (d7 x ⟨#[c]⟩ x.length lim)).run.fst.toList=acc.toList++((gj i m).filter λp=>decide (x.cps.toList[p]?=O c)).take (lim-acc.size)
 |0,i,free,acc,_=>by
  show acc.toList=acc.toList++P4 _ [];simp
 |m + 1,i,free,acc,h=>by
  rw[List.range'_succ,Rk]
  by_cases hc:x.cps.toList[i]?=O c
  .by_cases hs:acc.size<lim
   .have hA:=J7.mpr hc;have e:d7 x ⟨#[c]⟩ x.length lim i (acc,free)=pure (eW (acc.push i,i+1)):=by
     unfold d7;exact if_pos ⟨⟨⟨hs,h⟩,hA.1⟩,hA.2⟩
    rw[e];show(forIn (gj (i+1) m) (acc.push i,i+1) (d7 x ⟨#[c]⟩ x.length lim)).run.fst.toList=_;rw[uN m (i+1) (i+1) (acc.push i) (ay _),bw (p:=λp=>decide (x.cps.toList[p]?=O c)) (decide_eq_true hc),tY,Array.size_push,d6];obtain⟨k,hk⟩:∃ k,lim-acc.size=k+1:=⟨lim-acc.size-1,by omega⟩
    rw[hk,mi,show lim-(acc.size+1)=k by omega];rfl
   .have e:d7 x ⟨#[c]⟩ x.length lim i (acc,free)=pure (eW (acc,free)):=by
     unfold d7;exact if_neg λz=>hs z.1.1.1
    rw[e];show(forIn (gj (i+1) m) (acc,free) (d7 x ⟨#[c]⟩ x.length lim)).run.fst.toList=_;rw[uN m (i+1) free acc (by omega),show lim-acc.size=0 by omega];simp
  .have e:d7 x ⟨#[c]⟩ x.length lim i (acc,free)=pure (eW (acc,free)):=by
    unfold d7;exact if_neg λz=>hc (J7.mp ⟨z.1.2,z.2⟩)
   rw[e];show(forIn (gj (i+1) m) (acc,free) (d7 x ⟨#[c]⟩ x.length lim)).run.fst.toList=_;rw[uN m (i+1) free acc (by omega),bJ (p:=λp=>decide (x.cps.toList[p]?=O c)) (λz=>hc (of_decide_eq_true z))]
theorem Gd(x:aE)(c lim:Nat):bW x ⟨#[c]⟩ 0 x.length lim=((gj 0 (x.length+1)).filter λp=>decide (x.cps.toList[p]?=O c)).take lim:=by
 rw[StrLaws.occ_eq,uN _ _ _ _ (ay _)];simp
theorem qC{L a r:List Nat}{c:Nat}(i m:Nat)(ha:c ∉ a)(hd:L.drop i=a++c::r)(hm:a.length<m):(gj i m).filter (λp=>decide (L[p]?=O c))=(i+a.length)::(gj (i+a.length+1) (m-a.length-1)).filter (λp=>decide (L[p]?=O c)):=by
 have at_:∀ k,L[i+k]?=(a++c::r)[k]?:=λk=>by rw[← hd,dU]
 have e:gj i m=gj i a.length++(i+a.length)::gj (i+a.length+1) (m-a.length-1):=by
  rw[show m=a.length+(1+(m-a.length-1)) by omega,← Ju,← Ju];congr 1;show[i+a.length]++_=_;rw[show a.length+(1+(m-a.length-1))-a.length-1=m-a.length-1 by omega];rfl
 rw[e,cD,bw (by
  have:=at_ a.length;rw[cN (ay _),vd] at this;simpa using this)]
 rw[Fx.mpr λp hp=>?_,xF];obtain⟨h1,h2⟩:=List.mem_range'_1.mp hp;intro z;have z:=of_decide_eq_true z;have w:=at_ (p-i);rw[show i+(p-i)=p by omega,z,ck (by omega)] at w;exact ha (ag w.symm)
theorem vF{x:aE}:cS (⟨#[32]⟩:aE)=1:=by trivial
theorem B9(x:aE):1<=cS x:=by
 unfold cS;split
 .omega
 .split <;> omega
theorem ya(x:aE):Oq x 2=2:=by
 unfold Oq;rfl
theorem a0A{z:aE}{a r:List Nat}(hz:z.cps.toList=a++32::r)(ha:32 ∉ a):∃ t,bK z ⟨#[32]⟩=⟨a.toArray⟩::t:=by
 have hl:z.length=a.length+(r.length+1):=by rw[a0e,hz];simp
 have ho:=qC (L:=z.cps.toList) 0 (z.length+1) ha (by rw[mY,hz]) (by omega);unfold bK;rw[if_neg (by
  rw[decide_eq_false (by show ¬ z.length<1;omega),decide_eq_false (by rw[vF (x:=z)];have:=B9 z;omega)];decide)]
 rw[Gd,ho,mi,if_neg (by simp),jw,PySem.StrLaws.partsFrom.eq_2];exact⟨_,congrArg (·::_) (a0g (by rw[l7,hz];simp))⟩
theorem Jh{z:aE}{a b r:List Nat}(hz:z.cps.toList=a++32::(b++32::r))(ha:32 ∉ a)(hb:32 ∉ b):dj z ⟨#[32]⟩ 2=[⟨a.toArray⟩,⟨b.toArray⟩,⟨r.toArray⟩]:=by
 have hl:z.length=a.length+(b.length+r.length+1+1):=by rw[a0e,hz];simp;omega
 have ho:=qC (L:=z.cps.toList) 0 (z.length+1) ha (by rw[mY,hz]) (by omega);have hd:z.cps.toList.drop (0+a.length+1)=b++32::r:=by
  rw[hz,aaf,← iS,kD];rfl
 have ho2:=qC (L:=z.cps.toList) (0+a.length+1) (z.length+1-a.length-1) hb hd (by omega);rw[ho2] at ho;unfold dj;rw[if_neg (by
  rw[decide_eq_false (by show ¬ z.length<1;omega),decide_eq_false (by rw[vF (x:=z)];have:=B9 z;omega)];decide)]
 rw[ya,Gd,ho,mi,mi,m4,if_neg (by simp),jw,PySem.StrLaws.partsFrom.eq_2,PySem.StrLaws.partsFrom.eq_2,PySem.StrLaws.partsFrom.eq_1];have l1:(⟨#[32]⟩:aE).length=1:=rfl;rw[l1];refine congr (congrArg P2 (a0g ?_)) (congr (congrArg P2 (a0g ?_)) (congrArg (λq=>[q]) (a0g ?_)))
 .rw[l7,hz];simp
 .rw[l7,hd];simp
 .rw[l7,hz,hl];have:(a++32::(b++32::r)).drop (0+a.length+1+b.length+1)=r:=by
   rw[show 0+a.length+1+b.length+1=a.length+(1+(b.length+1)) by omega,← iS,kD,← iS];show(b++32::r).drop (b.length+1)=r;rw[← iS,kD];rfl
  rw[this,hE (by omega)]
end L2
namespace L2
open PySem PySem.W PySem.Calls PyProof.Rows
theorem xX{p q:aS}{loose:List aE}{Xt:aq->Bool}{g0:Bool}{H:cR}{β:Type}{A:iF β}{w:bv}{pt:cR->Frag}{o:Option SharedT}{k1 k2:UT}(hk:A.ks=k1++k2)
  (b:o.map (λr=>EK p H r.abs)=O true) (c:o.map (λr=>ff q loose (nv p.main.body) Xt g0 r.abs)=O (openGood q loose))
  (e1:o.map (λr=>qH k1 (pt r.abs.heap))=O (qI k1)) (e2:o.map (λr=>qH k2 (pt r.abs.heap))=O (qI k2)) (z:o.map (λr=>A.rest (pt r.abs.heap))=O (A.LN w)) :
  o.map (λr=>mK p q loose Xt g0 (λs=>A.look (pt s.heap)) H r.abs)=O (true,openGood q loose,A.want w):=by
 cases o with
 |none=>cases b
 |some r =>
  simp only [d8,Option.some.injEq] at b c e1 e2 z ⊢;unfold mK;refine uz b (uz c ?_);show A.look (pt r.abs.heap)=A.want w;unfold iF.look iF.want;refine uz ?_ z;show A.ks.map _=A.ks.map _;rw[hk,aB,aB];unfold qH qI at e1 e2;rw[e1,e2]
end L2
namespace Law
open PySem L2
structure Txt(mg:aE->Option ae):Prop where
 J8:mg "all" = Y
 Ru:mg "bool" = Y
 Rv:mg "dict" = Y
 my:mg "enumerate" = Y
 J9:mg "int" = Y
 jI:mg "isinstance" = Y
 fR:mg "len" = Y
 D6:mg "list" = Y
 Ka:mg "max" = Y
 U7:mg "min" = Y
 mz:mg "range" = Y
 U8:mg "set" = Y
 vh:mg "sorted" = Y
 FI:mg "str" = Y
 Kb:mg "zip" = Y
 HN:∃ t,mg "FIGURES" = O (.str "0123456789" t)
 qf:∃ t,mg "GREATEST_LOW_RANK" = O (.int 2 t)
 ue:∃ t,mg "GREATEST_RANK" = O (.int 40 t)
 lA:∃ t,mg "HAND_SIGNS" = O (.str "+-" t)
 HP:∃ t,mg "LETTERS" = O (.str "abcdefghijklmnopqrstuvwxyz" t)
 vt:∃ t,mg "MOST_LETTERS" = O (.int 8 t)
 oy:∃ t,mg "MOST_NUMBER_FIGURES" = O (.int 9 t)
 wW:∃ t,mg "MOST_PLACES" = O (.int 160 t)
 oR:∃ t,mg "MOST_RANKED_PLACES" = O (.int 16 t)
theorem CH:bg ["value"] ["value"] (aC lW):=by trivial
theorem CG:bg ["value","count"] ["value","count"] (aC lV):=by trivial
theorem xk:bg ["hand"] ["hand"] (aC jO):=by trivial
theorem xm:bg ["rank"] ["rank"] (aC jQ):=by trivial
theorem xo:bg ["ways","count","way"] ["ways","count"] (aC jR):=by trivial
theorem z9:bg ["row","count"] ["row","count"] (aC kP):=by trivial
theorem xn:bg ["rows","row","ranks"] ["rows"] (aC iB):=by trivial
theorem EX:bg ["rows"] ["rows"] (aC lJ):=by trivial
theorem Fb:bg ["game","entries","place","row","way"] ["game"] (aC lK):=by trivial
theorem I0:bg ["game"] ["game"] (aC nL):=by trivial
theorem vZ:bg ["count","places","marks","place"] ["count","places"] (aC i5):=by trivial
theorem xu:bg ["game","part"] ["game","part"] (aC jV):=by trivial
theorem uk:bg ["game","hand","inside","wanted","lacking","place","row"] ["game","hand","inside","wanted"] (aC gx):=by trivial
theorem xt:bg ["layer","entries","lacking","joined","place","source"] ["layer","entries","lacking"] (aC jU):=by trivial
theorem Ae:bg ["game","entries","hand","goal","part","inside","wanted","lacking","layers","layer"] ["game","entries","hand","goal","part"] (aC jn):=by trivial
theorem Af:bg ["ways","marks"] ["ways","marks"] (aC jq):=by trivial
theorem xr:bg ["game","hand","layers","rule","ahead","layer","marks","place"] ["game","hand","layers"] (aC jT):=by trivial
theorem Ah:bg ["layers","places","layer"] ["layers"] (aC kW):=by trivial
theorem IZ:bg ["game","cutter"] ["game"] (aC o7):=by trivial
theorem vX:bg ["start","count"] ["start","count"] (aC iZ):=by trivial
theorem z8:bg ["due"] ["due"] (aC kO):=by trivial
theorem Aa:bg ["place","outs"] ["place","outs"] (aC kQ):=by trivial
theorem xq:bg ["word","signs","most"] ["word","signs","most"] (aC iC):=by trivial
theorem EZ:bg ["word"] ["word"] (aC nJ):=by trivial
theorem xp:bg ["word","most"] ["word","most"] (aC jS):=by trivial
theorem Ab:bg ["word"] ["word"] (aC kR):=by trivial
theorem xj:bg ["right"] ["right"] (aC jN):=by trivial
theorem v2:bg ["text"] ["text"] (aC i6):=by trivial
theorem Ak:bg ["word","found","parts"] ["word"] (aC jr):=by trivial
theorem xw:bg ["text","words","head"] ["text"] (aC iD):=by trivial
theorem CM:bg ["names","numbers"] ["names"] (aC kt):=by trivial
theorem Ag:bg ["numbers","name"] ["numbers","name"] (aC kU):=by trivial
theorem Aj:bg ["text","places","names","numbers","rows","place"] ["text"] (aC gH):=by trivial
theorem xl:bg ["word"] ["word"] (aC jP):=by trivial
theorem EY:bg ["desk","name","kinds","held"] ["desk","name","kinds"] (aC nI):=by trivial
theorem CN:bg ["held","name"] ["held","name"] (aC lY):=by trivial
theorem Ai:bg ["desk","kinds"] ["desk","kinds"] (aC kX):=by trivial
theorem CO:bg ["desk","words","made"] ["desk","words"] (aC lZ):=by trivial
theorem CP:bg ["desk","words","held","made"] ["desk","words"] (aC l4):=by trivial
theorem Fa:bg ["desk","words","held","place"] ["desk","words"] (aC nK):=by trivial
theorem xv:bg ["desk","words","held","play"] ["desk","words"] (aC jW):=by trivial
theorem IW:bg ["desk","words","held"] ["desk","words"] (aC o6):=by trivial
theorem ul:bg ["desk","words","held"] ["desk","words"] (aC ij):=by trivial
theorem CQ:bg ["row","words"] ["row"] (aC l5):=by trivial
theorem Po:bg ["form","words","parts","numbers"] ["form","words"] (aC qL):=by trivial
theorem vY:bg ["_law_script","_law_k"] ["_law_script","_law_k"] (aC i4):=by trivial
theorem Ad:bg ["_law_cell","_law_many","_law_letters","_law_size","_law_at","_law_names_here","_law_k","_law_word","_law_j","_law_turn"] ["_law_cell","_law_many"] (aC kT):=by trivial
theorem CI:bg ["_law_script","_law_cell","_law_many","_law_ranks","_law_rows_here","_law_k","_law_place","_law_rank","_law_ways","_law_j"] ["_law_script"] (aC lX):=by trivial
theorem CK:bg ["_law_names_here","_law_rows_here","_law_parts","_law_name","_law_row"] ["_law_names_here","_law_rows_here"] (aC kr):=by trivial
theorem CJ:bg ["_law_desk","_law_names_here","_law_rows_here","_law_hand","_law_pile","_law_gone","_law_pick","_law_row","_law_name","_law_place","_law_start","_law_greatest"] ["_law_desk","_law_names_here","_law_rows_here","_law_hand","_law_pile","_law_gone","_law_pick"] (aC ko):=by trivial
theorem Ac:bg ["_law_script","_law_many","_law_cell"] ["_law_script","_law_many"] (aC kS):=by trivial
theorem Tv:bg ["_law_script","_law_rows_here","_law_names_here","_law_stands","_law_desk","_law_asked_here","_law_place","_law_sign","_law_pile","_law_gone","_law_k","_law_pick"] ["_law_script"] (aC tS):=by trivial
theorem qM:bg ["self","game"] ["self","game"] (aC fU):=by trivial
theorem vV:bg ["self","hand","goal","left"] ["self","hand","goal","left"] (aC iX):=by trivial
theorem rP:bg ["self","left","places","marks"] ["self","left","places"] (aC fz):=by trivial
theorem vU:bg ["self","hand","layers","rule","layer","place"] ["self","hand","layers"] (aC iW):=by trivial
theorem qh:bg ["self","hand","tops","left","marks","place","own"] ["self","hand","tops","left"] (aC fE):=by trivial
theorem xi:bg ["self","part","top","hand","pieces","left","tops","aside","others","lost","layers"] ["self","part"] (aC fb):=by trivial
theorem o8:bg ["self","game","start","answer"] ["self","game","start"] (aC dA):=by trivial
theorem vW:bg ["self"] ["self"] (aC iY):=by trivial
theorem rQ:bg ["self","place"] ["self","place"] (aC gw):=by trivial
theorem tG:bg ["self","kind","names","thing"] ["self","kind","names","thing"] (aC gY):=by trivial
theorem tF:bg ["self"] ["self"] (aC gX):=by trivial
theorem CF:bg ["self","row","words","form"] ["self","row"] (aC lU):=by trivial
section
variable {P:aS}{w:bv}{K:af}{mg:aE->Option ae}{base:cR}
def rR:Sp:=λvs H Q _=>∃ z:Int,vs=[.int z]/\Q (.bl true) H
theorem Cp(F:aN K mg "is_whole" lW ["value"])(T:Txt mg):Dn P w K mg base "is_whole" 1 ["value"] rR:=by
 have sc:=CH;refine F.ok sc (λvs H Q E h=>?_) (λf dW A outer s H vs Q E hr h=>?_)
 .obtain⟨z,rfl,_⟩:=h;rfl
 obtain⟨z,rfl,q⟩:=h;refine⟨_,(aA (bU (zO (bP (BM (K:=K) Z (T := "int")) Z T.jI eP (aa (pv 0) (aa (rG (v:=.ty "int") Z T.J9 nQ Z) am))) (vN (Tj (bP (BM (K:=K) Z (T := "bool")) Z T.jI eP (aa (pv 0) (aa (rG (v:=.ty "bool") Z T.Ru PyProof.Rows.boot_bool Z) am)))))))),?_⟩;refine⟨_,Z,_,"int",_,Z,Z,rA _,true,Z,?_⟩;refine KS ?_;exact⟨_,Z,_,"int",_,Z,Z,zy,false,Z,q⟩
def uR:Sp:=λvs H Q _=>∃ z n:Int,vs=[.int z,.int n]/\Q (.bl (decide (0<=z/\z<n))) H
theorem Co(F:aN K mg "is_place" lV ["value","count"])(T:Txt mg)(jb:Dn P w K mg base "is_whole" 1 ["value"] rR):Dn P w K mg base "is_place" 2 ["value","count"] uR:=by
 have sc:=CG;refine F.ok sc (λvs H Q E h=>?_) (λf dW A outer s H vs Q E hr h=>?_)
 .obtain⟨_,_,rfl,_⟩:=h;rfl
 obtain⟨z,n,rfl,q⟩:=h;refine⟨_,(aA (bU (zO (b9 jb hr (aa (pv 0) am)) (vN (Cu Lp Cs aD (pv 0) (pv 1)))))),?_⟩;refine⟨_,Z,z,Z,true,Z,?_⟩;refine KS ?_;refine⟨_,Z,_,_,Z,Z,decide (0<=z),Z,?_⟩;refine gN (λc=>?_) (λc=>?_)
 .have h0:0<=z:=of_decide_eq_true c;refine⟨_,Z,_,_,Z,Z,?_⟩;show Q (V.bl (decide (z<n))) H;have e:decide (z<n)=decide (0<=z/\z<n):=by
   by_cases h:z<n
   .rw[decide_eq_true h,decide_eq_true ⟨h0,h⟩]
   .rw[decide_eq_false h,decide_eq_false λk=>h k.2]
  rw[e];exact q
 .have e:decide (0<=z/\z<n)=false:=decide_eq_false λk=>c (decide_eq_true k.1);rw[e] at q;exact q
def JS(z:Int):Prop:=z=0\/z=1
def J2(z:Int):Prop:=0<=z/\z<=40
def WG(n:Int)(ws:List Int):Prop:=ws≠[]/\∀ x∈ws,0<=x/\x<n
def FE(n:Int)(r:Row):Prop:=JS r.1/\J2 r.2.1/\WG n r.2.2
def tM(G:List Row):Prop:=G.length<=16/\∀ r∈G,FE G.length r
def L8:Sp:=λvs H Q _=>∃ z:Int,vs=[.int z]/\JS z/\∀ H',aU H H'->Q .fC H'
theorem wY(F:aN K mg "check_hand" jO ["hand"])(T:Txt mg)(jb:Dn P w K mg base "is_whole" 1 ["value"] rR):Dn P w K mg base "check_hand" 2 ["hand"] L8:=by
 have sc:=xk;refine F.ok sc (λvs H Q E h=>?_) (λf dW A outer s H vs Q E hr h=>?_)
 .obtain⟨z,rfl,_⟩:=h;rfl
 obtain⟨z,rfl,hz,q⟩:=h;refine⟨_,(aA (dE (PW.pt (a0o (ji (fM (b9 jb hr (aa (pv 0) am)))) (a0m (cA (lQ (K:=K) Z) (pv 0) (gt (aa aD (aa aD am))) Z))))
   (aA dZ)
   cv)),?_⟩
 refine⟨_,Z,z,Z,_,Z,gO ?_⟩;refine⟨_,Z,(by show 2<=az;decide),λt ht=>?_⟩;refine⟨t,_,Z,.inr (gA.of ao),Z,Z,_,Z,?_⟩;show if (!SC (.int z) (([0,1]:List Int).map V.int))=true then _ else _;rw[oV];refine gN (λc=>?_) (λc=>q _ (av ht _));simp at c;rcases hz with k | k <;> omega
def Me:Sp:=λvs H Q _=>∃ z:Int,vs=[.int z]/\J2 z/\Q .fC H
theorem wZ(F:aN K mg "check_rank" jQ ["rank"])(T:Txt mg)(jb:Dn P w K mg base "is_whole" 1 ["value"] rR):Dn P w K mg base "check_rank" 2 ["rank"] Me:=by
 have sc:=xm;refine F.ok sc (λvs H Q E h=>?_) (λf dW A outer s H vs Q E hr h=>?_)
 .obtain⟨z,rfl,_⟩:=h;rfl
 obtain⟨z,rfl,hz,q⟩:=h;refine⟨_,(aA (dE (PW.pt (a0o (ji (fM (b9 jb hr (aa (pv 0) am)))) (a0o (cA Cs (pv 0) aD (de _)) (a0m (cA yg (pv 0) (pD T.ue) (de _))))))
   (aA dZ)
   cv)),?_⟩
 refine⟨_,Z,z,Z,_,Z,gO ?_⟩;refine⟨_,Z,_,_,Z,Z,_,Z,?_⟩;rw[decide_eq_false (show ¬ z<0 by have:=hz.1;omega)];refine gO ⟨_,Z,_,_,Z,Z,_,Z,?_⟩;rw[decide_eq_false (show ¬ (40:Int)<z by have:=hz.2;omega)];exact gO q
def tU:Sp:=λvs H Q _=>∃(wa:ai)(ws:List Int)(n:Int),vs=[.ref wa,.int n]/\H wa=O (.lst (ws.map V.int))/\WG n ws/\Q .fC H
theorem xb(F:aN K mg "check_ways" jR ["ways","count"])(T:Txt mg)(lL:Dn P w K mg base "is_place" 2 ["value","count"] uR):Dn P w K mg base "check_ways" 3 ["ways","count"] tU:=by
 have sc:=xo;refine F.ok sc (λvs H Q E h=>?_) (λf dW A outer s H vs Q E hr h=>?_)
 .obtain⟨_,_,_,rfl,_⟩:=h;rfl
 obtain⟨wa,ws,n,rfl,hw,hg,q⟩:=h;refine⟨_,(ak (dE (cA lR (bP (gp (K:=K) Z) Z T.fR bu (aa (pv 0) am)) aD (de _))
   (aA dZ)
   cv)
   (aA (fD bB Z (cV (pv 0)) (cU (i:=2) sc.nd Z (aY Z))
   (aA (dE (ji (fM (b9 lL hr (aa (pv 2) (aa (pv 1) am)))))
   (aA dZ)
   cv))))),?_⟩
 refine⟨_,Z,wa,_,Z,.inl (bI.of hw),Z,_,Z,?_⟩;refine gN (λc=>?_) (λc=>?_)
 .have c:=of_decide_eq_true c;injection c with c;rw[ab] at c;exact hg.1 (j4.mp (by omega))
 refine⟨_,Z,wa,Z,⟨_,bI.of hw⟩,gr (K:=K) (a:=wa) (xs:=ws.map V.int) (λi J H2=>H2=H/\∃ y:Option V,J=[O (.ref wa),O (.int n),y]) ⟨Z,_,Z⟩ (λi J H2 _ h=>?_) (λi x J H2 hi h=>?_) (λ J H2 h=>?_)⟩
 .obtain⟨rfl,_⟩:=h;exact bI.of hw
 .obtain⟨rfl,y,rfl⟩:=h;obtain⟨z,hz,rfl⟩:=dR hi;refine⟨_,Z,_,Z,z,n,Z,_,Z,?_⟩;rw[decide_eq_true (hg.2 z (ag hz))];exact gO ⟨Z,_,Z⟩
 .obtain⟨rfl,_⟩:=h;exact q
def v3:Sp:=λvs H Q _=>∃(v:V)(r:Row)(n:Int),vs=[v,.int n]/\zW H r v/\FE n r/\∀ H',aU H H'->Q .fC H'
theorem zJ(F:aN K mg "check_row" kP ["row","count"])(T:Txt mg)(yU:Dn P w K mg base "check_hand" 2 ["hand"] L8)(yV:Dn P w K mg base "check_rank" 2 ["rank"] Me)(yX:Dn P w K mg base "check_ways" 3 ["ways","count"] tU):Dn P w K mg base "check_row" 4 ["row","count"] v3:=by
 have sc:=z9;refine F.ok sc (λvs H Q E h=>?_) (λf dW A outer s H vs Q E hr h=>?_)
 .obtain⟨_,_,_,rfl,_⟩:=h;rfl
 obtain⟨v,r,n,rfl,Wu,⟨h1,h2,h3⟩,q⟩:=h;obtain⟨t,wa,rfl,ht,uh⟩:=tE Wu;refine⟨_,(ak (cL (b9 yU hr (aa (be (m9 (K:=K) Z) (pv 0) aD (λ_ _=>rfl)) am)))
   (ak (cL (b9 yV hr (aa (be (m9 (K:=K) Z) (pv 0) aD (λ_ _=>rfl)) am)))
   (aA (cL (b9 yX hr (aa (be (m9 (K:=K) Z) (pv 0) aD (λ_ _=>rfl)) (aa (pv 1) am))))))),?_⟩
 refine⟨_,Z,t,_,_,_,Z,Z,gA.of ht,bb (j:=0) Z,_,Z,h1,λH1 s1=>?_⟩;refine⟨_,Z,t,_,_,_,Z,Z,gA.of (s1 _ _ ht),bb (j:=1) Z,_,Z,h2,?_⟩;exact⟨_,Z,t,_,_,_,Z,Z,gA.of (s1 _ _ ht),bb (j:=2) Z,_,Z,wa,_,_,Z,s1 _ _ uh,h3,q _ s1⟩
def tT:Sp:=λvs H Q _=>∃(v:V)(G:List Row),vs=[v]/\hZ H G v/\tM G/\∀ H',aU H H'->Q .fC H'
theorem xa(F:aN K mg "check_rows" iB ["rows"])(T:Txt mg)(Bm:Dn P w K mg base "check_row" 4 ["row","count"] v3):Dn P w K mg base "check_rows" 5 ["rows"] tT:=by
 have sc:=xn;refine F.ok sc (λvs H Q E h=>?_) (λf dW A outer s H vs Q E hr h=>?_)
 .obtain⟨_,_,rfl,_⟩:=h;rfl
 obtain⟨v,G,rfl,hG,⟨h16,RP⟩,q⟩:=h;obtain⟨g0,gv,rfl,jl,n9,ll⟩:=dk hG;obtain⟨_,_,e0,Kz,pg⟩:=id hG;cases e0;rw[jl] at Kz;cases Kz;refine⟨_,(ak (dE (cA yg (bP (gp (K:=K) Z) Z T.fR bu (aa (pv 0) am)) (pD T.wW) (de _))
   (aA dZ)
   cv)
   (ak (fD bB Z (cV (pv 0)) (cU (i:=1) sc.nd Z (aY Z))
   (aA (cL (b9 Bm hr (aa (pv 1) (aa (bP (gp (K:=K) Z) Z T.fR bu (aa (pv 0) am)) am))))))
   (ak (rJ (i:=2) (aC iB) ["rows","row","ranks"] ["row"] 1 [] sc.nd Z Z (cV (pv 0)) (λ_ _ _ _ _ _=>(d0 (show cM (["row"]:List aE) by trivial) Z Z)) (λ_ _ _ _ _ _=>gm) (λ_ _ _ _ _ _=>(be (m9 (K:=K) Z) (pv 0) aD (λ_ _=>rfl))))
   (aA (dE (PW.pt (a0J (cA yg (bP (gp (K:=K) Z) Z T.fR bu (aa (pv 0) am)) (pD T.oR) (de _)) (a0G (cA yg (bP (sS Z) Z T.Ka nR (aa (pv 2) am)) (pD T.qf) (de _)))))
   (aA dZ)
   cv))))),?_⟩
 refine⟨_,Z,g0,_,Z,.inl (bI.of jl),_,_,Z,Z,_,Z,?_⟩;rw[decide_eq_false (show ¬ (160:Int)<(gv.length:Nat) by omega)];refine gO ⟨_,Z,g0,Z,⟨_,bI.of jl⟩,gr (K:=K) (a:=g0) (xs:=gv) (λi J H2=>aU H H2/\∃ y:Option V,J=[O (.ref g0),y,Y]) ⟨aU.refl _,_,Z⟩ (λi J H2 _ h=>?_) (λi x J H2 hi h=>?_) (λ J H2 h=>?_)⟩
 .exact bI.of (h.1 _ _ jl)
 .obtain⟨s2,y,rfl⟩:=h;obtain⟨row,iL,rr⟩:=Paired.ta pg hi;exact⟨_,Z,_,Z,g0,_,Z,.inl (bI.of (s2 _ _ jl)),_,row,((gv.length:Nat):Int),Z,iU.up s2 rr,by rw[n9];exact RP row (ag iL),λH3 s3=>⟨s2.trans s3,_,Z⟩⟩
 obtain⟨s2,y,rfl⟩:=h;refine⟨_,Z,g0,Z,⟨_,bI.of (s2 _ _ jl)⟩,cW (K:=K) (a:=g0) (xs:=gv) (λi ys H3=>H3=H2/\ys.length=i) ⟨Z,Z⟩ (a0a (m:=1000) (by omega)) (λi ys H3 hi h=>?_) (λi x ys H3 hi h=>?_) (λys H3 h p hp=>?_)⟩
 .obtain⟨rfl,rfl⟩:=h;exact⟨bI.of (s2 _ _ jl),ay _⟩
 .obtain⟨rfl,rfl⟩:=h;obtain⟨row,iL,rr⟩:=Paired.ta pg hi;obtain⟨t,wa,rfl,ht,uh⟩:=tE rr;exact gq ⟨_,Z,t,_,_,_,Z,Z,gA.of (s2 _ _ ht),bb (j:=1) Z,Z,by rw[aV];rfl⟩
 obtain⟨rfl,_⟩:=h;have sp:=s2.trans (av hp (.lst ys));refine⟨_,Z,g0,_,Z,.inl (bI.of (sp _ _ jl)),_,_,Z,Z,_,Z,?_⟩;rw[decide_eq_false (show ¬ (16:Int)<(gv.length:Nat) by omega)];exact gO (gO (q _ sp))
def a0d(G:List Row):List Row:=G.map λr=>(r.1,r.2.1,a0p G.length r.2.2)
theorem eN(G:List Row):(a0d G).length=G.length:=ab _
theorem uT{G:List Row}{i:Nat}{r:Row}(h:G[i]?=O r):(a0d G)[i]?=O (r.1,r.2.1,a0p G.length r.2.2):=by unfold a0d;rw[au,h];rfl
theorem Jj{G:List Row}{i:Nat}{r:Row}(h:G[i]?=O r):(a0d G).take (i+1)=(a0d G).take i++[(r.1,r.2.1,a0p G.length r.2.2)]:=by rw[aM,uT h];rfl
def v6:Sp:=λvs H Q E=>∃(v:V)(G:List Row),vs=[v]/\hZ H G v/\tM G/\(∀ r∈G,r.2.2.length<=62)/\∀(v':V)(H':Hp),aU H H'->hZ (jf H H') (a0d G) v'->Q v' H'
theorem EN(F:aN K mg "game_of" lJ ["rows"])(T:Txt mg)(yW:Dn P w K mg base "check_rows" 5 ["rows"] tT):Dn P w K mg base "game_of" 6 ["rows"] v6:=by
 have sc:=EX;refine F.ok sc (λvs H Q E h=>?_) (λf dW A outer s H vs Q E hr h=>?_)
 .obtain⟨_,_,rfl,_⟩:=h;rfl
 obtain⟨v,G,rfl,hG,c8,Vn,q⟩:=h;obtain⟨g0,gv,rfl,jl,n9,ll⟩:=dk hG;have h16:=c8.1;refine⟨_,(ak (cL (b9 yW hr (aa (pv 0) am)))
   (aA (bU (lS (aC lJ) ["rows"] ["row"] 1 [] (cV (pv 0)) (λ_ _ _ _ _ _=>(d0 (show cM (["row"]:List aE) by trivial) Z Z)) (λ_ _ _ _ _ _=>gm) (λ_ _ _ _ _ _=>(gt (aa (be (m9 (K:=K) Z) (pv 0) aD (λ_ _=>rfl)) (aa (be (m9 (K:=K) Z) (pv 0) aD (λ_ _=>rfl)) (aa (vO (K:=K) Z Z Z T.vh Z T.U8 (aa (be (m9 (K:=K) Z) (pv 0) aD (λ_ _=>rfl)) am)) am))))))))),?_⟩
 refine⟨_,Z,_,G,Z,hG,c8,λH1 s1=>?_⟩;refine⟨_,Z,g0,Z,⟨_,bI.of (s1 _ _ jl)⟩,cW (K:=K) (a:=g0) (xs:=gv) (λi ys H2=>aU H H2/\gf (zW (jf H H2)) ((a0d G).take i) ys) ⟨s1,.nil⟩ (a0a (m:=1000) (by omega)) (λi ys H2 hi h=>?_) (λi x ys H2 hi h=>?_) (λys H2 h p hp=>?_)⟩
 .exact⟨bI.of (h.1 _ _ jl),by have:=h.2.length;rw[db] at this;omega⟩
 .obtain⟨s2,pr⟩:=h;have Dy:i<G.length:=by have:=(aj.mp hi).1;omega
  obtain⟨row,iL⟩:∃ row,G[i]?=O row:=⟨G[i],by simp⟩
  obtain⟨t,wa,p1,p2,p3⟩:=ll i row iL;rw[hi] at p1;cases p1;have mO:=(c8.2 row (ag iL)).2.2.2;have nS:=Vn row (ag iL);refine gq ?_;refine⟨_,Z,t,_,_,_,Z,Z,gA.of (s2 _ _ p2),bb (j:=0) Z,_,Z,t,_,_,_,Z,Z,gA.of (s2 _ _ p2),bb (j:=1) Z,_,Z,t,_,_,_,Z,Z,gA.of (s2 _ _ p2),bb (j:=2) Z,wa,row.2.2,Z,bI.of (s2 _ _ p3),by omega,(λns hn hs=>by have:=g7 ns row.2.2 hn hs;omega),λl ns hl pw mem=>?_⟩;refine⟨(by show 3<=az;decide),λt2 AV=>?_⟩;have en:=a0E mO pw mem;subst en;have s3:=s2.trans (av hl (.lst ((a0p G.length row.2.2).map V.int)));refine⟨s3.trans (av AV _),?_⟩;rw[Jj iL];refine Paired.app (dq iU (uM ((av hl _).trans (av AV _))) pr) (.cons ?_ .nil);exact zZ (h:=row.1) (r:=row.2.1) s3 (s2.free hl) ao AV
 .obtain⟨s2,pr⟩:=h;rw[n9,← eN G,aR] at pr;exact q _ _ (s2.trans (av hp _)) ⟨p,ys,Z,by rw[eV (s2.free hp),ao],dq iU (uM (av hp _)) pr⟩
theorem Jn{G:List Row}{i:Nat}{r:Row}(h:G[i]?=O r):(fo G).take (i+1)=(fo G).take i++[(1-r.1,r.2.1+1,r.2.2)]:=by
 unfold fo;rw[aM,au,h];rfl
def GD:Sp:=λvs H Q E=>∃(v:V)(G:List Row),vs=[v]/\hZ H G v/\tM (fo G)/\(∀ r∈G,r.2.2.length<=62)/\∀(v':V)(H':Hp),aU H H'->hZ (jf H H') (a0d (fo G)) v'->Q v' H'
theorem IQ(F:aN K mg "turned" nL ["game"])(T:Txt mg)(sK:Dn P w K mg base "game_of" 6 ["rows"] v6):Dn P w K mg base "turned" 7 ["game"] GD:=by
 have sc:=I0;refine F.ok sc (λvs H Q E h=>?_) (λf dW A outer s H vs Q E hr h=>?_)
 .obtain⟨_,_,rfl,_⟩:=h;rfl
 obtain⟨v,G,rfl,hG,Um,Vn,q⟩:=h;obtain⟨g0,gv,rfl,jl,n9,ll⟩:=dk hG;have h16:=Um.1;rw[l8] at h16;refine⟨_,(aA (bU (b9 sK hr (aa (lS (aC nL) ["game"] ["hand","rank","ways"] 3 [] (cV (pv 0)) (λ_ _ _ _ _ _=>(acN (K:=K) Z Z (show cM (["hand","rank","ways"]:List aE) by trivial) Z Z Z Z Z Z)) (λ_ _ _ _ _ _=>gm) (λ_ _ _ _ _ _=>(gt (aa (bA zM aD (pv 0)) (aa (bA iM (pv 1) aD) (aa (pv 2) am)))))) am)))),?_⟩;refine⟨_,Z,g0,Z,⟨_,bI.of jl⟩,cW (K:=K) (a:=g0) (xs:=gv) (λi ys H2=>aU H H2/\gf (zW H2) ((fo G).take i) ys) ⟨aU.refl _,.nil⟩ (a0a (m:=1000) (by omega)) (λi ys H2 hi h=>?_) (λi x ys H2 hi h=>?_) (λys H2 h p hp=>?_)⟩
 .exact⟨bI.of (h.1 _ _ jl),by have:=h.2.length;rw[db] at this;omega⟩
 .obtain⟨s2,pr⟩:=h;have Dy:i<G.length:=by have:=(aj.mp hi).1;omega
  obtain⟨row,iL⟩:∃ row,G[i]?=O row:=⟨G[i],by simp⟩
  obtain⟨t,wa,p1,p2,p3⟩:=ll i row iL;rw[hi] at p1;cases p1;refine sV (gA.of (s2 _ _ p2)) Z ?_;refine⟨_,Z,_,_,Z,Z,_,Z,_,_,Z,Z,_,Z,(by show 3<=az;decide),λt2 AV=>?_⟩;have s3:=av AV (.tup [.int (1-row.1),.int (row.2.1+1),.ref wa]);refine⟨s2.trans s3,?_⟩;rw[Jn iL];exact Paired.app (dq iU s3 pr) (.cons ⟨t2,_,_,_,Z,ao,Z,Z,iA.mpr ⟨wa,Z,(s2.trans s3) _ _ p3⟩⟩ .nil)
 .obtain⟨s2,pr⟩:=h;rw[n9,← l8 G,aR] at pr;have s3:=av hp (.lst ys);refine⟨_,fo G,Z,⟨p,ys,Z,ao,dq iU s3 pr⟩,Um,λr hr=>?_,λv' H' s' AW=>q v' H' ((s2.trans s3).trans s') (dS.up (kj (s2.trans s3) (aU.refl _)) AW)⟩;unfold fo at hr;obtain⟨r0,Wt,rfl⟩:=bE.mp hr;exact Vn r0 Wt
def DA(An:aE)(c:Nat):Bool:=!(bW An ⟨#[c]⟩ 0 An.length 1).isEmpty
def Fi:Sp:=λvs H Q _=>∃(z An:aE)(m:Int),vs=[.str z,.str An,.int m]/\z.length<=100000/\∀ H',aU H H'->Q (.bl (decide (1<=z.length/\(z.length:Int)<=m) && z.cps.toList.all (DA An))) H'
theorem OK(F:aN K mg "is_made_of" iC ["word","signs","most"])(T:Txt mg):Dn P w K mg base "is_made_of" 1 ["word","signs","most"] Fi:=by
 have sc:=xq;refine F.ok sc (λvs H Q E h=>?_) (λf dW A outer s H vs Q E hr h=>?_)
 .obtain⟨_,_,_,rfl,_⟩:=h;rfl
 obtain⟨z,An,m,rfl,hz,q⟩:=h;refine⟨_,(aA (bU (zO (Cu Lp Lp aD (bP zf Z T.fR bu (aa (pv 0) am)) (pv 2)) (vN (bP (sR Z) Z T.J8 nP (aa (lS (aC iC) ["word","signs","most"] ["sign","signs"] 1 [1] (Tl (pv 0)) (λ_ _ _ _ _ _=>(d0 (show cM (["sign","signs"]:List aE) by trivial) Z Z)) (λ_ _ _ _ _ _=>gm) (λ_ _ _ _ _ _=>(kI yh (pv 0) (pv 1) Z))) am)))))),?_⟩;refine⟨_,Z,z,Z,a0a (m:=100000) hz,_,_,Z,Z,?_⟩;have fin:decide (1<=z.length/\(z.length:Int)<=m)=false->Q (.bl false) H:=λe=>by
  have:=q H (aU.refl _);rw[e] at this;exact this
 refine⟨_,Z,?_⟩;refine gN (λc=>?_) (λc=>?_)
 .have c1:(1:Int)<=z.length:=of_decide_eq_true c;refine⟨_,Z,_,_,Z,Z,_,Z,?_⟩;refine gN (λc=>?_) (λc=>?_)
  .have c2:(z.length:Int)<=m:=of_decide_eq_true c;refine⟨_,Z,z,Z,Hw (z:=z) (λi ys H3=>H3=H/\ys=((z.cps.toList.take i).map (DA An)).map V.bl) ⟨Z,Z⟩ (a0a (m:=100000) hz) (λi ys H3 hi h=>?_) (λi c ys H3 hi h=>?_) (λys H3 h p hp=>?_)⟩
   .obtain⟨rfl,rfl⟩:=h;simp;omega
   .obtain⟨rfl,rfl⟩:=h;refine gq ?_;refine⟨_,Z,_,Z,_,_,Z,Z,Z,?_⟩;have Em:z.cps.toList[i]?=O c:=by simpa using hi
    rw[aM,Em,aB,aB];rfl
   .obtain⟨rfl,rfl⟩:=h;refine⟨p,_,Z,bI.of ao,?_⟩;have e:=q _ (av hp (.lst (((z.cps.toList.take z.cps.size).map (DA An)).map V.bl)));rw[decide_eq_true ⟨by omega,c2⟩,su] at e;have el:z.cps.toList.take z.cps.size=z.cps.toList:=hE (by simp);rw[el] at e ⊢;rw[show((z.cps.toList.map (DA An)).all id)=z.cps.toList.all (DA An) by rw[YH];rfl];exact e
  .exact fin (decide_eq_false λh=>c (decide_eq_true h.2))
 .refine⟨_,Z,?_⟩;refine gO ?_;exact fin (decide_eq_false λh=>c (decide_eq_true (by have:=h.1;omega)))
def a0b(z:aE):Bool:=decide (1<=z.length/\(z.length:Int)<=8) && z.cps.toList.all (DA "abcdefghijklmnopqrstuvwxyz")
def Av:Sp:=λvs H Q _=>∃ z:aE,vs=[.str z]/\z.length<=100000/\∀ H',aU H H'->Q (.bl (a0b z)) H'
theorem OL(F:aN K mg "is_name" nJ ["word"])(T:Txt mg)(nX:Dn P w K mg base "is_made_of" 1 ["word","signs","most"] Fi):Dn P w K mg base "is_name" 2 ["word"] Av:=by
 have sc:=EZ;refine F.ok sc (λvs H Q E h=>?_) (λf dW A outer s H vs Q E hr h=>?_)
 .obtain⟨_,rfl,_⟩:=h;rfl
 obtain⟨z,rfl,hz,q⟩:=h;refine⟨_,(aA (bU (b9 nX hr (aa (pv 0) (aa (pF T.HP) (aa (pD T.vt) am)))))),?_⟩;exact⟨_,Z,z,_,_,Z,hz,λH' s'=>q _ s'⟩
def mD(z:aE)(m:Int):Bool:=(decide (1<=z.length/\(z.length:Int)<=m) && z.cps.toList.all (DA "0123456789")) && (z == "0" || !(z.cps.toList[0]? == O 48))
def L5:Sp:=λvs H Q _=>∃(z:aE)(m:Int),vs=[.str z,.int m]/\z.length<=100000/\∀ H',aU H H'->Q (.bl (mD z m)) H'
theorem S6(F:aN K mg "is_figures" jS ["word","most"])(T:Txt mg)(nX:Dn P w K mg base "is_made_of" 1 ["word","signs","most"] Fi):Dn P w K mg base "is_figures" 2 ["word","most"] L5:=by
 have sc:=xp;refine F.ok sc (λvs H Q E h=>?_) (λf dW A outer s H vs Q E hr h=>?_)
 .obtain⟨_,_,rfl,_⟩:=h;rfl
 obtain⟨z,m,rfl,hz,q⟩:=h;refine⟨_,(aA (bU (zO (b9 nX hr (aa (pv 0) (aa (pF T.HN) (aa (pv 1) am)))) (vN (Xr (kI lR (pv 0) cq (de _)) (vN (kI o5 (be qG (pv 0) aD (λ_ _=>rfl)) cq (de _)))))))),?_⟩;refine⟨_,Z,_,Z,z,_,_,Z,hz,λH1 s1=>?_⟩;have fin:∀ b c:Bool,mD z m=(b && c)->Q (.bl (b && c)) H1:=λb c e=>by rw[← e];exact q _ s1
 refine⟨_,Z,?_⟩;refine gN (λc=>?_) (λc=>?_)
 .have c1:=c;rw[aQ] at c1;have l1:1<=z.length:=(of_decide_eq_true c1.1).1;obtain⟨c0,hc0⟩:∃ c0,z.cps.toList[0]?=O c0:=⟨z.cps.toList[0]'(by rw[aT];exact l1),by simp⟩
  have ef:mD z m=(z == "0" || !(O c0 == O 48)):=by unfold mD;rw[c,hc0,su]
  refine⟨_,Z,Z,?_⟩;refine⟨_,Z,?_⟩;refine gN (λd=>?_) (λd=>?_)
  .have e:z = "0" := by have:=of_decide_eq_true d;injection this
   have:=q _ s1;rw[ef,e,show(("0" : aE) == ("0" : aE))=true from Z,Yz] at this;exact this
  .have e:(z == "0")=false:=by
    rw[uF] at d;exact uq.mpr d
   refine⟨_,Z,z,0,c0,Z,Z,a0a (m:=100000) hz,bb (j:=0) hc0,Z,?_⟩;have:=q _ s1;rw[ef,e,UL] at this;have e2:decide (V.str ⟨#[c0]⟩=V.str "0")=(O c0 == O 48):=by
    rw[uF]
    by_cases h:c0=48
    .subst h;rfl
    .have h1:(O c0 == O 48)=false:=by simp[h]
     rw[h1];refine uq.mpr λk=>h ?_;have:=eq_of_beq k;have e3:(⟨#[c0]⟩:aE).cps=(pY "0").cps:=by rw[this]
     have e4:(#[c0]:Array Nat)=#[48]:=e3;simpa using e4
   rw[e2];exact this
 .have e:mD z m=false:=by unfold mD;rw[uq.mpr c,iQ]
  have:=q _ s1;rw[e] at this;exact this
def QQ:Sp:=λvs H Q _=>∃ z:aE,vs=[.str z]/\z.length<=100000/\∀ H',aU H H'->Q (.bl (mD z 9)) H'
theorem S9(F:aN K mg "is_number" kR ["word"])(T:Txt mg)(nW:Dn P w K mg base "is_figures" 2 ["word","most"] L5):Dn P w K mg base "is_number" 3 ["word"] QQ:=by
 have sc:=Ab;refine F.ok sc (λvs H Q E h=>?_) (λf dW A outer s H vs Q E hr h=>?_)
 .obtain⟨_,rfl,_⟩:=h;rfl
 obtain⟨z,rfl,hz,q⟩:=h;refine⟨_,(aA (bU (b9 nW hr (aa (pv 0) (aa (pD T.oy) am))))),?_⟩;exact⟨_,Z,z,_,Z,hz,λH' s'=>q _ s'⟩
def As:Sp:=λvs H Q _=>vs=[.bl true]/\Q .fC H
theorem OF(F:aN K mg "check_form" jN ["right"])(T:Txt mg):Dn P w K mg base "check_form" 1 ["right"] As:=by
 have sc:=xj;refine F.ok sc (λvs H Q E h=>?_) (λf dW A outer s H vs Q E hr h=>?_)
 .obtain⟨rfl,_⟩:=h;rfl
 obtain⟨rfl,q⟩:=h;refine⟨_,(aA (dE (ji (fM (pv 0)))
   (aA dZ)
   cv)),?_⟩
 exact⟨_,Z,_,Z,q⟩
def Mj:Sp:=λvs H Q _=>∃ z:aE,vs=[.str z]/\z.length<=100000/\∀(p:ai)(H':Hp),aU H H'->H p=Y->H' p=O (.lst ((if z.length=0 then [] else bK z "; ").map V.str))->Q (.ref p) H'
theorem OT(F:aN K mg "places_told" i6 ["text"])(T:Txt mg)(gI:Dn P w K mg base "check_form" 1 ["right"] As):Dn P w K mg base "places_told" 2 ["text"] Mj:=by
 have sc:=v2;refine F.ok sc (λvs H Q E h=>?_) (λf dW A outer s H vs Q E hr h=>?_)
 .obtain⟨_,rfl,_⟩:=h;rfl
 obtain⟨z,rfl,hz,q⟩:=h;refine⟨_,(ak (cL (b9 gI hr (aa (bP (BM (K:=K) Z (T := "str")) Z T.jI eP (aa (pv 0) (aa (rG (v:=.ty "str") Z T.FI jG Z) am))) am)))
   (aA (bU (rH (rK (pv 0) (by intro _;rfl)) (ge cO gV gW rE (pv 0) (aa cq am)) (eY am))))),?_⟩
 refine⟨_,Z,_,"str",_,Z,Z,rA _,Z,?_⟩;refine⟨_,Z,decide (z.length≠0),?_,?_⟩
 .refine⟨a0a (m:=100000) hz,?_⟩
  by_cases e:z.length=0
  .rw[e];rfl
  .rw[decide_eq_true e];symm;simp[e]
 refine gN (λc=>?_) (λc=>?_)
 .have e:z.length≠0:=of_decide_eq_true c;refine⟨_,Z,Z,z,_,Z,Z,Z,a0a (m:=100002) (by omega),λp hp=>?_⟩;refine q p _ (av hp _) hp ?_;rw[if_neg e,ao]
 .have e:z.length=0:=bX λe=>c (decide_eq_true e);refine⟨bq _,λp hp=>?_⟩;refine q p _ (av hp _) hp ?_;rw[if_pos e,ao];rfl
theorem rs(x:aE)(c:Nat):DA x c=decide (c∈x.cps.toList):=aao x c
theorem KY{c:Nat}(h:DA "abcdefghijklmnopqrstuvwxyz" c=true):c≠43/\c≠45:=by
 rw[rs] at h;have:=of_decide_eq_true h;exact⟨λe=>by subst e;revert this;decide +kernel,λe=>by subst e;revert this;decide +kernel⟩
theorem RH{c:Nat}(h:DA "0123456789" c=true):c≠43/\c≠45:=by
 rw[rs] at h;have:=of_decide_eq_true h;exact⟨λe=>by subst e;revert this;decide +kernel,λe=>by subst e;revert this;decide +kernel⟩
def gd(nm:aE)(hand:Int)(d:aE):aE:=nm++(if hand=0 then ("+" : aE) else "-")++d
def sgn(hand:Int):Nat:=if hand=0 then 43 else 45
theorem uH(nm d:aE)(hand:Int):gd nm hand d=⟨(nm.cps.toList++sgn hand::d.cps.toList).toArray⟩:=by
 obtain⟨a⟩:=nm;obtain⟨b⟩:=d;unfold gd sgn
 by_cases h:hand=0
 .rw[if_pos h,if_pos h];show(⟨a++#[43]++b⟩:aE)=_;congr 1;apply iT.mp;simp
 .rw[if_neg h,if_neg h];show(⟨a++#[45]++b⟩:aE)=_;congr 1;apply iT.mp;simp
theorem FW{nm d:aE}{hand:Int}(hn:a0b nm=true)(hd:∀ c∈d.cps.toList,DA "0123456789" c=true)(c:Nat)(hc:c=43\/c=45):DA (gd nm hand d) c=decide (c=sgn hand):=by
 rw[rs,uH];have h1:∀ c∈nm.cps.toList,DA "abcdefghijklmnopqrstuvwxyz" c=true:=λc hc=>by
  unfold a0b at hn;rw[aQ] at hn;exact bL.mp hn.2 c hc
 have n1:c ∉ nm.cps.toList:=λz=>by
  have:=KY (h1 c z);omega
 have n2:c ∉ d.cps.toList:=λz=>by
  have:=RH (hd c z);omega
 have e:(c∈(nm.cps.toList++sgn hand::d.cps.toList).toArray.toList)↔c=sgn hand:=by
  simp[n1,n2]
 exact decide_eq_decide.mpr e
def L9:Sp:=λvs H Q _=>∃(nm d:aE)(hand:Int),vs=[.str (gd nm hand d)]/\(hand=0\/hand=1)/\a0b nm=true/\(∀ c∈d.cps.toList,DA "0123456789" c=true)/\d.length<=1000/\∀(p:ai)(H':Hp),aU H H'->H p=Y->H' p=O (.tup [.str nm,.int hand,.str d])->Q (.ref p) H'
theorem OH(F:aN K mg "read_head" jr ["word"])(T:Txt mg)(gI:Dn P w K mg base "check_form" 1 ["right"] As)(ni:Dn P w K mg base "is_name" 2 ["word"] Av):Dn P w K mg base "read_head" 3 ["word"] L9:=by
 have sc:=Ak;refine F.ok sc (λvs H Q E h=>?_) (λf dW A outer s H vs Q E hr h=>?_)
 .obtain⟨_,_,_,rfl,_⟩:=h;rfl
 obtain⟨nm,d,hand,rfl,hh,hn,hd,hl,q⟩:=h;refine⟨_,(ak (rJ (i:=1) (aC jr) ["word","found","parts"] ["hand","sign","word"] 2 [0] sc.nd Z Z (LC Z T.my (aa (pF T.lA) am)) (λ_ _ _ _ _ _=>(O9 (K:=K) Z Z (show cM (["hand","sign","word"]:List aE) by trivial) Z Z Z Z)) (λ_ _ _ _ _ _=>(mH (cA yh (pv 1) (pv 2) Z))) (λ_ _ _ _ _ _=>(pv 0)))
   (ak (cL (b9 gI hr (aa (kI yg (bP (gp (K:=K) Z) Z T.fR bu (aa (pv 1) am)) aD (de _)) am)))
   (ak (bz (i:=2) sc.nd Z (aY Z) (ge cO PySem.F.slot_str_partition PySem.F.type_str_partition zG (pv 0) (aa (be qG (pF T.lA) (be (iy (K:=K) Z) (pv 1) aD (λ_ _=>rfl)) (λ_ _=>rfl)) am)))
   (ak (cL (b9 gI hr (aa (b9 ni hr (aa (be (m9 (K:=K) Z) (pv 2) aD (λ_ _=>rfl)) am)) am)))
   (aA (bU (gt (aa (be (m9 (K:=K) Z) (pv 2) aD (λ_ _=>rfl)) (aa (be (iy (K:=K) Z) (pv 1) aD (λ_ _=>rfl)) (aa (be (m9 (K:=K) Z) (pv 2) aD (λ_ _=>rfl)) am)))))))))),?_⟩
 have hw:(gd nm hand d).length<=2000:=by
  have h8:nm.length<=8:=by
   unfold a0b at hn;rw[aQ] at hn;have:=(of_decide_eq_true hn.1).2;omega
  rw[uH];show(nm.cps.toList++sgn hand::d.cps.toList).toArray.size<=2000;have a1:nm.cps.size=nm.length:=rfl;have a2:d.cps.size=d.length:=rfl;simp;omega
 refine⟨"+-",Z,BO (z := "+-") (λi ys H3=>aU H H3/\ys=(if i=0 then [] else if i=1 then (if hand=0 then [V.int 0] else []) else [V.int hand])) ⟨aU.refl _,Z⟩ (by trivial) (λi ys H3 hi h=>?_) (λi c T0 ys H3 hi h hT=>?_) (λys H3 h p hp=>?_)⟩
 .obtain⟨_,rfl⟩:=h
  by_cases h0:i=0
  .rw[if_pos h0];exact bq _
  .rw[if_neg h0]
   by_cases h1:i=1
   .rw[if_pos h1];split <;> simp <;> omega
   .rw[if_neg h1];simp;omega
 .obtain⟨s3,rfl⟩:=h;have s4:=s3.trans (av hT (.tup [.int (i:Nat),.str ⟨#[c]⟩]));have Up:i<2:=(Array.getElem?_eq_some_iff.mp hi).1;have hiT:∀ c,(!(bW (gd nm hand d) ⟨#[c]⟩ 0 (gd nm hand d).length 1).isEmpty)=DA (gd nm hand d) c:=λ_=>rfl;rcases (show i=0\/i=1 by omega) with rfl | rfl
  .have ec:43=c:=bQ (show O 43=O c from hi);subst ec;refine⟨T0,_,Z,gA.of ao,Z,?_⟩;refine⟨_,Z,_,Z,_,_,Z,Z,_,Z,?_⟩;rw[hiT,FW hn hd 43 (.inl Z)];refine gN (λb=>?_) (λb=>?_)
   .have b':43=sgn hand:=of_decide_eq_true b;have e0:hand=0:=by unfold sgn at b';split at b' <;> omega
    exact⟨_,Z,s4,by subst e0;rfl⟩
   .have e0:¬ hand=0:=λe=>b (decide_eq_true (by unfold sgn;rw[if_pos e]));exact⟨s4,by rw[if_pos Z,if_neg (by decide),if_pos Z,if_neg e0]⟩
  .have ec:45=c:=bQ (show O 45=O c from hi);subst ec;refine⟨T0,_,Z,gA.of ao,Z,?_⟩;refine⟨_,Z,_,Z,_,_,Z,Z,_,Z,?_⟩;rw[hiT,FW hn hd 45 (.inr Z)];refine gN (λb=>?_) (λb=>?_)
   .have b':45=sgn hand:=of_decide_eq_true b;have e0:hand=1:=by unfold sgn at b';split at b' <;> omega
    exact⟨_,Z,s4,by subst e0;rfl⟩
   .have e0:hand=0:=bX λe=>b (decide_eq_true (by unfold sgn;rw[if_neg e]));exact⟨s4,by subst e0;rfl⟩
 obtain⟨s3,rfl⟩:=h;have s4:=s3.trans (av hp (.lst [V.int hand]));have tP:upd H3 p (.lst [V.int hand]) p=O (.lst [V.int hand]):=ao;have ee:(if ("+-" : aE).cps.size=0 then [] else if ("+-" : aE).cps.size=1 then (if hand=0 then [V.int 0] else []) else [V.int hand])=[V.int hand]:=rfl;rw[ee];generalize upd H3 p (.lst [V.int hand])=H4 at s4 tP ⊢;refine⟨_,Z,p,_,Z,.inl (bI.of tP),_,_,Z,Z,Z,?_⟩;have FV:oB (("+-" : aE).cps.toList) hand=O (sgn hand):=by rcases hh with rfl | rfl <;> rfl
 have qg:sgn hand ∉ nm.cps.toList:=λz=>by
  have h1:DA "abcdefghijklmnopqrstuvwxyz" (sgn hand)=true:=by
   unfold a0b at hn;rw[aQ] at hn;exact bL.mp hn.2 _ z
  have:=KY h1;unfold sgn at this;split at this <;> omega
 have JG:eX (gd nm hand d) ⟨#[sgn hand]⟩=(nm,⟨#[sgn hand]⟩,d):=by rw[uH,Lq qg]
 refine⟨_,Z,Z,_,Z,p,_,_,_,Z,Z,bI.of tP,bb (j:=0) Z,"+-",hand,sgn hand,Z,Z,(by trivial),FV,_,_,Z,Z,Z,a0a (m:=2000) hw,λtp zv=>?_⟩;rw[JG];have s5:=s4.trans (av zv (.tup [.str nm,.str ⟨#[sgn hand]⟩,.str d]));have NZ:=av zv (.tup [.str nm,.str ⟨#[sgn hand]⟩,.str d]) _ _ tP;have AV:upd H4 tp (.tup [.str nm,.str ⟨#[sgn hand]⟩,.str d]) tp=O (.tup [.str nm,.str ⟨#[sgn hand]⟩,.str d]):=ao;generalize upd H4 tp (.tup [.str nm,.str ⟨#[sgn hand]⟩,.str d])=H5 at s5 NZ AV ⊢;refine⟨_,Z,tp,_,_,_,Z,Z,gA.of AV,bb (j:=0) Z,nm,Z,(by unfold a0b at hn;rw[aQ] at hn;have:=(of_decide_eq_true hn.1).2;omega),λH6 s6=>⟨by rw[hn];rfl,?_⟩⟩;refine⟨_,Z,tp,_,_,_,Z,Z,gA.of (s6 _ _ AV),bb (j:=0) Z,_,Z,p,_,_,_,Z,Z,bI.of (s6 _ _ NZ),bb (j:=0) Z,_,Z,tp,_,_,_,Z,Z,gA.of (s6 _ _ AV),bb (j:=2) Z,(by show 3<=az;decide),λrp N6=>?_⟩;exact q rp _ (s5.trans (s6.trans (av N6 _))) (s5.free (s6.free N6)) ao
def GA:Sp:=λvs H Q _=>∃(a:ai)(bM:List (Key × V))(x:aE)(n:Int),vs=[.ref a,.str x]/\H a=O (.dK bM)/\eO bM (.inr x)=O (.int n)/\Q (.int n) H
theorem Le(F:aN K mg "number_of" kU ["numbers","name"])(T:Txt mg):Dn P w K mg base "number_of" 1 ["numbers","name"] GA:=by
 have sc:=Ag;refine F.ok sc (λvs H Q E h=>?_) (λf dW A outer s H vs Q E hr h=>?_)
 .obtain⟨_,_,_,_,rfl,_⟩:=h;rfl
 obtain⟨a,bM,x,n,rfl,ha,hv,q⟩:=h;refine⟨_,(ak (dE (vS (IS (KO hr 1) (pv 1) (pv 0)))
   (aA dZ)
   cv)
   (aA (bU (OZ (KO hr 1) (pv 0) (pv 1) (λ_ _=>rfl))))),?_⟩
 have g:u4 H a (.str x) (O (.int n)):=.inl ⟨bM,.inr x,.inl ha,Z,hv.symm⟩;refine⟨_,Z,_,Z,a,_,Z,g,_,Z,?_⟩;refine gO ?_;exact⟨_,Z,_,Z,a,_,Z,g,q⟩
def nF(names:List aE):List (Key × V):=names.zipIdx.map λp=>(.inr p.1,.int (p.2:Nat))
theorem Gj:∀(l c:List (Key × V)),(∀ p∈l,p.1 ∉ c.map (·.1))->(l.map (·.1)).Nodup->a0q c l=c++l
 |[],c,_,_=>by rw[er];rfl
 |p :: r,c,h,hn=>by
  show a0q (a0f c p.1 p.2) r=_;have h1:¬ (c.any λkv=>decide (kv.1=p.1))=true:=λz=>by
   obtain⟨q,hq,e⟩:=i7.mp z;exact h p aL (bE.mpr ⟨q,hq,of_decide_eq_true e⟩)
  have e:a0f c p.1 p.2=c++[p]:=by unfold a0f;rw[if_neg h1]
  rw[bY,dt] at hn;rw[e,Gj r (c++[p]) (λq hq z=>?_) hn.2,d6];rfl;rw[aB] at z;rcases bH.mp z with z | z
  .exact h q (aW _ hq) z
  .have z:q.1=p.1:=by simpa using z
   exact hn.1 (by rw[← z];exact bE.mpr ⟨q,hq,Z⟩)
def v7(K:af):Sp:=λvs H Q _=>∃(a:ai)(names:List aE),vs=[.ref a]/\bI K H a (names.map V.str)/\names.Nodup/\names.length<=1000/\∀(p:ai)(H':Hp),aU H H'->H p=Y->H' p=O (.dK (nF names))->Q (.ref p) H'
theorem Cq(F:aN K mg "numbered" kt ["names"])(T:Txt mg):Dn P w K mg base "numbered" 1 ["names"] (v7 K):=by
 have sc:=CM;refine F.ok sc (λvs H Q E h=>?_) (λf dW A outer s H vs Q E hr h=>?_)
 .obtain⟨_,_,rfl,_⟩:=h;rfl
 obtain⟨a,names,rfl,ha,hn,hl,q⟩:=h;refine⟨_,(ak (bz (i:=1) sc.nd Z (aY Z) (km (t9 (K:=K) Z Z) Z T.Rv PyProof.Rows.boot_dict (aa (lS (aC kt) ["names","numbers"] ["number","name"] 2 [] (zR (K:=K) Z Z T.my (aa (pv 0) am)) (λ_ _ _ _ _ _=>(O9 (K:=K) Z Z (show cM (["number","name"]:List aE) by trivial) Z Z Z Z)) (λ_ _ _ _ _ _=>gm) (λ_ _ _ _ _ _=>(gt (aa (pv 1) (aa (pv 0) am))))) am)))
   (ak (dE (cA Cs (bP Hn Z T.fR bu (aa (pv 1) am)) (bP (gp (K:=K) Z) Z T.fR bu (aa (pv 0) am)) (de _))
   (aA dZ)
   cv)
   (aA (bU (pv 1))))),?_⟩
 have hlm:(names.map V.str).length=names.length:=ab _;have Uq:(nF names).length=names.length:=by unfold nF;simp
 refine⟨_,Z,a,Z,⟨_,ha⟩,D8 (K:=K) (a:=a) (xs:=names.map V.str) (λi ys H3=>aU H H3/\∃ ts:List (ai × Key × V),ys=ts.map (λt=>V.ref t.1)/\(ts.map λt=>t.2)=(nF names).take i/\(∀ t∈ts,H3 t.1=O (.tup [kV t.2.1,t.2.2]))) ⟨aU.refl _,[],Z,Z,λ_ z=>by cases z⟩ (a0a (m:=1000) (by omega)) (λi ys H3 hi h=>?_) (λi x T0 ys H3 hi h hT=>?_) (λys H3 h p hp=>?_)⟩
 .obtain⟨s3,ts,rfl,e2,_⟩:=h;refine⟨s3.seq ha,?_⟩;have:=congrArg j3 e2;rw[ab,db] at this;rw[ab];omega
 .obtain⟨s3,ts,rfl,e2,e3⟩:=h;rw[au] at hi;obtain⟨z,hz,rfl⟩:∃ z,names[i]?=O z/\x=V.str z:=by
   cases e:names[i]? with
   |none=>rw[e] at hi;cases hi
   |some z=>rw[e] at hi;cases hi;exact⟨z,Z,Z⟩
  have s4:=av hT (.tup [.int (i:Nat),.str z]);refine sV (gA.of ao) Z ?_;refine⟨_,Z,_,Z,(by show 2<=az;decide),λt2 AV=>?_⟩;have s5:=s4.trans (av AV (.tup [.str z,.int (i:Nat)]));refine⟨s3.trans s5,ts++[(t2,.inr z,.int (i:Nat))],by rw[aB];rfl,?_,λt ht=>?_⟩
  .have hk:(nF names)[i]?=O (.inr z,.int (i:Nat)):=by unfold nF;rw[au,List.getElem?_zipIdx,hz];simp
   rw[aM,hk,aB,e2];rfl
  .rcases bH.mp ht with h | h
   .exact s5 _ _ (e3 t h)
   .rw[bj.mp h];exact ao
 obtain⟨s3,ts,rfl,e2,e3⟩:=h;rw[hlm,← Uq,aR] at e2;have s4:=av hp (.lst (ts.map λt=>V.ref t.1));refine⟨p,ts,Z,bI.of ao,λt ht=>gA.of (s4 _ _ (e3 t ht)),λd hd=>?_⟩;have JF:((nF names).map (·.1)).Nodup:=by
  have e:(nF names).map (·.1)=names.map iH:=by
   unfold nF;rw[dD];show names.zipIdx.map (iH ∘ Prod.fst)=_;rw[← dD,List.zipIdx_map_fst]
  rw[e];exact hn.map _ λx y h z=>h (lc z)
 rw[e2,Gj _ [] (λ_ _ z=>by cases z) JF,xF];have s5:=s3.trans (s4.trans (av hd (.dK (nF names))));refine⟨_,Z,d,_,Z,ao,_,Z,a,_,Z,.inl (s5.seq ha),_,_,Z,Z,_,Z,?_⟩;rw[Uq,hlm,decide_eq_false (by omega)];refine gO ?_;exact⟨_,Z,q d _ s5 ((s3.trans s4).free hd) ao⟩
def XV(K:af):Sp:=λvs H Q _=>∃(tx nm d:aE)(hand r:Int)(ws:List aE),vs=[.str tx]/\tx.length<=100000/\bK tx " " = gd nm hand d::ws/\(hand=0\/hand=1)/\a0b nm=true/\mD d 9=true/\SD d=O r/\(∀ x∈ws,a0b x=true)/\ws.length<=1000 /\
 ∀(p l:ai)(H':Hp),aU H H'->H p=Y->H l=Y->H' p=O (.tup [.str nm,.int hand,.int r,.ref l])->H' l=O (.lst (ws.map V.str))->Q (.ref p) H'
theorem Lg(F:aN K mg "read_place" iD ["text"])(T:Txt mg)(Bu:Dn P w K mg base "read_head" 3 ["word"] L9)(gI:Dn P w K mg base "check_form" 1 ["right"] As)(Bo:Dn P w K mg base "is_number" 3 ["word"] QQ)(ni:Dn P w K mg base "is_name" 2 ["word"] Av):Dn P w K mg base "read_place" 4 ["text"] (XV K):=by
 have sc:=xw;refine F.ok sc (λvs H Q E h=>?_) (λf dW A outer s H vs Q E hr h=>?_)
 .obtain⟨_,_,_,_,_,_,rfl,_⟩:=h;rfl
 obtain⟨tx,nm,d,hand,r,ws,rfl,hx,M8,hh,hn,hf,hi,hw,hl,q⟩:=h;refine⟨_,(ak (bz (i:=1) sc.nd Z (aY Z) (ge cO gV gW rE (pv 0) (aa cq am)))
   (ak (bz (i:=2) sc.nd Z (aY Z) (b9 Bu hr (aa (be (iy (K:=K) Z) (pv 1) aD (λ_ _=>rfl)) am)))
   (ak (cL (b9 gI hr (aa (b9 Bo hr (aa (be (m9 (K:=K) Z) (pv 2) aD (λ_ _=>rfl)) am)) am)))
   (ak (cL (b9 gI hr (aa (bP (sR Z) Z T.J8 nP (aa (lS (aC iD) ["text","words","head"] ["word"] 1 [] (cV (nG (UK (K:=K) Z) (pv 1) (pI aD) pH)) (λ_ _ _ _ _ _=>(d0 (show cM (["word"]:List aE) by trivial) Z Z)) (λ_ _ _ _ _ _=>gm) (λ_ _ _ _ _ _=>(b9 ni hr (aa (pv 0) am)))) am)) am)))
   (aA (bU (gt (aa (be (m9 (K:=K) Z) (pv 2) aD (λ_ _=>rfl)) (aa (be (m9 (K:=K) Z) (pv 2) aD (λ_ _=>rfl)) (aa (km wT Z T.J9 nQ (aa (be (m9 (K:=K) Z) (pv 2) aD (λ_ _=>rfl)) am)) (aa (nG (UK (K:=K) Z) (pv 1) (pI aD) pH) am))))))))))),?_⟩
 have qS:=hf;unfold mD at qS;rw[aQ,aQ] at qS;have VB:d.length<=9:=by have:=(of_decide_eq_true qS.1.1).2;omega
 refine⟨_,Z,Z,tx,_,Z,Z,Z,a0a (m:=100002) (by omega),λwp JI=>?_⟩;rw[M8];have s1:=av JI (.lst ((gd nm hand d::ws).map V.str));have mO:upd H wp (.lst ((gd nm hand d::ws).map V.str)) wp=O (.lst ((gd nm hand d::ws).map V.str)):=ao;generalize upd H wp (.lst ((gd nm hand d::ws).map V.str))=H1 at s1 mO ⊢;refine⟨_,Z,wp,_,_,_,Z,Z,bI.of mO,bb (j:=0) Z,nm,d,hand,Z,hh,hn,bL.mp qS.1.2,by omega,λhp H2 s2 _ hhp=>?_⟩;refine⟨_,Z,hp,_,_,_,Z,Z,gA.of hhp,bb (j:=2) Z,d,Z,by omega,λH3 s3=>⟨by rw[hf];rfl,?_⟩⟩;have ZE:=s2.trans s3;refine⟨_,Z,1,Z,wp,_,Z,bI.of (ZE _ _ mO),λsp Uv=>?_⟩;rw[nq];have s4:=av Uv (.lst (((gd nm hand d::ws).map V.str).drop 1));have hs4:upd H3 sp (.lst (((gd nm hand d::ws).map V.str).drop 1)) sp=O (.lst (ws.map V.str)):=ao;generalize upd H3 sp (.lst (((gd nm hand d::ws).map V.str).drop 1))=H4 at s4 hs4 ⊢;refine⟨sp,Z,⟨_,bI.of hs4⟩,cW (K:=K) (a:=sp) (xs:=ws.map V.str) (λi ys H5=>aU H4 H5/\ys=((ws.take i).map λ_=>true).map V.bl) ⟨aU.refl _,Z⟩ (a0a (m:=1000) (by rw[ab];exact hl)) (λi ys H5 hi h=>?_) (λi x ys H5 hi h=>?_) (λys H5 h bp hbp=>?_)⟩
 .obtain⟨s5,rfl⟩:=h;exact⟨bI.of (s5 _ _ hs4),by simp;omega⟩
 .obtain⟨s5,rfl⟩:=h;rw[au] at hi;obtain⟨z,hz,rfl⟩:∃ z,ws[i]?=O z/\x=V.str z:=by
   cases e:ws[i]? with
   |none=>rw[e] at hi;cases hi
   |some z=>rw[e] at hi;cases hi;exact⟨z,Z,Z⟩
  have Uz:=hw z (ag hz);refine gq ?_;refine⟨_,Z,z,Z,(by have h9:=Uz;unfold a0b at h9;rw[aQ] at h9;have:=(of_decide_eq_true h9.1).2;omega),λH6 s6=>⟨s5.trans s6,?_⟩⟩;rw[Uz,aM,hz,aB,aB];rfl
 obtain⟨s5,rfl⟩:=h;refine⟨bp,_,Z,bI.of ao,?_⟩;refine⟨by rw[show(((ws.take (ws.map V.str).length).map λ_=>true).all id)=true by simp];rfl,?_⟩;have s6:=s5.trans (av hbp (.lst (((ws.take (ws.map V.str).length).map λ_=>true).map V.bl)));generalize upd H5 bp (.lst (((ws.take (ws.map V.str).length).map λ_=>true).map V.bl))=H6 at s6 ⊢;have s26:=s3.trans (s4.trans s6);have h6:=s26 _ _ hhp;refine⟨_,Z,hp,_,_,_,Z,Z,gA.of h6,bb (j:=0) Z,_,Z,hp,_,_,_,Z,Z,gA.of h6,bb (j:=1) Z,_,Z,hp,_,_,_,Z,Z,gA.of h6,bb (j:=2) Z,d,r,Z,hi,by omega,_,Z,1,Z,wp,_,Z,bI.of (s26 _ _ (s2 _ _ mO)),λl wX=>?_⟩;rw[nq];refine⟨(by show 4<=az;decide),λrp N6=>?_⟩;have Pj:=s1.trans (s2.trans s26);exact q rp l _ (Pj.trans ((av wX _).trans (av N6 _))) (Pj.free ((av wX _).free N6)) (Pj.free wX) ao (av N6 _ _ _ ao)
def mq(i:Int):aE:=toString i
def NN:Bool:=(bn 41).all λn=>mD (mq (n:Nat)) 9 && (SD (mq (n:Nat)) == O ((n:Nat):Int)) && (mq (n:Nat)).cps.toList.all (λc=>decide (48<=c/\c<=57)) && decide ((mq (n:Nat)).length<=9)
theorem Ki:NN=true:=by trivial
theorem zI{z:Int}(h0:0<=z)(h1:z<41):mD (mq z) 9=true/\SD (mq z)=O z/\(∀ c∈(mq z).cps.toList,48<=c/\c<=57)/\(mq z).length<=9:=by
 have h:=bL.mp Ki z.toNat (cm.mpr (by omega));have e:((z.toNat:Nat):Int)=z:=by omega
 rw[e,aQ,aQ,aQ] at h;exact⟨h.1.1.1,eq_of_beq h.1.1.2,λc hc=>of_decide_eq_true (bL.mp h.1.2 c hc),of_decide_eq_true h.2⟩
theorem nB{z:aE}(h:a0b z=true):1<=z.length/\z.length<=8/\∀ c∈z.cps.toList,97<=c/\c<=122:=by
 unfold a0b at h;rw[aQ] at h;have h1:=of_decide_eq_true h.1;refine⟨h1.1,by omega,λc hc=>?_⟩;have h2:=bL.mp h.2 c hc;rw[rs] at h2;have h3:=of_decide_eq_true h2;have h4:("abcdefghijklmnopqrstuvwxyz" : aE).cps.toList.all (λc=>decide (97<=c/\c<=122))=true:=by trivial
 exact of_decide_eq_true (bL.mp h4 c h3)
def LG(names:List aE)(nm:aE)(r:Row):List aE:=gd nm r.1 (mq r.2.1)::r.2.2.map λw=>names.getD w.toNat ""
def JJ(names:List aE)(nm:aE)(r:Row):aE:=fB " " (LG names nm r)
def uj(names:List aE)(G:List Row):List aE:=(names.zip G).map λp=>JJ names p.1 p.2
def gT(names:List aE)(G:List Row):aE:=fB "; " (uj names G)
structure qY(names:List aE):Prop where
 nd:names.Nodup
 nm:∀ x∈names,a0b x=true
structure lN(n:Nat)(r:Row):Prop where
 h:r.1=0\/r.1=1
 r0:0<=r.2.1
 r1:r.2.1<41
 w:∀ x∈r.2.2,0<=x/\x<n
 l:r.2.2.length<=62
theorem oS{names:List aE}(hn:qY names){x:Int}(h0:0<=x)(h1:x<names.length):∃ z,names[x.toNat]?=O z/\names.getD x.toNat "" = z/\a0b z=true:=by
 obtain⟨z,hz⟩:∃ z,names[x.toNat]?=O z:=⟨names[x.toNat]'(by omega),by simp⟩
 exact⟨z,hz,by rw[fO,hz];rfl,hn.nm z (ag hz)⟩
theorem B1{nm:aE}{r:Row}{n:Nat}(hn:a0b nm=true)(hr:lN n r):(gd nm r.1 (mq r.2.1)).length<=18/\2<=(gd nm r.1 (mq r.2.1)).length/\∀ c∈(gd nm r.1 (mq r.2.1)).cps.toList,c≠32/\c≠59:=by
 obtain⟨f1,f2,f3,f4⟩:=zI hr.r0 hr.r1;obtain⟨n1,n2,n3⟩:=nB hn;have e1:=a0e nm;have e2:=a0e (mq r.2.1);rw[uH,a0e];refine⟨by simp at *;omega,by simp at *;omega,λc hc=>?_⟩;have HW:c∈nm.cps.toList\/c=sgn r.1\/c∈(mq r.2.1).cps.toList:=by simpa using hc
 rcases HW with h | h | h
 .have:=n3 c h;omega
 .unfold sgn at h;split at h <;> omega
 .have:=f3 c h;omega
theorem pO{names:List aE}{nm:aE}{r:Row}(kc:qY names)(hn:a0b nm=true)(hr:lN names.length r):∀ x∈LG names nm r,x.length<=18/\∀ c∈x.cps.toList,c≠32/\c≠59:=by
 intro x hx;rcases aG.mp hx with h | h
 .rw[h];have:=B1 hn hr;exact⟨this.1,this.2.2⟩
 .obtain⟨y,hy,rfl⟩:=bE.mp h;obtain⟨z,_,e,hz⟩:=oS kc (hr.w y hy).1 (hr.w y hy).2;show(names.getD y.toNat "").length<=18/\_;rw[e];obtain⟨z1,z2,z3⟩:=nB hz;exact⟨by omega,λc hc=>by have:=z3 c hc;omega⟩
theorem LH{names:List aE}{nm:aE}{r:Row}(kc:qY names)(hn:a0b nm=true)(hr:lN names.length r):bK (JJ names nm r) " " = LG names nm r :=
 oh (c:=32) (s:=[]) Z (by trivial) (λz=>by cases z) λp hp z=>((pO kc hn hr p hp).2 32 z).1 Z
theorem xU{s:List Nat}:∀(ps:List (List Nat))(c:Nat),c∈oP s ps->c∈s\/∃ p∈ps,c∈p
 |[],_,h=>by cases h
 |[p],c,h=>.inr ⟨p,aL,h⟩
 |p :: q::r,c,h=>by
  have h':c∈p++s++oP s (q::r):=h;rcases bH.mp h' with h | h
  .rcases bH.mp h with h | h
   .exact .inr ⟨p,aL,h⟩
   .exact .inl h
  .rcases xU (q::r) c h with h | ⟨x,hx,h⟩
   .exact .inl h
   .exact .inr ⟨x,aW _ hx,h⟩
theorem AB(B:Nat):∀(l:List aE),(∀ x∈l,x.length<=B)->(l.map λx=>x.length).sum<=l.length*B
 |[],_=>by simp
 |x::r,h=>by
  have:=AB B r λy hy=>h y (aW _ hy);have h0:=h x aL;rw[bY,List.sum_cons,cz,aae];omega
theorem vC{y:aE}{ps:List aE}{B:Nat}(h:∀ x∈ps,x.length<=B):(fB y ps).length<=ps.length*(B+y.length):=by
 have h1:=StrLaws.join_length_le y ps;have h2:=AB B ps h;show(Di y ps).length<=_;rw[Ds,Nat.mul_add];omega
theorem tz{names:List aE}{nm:aE}{r:Row}(kc:qY names)(hn:a0b nm=true)(hr:lN names.length r):(JJ names nm r).length<=1197/\2<=(JJ names nm r).length/\59 ∉ (JJ names nm r).cps.toList:=by
 refine⟨?_,?_,λz=>?_⟩
 .have h1:=vC (y := " ") (ps:=LG names nm r) (B:=18) λx hx=>(pO kc hn hr x hx).1;have h2:(LG names nm r).length<=63:=by
   have:=hr.l;unfold LG;rw[cz,ab];omega
  have e1:(" " : aE).length=1:=by trivial
  rw[e1] at h1;unfold JJ;omega
 .obtain⟨_,h2,_⟩:=B1 hn hr;unfold JJ LG;rw[a0e] at h2 ⊢;rw[kh,bY];generalize (r.2.2.map λw=>names.getD w.toNat "").map (λp=>p.cps.toList)=l;cases l with
  |nil=>exact h2
  |cons q l =>
   show 2<=(_++_++oP _ (q::l)).length;rw[aV,aV];omega
 .unfold JJ at z;rw[kh] at z;rcases xU _ _ z with h | ⟨p,hp,h⟩
  .revert h;decide +kernel
  .obtain⟨x,hx,rfl⟩:=bE.mp hp;exact((pO kc hn hr x hx).2 59 h).2 Z
theorem wt{names:List aE}{G:List Row}(hl:names.length=G.length)(kc:qY names)(hG:∀ r∈G,lN names.length r):∀ p∈names.zip G,a0b p.1=true/\lN names.length p.2:=λp hp=>by
 have:=jD hp;exact⟨kc.nm _ this.1,hG _ this.2⟩
theorem a0N{names:List aE}{G:List Row}(hl:names.length=G.length)(kc:qY names)(hG:∀ r∈G,lN names.length r):(if (gT names G).length=0 then [] else bK (gT names G) "; ")=uj names G:=by
 have hz:=wt hl kc hG
 by_cases e:uj names G=[]
 .unfold gT;rw[e,if_pos (by trivial)]
 .have Ii:(gT names G).length≠0:=by
   unfold gT;rw[a0e,kh];obtain⟨p,l,he⟩:=List.exists_cons_of_ne_nil e;have hp:p∈uj names G:=by rw[he];exact aL
   unfold uj at hp;obtain⟨x,hx,rfl⟩:=bE.mp hp;obtain⟨z1,z2⟩:=hz x hx;have h2:=(tz kc z1 z2).2.1;rw[a0e] at h2;rw[he,bY];generalize l.map (λp=>p.cps.toList)=l';cases l' with
   |nil=>show(JJ names x.1 x.2).cps.toList.length≠0;omega
   |cons q l =>
    show(_++_++oP _ (q::l)).length≠0;rw[aV,aV];omega
  rw[if_neg Ii];refine oh (c:=59) (s:=[32]) Z (by trivial) e λp hp=>?_;unfold uj at hp;obtain⟨x,hx,rfl⟩:=bE.mp hp;obtain⟨z1,z2⟩:=hz x hx;exact(tz kc z1 z2).2.2
theorem Vi{names:List aE}{G:List Row}(hl:names.length=G.length)(hn:G.length<=80)(kc:qY names)(hG:∀ r∈G,lN names.length r):(gT names G).length<=100000:=by
 have hz:=wt hl kc hG;have h1:=vC (y := "; ") (ps:=uj names G) (B:=1197) λx hx=>by
  unfold uj at hx;obtain⟨y,hy,rfl⟩:=bE.mp hx;obtain⟨z1,z2⟩:=hz y hy;exact(tz kc z1 z2).1
 have h2:(uj names G).length<=80:=by
  unfold uj;rw[ab,md];omega
 have e1:("; " : aE).length=2:=by trivial
 rw[e1] at h1;unfold gT;omega
theorem Cn:∀(names:List aE)(i k:Nat)(z:aE),names.Nodup->names[i]?=O z->eO ((names.zipIdx k).map λp=>((.inr p.1:Key),V.int (p.2:Nat))) (.inr z)=O (.int ((k+i:Nat)))
 |[],i,k,z,_,h=>by cases h
 |y :: r,i,k,z,hn,h=>by
  rw[List.zipIdx_cons,bY];rw[dt] at hn;unfold eO;cases i with
  |zero =>
   have e:y=z:=by simpa using h
   subst e;rw[Fy (by simp)];rfl
  |succ i =>
   have h':r[i]?=O z:=by simpa using h
   have jZ:y≠z:=λe=>hn.1 (by rw[e];exact ag h');rw[kE (by simp[jZ])];have:=Cn r i (k+1) z hn.2 h';unfold eO at this;rw[this,show k+1+i=k+(i+1) by omega]
theorem OB{names:List aE}(hn:names.Nodup){x:Int}(h0:0<=x)(h1:x<names.length):eO (nF names) (.inr (names.getD x.toNat ""))=O (.int x):=by
 obtain⟨z,hz⟩:∃ z,names[x.toNat]?=O z:=⟨names[x.toNat]'(by omega),by simp⟩
 have e:names.getD x.toNat "" = z:=by rw[fO,hz];rfl
 rw[e];have:=Cn names x.toNat 0 z hn hz;unfold nF;rw[this,aaf,gQ h0]
def rPl(names:List aE):Rel (aE × Row):=λH p v=>∃ t l:ai,v=.ref t/\H t=O (.tup [.str p.1,.int p.2.1,.int p.2.2.1,.ref l])/\H l=O (.lst ((p.2.2.2.map λw=>names.getD w.toNat "").map V.str))
theorem zC(names:List aE):kJ (rPl names):=⟨λ_ _ p v s h=>by
 obtain⟨t,l,e,h1,h2⟩:=h;exact⟨t,l,e,s _ _ h1,s _ _ h2⟩⟩
def Mf(K:af):Sp:=λvs H Q _=>∃(names:List aE)(G:List Row),vs=[.str (gT names G)]/\names.length=G.length/\G.length<=80/\qY names/\(∀ r∈G,lN names.length r)/\tM G /\
 ∀(p n:ai)(v:V)(H1 H2 H':Hp),aU H H1->aU H1 H2->aU H2 H'->H2 p=Y->H' p=O (.tup [.ref n,v])->H n=Y->H1 n=O (.lst (names.map V.str))->hZ (jf H1 H2) (a0d G) v->Q (.ref p) H'
theorem OP(F:aN K mg "read_game" gH ["text"])(T:Txt mg)(wK:Dn P w K mg base "places_told" 2 ["text"] Mj)(y8:Dn P w K mg base "read_place" 4 ["text"] (XV K))(DV:Dn P w K mg base "numbered" 1 ["names"] (v7 K))(Bs:Dn P w K mg base "number_of" 1 ["numbers","name"] GA)(sK:Dn P w K mg base "game_of" 6 ["rows"] v6):Dn P w K mg base "read_game" 7 ["text"] (Mf K):=by
 have sc:=Aj;refine F.ok sc (λvs H Q E h=>?_) (λf dW A outer s H vs Q E hr h=>?_)
 .obtain⟨_,_,rfl,_⟩:=h;rfl
 obtain⟨names,G,rfl,hl,YO,kc,hG,VL,q⟩:=h;refine⟨_,(ak (rJ (i:=1) (aC gH) ["text","places","names","numbers","rows","place"] ["part"] 1 [] sc.nd Z Z (cV (b9 wK hr (aa (pv 0) am))) (λ_ _ _ _ _ _=>(d0 (show cM (["part"]:List aE) by trivial) Z Z)) (λ_ _ _ _ _ _=>gm) (λ_ _ _ _ _ _=>(b9 y8 hr (aa (pv 0) am))))
   (ak (rJ (i:=2) (aC gH) ["text","places","names","numbers","rows","place"] ["place"] 1 [] sc.nd Z Z (cV (pv 1)) (λ_ _ _ _ _ _=>(d0 (show cM (["place"]:List aE) by trivial) Z Z)) (λ_ _ _ _ _ _=>gm) (λ_ _ _ _ _ _=>(be (m9 (K:=K) Z) (pv 0) aD (λ_ _=>rfl))))
   (ak (bz (i:=3) sc.nd Z (uy Z) (b9 DV hr (aa (pv 2) am)))
   (ak (bz (i:=4) sc.nd Z (aY Z) (eY am))
   (ak (fD bB Z (cV (pv 1)) (cU (i:=5) sc.nd Z (aY Z))
   (aA (cL (ge ba bR bS fw (pv 4) (aa (gt (aa (be (m9 (K:=K) Z) (pv 5) aD (λ_ _=>rfl)) (aa (be (m9 (K:=K) Z) (pv 5) aD (λ_ _=>rfl)) (aa (lS (aC gH) ["text","places","names","numbers","rows","place"] ["name","numbers"] 1 [3] (cV (be (m9 (K:=K) Z) (pv 5) aD (λ_ _=>rfl))) (λ_ _ _ _ _ _=>(d0 (show cM (["name","numbers"]:List aE) by trivial) Z Z)) (λ_ _ _ _ _ _=>gm) (λ_ _ _ _ _ _=>(b9 Bs hr (aa (pv 1) (aa (pv 0) am))))) am)))) am)))))
   (aA (bU (gt (aa (pv 2) (aa (b9 sK hr (aa (pv 4) am)) am)))))))))),?_⟩
 have Iv:(names.zip G).length=G.length:=by rw[md];omega
 refine⟨_,Z,gT names G,Z,Vi hl YO kc hG,λp0 H0 s0 _ xZ=>?_⟩;rw[a0N hl kc hG] at xZ;have m8:((uj names G).map V.str).length=G.length:=by unfold uj;rw[ab,ab,Iv]
 refine⟨p0,Z,⟨_,bI.of xZ⟩,cW (K:=K) (a:=p0) (xs:=(uj names G).map V.str) (λi ys H2=>aU H0 H2/\gf (rPl names H2) ((names.zip G).take i) ys) ⟨aU.refl _,.nil⟩ (a0a (m:=1000) (by omega)) (λi ys H2 hi h=>?_) (λi x ys H2 hi h=>?_) (λys H2 h pl Wq=>?_)⟩
 .exact⟨bI.of (h.1 _ _ xZ),by have:=h.2.length;rw[db] at this;omega⟩
 .obtain⟨s2,pr⟩:=h;have Dy:i<(names.zip G).length:=by have:=(aj.mp hi).1;omega
  obtain⟨⟨nm,r⟩,hz⟩:∃ p,(names.zip G)[i]?=O p:=⟨(names.zip G)[i],bi Dy⟩
  obtain⟨hn,hr⟩:a0b nm=true/\lN names.length r:=wt hl kc hG _ (ag hz);have ex:x=V.str (JJ names nm r):=by
   unfold uj at hi;rw[au,au,hz] at hi;exact(bQ hi).symm
  subst ex;obtain⟨f1,f2,f3,f4⟩:=zI hr.r0 hr.r1;refine gq ?_;refine⟨_,Z,JJ names nm r,nm,mq r.2.1,r.1,r.2.1,r.2.2.map (λw:Int=>names.getD w.toNat ""),Z,by have:=(tz kc hn hr).1;omega,LH kc hn hr,hr.h,hn,f1,f2,λx hx=>?_,by rw[ab];have:=hr.l;omega,λt l H3 s3 _ _ ht hl3=>⟨s2.trans s3,?_⟩⟩
  .obtain⟨y,hy,rfl⟩:=bE.mp hx;obtain⟨z,_,e,hz⟩:=oS kc (hr.w y hy).1 (hr.w y hy).2;show a0b (names.getD y.toNat "")=true;rw[e];exact hz
  .rw[aM,hz];exact Paired.app (dq (zC names) s3 pr) (.cons ⟨t,l,Z,ht,hl3⟩ .nil)
 obtain⟨s2,pr⟩:=h;rw[m8,← Iv,aR] at pr;have s3:=s0.trans (s2.trans (av Wq (.lst ys)));have N3:upd H2 pl (.lst ys) pl=O (.lst ys):=ao;replace pr:=dq (zC names) (av Wq (.lst ys)) pr;generalize upd H2 pl (.lst ys)=H3 at s3 N3 pr ⊢;have Na:ys.length=G.length:=by rw[← pr.length,Iv]
 refine⟨_,Z,pl,Z,⟨_,bI.of N3⟩,cW (K:=K) (a:=pl) (xs:=ys) (λi zs H4=>H4=H3/\zs=(names.take i).map V.str) ⟨Z,Z⟩ (a0a (m:=1000) (by omega)) (λi zs H4 hi h=>?_) (λi x zs H4 hi h=>?_) (λzs H4 h na Sb=>?_)⟩
 .obtain⟨rfl,rfl⟩:=h;exact⟨bI.of N3,by simp;omega⟩
 .obtain⟨rfl,rfl⟩:=h;have Dy:i<(names.zip G).length:=by have:=(aj.mp hi).1;omega
  obtain⟨⟨nm,r⟩,hz⟩:∃ p,(names.zip G)[i]?=O p:=⟨(names.zip G)[i],bi Dy⟩
  obtain⟨x',Ir,t,l,rfl,ht,_⟩:=Paired.at pr hz;rw[hi] at Ir;cases Ir;have qg:names[i]?=O nm:=(gb.mp hz).1;refine gq ?_;refine⟨_,Z,t,_,_,_,Z,Z,gA.of ht,bb (j:=0) Z,Z,?_⟩;rw[aM,qg,aB];rfl
 obtain⟨rfl,rfl⟩:=h;rw[Na,← hl,aR];have s4:=av Sb (.lst (names.map V.str));have Sa:upd H4 na (.lst (names.map V.str)) na=O (.lst (names.map V.str)):=ao;have na0:=s3.free Sb;replace pr:=dq (zC names) s4 pr;have Wr:=s4 _ _ N3;replace s4:=s3.trans s4;generalize upd H4 na (.lst (names.map V.str))=H5 at s4 Sa pr Wr ⊢;refine⟨_,Z,na,names,Z,bI.of Sa,kc.nd,by omega,λdp H6 s6 _ VA=>?_⟩;refine⟨bq _,λg hg=>?_⟩;have Ws:=s6 _ _ Wr;refine⟨_,Z,pl,Z,⟨_,bI.of (av hg _ _ _ Ws)⟩,gr (K:=K) (a:=pl) (xs:=ys) (λi J H7=>∃ y:Option V,J=[O (.str (gT names G)),O (.ref pl),O (.ref na),O (.ref dp),O (.ref g),y]/\Dh zW H6 H7 g (G.take i))
  ⟨_,Z,Dh.start (aU.refl _) hg⟩ (λi J H7 _ h=>?_) (λi x J H7 hi h=>?_) (λ J H7 h=>?_)⟩
 .obtain⟨_,_,b⟩:=h;exact bI.of (b.s _ _ Ws)
 .obtain⟨y,rfl,b⟩:=h;have Dy:i<(names.zip G).length:=by have:=(aj.mp hi).1;omega
  obtain⟨⟨nm,r⟩,hz⟩:∃ p,(names.zip G)[i]?=O p:=⟨(names.zip G)[i],bi Dy⟩
  obtain⟨x',Ir,t,l,rfl,ht,VY⟩:=Paired.at pr hz;rw[hi] at Ir;cases Ir;have hrG:G[i]?=O r:=(gb.mp hz).2;have hr:=hG r (ag hrG);have s7:=s6.trans b.s;have ht7:=s7 _ _ ht;have VZ:=s7 _ _ VY;have hd7:=b.s _ _ VA;obtain⟨gvs,hgv,_⟩:=b.sq;refine⟨_,Z,.inl ⟨Z,_,bI.of hgv⟩,_,Z,t,_,_,_,Z,Z,gA.of ht7,bb (j:=1) Z,_,Z,t,_,_,_,Z,Z,gA.of ht7,bb (j:=2) Z,_,Z,t,_,_,_,Z,Z,gA.of ht7,bb (j:=3) Z,l,Z,⟨_,bI.of VZ⟩,cW (K:=K) (a:=l) (xs:=(r.2.2.map λw=>names.getD w.toNat "").map V.str) (λk zs H8=>H8=H7/\zs=(r.2.2.take k).map V.int) ⟨Z,Z⟩ (a0a (m:=1000) (by rw[ab,ab];have:=hr.l;omega)) (λk zs H8 hk h=>?_) (λk x zs H8 hk h=>?_) (λzs H8 h wp JI=>?_)⟩
  .obtain⟨rfl,rfl⟩:=h;exact⟨bI.of VZ,by simp;omega⟩
  .obtain⟨rfl,rfl⟩:=h;rw[au,au] at hk;obtain⟨z,hz,rfl⟩:∃ z,r.2.2[k]?=O z/\x=V.str (names.getD z.toNat ""):=by
    cases e:r.2.2[k]? with
    |none=>rw[e] at hk;cases hk
    |some z=>rw[e] at hk;cases hk;exact⟨z,Z,Z⟩
   have ww:=hr.w z (ag hz);refine gq ?_;refine⟨_,Z,_,Z,dp,nF names,_,z,Z,hd7,OB kc.nd ww.1 ww.2,Z,?_⟩;rw[aM,hz,aB];rfl
  obtain⟨rfl,rfl⟩:=h;rw[ab,ab,aR];refine⟨(by show 3<=az;decide),λt2 AV=>?_⟩;have sw:=av JI (.lst (r.2.2.map V.int));obtain⟨vs4,k1,k2,b4⟩:=b.push iU (sw.trans (av AV _)) (zZ (h:=r.1) (r:=r.2.1) (ws:=r.2.2) sw JI ao AV);refine⟨g,vs4,_,Z,Z,k1,(o9 (m:=1000) (by rw[k2,db];omega)),?_⟩;refine⟨_,Z,?_⟩;rw[aM,hrG];exact b4
 obtain⟨y,rfl,b⟩:=h;rw[Na,aR] at b;have hgm:=dS.up (ye _ _) (b.done iU);refine⟨_,Z,_,Z,.ref g,G,Z,hgm,VL,λr hr=>(hG r hr).l,λv8 H8 s8 hv8=>?_⟩;refine⟨(by show 2<=az;decide),λrp N6=>?_⟩;exact q rp na v8 H7 H8 _ (s4.trans (s6.trans b.s)) s8 (av N6 _) N6 ao na0 (b.s _ _ (s6 _ _ Sa)) hv8
theorem gL(x y:aE):(x++y).length=x.length+y.length:=by rw[a0e,a0h,aV,← a0e,← a0e]
theorem NU(nm d:aE)(hand:Int):nm++⟨#[sgn hand]⟩++d=gd nm hand d:=by
 unfold gd sgn
 by_cases h:hand=0
 .rw[if_pos h,if_pos h];rfl
 .rw[if_neg h,if_neg h];rfl
theorem Os{z:Int}(h0:0<=z)(h1:z<41):z.natAbs.log2<1920:=by
 have h:z.natAbs<=40:=by omega
 have:=Nat.log2_le_self z.natAbs;omega
def Mh(K:af):Sp:=λvs H Q _=>∃(na:ai)(v:V)(names:List aE)(G:List Row),vs=[.ref na,v]/\bI K H na (names.map V.str)/\hZ H G v/\names.length=G.length/\G.length<=80/\qY names/\(∀ r∈G,lN names.length r)/\∀ H',aU H H'->Q (.str (gT names G)) H'
theorem OS(F:aN K mg "_law_text" kr ["_law_names_here","_law_rows_here"])(T:Txt mg):Dn P w K mg base "_law_text" 1 ["_law_names_here","_law_rows_here"] (Mh K):=by
 have sc:=CK;refine F.ok sc (λvs H Q E h=>?_) (λf dW A outer s H vs Q E hr h=>?_)
 .obtain⟨_,_,_,_,rfl,_⟩:=h;rfl
 obtain⟨na,v,names,G,rfl,hS,hGm,hl,YO,kc,hG,q⟩:=h;obtain⟨g0,gv,rfl,jl,n9,ll⟩:=dk hGm;refine⟨_,(ak (bz (i:=2) sc.nd Z (aY Z) (eY am))
   (ak (fD bB Z (EV (K:=K) Z Z T.Kb (aa (pv 0) (aa (pv 1) am))) (tw Z (gu (cU (i:=3) sc.nd Z (aY Z)) (gu (cU (i:=4) sc.nd Z (aY Z)) pG)))
   (aA (cL (ge ba bR bS fw (pv 2) (aa (ge cO Dm Do F9 cq (aa (bA Tf (eY (aa (bA cy (bA cy (pv 3) (be qG cq (be (m9 (K:=K) Z) (pv 4) aD (λ_ _=>rfl)) (λ_ _=>rfl))) (km zh Z T.FI jG (aa (be (m9 (K:=K) Z) (pv 4) aD (λ_ _=>rfl)) am))) am)) (lS (aC kr) ["_law_names_here","_law_rows_here","_law_parts","_law_name","_law_row"] ["_law_way","_law_names_here"] 1 [0] (cV (be (m9 (K:=K) Z) (pv 4) aD (λ_ _=>rfl))) (λ_ _ _ _ _ _=>(d0 (show cM (["_law_way","_law_names_here"]:List aE) by trivial) Z Z)) (λ_ _ _ _ _ _=>gm) (λ_ _ _ _ _ _=>(be (iy (K:=K) Z) (pv 1) (pv 0) (λ_ _=>rfl))))) am)) am)))))
   (aA (bU (ge cO Dm Do F9 cq (aa (pv 2) am)))))),?_⟩
 have Iv:(names.zip G).length=G.length:=by rw[md];omega
 have m8:(uj names G).length=G.length:=by unfold uj;rw[ab,Iv]
 have Ep:(names.map V.str).length=names.length:=ab _;refine⟨bq _,λg hg=>?_⟩;have sg:=av hg (.lst []);refine⟨_,Z,_,Z,na,g0,Z,⟨_,sg.seq hS⟩,⟨_,bI.of (sg _ _ jl)⟩,NO (K:=K) (a:=na) (b:=g0) (xs:=names.map V.str) (ys:=gv) (by omega) (λi J H2=>(∃ y1 y2:Option V,J=[O (.ref na),O (.ref g0),O (.ref g),y1,y2])/\aU H H2/\H2 g=O (.lst (((uj names G).take i).map V.str)))
  ⟨⟨_,_,Z⟩,sg,ao⟩ (λi J H2 _ h=>⟨h.2.1.seq hS,bI.of (h.2.1 _ _ jl)⟩) (λi x y J H2 Tt hi hj h hT=>?_) (λ J H2 h=>?_)⟩
 .obtain⟨⟨y1,y2,rfl⟩,s2,Qs⟩:=h;have Dy:i<G.length:=by have:=(aj.mp hj).1;omega
  obtain⟨row,iL⟩:∃ row,G[i]?=O row:=⟨G[i],by simp⟩
  obtain⟨t,wa,p1,p2,p3⟩:=ll i row iL;rw[hj] at p1;cases p1;obtain⟨nm,qg⟩:∃ nm,names[i]?=O nm:=⟨names[i]'(by omega),by simp⟩
  rw[au,qg] at hi;cases hi;have hn:=kc.nm nm (ag qg);have hr:=hG row (ag iL);obtain⟨n1,n2,n3⟩:=nB hn;obtain⟨f1,f2,f3,f4⟩:=zI hr.r0 hr.r1;have Us:(uj names G)[i]?=O (JJ names nm row):=by
   unfold uj;rw[au,gb (z:=(nm,row)) |>.mpr ⟨qg,iL⟩];rfl
  have s3:=s2.trans (av hT (.tup [.str nm,.ref t]));have hg3:=av hT (.tup [.str nm,.ref t]) _ _ Qs;refine⟨Tt,_,Z,gA.of ao,Z,_,_,Z,_,_,Z,Z,?_⟩;have hT3:upd H2 Tt (.tup [.str nm,.ref t]) Tt=O (.tup [.str nm,.ref t]):=ao;generalize upd H2 Tt (.tup [.str nm,.ref t])=H3 at s3 hg3 hT3 ⊢;have UD:=s3 _ _ p2;have p3':=s3 _ _ p3;have FV:oB (("+-" : aE).cps.toList) row.1=O (sgn row.1):=by rcases hr.h with e | e <;> rw[e] <;> rfl
  have l1:∀ c:Nat,(⟨#[c]⟩:aE).length=1:=λ_=>rfl;refine⟨_,Z,.inl ⟨Z,_,bI.of hg3⟩,Z,_,Z,_,Z,t,_,_,_,Z,Z,gA.of UD,bb (j:=0) Z,"+-",row.1,sgn row.1,Z,Z,(by trivial),FV,nm,_,Z,Z,a0a (m:=1000) (by rw[l1];omega),_,Z,t,_,_,_,Z,Z,gA.of UD,bb (j:=1) Z,row.2.1,Z,Os hr.r0 hr.r1,_,_,Z,Z,a0a (m:=1000) (by rw[gL,l1];show _+(mq row.2.1).length<=_;omega),(by show 1<=az;decide),λxZ abr=>?_⟩;rw[show toString row.2.1=(mq row.2.1:aE) from Z,NU];have s4:=av abr (.lst [V.str (gd nm row.1 (mq row.2.1))]);have Y1:upd H3 xZ (.lst [V.str (gd nm row.1 (mq row.2.1))]) xZ=O (.lst [V.str (gd nm row.1 (mq row.2.1))]):=ao;generalize upd H3 xZ (.lst [V.str (gd nm row.1 (mq row.2.1))])=H4 at s4 Y1 ⊢;refine⟨_,Z,t,_,_,_,Z,Z,gA.of (s4 _ _ UD),bb (j:=2) Z,wa,Z,⟨_,bI.of (s4 _ _ p3')⟩,cW (K:=K) (a:=wa) (xs:=row.2.2.map V.int) (λk zs H8=>H8=H4/\zs=((row.2.2.take k).map λw=>names.getD w.toNat "").map V.str) ⟨Z,Z⟩ (a0a (m:=1000) (by rw[ab];have:=hr.l;omega)) (λk zs H8 hk h=>?_) (λk x zs H8 hk h=>?_) (λzs H8 h wp JI=>?_)⟩
  .obtain⟨rfl,rfl⟩:=h;exact⟨bI.of (s4 _ _ p3'),by simp;omega⟩
  .obtain⟨rfl,rfl⟩:=h;obtain⟨z,hz,rfl⟩:=dR hk;have ww:=hr.w z (ag hz);obtain⟨nz,hnz,enz,_⟩:=oS kc ww.1 ww.2;refine gq ?_;refine⟨_,Z,_,Z,na,_,_,_,Z,Z,(s3.trans s4).seq hS,fi ww.1 (by rw[au,hnz];rfl),Z,?_⟩;rw[aM,hz,aB,aB];show _=_++[V.str (names.getD z.toNat "")];rw[enz]
  obtain⟨rfl,rfl⟩:=h;rw[ab,aR];refine⟨xZ,wp,_,_,Z,Z,av JI _ _ _ Y1,ao,a0a (m:=1000) (by rw[ab,ab];have:=hr.l;simp;omega),λjp hjp=>?_⟩;have s6:=s4.trans ((av JI (.lst ((row.2.2.map λw=>names.getD w.toNat "").map V.str))).trans (av hjp (.lst ([V.str (gd nm row.1 (mq row.2.1))]++(row.2.2.map λw=>names.getD w.toNat "").map V.str))));refine⟨" ",jp,LG names nm row,Z,Z,bI.of ao,(by trivial),?_,?_⟩
  .have h1:=AB 18 (LG names nm row) λx hx=>(pO kc hn hr x hx).1;have h2:(LG names nm row).length<=63:=by
    have:=hr.l;unfold LG;rw[cz,ab];omega
   omega
  refine⟨g,_,_,Z,Z,s6 _ _ hg3,o9 (m:=1000) (by rw[ab,db];omega),?_⟩;refine⟨⟨_,_,Z⟩,(s3.trans s6).put hg _,?_⟩;rw[ao,aM,Us,aB];rfl
 obtain⟨⟨y1,y2,rfl⟩,s2,Qs⟩:=h;rw[Ep,hl,← m8,aR] at Qs;refine⟨Z,_,Z,"; ",g,uj names G,Z,Z,bI.of Qs,(by trivial),?_,q _ s2⟩;have h1:=AB 1197 (uj names G) λx hx=>by
  unfold uj at hx;obtain⟨y,hy,rfl⟩:=bE.mp hx;obtain⟨z1,z2⟩:=wt hl kc hG y hy;exact(tz kc z1 z2).1
 omega
def Rs(n:Int)(ws:List Int):Prop:=ws.Pairwise (·<·)/\(∀ x∈ws,0<=x/\x<n)/\ws.length<=40
def Dk(G:List Row):Prop:=G.length<=63/\∀ row∈G,Rs G.length row.2.2
theorem Dk.Yq{G:List Row}(h:Dk G):G8 G:=λrow hr=>⟨(h.2 row hr).1,(h.2 row hr).2.1⟩
def XT:Sp:=λvs H Q _=>Nk λ(v:V) (G:List Row)=>Bl (vs=[v]) (hZ H G v) (Dk G) (∀(r:ai)(as:List ai)(H':Hp),aU H H'->H r=Y->(∀ a∈as,H a=Y)->Cells H' r as (wi G G.length)->Q (.ref r) H')
theorem Ci{ws:List Int}(h:ws.Pairwise (·<·)):ws.Nodup:=h.imp λh=>by omega
theorem FN(G:List Row)(i p:Nat):(col G i p).length<=i:=by
 unfold col;rw[ab];exact bF (cC _ _) (by simp)
theorem Xj(F:aN K mg "ways_in" lK ["game"])(T:Txt mg):Dn P w K mg base "ways_in" 1 ["game"] XT:=by
 have sc:=Fb;refine F.ok sc (λvs H Q E h=>?_) (λf dW A outer s H vs Q E hr h=>?_)
 .obtain⟨v,G,rfl,_⟩:=h;rfl
 obtain⟨v,G,rfl,hG,c8,q⟩:=h;obtain⟨g0,gv,rfl,jl,n9,ll⟩:=dk hG;have agV:=c8.1;refine⟨_,(ak (rJ (i:=1) (aC lK) ["game","entries","place","row","way"] ["row"] 1 [] sc.nd Z Z (cV (pv 0)) (λ_ _ _ _ _ _=>(d0 (show cM (["row"]:List aE) by trivial) Z Z)) (λ_ _ _ _ _ _=>gm) (λ_ _ _ _ _ _=>(eY am)))
   (ak (fD bB Z (zR (K:=K) Z Z T.my (aa (pv 0) am)) (tw Z (gu (cU (i:=2) sc.nd Z (aY Z)) (gu (cU (i:=3) sc.nd Z (aY Z)) pG)))
   (aA (fD bB Z (cV (be (m9 (K:=K) Z) (pv 3) aD (λ_ _=>rfl))) (cU (i:=4) sc.nd Z (aY Z))
   (aA (cL (ge ba bR bS fw (be (iy (K:=K) Z) (pv 1) (pv 4) (λ_ _=>rfl)) (aa (pv 2) am)))))))
   (aA (bU (pv 1))))),?_⟩
 refine⟨_,Z,g0,Z,⟨_,bI.of jl⟩,cW (K:=K) (a:=g0) (xs:=gv) (λi ys H2=>aU H H2/\∃ as:List ai,ys=as.map V.ref/\as.length=i/\as.Nodup/\∀ a∈as,H a=Y/\H2 a=O (.lst [])) ⟨aU.refl _,[],Z,Z,qP,λ_ z=>by cases z⟩ (a0a (m:=1000) (by omega)) (λi ys H2 hi h=>?_) (λi x ys H2 hi h=>?_) (λys H2 h r hr=>?_)⟩
 .obtain⟨s2,as,rfl,e,_⟩:=h;exact⟨bI.of (s2 _ _ jl),by simp;omega⟩
 .obtain⟨s2,as,rfl,e,nd,ha⟩:=h;refine gq ?_;refine⟨bq _,λp hp=>?_⟩;have hpn:p ∉ as:=λz=>by have:=(ha p z).2;rw[hp] at this;cases this
  refine⟨s2.trans (av hp _),as++[p],by simp,by simp[e],?_,λa hm=>?_⟩
  .rw[e7];exact⟨nd,by simp,λa h1 b h2=>by rw[bj.mp h2];exact λz=>hpn (z ▸ h1)⟩
  .rcases bH.mp hm with h | h
   .exact⟨(ha a h).1,av hp _ _ _ (ha a h).2⟩
   .rw[bj.mp h];exact⟨s2.free hp,ao⟩
 obtain⟨s2,as,rfl,e,nd,ha⟩:=h;have Wt:H r=Y:=s2.free hr;have hrn:r ∉ as:=λz=>by have:=(ha r z).2;rw[hr] at this;cases this
 have c0:Cells (upd H2 r (.lst (as.map V.ref))) r as (wi G 0):=by
  refine⟨ao,nd,hrn,by rw[MD,e,n9],λi a h=>⟨[],?_,av hr _ _ _ (ha a (ag h)).2⟩⟩;have:=(aj.mp h).1;rw[PP,j0,if_pos (by omega)]
 have vw:∀ a∈as,H a=Y:=λa h=>(ha a h).1;refine⟨_,Z,g0,Z,⟨_,bI.of (s2.trans (av hr _) _ _ jl)⟩,BX (K:=K) (a:=g0) (xs:=gv) (λi J H3=>∃ y1 y2 y3:Option V,J=[O (.ref g0),O (.ref r),y1,y2,y3]/\aU H H3/\Cells H3 r as (wi G i))
  ⟨_,_,_,Z,s2.trans (av hr _),c0⟩ (λi J H3 _ h=>?_) (λi x J H3 Tt hi h hT=>?_) (λ J H3 h=>?_)⟩
 .obtain⟨_,_,_,_,s3,_⟩:=h;exact bI.of (s3 _ _ jl)
 .obtain⟨y1,y2,y3,rfl,s3,c3⟩:=h;have Dy:i<G.length:=by have:=(aj.mp hi).1;omega
  obtain⟨row,iL⟩:∃ row,G[i]?=O row:=⟨G[i],by simp⟩
  obtain⟨t,wa,p1,p2,p3⟩:=ll i row iL;rw[hi] at p1;cases p1;have hw:=c8.2 row (ag iL);have ew:iO G i=row.2.2:=Jo iL;have sT:=av hT (.tup [.int (i:Nat),.ref t]);refine⟨Tt,_,Z,gA.of ao,Z,_,_,Z,_,_,Z,Z,?_⟩;refine⟨_,Z,t,_,_,_,Z,Z,gA.of ((s3.trans sT) _ _ p2),bb (j:=2) Z,wa,Z,⟨_,bI.of ((s3.trans sT) _ _ p3)⟩,gr (K:=K) (a:=wa) (xs:=row.2.2.map V.int) (λj J H4=>∃ y3:Option V,J=[O (.ref g0),O (.ref r),O (.int (i:Nat)),O (.ref t),y3]/\aU H H4/\Cells H4 r as (GL G i j))
   ⟨_,Z,s3.trans sT,by rw[MC];exact c3.up sT⟩ (λj J H4 _ h=>?_) (λj x J H4 hj h=>?_) (λ J H4 h=>?_)⟩
  .obtain⟨_,_,s4,_⟩:=h;exact bI.of (s4 _ _ p3)
  .obtain⟨y,rfl,s4,c4⟩:=h;obtain⟨z,hz,rfl⟩:=dR hj;obtain⟨b1,b2⟩:=hw.2.1 z (ag hz);rw[← ew] at hz;obtain⟨a,L,k1,k2,k3,k4⟩:=c4.at b1 (by rw[GM];exact b2);have e1:=T5 hz (by rw[ew];exact Ci hw.1) b1 b2;rw[e1] at k2;cases k2;have YX:=FN G i z.toNat;refine⟨_,Z,_,Z,r,_,_,_,Z,Z,bI.of c4.hd,k3,.inl ⟨Z,_,bI.of k4⟩,_,Z,a,_,_,Z,Z,k4,o9 (m:=1000) (by rw[ab];omega),?_⟩;have c5:=c4.put k1 (col G i z.toNat++[(i:Int)]);rw[PM hz b1 b2,aB] at c5;exact⟨_,Z,s4.put (vw a (ag k1)) _,c5⟩
  .obtain⟨y,rfl,s4,c4⟩:=h;rw[ab,← ew,PL] at c4;exact⟨_,_,_,Z,s4,c4⟩
 .obtain⟨y1,y2,y3,rfl,s3,c3⟩:=h;rw[n9] at c3;exact⟨_,Z,q r as H3 s3 Wt vw c3⟩
def pL:Sp:=λvs H Q _=>YB λ(n:Nat) (a:ai) (ps:List Int)=>Bl (vs=[.int n,.ref a]) (n<=1000) (H a=O (.lst (ps.map V.int))) (∀(p:ai)(H':Hp),aU H H'->H p=Y->H' p=O (.lst (bm n λx=>decide (x∈ps)))->Q (.ref p) H')
theorem vI(F:aN K mg "place_marks" i5 ["count","places"])(T:Txt mg)(lL:Dn P w K mg base "is_place" 2 ["value","count"] uR):Dn P w K mg base "place_marks" 3 ["count","places"] pL:=by
 have sc:=vZ;refine F.ok sc (λvs H Q E h=>?_) (λf dW A outer s H vs Q E hr h=>?_)
 .obtain⟨_,_,_,rfl,_⟩:=h;rfl
 obtain⟨n,a,ps,rfl,hn,ha,q⟩:=h;refine⟨_,(ak (bz (i:=2) sc.nd Z (aY Z) (bA vJ (eY (aa ln am)) (pv 0)))
   (ak (fD bB Z (cV (pv 1)) (cU (i:=3) sc.nd Z (aY Z))
   (aA (dE (fM (b9 lL hr (aa (pv 3) (aa (pv 0) am))))
   (aA (tD ln (tq (pv 2) (pv 3) a0k)))
   cv)))
   (aA (bU (pv 2))))),?_⟩
 refine⟨(by show 1<=az;decide),λn1 vx=>?_⟩;have s1:=av vx (.lst [V.bl false]);refine⟨_,Z,n1,_,_,Z,Z,ao,by omega,by omega,a0a (m:=1000) (by simp;omega),λm hm=>?_⟩;have s2:=s1.trans (av hm (.lst (aX ((n:Nat):Int).toNat [V.bl false]).flatten));have cX:H m=Y:=s1.free hm;have uI:upd (upd H n1 (.lst [V.bl false])) m (.lst (aX ((n:Nat):Int).toNat [V.bl false]).flatten) m=O (.lst (bm n λx=>decide (x∈ps.take 0))):=by
  rw[ao,bO,Kc];simp
 generalize upd (upd H n1 (.lst [V.bl false])) m (.lst (aX ((n:Nat):Int).toNat [V.bl false]).flatten)=H1 at s2 uI ⊢;refine⟨_,Z,a,Z,⟨_,bI.of (s2 _ _ ha)⟩,gr (K:=K) (a:=a) (xs:=ps.map V.int) (λi J H2=>∃ y:Option V,J=[O (.int n),O (.ref a),O (.ref m),y]/\aU H H2/\H2 m=O (.lst (bm n λx=>decide (x∈ps.take i)))) ⟨_,Z,s2,uI⟩ (λi J H2 _ h=>?_) (λi x J H2 hi h=>?_) (λ J H2 h=>?_)⟩
 .obtain⟨_,_,s3,_⟩:=h;exact bI.of (s3 _ _ ha)
 .obtain⟨y,rfl,s3,h3⟩:=h;obtain⟨z,hz,rfl⟩:=dR hi;refine⟨_,Z,_,Z,z,_,Z,_,Z,?_⟩;refine gN (λc=>?_) (λc=>?_)
  .obtain⟨z0,z1⟩:=of_decide_eq_true c;refine⟨_,Z,_,Z,m,_,_,z.toNat,Z,Z,h3,?_,?_⟩
   .unfold B8;rw[zc,if_pos z0,if_pos z1]
   .refine⟨_,Z,s3.put cX _,?_⟩;rw[ao,Rx z0 z1];congr 2;exact BH λp _ _=>by rw[em];simp[cG hz]
  .refine⟨_,Z,s3,?_⟩;rw[h3];congr 2;refine BH λp p0 p1=>?_;have jZ:p≠z:=λe=>c (decide_eq_true (by rw[← e];exact⟨p0,p1⟩));rw[em];simp[cG hz,jZ]
 .obtain⟨y,rfl,s3,h3⟩:=h;rw[ab,aR] at h3;exact⟨_,Z,q m H2 s3 cX h3⟩
def JZ(H:Hp)(qv:V)(ins:Int->Bool):Prop:=(qv=.fC/\ins=λ_=>true)\/∃(a:ai)(ps:List Int),qv=.ref a/\H a=O (.lst (ps.map V.int))/\ins=λx=>decide (x∈ps)
def Md:Sp:=λvs H Q _=>Ex4 λ(v:V) (qv:V) (G:List Row) (ins:Int->Bool)=>GV (vs=[v,qv]) (hZ H G v) (G.length<=63) (JZ H qv ins) (∀(p:ai)(H':Hp),aU H H'->H p=Y->H' p=O (.lst (bm G.length ins))->Q (.ref p) H')
theorem xf(F:aN K mg "part_marks" jV ["game","part"])(T:Txt mg)(eF:Dn P w K mg base "place_marks" 3 ["count","places"] pL):Dn P w K mg base "part_marks" 4 ["game","part"] Md:=by
 have sc:=xu;refine F.ok sc (λvs H Q E h=>?_) (λf dW A outer s H vs Q E hr h=>?_)
 .obtain⟨_,_,_,_,rfl,_⟩:=h;rfl
 obtain⟨v,qv,G,ins,rfl,hG,Dv,hp,q⟩:=h;obtain⟨g0,gv,rfl,jl,n9,_⟩:=dk hG;refine⟨_,(ak (dE (vS (EU (pv 1)))
   (aA (bU (bA vJ (eY (aa ln am)) (bP (gp (K:=K) Z) Z T.fR bu (aa (pv 0) am)))))
   cv)
   (aA (bU (b9 eF hr (aa (bP (gp (K:=K) Z) Z T.fR bu (aa (pv 0) am)) (aa (pv 1) am)))))),?_⟩
 rcases hp with ⟨rfl,rfl⟩ | ⟨a,ps,rfl,ha,rfl⟩
 .refine⟨_,Z,_,Z,?_⟩;refine KS ?_;refine⟨(by show 1<=az;decide),λn1 vx=>?_⟩;have s1:=av vx (.lst [V.bl true]);refine⟨_,Z,g0,_,Z,.inl (bI.of (s1 _ _ jl)),n1,_,_,Z,Z,ao,by omega,by omega,a0a (m:=1000) (by simp;omega),λm hm=>?_⟩;refine q m _ (s1.trans (av hm _)) (s1.free hm) ?_;rw[ao,bO,Kc,n9]
 .refine⟨_,Z,_,Z,?_⟩;refine gO ?_;exact⟨_,Z,g0,_,Z,.inl (bI.of jl),_,Z,gv.length,a,ps,Z,by omega,ha,λp H' s1 hp h1=>q p H' s1 hp (by rw[← n9];exact h1)⟩
def Ma:Sp:=λvs H Q _=>Z4 λ(v:V) (G:List Row) (hand:Int) (ia:ai) (wa:ai) (ins:Int->Bool) (want:Int->Bool)=>Nf (vs=[v,.int hand,.ref ia,.ref wa]) (hZ H G v) (Dk G) (H ia=O (.lst (bm G.length ins))) (H wa=O (.lst (bm G.length want))) (∀(p:ai)(H':Hp),aU H H'->H p=Y->H' p=O (.lst ((im G.length λx=>((eJ G hand ins want x:Nat):Int)).map V.int))->Q (.ref p) H')
theorem EO(F:aN K mg "lacking_ways" gx ["game","hand","inside","wanted"])(T:Txt mg):Dn P w K mg base "lacking_ways" 1 ["game","hand","inside","wanted"] Ma:=by
 have sc:=uk;refine F.ok sc (λvs H Q E h=>?_) (λf dW A outer s H vs Q E hr h=>?_)
 .obtain⟨_,_,_,_,_,_,_,rfl,_⟩:=h;rfl
 obtain⟨v,G,hand,ia,wa,ins,want,rfl,hG,c8,hi0,KQ,q⟩:=h;obtain⟨g0,gv,rfl,jl,n9,ll⟩:=dk hG;have Dv:=c8.1;refine⟨_,(ak (bz (i:=4) sc.nd Z (aY Z) (eY am))
   (ak (fD bB Z (zR (K:=K) Z Z T.my (aa (pv 0) am)) (tw Z (gu (cU (i:=5) sc.nd Z (aY Z)) (gu (cU (i:=6) sc.nd Z (aY Z)) pG)))
   (aA (dE (PW.pt (a0o (ji (fM (be (iy (K:=K) Z) (pv 2) (pv 5) (λ_ _=>rfl)))) (a0m (fM (be (iy (K:=K) Z) (pv 3) (pv 5) (λ_ _=>rfl))))))
   (aA (cL (ge ba bR bS fw (pv 4) (aa aD am))))
   (aA (dE (cA lR (be (m9 (K:=K) Z) (pv 6) aD (λ_ _=>rfl)) (pv 1) (de _))
   (aA (cL (ge ba bR bS fw (pv 4) (aa aD am))))
   (aA (cL (ge ba bR bS fw (pv 4) (aa (bP (gp (K:=K) Z) Z T.fR bu (aa (lS (aC gx) ["game","hand","inside","wanted","lacking","place","row"] ["way","inside"] 1 [2] (cV (be (m9 (K:=K) Z) (pv 6) aD (λ_ _=>rfl))) (λ_ _ _ _ _ _=>(d0 (show cM (["way","inside"]:List aE) by trivial) Z Z)) (λ_ _ _ _ _ _=>(mH (fM (be (iy (K:=K) Z) (pv 1) (pv 0) (λ_ _=>rfl))))) (λ_ _ _ _ _ _=>(pv 0))) am)) am)))))))))
   (aA (bU (pv 4))))),?_⟩
 refine⟨bq _,λla zt=>?_⟩;have s0:=av zt (.lst []);refine⟨_,Z,g0,Z,⟨_,bI.of (s0 _ _ jl)⟩,BX (K:=K) (a:=g0) (xs:=gv) (λi J H2=>∃ y1 y2:Option V,J=[O (.ref g0),O (.int hand),O (.ref ia),O (.ref wa),O (.ref la),y1,y2]/\aU H H2/\H2 la=O (.lst ((im i λx=>((eJ G hand ins want x:Nat):Int)).map V.int)))
  ⟨_,_,Z,s0,ao⟩ (λi J H2 _ h=>?_) (λi x J H2 Tt hi h hT=>?_) (λ J H2 h=>?_)⟩
 .obtain⟨_,_,_,s2,_⟩:=h;exact bI.of (s2 _ _ jl)
 .obtain⟨y1,y2,rfl,s2,h2⟩:=h;have Dy:i<G.length:=by have:=(aj.mp hi).1;omega
  obtain⟨row,iL⟩:∃ row,G[i]?=O row:=⟨G[i],by simp⟩
  obtain⟨t,wy0,p1,p2,p3⟩:=ll i row iL;rw[hi] at p1;cases p1;obtain⟨w1,w2,w3⟩:=c8.2 row (ag iL);have WA:G[((i:Nat):Int).toNat]?=O row:=by rw[bO];exact iL
  have Qe:=ql WA;have Vf:=tV WA;have sT:=av hT (.tup [.int (i:Nat),.ref t]);refine⟨Tt,_,Z,gA.of ao,Z,_,_,Z,_,_,Z,Z,?_⟩;have s3:=s2.trans sT;have h3:=sT _ _ h2;generalize upd H2 Tt (.tup [.int (i:Nat),.ref t])=H3 at sT s3 h3 ⊢;have hii:=s3 _ _ hi0;have hww:=s3 _ _ KQ;have add:∀(z:Int)(H4:Hp),aU H H4->H4 la=O (.lst ((im i λx=>((eJ G hand ins want x:Nat):Int)).map V.int))->z=((eJ G hand ins want ((i:Nat):Int):Nat):Int)->aU H (upd H4 la (.lst ((im i λx=>((eJ G hand ins want x:Nat):Int)).map V.int++[V.int z])))/\upd H4 la (.lst ((im i λx=>((eJ G hand ins want x:Nat):Int)).map V.int++[V.int z])) la=O (.lst ((im (i+1) λx=>((eJ G hand ins want x:Nat):Int)).map V.int)):=λz H4 s4 h4 e=>⟨s4.put zt _,by rw[ao,Of,aB,e];rfl⟩
  refine⟨_,Z,_,Z,ia,_,_,_,Z,Z,bI.of hii,bb (j:=i) (by have:=tO (f:=ins) (n:=G.length) (z:=((i:Nat):Int)) (by omega) (by omega);rw[bO] at this;exact this),_,Z,?_⟩;refine gN (λc=>?_) (λc=>?_)
  .have R0:ins ((i:Nat):Int)=false:=by simpa using c
   refine⟨_,Z,.inl ⟨Z,_,bI.of h3⟩,la,_,_,Z,Z,h3,o9 (m:=1000) (by rw[ab,mP];omega),?_⟩;obtain⟨k1,k2⟩:=add 0 H3 s3 h3 (by unfold eJ;rw[if_pos (.inl R0)];rfl);exact⟨_,_,Z,k1,k2⟩
  have R0:ins ((i:Nat):Int)=true:=by simpa using c
  refine⟨_,Z,_,Z,wa,_,_,_,Z,Z,bI.of hww,bb (j:=i) (by have:=tO (f:=want) (n:=G.length) (z:=((i:Nat):Int)) (by omega) (by omega);rw[bO] at this;exact this),_,Z,?_⟩;refine gN (λc2=>?_) (λc2=>?_)
  .refine⟨_,Z,.inl ⟨Z,_,bI.of h3⟩,la,_,_,Z,Z,h3,o9 (m:=1000) (by rw[ab,mP];omega),?_⟩;obtain⟨k1,k2⟩:=add 0 H3 s3 h3 (by unfold eJ;rw[if_pos (.inr c2)];rfl);exact⟨_,_,Z,k1,k2⟩
  have hwt:want ((i:Nat):Int)=false:=by simpa using c2
  have ug:¬ (ins ((i:Nat):Int)=false\/want ((i:Nat):Int)=true):=by rw[R0,hwt];simp
  refine⟨_,Z,t,_,_,_,Z,Z,gA.of (s3 _ _ p2),bb (j:=0) Z,_,Z,Z,_,Z,?_⟩;refine gN (λc3=>?_) (λc3=>?_)
  .have hh:row.1=hand:=by have:=of_decide_eq_true c3;injection this
   refine⟨_,Z,.inl ⟨Z,_,bI.of h3⟩,la,_,_,Z,Z,h3,o9 (m:=1000) (by rw[ab,mP];omega),?_⟩;obtain⟨k1,k2⟩:=add 1 H3 s3 h3 (by unfold eJ;rw[if_neg ug,if_pos (by rw[Qe];exact hh)];rfl);exact⟨_,_,Z,k1,k2⟩
  have hh:¬ row.1=hand:=λz=>c3 (decide_eq_true (by rw[z]));refine⟨_,Z,.inl ⟨Z,_,bI.of h3⟩,_,Z,t,_,_,_,Z,Z,gA.of (s3 _ _ p2),bb (j:=2) Z,wy0,Z,⟨_,bI.of (s3 _ _ p3)⟩,cW (K:=K) (a:=wy0) (xs:=row.2.2.map V.int) (λk ys H4=>H4=H3/\ys=((row.2.2.take k).filter ins).map V.int) ⟨Z,Z⟩ (a0a (m:=1000) (by rw[ab];omega)) (λk ys H4 hk h=>?_) (λk x ys H4 hk h=>?_) (λys H4 h p hp=>?_)⟩
  .obtain⟨rfl,rfl⟩:=h;exact⟨bI.of (s3 _ _ p3),by rw[ab];exact bF (cC _ _) (by simp;omega)⟩
  .obtain⟨rfl,rfl⟩:=h;obtain⟨z,hz,rfl⟩:=dR hk;obtain⟨z0,z1⟩:=w2 z (ag hz);refine⟨_,Z,_,Z,ia,_,_,_,Z,Z,bI.of hii,fi z0 (tO z0 z1),_,Z,?_⟩;refine gN (λc4=>?_) (λc4=>?_)
   .refine⟨_,Z,Z,?_⟩;rw[aM,hz,cD,aB];show _=_++(gh ins [z]).map V.int;rw[bw c4];rfl
   .refine⟨Z,?_⟩;rw[aM,hz,cD,aB];show _=_++(gh ins [z]).map V.int;rw[bJ c4];simp
  .obtain⟨rfl,rfl⟩:=h;rw[ab,aR];have s5:=av hp (.lst ((row.2.2.filter ins).map V.int));have h5:=s5 _ _ h3;refine⟨p,_,Z,.inl (bI.of ao),la,_,_,Z,Z,h5,o9 (m:=1000) (by rw[ab,mP];omega),?_⟩;obtain⟨k1,k2⟩:=add (((row.2.2.filter ins).map V.int).length:Nat) _ (s3.trans s5) h5 (by unfold eJ;rw[if_neg ug,if_neg (by rw[Qe];exact hh),Vf,ab]);exact⟨_,_,Z,k1,k2⟩
 .obtain⟨y1,y2,rfl,s2,h2⟩:=h;rw[n9] at h2;exact⟨_,Z,q la H2 s2 zt h2⟩
theorem xO{H:Hp}{r k:ai}{as:List ai}{X:List (List Int)}(c:Cells H r as X)(hr:r≠k)(ha:∀ a∈as,a≠k):Cells (L2.del H k) r as X:=⟨by rw[dF hr];exact c.hd,c.nd,c.rn,c.len,λi a h=>by
 obtain⟨l,h1,h2⟩:=c.cell i a h;exact⟨l,h1,by rw[dF (ha a (ag h))];exact h2⟩⟩
theorem NG{G:List Row}{z:Int}(h0:0<=z){s:Int}:s∈col G G.length z.toNat↔(0<=s/\s<G.length)/\z∈wy G s:=by
 unfold col;rw[bE];have e:((z.toNat:Nat):Int)=z:=by omega
 constructor
 .rintro⟨k,hk,rfl⟩;obtain⟨h1,h2⟩:=bt.mp hk;have:=cm.mp h1;unfold WV at h2;rw[e] at h2;have h3:=of_decide_eq_true h2;refine⟨by omega,?_⟩;unfold iO at h3;unfold wy;rw[bO];exact h3
 .rintro⟨⟨h1,h2⟩,h3⟩;refine⟨s.toNat,bt.mpr ⟨cm.mpr (by omega),?_⟩,by omega⟩;unfold WV;rw[e];refine decide_eq_true ?_;unfold iO;unfold wy at h3;exact h3
theorem RC(G:List Row)(i p:Nat):(col G i p).Pairwise (·<·):=by
 unfold col;rw[kF];exact(fG.filter _).imp λh=>by omega
theorem QY{G:List Row}{z:Int}(h0:0<=z)(h1:z<G.length):(wi G G.length)[z.toNat]?=O (col G G.length z.toNat):=by
 unfold wi;rw[au,dH (by omega)];rfl
def qt(G:List Row)(hand:Int)(ins want:Int->Bool)(c0:Int->Nat)(c:Int->Nat)(E2:List Int):Prop:=E2.Nodup/\∀ p:Int,p∈E2↔(0<=p/\p<G.length)/\1<=eJ G hand ins want p/\c0 p<eJ G hand ins want p/\eJ G hand ins want p<=c p
def j8(G:List Row)(S:List Int)(E:List Int)(p:Int):Nat:=cnt G S p+if p∈E then 1 else 0
theorem qt.step{G:List Row}{hand:Int}{ins want:Int->Bool}{c0 c c':Int->Nat}{E2:List Int}{s:Int}(h:qt G hand ins want c0 c E2)(hs:0<=s/\s<G.length)(h1:c' s=c s+1)(h2:∀ p,p≠s->c' p=c p)(h0:c0 s<=c s) :
  (eJ G hand ins want s=c s+1->qt G hand ins want c0 c' (E2++[s]))/\(eJ G hand ins want s≠c s+1->qt G hand ins want c0 c' E2):=by
 obtain⟨nd,hm⟩:=h;constructor
 .intro e;have kc:s ∉ E2:=λz=>by have:=(hm s).mp z;omega
  refine⟨?_,λp=>?_⟩
  .rw[e7];exact⟨nd,by simp,λa ha b hb=>by rw[bj.mp hb];exact λz=>kc (z ▸ ha)⟩
  .rw[bH,bj]
   by_cases c1:p=s
   .subst c1;constructor
    .intro _;exact⟨hs,by omega,by omega,by omega⟩
    .intro _;exact .inr Z
   .rw[h2 p c1,hm p];constructor
    .rintro (z | z)
     .exact z
     .exact absurd z c1
    .exact .inl
 .intro e;refine⟨nd,λp=>?_⟩;rw[hm p]
  by_cases c1:p=s
  .subst c1;rw[h1];constructor
   .rintro⟨a,b,d,f⟩;exact⟨a,b,d,by omega⟩
   .rintro⟨a,b,d,f⟩;exact⟨a,b,d,by omega⟩
  .rw[h2 p c1]
def Mb:Sp:=λvs H Q _=>UQ λ(la:ai) (r:ai) (ka:ai) (as:List ai) (G:List Row) (hand:Int) (ins:Int->Bool) (want:Int->Bool) (S0:List Int) (L:List Int)=>JP (vs=[.ref la,.ref r,.ref ka]) (Dk G) (H la=O (.lst (L.map V.int))) (la≠ka) (Cells H r as (wi G G.length)) (r≠ka) ((∀ a∈as,a≠ka)) (H ka=O (.lst ((im G.length λp=>((eJ G hand ins want p:Nat):Int)-((cnt G S0 p:Nat):Int)).map V.int))) (L.Nodup) ((∀ x∈L,x ∉ S0/\0<=x/\x<G.length)) (∀ (p:ai) (ns:List Int) (H':Hp),aU (L2.del H ka) H'->H p=Y->H' p=O (.lst (ns.map V.int))->H' ka=O (.lst ((im G.length λp=>((eJ G hand ins want p:Nat):Int)-((cnt G (S0++L) p:Nat):Int)).map V.int))->ns.Pairwise (·<·) ->
    (∀ p,p∈ns↔(0<=p/\p<G.length)/\1<=eJ G hand ins want p/\cnt G S0 p<eJ G hand ins want p/\eJ G hand ins want p<=cnt G (S0++L) p)->Q (.ref p) H')
theorem OM(F:aN K mg "next_layer" jU ["layer","entries","lacking"])(T:Txt mg):Dn P w K mg base "next_layer" 1 ["layer","entries","lacking"] Mb:=by
 have sc:=xt;refine F.ok sc (λvs H Q E h=>?_) (λf dW A outer s H vs Q E hr h=>?_)
 .obtain⟨_,_,_,_,_,_,_,_,_,_,rfl,_⟩:=h;rfl
 obtain⟨la,r,ka,as,G,hand,ins,want,S0,L,rfl,c8,zt,nla,hC,nr,SW,JD,hLn,hLs,q⟩:=h;have Dv:=c8.1;have agY:L.length<=63:=by
  have:=g7 L (og G.length) hLn λx hx=>gk.mpr (hLs x hx).2;unfold og at this;simp at this;omega
 refine⟨_,(ak (bz (i:=3) sc.nd Z (aY Z) (eY am))
   (ak (fD bB Z (cV (pv 0)) (cU (i:=4) sc.nd Z (aY Z))
   (aA (fD bB Z (cV (be (iy (K:=K) Z) (pv 1) (pv 4) (λ_ _=>rfl))) (cU (i:=5) sc.nd Z (aY Z))
   (ak (O7 (pv 2) (pv 5) (Ko (K:=K) Z) aD SE a0k)
   (aA (dE (cA lR (be (iy (K:=K) Z) (pv 2) (pv 5) (λ_ _=>rfl)) aD (de _))
   (aA (cL (ge ba bR bS fw (pv 3) (aa (pv 5) am))))
   cv))))))
   (aA (bU (bP (rf) Z T.vh mf (aa (pv 3) am)))))),?_⟩
 refine⟨bq _,λjo Y5=>?_⟩;have Zv:jo≠ka:=λz=>by rw[z,JD] at Y5;cases Y5
 have kB:L2.del H ka ka=Y:=by unfold L2.del;rw[if_pos rfl]
 have jB:L2.del H ka jo=Y:=by rw[dF Zv];exact Y5
 have cB:=xO hC nr SW;have lB:L2.del H ka la=O (.lst (L.map V.int)):=by rw[dF nla];exact zt
 have sB:aU (L2.del H ka) (upd H jo (.lst [])):=(kL _ _).trans (av Y5 _);refine⟨_,Z,la,Z,⟨_,bI.of (sB _ _ lB)⟩,gr (K:=K) (a:=la) (xs:=L.map V.int) (λi J H2=>YB λ(E2:List Int) (y1:Option V) (y2:Option V)=>GV (J=[O (.ref la),O (.ref r),O (.ref ka),O (.ref jo),y1,y2]) (aU (L2.del H ka) H2) (H2 ka=O (.lst ((im G.length λp=>((eJ G hand ins want p:Nat):Int)-((cnt G (S0++L.take i) p:Nat):Int)).map V.int))) (H2 jo=O (.lst (E2.map V.int))) (qt G hand ins want (cnt G S0) (cnt G (S0++L.take i)) E2))
  ⟨[],_,_,Z,sB,by rw[m4,er,bh (cg Zv)];exact JD,ao,qP,λp=>⟨λz=>(by cases z),λz=>by rw[m4,er] at z;omega⟩⟩ (λi J H2 _ h=>?_) (λi x J H2 hi h=>?_) (λ J H2 h=>?_)⟩
 .obtain⟨_,_,_,_,s2,_⟩:=h;exact bI.of (s2 _ _ lB)
 .obtain⟨E2,y1,y2,rfl,s2,R3,KD,hJ⟩:=h;obtain⟨z,hz,rfl⟩:=dR hi;obtain⟨zS,z0,z1⟩:=hLs z (ag hz);have c2:=cB.up s2;obtain⟨ea,El,e1,e2,e3,e4⟩:=c2.at z0 (by rw[MD];exact z1);rw[QY z0 z1] at e2;cases e2;have eB:L2.del H ka ea=O (.lst ((col G G.length z.toNat).map V.int)):=by
   obtain⟨l,h1,h2⟩:=cB.cell _ ea e1;rw[QY z0 z1] at h1;cases h1;exact h2
  have RS:=λs=>NG (G:=G) (z:=z) z0 (s:=s);have YX:=FN G G.length z.toNat;have hcn:=oX (RC G G.length z.toNat);generalize col G G.length z.toNat=El at *;have hzt:z ∉ S0++L.take i:=λhm=>by
   rcases bH.mp hm with hm | hm
   .exact zS hm
   .obtain⟨k,hk⟩:=cP hm;rw[fP] at hk;split at hk
    .have:=pB hLn hk hz;omega
    .cases hk
  have hcs:∀ p:Int,0<=p/\p<G.length->cnt G (S0++L.take (i+1)) p=j8 G (S0++L.take i) El p:=λp hp=>by
   rw[aM,hz,← d6];show cnt G (S0++L.take i++[z]) p=_;rw[Ke c8.Yq hzt p];unfold j8
   by_cases c:z∈wy G p
   .rw[if_pos c,if_pos ((RS p).mpr ⟨hp,c⟩)]
   .rw[if_neg c,if_neg λk=>c ((RS p).mp k).2]
  refine⟨_,Z,_,Z,r,_,_,_,Z,Z,bI.of c2.hd,e3,ea,Z,⟨_,bI.of (s2 _ _ eB)⟩,gr (K:=K) (a:=ea) (xs:=El.map V.int) (λj J H3=>Nk λ(E2:List Int) (y2:Option V)=>GV (J=[O (.ref la),O (.ref r),O (.ref ka),O (.ref jo),O (.int z),y2]) (aU (L2.del H ka) H3) (H3 ka=O (.lst ((im G.length λp=>((eJ G hand ins want p:Nat):Int)-((j8 G (S0++L.take i) (El.take j) p:Nat):Int)).map V.int))) (H3 jo=O (.lst (E2.map V.int))) (qt G hand ins want (cnt G S0) (j8 G (S0++L.take i) (El.take j)) E2))
   ⟨E2,_,Z,s2,by simpa [j8] using R3,KD,by simpa [j8,qt] using hJ⟩ (λj J H3 _ h=>?_) (λj x J H3 hj h=>?_) (λ J H3 h=>?_)⟩
  .obtain⟨_,_,_,s3,_⟩:=h;exact bI.of (s3 _ _ eB)
  .obtain⟨E2,y2,rfl,s3,VS,VR,hJ⟩:=h;obtain⟨s,hs,rfl⟩:=dR hj;obtain⟨⟨s0,s1⟩,sw⟩:=(RS s).mp (ag hs);have Qu:=(aj.mp hs).1;have hsn:s ∉ El.take j:=λhm=>by
    obtain⟨k,hk⟩:=cP hm;rw[fP] at hk;split at hk
    .have:=pB hcn hk hs;omega
    .cases hk
   have c1:j8 G (S0++L.take i) (El.take (j+1)) s=j8 G (S0++L.take i) (El.take j) s+1:=by
    unfold j8;rw[if_neg hsn,if_pos ((cG hs).mpr (.inr Z))]
   have c2':∀ p,p≠s->j8 G (S0++L.take i) (El.take (j+1)) p=j8 G (S0++L.take i) (El.take j) p:=λp hp=>by
    unfold j8;have:p∈El.take (j+1)↔p∈El.take j:=by rw[cG hs];simp[hp]
    simp only [this]
   have c00:cnt G S0 s<=j8 G (S0++L.take i) (El.take j) s:=bF (BN (λx hx=>cY _ hx) s) (jc _ _);obtain⟨j1,j2⟩:=hJ.step ⟨s0,s1⟩ c1 c2' c00;have FV:oB ((im G.length λp=>((eJ G hand ins want p:Nat):Int)-((j8 G (S0++L.take i) (El.take j) p:Nat):Int)).map V.int) s=O (.int (((eJ G hand ins want s:Nat):Int)-((j8 G (S0++L.take i) (El.take j) s:Nat):Int))):=fi s0 (by rw[au,rq s0 s1];rfl);refine⟨_,Z,_,Z,ka,_,_,_,Z,Z,bI.of VS,s0,FV,_,_,Z,Z,ka,_,_,s.toNat,Z,Z,VS,?_,?_⟩
   .unfold B8;rw[ab,mP,if_pos s0,if_pos s1]
   have s4:=s3.put kB (.lst (((im G.length λp=>((eJ G hand ins want p:Nat):Int)-((j8 G (S0++L.take i) (El.take j) p:Nat):Int)).map V.int).set s.toNat (.int (((eJ G hand ins want s:Nat):Int)-((j8 G (S0++L.take i) (El.take j) s:Nat):Int)-1))));have Y6:upd H3 ka (.lst (((im G.length λp=>((eJ G hand ins want p:Nat):Int)-((j8 G (S0++L.take i) (El.take j) p:Nat):Int)).map V.int).set s.toNat (.int (((eJ G hand ins want s:Nat):Int)-((j8 G (S0++L.take i) (El.take j) s:Nat):Int)-1)))) ka=O (.lst ((im G.length λp=>((eJ G hand ins want p:Nat):Int)-((j8 G (S0++L.take i) (El.take (j+1)) p:Nat):Int)).map V.int)):=by
    rw[ao,oY,Eu s0 s1];congr 3;refine oU λp _ _=>?_
    by_cases e:p=s
    .subst e;rw[if_pos Z,c1];omega
    .rw[if_neg e,c2' p e]
   have Y4:upd H3 ka (.lst (((im G.length λp=>((eJ G hand ins want p:Nat):Int)-((j8 G (S0++L.take i) (El.take j) p:Nat):Int)).map V.int).set s.toNat (.int (((eJ G hand ins want s:Nat):Int)-((j8 G (S0++L.take i) (El.take j) s:Nat):Int)-1)))) jo=O (.lst (E2.map V.int)):=by rw[bh Zv];exact VR
   generalize upd H3 ka (.lst (((im G.length λp=>((eJ G hand ins want p:Nat):Int)-((j8 G (S0++L.take i) (El.take j) p:Nat):Int)).map V.int).set s.toNat (.int (((eJ G hand ins want s:Nat):Int)-((j8 G (S0++L.take i) (El.take j) s:Nat):Int)-1))))=H4 at s4 Y6 Y4 ⊢;have aa2:oB ((im G.length λp=>((eJ G hand ins want p:Nat):Int)-((j8 G (S0++L.take i) (El.take (j+1)) p:Nat):Int)).map V.int) s=O (.int (((eJ G hand ins want s:Nat):Int)-((j8 G (S0++L.take i) (El.take (j+1)) s:Nat):Int))):=fi s0 (by rw[au,rq s0 s1];rfl);have hJl:E2.length<=63:=by
    have:=g7 E2 (og G.length) hJ.1 λx hx=>gk.mpr ((hJ.2 x).mp hx).1;unfold og at this;simp at this;omega
   refine⟨_,Z,_,Z,ka,_,_,_,Z,Z,bI.of Y6,aa2,Z,_,Z,?_⟩;refine gN (λc=>?_) (λc=>?_)
   .have c3:((eJ G hand ins want s:Nat):Int)-((j8 G (S0++L.take i) (El.take (j+1)) s:Nat):Int)=0:=by have:=of_decide_eq_true c;injection this
    refine⟨_,Z,.inl ⟨Z,_,bI.of Y4⟩,_,Z,jo,_,_,Z,Z,Y4,o9 (m:=1000) (by rw[ab];omega),?_⟩;exact⟨E2++[s],_,Z,s4.put jB _,by rw[bh (cg Zv)];exact Y6,by rw[ao,aB];rfl,j1 (by omega)⟩
   .have c3:¬ ((eJ G hand ins want s:Nat):Int)-((j8 G (S0++L.take i) (El.take (j+1)) s:Nat):Int)=0:=λz=>c (decide_eq_true (by rw[z]));exact⟨E2,_,Z,s4,Y6,Y4,j2 (by omega)⟩
  .obtain⟨E2,y2,rfl,s3,VS,VR,hJ⟩:=h;rw[ab,aR] at VS hJ;refine⟨E2,_,_,Z,s3,?_,VR,hJ.1,λp=>?_⟩
   .rw[VS];congr 3;exact oU λp p0 p1=>by rw[hcs p ⟨p0,p1⟩]
   .rw[hJ.2 p];constructor
    .rintro⟨h1,h2⟩;rw[hcs p h1];exact⟨h1,h2⟩
    .rintro⟨h1,h2⟩;rw[hcs p h1] at h2;exact⟨h1,h2⟩
 .obtain⟨E2,y1,y2,rfl,s2,R3,KD,hJ⟩:=h;rw[ab,aR] at R3 hJ;have hJl:E2.length<=63:=by
   have:=g7 E2 (og G.length) hJ.1 λx hx=>gk.mpr ((hJ.2 x).mp hx).1;unfold og at this;simp at this;omega
  refine⟨_,Z,jo,E2,Z,bI.of KD,by omega,λp ns hp pm pw=>?_⟩;have nkp:ka≠p:=λz=>by rw[← z,R3] at hp;cases hp
  have hpH:H p=Y:=by
   have:=s2.free hp;rw[dF (cg nkp)] at this;exact this
  refine q p ns _ (s2.trans (av hp _)) hpH ao (by rw[bh nkp];exact R3) (Gk pw (pm.symm.nodup hJ.1)) λx=>?_;rw[pm.mem_iff];exact hJ.2 x
theorem Gn{G:List Row}{hand:Int}{ins:Int->Bool}{k:Nat}{Ls:List (List Int)}:run G hand ins k Ls []=Ls:=by
 cases k with
 |zero=>rfl
 |succ k=>unfold run;rw[if_pos rfl]
theorem Gm(n:Nat):(og n).length=n:=by unfold og;simp
def CV:Sp:=λvs H Q _=>Ex9 λ(v:V) (qv:V) (G:List Row) (hand:Int) (r:ai) (ga:ai) (as:List ai) (goal:List Int) (ins:Int->Bool)=>JQ (vs=[v,.ref r,.int hand,.ref ga,qv]) (hZ H G v) (Dk G) (Cells H r as (wi G G.length)) (H ga=O (.lst (goal.map V.int))) (JZ H qv ins) (∀(p:ai)(H':Hp),aU H H'->iV (iV lT) (jf H H') (ki G hand ins λx=>decide (x∈goal)) (.ref p)->Q (.ref p) H')
theorem IM(F:aN K mg "layers_to" jn ["game","entries","hand","goal","part"])(T:Txt mg)(y0:Dn P w K mg base "part_marks" 4 ["game","part"] Md)(eF:Dn P w K mg base "place_marks" 3 ["count","places"] pL)(u5:Dn P w K mg base "lacking_ways" 1 ["game","hand","inside","wanted"] Ma)(yZ:Dn P w K mg base "next_layer" 1 ["layer","entries","lacking"] Mb) :
  Dn P w K mg base "layers_to" 5 ["game","entries","hand","goal","part"] CV:=by
 have sc:=Ae;refine F.ok sc (λvs H Q E h=>?_) (λf dW A outer s H vs Q E hr h=>?_)
 .obtain⟨_,_,_,_,_,_,_,_,_,rfl,_⟩:=h;rfl
 obtain⟨v,qv,G,hand,r,ga,as,goal,ins,rfl,hG,c8,hC,hga,hP,q⟩:=h;obtain⟨g0,gv,rfl,jl,n9,ll⟩:=dk hG;have Dv:=c8.1;refine⟨_,(ak (bz (i:=5) sc.nd Z (uy Z) (b9 y0 hr (aa (pv 0) (aa (pv 4) am))))
   (ak (bz (i:=6) sc.nd Z (uy Z) (b9 eF hr (aa (bP (gp (K:=K) Z) Z T.fR bu (aa (pv 0) am)) (aa (pv 3) am))))
   (ak (bz (i:=7) sc.nd Z (aY Z) (b9 u5 hr (aa (pv 0) (aa (pv 2) (aa (pv 5) (aa (pv 6) am))))))
   (ak (bz (i:=8) sc.nd Z (aY Z) (eY am))
   (ak (rJ (i:=9) (aC jn) ["game","entries","hand","goal","part","inside","wanted","lacking","layers","layer"] ["place","inside","wanted"] 1 [5,6] sc.nd Z Z (lI Z T.mz (aa (bP (gp (K:=K) Z) Z T.fR bu (aa (pv 0) am)) am)) (λ_ _ _ _ _ _=>(d0 (show cM (["place","inside","wanted"]:List aE) by trivial) Z Z)) (λ_ _ _ _ _ _=>(mH (PW.pt (a0J (fM (be (iy (K:=K) Z) (pv 1) (pv 0) (λ_ _=>rfl))) (a0G (fM (be (iy (K:=K) Z) (pv 2) (pv 0) (λ_ _=>rfl)))))))) (λ_ _ _ _ _ _=>(pv 0)))
   (ak (vR bB (rK (pv 9) (by intro _;rfl))
   (ak (cL (ge ba bR bS fw (pv 8) (aa (pv 9) am)))
   (aA (bz (i:=9) sc.nd Z (aY Z) (b9 yZ hr (aa (pv 9) (aa (pv 1) (aa (pv 7) am))))))))
   (aA (bU (pv 8))))))))),?_⟩
 refine⟨_,Z,_,Z,_,qv,G,ins,Z,hG,Dv,hP,λia H1 s1 ahu hia=>?_⟩;refine⟨_,Z,g0,_,Z,.inl (bI.of (s1 _ _ jl)),_,Z,gv.length,ga,goal,Z,by omega,s1 _ _ hga,λwa H2 s2 aii uh=>?_⟩;rw[n9] at uh;have CC:=s1.trans s2;refine⟨_,Z,_,Z,_,Z,_,Z,_,G,hand,ia,wa,ins,(λx=>decide (x∈goal)),Z,dS.up CC hG,c8,s2 _ _ hia,uh,λka H3 s3 abw JD=>?_⟩;have ZE:=CC.trans s3;have R4:H ka=Y:=CC.free abw;refine⟨bq _,λg hg=>?_⟩;have s4:=av hg (.lst []);have Nc:=ZE.trans s4;have Kz:H g=Y:=ZE.free hg;have hgg:upd H3 g (.lst []) g=O (.lst []):=ao;have VP:=s4 _ _ (s3 _ _ (s2 _ _ hia));have Sz:=s4 _ _ (s3 _ _ uh);have NW:=s4 _ _ JD;have ngk:g≠ka:=λz=>by rw[z,JD] at hg;cases hg
 generalize upd H3 g (.lst [])=H4 at s4 Nc hgg VP Sz NW ⊢;generalize WO:(λx=>decide (x∈goal))=want at Sz NW ⊢;rw[WO] at q;refine⟨_,Z,g0,_,Z,.inl (bI.of (Nc _ _ jl)),_,Z,by omega,by omega,BP (lo:=0) (n:=((gv.length:Nat):Int).toNat) (λi ys H5=>H5=H4/\ys=((og i).filter λp=>ins p && want p).map V.int) ⟨Z,Z⟩ (a0a (m:=1000) (by omega)) (λi ys H5 _ h=>?_) (λi ys H5 hi h=>?_) (λys H5 h la zt=>?_)⟩
 .obtain⟨rfl,rfl⟩:=h;rw[ab];exact bF (cC _ _) (by rw[Gm];exact ay _)
 .obtain⟨rfl,rfl⟩:=h;rw[bO,n9] at hi;have add:∀ b:Bool,(ins ((i:Nat):Int) && want ((i:Nat):Int))=b->((og (i+1)).filter λp=>ins p && want p).map V.int=((og i).filter λp=>ins p && want p).map V.int++if b=true then [V.int ((i:Nat):Int)] else []:=λb hb=>by
   rw[LP,cD,aB];congr 1;cases b with
   |true=>rw[bw (p:=λp=>ins p && want p) hb];rfl
   |false=>rw[bJ (p:=λp=>ins p && want p) (by simp[hb])];rfl
  refine⟨_,Z,_,Z,ia,_,_,_,Z,Z,bI.of VP,(by rw[pV];exact fi (by omega) (tO (by omega) (by omega))),_,Z,?_⟩;refine gN (λc=>?_) (λc=>?_)
  .refine⟨_,Z,_,Z,wa,_,_,_,Z,Z,bI.of Sz,(by rw[pV];exact fi (by omega) (tO (by omega) (by omega))),_,Z,?_⟩;refine gN (λc2=>?_) (λc2=>?_)
   .refine⟨_,Z,Z,?_⟩;rw[add true (by rw[c,c2];rfl),if_pos Z,pV]
   .refine⟨Z,?_⟩;rw[add false (by rw[c];simpa using c2),if_neg (by simp),er]
  .refine gO ?_;refine⟨Z,?_⟩;rw[add false (by rw[Bool.and_eq_false_iff];exact .inl (by simpa using c)),if_neg (by simp),er]
 obtain⟨rfl,rfl⟩:=h;rw[bO,n9];have s5:=av zt (.lst (((og G.length).filter λp=>ins p && want p).map V.int));have Xc:la≠ka:=λz=>by rw[z,NW] at zt;cases zt
 have Zw:la≠g:=λz=>by rw[z,hgg] at zt;cases zt
 have nr:r≠ka:=λz=>by have:=hC.hd;rw[z,R4] at this;cases this
 have SW:∀ a∈as,a≠ka:=λa ha z=>by
  obtain⟨i,hi⟩:=cP ha;obtain⟨_,_,h2⟩:=hC.cell i a hi;rw[z,R4] at h2;cases h2
 refine⟨λm J Hx=>YC λ(Ls:List (List Int)) (L:List Int) (la:ai) (ls:List ai) (k:Nat)=>PZ (J=[O (.ref g0),O (.ref r),O (.int hand),O (.ref ga),O qv,O (.ref ia),O (.ref wa),O (.ref ka),O (.ref g),O (.ref la)]) (aU H Hx) (Hx g=O (.lst (ls.map V.ref))) (Hx la=O (.lst (L.map V.int))) (H la=Y) (la≠ka) (la≠g) (ls.length=Ls.length) ((∀ (i:Nat) a,ls[i]?=O a->∃ l,Ls[i]?=O l/\Hx a=O (.lst (l.map V.int))/\H a=Y/\a≠ka/\a≠g)) (Hx ka=O (.lst ((im G.length λp=>((eJ G hand ins want p:Nat):Int)-((cnt G Ls.flatten p:Nat):Int)).map V.int))) (LI G hand ins Ls L) (Seen G hand ins want Ls.flatten (Ls.flatten++L)) (run G hand ins k Ls L=ki G hand ins want) (G.length+1<=k+Ls.flatten.length) (Ls.length<=Ls.flatten.length) (m=G.length-Ls.flatten.length),
  ⟨_,[],a0u G ins want,la,[],G.length+1,Z,Nc.trans s5,s5 _ _ hgg,ao,Nc.free zt,Xc,Zw,Z,(λi a h=>by cases h),?_,LI.start want,Seen.start,Z,by simp,by simp,Z⟩,?_⟩
 .rw[s5 _ _ NW];congr 3;exact oU λp _ _=>by
   have:cnt G ([]:List (List Int)).flatten p=0:=by unfold cnt;simp
   rw[this];omega
 rintro m J Hx ⟨Ls,L,la,ls,k,rfl,sx,hxg,Uy,R6,Xc,Zw,NX,Ur,hxk,RN,Kq,Sn,hk,hLl,rfl⟩;have hlen:=RN.len;refine⟨_,Z,_,.inl ⟨_,bI.of Uy,Z⟩,?_⟩;refine gN (λc=>?_) (λc=>?_)
 .have jZ:L≠[]:=λz=>by subst z;simp at c
  have hLp:0<L.length:=dI.mpr jZ;obtain⟨k',rfl⟩:∃ k',k=k'+1:=⟨k-1,by omega⟩
  have Wz:run G hand ins k' (Ls++[L]) (EI G hand ins (Ls.flatten++L))=ki G hand ins want:=by
   rw[← Sn];conv=>rhs;unfold run;rw[if_neg jZ]
  have Ek:(Ls++[L]).flatten=Ls.flatten++L:=by simp
  refine⟨λσ' H'=>∃ SM:ai,Ng (σ'=[O (.ref g0),O (.ref r),O (.int hand),O (.ref ga),O qv,O (.ref ia),O (.ref wa),O (.ref ka),O (.ref g),O (.ref SM)]) (aU H H') (H' g=O (.lst ((ls++[la]).map V.ref))) (H' SM=O (.lst ((EI G hand ins (Ls.flatten++L)).map V.int))) (H SM=Y) (SM≠ka) (SM≠g) ((∀ (i:Nat) a,(ls++[la])[i]?=O a->∃ l,(Ls++[L])[i]?=O l/\H' a=O (.lst (l.map V.int))/\H a=Y/\a≠ka/\a≠g)) (H' ka=O (.lst ((im G.length λp=>((eJ G hand ins want p:Nat):Int)-((cnt G (Ls.flatten++L) p:Nat):Int)).map V.int))),?_,?_⟩
  .rintro σ' H' ⟨SM,rfl,a1,a2,a3,a4,a5,a6,a7,a8⟩;refine⟨_,?_,Ls++[L],EI G hand ins (Ls.flatten++L),SM,ls++[la],k',Z,a1,a2,a3,a4,a5,a6,by simp[NX],a7,by rw[Ek];exact a8,RN.next,by rw[Ek];exact Kq.next c8.Yq RN.Iw λx hx=>cY _ hx,Wz,?_,?_,Z⟩
   .rw[Ek,aV];omega
   .rw[Ek,aV];omega
   .rw[Ek];simp only [aV,dM];omega
  .refine⟨_,Z,.inl ⟨Z,_,bI.of hxg⟩,_,Z,g,_,_,Z,Z,hxg,o9 (m:=1000) (by rw[ab];omega),?_⟩;have sy:=sx.put Kz (.lst (ls.map V.ref++[V.ref la]));have hyg:upd Hx g (.lst (ls.map V.ref++[V.ref la])) g=O (.lst ((ls++[la]).map V.ref)):=by rw[ao,aB];rfl
   have Na:upd Hx g (.lst (ls.map V.ref++[V.ref la])) la=O (.lst (L.map V.int)):=by rw[bh Zw];exact Uy
   have hyk:upd Hx g (.lst (ls.map V.ref++[V.ref la])) ka=O (.lst ((im G.length λp=>((eJ G hand ins want p:Nat):Int)-((cnt G Ls.flatten p:Nat):Int)).map V.int)):=by rw[bh (cg ngk)];exact hxk
   have hys:∀ (i:Nat) a,ls[i]?=O a->∃ l,Ls[i]?=O l/\upd Hx g (.lst (ls.map V.ref++[V.ref la])) a=O (.lst (l.map V.int))/\H a=Y/\a≠ka/\a≠g:=λi a hi=>by
    obtain⟨l,b1,b2,b3,b4,b5⟩:=Ur i a hi;exact⟨l,b1,by rw[bh b5];exact b2,b3,b4,b5⟩
   generalize upd Hx g (.lst (ls.map V.ref++[V.ref la]))=Hy at sy hyg Na hyk hys ⊢;have JF:=RN.nd;rw[e7] at JF;refine⟨_,Z,_,Z,_,Z,la,r,ka,as,G,hand,ins,want,Ls.flatten,L,Z,c8,Na,Xc,hC.up sy,nr,SW,hyk,JF.2.1,λx hx=>⟨λz=>JF.2.2 x z x hx Z,RN.rg x (b7 _ hx)⟩,λp ns H' s' hp kc hk' pw mem=>?_⟩;have ens:ns=EI G hand ins (Ls.flatten++L):=EB pw (EJ _) λx=>by
    rw[mem x,pC];constructor
    .rintro⟨h1,h2⟩;exact⟨h1,(sU c8.Yq Kq RN.Iw (λy hy=>cY _ hy) h1).mpr h2⟩
    .rintro⟨h1,h2⟩;exact⟨h1,(sU c8.Yq Kq RN.Iw (λy hy=>cY _ hy) h1).mp h2⟩
   subst ens;have keep:∀ b o,b≠ka->Hy b=O o->H' b=O o:=λb o hb e=>s' b o (by rw[dF hb];exact e);have npk:p≠ka:=λz=>by rw[z,hyk] at hp;cases hp
   have npg:p≠g:=λz=>by rw[z,hyg] at hp;cases hp
   refine⟨p,Z,λb o e=>keep b o (λz=>by rw[z,R4] at e;cases e) (sy _ _ e),keep _ _ ngk hyg,kc,sy.free hp,npk,npg,λi a hi=>?_,hk'⟩
   by_cases c2:i<ls.length
   .rw[ck c2] at hi;obtain⟨l,b1,b2,b3,b4,b5⟩:=hys i a hi;exact⟨l,by rw[ck (by omega)];exact b1,keep _ _ b4 b2,b3,b4,b5⟩
   .have Up:=(aj.mp hi).1;rw[aV,dM] at Up;have Dy:i=ls.length:=by omega
    subst Dy;rw[cN (ay _),vd] at hi;have:la=a:=bQ hi;subst this;exact⟨L,by rw[NX,cN (ay _),vd];rfl,keep _ _ Xc Na,R6,Xc,Zw⟩
 .have hem:L=[]:=by
   cases L with
   |nil=>rfl
   |cons x xs=>exact absurd Z c
  subst hem;rw[Gn] at Sn;subst Sn;refine⟨_,Z,q g Hx sx ⟨g,_,Z,by rw[eV Kz];exact hxg,yj (by rw[ab];exact NX.symm) λi l v hl hv=>?_⟩⟩;rw[au] at hv;cases e:ls[i]? with
  |none=>rw[e] at hv;cases hv
  |some a =>
   rw[e] at hv;cases hv;obtain⟨l',b1,b2,b3,_⟩:=Ur i a e;rw[hl] at b1;cases b1;exact Cg b3 b2
def LOk(n:Nat)(R:List (List Int)):Prop:=R.length<=63/\R.flatten.Nodup/\∀ L∈R,L≠[]/\L.Pairwise (·<·)/\L.length<=63/\∀ x∈L,0<=x/\x<n
theorem yq{G:List Row}{hand:Int}{ins:Int->Bool}(k:Nat):∀(Ls:List (List Int))(L:List Int),LI G hand ins Ls L->Ls.length<=Ls.flatten.length->(run G hand ins k Ls L).length<=(run G hand ins k Ls L).flatten.length/\(run G hand ins k Ls L).flatten.length<=G.length:=by
 induction k with
 |zero=>intro Ls L h1 h2;exact⟨h2,by have:=h1.len;show Ls.flatten.length<=_;omega⟩
 |succ k ih =>
  intro Ls L h1 h2
  by_cases c:L=[]
  .subst c;rw[Gn];exact⟨h2,by have:=h1.len;omega⟩
  .have e:run G hand ins (k+1) Ls L=run G hand ins k (Ls++[L]) (EI G hand ins (Ls.flatten++L)):=by
    show(if L=[] then Ls else run G hand ins k (Ls++[L]) (EI G hand ins (Ls.flatten++L)))=_;rw[if_neg c]
   rw[e];refine ih _ _ h1.next ?_;have:0<L.length:=dI.mpr c;have Ek:(Ls++[L]).flatten=Ls.flatten++L:=by simp
   rw[Ek];simp only [aV,dM];omega
theorem BW{R:List (List Int)}{L:List Int}(h:L∈R):L.length<=R.flatten.length:=by
 induction R with
 |nil=>cases h
 |cons a R ih =>
  rw[iu,aV];rcases aG.mp h with rfl | h
  .omega
  .have:=ih h;omega
theorem zA{G:List Row}{hand:Int}{ins want:Int->Bool}(h:G.length<=63):(ki G hand ins want).length<=63/\∀ L∈ki G hand ins want,L.length<=1000:=by
 obtain⟨h1,h2⟩:=yq (G:=G) (hand:=hand) (ins:=ins) (G.length+1) [] (a0u G ins want) (LI.start want) (by simp);refine⟨by unfold ki;omega,λL hL=>?_⟩;have:=BW hL;unfold ki at this;omega
theorem KW{G:List Row}{hand:Int}{ins want:Int->Bool}(h:G.length<=63):LOk G.length (ki G hand ins want):=by
 obtain⟨h1,h2⟩:=yq (G:=G) (hand:=hand) (ins:=ins) (G.length+1) [] (a0u G ins want) (LI.start want) (by simp);have hl:=qJ (G:=G) (hand:=hand) (ins:=ins) (want:=want);refine⟨(zA h).1,hl.nd,λL hL=>?_⟩;obtain⟨k,hk⟩:=cP hL;obtain⟨c1,c2⟩:=hl.ch k L hk;have hf:=BW hL;unfold ki at hf;refine⟨c2,?_,by omega,λx hx=>hl.li.rg x (cY _ (wu.mpr ⟨L,hL,hx⟩))⟩;rw[c1];unfold nx;split
 .exact(zY _).filter _
 .exact EJ _
def Au:Sp:=λvs H Q _=>Z3 λ(wa:ai) (ma:ai) (ws:List Int) (n:Nat) (f:Int->Bool) (v:Int)=>Q6 (vs=[.ref wa,.ref ma]) (H wa=O (.lst (ws.map V.int))) (H ma=O (.lst (bm n f))) (ws.Pairwise (·<·)) ((∀ x∈ws,0<=x/\x<n)) (ws.length<=40) ((ws.filter f).head?=O v) (∀ H':Hp,aU H H'->Q (.int v) H')
theorem Lc(F:aN K mg "least_way" jq ["ways","marks"])(T:Txt mg):Dn P w K mg base "least_way" 1 ["ways","marks"] Au:=by
 have sc:=Af;refine F.ok sc (λvs H Q E h=>?_) (λf dW A outer s H vs Q E hr h=>?_)
 .obtain⟨_,_,_,_,_,_,rfl,_⟩:=h;rfl
 obtain⟨wa,ma,ws,n,f,v,rfl,uh,M6,pw,w2,w3,hv,q⟩:=h;refine⟨_,(aA (bU (bP (Ho Z) Z T.U7 PyProof.Rows.boot_min (aa (lS (aC jq) ["ways","marks"] ["way","marks"] 1 [1] (cV (pv 0)) (λ_ _ _ _ _ _=>(d0 (show cM (["way","marks"]:List aE) by trivial) Z Z)) (λ_ _ _ _ _ _=>(mH (fM (be (iy (K:=K) Z) (pv 1) (pv 0) (λ_ _=>rfl))))) (λ_ _ _ _ _ _=>(pv 0))) am)))),?_⟩;refine⟨_,Z,wa,Z,⟨_,bI.of uh⟩,cW (K:=K) (a:=wa) (xs:=ws.map V.int) (λk ys H4=>H4=H/\ys=((ws.take k).filter f).map V.int) ⟨Z,Z⟩ (a0a (m:=1000) (by rw[ab];omega)) (λk ys H4 hk h=>?_) (λk x ys H4 hk h=>?_) (λys H4 h p hp=>?_)⟩
 .obtain⟨rfl,rfl⟩:=h;exact⟨bI.of uh,by rw[ab];exact bF (cC _ _) (by simp;omega)⟩
 .obtain⟨rfl,rfl⟩:=h;obtain⟨z,hz,rfl⟩:=dR hk;obtain⟨z0,z1⟩:=w2 z (ag hz);refine⟨_,Z,_,Z,ma,_,_,_,Z,Z,bI.of M6,fi z0 (tO z0 z1),_,Z,?_⟩;refine gN (λc4=>?_) (λc4=>?_)
  .refine⟨_,Z,Z,?_⟩;rw[aM,hz,cD,aB];show _=_++(gh f [z]).map V.int;rw[bw c4];rfl
  .refine⟨Z,?_⟩;rw[aM,hz,cD,aB];show _=_++(gh f [z]).map V.int;rw[bJ c4];simp
 obtain⟨rfl,rfl⟩:=h;rw[ab,aR];refine⟨p,ws.filter f,Z,bI.of ao,λz=>(by rw[z] at hv;cases hv),λM hM R9=>?_⟩;rw[Ej (pw.filter _) hv hM R9];exact q _ (av hp _)
def XU:Sp:=λvs H Q _=>Z4 λ(v:V) (lw:V) (G:List Row) (hand:Int) (ins:Int->Bool) (want:Int->Bool) (R:List (List Int))=>JQ (vs=[v,.int hand,lw]) (hZ H G v) (Dk G) (iV (iV lT) H R lw) (Lay G hand ins want R) (LOk G.length R) (∀(p:ai)(X:Int->Option Int)(H':Hp),aU H H'->H p=Y->H' p=O (.lst (om G.length X))->PR G R (λk p=>lv R (k+1) p/\hd G p=hand) X->Q (.ref p) H')
theorem Xk(F:aN K mg "layer_ways" jT ["game","hand","layers"])(T:Txt mg)(eF:Dn P w K mg base "place_marks" 3 ["count","places"] pL)(oE:Dn P w K mg base "least_way" 1 ["ways","marks"] Au):Dn P w K mg base "layer_ways" 4 ["game","hand","layers"] XU:=by
 have sc:=xr;refine F.ok sc (λvs H Q E h=>?_) (λf dW A outer s H vs Q E hr h=>?_)
 .obtain⟨_,_,_,_,_,_,_,rfl,_⟩:=h;rfl
 obtain⟨v,lw,G,hand,ins,want,R,rfl,hG,c8,⟨va,yz,rfl,hv,Pa⟩,hL,⟨hR1,hR2,hR3⟩,q⟩:=h;obtain⟨g0,gv,rfl,jl,n9,ll⟩:=dk hG;have Dv:=c8.1;have e1:=Pa.length;refine⟨_,(ak (bz (i:=3) sc.nd Z (aY Z) (bA vJ (eY (aa zQ am)) (bP (gp (K:=K) Z) Z T.fR bu (aa (pv 0) am))))
   (ak (fD bB Z (EV (K:=K) Z Z T.Kb (aa (pv 2) (aa (nG (UK (K:=K) Z) (pv 2) (pI aD) pH) am))) (tw Z (gu (cU (i:=4) sc.nd Z (aY Z)) (gu (cU (i:=5) sc.nd Z (aY Z)) pG)))
   (ak (bz (i:=6) sc.nd Z (aY Z) (b9 eF hr (aa (bP (gp (K:=K) Z) Z T.fR bu (aa (pv 0) am)) (aa (pv 4) am))))
   (aA (fD bB Z (cV (pv 5)) (cU (i:=7) sc.nd Z (aY Z))
   (aA (dE (cA lR (be (m9 (K:=K) Z) (be (iy (K:=K) Z) (pv 0) (pv 7) (λ_ _=>rfl)) aD (λ_ _=>rfl)) (pv 1) (de _))
   (aA (tD (b9 oE hr (aa (be (m9 (K:=K) Z) (be (iy (K:=K) Z) (pv 0) (pv 7) (λ_ _=>rfl)) aD (λ_ _=>rfl)) (aa (pv 6) am))) (tq (pv 3) (pv 7) a0k)))
   cv))))))
   (aA (bU (pv 3))))),?_⟩
 refine⟨(by show 1<=az;decide),λn1 vx=>?_⟩;have s1:=av vx (.lst [V.fC]);refine⟨_,Z,g0,_,Z,.inl (bI.of (s1 _ _ jl)),n1,_,_,Z,Z,ao,by omega,by omega,a0a (m:=1000) (by simp;omega),λra Zi=>?_⟩;have s2:=s1.trans (av Zi (.lst (aX ((gv.length:Nat):Int).toNat [V.fC]).flatten));have Ip:H ra=Y:=s1.free Zi;have Sk:upd (upd H n1 (.lst [V.fC])) ra (.lst (aX ((gv.length:Nat):Int).toNat [V.fC]).flatten) ra=O (.lst (om G.length λ_=>Y)):=by
  rw[ao,bO,Ln,n9]
 generalize upd (upd H n1 (.lst [V.fC])) ra (.lst (aX ((gv.length:Nat):Int).toNat [V.fC]).flatten)=H1 at s2 Sk ⊢;refine⟨_,Z,_,Z,_,Z,va,_,Z,bI.of (s2 _ _ hv),λvb JH=>?_⟩;rw[nq];have s3:=s2.trans (av JH (.lst (yz.drop 1)));have Sw:upd H1 vb (.lst (yz.drop 1)) vb=O (.lst (yz.drop 1)):=ao;have Ww:=av JH (.lst (yz.drop 1)) _ _ Sk;have nbr:vb≠ra:=λz=>by rw[z,Sk] at JH;cases JH
 have aif:H vb=Y:=s2.free JH;generalize upd H1 vb (.lst (yz.drop 1))=H3 at s3 Sw Ww ⊢;have nvr:va≠ra:=λz=>by rw[z,Ip] at hv;cases hv
 have hS:∀ Hx:Hp,aU H Hx->bI K Hx va yz:=λHx sx=>bI.of (sx _ _ hv);refine⟨va,vb,Z,⟨_,hS _ s3⟩,⟨_,bI.of Sw⟩,Kk (K:=K) (a:=va) (b:=vb) (xs:=yz) (ys:=yz.drop 1) (yz.length-1) (by omega) (by simp) (.inr (by simp)) (λi J H4=>YC λ(y1:Option V) (y2:Option V) (y3:Option V) (y4:Option V) (X:Int->Option Int)=>GV (J=[O (.ref g0),O (.int hand),O (.ref va),O (.ref ra),y1,y2,y3,y4]) (aU H H4) (H4 vb=O (.lst (yz.drop 1))) (H4 ra=O (.lst (om G.length X))) (PR G R (λk p=>k<i/\lv R (k+1) p/\hd G p=hand) X))
  ⟨_,_,_,_,_,Z,s3,Sw,Ww,PR.zero _ λk p z=>by omega⟩ (λi J H4 _ h=>?_) (λi x y J H4 Tt FX hi1 Up h hT=>?_) (λ J H4 h=>?_)⟩
 .obtain⟨_,_,_,_,_,_,s4,YT,_⟩:=h;exact⟨hS _ s4,bI.of YT⟩
 .obtain ⟨y1,y2,y3,y4,X,rfl,s4,YT,hr4,hX⟩:=h;obtain⟨A0,hA⟩:∃ L,R[i]?=O L:=⟨R[i]'(by omega),by simp⟩
  obtain⟨B0,hB⟩:∃ L,R[i+1]?=O L:=⟨R[i+1]'(by omega),by simp⟩
  obtain⟨x',Ir,rx⟩:=Paired.at Pa hA;rw[hi1] at Ir;cases Ir;obtain⟨ca,rfl,Vw⟩:=iA.mp rx;obtain⟨y',hy',ry⟩:=Paired.at Pa hB;rw[dU,vc,hy'] at Up;cases Up;obtain⟨cb,rfl,hcb⟩:=iA.mp ry;have sT:=av hT (.tup [.ref ca,.ref cb]);refine⟨Tt,_,Z,gA.of ao,Z,_,_,Z,_,_,Z,Z,?_⟩;have s5:=s4.trans sT;have hb5:=sT _ _ YT;have hr5:=sT _ _ hr4;generalize upd H4 Tt (.tup [.ref ca,.ref cb])=H5 at sT s5 hb5 hr5 ⊢;refine⟨_,Z,g0,_,Z,.inl (bI.of (s5 _ _ jl)),_,Z,gv.length,ca,A0,Z,by omega,s5 _ _ Vw,λma H6 s6 Im M6=>?_⟩;have Pj:=s5.trans s6;have hb6:=s6 _ _ hb5;have hr6:=s6 _ _ hr5;have nmr:ma≠ra:=λz=>by rw[z,hr5] at Im;cases Im
  rw[n9] at M6;obtain⟨_,_,_,Br⟩:=hR3 B0 (ag hB);have eA:Cm R i=A0:=by unfold Cm;rw[hA];rfl
  have hBl:=(hR3 B0 (ag hB)).2.2.1;have aaP:B0.Nodup:=oX (hR3 B0 (ag hB)).2.1;refine⟨_,Z,cb,Z,⟨_,bI.of (Pj _ _ hcb)⟩,gr (K:=K) (a:=cb) (xs:=B0.map V.int) (λj J H7=>Nk λ(y4:Option V) (X:Int->Option Int)=>Nf (J=[O (.ref g0),O (.int hand),O (.ref va),O (.ref ra),O (.ref ca),O (.ref cb),O (.ref ma),y4]) (aU H H7) (H7 vb=O (.lst (yz.drop 1))) (H7 ma=O (.lst (bm G.length λx=>decide (x∈A0)))) (H7 ra=O (.lst (om G.length X))) (PR G R (λk p=>(k<i/\lv R (k+1) p/\hd G p=hand)\/(k=i/\p∈B0.take j/\hd G p=hand)) X))
   ⟨_,X,Z,Pj,hb6,M6,hr6,hX.congr λk p=>by simp⟩ (λj J H7 _ h=>?_) (λj x J H7 hj h=>?_) (λ J H7 h=>?_)⟩
  .obtain⟨_,_,_,s7,_⟩:=h;exact bI.of (s7 _ _ hcb)
  .obtain ⟨y4,X,rfl,s7,YU,Za,Zh,hX⟩:=h;obtain⟨z,hz,rfl⟩:=dR hj;have hzB:=ag hz;obtain⟨z0,z1⟩:=Br z hzB;obtain⟨row,iL⟩:∃ row,G[z.toNat]?=O row:=⟨G[z.toNat]'(by omega),by simp⟩
   obtain⟨t,wa,p1,p2,p3⟩:=ll z.toNat row iL;have Qe:=ql iL;have Vf:=tV iL;obtain⟨w1,w2,w3⟩:=c8.2 row (ag iL);have Ks:oB gv z=O (.ref t):=fi z0 p1;have hlz:lv R (i+1) z:=⟨B0,hB,hzB⟩
   have hzt:z ∉ B0.take j:=λFX=>by
    have Qu:=(aj.mp hz)
    have VE:B0.drop j=z::B0.drop (j+1):=by rw[cZ Qu.1,Qu.2]
    have Sj:=aaP;rw[← qj j B0,VE,e7] at Sj;exact Sj.2.2 z FX z (aL ..) Z
   refine⟨_,Z,_,Z,g0,_,_,_,Z,Z,bI.of (s7 _ _ jl),Ks,t,_,_,_,Z,Z,gA.of (s7 _ _ p2),bb (j:=0) Z,_,Z,Z,_,Z,?_⟩;refine gN (λc=>?_) (λc=>?_)
   .have hh:hd G z=hand:=by have:=of_decide_eq_true c;injection this with e;rw[Qe];exact e
    obtain⟨pv9,Zf,_,_⟩:=hL.pick hlz hh;have Sh:=Zf;unfold Cy at Sh;rw[eA,Vf] at Sh;refine⟨_,Z,_,Z,g0,_,_,_,Z,Z,bI.of (s7 _ _ jl),Ks,t,_,_,_,Z,Z,gA.of (s7 _ _ p2),bb (j:=2) Z,_,Z,wa,ma,row.2.2,G.length,_,pv9,Z,s7 _ _ p3,Za,w1,w2,w3,Sh,λH8 s8=>?_⟩;have hr8:=s8 _ _ Zh;refine⟨_,Z,_,Z,ra,_,_,z.toNat,Z,Z,hr8,?_,?_⟩
    .unfold B8;rw[mU,if_pos z0,if_pos z1]
    .refine⟨_,_,Z,(s7.trans s8).put Ip _,by rw[bh nbr];exact s8 _ _ YU,by rw[bh nmr];exact s8 _ _ Za,by rw[ao,Td z0 z1],hX.set (i:=i) (λk p hp=>?_) (λk=>?_) Zf⟩
     .rw[cG hz];constructor
      .rintro (h | ⟨h1,h2 | h2,h3⟩)
       .exact .inl h
       .exact .inr ⟨h1,h2,h3⟩
       .exact absurd h2 hp
      .rintro (h | ⟨h1,h2,h3⟩)
       .exact .inl h
       .exact .inr ⟨h1,.inl h2,h3⟩
     .constructor
      .rintro (⟨h1,h2,_⟩ | ⟨h1,_⟩)
       .have:=mT hL.nd h2 hlz;omega
       .exact h1
      .rintro rfl;exact .inr ⟨Z,(cG hz).mpr (.inr Z),hh⟩
   .have hh:¬ hd G z=hand:=λe=>c (decide_eq_true (by rw[← e,Qe]));refine⟨_,_,Z,s7,YU,Za,Zh,hX.congr λk p=>?_⟩;rw[cG hz];constructor
    .rintro (h | ⟨h1,h2,h3⟩)
     .exact .inl h
     .exact .inr ⟨h1,.inl h2,h3⟩
    .rintro (h | ⟨h1,h2 | h2,h3⟩)
     .exact .inl h
     .exact .inr ⟨h1,h2,h3⟩
     .rw[h2] at h3;exact absurd h3 hh
  .obtain⟨y4,X,rfl,s7,YU,Za,Zh,hX⟩:=h;rw[ab,aR] at hX;refine⟨_,_,_,_,X,Z,s7,YU,Zh,hX.congr λk p=>?_⟩;constructor
   .rintro (⟨h1,h2⟩ | ⟨rfl,h2,h3⟩)
    .exact⟨by omega,h2⟩
    .exact⟨by omega,⟨B0,hB,h2⟩,h3⟩
   .rintro⟨h1,h2,h3⟩
    by_cases c:k<i
    .exact .inl ⟨c,h2,h3⟩
    .have:k=i:=by omega
     subst this;obtain⟨M,hM,hp⟩:=h2;rw[hB] at hM;cases hM;exact .inr ⟨Z,hp,h3⟩
 .obtain⟨y1,y2,y3,y4,X,rfl,s4,YT,hr4,hX⟩:=h;exact⟨_,Z,q ra X H4 s4 Ip hr4 (hX.congr λk p=>⟨λz=>z.2,λz=>⟨by have:=Cc z.1;omega,z⟩⟩)⟩
def Dt(v:V)(r ha wa:ai):List (aE × V):=cE "ways" (.ref wa) (cE "hands" (.ref ha) (cE "entries" (.ref r) (cE "game" v [])))
theorem kM(v:V)(r ha wa:ai):(Dt v r ha wa).lookup ("game" : aE)=O v:=by
 unfold Dt;rw[aI,if_neg (by trivial),aI,if_neg (by trivial),aI,if_neg (by trivial),aI,if_pos rfl]
theorem BV(v:V)(r ha wa:ai):(Dt v r ha wa).lookup ("entries" : aE)=O (.ref r):=by
 unfold Dt;rw[aI,if_neg (by trivial),aI,if_neg (by trivial),aI,if_pos rfl]
theorem pq(v:V)(r ha wa:ai):(Dt v r ha wa).lookup ("hands" : aE)=O (.ref ha):=by
 unfold Dt;rw[aI,if_neg (by trivial),aI,if_pos rfl]
theorem rj(v:V)(r ha wa:ai):(Dt v r ha wa).lookup ("ways" : aE)=O (.ref wa):=by
 unfold Dt;rw[aI,if_pos rfl]
theorem n8(v:V)(r ha wa:ai){m:aE}(h1:¬ m = "ways")(h2:¬ m = "hands")(h3:¬ m = "entries")(h4:¬ m = "game"):(Dt v r ha wa).lookup m=Y:=by
 unfold Dt;rw[aI,if_neg h1,aI,if_neg h2,aI,if_neg h3,aI,if_neg h4];rfl
abbrev tJ:List aE:=["game","entries","hands","ways"]
structure za(C:ai)(H:Hp)(x:ai)(v:V)(r:ai)(as:List ai)(ha wa:ai)(G:List Row):Prop where
 ob:∃ dx,H x=O (.ins C dx (Dt v r ha wa))
 hg:hZ H G v
 hc:Cells H r as (wi G G.length)
theorem za.up{C x r ha wa:ai}{H H':Hp}{v:V}{as:List ai}{G:List Row}(o:za C H x v r as ha wa G)(s:aU H H'):za C H' x v r as ha wa G:=by
 obtain⟨⟨dx,h1⟩,h2,h3⟩:=o;exact⟨⟨dx,s _ _ h1⟩,dS.up s h2,h3.up s⟩
variable {C:ai}
def Gv(C:ai):Sp:=λvs H Q _=>YC λ(x:ai) (dx:ai) (v:V) (G:List Row) (H0:Hp)=>JQ (vs=[.ref x,v]) (aU H0 H) (H0 x=Y) (H x=O (.ins C dx [])) (hZ H0 G v) (Dk G) (∀(r:ai)(as:List ai)(ha wa:ai)(H':Hp),ha≠wa->H0 ha=Y->H0 wa=Y->aU H0 (mn H' ha wa)->za C (mn H' ha wa) x v r as ha wa G->H' ha=O (.lst ((im G.length λ_=>0).map V.int))->H' wa=O (.lst (om G.length λ_=>Y))->Q .fC H')
theorem OJ(F:qw K C "Cutter.__init__" fU ["self","game"])(T:Txt mg)(aK:ClsAt K mg "Cutter" C tJ)(GY:Dn P w K mg base "ways_in" 1 ["game"] XT):GZ P w K mg base C 2 ["self","game"] (Gv C):=by
 have sc:=qM;refine F.ok sc (λvs H Q E h=>?_) (λf dW A outer s H vs Q E hr h=>?_)
 .obtain⟨_,_,_,_,_,rfl,_⟩:=h;rfl
 obtain⟨x,dx,v,G,H0,rfl,s0,zw,hx,hG,c8,q⟩:=h;have Dv:=c8.1;obtain⟨g0,gv,rfl,jl,n9,_⟩:=dk hG;refine⟨_,(ak (fT (K:=K) Z (pv 0) (pv 1) Z)
   (ak (fT (K:=K) Z (pv 0) (b9 GY hr (aa (pv 1) am)) Z)
   (ak (fT (K:=K) Z (pv 0) (bA vJ (eY (aa aD am)) (bP (gp (K:=K) Z) Z T.fR bu (aa (pv 1) am))) Z)
   (aA (fT (K:=K) Z (pv 0) (bA vJ (eY (aa zQ am)) (bP (gp (K:=K) Z) Z T.fR bu (aa (pv 1) am))) Z))))),?_⟩
 refine⟨_,Z,_,Z,x,C,dx,[],Z,hx,aK.cl,aK.na _ (by trivial),(by show 0<1000;decide),?_⟩;have s1:aU H0 (upd H x (.ins C dx (cE "game" (.ref g0) []))):=s0.put zw _;have Iu:upd H x (.ins C dx (cE "game" (.ref g0) [])) x=O (.ins C dx (cE "game" (.ref g0) [])):=ao;generalize upd H x (.ins C dx (cE "game" (.ref g0) []))=H1 at s1 Iu ⊢;refine⟨_,Z,_,G,Z,dS.up s1 hG,c8,λr as H2 s2 Wt vw hC=>?_⟩;have zx:=s2 _ _ Iu;refine⟨_,Z,x,C,dx,_,Z,zx,aK.cl,aK.na _ (by trivial),(by show 1<1000;decide),?_⟩;have nrx:r≠x:=eK Iu Wt;have nax:∀ a∈as,a≠x:=λa ha=>eK Iu (vw a ha);have hC3:Cells (L2.del H2 x) r as (wi G G.length):=xO hC nrx nax;have s3:aU H0 (upd H2 x (.ins C dx (cE "entries" (.ref r) (cE "game" (.ref g0) [])))):=(s1.trans s2).put zw _;have hC4:Cells (L2.del (upd H2 x (.ins C dx (cE "entries" (.ref r) (cE "game" (.ref g0) [])))) x) r as (wi G G.length):=by rw[n5];exact hC3
 have vz:upd H2 x (.ins C dx (cE "entries" (.ref r) (cE "game" (.ref g0) []))) x=O (.ins C dx (cE "entries" (.ref r) (cE "game" (.ref g0) []))):=ao;generalize upd H2 x (.ins C dx (cE "entries" (.ref r) (cE "game" (.ref g0) [])))=H3 at s3 hC4 vz ⊢;refine⟨(by show 1<=az;decide),λn1 vx=>?_⟩;have s4:=av vx (.lst [V.int 0]);refine⟨_,Z,g0,_,Z,.inl (bI.of ((s3.trans s4) _ _ jl)),n1,_,_,Z,Z,ao,by omega,by omega,a0a (m:=1000) (by simp;omega),λha Dx=>?_⟩;have s5:=av Dx (.lst (aX ((gv.length:Nat):Int).toNat [V.int 0]).flatten);have VO:upd (upd H3 n1 (.lst [V.int 0])) ha (.lst (aX ((gv.length:Nat):Int).toNat [V.int 0]).flatten) ha=O (.lst ((im G.length λ_=>0).map V.int)):=by
  rw[ao,bO,SB,n9]
 have s35:=s4.trans s5;have RY:H3 ha=Y:=s4.free Dx;generalize upd (upd H3 n1 (.lst [V.int 0])) ha (.lst (aX ((gv.length:Nat):Int).toNat [V.int 0]).flatten)=H5 at s5 s35 VO ⊢;have Zu:ha≠x:=eK vz RY;refine⟨_,Z,x,C,dx,_,Z,s35 _ _ vz,aK.cl,aK.na _ (by trivial),(by show 2<1000;decide),?_⟩;have s6:aU (L2.del H3 x) (upd H5 x (.ins C dx (cE "hands" (.ref ha) (cE "entries" (.ref r) (cE "game" (.ref g0) []))))):=((kL H3 x).trans s35).put (by unfold L2.del;rw[if_pos rfl]) _;have hx6:upd H5 x (.ins C dx (cE "hands" (.ref ha) (cE "entries" (.ref r) (cE "game" (.ref g0) [])))) x=O (.ins C dx (cE "hands" (.ref ha) (cE "entries" (.ref r) (cE "game" (.ref g0) [])))):=ao;have RZ:upd H5 x (.ins C dx (cE "hands" (.ref ha) (cE "entries" (.ref r) (cE "game" (.ref g0) [])))) ha=O (.lst ((im G.length λ_=>0).map V.int)):=by rw[bh Zu];exact VO
 generalize upd H5 x (.ins C dx (cE "hands" (.ref ha) (cE "entries" (.ref r) (cE "game" (.ref g0) []))))=H6 at s6 hx6 RZ ⊢;have UF:aU H0 (L2.del H3 x):=λb o e=>by rw[dF (λz=>by rw[z,zw] at e;cases e)];exact s3 _ _ e
 have Pj:=UF.trans s6;refine⟨(by show 1<=az;decide),λn2 Eo=>?_⟩;have s7:=av Eo (.lst [V.fC]);refine⟨_,Z,g0,_,Z,.inl (bI.of ((Pj.trans s7) _ _ jl)),n2,_,_,Z,Z,ao,by omega,by omega,a0a (m:=1000) (by simp;omega),λwa uh=>?_⟩;have s8:=av uh (.lst (aX ((gv.length:Nat):Int).toNat [V.fC]).flatten);have WN:upd (upd H6 n2 (.lst [V.fC])) wa (.lst (aX ((gv.length:Nat):Int).toNat [V.fC]).flatten) wa=O (.lst (om G.length λ_=>Y)):=by
  rw[ao,bO,Ln,n9]
 have ZF:=s7.trans s8;have Oc:H6 wa=Y:=s7.free uh;generalize upd (upd H6 n2 (.lst [V.fC])) wa (.lst (aX ((gv.length:Nat):Int).toNat [V.fC]).flatten)=H8 at s8 ZF WN ⊢;have Zy:wa≠x:=eK hx6 Oc;have nwh:wa≠ha:=eK RZ Oc;refine⟨_,Z,x,C,dx,_,Z,ZF _ _ hx6,aK.cl,aK.na _ (by trivial),(by show 3<1000;decide),?_⟩;have hx9:upd H8 x (.ins C dx (Dt (.ref g0) r ha wa)) x=O (.ins C dx (Dt (.ref g0) r ha wa)):=ao;have s9:aU (L2.del H3 x) (upd H8 x (.ins C dx (Dt (.ref g0) r ha wa))):=(s6.trans ZF).put (by unfold L2.del;rw[if_pos rfl]) _;have abp:upd H8 x (.ins C dx (Dt (.ref g0) r ha wa)) ha=O (.lst ((im G.length λ_=>0).map V.int)):=by rw[bh Zu];exact ZF _ _ RZ
 have ace:upd H8 x (.ins C dx (Dt (.ref g0) r ha wa)) wa=O (.lst (om G.length λ_=>Y)):=by rw[bh Zy];exact WN
 have Y1:H0 ha=Y:=s3.free RY;have KQ:H0 wa=Y:=Pj.free Oc;have hdh:L2.del H3 x ha=Y:=by rw[dF Zu];exact RY
 have hdw:L2.del H3 x wa=Y:=s6.free Oc;have sm:=W5 s9 hdh hdw;exact q r as ha wa _ (cg nwh) Y1 KQ (UF.trans sm) ⟨⟨dx,by rw[mG (cg Zu) (cg Zy)];exact hx9⟩,dS.up (UF.trans sm) hG,hC4.up sm⟩ abp ace
def Ax(C:ai):Sp:=λvs H Q _=>Nj λ(x:ai) (v:V) (r:ai) (as:List ai) (ha:ai) (wa:ai) (G:List Row) (hand:Int) (ga:ai) (la:ai) (goal:List Int) (left:List Int)=>Nf (vs=[.ref x,.int hand,.ref ga,.ref la]) (za C H x v r as ha wa G) (Dk G) (H ga=O (.lst (goal.map V.int))) (H la=O (.lst (left.map V.int))) (∀(p:ai)(H':Hp),aU H H'->iV (iV lT) (jf H H') (ki G hand (λx=>decide (x∈left)) λx=>decide (x∈goal)) (.ref p)->Q (.ref p) H')
theorem Li(F:j5 K C "pull" "Cutter.pull" iX ["self","hand","goal","left"])(T:Txt mg)(aK:ClsAt K mg "Cutter" C tJ)(Bq:Dn P w K mg base "layers_to" 5 ["game","entries","hand","goal","part"] CV):tL P w K mg base C "pull" 6 ["self","hand","goal","left"] (Ax C):=by
 have sc:=vV;refine F.ok sc (λvs H Q E h=>?_) (λf dW A outer s H vs Q E hr h=>?_)
 .obtain⟨_,_,_,_,_,_,_,_,_,_,_,_,rfl,_⟩:=h;rfl
 obtain⟨x,v,r,as,ha,wa,G,hand,ga,la,goal,left,rfl,⟨⟨dx,hx⟩,hG,hC⟩,c8,hga,zt,q⟩:=h;refine⟨_,(aA (bU (b9 Bq hr (aa (bV (K:=K) Z (pv 0) Z) (aa (bV (K:=K) Z (pv 0) Z) (aa (pv 1) (aa (pv 2) (aa (pv 3) am)))))))),?_⟩;exact⟨_,Z,x,C,dx,_,_,Z,hx,aK.cl,aK.na _ (by trivial),kM _ _ _ _,_,Z,x,C,dx,_,_,Z,hx,aK.cl,aK.na _ (by trivial),BV _ _ _ _,_,Z,_,Z,_,Z,v,.ref la,G,hand,r,ga,as,goal,_,Z,hG,c8,hC,hga,.inr ⟨la,left,Z,zt,Z⟩,λp H1 s1 hp=>q p H1 s1 hp⟩
def tH(C:ai):Sp:=λvs H Q _=>Rg λ(x:ai) (v:V) (r:ai) (as:List ai) (ha:ai) (wa:ai) (G:List Row) (la:ai) (pa:ai) (left:List Int) (ps:List Int)=>Q6 (vs=[.ref x,.ref la,.ref pa]) (za C H x v r as ha wa G) (Dk G) (H la=O (.lst (left.map V.int))) (H pa=O (.lst (ps.map V.int))) ((∀ z∈left,0<=z/\z<G.length)) (left.length<=63) (∀(p:ai)(H':Hp),aU H H'->H p=Y->H' p=O (.lst ((left.filter λz=>!decide (z∈ps)).map V.int))->Q (.ref p) H')
theorem EQ(F:j5 K C "without" "Cutter.without" fz ["self","left","places"])(T:Txt mg)(aK:ClsAt K mg "Cutter" C tJ)(eF:Dn P w K mg base "place_marks" 3 ["count","places"] pL):tL P w K mg base C "without" 4 ["self","left","places"] (tH C):=by
 have sc:=rP;refine F.ok sc (λvs H Q E h=>?_) (λf dW A outer s H vs Q E hr h=>?_)
 .obtain⟨_,_,_,_,_,_,_,_,_,_,_,rfl,_⟩:=h;rfl
 obtain⟨x,v,r,as,ha,wa,G,la,pa,left,ps,rfl,⟨⟨dx,hx⟩,hG,hC⟩,c8,zt,vy,Ij,NX,q⟩:=h;obtain⟨g0,gv,rfl,jl,n9,_⟩:=dk hG;have Dv:=c8.1;refine⟨_,(ak (bz (i:=3) sc.nd Z (uy Z) (b9 eF hr (aa (bP (gp (K:=K) Z) Z T.fR bu (aa (bV (K:=K) Z (pv 0) Z) am)) (aa (pv 2) am))))
   (aA (bU (lS (aC fz) ["self","left","places","marks"] ["place","marks"] 1 [3] (cV (pv 1)) (λ_ _ _ _ _ _=>(d0 (show cM (["place","marks"]:List aE) by trivial) Z Z)) (λ_ _ _ _ _ _=>(mH (ji (fM (be (iy (K:=K) Z) (pv 1) (pv 0) (λ_ _=>rfl)))))) (λ_ _ _ _ _ _=>(pv 0)))))),?_⟩
 refine⟨_,Z,x,C,dx,_,_,Z,hx,aK.cl,aK.na _ (by trivial),kM _ _ _ _,g0,_,Z,.inl (bI.of jl),_,Z,gv.length,pa,ps,Z,by omega,vy,λma H1 s1 Im M6=>?_⟩;rw[n9] at M6;refine⟨_,Z,la,Z,⟨_,bI.of (s1 _ _ zt)⟩,cW (K:=K) (a:=la) (xs:=left.map V.int) (λk ys H3=>H3=H1/\ys=((left.take k).filter λz=>!decide (z∈ps)).map V.int) ⟨Z,Z⟩ (a0a (m:=1000) (by rw[ab];omega)) (λk ys H3 hk h=>?_) (λk y ys H3 hk h=>?_) (λys H3 h p hp=>?_)⟩
 .obtain⟨rfl,rfl⟩:=h;exact⟨bI.of (s1 _ _ zt),by rw[ab];exact bF (cC _ _) (by simp;omega)⟩
 .obtain⟨rfl,rfl⟩:=h;obtain⟨z,hz,rfl⟩:=dR hk;obtain⟨z0,z1⟩:=Ij z (ag hz);refine⟨_,Z,_,Z,ma,_,_,_,Z,Z,bI.of M6,fi z0 (tO z0 z1),_,Z,?_⟩;refine gN (λc4=>?_) (λc4=>?_)
  .refine⟨_,Z,Z,?_⟩;rw[aM,hz,cD,aB];show _=_++(gh (λz=>!decide (z∈ps)) [z]).map V.int;rw[bw (p:=λz=>!decide (z∈ps)) c4];rfl
  .refine⟨Z,?_⟩;rw[aM,hz,cD,aB];show _=_++(gh (λz=>!decide (z∈ps)) [z]).map V.int;rw[bJ (p:=λz=>!decide (z∈ps)) c4];simp
 obtain⟨rfl,rfl⟩:=h;rw[ab,aR];exact q p _ (s1.trans (av hp _)) (s1.free hp) ao
def tl(R:List (List Int)):List Int:=(R.drop 1).flatten
theorem mW{R:List (List Int)}{p:Int}:p∈tl R↔∃ k,lv R (k+1) p:=by
 unfold tl;rw[rD];constructor
 .rintro⟨j,L,h,hp⟩;rw[dU,vc] at h;exact⟨j,L,h,hp⟩
 .rintro⟨j,L,h,hp⟩;exact⟨j,L,by rw[dU,vc];exact h,hp⟩
def Fh(C:ai):Sp:=λvs H Q _=>Rh λ(x:ai) (v:V) (r:ai) (as:List ai) (ha:ai) (wa:ai) (G:List Row) (hand:Int) (lw:V) (ins:Int->Bool) (want:Int->Bool) (R:List (List Int)) (hf:Int->Int) (wf:Int->Option Int)=>JO (vs=[.ref x,.int hand,lw]) (ha≠wa) (za C (mn H ha wa) x v r as ha wa G) (Dk G) (iV (iV lT) (mn H ha wa) R lw) (Lay G hand ins want R) (LOk G.length R) (H ha=O (.lst ((im G.length hf).map V.int))) (H wa=O (.lst (om G.length wf))) (∀(X:Int->Option Int)(H':Hp),aU (mn H ha wa) H'->H' ha=O (.lst ((im G.length λp=>if p∈tl R then hand else hf p).map V.int))->H' wa=O (.lst (om G.length λp=>if p∈tl R then X p else wf p))->PR G R (λk p=>lv R (k+1) p/\hd G p=hand) X->Q .fC H')
theorem OG(F:j5 K C "give" "Cutter.give" iW ["self","hand","layers"])(T:Txt mg)(aK:ClsAt K mg "Cutter" C tJ)(yY:Dn P w K mg base "layer_ways" 4 ["game","hand","layers"] XU):tL P w K mg base C "give" 5 ["self","hand","layers"] (Fh C):=by
 have sc:=vU;refine F.ok sc (λvs H Q E h=>?_) (λf dW A outer s H vs Q E hr h=>?_)
 .obtain⟨_,_,_,_,_,_,_,_,_,_,_,_,_,_,rfl,_⟩:=h;rfl
 obtain⟨x,v,r,as,ha,wa,G,hand,lw,ins,want,R,hf,wf,rfl,EG,hO,c8,hR,hL,Vq,Dx,uh,q⟩:=h;obtain⟨⟨dx,hx⟩,hG,hC⟩:=id hO;have Dv:=c8.1;have hxH:=iz _ _ hx;refine⟨_,(ak (bz (i:=3) sc.nd Z (aY Z) (b9 yY hr (aa (bV (K:=K) Z (pv 0) Z) (aa (pv 1) (aa (pv 2) am)))))
   (aA (fD bB Z (cV (nG (UK (K:=K) Z) (pv 2) (pI aD) pH)) (cU (i:=4) sc.nd Z (aY Z))
   (aA (fD bB Z (cV (pv 4)) (cU (i:=5) sc.nd Z (aY Z))
   (ak (tD (pv 1) (tq (bV (K:=K) Z (pv 0) Z) (pv 5) a0k))
   (aA (tD (be (iy (K:=K) Z) (pv 3) (pv 5) (λ_ _=>rfl)) (tq (bV (K:=K) Z (pv 0) Z) (pv 5) a0k))))))))),?_⟩
 have sM:aU (mn H ha wa) H:=iz;refine⟨_,Z,x,C,dx,_,_,Z,hxH,aK.cl,aK.na _ (by trivial),kM _ _ _ _,_,Z,_,Z,v,lw,G,hand,ins,want,R,Z,dS.up sM hG,c8,(dv (dv fS)).up sM hR,hL,Vq,λra X H1 s1 Ip Zi hX=>?_⟩;obtain⟨va,yz,rfl,hv,Pa⟩:=hR;have nrh:ra≠ha:=eK Dx Ip;have nrw:ra≠wa:=eK uh Ip;have XF:aU (mn H ha wa) (mn H1 ha wa):=jL s1;refine⟨_,Z,_,Z,va,_,Z,bI.of (s1 _ _ (sM _ _ hv)),λvb JH=>?_⟩;rw[nq];have nbh:vb≠ha:=eK (s1 _ _ Dx) JH;have nbw:vb≠wa:=eK (s1 _ _ uh) JH;have s2:=av JH (.lst (yz.drop 1));have Sx:upd H1 vb (.lst (yz.drop 1)) vb=O (.lst (yz.drop 1)):=ao;have CC:=s1.trans s2;have Wv:=s2 _ _ Zi;generalize upd H1 vb (.lst (yz.drop 1))=H2 at s2 Sx CC Wv ⊢;have hvl:=Pa.length;have pvd:gf (iV lT (mn H ha wa)) (R.drop 1) (yz.drop 1):=by
  cases Pa with
  |nil=>exact .nil
  |cons _ t=>exact t
 have M5:=pvd.length;refine⟨vb,Z,⟨_,bI.of Sx⟩,gr (K:=K) (a:=vb) (xs:=yz.drop 1) (λi J H3=>Nk λ(y1:Option V) (y2:Option V)=>Bl (J=[O (.ref x),O (.int hand),O (.ref va),O (.ref ra),y1,y2]) (aU (mn H2 ha wa) H3) (H3 ha=O (.lst ((im G.length λp=>if p∈((R.drop 1).take i).flatten then hand else hf p).map V.int))) (H3 wa=O (.lst (om G.length λp=>if p∈((R.drop 1).take i).flatten then X p else wf p))))
  ⟨_,_,Z,iz,CC _ _ Dx,CC _ _ uh⟩ (λi J H3 _ h=>?_) (λi y J H3 hi h=>?_) (λ J H3 h=>?_)⟩
 .obtain⟨_,_,_,s3,_⟩:=h;exact bI.of (s3 _ _ (lP Sx nbh nbw))
 .obtain ⟨y1,y2,rfl,s3,Ic,Iq⟩:=h;obtain⟨L,hLi,rx⟩:=Paired.ta pvd hi;obtain⟨ca,rfl,Vw⟩:=iA.mp rx;have Vx:=(jL (a:=ha) (b:=wa) CC) _ _ Vw;have hLR:L∈R:=lG (ag hLi);obtain⟨_,_,Ll,Lr⟩:=Vq.2.2 L hLR;refine⟨_,Z,ca,Z,⟨_,bI.of (s3 _ _ Vx)⟩,gr (K:=K) (a:=ca) (xs:=L.map V.int) (λj J H4=>∃ (y2:Option V),Bl (J=[O (.ref x),O (.int hand),O (.ref va),O (.ref ra),O (.ref ca),y2]) (aU (mn H2 ha wa) H4) (H4 ha=O (.lst ((im G.length λp=>if p∈((R.drop 1).take i).flatten++L.take j then hand else hf p).map V.int))) (H4 wa=O (.lst (om G.length λp=>if p∈((R.drop 1).take i).flatten++L.take j then X p else wf p))))
   ⟨_,Z,s3,by simpa using Ic,by simpa using Iq⟩ (λj J H4 _ h=>?_) (λj y J H4 hj h=>?_) (λ J H4 h=>?_)⟩
  .obtain⟨_,_,s4,_⟩:=h;exact bI.of (s4 _ _ Vx)
  .obtain⟨y2,rfl,s4,Qt,QD⟩:=h;obtain⟨z,hz,rfl⟩:=dR hj;obtain⟨z0,z1⟩:=Lr z (ag hz);have zx:=(jL (a:=ha) (b:=wa) CC) _ _ hx;have Oe:=s4 _ _ zx;refine⟨_,Z,_,Z,x,C,dx,_,_,Z,Oe,aK.cl,aK.na _ (by trivial),pq _ _ _ _,_,Z,ha,_,_,z.toNat,Z,Z,Qt,?_,?_⟩
   .unfold B8;rw[ab,mP,if_pos z0,if_pos z1]
   have s5:=s4.put yb (.lst (((im G.length λp=>if p∈((R.drop 1).take i).flatten++L.take j then hand else hf p).map V.int).set z.toNat (.int hand)));have Ux:upd H4 ha (.lst (((im G.length λp=>if p∈((R.drop 1).take i).flatten++L.take j then hand else hf p).map V.int).set z.toNat (.int hand))) wa=O (.lst (om G.length λp=>if p∈((R.drop 1).take i).flatten++L.take j then X p else wf p)):=by rw[bh (cg EG)];exact QD
   have Uo:upd H4 ha (.lst (((im G.length λp=>if p∈((R.drop 1).take i).flatten++L.take j then hand else hf p).map V.int).set z.toNat (.int hand))) ha=O (.lst ((im G.length λp=>if p∈((R.drop 1).take i).flatten++L.take (j+1) then hand else hf p).map V.int)):=by
    rw[ao,oY,Eu z0 z1];congr 3;refine oU λp _ _=>?_
    by_cases c:p=z
    .subst c;rw[if_pos Z,if_pos (b7 _ ((cG hz).mpr (.inr Z)))]
    .rw[if_neg c];have e:(p∈((R.drop 1).take i).flatten++L.take (j+1))↔p∈((R.drop 1).take i).flatten++L.take j:=by
      rw[bH,bH,cG hz];simp[c]
     simp only [e]
   generalize upd H4 ha (.lst (((im G.length λp=>if p∈((R.drop 1).take i).flatten++L.take j then hand else hf p).map V.int).set z.toNat (.int hand)))=H5 at s5 Ux Uo ⊢;have abT:=s5 _ _ (lP Wv nrh nrw);refine⟨_,Z,_,Z,ra,_,_,_,Z,Z,bI.of abT,fi z0 (Gf z0 z1),_,Z,x,C,dx,_,_,Z,s5 _ _ zx,aK.cl,aK.na _ (by trivial),rj _ _ _ _,_,Z,wa,_,_,z.toNat,Z,Z,Ux,?_,?_⟩
   .unfold B8;rw[mU,if_pos z0,if_pos z1]
   .refine⟨_,Z,s5.put vH _,by rw[bh EG];exact Uo,?_⟩;rw[ao,Lm z0 z1];congr 2;refine Cr λp _ _=>?_
    by_cases c:p=z
    .subst c;rw[if_pos Z,if_pos (b7 _ ((cG hz).mpr (.inr Z)))]
    .rw[if_neg c];have e:(p∈((R.drop 1).take i).flatten++L.take (j+1))↔p∈((R.drop 1).take i).flatten++L.take j:=by
      rw[bH,bH,cG hz];simp[c]
     simp only [e]
  .obtain⟨y2,rfl,s4,Qt,QD⟩:=h;rw[ab,aR] at Qt QD;have e:((R.drop 1).take (i+1)).flatten=((R.drop 1).take i).flatten++L:=by
    rw[aM,hLi,fA];simp
   exact⟨_,_,Z,s4,by rw[e];exact Qt,by rw[e];exact QD⟩
 .obtain⟨y1,y2,rfl,s3,Ic,Iq⟩:=h;rw[← M5,aR] at Ic Iq;exact q X H3 ((jL CC).trans s3) Ic Iq hX
def Fl(C:ai):Sp:=λvs H Q _=>Rh λ(x:ai) (v:V) (r:ai) (as:List ai) (ha:ai) (wa:ai) (G:List Row) (hand:Int) (ta:ai) (la:ai) (ts:List Int) (left:List Int) (hf:Int->Int) (wf:Int->Option Int)=>JO (vs=[.ref x,.int hand,.ref ta,.ref la]) (ha≠wa) (za C (mn H ha wa) x v r as ha wa G) (Dk G) (mn H ha wa ta=O (.lst (ts.map V.int))) (mn H ha wa la=O (.lst (left.map V.int))) ((∀ z∈ts,(0<=z/\z<G.length)/\z∈left/\∃ w∈wy G z,w∈left)) (H ha=O (.lst ((im G.length hf).map V.int))) (H wa=O (.lst (om G.length wf))) (∀(H':Hp),aU (mn H ha wa) H'->H' ha=O (.lst ((im G.length λp=>if p∈ts then hand else hf p).map V.int))->H' wa=O (.lst (om G.length λp=>if p∈ts then x9 G hand left p else wf p))->Q .fC H')
theorem OU(F:j5 K C "give_tops" "Cutter.give_tops" fE ["self","hand","tops","left"])(T:Txt mg)(aK:ClsAt K mg "Cutter" C tJ)(eF:Dn P w K mg base "place_marks" 3 ["count","places"] pL)(oE:Dn P w K mg base "least_way" 1 ["ways","marks"] Au):tL P w K mg base C "give_tops" 4 ["self","hand","tops","left"] (Fl C):=by
 have sc:=qh;refine F.ok sc (λvs H Q E h=>?_) (λf dW A outer s H vs Q E hr h=>?_)
 .obtain⟨_,_,_,_,_,_,_,_,_,_,_,_,_,_,rfl,_⟩:=h;rfl
 obtain⟨x,v,r,as,ha,wa,G,hand,ta,la,ts,left,hf,wf,rfl,EG,hO,c8,Uw,zt,Zk,Dx,uh,q⟩:=h;obtain⟨⟨dx,hx⟩,hG,hC⟩:=id hO;obtain⟨g0,gv,rfl,jl,n9,ll⟩:=dk hG;have Dv:=c8.1;have sM:aU (mn H ha wa) H:=iz;refine⟨_,(ak (bz (i:=4) sc.nd Z (aY Z) (b9 eF hr (aa (bP (gp (K:=K) Z) Z T.fR bu (aa (bV (K:=K) Z (pv 0) Z) am)) (aa (pv 3) am))))
   (aA (fD bB Z (cV (pv 2)) (cU (i:=5) sc.nd Z (aY Z))
   (ak (tD (pv 1) (tq (bV (K:=K) Z (pv 0) Z) (pv 5) a0k))
   (ak (bz (i:=6) sc.nd Z (aY Z) (kI lR (be (m9 (K:=K) Z) (be (iy (K:=K) Z) (bV (K:=K) Z (pv 0) Z) (pv 5) (λ_ _=>rfl)) aD (λ_ _=>rfl)) (pv 1) (de _)))
   (aA (tD (rH (fM (pv 6)) (b9 oE hr (aa (be (m9 (K:=K) Z) (be (iy (K:=K) Z) (bV (K:=K) Z (pv 0) Z) (pv 5) (λ_ _=>rfl)) aD (λ_ _=>rfl)) (aa (pv 4) am))) zQ) (tq (bV (K:=K) Z (pv 0) Z) (pv 5) a0k)))))))),?_⟩
 refine⟨_,Z,x,C,dx,_,_,Z,sM _ _ hx,aK.cl,aK.na _ (by trivial),kM _ _ _ _,g0,_,Z,.inl (bI.of (sM _ _ jl)),_,Z,gv.length,la,left,Z,by omega,sM _ _ zt,λma H1 s1 Im M6=>?_⟩;rw[n9] at M6;have nmh:ma≠ha:=eK Dx Im;have nmw:ma≠wa:=eK uh Im;have abB:=lP M6 nmh nmw;have XF:aU (mn H ha wa) (mn H1 ha wa):=jL s1;refine⟨_,Z,ta,Z,⟨_,bI.of (s1 _ _ (sM _ _ Uw))⟩,gr (K:=K) (a:=ta) (xs:=ts.map V.int) (λi J H3=>Nk λ(y1:Option V) (y2:Option V)=>Bl (J=[O (.ref x),O (.int hand),O (.ref ta),O (.ref la),O (.ref ma),y1,y2]) (aU (mn H1 ha wa) H3) (H3 ha=O (.lst ((im G.length λp=>if p∈ts.take i then hand else hf p).map V.int))) (H3 wa=O (.lst (om G.length λp=>if p∈ts.take i then x9 G hand left p else wf p))))
  ⟨_,_,Z,iz,s1 _ _ Dx,s1 _ _ uh⟩ (λi J H3 _ h=>?_) (λi y J H3 hi h=>?_) (λ J H3 h=>?_)⟩
 .obtain⟨_,_,_,s3,_⟩:=h;exact bI.of (s3 _ _ (XF _ _ Uw))
 .obtain⟨y1,y2,rfl,s3,Ic,Iq⟩:=h;obtain⟨z,hz,rfl⟩:=dR hi;obtain⟨⟨z0,z1⟩,Iv,hzw⟩:=Zk z (ag hz);have zx:=XF _ _ hx;obtain⟨row,iL⟩:∃ row,G[z.toNat]?=O row:=⟨G[z.toNat]'(by omega),by simp⟩
  obtain⟨t,wr,p1,p2,p3⟩:=ll z.toNat row iL;have Qe:=ql iL;have Vf:=tV iL;obtain⟨w1,w2,w3⟩:=c8.2 row (ag iL);have Ks:oB gv z=O (.ref t):=fi z0 p1;refine⟨_,Z,_,Z,x,C,dx,_,_,Z,s3 _ _ zx,aK.cl,aK.na _ (by trivial),pq _ _ _ _,_,Z,ha,_,_,z.toNat,Z,Z,Ic,?_,?_⟩
  .unfold B8;rw[ab,mP,if_pos z0,if_pos z1]
  have s5:=s3.put yb (.lst (((im G.length λp=>if p∈ts.take i then hand else hf p).map V.int).set z.toNat (.int hand)));have Ux:upd H3 ha (.lst (((im G.length λp=>if p∈ts.take i then hand else hf p).map V.int).set z.toNat (.int hand))) wa=O (.lst (om G.length λp=>if p∈ts.take i then x9 G hand left p else wf p)):=by rw[bh (cg EG)];exact Iq
  have Uo:upd H3 ha (.lst (((im G.length λp=>if p∈ts.take i then hand else hf p).map V.int).set z.toNat (.int hand))) ha=O (.lst ((im G.length λp=>if p∈ts.take (i+1) then hand else hf p).map V.int)):=by
   rw[ao,oY,Eu z0 z1];congr 3;refine oU λp _ _=>?_
   by_cases c:p=z
   .subst c;rw[if_pos Z,if_pos ((cG hz).mpr (.inr Z))]
   .rw[if_neg c];have e:(p∈ts.take (i+1))↔p∈ts.take i:=by rw[cG hz];simp[c]
    simp only [e]
  generalize upd H3 ha (.lst (((im G.length λp=>if p∈ts.take i then hand else hf p).map V.int).set z.toNat (.int hand)))=H5 at s5 Ux Uo ⊢;have e2:=XF.trans s5;refine⟨_,Z,x,C,dx,_,_,Z,s5 _ _ zx,aK.cl,aK.na _ (by trivial),kM _ _ _ _,_,Z,g0,_,_,_,Z,Z,bI.of (e2 _ _ jl),Ks,t,_,_,_,Z,Z,gA.of (e2 _ _ p2),bb (j:=0) Z,_,Z,Z,?_⟩;have last:∀(o:Option Int)(H6:Hp),aU (mn H1 ha wa) H6->H6 ha=O (.lst ((im G.length λp=>if p∈ts.take (i+1) then hand else hf p).map V.int))->o=x9 G hand left z->aU (mn H1 ha wa) (upd H6 wa (.lst ((om G.length λp=>if p∈ts.take i then x9 G hand left p else wf p).set z.toNat (oW o))))/\upd H6 wa (.lst ((om G.length λp=>if p∈ts.take i then x9 G hand left p else wf p).set z.toNat (oW o))) ha=O (.lst ((im G.length λp=>if p∈ts.take (i+1) then hand else hf p).map V.int))/\upd H6 wa (.lst ((om G.length λp=>if p∈ts.take i then x9 G hand left p else wf p).set z.toNat (oW o))) wa=O (.lst (om G.length λp=>if p∈ts.take (i+1) then x9 G hand left p else wf p)):=λo H6 s6 h6 eo=>by
   refine⟨s6.put vH _,by rw[bh EG];exact h6,?_⟩;rw[ao,Lm z0 z1];congr 2;refine Cr λp _ _=>?_
   by_cases c:p=z
   .subst c;rw[if_pos Z,if_pos ((cG hz).mpr (.inr Z)),eo]
   .rw[if_neg c];have e:(p∈ts.take (i+1))↔p∈ts.take i:=by rw[cG hz];simp[c]
    simp only [e]
  refine⟨_,Z,_,Z,?_⟩;refine gN (λc=>?_) (λc=>?_)
  .have hh:hd G z=hand:=by have:=of_decide_eq_true c;injection this with e;rw[Qe];exact e
   obtain⟨v9,k1,k2,_,_⟩:=F4 Iv hh hzw;rw[Vf] at k1;refine⟨_,Z,x,C,dx,_,_,Z,s5 _ _ zx,aK.cl,aK.na _ (by trivial),kM _ _ _ _,_,Z,g0,_,_,_,Z,Z,bI.of (e2 _ _ jl),Ks,t,_,_,_,Z,Z,gA.of (e2 _ _ p2),bb (j:=2) Z,_,Z,wr,ma,row.2.2,G.length,_,v9,Z,e2 _ _ p3,s5 _ _ abB,w1,w2,w3,k1,λH6 s6=>?_⟩;refine⟨_,Z,x,C,dx,_,_,Z,s6 _ _ (s5 _ _ zx),aK.cl,aK.na _ (by trivial),rj _ _ _ _,_,Z,wa,_,_,z.toNat,Z,Z,s6 _ _ Ux,?_,?_⟩
   .unfold B8;rw[mU,if_pos z0,if_pos z1]
   .obtain⟨l1,l2,l3⟩:=last (O v9) H6 (s5.trans s6) (s6 _ _ Uo) k2.symm;exact⟨_,_,Z,l1,l2,l3⟩
  .have hh:¬ hd G z=hand:=λe=>c (decide_eq_true (by rw[← e,Qe]));refine⟨_,Z,x,C,dx,_,_,Z,s5 _ _ zx,aK.cl,aK.na _ (by trivial),rj _ _ _ _,_,Z,wa,_,_,z.toNat,Z,Z,Ux,?_,?_⟩
   .unfold B8;rw[mU,if_pos z0,if_pos z1]
   .obtain⟨l1,l2,l3⟩:=last Y H5 s5 Uo (a0D λz=>hh z.2).symm;exact⟨_,_,Z,l1,l2,l3⟩
 .obtain⟨y1,y2,rfl,s3,Ic,Iq⟩:=h;rw[ab,aR] at Ic Iq;exact q H3 (XF.trans s3) Ic Iq
def qN:Sp:=λvs H Q _=>Nk λ(lw:V) (R:List (List Int))=>GV (vs=[lw]) (iV (iV lT) H R lw) (R.flatten.length<=63) (R.flatten.Nodup) (∀(p:ai)(ns:List Int)(H':Hp),aU H H'->H p=Y->H' p=O (.lst (ns.map V.int))->ns.Pairwise (·<·)->(∀ z,z∈ns↔z∈R.flatten)->ns.length<=63->Q (.ref p) H')
theorem IN(F:aN K mg "places_of" kW ["layers"])(T:Txt mg):Dn P w K mg base "places_of" 1 ["layers"] qN:=by
 have sc:=Ah;refine F.ok sc (λvs H Q E h=>?_) (λf dW A outer s H vs Q E hr h=>?_)
 .obtain⟨_,_,rfl,_⟩:=h;rfl
 obtain⟨lw,R,rfl,⟨va,yz,rfl,hv,Pa⟩,Ek,JF,q⟩:=h;refine⟨_,(ak (bz (i:=1) sc.nd Z (aY Z) (eY am))
   (ak (fD bB Z (cV (pv 0)) (cU (i:=2) sc.nd Z (aY Z))
   (aA (cL (ge ba PySem.F.slot_list_extend PySem.F.type_list_extend IF (pv 1) (aa (pv 2) am)))))
   (aA (bU (bP (rf) Z T.vh mf (aa (pv 1) am)))))),?_⟩
 refine⟨bq _,λpa vy=>?_⟩;have s1:=av vy (.lst []);have Wm:upd H pa (.lst []) pa=O (.lst []):=ao;generalize upd H pa (.lst [])=H1 at s1 Wm ⊢;have hvl:=Pa.length;refine⟨_,Z,va,Z,⟨_,bI.of (s1 _ _ hv)⟩,gr (K:=K) (a:=va) (xs:=yz) (λi J H3=>∃ y:Option V,J=[O (.ref va),O (.ref pa),y]/\aU H H3/\H3 pa=O (.lst ((R.take i).flatten.map V.int)))
  ⟨_,Z,s1,Wm⟩ (λi J H3 _ h=>?_) (λi y J H3 hi h=>?_) (λ J H3 h=>?_)⟩
 .obtain⟨_,_,s3,_⟩:=h;exact bI.of (s3 _ _ hv)
 .obtain⟨y,rfl,s3,h3⟩:=h;obtain⟨L,hL,rx⟩:=Paired.ta Pa hi;obtain⟨ca,rfl,Vw⟩:=iA.mp rx;have sW:(R.take i).flatten.length+L.length<=R.flatten.length:=by
   have e:R=R.take i++L::R.drop (i+1):=by
    have Qu:=aj.mp hL;rw[← Qu.2,← cZ Qu.1,qj]
   conv=>rhs;rw[e]
   rw[fA,iu,aV,aV];omega
  refine⟨_,Z,.inl ⟨Z,_,bI.of h3⟩,_,Z,pa,ca,_,_,Z,Z,h3,s3 _ _ Vw,a0a (m:=1000) (by rw[ab,ab];omega),?_⟩;refine⟨_,Z,s3.put vy _,?_⟩;rw[ao,aM,hL,fA,aB];simp
 .obtain⟨y,rfl,s3,h3⟩:=h;rw[← hvl,aR] at h3;refine⟨_,Z,pa,R.flatten,Z,bI.of h3,by omega,λp ns hp hpm Sj=>?_⟩;refine q p ns _ (s3.trans (av hp _)) (s3.free hp) ao ?_ (λz=>hpm.mem_iff) (by rw[hpm.length_eq];exact Ek);have Eo:ns.Nodup:=hpm.nodup_iff.mpr JF;exact(Sj.and Eo).imp λh=>by omega
def L4(C:ai)(n:Nat):Sp:=λvs H Q _=>Rg λ(x:ai) (v:V) (r:ai) (as:List ai) (ha:ai) (wa:ai) (G:List Row) (pa:ai) (ps:List Int) (hf:Int->Int) (wf:Int->Option Int)=>PY (vs=[.ref x,.ref pa]) (ha≠wa) (za C (mn H ha wa) x v r as ha wa G) (Dk G) (Ri G) (mn H ha wa pa=O (.lst (ps.map V.int))) (ps.Pairwise (·<·)) ((∀ z∈ps,0<=z/\z<G.length)) (YM G (·∈ps)) ((∀ z∈ps,0<=rk G z/\rk G z<n)) (H ha=O (.lst ((im G.length hf).map V.int))) (H wa=O (.lst (om G.length wf))) (∀(u:V)(H':Hp)(JC:Int->Int)(wf':Int->Option Int),aU (mn H ha wa) H'->H' ha=O (.lst ((im G.length JC).map V.int))->H' wa=O (.lst (om G.length wf'))->FG G (·∈ps) JC wf'->(∀ p,p ∉ ps->JC p=hf p/\wf' p=wf p)->Q u H')
def spC(C:ai):Nat->Sp
 |0=>λ_ _ _ _=>False
 |n+1=>L4 C n
theorem a0O{ps:List Int}(h:ps.Pairwise (·<·)){n:Nat}(hr:∀ z∈ps,0<=z/\z<n):ps.length<=n:=by
 have:=g7 ps (og n) (oX h) λx hx=>gk.mpr (hr x hx);rw[Gm] at this;exact this
inductive Rb(x pa pc ha wa:ai)(top hand:Int)(G:List Row)(ps:List Int)(hf:Int->Int)(wf:Int->Option Int)(H3:Hp)(m:Nat)(J:St)(Hx:Hp):Prop
 |mk (la:ai) (ls:List Int) (JC:Int->Int) (wf':Int->Option Int) (pv:List V) (y1 y2 y3 y4 y5:Option V) (w1:J=[O (.ref x),O (.ref pa),O (.int top),O (.int hand),O (.ref pc),O (.ref la),y1,y2,y3,y4,y5]) (w2:aU (mn H3 ha wa) Hx) (w3:Hx ha=O (.lst ((im G.length JC).map V.int))) (w4:Hx wa=O (.lst (om G.length wf'))) (w5:Hx pc=O (.lst pv)) (w6:pv.length+ls.length<=ps.length) (w7:Hx la=O (.lst (ls.map V.int))) (w8:la≠ha) (w9:la≠wa) (w10:la≠pc) (w11:ls.Pairwise (·<·)) (w12:∀ p∈ls,p∈ps) (w13:YM G (·∈ls)) (w14:∀ p∈ls,hd G p=1-hand->∀ w∈wy G p,w∈ps->w∈ls) (w15:∀ p∈ps,p ∉ ls->JC p=1-hand) (w16:uA G (·∈ps) wf' (1-hand) (λp=>p∈ps/\p ∉ ls)) (w17:∀ p,p ∉ ps->JC p=hf p/\wf' p=wf p) (w18:m=ls.length):Rb x pa pc ha wa top hand G ps hf wf H3 m J Hx
theorem S5{n:Nat}(F:j5 K C "cut" "Cutter.cut" fb ["self","part"])(T:Txt mg)(aK:ClsAt K mg "Cutter" C tJ)(kA:tL P w K mg base C "pull" 6 ["self","hand","goal","left"] (Ax C))(iq:tL P w K mg base C "without" 4 ["self","left","places"] (tH C))(kz:tL P w K mg base C "give" 5 ["self","hand","layers"] (Fh C))(ja:tL P w K mg base C "give_tops" 4 ["self","hand","tops","left"] (Fl C))(mw:Dn P w K mg base "places_of" 1 ["layers"] qN)
  (nU:tL P w K mg base C "cut" (6+n) ["self","part"] (spC C n)):tL P w K mg base C "cut" (6+n+1) ["self","part"] (spC C (n+1)):=by
 have sc:=xi;refine F.ok sc (λvs H Q E h=>?_) (λf dW A outer s H vs Q E hr h=>?_)
 .obtain⟨_,_,_,_,_,_,_,_,_,_,_,rfl,_⟩:=h;rfl
 obtain⟨x,v,r,as,ha,wa,G,pa,ps,hf,wf,rfl,EG,hO,c8,mh,vy,Sj,hpr,aaZ,Sl,Dx,uh,q⟩:=h;obtain⟨⟨dx,hx⟩,hG,hC⟩:=id hO;obtain⟨g0,gv,rfl,jl,n9,ll⟩:=dk hG;have Dv:=c8.1;have sM:aU (mn H ha wa) H:=iz;have m8:ps.length<=63:=bF (a0O Sj hpr) Dv;have rank:∀ z∈ps,∃ t row wr,oB gv z=O (.ref t)/\mn H ha wa t=O (.tup [.int row.1,.int row.2.1,.ref wr])/\rk G z=row.2.1/\G[z.toNat]?=O row:=λz hz=>by
  obtain⟨z0,z1⟩:=hpr z hz;obtain⟨row,iL⟩:∃ row,G[z.toNat]?=O row:=⟨G[z.toNat]'(by omega),by simp⟩
  obtain⟨t,wr,p1,p2,p3⟩:=ll z.toNat row iL;exact⟨t,row,wr,fi z0 p1,p2,vT iL,iL⟩
 refine⟨_,(ak (dE (ji (rK (pv 1) (by intro _;rfl)))
   (aA (bU (gt (aa aD (aa (eY am) (aa (eY am) am))))))
   cv)
   (ak (bz (i:=2) sc.nd Z (uy Z) (bP (sS Z) Z T.Ka nR (aa (lS (aC fb) ["self","part","top","hand","pieces","left","tops","aside","others","lost","layers"] ["place","self"] 1 [0] (cV (pv 1)) (λ_ _ _ _ _ _=>(d0 (show cM (["place","self"]:List aE) by trivial) Z Z)) (λ_ _ _ _ _ _=>gm) (λ_ _ _ _ _ _=>(be (m9 (K:=K) Z) (be (iy (K:=K) Z) (bV (K:=K) Z (pv 1) Z) (pv 0) (λ_ _=>rfl)) aD (λ_ _=>rfl)))) am)))
   (ak (bz (i:=3) sc.nd Z (uy Z) (bA dG (pv 2) aD))
   (ak (bz (i:=4) sc.nd Z (aY Z) (eY am))
   (ak (bz (i:=5) sc.nd Z (aY Z) (pv 1))
   (ak (vR bB (fM ln)
   (ak (rJ (i:=6) (aC fb) ["self","part","top","hand","pieces","left","tops","aside","others","lost","layers"] ["place","self","top"] 1 [0,2] sc.nd Z Z (cV (pv 5)) (λ_ _ _ _ _ _=>(d0 (show cM (["place","self","top"]:List aE) by trivial) Z Z)) (λ_ _ _ _ _ _=>(mH (cA lR (be (m9 (K:=K) Z) (be (iy (K:=K) Z) (bV (K:=K) Z (pv 1) Z) (pv 0) (λ_ _=>rfl)) aD (λ_ _=>rfl)) (pv 2) (de _)))) (λ_ _ _ _ _ _=>(pv 0)))
   (ak (bz (i:=7) sc.nd Z (aY Z) (gP aK.cl kA hr (pv 0) (aa (pv 3) (aa (pv 6) (aa (pv 5) am))) (hk:=by omega)))
   (ak (bz (i:=8) sc.nd Z (aY Z) (gP aK.cl iq hr (pv 0) (aa (pv 5) (aa (b9 mw hr (aa (pv 7) am) (hk:=by omega)) am)) (hk:=by omega)))
   (ak (cL (gP aK.cl nU hr (pv 0) (aa (pv 8) am) (hk:=by omega)))
   (ak (rJ (i:=9) (aC fb) ["self","part","top","hand","pieces","left","tops","aside","others","lost","layers"] ["place","self","hand"] 1 [0,3] sc.nd Z Z (cV (pv 8)) (λ_ _ _ _ _ _=>(d0 (show cM (["place","self","hand"]:List aE) by trivial) Z Z)) (λ_ _ _ _ _ _=>(mH (cA o5 (be (iy (K:=K) Z) (bV (K:=K) Z (pv 1) Z) (pv 0) (λ_ _=>rfl)) (pv 2) (de _)))) (λ_ _ _ _ _ _=>(pv 0)))
   (ak (dE (ji (rK (pv 9) (by intro _;rfl)))
   (aA LJ)
   cv)
   (ak (bz (i:=10) sc.nd Z (aY Z) (gP aK.cl kA hr (pv 0) (aa (bA zM aD (pv 3)) (aa (pv 9) (aa (pv 5) am))) (hk:=by omega)))
   (ak (cL (gP aK.cl kz hr (pv 0) (aa (bA zM aD (pv 3)) (aa (pv 10) am)) (hk:=by omega)))
   (ak (cL (ge ba bR bS fw (pv 4) (aa (b9 mw hr (aa (pv 10) am) (hk:=by omega)) am)))
   (aA (bz (i:=5) sc.nd Z (aY Z) (gP aK.cl iq hr (pv 0) (aa (pv 5) (aa (be (iy (K:=K) Z) (pv 4) (Gh AG aD) (λ_ _=>rfl)) am)) (hk:=by omega))))))))))))))
   (ak (cL (gP aK.cl ja hr (pv 0) (aa (pv 3) (aa (pv 6) (aa (pv 5) am))) (hk:=by omega)))
   (ak (cL (gP aK.cl kz hr (pv 0) (aa (pv 3) (aa (pv 7) am)) (hk:=by omega)))
   (aA (bU (gt (aa (pv 3) (aa (pv 4) (aa (pv 5) am)))))))))))))),?_⟩
 refine eL λE1 q1=>?_;refine⟨_,Z,_,.inl ⟨_,bI.of (sM _ _ vy),Z⟩,?_⟩;refine gN (λc=>?_) (λc=>?_)
 .have Us:ps=[]:=by cases ps with
   |nil=>rfl
   |cons _ _=>cases c
  subst q1;refine⟨bq _,λl1 Ii=>⟨bq _,λl2 wX=>⟨(by show 3<=az;decide),λt ht=>?_⟩⟩⟩;have sA:=(av Ii (.lst [])).trans ((av wX (.lst [])).trans (av ht (.tup [V.int 0,.ref l1,.ref l2])));refine q _ _ hf wf (sM.trans sA) (sA _ _ Dx) (sA _ _ uh) ⟨λp hp=>?_,λh _=>uA.empty λp hp=>?_⟩ λp _=>⟨Z,Z⟩
  .rw[Us] at hp;cases hp
  .have:=hp.1;rw[Us] at this;cases this
 have abP:ps≠[]:=λz=>c (by rw[z];rfl);refine eM q1 ?_;refine eL λE2 q2=>?_;refine⟨_,Z,pa,Z,⟨_,bI.of (sM _ _ vy)⟩,cW (K:=K) (a:=pa) (xs:=ps.map V.int) (λk ys H3=>H3=H/\ys=((ps.take k).map (rk G)).map V.int) ⟨Z,Z⟩ (a0a (m:=1000) (by rw[ab];omega)) (λk ys H3 hk h=>?_) (λk y ys H3 hk h=>?_) (λys H3 h ka JD=>?_)⟩
 .obtain⟨rfl,rfl⟩:=h;exact⟨bI.of (sM _ _ vy),by rw[ab,ab];simp;omega⟩
 .obtain⟨rfl,rfl⟩:=h;obtain⟨z,hz,rfl⟩:=dR hk;obtain⟨t,row,wr,p1,p2,p3,_⟩:=rank z (ag hz);refine gq ?_;refine⟨_,Z,x,C,dx,_,_,Z,sM _ _ hx,aK.cl,aK.na _ (by trivial),kM _ _ _ _,_,Z,g0,_,_,_,Z,Z,bI.of (sM _ _ jl),p1,t,_,_,_,Z,Z,gA.of (sM _ _ p2),bb (j:=1) Z,Z,?_⟩;rw[aM,hz,aB,aB];show _=_++[V.int (rk G z)];rw[p3]
 obtain⟨rfl,rfl⟩:=h;rw[ab,aR];refine⟨ka,_,Z,bI.of ao,λz=>abP (JX.mp z),λtop hM B2=>?_⟩;have hmx:∀ p∈ps,rk G p<=top:=λp hp=>B2 _ (bE.mpr ⟨p,hp,Z⟩);obtain⟨Xv,QA,Wy⟩:=bE.mp hM;have sk:=av JD (.lst ((ps.map (rk G)).map V.int));have RX:=sk _ _ Dx;have Sy:=sk _ _ uh;have sM1:=sM.trans sk;generalize upd H3 ka (.lst ((ps.map (rk G)).map V.int))=H1 at sk RX Sy sM1 ⊢;refine eM q2 ?_;refine eL λE3 q3=>?_;refine⟨_,Z,_,_,Z,Z,(show(0:Int)<2 by decide),?_⟩;have KA:top % 2=0\/top % 2=1:=by
  have:=cj top (show(2:Int)≠0 by decide);have:=bN top (show(0:Int)<2 by decide);omega
 obtain⟨hand,hhd⟩:∃ hand,top % 2=hand:=⟨_,Z⟩
 rw[hhd] at KA;refine eM q3 ?_;refine eL λE4 q4=>?_;refine⟨bq _,λpc Ze=>?_⟩;have s2:=av Ze (.lst []);have Wn:upd H1 pc (.lst []) pc=O (.lst []):=ao;have VN:=s2 _ _ RX;have WM:=s2 _ _ Sy;have K6:pc≠ha:=eK RX Ze;have K7:pc≠wa:=eK Sy Ze;have Wo:mn H3 ha wa pc=Y:=by rw[mG K6 K7];exact sk.free Ze
 have sM2:=sM1.trans s2;generalize upd H1 pc (.lst [])=H2 at s2 Wn VN WM sM2 ⊢;refine eM q4 ?_;refine eL λE5 q5=>?_;refine⟨_,Z,?_⟩;obtain⟨acD,acE⟩:=F8 vy;have acF:pa≠pc:=λz=>by rw[z,Wo] at vy;cases vy
 refine eM q5 ?_;refine eL λE6 q6=>?_;refine⟨Rb x pa pc ha wa top hand G ps hf wf H3,
  ⟨_,pa,ps,hf,wf,[],Y,Y,Y,Y,Y,(by rw[← hhd];rfl),sM2,VN,WM,Wn,by simp,sM2 _ _ vy,acD,acE,acF,Sj,λp hp=>hp,aaZ,λp _ _ w _ hw=>hw,λp h1 h2=>(h2 h1).elim,uA.empty λp hp=>hp.2 hp.1,λp _=>⟨Z,Z⟩,Z⟩,?_⟩
 rintro m J Hx ⟨la,ls,JC,wf',pv,y1,y2,y3,y4,y5,rfl,sx,hxh,hxw,hxp,hpv,Uy,Xb,Xd,nlp,V4,uf,Y8,tQ,hDh,hDW,Wa,rfl⟩;have NX:ls.length<=63:=by omega
 have Ij:∀ z∈ls,0<=z/\z<G.length:=λz hz=>hpr z (uf z hz);refine⟨true,Z,?_⟩;refine KS ?_;refine⟨λσ' H'=>∃ m',m'<ls.length/\Rb x pa pc ha wa top hand G ps hf wf H3 m' σ' H',?_,?_⟩
 .exact λσ' H' h=>h
 refine eL λE7 q7=>?_;refine⟨_,Z,la,Z,⟨_,bI.of Uy⟩,cW (K:=K) (a:=la) (xs:=ls.map V.int) (λk ys H4=>H4=Hx/\ys=((ls.take k).filter λz=>decide (rk G z=top)).map V.int) ⟨Z,Z⟩ (a0a (m:=1000) (by rw[ab];omega)) (λk ys H4 hk h=>?_) (λk y ys H4 hk h=>?_) (λys H4 h ta Uw=>?_)⟩
 .obtain⟨rfl,rfl⟩:=h;exact⟨bI.of Uy,by rw[ab];exact bF (cC _ _) (by simp;omega)⟩
 .obtain⟨rfl,rfl⟩:=h;obtain⟨z,hz,rfl⟩:=dR hk;obtain⟨t,row,wr,p1,p2,p3,_⟩:=rank z (uf z (ag hz));refine⟨_,Z,x,C,dx,_,_,Z,sx _ _ hx,aK.cl,aK.na _ (by trivial),kM _ _ _ _,_,Z,g0,_,_,_,Z,Z,bI.of (sx _ _ jl),p1,t,_,_,_,Z,Z,gA.of (sx _ _ p2),bb (j:=1) Z,_,Z,Z,_,Z,?_⟩;have eb:decide (V.int row.2.1=V.int top)=decide (rk G z=top):=by
   rw[p3,em,decide_eq_true_eq,decide_eq_true_eq];exact⟨λe=>by injection e,λe=>by rw[e]⟩
  rw[eb];refine gN (λc4=>?_) (λc4=>?_)
  .refine⟨_,Z,Z,?_⟩;rw[aM,hz,cD,aB];show _=_++(gh (λz=>decide (rk G z=top)) [z]).map V.int;rw[bw (p:=λz=>decide (rk G z=top)) c4];rfl
  .refine⟨Z,?_⟩;rw[aM,hz,cD,aB];show _=_++(gh (λz=>decide (rk G z=top)) [z]).map V.int;rw[bJ (p:=λz=>decide (rk G z=top)) c4];simp
 obtain⟨rfl,rfl⟩:=h;rw[ab,aR];obtain⟨ts,Zk⟩:∃ ts,ts=ls.filter λz=>decide (rk G z=top):=⟨_,Z⟩
 rw[← Zk];have wg:∀ z,z∈ts↔z∈ls/\rk G z=top:=λz=>by rw[Zk,bt,decide_eq_true_eq]
 have s4:=av Uw (.lst (ts.map V.int));have Sq:upd H4 ta (.lst (ts.map V.int)) ta=O (.lst (ts.map V.int)):=ao;have nth:ta≠ha:=eK hxh Uw;have ntw:ta≠wa:=eK hxw Uw;have ZL:=sx.trans s4;have Qt:=s4 _ _ hxh;have QD:=s4 _ _ hxw;have VY:=s4 _ _ Uy;have Wb:=s4 _ _ hxp;generalize upd H4 ta (.lst (ts.map V.int))=H5 at s4 Sq ZL Qt QD VY Wb ⊢;refine eM q7 ?_;refine eL λE8 q8=>?_;refine⟨_,Z,x,dx,_,Z,ZL _ _ hx,n8 _ _ _ _ (by trivial) (by trivial) (by trivial) (by trivial),_,Z,_,Z,_,Z,x,_,r,as,ha,wa,G,hand,ta,la,ts,ls,Z,hO.up ZL,c8,Sq,VY,λva H6 s6 hva=>?_⟩;have FS:=qJ (G:=G) (hand:=hand) (ins:=λx=>decide (x∈ls)) (want:=λx=>decide (x∈ts));have Qi:=KW (G:=G) (hand:=hand) (ins:=λx=>decide (x∈ls)) (want:=λx=>decide (x∈ts)) Dv;generalize ki G hand (λx=>decide (x∈ls)) (λx=>decide (x∈ts))=RA at hva FS Qi;have WJ:iV (iV lT) (mn H6 ha wa) RA (.ref va):=(dv (dv fS)).up (Ga Qt QD) hva;have sx6:=ZL.trans s6;have hh6:=s6 _ _ Qt;have hw6:=s6 _ _ QD;have hl6:=s6 _ _ VY;have hp6:=s6 _ _ Wb;have aaV:RA.flatten.length<=63:=by
  have:=FS.li.len;rw[xE] at this;omega
 refine eM q8 ?_;refine eL λE9 q9=>?_;refine⟨_,Z,x,dx,_,Z,sx6 _ _ hx,n8 _ _ _ _ (by trivial) (by trivial) (by trivial) (by trivial),_,Z,_,Z,_,RA,Z,(dv (dv fS)).up iz WJ,aaV,FS.nd,λna SW H7 s7 _ Sb ahP qg Ep=>?_⟩;have sx7:=sx6.trans s7;have hh7:=s7 _ _ hh6;have hw7:=s7 _ _ hw6;have VZ:=s7 _ _ hl6;have hp7:=s7 _ _ hp6;refine⟨x,_,r,as,ha,wa,G,la,na,ls,SW,Z,hO.up sx7,c8,VZ,Sb,Ij,NX,λoa H8 s8 Sc Qy=>?_⟩;obtain⟨os,Zc⟩:∃ os,os=ls.filter λz=>!decide (z∈SW):=⟨_,Z⟩
 rw[← Zc] at Qy;have sx8:=sx7.trans s8;have hh8:=s8 _ _ hh7;have hw8:=s8 _ _ hw7;have hl8:=s8 _ _ VZ;have hp8:=s8 _ _ hp7;have noh:oa≠ha:=eK hh7 Sc;have now:oa≠wa:=eK hw7 Sc;have nop:oa≠pc:=eK hp7 Sc;have o4:∀ p,p∈os↔p∈ls/\∀ k,¬ lv RA k p:=λp=>by
  rw[Zc,bt];have:(!decide (p∈SW))=true↔∀ k,¬ lv RA k p:=by
   rw[nT,decide_eq_false_iff_not,qg,rD];exact⟨λz k hk=>z ⟨k,hk⟩,λz ⟨k,hk⟩=>z k hk⟩
  rw[this]
 obtain⟨acJ,Xo⟩:=Ge FS Ij Y8 o4;have W2:∀ p,lv RA 0 p↔p∈ls/\rk G p=top:=λp=>by
  constructor
  .intro h;have:=(FS.zero (FS.rg h)).mp h;exact(wg p).mp (of_decide_eq_true this.2)
  .intro h;exact(FS.zero (Ij p h.1)).mpr ⟨decide_eq_true h.1,decide_eq_true ((wg p).mpr h)⟩
 have ork:∀ z∈os,0<=rk G z/\rk G z<top:=λz hz=>by
  obtain⟨a,b⟩:=(o4 z).mp hz;have h1:=hmx z (uf z a);refine⟨(Sl z (uf z a)).1,?_⟩;rcases Nm h1 with h | h
  .exact h
  .exact(b 0 ((W2 z).mpr ⟨a,h⟩)).elim
 refine eM q9 ?_;refine eL λE10 q10=>?_;refine⟨_,Z,x,dx,_,Z,sx8 _ _ hx,n8 _ _ _ _ (by trivial) (by trivial) (by trivial) (by trivial),_,Z,?_⟩;obtain⟨n',rfl⟩:∃ n',n=n'+1:=⟨n-1,by
  have h1:=Sl Xv QA;omega⟩
 have htn:top<((n'+1:Nat):Int):=by rw[← Wy];exact(Sl Xv QA).2
 refine⟨x,_,r,as,ha,wa,G,oa,os,JC,wf',Z,EG,hO.up (oZ sx8),c8,mh,lP Qy noh now,by rw[Zc];exact V4.filter _,λz hz=>Ij z ((o4 z).mp hz).1,acJ,λz hz=>⟨(ork z hz).1,by have:=(ork z hz).2;omega⟩,hh8,hw8,λu H9 qS yB s9 hh9 WL lC sW=>?_⟩;have sx9:aU (mn H3 ha wa) H9:=(oZ sx8).trans s9;have hl9:=s9 _ _ (lP hl8 Xb Xd);have hp9:=s9 _ _ (by rw[mG K6 K7];exact hp8);have ho9:=s9 _ _ (lP Qy noh now);have ab3:H9 ta=O (.lst (ts.map V.int)):=s9 _ _ (lP ((s6.trans (s7.trans s8)) _ _ Sq) nth ntw);have ab7:iV (iV lT) (mn H9 ha wa) RA (.ref va):=(dv (dv fS)).up ((jL (s7.trans s8)).trans (oZ s9)) WJ;refine eM q10 ?_;refine eL λE11 q11=>?_;refine⟨_,Z,oa,Z,⟨_,bI.of ho9⟩,cW (K:=K) (a:=oa) (xs:=os.map V.int) (λk ys HA=>HA=H9/\ys=((os.take k).filter λz=>!decide (V.int (qS z)=V.int hand)).map V.int) ⟨Z,Z⟩ (a0a (m:=1000) (by
   have:os.length<=ls.length:=by rw[Zc];exact cC _ _
   rw[ab];omega)) (λk ys HA hk h=>?_) (λk y ys HA hk h=>?_) (λys HA h lo Y9=>?_)⟩
 .obtain⟨rfl,rfl⟩:=h;rw[ab] at hk;exact⟨bI.of ho9,by rw[ab];exact bF (cC _ _) (by simp;omega)⟩
 .obtain⟨rfl,rfl⟩:=h;obtain⟨z,hz,rfl⟩:=dR hk;obtain⟨z0,z1⟩:=Ij z ((o4 z).mp (ag hz)).1;refine⟨_,Z,x,C,dx,_,_,Z,sx9 _ _ hx,aK.cl,aK.na _ (by trivial),pq _ _ _ _,_,Z,ha,_,_,_,Z,Z,bI.of hh9,fi z0 (by rw[au,rq z0 z1];rfl),_,Z,Z,_,Z,?_⟩;refine gN (λc4=>?_) (λc4=>?_)
  .refine⟨_,Z,Z,?_⟩;rw[aM,hz,cD,aB];show _=_++(gh (λz=>!decide (V.int (qS z)=V.int hand)) [z]).map V.int;rw[bw (p:=λz=>!decide (V.int (qS z)=V.int hand)) c4];rfl
  .refine⟨Z,?_⟩;rw[aM,hz,cD,aB];show _=_++(gh (λz=>!decide (V.int (qS z)=V.int hand)) [z]).map V.int;rw[bJ (p:=λz=>!decide (V.int (qS z)=V.int hand)) c4];simp
 obtain⟨rfl,rfl⟩:=h;rw[ab,aR];obtain⟨wx,V3⟩:∃ wx,wx=os.filter λz=>!decide (V.int (qS z)=V.int hand):=⟨_,Z⟩
 rw[← V3];have vG:∀ z,z∈wx↔z∈os/\qS z=1-hand:=λz=>by
  rw[V3,bt,nT,decide_eq_false_iff_not];constructor
  .rintro⟨a,b⟩;refine⟨a,?_⟩;have:¬ qS z=hand:=λe=>b (by rw[e]);rcases lC.mh z a with h | h <;> omega
  .rintro⟨a,b⟩;exact⟨a,λe=>by injection e with e;omega⟩
 have sA:=av Y9 (.lst (wx.map V.int));have R8:upd HA lo (.lst (wx.map V.int)) lo=O (.lst (wx.map V.int)):=ao;have aiM:lo≠ha:=eK hh9 Y9;have aiN:lo≠wa:=eK WL Y9;have TH:=sx9.trans sA;have Y2:=sA _ _ hh9;have Zo:=sA _ _ WL;have Y7:=sA _ _ hl9;have hpA:=sA _ _ hp9;have WF:=sA _ _ ab3;have WI:iV (iV lT) (mn (upd HA lo (.lst (wx.map V.int))) ha wa) RA (.ref va):=(dv (dv fS)).up (jL sA) ab7;generalize upd HA lo (.lst (wx.map V.int))=HB at sA R8 TH Y2 Zo Y7 hpA WF WI ⊢;have Vm:1-hand=0\/1-hand=1:=by omega
 refine eM q11 ?_;refine eL λE12 q12=>?_;refine⟨_,Z,_,.inl ⟨_,bI.of R8,Z⟩,?_⟩;refine gN (λc=>?_) (λc=>?_)
 .-- nothing is lost: ajB is left is JK aa1
  have V1:wx=[]:=by cases wx with
   |nil=>rfl
   |cons _ _=>cases c
  have Xg:∀ p∈os,qS p=hand:=λp hp=>by
   rcases lC.mh p hp with h | h
   .by_cases e:qS p=hand
    .exact e
    .have:p∈wx:=(vG p).mpr ⟨hp,by omega⟩;rw[V1] at this;cases this
   .by_cases e:qS p=hand
    .exact e
    .have:p∈wx:=(vG p).mpr ⟨hp,by omega⟩;rw[V1] at this;cases this
  subst q12;refine eM q6 ?_;refine eL λE13 q13=>?_;refine⟨_,Z,x,dx,_,Z,TH _ _ hx,n8 _ _ _ _ (by trivial) (by trivial) (by trivial) (by trivial),_,Z,_,Z,_,Z,x,_,r,as,ha,wa,G,hand,ta,la,ts,ls,qS,yB,Z,EG,hO.up (oZ TH),c8,lP WF nth ntw,lP Y7 Xb Xd,λz hz=>⟨Ij z ((wg z).mp hz).1,((wg z).mp hz).1,Y8 z ((wg z).mp hz).1⟩,Y2,Zo,λHC sC hhC hwC=>?_⟩;have TJ:aU (mn H3 ha wa) HC:=(oZ TH).trans sC;have ab8:iV (iV lT) (mn HC ha wa) RA (.ref va):=(dv (dv fS)).up (oZ sC) WI;refine eM q13 ?_;refine eL λE14 q14=>?_;refine⟨_,Z,x,dx,_,Z,TJ _ _ hx,n8 _ _ _ _ (by trivial) (by trivial) (by trivial) (by trivial),_,Z,_,Z,x,_,r,as,ha,wa,G,hand,.ref va,_,_,RA,_,_,Z,EG,hO.up (oZ TJ),c8,ab8,FS,Qi,hhC,hwC,λX HD sD hhD hwD hX=>?_⟩;have sxD:aU (mn H3 ha wa) HD:=(oZ TJ).trans sD;have hpC:=sC _ _ (by rw[mG K6 K7];exact hpA);refine eM q14 ?_;refine⟨_,Z,_,Z,_,Z,(by show 3<=az;decide),λtt htt=>?_⟩;have sE:=av htt (.tup [V.int hand,.ref pc,.ref la]);have inl:∀{k p},lv RA k p->p∈ls:=λh=>of_decide_eq_true (FS.Iw h);have QX:∀ p,p∈tl RA->p∈ls:=λp hp=>by obtain⟨k,hk⟩:=mW.mp hp;exact inl hk
  have dh:∀ p∈ps,p ∉ ls->(if p∈tl RA then hand else if p∈ts then hand else qS p)=1-hand:=λp h1 h2=>by
   rw[if_neg (λz=>h2 (QX p z)),if_neg (λz=>h2 ((wg p).mp z).1),(sW p (λz=>h2 ((o4 p).mp z).1)).1];exact hDh p h1 h2
  have dw:∀ p,p ∉ ls->(if p∈tl RA then X p else if p∈ts then x9 G hand ls p else yB p)=wf' p:=λp h2=>by
   rw[if_neg (λz=>h2 (QX p z)),if_neg (λz=>h2 ((wg p).mp z).1),(sW p (λz=>h2 ((o4 p).mp z).1)).2]
  have lh:∀ p∈ls,(if p∈tl RA then hand else if p∈ts then hand else qS p)=hand:=λp hp=>by
   by_cases c1:p∈tl RA
   .rw[if_pos c1]
   .rw[if_neg c1]
    by_cases c2:p∈ts
    .rw[if_pos c2]
    .rw[if_neg c2];refine Xg p ((o4 p).mpr ⟨hp,λk hk=>?_⟩);cases k with
     |zero=>exact c2 ((wg p).mpr ((W2 p).mp hk))
     |succ k=>exact c1 (mW.mpr ⟨k,hk⟩)
  have ZR:∀{p},lv RA 0 p->p ∉ tl RA:=λ{p} h z=>by
   obtain⟨k,hk⟩:=mW.mp z;have:=mT FS.nd h hk;omega
  have wS:∀ p k,lv RA (k+1) p->(if p∈tl RA then X p else if p∈ts then x9 G hand ls p else yB p)=X p:=λp k h=>if_pos (mW.mpr ⟨k,h⟩);have w0:∀ p,lv RA 0 p->(if p∈tl RA then X p else if p∈ts then x9 G hand ls p else yB p)=x9 G hand ls p:=λp h=>by
   rw[if_neg (ZR h),if_pos ((wg p).mpr ((W2 p).mp h))]
  have wo:∀ p∈os,(if p∈tl RA then X p else if p∈ts then x9 G hand ls p else yB p)=yB p:=λp hp=>by
   obtain⟨_,b⟩:=(o4 p).mp hp;rw[if_neg (λz=>by obtain⟨k,hk⟩:=mW.mp z;exact b _ hk),if_neg (λz=>b 0 ((W2 p).mpr ((wg p).mp z)))]
  have abd:uA G (·∈ps) (λp=>if p∈tl RA then X p else if p∈ts then x9 G hand ls p else yB p) hand (·∈ls):=by
   refine uA.final (oth:=os) (wf0:=yB) (top:=top) FS uf (λp hp ho w hw hP=>tQ p hp ?_ w hw hP) (λp hp=>hmx p (uf p hp)) hhd W2 o4 ?_ (λp h ho=>?_) (λp h ho=>?_) wo (λp k h ho=>?_) (λp k h ho=>?_)
   .rcases RT mh (Ij p hp) with z | z <;> rcases KA with z' | z' <;> omega
   .exact(lC.QZ hand KA).congr (λp _=>rfl) λp=>⟨λz=>z.1,λz=>⟨z,Xg p z⟩⟩
   .obtain⟨a,b,c9⟩:=Y8 p (inl h);obtain⟨v9,_,k2,k3,k4⟩:=F4 (inl h) ho ⟨a,b,c9⟩;exact⟨v9,by rw[w0 p h];exact k2,k3,k4⟩
   .show(if p∈tl RA then X p else if p∈ts then x9 G hand ls p else yB p)=Y;rw[w0 p h];exact a0D λz=>ho z.2
   .obtain⟨v9,k1,k2,k3⟩:=FS.pick h ho;obtain⟨z0,z1⟩:=FS.rg h;exact⟨v9,by rw[wS p k h,(hX p z0 z1).1 k ⟨h,ho⟩];exact k1,k2,k3⟩
   .obtain⟨z0,z1⟩:=FS.rg h;show(if p∈tl RA then X p else if p∈ts then x9 G hand ls p else yB p)=Y;rw[wS p k h];exact(hX p z0 z1).2 λk z=>ho z.2
  subst q1 q2 q3 q4 q5;refine q _ _ _ _ (sxD.trans sE) (sE _ _ hhD) (sE _ _ hwD) ⟨λp hp=>?_,λh hh=>?_⟩ λp hp=>?_
  .by_cases c1:p∈ls
   .show(if p∈tl RA then hand else if p∈ts then hand else qS p)=0\/_;rw[lh p c1];exact KA
   .show(if p∈tl RA then hand else if p∈ts then hand else qS p)=0\/_;rw[dh p hp c1];exact Vm
  .by_cases c1:h=hand
   .subst c1;refine abd.congr (λp _=>rfl) λp=>⟨λz=>⟨uf p z,lh p z⟩,λz=>?_⟩
    by_cases c2:p∈ls
    .exact c2
    .have:=dh p z.1 c2;have:=z.2;omega
   .have c2:h=1-hand:=by omega
    subst c2;refine hDW.congr (λp hp=>(dw p hp.2).symm) λp=>⟨λz=>⟨z.1,dh p z.1 z.2⟩,λz=>⟨z.1,λy=>?_⟩⟩
    have:=lh p y;have:=z.2;omega
  .have h2:p ∉ ls:=λz=>hp (uf p z);obtain⟨k1,k2⟩:=Wa p hp;refine⟨?_,by rw[← k2];exact dw p h2⟩;show(if p∈tl RA then hand else if p∈ts then hand else qS p)=hf p;rw[if_neg (λz=>h2 (QX p z)),if_neg (λz=>h2 ((wg p).mp z).1),(sW p (λz=>h2 ((o4 p).mp z).1)).1];exact k1
 have V2:wx≠[]:=λz=>c (by rw[z];rfl);refine eM q12 ?_;refine eL λE15 q15=>?_;refine⟨_,Z,x,dx,_,Z,TH _ _ hx,n8 _ _ _ _ (by trivial) (by trivial) (by trivial) (by trivial),_,Z,_,_,Z,Z,_,Z,_,Z,x,_,r,as,ha,wa,G,1-hand,lo,la,wx,ls,Z,hO.up TH,c8,R8,Y7,λvb HC sC JH=>?_⟩;have FT:=qJ (G:=G) (hand:=1-hand) (ins:=λx=>decide (x∈ls)) (want:=λx=>decide (x∈wx));have Qj:=KW (G:=G) (hand:=1-hand) (ins:=λx=>decide (x∈ls)) (want:=λx=>decide (x∈wx)) Dv;generalize ki G (1-hand) (λx=>decide (x∈ls)) (λx=>decide (x∈wx))=RB at JH FT Qj;have WK:iV (iV lT) (mn HC ha wa) RB (.ref vb):=(dv (dv fS)).up (Ga Y2 Zo) JH;have TJ:=TH.trans sC;have hhC:=sC _ _ Y2;have hwC:=sC _ _ Zo;have hlC:=sC _ _ Y7;have hpC:=sC _ _ hpA;refine eM q15 ?_;refine eL λE16 q16=>?_;refine⟨_,Z,x,dx,_,Z,TJ _ _ hx,n8 _ _ _ _ (by trivial) (by trivial) (by trivial) (by trivial),_,Z,_,_,Z,Z,_,Z,x,_,r,as,ha,wa,G,1-hand,.ref vb,_,_,RB,qS,yB,Z,EG,hO.up (oZ TJ),c8,WK,FT,Qj,hhC,hwC,λX HD sD hhD hwD hX=>?_⟩;have sxD:aU (mn H3 ha wa) HD:=(oZ TJ).trans sD;have hlD:=sD _ _ (lP hlC Xb Xd);have hpD:=sD _ _ (by rw[mG K6 K7];exact hpC);have ab9:iV (iV lT) HD RB (.ref vb):=(dv (dv fS)).up sD WK;have aaW:RB.flatten.length<=63:=by
  have:=FT.li.len;rw[xE] at this;omega
 refine eM q16 ?_;refine eL λE17 q17=>?_;refine⟨_,Z,.inl ⟨Z,_,bI.of hpD⟩,_,Z,_,RB,Z,ab9,aaW,FT.nd,λnb Zs HE sE abC hnb ahb hbm YW=>?_⟩;have hpE:=sE _ _ hpD;refine⟨pc,_,_,Z,Z,hpE,o9 (m:=1000) (by omega),?_⟩;have ZM:aU (mn H3 ha wa) (upd HE pc (.lst (pv++[V.ref nb]))):=(sxD.trans sE).put Wo _;have hhF:upd HE pc (.lst (pv++[V.ref nb])) ha=O (.lst ((im G.length λp=>if p∈tl RB then 1-hand else qS p).map V.int)):=by rw[bh (cg K6)];exact sE _ _ hhD
 have hwF:upd HE pc (.lst (pv++[V.ref nb])) wa=O (.lst (om G.length λp=>if p∈tl RB then X p else yB p)):=by rw[bh (cg K7)];exact sE _ _ hwD
 have hlF:upd HE pc (.lst (pv++[V.ref nb])) la=O (.lst (ls.map V.int)):=by rw[bh nlp];exact sE _ _ hlD
 have nnp:nb≠pc:=eK hpD abC;have hnF:upd HE pc (.lst (pv++[V.ref nb])) nb=O (.lst (Zs.map V.int)):=by rw[bh nnp];exact hnb
 have Zd:upd HE pc (.lst (pv++[V.ref nb])) pc=O (.lst (pv++[V.ref nb])):=ao;generalize upd HE pc (.lst (pv++[V.ref nb]))=HF at ZM hhF hwF hlF hnF Zd ⊢;refine eM q17 ?_;refine⟨_,Z,x,dx,_,Z,ZM _ _ hx,n8 _ _ _ _ (by trivial) (by trivial) (by trivial) (by trivial),_,Z,_,Z,1,Z,pc,_,_,_,Z,Z,bI.of Zd,vg _ _,x,_,r,as,ha,wa,G,la,nb,ls,Zs,Z,hO.up ZM,c8,hlF,hnF,Ij,NX,λlb HG sG R7 hlb=>?_⟩;obtain⟨QF,Il⟩:∃ QF,QF=ls.filter λz=>!decide (z∈Zs):=⟨_,Z⟩
 rw[← Il] at hlb;have Ez:∀ p,p∈QF↔p∈ls/\∀ k,¬ lv RB k p:=λp=>by
  rw[Il,bt];have:(!decide (p∈Zs))=true↔∀ k,¬ lv RB k p:=by
   rw[nT,decide_eq_false_iff_not,hbm,rD];exact⟨λz k hk=>z ⟨k,hk⟩,λz ⟨k,hk⟩=>z k hk⟩
  rw[this]
 obtain⟨acw,WZ⟩:=Ge FT Ij Y8 Ez;have inl:∀{k p},lv RB k p->p∈ls:=λh=>of_decide_eq_true (FT.Iw h);have lb0:∀ p,lv RB 0 p↔p∈wx:=λp=>by
  constructor
  .intro h;exact of_decide_eq_true ((FT.zero (FT.rg h)).mp h).2
  .intro h;have hl:=((o4 p).mp ((vG p).mp h).1).1;exact(FT.zero (Ij p hl)).mpr ⟨decide_eq_true hl,decide_eq_true h⟩
 have QX:∀ p,p∈tl RB->p∈ls:=λp hp=>by obtain⟨k,hk⟩:=mW.mp hp;exact inl hk
 have ZR:∀{p},lv RB 0 p->p ∉ tl RB:=λ{p} h z=>by
  obtain⟨k,hk⟩:=mW.mp z;have:=mT FT.nd h hk;omega
 have gz:QF.length<ls.length:=by
  cases e:wx with
  |nil=>exact absurd e V2
  |cons z zs =>
   have hz:z∈wx:=by rw[e];exact aL ..
   have Iv:=((o4 z).mp ((vG z).mp hz).1).1;refine Nat.lt_of_le_of_ne (by rw[Il];exact cC _ _) λhe=>?_;rw[Il,List.length_filter_eq_length_iff] at he;have h1:z∈QF:=by rw[Il];exact bt.mpr ⟨Iv,he z Iv⟩
   exact((Ez z).mp h1).2 0 ((lb0 z).mpr hz)
 have acg:=(lC.QZ (1-hand) Vm).congr (wf':=yB) (D':=(·∈wx)) (λp _=>rfl) λp=>⟨λz=>(vG p).mpr z,λz=>(vG p).mp z⟩
 have dn:∀ p,(p∈ps/\p ∉ QF)↔((p∈ps/\p ∉ ls)\/∃ k,lv RB k p):=λp=>by
  constructor
  .rintro⟨a,b⟩
   by_cases c1:p∈ls
   .refine .inr (bX λz=>b ((Ez p).mpr ⟨c1,λk hk=>z ⟨k,hk⟩⟩))
   .exact .inl ⟨a,c1⟩
  .rintro (⟨a,b⟩ | ⟨k,hk⟩)
   .exact⟨a,λz=>b ((Ez p).mp z).1⟩
   .exact⟨uf p (inl hk),λz=>((Ez p).mp z).2 k hk⟩
 have hP:∀ p,p∈ps↔(p∈ps/\p ∉ ls)\/p∈ls:=λp=>by
  constructor
  .intro h
   by_cases c1:p∈ls
   .exact .inr c1
   .exact .inl ⟨h,c1⟩
  .rintro (h | h)
   .exact h.1
   .exact uf p h
 have Sg:uA G (·∈ps) (λp=>if p∈tl RB then X p else yB p) (1-hand) (λp=>(p∈ps/\p ∉ ls)\/∃ k,lv RB k p):=by
  refine uA.Xs (oth:=os) (wf:=wf') (wf0:=yB) (lost:=(·∈wx)) FT hP (λp hp=>hp.2) hDW acg (λp hp=>((o4 p).mp hp).1) (λp hp ho w hw hl=>Xo p hp ?_ w hw hl) (λp=>(lb0 p).symm) (λp hp=>?_) (λp hp=>if_neg (ZR hp)) (λp k h ho=>?_) (λp k h ho=>?_)
  .rcases RT mh (Ij p ((o4 p).mp hp).1) with z | z <;> rcases KA with z' | z' <;> omega
  .show(if p∈tl RB then X p else yB p)=wf' p;rw[if_neg (λz=>hp.2 (QX p z))];exact(sW p (λz=>hp.2 ((o4 p).mp z).1)).2
  .obtain⟨v9,k1,k2,k3⟩:=FT.pick h ho;obtain⟨z0,z1⟩:=FT.rg h;exact⟨v9,by rw[if_pos (mW.mpr ⟨k,h⟩),(hX p z0 z1).1 k ⟨h,ho⟩];exact k1,k2,k3⟩
  .obtain⟨z0,z1⟩:=FT.rg h;show(if p∈tl RB then X p else yB p)=Y;rw[if_pos (mW.mpr ⟨k,h⟩)];exact(hX p z0 z1).2 λk z=>ho z.2
 refine⟨QF.length,gz,lb,QF,_,_,_,_,_,_,_,_,Z,ZM.trans sG,sG _ _ hhF,sG _ _ hwF,sG _ _ Zd,?_,hlb,eK hhF R7,eK hwF R7,eK Zd R7,by rw[Il];exact V4.filter _,λp hp=>uf p ((Ez p).mp hp).1,acw,λp hp ho w hw JI=>?_,λp h1 h2=>?_,Sg.congr (λp _=>rfl) λp=>(dn p).symm,λp hp=>?_,Z⟩
 .rw[aV,dM];omega
 .obtain⟨a,b⟩:=(Ez p).mp hp;exact WZ p hp ho w hw (tQ p a ho w hw JI)
 .show(if p∈tl RB then 1-hand else qS p)=1-hand;rcases (dn p).mp ⟨h1,h2⟩ with z | ⟨k,hk⟩
  .rw[if_neg (λy=>z.2 (QX p y)),(sW p (λy=>z.2 ((o4 p).mp y).1)).1];exact hDh p z.1 z.2
  .cases k with
   |zero=>rw[if_neg (ZR hk)];exact((vG p).mp ((lb0 p).mp hk)).2
   |succ k=>rw[if_pos (mW.mpr ⟨k,hk⟩)]
 .have h2:p ∉ ls:=λz=>hp (uf p z);obtain⟨k1,k2⟩:=Wa p hp;obtain⟨j1,j2⟩:=sW p (λz=>h2 ((o4 p).mp z).1);refine⟨?_,?_⟩
  .show(if p∈tl RB then 1-hand else qS p)=hf p;rw[if_neg (λy=>h2 (QX p y)),j1,k1]
  .show(if p∈tl RB then X p else yB p)=wf p;rw[if_neg (λy=>h2 (QX p y)),j2,k2]
theorem NH(F:j5 K C "cut" "Cutter.cut" fb ["self","part"])(T:Txt mg)(aK:ClsAt K mg "Cutter" C tJ)(kA:tL P w K mg base C "pull" 6 ["self","hand","goal","left"] (Ax C))(iq:tL P w K mg base C "without" 4 ["self","left","places"] (tH C))(kz:tL P w K mg base C "give" 5 ["self","hand","layers"] (Fh C))(ja:tL P w K mg base C "give_tops" 4 ["self","hand","tops","left"] (Fl C))(mw:Dn P w K mg base "places_of" 1 ["layers"] qN)(n:Nat) :
  tL P w K mg base C "cut" (6+n) ["self","part"] (spC C n):=by
 induction n with
 |zero =>
  obtain⟨f,fd,_,hm,hb⟩:=F.ex;exact⟨f,fd,⟨λ_ _ _ _ z=>z.elim,λ_ _ _ _ _ _ _ _ _ _ _ _ _ z=>z.elim⟩,hm,hb⟩
 |succ n ih=>exact S5 F T aK kA iq kz ja mw ih
theorem FG.congr{G:List Row}{P P':Int->Prop}{hf:Int->Int}{wf:Int->Option Int}(s:FG G P hf wf)(e:∀ p,P p↔P' p):FG G P' hf wf:=by
 have:P=P':=funext λp=>propext (e p);subst this;exact s
def wb:Sp:=λvs H Q _=>Nk λ(v:V) (G:List Row)=>JQ (vs=[v]) (hZ H G v) (Dk G) (Ri G) (NE G) ((∀ z:Int,0<=z->z<G.length->0<=rk G z/\rk G z<41)) (∀(t ha wa:ai)(hf:Int->Int)(wf:Int->Option Int)(H':Hp),aU H (mn H' ha wa)->ha≠wa->H ha=Y->H wa=Y->H' t=O (.tup [.ref ha,.ref wa])->H' ha=O (.lst ((im G.length hf).map V.int))->H' wa=O (.lst (om G.length wf))->FG G (je G) hf wf->Q (.ref t) H')
theorem IP(F:aN K mg "solved" o7 ["game"])(T:Txt mg)(aK:ClsAt K mg "Cutter" C tJ)(qX:GZ P w K mg base C 2 ["self","game"] (Gv C))(nU:tL P w K mg base C "cut" 48 ["self","part"] (L4 C 41)):Dn P w K mg base "solved" 49 ["game"] wb:=by
 have sc:=IZ;refine F.ok sc (λvs H Q E h=>?_) (λf dW A outer s H vs Q E hr h=>?_)
 .obtain⟨_,_,rfl,_⟩:=h;rfl
 obtain⟨v,G,rfl,hG,c8,mh,jZ,Sl,q⟩:=h;obtain⟨g0,gv,rfl,jl,n9,ll⟩:=dk hG;have Dv:=c8.1;refine⟨_,(ak (bz (i:=1) sc.nd Z (aY Z) (vM aK qX hr (aa (pv 0) am)))
   (ak (cL (gP aK.cl nU hr (pv 1) (aa (km (qk Z) Z T.D6 m7 (aa (yn Z T.mz (aa (bP (gp (K:=K) Z) Z T.fR bu (aa (pv 0) am)) am)) am)) am)))
   (aA (bU (gt (aa (bV (K:=K) Z (pv 1) Z) (aa (bV (K:=K) Z (pv 1) Z) am))))))),?_⟩
 refine⟨_,Z,?_⟩;intro x dx hx hdx ndx;have s0:aU H (upd (upd H dx (.own x)) x (.ins C dx [])):=λb o e=>by
  rw[bh (cw e hx),bh (cw e hdx)];exact e
 refine⟨x,dx,_,G,H,Z,s0,hx,ao,hG,c8,λr as ha wa H1 EG h1 h2 s1 hO hh1 mO=>⟨Z,?_⟩⟩;obtain⟨⟨dx',Iu⟩,_,_⟩:=id hO;have sH1:aU H H1:=s1.trans iz;refine⟨_,Z,x,dx',_,Z,iz _ _ Iu,n8 _ _ _ _ (by trivial) (by trivial) (by trivial) (by trivial),_,Z,g0,_,Z,.inl (bI.of (sH1 _ _ jl)),_,Z,λp0 xZ=>⟨p0,_,Z,ao,by omega,by omega,λl hl=>?_⟩⟩;have s2:aU H1 (upd (upd H1 p0 (.og 0 (gv.length:Nat))) l (.lst (((bn ((gv.length:Nat):Int).toNat).map λ(j:Nat)=>(j:Int)).map V.int))):=(av xZ _).trans (av hl _);have Ii:H1 l=Y:=(av xZ (.og 0 (gv.length:Nat))).free hl;have wX:upd (upd H1 p0 (.og 0 (gv.length:Nat))) l (.lst (((bn ((gv.length:Nat):Int).toNat).map λ(j:Nat)=>(j:Int)).map V.int)) l=O (.lst ((og G.length).map V.int)):=by
  rw[ao,bO,n9];rfl
 generalize upd (upd H1 p0 (.og 0 (gv.length:Nat))) l (.lst (((bn ((gv.length:Nat):Int).toNat).map λ(j:Nat)=>(j:Int)).map V.int))=H2 at s2 wX ⊢;have Xb:l≠ha:=eK hh1 Ii;have Xd:l≠wa:=eK mO Ii;refine⟨x,_,r,as,ha,wa,G,l,og G.length,_,_,Z,EG,hO.up (jL s2),c8,mh,lP wX Xb Xd,zY _,λz hz=>gk.mp hz,λp hp=>?_,λz hz=>Sl z (gk.mp hz).1 (gk.mp hz).2,s2 _ _ hh1,s2 _ _ mO,λu H3 hf wf s3 Ic Iq lC _=>?_⟩
 .obtain⟨w9,WL⟩:=Yu jZ (gk.mp hp);exact⟨w9,WL,gk.mpr (Yt c8.Yq WL)⟩
 have vz:=s3 _ _ (jL s2 _ _ Iu);refine⟨_,Z,x,C,dx',_,_,Z,vz,aK.cl,aK.na _ (by trivial),pq _ _ _ _,_,Z,x,C,dx',_,_,Z,vz,aK.cl,aK.na _ (by trivial),rj _ _ _ _,(by show 2<=az;decide),λt ht=>?_⟩;have s4:=av ht (.tup [.ref ha,.ref wa]);exact q t ha wa hf wf _ (s1.trans ((jL s2).trans ((oZ s3).trans (jL s4)))) EG h1 h2 ao (s4 _ _ Ic) (s4 _ _ Iq) (lC.congr λp=>gk)
def v5:Sp:=λvs H Q _=>Nk λ(z:Int) (n:Int)=>Bl (vs=[.int z,.int n]) (0<=z) (z<n) (Q .fC H)
theorem zK(F:aN K mg "check_start" iZ ["start","count"])(T:Txt mg)(lL:Dn P w K mg base "is_place" 2 ["value","count"] uR):Dn P w K mg base "check_start" 3 ["start","count"] v5:=by
 have sc:=vX;refine F.ok sc (λvs H Q E h=>?_) (λf dW A outer s H vs Q E hr h=>?_)
 .obtain⟨_,_,rfl,_⟩:=h;rfl
 obtain⟨z,n,rfl,h0,h1,q⟩:=h;refine⟨_,(aA (dE (ji (fM (b9 lL hr (aa (pv 0) (aa (pv 1) am)))))
   (aA dZ)
   cv)),?_⟩
 refine⟨_,Z,_,Z,z,n,Z,?_⟩;rw[decide_eq_true (show 0<=z/\z<n from⟨h0,h1⟩)];refine⟨true,Z,?_⟩;refine gO ?_;exact q
def v4:Sp:=λvs H Q _=>vs=[.bl true]/\Q .fC H
theorem EL(F:aN K mg "check_due" kO ["due"])(T:Txt mg):Dn P w K mg base "check_due" 1 ["due"] v4:=by
 have sc:=z8;refine F.ok sc (λvs H Q E h=>?_) (λf dW A outer s H vs Q E hr h=>?_)
 .obtain⟨rfl,_⟩:=h;rfl
 obtain⟨rfl,q⟩:=h;refine⟨_,(aA (dE (ji (fM (pv 0)))
   (aA dZ)
   cv)),?_⟩
 refine⟨_,Z,_,Z,?_⟩;refine gO ?_;exact q
def CU:Sp:=λvs H Q _=>YB λ(z:Int) (a:ai) (ws:List Int)=>Bl (vs=[.int z,.ref a]) (H a=O (.lst (ws.map V.int))) (z∈ws) (Q .fC H)
theorem EM(F:aN K mg "check_way" kQ ["place","outs"])(T:Txt mg)(jb:Dn P w K mg base "is_whole" 1 ["value"] rR):Dn P w K mg base "check_way" 2 ["place","outs"] CU:=by
 have sc:=Aa;refine F.ok sc (λvs H Q E h=>?_) (λf dW A outer s H vs Q E hr h=>?_)
 .obtain⟨_,_,_,rfl,_⟩:=h;rfl
 obtain⟨z,a,ws,rfl,ha,hz,q⟩:=h;refine⟨_,(aA (dE (PW.pt (a0o (ji (fM (b9 jb hr (aa (pv 0) am)))) (a0m (cA (lQ (K:=K) Z) (pv 0) (pv 1) Z))))
   (aA dZ)
   cv)),?_⟩
 refine⟨_,Z,z,Z,true,Z,?_⟩;refine gO ?_;refine⟨_,Z,_,Z,a,_,Z,.inl (bI.of ha),Z,px ws,?_⟩;rw[oV,decide_eq_true hz];refine⟨false,Z,?_⟩;refine gO ?_;exact q
abbrev sL:List aE:=["hand","at","rule","owners","outs"]
structure J0(fl:List (aE × V))(h p:Int)(wa oa ua:ai)(m:Nat):Prop where
 hand:fl.lookup ("hand" : aE)=O (.int h)
 at_:fl.lookup ("at" : aE)=O (.int p)
 rule:fl.lookup ("rule" : aE)=O (.ref wa)
 own:fl.lookup ("owners" : aE)=O (.ref oa)
 outs:fl.lookup ("outs" : aE)=O (.ref ua)
 go:fl.lookup ("go" : aE)=Y
 oth:fl.lookup ("other" : aE)=Y
 len:fl.length<=m
theorem J0.put{fl:List (aE × V)}{h p:Int}{wa oa ua:ai}{m:Nat}(f:J0 fl h p wa oa ua m)(q:Int):J0 (cE "at" (.int q) fl) h q wa oa ua (m+1):=by
 refine⟨?_,?_,?_,?_,?_,?_,?_,?_⟩
 .rw[aI,if_neg (by trivial)];exact f.hand
 .rw[aI,if_pos rfl]
 .rw[aI,if_neg (by trivial)];exact f.rule
 .rw[aI,if_neg (by trivial)];exact f.own
 .rw[aI,if_neg (by trivial)];exact f.outs
 .rw[aI,if_neg (by trivial)];exact f.go
 .rw[aI,if_neg (by trivial)];exact f.oth
 .have:=mE "at" (.int q) fl;have:=f.len;omega
theorem RI(h p:Int)(wa oa ua:ai):J0 (cE "outs" (.ref ua) (cE "owners" (.ref oa) (cE "rule" (.ref wa) (cE "at" (.int p) (cE "hand" (.int h) []))))) h p wa oa ua 5:=by
 have no:∀ m:aE,¬ m = "outs" -> ¬ m = "owners" -> ¬ m = "rule" -> ¬ m = "at" -> ¬ m = "hand" -> (cE "outs" (.ref ua) (cE "owners" (.ref oa) (cE "rule" (.ref wa) (cE "at" (.int p) (cE "hand" (.int h) []))))).lookup m=Y:=λm h1 h2 h3 h4 h5=>by
  rw[aI,if_neg h1,aI,if_neg h2,aI,if_neg h3,aI,if_neg h4,aI,if_neg h5];rfl
 refine⟨?_,?_,?_,?_,?_,no _ (by trivial) (by trivial) (by trivial) (by trivial) (by trivial),no _ (by trivial) (by trivial) (by trivial) (by trivial) (by trivial),ay 5⟩
 .rw[aI,if_neg (by trivial),aI,if_neg (by trivial),aI,if_neg (by trivial),aI,if_neg (by trivial),aI,if_pos rfl]
 .rw[aI,if_neg (by trivial),aI,if_neg (by trivial),aI,if_neg (by trivial),aI,if_pos rfl]
 .rw[aI,if_neg (by trivial),aI,if_neg (by trivial),aI,if_pos rfl]
 .rw[aI,if_neg (by trivial),aI,if_pos rfl]
 .rw[aI,if_pos rfl]
structure MT(B:Hp)(G:List Row)(wf:Int->Option Int)(wa oa ua:ai):Prop where
 rule:B wa=O (.lst (om G.length wf))
 own:B oa=O (.lst ((im G.length (hd G)).map V.int))
 outs:iV (iV lT) B (G.map λr=>r.2.2) (.ref ua)
theorem MT.up{B B':Hp}{G:List Row}{wf:Int->Option Int}{wa oa ua:ai}(d:MT B G wf wa oa ua)(s:aU B B'):MT B' G wf wa oa ua :=
 ⟨s _ _ d.rule,s _ _ d.own,(dv (dv fS)).up s d.outs⟩
variable {R:ai}
def XS(R:ai):Sp:=λvs H Q _=>Nj λ(x:ai) (dx:ai) (fl:List (aE × V)) (G:List Row) (wf:Int->Option Int) (h:Int) (p:Int) (q:Int) (wa:ai) (oa:ai) (ua:ai) (m:Nat)=>Ng (vs=[.ref x]) (H x=O (.ins R dx fl)) (J0 fl h p wa oa ua m) (m<900) (MT H G wf wa oa ua) (je G p) (hd G p=h) (wf p=O q) (Q (.int q) (upd H x (.ins R dx (cE "at" (.int q) fl))))
theorem Xi(F:j5 K R "go" "RankPlay.go" iY ["self"])(T:Txt mg)(aJ:ClsAt K mg "RankPlay" R sL)(oC:Dn P w K mg base "check_due" 1 ["due"] v4):tL P w K mg base R "go" 2 ["self"] (XS R):=by
 have sc:=vW;refine F.ok sc (λvs H Q E h=>?_) (λf dW A outer s H vs Q E hr h=>?_)
 .obtain⟨_,_,_,_,_,_,_,_,_,_,_,_,rfl,_⟩:=h;rfl
 obtain⟨x,dx,fl,G,wf,h,p,q,wa,oa,ua,m,rfl,hx,hF,hm,hD,hp,hh,hw,qq⟩:=h;have hl:=hF.len;have a1:oB ((im G.length (hd G)).map V.int) p=O (.int (hd G p)):=fi hp.1 (by rw[au,rq hp.1 hp.2];rfl);have a2:oB (om G.length wf) p=O (.int q):=fi hp.1 (by rw[Gf hp.1 hp.2,hw];rfl);refine⟨_,(ak (cL (b9 oC hr (aa (kI lR (be (iy (K:=K) Z) (bV (K:=K) Z (pv 0) Z) (bV (K:=K) Z (pv 0) Z) (λ_ _=>rfl)) (bV (K:=K) Z (pv 0) Z) (de _)) am)))
   (ak (fT (K:=K) Z (pv 0) (be (iy (K:=K) Z) (bV (K:=K) Z (pv 0) Z) (bV (K:=K) Z (pv 0) Z) (λ_ _=>rfl)) Z)
   (aA (bU (bV (K:=K) Z (pv 0) Z))))),?_⟩
 refine⟨_,Z,x,R,_,_,_,Z,hx,aJ.cl,aJ.na _ (by trivial),hF.own,_,Z,x,R,_,_,_,Z,hx,aJ.cl,aJ.na _ (by trivial),hF.at_,oa,_,_,_,Z,Z,bI.of hD.own,a1,_,Z,x,R,_,_,_,Z,hx,aJ.cl,aJ.na _ (by trivial),hF.hand,Z,?_⟩;refine⟨by rw[decide_eq_true (by rw[hh])];rfl,?_⟩;refine⟨_,Z,x,R,_,_,_,Z,hx,aJ.cl,aJ.na _ (by trivial),hF.rule,_,Z,x,R,_,_,_,Z,hx,aJ.cl,aJ.na _ (by trivial),hF.at_,wa,_,_,_,Z,Z,bI.of hD.rule,a2,_,Z,x,R,dx,fl,Z,hx,aJ.cl,aJ.na _ (by trivial),by omega,?_⟩;exact⟨_,Z,x,R,_,_,_,Z,ao,aJ.cl,aJ.na _ (by trivial),(hF.put q).at_,qq⟩
def GB(R:ai):Sp:=λvs H Q _=>Nj λ(x:ai) (dx:ai) (fl:List (aE × V)) (G:List Row) (wf:Int->Option Int) (h:Int) (p:Int) (q:Int) (wa:ai) (oa:ai) (ua:ai) (m:Nat)=>Ng (vs=[.ref x,.int q]) (H x=O (.ins R dx fl)) (J0 fl h p wa oa ua m) (m<900) (MT H G wf wa oa ua) (je G p) (¬ hd G p=h) (q∈wy G p) (Q .fC (upd H x (.ins R dx (cE "at" (.int q) fl))))
theorem Lf(F:j5 K R "other" "RankPlay.other" gw ["self","place"])(T:Txt mg)(aJ:ClsAt K mg "RankPlay" R sL)(oC:Dn P w K mg base "check_due" 1 ["due"] v4)(Bn:Dn P w K mg base "check_way" 2 ["place","outs"] CU):tL P w K mg base R "other" 3 ["self","place"] (GB R):=by
 have sc:=rQ;refine F.ok sc (λvs H Q E h=>?_) (λf dW A outer s H vs Q E hr h=>?_)
 .obtain⟨_,_,_,_,_,_,_,_,_,_,_,_,rfl,_⟩:=h;rfl
 obtain⟨x,dx,fl,G,wf,h,p,q,wa,oa,ua,m,rfl,hx,hF,hm,hD,hp,hh,hw,qq⟩:=h;have hl:=hF.len;have a1:oB ((im G.length (hd G)).map V.int) p=O (.int (hd G p)):=fi hp.1 (by rw[au,rq hp.1 hp.2];rfl);obtain⟨row,iL⟩:∃ row,G[p.toNat]?=O row:=⟨G[p.toNat]'(by have:=hp.1;have:=hp.2;omega),by simp⟩
 obtain⟨u0,us,eu,hu0,pr⟩:=hD.outs;cases eu;obtain⟨uv,hu1,hu2⟩:=Paired.at pr (i:=p.toNat) (x:=row.2.2) (by rw[au,iL];rfl);obtain⟨b,rfl,hb⟩:=iA.mp hu2;have a3:oB us p=O (.ref b):=fi hp.1 hu1;have WQ:q∈row.2.2:=by rw[← tV iL];exact hw
 refine⟨_,(ak (cL (b9 oC hr (aa (kI o5 (be (iy (K:=K) Z) (bV (K:=K) Z (pv 0) Z) (bV (K:=K) Z (pv 0) Z) (λ_ _=>rfl)) (bV (K:=K) Z (pv 0) Z) (de _)) am)))
   (ak (cL (b9 Bn hr (aa (pv 1) (aa (be (iy (K:=K) Z) (bV (K:=K) Z (pv 0) Z) (bV (K:=K) Z (pv 0) Z) (λ_ _=>rfl)) am))))
   (aA (fT (K:=K) Z (pv 0) (pv 1) Z)))),?_⟩
 refine⟨_,Z,x,R,_,_,_,Z,hx,aJ.cl,aJ.na _ (by trivial),hF.own,_,Z,x,R,_,_,_,Z,hx,aJ.cl,aJ.na _ (by trivial),hF.at_,oa,_,_,_,Z,Z,bI.of hD.own,a1,_,Z,x,R,_,_,_,Z,hx,aJ.cl,aJ.na _ (by trivial),hF.hand,Z,?_⟩;refine⟨by rw[decide_eq_false (by intro z;cases z;exact hh Z)];rfl,?_⟩;refine⟨_,Z,_,Z,x,R,_,_,_,Z,hx,aJ.cl,aJ.na _ (by trivial),hF.outs,_,Z,x,R,_,_,_,Z,hx,aJ.cl,aJ.na _ (by trivial),hF.at_,ua,_,_,_,Z,Z,bI.of hu0,a3,q,b,row.2.2,Z,hb,WQ,?_⟩;exact⟨_,Z,_,Z,x,R,dx,fl,Z,hx,aJ.cl,aJ.na _ (by trivial),by omega,qq⟩
theorem WU(G:List Row):im G.length (hd G)=G.map λr=>r.1:=by
 refine dg λi=>?_;rw[au];rcases pW i G.length with h | h
 .have e:=rq (n:=G.length) (f:=hd G) (z:=(i:Int)) (by omega) (by omega);rw[bO] at e;rw[e,bi h];unfold hd;rw[bO,bi h];rfl
 .rw[bf h];exact bf (by unfold im;rw[ab,gi];exact h)
def Gx(R:ai):Sp:=λvs H Q _=>Z3 λ(x:ai) (dx:ai) (v:V) (G:List Row) (p:Int) (H0:Hp)=>JP (vs=[.ref x,v,.int p]) (aU H0 H) (H0 x=Y) (H x=O (.ins R dx [])) (hZ H0 G v) (Dk G) (Ri G) (NE G) ((∀ z:Int,0<=z->z<G.length->0<=rk G z/\rk G z<41)) (je G p) (∀(dx:ai)(fl:List (aE × V))(hf:Int->Int)(wf:Int->Option Int)(wa oa ua:ai)(H':Hp),aU H0 (L2.del H' x)->MT (jf H0 (L2.del H' x)) G wf wa oa ua->H' x=O (.ins R dx fl)->J0 fl (hf p) p wa oa ua 5->FG G (je G) hf wf->Q .fC H')
theorem Lb(F:qw K R "RankPlay.__init__" dA ["self","game","start"])(T:Txt mg)(aJ:ClsAt K mg "RankPlay" R sL)(wJ:Dn P w K mg base "check_start" 3 ["start","count"] v5)(u6:Dn P w K mg base "solved" 49 ["game"] wb):GZ P w K mg base R 50 ["self","game","start"] (Gx R):=by
 have sc:=o8;refine F.ok sc (λvs H Q E h=>?_) (λf dW A outer s H vs Q E hr h=>?_)
 .obtain⟨_,_,_,_,_,_,rfl,_⟩:=h;rfl
 obtain⟨x,dx,v,G,p,H0,rfl,s0,zw,hx,hG,c8,mh,jZ,Sl,hp,q⟩:=h;obtain⟨g0,gv,rfl,jl,n9,ll⟩:=dk hG;have Dv:=c8.1;refine⟨_,(ak (cL (b9 wJ hr (aa (pv 2) (aa (bP (gp (K:=K) Z) Z T.fR bu (aa (pv 1) am)) am))))
   (ak (bz (i:=3) sc.nd Z (aY Z) (b9 u6 hr (aa (pv 1) am)))
   (ak (fT (K:=K) Z (pv 0) (be (iy (K:=K) Z) (be (m9 (K:=K) Z) (pv 3) aD (λ_ _=>rfl)) (pv 2) (λ_ _=>rfl)) Z)
   (ak (fT (K:=K) Z (pv 0) (pv 2) Z)
   (ak (fT (K:=K) Z (pv 0) (be (m9 (K:=K) Z) (pv 3) aD (λ_ _=>rfl)) Z)
   (ak (fT (K:=K) Z (pv 0) (lS (aC dA) ["self","game","start","answer"] ["row"] 1 [] (cV (pv 1)) (λ_ _ _ _ _ _=>(d0 (show cM (["row"]:List aE) by trivial) Z Z)) (λ_ _ _ _ _ _=>gm) (λ_ _ _ _ _ _=>(be (m9 (K:=K) Z) (pv 0) aD (λ_ _=>rfl)))) Z)
   (aA (fT (K:=K) Z (pv 0) (lS (aC dA) ["self","game","start","answer"] ["row"] 1 [] (cV (pv 1)) (λ_ _ _ _ _ _=>(d0 (show cM (["row"]:List aE) by trivial) Z Z)) (λ_ _ _ _ _ _=>gm) (λ_ _ _ _ _ _=>(km (Ry (K:=K) Z) Z T.D6 m7 (aa (be (m9 (K:=K) Z) (pv 0) aD (λ_ _=>rfl)) am)))) Z)))))))),?_⟩
 refine⟨_,Z,_,Z,g0,_,Z,.inl (bI.of (s0 _ _ jl)),p,_,Z,hp.1,by rw[n9];exact hp.2,?_⟩;refine⟨_,Z,_,G,Z,dS.up s0 hG,c8,mh,jZ,Sl,λt ha wa hf wf H1 s1 EG nh nw ht Dx uh lC=>?_⟩;have ZD:aU H H1:=s1.trans iz;have Iu:=ZD _ _ hx;have z1:aU H0 (L2.del H1 x):=λb o e=>by rw[dF (λz=>by rw[z,zw] at e;cases e)];exact ZD _ _ (s0 _ _ e)
 have Zy:wa≠x:=λz=>by rw[z,hx] at nw;cases nw
 have w0:H0 wa=Y:=s0.free nw;have a0:oB [V.ref ha,V.ref wa] 0=O (.ref ha):=bb (j:=0) Z;have a1:oB [V.ref ha,V.ref wa] 1=O (.ref wa):=bb (j:=1) Z;have a2:oB ((im G.length hf).map V.int) p=O (.int (hf p)):=fi hp.1 (by rw[au,rq hp.1 hp.2];rfl);have ntx:t≠x:=λz=>by rw[z,Iu] at ht;cases ht
 have hwd:L2.del H1 x wa=O (.lst (om G.length wf)):=by rw[dF Zy];exact uh
 have htd:L2.del H1 x t=O (.tup [.ref ha,.ref wa]):=by rw[dF ntx];exact ht
 refine⟨_,Z,t,_,_,_,Z,Z,gA.of ht,a0,_,Z,ha,_,_,_,Z,Z,bI.of Dx,a2,_,Z,x,R,dx,[],Z,Iu,aJ.cl,aJ.na _ (by trivial),(by show 0<1000;decide),?_⟩;refine⟨_,Z,_,Z,x,R,dx,_,Z,ao,aJ.cl,aJ.na _ (by trivial),(by show 1<1000;decide),?_⟩;rw[mL];have AV:upd H1 x (.ins R dx (cE "at" (.int p) (cE "hand" (.int (hf p)) []))) t=O (.tup [.ref ha,.ref wa]):=by rw[bh ntx];exact ht
 refine⟨_,Z,t,_,_,_,Z,Z,gA.of AV,a1,_,Z,x,R,dx,_,Z,ao,aJ.cl,aJ.na _ (by trivial),(by show 2<1000;decide),?_⟩;rw[mL];have e3:L2.del (upd H1 x (.ins R dx (cE "rule" (.ref wa) (cE "at" (.int p) (cE "hand" (.int (hf p)) []))))) x=L2.del H1 x:=n5;have vz:upd H1 x (.ins R dx (cE "rule" (.ref wa) (cE "at" (.int p) (cE "hand" (.int (hf p)) [])))) x=O (.ins R dx (cE "rule" (.ref wa) (cE "at" (.int p) (cE "hand" (.int (hf p)) [])))):=ao;generalize upd H1 x (.ins R dx (cE "rule" (.ref wa) (cE "at" (.int p) (cE "hand" (.int (hf p)) []))))=H3 at e3 vz ⊢;have z3:aU H0 (L2.del H3 x):=by rw[e3];exact z1
 have ZX:aU H0 H3:=z3.trans (kL _ _);refine⟨_,Z,g0,Z,⟨_,bI.of (ZX _ _ jl)⟩,cW (K:=K) (a:=g0) (xs:=gv) (λi ys Hx=>Hx=H3/\ys=((G.take i).map λr=>r.1).map V.int) ⟨Z,Z⟩ (a0a (m:=1000) (by omega)) (λi ys Hx hi h=>?_) (λi y ys Hx hi h=>?_) (λys Hx h oa Qy=>?_)⟩
 .obtain⟨rfl,rfl⟩:=h;exact⟨bI.of (ZX _ _ jl),by rw[ab,ab];simp;omega⟩
 .obtain⟨rfl,rfl⟩:=h;have Dy:i<G.length:=by have:=(aj.mp hi).1;omega
  obtain⟨row,iL⟩:∃ row,G[i]?=O row:=⟨G[i],by simp⟩
  obtain⟨t5,w5,p1,p2,p3⟩:=ll i row iL;rw[hi] at p1;cases p1;refine gq ?_;refine⟨_,Z,t5,_,_,_,Z,Z,gA.of (ZX _ _ p2),bb (j:=0) Z,Z,?_⟩;rw[aM,iL];simp
 obtain⟨rfl,rfl⟩:=h;rw[n9,aR,← WU];have Nb:oa≠x:=λz=>by rw[z,vz] at Qy;cases Qy
 have o0:H0 oa=Y:=ZX.free Qy;refine⟨_,Z,x,R,dx,_,Z,(by rw[bh (cg Nb)];exact vz),aJ.cl,aJ.na _ (by trivial),(by show 3<1000;decide),?_⟩;generalize VI:cE "owners" (.ref oa) (cE "rule" (.ref wa) (cE "at" (.int p) (cE "hand" (.int (hf p)) [])))=Uh;have z4:aU (L2.del Hx x) (L2.del (upd (upd Hx oa (.lst ((im G.length (hd G)).map V.int))) x (.ins R dx Uh)) x):=by rw[n5];exact lO (av Qy _) x
 have ho4:L2.del (upd (upd Hx oa (.lst ((im G.length (hd G)).map V.int))) x (.ins R dx Uh)) x oa=O (.lst ((im G.length (hd G)).map V.int)):=by rw[n5,dF Nb,ao]
 have Oe:upd (upd Hx oa (.lst ((im G.length (hd G)).map V.int))) x (.ins R dx Uh) x=O (.ins R dx Uh):=ao;generalize upd (upd Hx oa (.lst ((im G.length (hd G)).map V.int))) x (.ins R dx Uh)=H4 at z4 ho4 Oe ⊢;have z04:=z3.trans z4;have PX:aU H0 H4:=z04.trans (kL _ _);refine⟨_,Z,g0,Z,⟨_,bI.of (PX _ _ jl)⟩,cW (K:=K) (a:=g0) (xs:=gv) (λi ys Hy=>aU H4 Hy/\gf (iV lT (jf H0 (L2.del Hy x))) ((G.take i).map λr=>r.2.2) ys) ⟨aU.refl _,.nil⟩ (a0a (m:=1000) (by omega)) (λi ys Hy hi h=>?_) (λi y ys Hy hi h=>?_) (λys Hy h ua Zl=>?_)⟩
 .exact⟨bI.of ((PX.trans h.1) _ _ jl),by have:=jk h.2;simp at this;omega⟩
 .obtain⟨s5,pr⟩:=h;have Dy:i<G.length:=by have:=(aj.mp hi).1;omega
  obtain⟨row,iL⟩:∃ row,G[i]?=O row:=⟨G[i],by simp⟩
  obtain⟨t5,w5,p1,p2,p3⟩:=ll i row iL;rw[hi] at p1;cases p1;have XG:=PX.trans s5;refine gq ?_;refine⟨_,Z,t5,_,_,_,Z,Z,gA.of (XG _ _ p2),bb (j:=2) Z,w5,_,Z,.inl (bI.of (XG _ _ p3)),λl hl=>?_⟩;refine⟨s5.trans (av hl _),?_⟩;have nlx:l≠x:=λz=>by rw[z,s5 _ _ Oe] at hl;cases hl
  rw[aM,iL,aB];refine Paired.app (dq (dv fS) (uM (lO (av hl _) x)) pr) (.cons ?_ .nil);exact iA.mpr ⟨l,Z,by rw[eV (XG.free hl),dF nlx,ao]⟩
 obtain⟨s5,pr⟩:=h;rw[n9,aR] at pr;have XG:=PX.trans s5;have nux:ua≠x:=λz=>by rw[z,s5 _ _ Oe] at Zl;cases Zl
 have hx5:=s5 _ _ Oe;refine⟨_,Z,x,R,dx,_,Z,(by rw[bh (cg nux)];exact hx5),aJ.cl,aJ.na _ (by trivial),(by rw[← VI];show 4<1000;decide),?_⟩;have zD:aU (L2.del Hy x) (L2.del (upd (upd Hy ua (.lst ys)) x (.ins R dx (cE "outs" (.ref ua) Uh))) x):=by rw[n5];exact lO (av Zl _) x
 have zE:=(lO s5 x).trans zD;refine q dx _ hf wf wa oa ua _ (z04.trans zE) ⟨?_,?_,?_⟩ ao ?_ lC
 .rw[eV w0];exact zE _ _ (z4 _ _ (by rw[e3];exact hwd))
 .rw[eV o0];exact zE _ _ ho4
 .exact⟨ua,ys,Z,by rw[eV (XG.free Zl),n5,dF nux,ao],dq (dv fS) (uM zD) pr⟩
 .rw[← VI];exact RI _ _ _ _ _
variable {HC DC:ai}
abbrev mM:List aE:=["kind","names","thing"]
abbrev nY:List aE:=["things","play"]
structure HlF(fl:List (aE × V))(kd:aE)(na:ai)(tv:V):Prop where
 kind:fl.lookup ("kind" : aE)=O (.str kd)
 names:fl.lookup ("names" : aE)=O (.ref na)
 CZ:fl.lookup ("thing" : aE)=O tv
def HeldAt(HC:ai)(H:Hp)(x:ai)(kd:aE)(na:ai)(tv:V):Prop:=∃ dx fl,H x=O (.ins HC dx fl)/\HlF fl kd na tv
theorem HeldAt.up{H H':Hp}{x na:ai}{kd:aE}{tv:V}(h:HeldAt HC H x kd na tv)(s:aU H H'):HeldAt HC H' x kd na tv:=by
 obtain⟨dx,fl,hx,hf⟩:=h;exact⟨dx,fl,s _ _ hx,hf⟩
def uQ(HC:ai):Sp:=λvs H Q _=>∃(x dx:ai)(kd:aE)(na:ai)(tv:V),vs=[.ref x,.str kd,.ref na,tv]/\H x=O (.ins HC dx [])/\∀ fl,HlF fl kd na tv->Q .fC (upd H x (.ins HC dx fl))
theorem La(F:qw K HC "Held.__init__" gY ["self","kind","names","thing"])(T:Txt mg)(bC:ClsAt K mg "Held" HC mM):GZ P w K mg base HC 1 ["self","kind","names","thing"] (uQ HC):=by
 have sc:=tG;refine F.ok sc (λvs H Q E h=>?_) (λf dW A outer s H vs Q E hr h=>?_)
 .obtain⟨_,_,_,_,_,rfl,_⟩:=h;rfl
 obtain⟨x,dx,kd,na,tv,rfl,hx,q⟩:=h;refine⟨_,(ak (fT (K:=K) Z (pv 0) (pv 1) Z)
   (ak (fT (K:=K) Z (pv 0) (pv 2) Z)
   (aA (fT (K:=K) Z (pv 0) (pv 3) Z)))),?_⟩
 refine⟨_,Z,_,Z,x,HC,dx,[],Z,hx,bC.cl,bC.na _ (by trivial),(by show 0<1000;decide),?_⟩;refine⟨_,Z,_,Z,x,HC,dx,_,Z,ao,bC.cl,bC.na _ (by trivial),(by show 1<1000;decide),?_⟩;rw[mL];refine⟨_,Z,_,Z,x,HC,dx,_,Z,ao,bC.cl,bC.na _ (by trivial),(by show 2<1000;decide),?_⟩;rw[mL];refine q _ ⟨?_,?_,?_⟩
 .rw[aI,if_neg (by trivial),aI,if_neg (by trivial),aI,if_pos rfl]
 .rw[aI,if_neg (by trivial),aI,if_pos rfl]
 .rw[aI,if_pos rfl]
structure Fu(fl:List (aE × V))(th:ai)(py:V)(m:Nat):Prop where
 things:fl.lookup ("things" : aE)=O (.ref th)
 Tn:fl.lookup ("play" : aE)=O py
 say:fl.lookup ("say" : aE)=Y
 len:fl.length<=m
theorem Fu.put{fl:List (aE × V)}{th:ai}{py:V}{m:Nat}(f:Fu fl th py m)(v:V):Fu (cE "play" v fl) th v (m+1):=by
 refine⟨?_,?_,?_,?_⟩
 .rw[aI,if_neg (by trivial)];exact f.things
 .rw[aI,if_pos rfl]
 .rw[aI,if_neg (by trivial)];exact f.say
 .have:=mE "play" v fl;have:=f.len;omega
def Gw(DC:ai):Sp:=λvs H Q _=>∃(x dx:ai),vs=[.ref x]/\H x=O (.ins DC dx [])/\∀ th fl,H th=Y->Fu fl th .fC 2->Q .fC (upd (upd H th (.dK [])) x (.ins DC dx fl))
theorem K9(F:qw K DC "Desk.__init__" gX ["self"])(T:Txt mg)(bZ:ClsAt K mg "Desk" DC nY):GZ P w K mg base DC 1 ["self"] (Gw DC):=by
 have sc:=tF;refine F.ok sc (λvs H Q E h=>?_) (λf dW A outer s H vs Q E hr h=>?_)
 .obtain⟨_,_,rfl,_⟩:=h;rfl
 obtain⟨x,dx,rfl,hx,q⟩:=h;refine⟨_,(ak (fT (K:=K) Z (pv 0) Cw Z)
   (aA (fT (K:=K) Z (pv 0) zQ Z))),?_⟩
 refine λth wv=>?_;have nx:x≠th:=λz=>by rw[z,wv] at hx;cases hx
 refine⟨_,Z,x,DC,dx,[],Z,(by rw[bh nx];exact hx),bZ.cl,bZ.na _ (by trivial),(by show 0<1000;decide),?_⟩;refine⟨_,Z,x,DC,dx,_,Z,ao,bZ.cl,bZ.na _ (by trivial),(by show 1<1000;decide),?_⟩;rw[mL];refine q th _ wv ⟨?_,?_,?_,ay 2⟩
 .rw[aI,if_neg (by trivial),aI,if_pos rfl]
 .rw[aI,if_pos rfl]
 .rw[aI,if_neg (by trivial),aI,if_neg (by trivial)];rfl
theorem mB(x:aE)(l:List aE):SC (.str x) (l.map V.str)=decide (x∈l):=by
 unfold SC;rw[em,i7,decide_eq_true_eq];constructor
 .rintro⟨v,hv,e⟩;obtain⟨y,hy,rfl⟩:=bE.mp hv;have:y=x:=by simpa [BU] using e
  exact this ▸ hy
 .intro h;exact⟨.str x,bE.mpr ⟨x,h,Z⟩,by simp[BU]⟩
theorem gZ(l:List aE):(l.map V.str).all oq=true:=by rw[bL];intro v hv;obtain⟨i,_,rfl⟩:=bE.mp hv;rfl
theorem oO:∀{names:List aE}{j:Nat}{z:aE},names.Nodup->names[j]?=O z->(names.map V.str).findIdx? (λy=>BU y (.str z))=O j
 |[],_,_,_,h=>by cases h
 |n::r,0,z,_,h=>by
  cases h;rw[bY,MN,if_pos (by simp[BU])]
 |n::r,j+1,z,nd,h=>by
  have hz:z∈r:=ag h;have ne:¬ n=z:=λe=>(dt.mp nd).1 (e ▸ hz);rw[bY,MN,if_neg (by simpa [BU] using ne),oO (dt.mp nd).2 h];rfl
def Tz:Sp:=λvs H Q _=>∃ z:aE,vs=[.str z]/\a0b z=true/\∀ H',aU H H'->Q .fC H'
theorem IL(F:aN K mg "check_name" jP ["word"])(T:Txt mg)(ni:Dn P w K mg base "is_name" 2 ["word"] Av):Dn P w K mg base "check_name" 3 ["word"] Tz:=by
 have sc:=xl;refine F.ok sc (λvs H Q E h=>?_) (λf dW A outer s H vs Q E hr h=>?_)
 .obtain⟨_,rfl,_⟩:=h;rfl
 obtain⟨z,rfl,hz,q⟩:=h;refine⟨_,(aA (dE (ji (fM (b9 ni hr (aa (pv 0) am))))
   (aA dZ)
   cv)),?_⟩
 refine⟨_,Z,z,Z,(by have:=(nB hz).2.1;omega),λH' s'=>?_⟩;rw[hz];refine⟨_,Z,?_⟩;refine gO ?_;exact q _ s'
def Px(K:af)(HC DC:ai):Sp:=λvs H Q _=>∃(d th dx x na ka:ai)(fl:List (aE × V))(py tv:V)(bM:List (Key × V))(m:Nat)(nm kd:aE)(ks:List aE),vs=[.ref d,.str nm,.ref ka]/\H d=O (.ins DC dx fl)/\Fu fl th py m/\H th=O (.dK bM)/\eO bM (.inr nm)=O (.ref x)/\HeldAt HC H x kd na tv/\gA K H ka (ks.map V.str)/\kd∈ks/\Q (.ref x) H
theorem OI(F:aN K mg "held_by" nI ["desk","name","kinds"])(T:Txt mg)(bC:ClsAt K mg "Held" HC mM)(bZ:ClsAt K mg "Desk" DC nY):Dn P w K mg base "held_by" 1 ["desk","name","kinds"] (Px K HC DC):=by
 have sc:=EY;refine F.ok sc (λvs H Q E h=>?_) (λf dW A outer s H vs Q E hr h=>?_)
 .obtain⟨_,_,_,_,_,_,_,_,_,_,_,_,_,_,rfl,_⟩:=h;rfl
 obtain⟨d,th,dx,x,na,ka,fl,py,tv,bM,m,nm,kd,ks,rfl,hd,hF,wv,hv,⟨dy,fy,hx,hy⟩,hS,hk,q⟩:=h;refine⟨_,(ak (bz (i:=3) sc.nd Z (aY Z) (Lv (KO hr 1) (bV (K:=K) Z (pv 0) Z) (pv 1) ⟨Z,Z,Z,Z⟩))
   (ak (dE (PW.pt (a0o (vS (EU (pv 3))) (a0m (cA (lQ (K:=K) Z) (bV (K:=K) Z (pv 3) Z) (pv 2) Z))))
   (aA dZ)
   cv)
   (aA (bU (pv 3))))),?_⟩
 refine⟨_,Z,d,DC,_,_,_,Z,hd,bZ.cl,bZ.na _ (by trivial),hF.things,th,Z,.inl ⟨_,.inl wv⟩,_,Z,_,u4.k (k:=.inr nm) wv,?_⟩;rw[hv];refine⟨_,Z,false,Z,?_⟩;refine gO ?_;refine⟨_,Z,x,HC,_,_,_,Z,hx,bC.cl,bC.na _ (by trivial),hy.kind,_,Z,ka,_,Z,.inr hS,Z,gZ _,?_⟩;rw[if_pos Z,mB,decide_eq_true hk];refine⟨false,Z,?_⟩;refine gO ?_;exact⟨_,Z,q⟩
def Mc(K:af)(HC:ai):Sp:=λvs H Q _=>∃(x na:ai)(tv:V)(kd z:aE)(names:List aE)(j:Nat),vs=[.ref x,.str z]/\HeldAt HC H x kd na tv/\bI K H na (names.map V.str)/\names.Nodup/\names[j]?=O z/\Q (.int (j:Nat)) H
theorem Ta(F:aN K mg "place_in" lY ["held","name"])(T:Txt mg)(bC:ClsAt K mg "Held" HC mM):Dn P w K mg base "place_in" 1 ["held","name"] (Mc K HC):=by
 have sc:=CN;refine F.ok sc (λvs H Q E h=>?_) (λf dW A outer s H vs Q E hr h=>?_)
 .obtain⟨_,_,_,_,_,_,_,rfl,_⟩:=h;rfl
 obtain⟨x,na,tv,kd,z,names,j,rfl,⟨dy,fy,hx,hy⟩,hS,nd,hj,q⟩:=h;refine⟨_,(ak (dE (cA (lQ (K:=K) Z) (pv 1) (bV (K:=K) Z (pv 0) Z) Z)
   (aA dZ)
   cv)
   (aA (bU (ge ba eZ jv tj (bV (K:=K) Z (pv 0) Z) (aa (pv 1) am))))),?_⟩
 refine⟨_,Z,_,Z,x,HC,_,_,_,Z,hx,bC.cl,bC.na _ (by trivial),hy.names,na,_,Z,.inl hS,Z,gZ _,?_⟩;rw[if_pos Z,mB,decide_eq_true (ag hj)];refine⟨false,Z,?_⟩;refine gO ?_;refine⟨_,Z,x,HC,_,_,_,Z,hx,bC.cl,bC.na _ (by trivial),hy.names,.inl ⟨Z,_,hS⟩,_,Z,na,_,_,j,Z,Z,hS,Z,gZ _,oO nd hj,q⟩
def TB(K:af)(HC DC:ai):Sp:=λvs H Q _=>∃(d th dx x na ka:ai)(fl:List (aE × V))(tv:V)(m:Nat)(kd:aE)(ks:List aE),vs=[.ref d,.ref ka]/\H d=O (.ins DC dx fl)/\Fu fl th (.ref x) m/\HeldAt HC H x kd na tv/\gA K H ka (ks.map V.str)/\kd∈ks/\Q (.ref x) H
theorem Xl(F:aN K mg "play_held" kX ["desk","kinds"])(T:Txt mg)(bC:ClsAt K mg "Held" HC mM)(bZ:ClsAt K mg "Desk" DC nY):Dn P w K mg base "play_held" 1 ["desk","kinds"] (TB K HC DC):=by
 have sc:=Ai;refine F.ok sc (λvs H Q E h=>?_) (λf dW A outer s H vs Q E hr h=>?_)
 .obtain⟨_,_,_,_,_,_,_,_,_,_,_,rfl,_⟩:=h;rfl
 obtain⟨d,th,dx,x,na,ka,fl,tv,m,kd,ks,rfl,hd,hF,⟨dy,fy,hx,hy⟩,hS,hk,q⟩:=h;refine⟨_,(ak (dE (PW.pt (a0o (vS (EU (bV (K:=K) Z (pv 0) Z))) (a0m (cA (lQ (K:=K) Z) (bV (K:=K) Z (bV (K:=K) Z (pv 0) Z) Z) (pv 1) Z))))
   (aA dZ)
   cv)
   (aA (bU (bV (K:=K) Z (pv 0) Z)))),?_⟩
 refine⟨_,Z,d,DC,_,_,_,Z,hd,bZ.cl,bZ.na _ (by trivial),hF.Tn,?_⟩;refine⟨false,Z,?_⟩;refine gO ?_;refine⟨_,Z,d,DC,_,_,_,Z,hd,bZ.cl,bZ.na _ (by trivial),hF.Tn,x,HC,_,_,_,Z,hx,bC.cl,bC.na _ (by trivial),hy.kind,_,Z,ka,_,Z,.inr hS,Z,gZ _,?_⟩;rw[if_pos Z,mB,decide_eq_true hk];refine⟨false,Z,?_⟩;refine gO ?_;exact⟨_,Z,d,DC,_,_,_,Z,hd,bZ.cl,bZ.na _ (by trivial),hF.Tn,q⟩
def sg(h:Int):aE:=if h=0 then "+" else "-"
theorem QN{h:Int}(mh:h=0\/h=1):∃ c,oB ("+-" : aE).cps.toList h=O c/\(⟨#[c]⟩:aE)=sg h:=by
 rcases mh with rfl | rfl
 .exact⟨43,Z,Z⟩
 .exact⟨45,Z,Z⟩
structure Nl(HC:ai)(H:Hp)(x na:ai)(v:V)(names:List aE)(G:List Row):Prop where
 held:HeldAt HC H x "game" na v
 names:H na=O (.lst (names.map V.str))
 NP:hZ H G v
theorem Nl.up{H H':Hp}{x na:ai}{v:V}{names:List aE}{G:List Row}(g:Nl HC H x na v names G)(s:aU H H'):Nl HC H' x na v names G:=⟨g.held.up s,s _ _ g.names,dS.up s g.NP⟩
def Fk(HC DC:ai):Sp:=λvs H Q _=>∃(d th dx wl:ai)(fl:List (aE × V))(py:V)(bM:List (Key × V))(m:Nat)(nm:aE)(names:List aE)(G:List Row),vs=[.ref d,.ref wl]/\H d=O (.ins DC dx fl)/\Fu fl th py m/\H th=O (.dK bM)/\bM.length<1000/\H wl=O (.lst [.str nm,.str (gT names G)])/\a0b nm=true/\names.length=G.length/\G.length<=80/\qY names/\(∀ r∈G,lN names.length r)/\tM G /\
 ∀(x na:ai)(v:V)(H1:Hp),aU H H1->Nl HC (jf H H1) x na v names (a0d G)->Q (.str "ok") (upd H1 th (.dK (a0f bM (.inr nm) (.ref x))))
theorem OO(F:aN K mg "put_game" lZ ["desk","words"])(T:Txt mg)(bC:ClsAt K mg "Held" HC mM)(bZ:ClsAt K mg "Desk" DC nY)(nV:Dn P w K mg base "check_name" 3 ["word"] Tz)(Bt:Dn P w K mg base "read_game" 7 ["text"] (Mf K))(gU:GZ P w K mg base HC 1 ["self","kind","names","thing"] (uQ HC)):Dn P w K mg base "put_game" 8 ["desk","words"] (Fk HC DC):=by
 have sc:=CO;refine F.ok sc (λvs H Q E h=>?_) (λf dW A outer s H vs Q E hr h=>?_)
 .obtain⟨_,_,_,_,_,_,_,_,_,_,_,rfl,_⟩:=h;rfl
 obtain⟨d,th,dx,wl,fl,py,bM,m,nm,names,G,rfl,hd,hF,wv,hk,hw,qg,hl,YO,kc,hG,Um,q⟩:=h;refine⟨_,(ak (cL (b9 nV hr (aa (be (iy (K:=K) Z) (pv 1) aD (λ_ _=>rfl)) am)))
   (ak (bz (i:=2) sc.nd Z (aY Z) (b9 Bt hr (aa (be (iy (K:=K) Z) (pv 1) aD (λ_ _=>rfl)) am)))
   (ak (Gi (KO hr 1) (bV (K:=K) Z (pv 0) Z) (be (iy (K:=K) Z) (pv 1) aD (λ_ _=>rfl)) (vM bC gU hr (aa cq (aa (be (m9 (K:=K) Z) (pv 2) aD (λ_ _=>rfl)) (aa (be (m9 (K:=K) Z) (pv 2) aD (λ_ _=>rfl)) am)))) Z)
   (aA (bU cq))))),?_⟩
 refine⟨_,Z,wl,_,_,_,Z,Z,bI.of hw,bb (j:=0) Z,nm,Z,qg,λH0 s0=>?_⟩;refine⟨_,Z,wl,_,_,_,Z,Z,bI.of (s0 _ _ hw),bb (j:=1) Z,names,G,Z,hl,YO,kc,hG,Um,λp n v H1 H2 H3 s1 s2 s3 NZ hp n0 vx hv=>?_⟩;have UF:=s0.trans (s1.trans (s2.trans s3));refine⟨_,Z,p,_,_,_,Z,Z,gA.of hp,bb (j:=0) Z,_,Z,p,_,_,_,Z,Z,gA.of hp,bb (j:=1) Z,λx dy hx hdy ne=>?_⟩;have u1:=(av hdy (.own x)).trans (av (by rw[bh (cg ne)];exact hx) (.ins HC dy []));refine⟨x,dy,"game",n,v,Z,ao,λfh VH=>⟨Z,?_⟩⟩;rw[mL];have u2:aU H3 (upd (upd H3 dy (.own x)) x (.ins HC dy fh)):=(av hdy (.own x)).trans (av (by rw[bh (cg ne)];exact hx) _);have zx:upd (upd H3 dy (.own x)) x (.ins HC dy fh) x=O (.ins HC dy fh):=ao;generalize upd (upd H3 dy (.own x)) x (.ins HC dy fh)=H4 at u2 zx ⊢;have Ph:=UF.trans u2;refine⟨_,Z,d,DC,_,_,_,Z,Ph _ _ hd,bZ.cl,bZ.na _ (by trivial),hF.things,_,Z,wl,_,_,_,Z,Z,bI.of (Ph _ _ hw),bb (j:=0) Z,th,_,Z,GX.k (k:=.inr nm) (Ph _ _ wv) (o9 (m:=1000) (by omega)),?_⟩;refine q x n v H4 Ph ⟨?_,?_,?_⟩
 .exact⟨dy,fh,by rw[eV (UF.free hx)];exact zx,VH⟩
 .rw[eV (s0.free n0)];exact u2 _ _ ((s2.trans s3) _ _ vx)
 .exact dS.up (kj (s0.trans s1) (s3.trans u2)) hv
def Ay(HC DC:ai):Sp:=λvs H Q _=>∃(d th dx wl x0 na:ai)(fl:List (aE × V))(py v:V)(bM:List (Key × V))(m:Nat)(n1 n0:aE)(names:List aE)(G:List Row),vs=[.ref d,.ref wl]/\H d=O (.ins DC dx fl)/\Fu fl th py m/\H th=O (.dK bM)/\bM.length<1000/\H wl=O (.lst [.str n1,.str n0])/\a0b n1=true/\eO bM (.inr n0)=O (.ref x0)/\Nl HC H x0 na v names G/\tM (fo G)/\(∀ r∈G,r.2.2.length<=62) /\
 ∀(x:ai)(v':V)(H1:Hp),aU H H1->HeldAt HC (jf H H1) x "game" na v'->hZ (jf H H1) (a0d (fo G)) v'->Q (.str "ok") (upd H1 th (.dK (a0f bM (.inr n1) (.ref x))))
theorem Lj(F:aN K mg "say_turn" l4 ["desk","words"])(T:Txt mg)(bC:ClsAt K mg "Held" HC mM)(bZ:ClsAt K mg "Desk" DC nY)(nV:Dn P w K mg base "check_name" 3 ["word"] Tz)(ng:Dn P w K mg base "held_by" 1 ["desk","name","kinds"] (Px K HC DC))(JR:Dn P w K mg base "turned" 7 ["game"] GD)(gU:GZ P w K mg base HC 1 ["self","kind","names","thing"] (uQ HC)):Dn P w K mg base "say_turn" 8 ["desk","words"] (Ay HC DC):=by
 have sc:=CP;refine F.ok sc (λvs H Q E h=>?_) (λf dW A outer s H vs Q E hr h=>?_)
 .obtain⟨_,_,_,_,_,_,_,_,_,_,_,_,_,_,_,rfl,_⟩:=h;rfl
 obtain⟨d,th,dx,wl,x0,na,fl,py,v,bM,m,n1,n0,names,G,rfl,hd,hF,wv,hk,hw,qg,M9,hG,Um,Vn,q⟩:=h;refine⟨_,(ak (cL (b9 nV hr (aa (be (iy (K:=K) Z) (pv 1) aD (λ_ _=>rfl)) am)))
   (ak (bz (i:=2) sc.nd Z (aY Z) (b9 ng hr (aa (pv 0) (aa (be (iy (K:=K) Z) (pv 1) aD (λ_ _=>rfl)) (aa (gt (aa cq (aa cq am))) am)))))
   (ak (bz (i:=3) sc.nd Z (aY Z) (rH (cA lR (bV (K:=K) Z (pv 2) Z) cq (de _)) (b9 JR hr (aa (bV (K:=K) Z (pv 2) Z) am)) LB))
   (ak (Gi (KO hr 1) (bV (K:=K) Z (pv 0) Z) (be (iy (K:=K) Z) (pv 1) aD (λ_ _=>rfl)) (vM bC gU hr (aa (bV (K:=K) Z (pv 2) Z) (aa (bV (K:=K) Z (pv 2) Z) (aa (pv 3) am)))) Z)
   (aA (bU cq)))))),?_⟩
 refine⟨_,Z,wl,_,_,_,Z,Z,bI.of hw,bb (j:=0) Z,n1,Z,qg,λH0 s0=>?_⟩;refine⟨_,Z,_,Z,wl,_,_,_,Z,Z,bI.of (s0 _ _ hw),bb (j:=1) Z,(by show 2<=az;decide),λtp zv=>?_⟩;have s1:=s0.trans (av zv (.tup [V.str "game",V.str "purse"]));have Et:upd H0 tp (.tup [V.str "game",V.str "purse"]) tp=O (.tup [V.str "game",V.str "purse"]):=ao;generalize upd H0 tp (.tup [V.str "game",V.str "purse"])=H1 at s1 Et ⊢;have zn:=hG.up s1;obtain⟨dy,fy,zw,hy⟩:=id zn.held;refine⟨d,th,dx,x0,na,tp,fl,py,v,bM,m,n0,"game",["game","purse"],Z,s1 _ _ hd,hF,s1 _ _ wv,M9,zn.held,gA.of Et,by simp,?_⟩;refine⟨_,Z,x0,HC,_,_,_,Z,zw,bC.cl,bC.na _ (by trivial),hy.kind,Z,?_⟩;rw[decide_eq_true rfl];refine⟨_,Z,?_⟩;refine KS ?_;refine⟨_,Z,x0,HC,_,_,_,Z,zw,bC.cl,bC.na _ (by trivial),hy.CZ,_,G,Z,zn.NP,Um,Vn,λv' H2 s2 AW=>?_⟩;have zx:=s2 _ _ zw;have s02:=s1.trans s2;refine⟨_,Z,x0,HC,_,_,_,Z,zx,bC.cl,bC.na _ (by trivial),hy.kind,_,Z,x0,HC,_,_,_,Z,zx,bC.cl,bC.na _ (by trivial),hy.names,_,Z,λx dz hx YZ ne=>?_⟩;refine⟨x,dz,"game",na,v',Z,ao,λfh VH=>⟨Z,?_⟩⟩;rw[mL];have u2:aU H2 (upd (upd H2 dz (.own x)) x (.ins HC dz fh)):=(av YZ (.own x)).trans (av (by rw[bh (cg ne)];exact hx) _);have vz:upd (upd H2 dz (.own x)) x (.ins HC dz fh) x=O (.ins HC dz fh):=ao;generalize upd (upd H2 dz (.own x)) x (.ins HC dz fh)=H4 at u2 vz ⊢;have Ph:=s02.trans u2;refine⟨_,Z,d,DC,_,_,_,Z,Ph _ _ hd,bZ.cl,bZ.na _ (by trivial),hF.things,_,Z,wl,_,_,_,Z,Z,bI.of (Ph _ _ hw),bb (j:=0) Z,th,_,Z,GX.k (k:=.inr n1) (Ph _ _ wv) (o9 (m:=1000) (by omega)),?_⟩;exact q x v' H4 Ph ⟨dz,fh,by rw[eV (s02.free hx)];exact vz,VH⟩ (dS.up (kj s1 u2) AW)
structure G0(G:List Row):Prop where
 ok:Dk G
 mh:Ri G
 ne:NE G
 rk:∀ z:Int,0<=z->z<G.length->0<=rk G z/\rk G z<41
def GF(HC DC:ai):Sp:=λvs H Q _=>∃(d th dx wl x0 na:ai)(fl:List (aE × V))(py v:V)(bM:List (Key × V))(m:Nat)(n0 z:aE)(names:List aE)(G:List Row)(j:Nat),vs=[.ref d,.ref wl]/\H d=O (.ins DC dx fl)/\Fu fl th py m/\H th=O (.dK bM)/\H wl=O (.lst [.str n0,.str z])/\eO bM (.inr n0)=O (.ref x0)/\Nl HC H x0 na v names G/\G0 G/\names.Nodup/\names[j]?=O z/\j<G.length /\
 ∀(hf:Int->Int)(wf:Int->Option Int)(H1:Hp),aU H H1->FG G (je G) hf wf->Q (.str (sg (hf (j:Nat)))) H1
theorem Tc(F:aN K mg "say_won" nK ["desk","words"])(T:Txt mg)(bC:ClsAt K mg "Held" HC mM)(bZ:ClsAt K mg "Desk" DC nY)(ng:Dn P w K mg base "held_by" 1 ["desk","name","kinds"] (Px K HC DC))(qr:Dn P w K mg base "place_in" 1 ["held","name"] (Mc K HC))(u6:Dn P w K mg base "solved" 49 ["game"] wb):Dn P w K mg base "say_won" 50 ["desk","words"] (GF HC DC):=by
 have sc:=Fa;refine F.ok sc (λvs H Q E h=>?_) (λf dW A outer s H vs Q E hr h=>?_)
 .obtain⟨_,_,_,_,_,_,_,_,_,_,_,_,_,_,_,_,rfl,_⟩:=h;rfl
 obtain⟨d,th,dx,wl,x0,na,fl,py,v,bM,m,n0,z,names,G,j,rfl,hd,hF,wv,hw,M9,hG,hS,JF,hj,Qu,q⟩:=h;refine⟨_,(ak (bz (i:=2) sc.nd Z (aY Z) (b9 ng hr (aa (pv 0) (aa (be (iy (K:=K) Z) (pv 1) aD (λ_ _=>rfl)) (aa (gt (aa cq am)) am)))))
   (ak (bz (i:=3) sc.nd Z (aY Z) (b9 qr hr (aa (pv 2) (aa (be (iy (K:=K) Z) (pv 1) aD (λ_ _=>rfl)) am))))
   (aA (bU (be qG (pF T.lA) (be (iy (K:=K) Z) (be (m9 (K:=K) Z) (b9 u6 hr (aa (bV (K:=K) Z (pv 2) Z) am)) aD (λ_ _=>rfl)) (pv 3) (λ_ _=>rfl)) (λ_ _=>rfl)))))),?_⟩
 refine⟨_,Z,_,Z,wl,_,_,_,Z,Z,bI.of hw,bb (j:=0) Z,(by show 1<=az;decide),λtp zv=>?_⟩;have s1:=av zv (.tup [V.str "game"]);have Et:upd H tp (.tup [V.str "game"]) tp=O (.tup [V.str "game"]):=ao;generalize upd H tp (.tup [V.str "game"])=H1 at s1 Et ⊢;have zn:=hG.up s1;obtain⟨dy,fy,zw,hy⟩:=id zn.held;refine⟨d,th,dx,x0,na,tp,fl,py,v,bM,m,n0,"game",["game"],Z,s1 _ _ hd,hF,s1 _ _ wv,M9,zn.held,gA.of Et,by simp,?_⟩;refine⟨_,Z,_,Z,wl,_,_,_,Z,Z,bI.of (s1 _ _ hw),bb (j:=1) Z,x0,na,v,"game",z,names,j,Z,zn.held,bI.of zn.names,JF,hj,?_⟩;refine⟨_,Z,x0,HC,_,_,_,Z,zw,bC.cl,bC.na _ (by trivial),hy.CZ,_,G,Z,zn.NP,hS.ok,hS.mh,hS.ne,hS.rk,λt ha wa hf wf H2 s2 EG nh nw ht Dx uh lC=>?_⟩;have R1:je G ((j:Nat):Int):=⟨by omega,by omega⟩
 have mh:=lC.mh _ R1;obtain⟨c,hc,ec⟩:=QN mh;have a2:oB ((im G.length hf).map V.int) ((j:Nat):Int)=O (.int (hf (j:Nat))):=fi R1.1 (by rw[au,rq R1.1 R1.2];rfl);refine⟨t,_,_,_,Z,Z,gA.of ht,bb (j:=0) Z,_,Z,ha,_,_,_,Z,Z,bI.of Dx,a2,"+-",_,c,Z,Z,(by trivial),hc,?_⟩;rw[ec];exact q hf wf H2 (s1.trans (s2.trans iz)) lC
def Aw(HC DC R:ai):Sp:=λvs H Q _=>∃(d th dx wl x0 na:ai)(fl:List (aE × V))(py v:V)(bM:List (Key × V))(m:Nat)(n0 z:aE)(names:List aE)(G:List Row)(j:Nat),vs=[.ref d,.ref wl]/\H d=O (.ins DC dx fl)/\Fu fl th py m/\m<900/\H th=O (.dK bM)/\H wl=O (.lst [.str n0,.str z])/\eO bM (.inr n0)=O (.ref x0)/\Nl HC H x0 na v names G/\G0 G/\names.Nodup/\names[j]?=O z/\j<G.length /\
 ∀(x dr ph:ai)(fr:List (aE × V))(hf:Int->Int)(wf:Int->Option Int)(wa oa ua:ai)(H1:Hp),aU H (L2.del H1 x)->H x=Y->MT (jf H (L2.del H1 x)) G wf wa oa ua->H1 x=O (.ins R dr fr)->J0 fr (hf (j:Nat)) (j:Nat) wa oa ua 5->FG G (je G) hf wf->HeldAt HC (jf H (L2.del H1 x)) ph "game" na (.ref x)->Q (.str (sg (hf (j:Nat)))) (upd H1 d (.ins DC dx (cE "play" (.ref ph) fl)))
theorem Lh(F:aN K mg "play_ranks" jW ["desk","words"])(T:Txt mg)(bC:ClsAt K mg "Held" HC mM)(bZ:ClsAt K mg "Desk" DC nY)(aJ:ClsAt K mg "RankPlay" R sL)(ng:Dn P w K mg base "held_by" 1 ["desk","name","kinds"] (Px K HC DC))(qr:Dn P w K mg base "place_in" 1 ["held","name"] (Mc K HC))(pS:GZ P w K mg base R 50 ["self","game","start"] (Gx R))(gU:GZ P w K mg base HC 1 ["self","kind","names","thing"] (uQ HC)):Dn P w K mg base "play_ranks" 52 ["desk","words"] (Aw HC DC R):=by
 have sc:=xv;refine F.ok sc (λvs H Q E h=>?_) (λf dW A outer s H vs Q E hr h=>?_)
 .obtain⟨_,_,_,_,_,_,_,_,_,_,_,_,_,_,_,_,rfl,_⟩:=h;rfl
 obtain⟨d,th,dx,wl,x0,na,fl,py,v,bM,m,n0,z,names,G,j,rfl,hd,hF,hm,wv,hw,M9,hG,hS,JF,hj,Qu,q⟩:=h;refine⟨_,(ak (bz (i:=2) sc.nd Z (aY Z) (b9 ng hr (aa (pv 0) (aa (be (iy (K:=K) Z) (pv 1) aD (λ_ _=>rfl)) (aa (gt (aa cq am)) am)))))
   (ak (bz (i:=3) sc.nd Z (aY Z) (vM aJ pS hr (aa (bV (K:=K) Z (pv 2) Z) (aa (b9 qr hr (aa (pv 2) (aa (be (iy (K:=K) Z) (pv 1) aD (λ_ _=>rfl)) am))) am))))
   (ak (fT (K:=K) Z (pv 0) (vM bC gU hr (aa cq (aa (bV (K:=K) Z (pv 2) Z) (aa (pv 3) am)))) Z)
   (aA (bU (be qG (pF T.lA) (bV (K:=K) Z (pv 3) Z) (λ_ _=>rfl))))))),?_⟩
 refine⟨_,Z,_,Z,wl,_,_,_,Z,Z,bI.of hw,bb (j:=0) Z,(by show 1<=az;decide),λtp zv=>?_⟩;have s1:=av zv (.tup [V.str "game"]);have Et:upd H tp (.tup [V.str "game"]) tp=O (.tup [V.str "game"]):=ao;generalize upd H tp (.tup [V.str "game"])=H1 at s1 Et ⊢;have zn:=hG.up s1;obtain⟨dy,fy,zw,hy⟩:=id zn.held;refine⟨d,th,dx,x0,na,tp,fl,py,v,bM,m,n0,"game",["game"],Z,s1 _ _ hd,hF,s1 _ _ wv,M9,zn.held,gA.of Et,by simp,?_⟩;have R1:je G ((j:Nat):Int):=⟨by omega,by omega⟩
 refine⟨_,Z,x0,HC,_,_,_,Z,zw,bC.cl,bC.na _ (by trivial),hy.CZ,_,Z,_,Z,wl,_,_,_,Z,Z,bI.of (s1 _ _ hw),bb (j:=1) Z,x0,na,v,"game",z,names,j,Z,zn.held,bI.of zn.names,JF,hj,λx dr hx VE ne=>?_⟩;have ux:aU H1 (upd (upd H1 dr (.own x)) x (.ins R dr [])):=(av VE (.own x)).trans (av (by rw[bh (cg ne)];exact hx) _);refine⟨x,dr,v,G,(j:Nat),H1,Z,ux,hx,ao,zn.NP,hS.ok,hS.mh,hS.ne,hS.rk,R1,λdr' fr hf wf wa oa ua H2 s2 hD zx JB lC=>⟨Z,?_⟩⟩;have XH:aU H1 H2:=s2.trans (kL _ _);have aci:=XH _ _ zw;refine⟨_,Z,x0,HC,_,_,_,Z,aci,bC.cl,bC.na _ (by trivial),hy.names,_,Z,λph dp N2 hdp ne2=>?_⟩;refine⟨ph,dp,"game",na,.ref x,Z,ao,λfh VH=>⟨Z,?_⟩⟩;rw[mL];have u2:aU H2 (upd (upd H2 dp (.own ph)) ph (.ins HC dp fh)):=(av hdp (.own ph)).trans (av (by rw[bh (cg ne2)];exact N2) _);have Wp:upd (upd H2 dp (.own ph)) ph (.ins HC dp fh) ph=O (.ins HC dp fh):=ao;generalize upd (upd H2 dp (.own ph)) ph (.ins HC dp fh)=H3 at u2 Wp ⊢;have vz:=u2 _ _ zx;have npx:ph≠x:=λe=>by rw[e,zx] at N2;cases N2
 have ndx:x≠d:=λe=>by rw[e,s1 _ _ hd] at hx;cases hx
 have NS:H3 d=O (.ins DC dx fl):=u2 _ _ (XH _ _ (s1 _ _ hd));refine⟨_,Z,d,DC,dx,fl,Z,NS,bZ.cl,bZ.na _ (by trivial),(by have:=hF.len;omega),?_⟩;have mh:=lC.mh _ R1;obtain⟨c,hc,ec⟩:=QN mh;refine⟨_,Z,x,R,_,_,_,Z,(by rw[bh ndx];exact vz),aJ.cl,aJ.na _ (by trivial),JB.hand,"+-",_,c,Z,Z,(by trivial),hc,?_⟩;rw[ec];have sd:aU (L2.del H2 x) (L2.del H3 x):=lO u2 x;refine q x dr' ph fr hf wf wa oa ua H3 (λb o e=>?_) (s1.free hx) (hD.up (kj s1 sd)) vz JB lC ⟨dp,fh,?_,VH⟩
 .exact sd _ _ (s2 _ _ (s1 _ _ e))
 .rw[eV ((s1.trans XH).free N2),dF npx];exact Wp
def L7(HC DC R:ai):Sp:=λvs H Q _=>∃(d th dx wl ph na x dr:ai)(fl fr:List (aE × V))(m m2:Nat)(G:List Row)(wf:Int->Option Int)(h p q:Int)(wa oa ua:ai)(names:List aE)(z:aE),vs=[.ref d,.ref wl]/\H d=O (.ins DC dx fl)/\Fu fl th (.ref ph) m/\HeldAt HC H ph "game" na (.ref x)/\H na=O (.lst (names.map V.str))/\H x=O (.ins R dr fr)/\J0 fr h p wa oa ua m2/\m2<900/\MT H G wf wa oa ua/\je G p/\hd G p=h/\wf p=O q/\0<=q/\names[q.toNat]?=O z /\
 ∀ H1,aU H H1->Q (.str z) (upd H1 x (.ins R dr (cE "at" (.int q) fr)))
theorem S7(F:aN K mg "say_go" o6 ["desk","words"])(T:Txt mg)(bC:ClsAt K mg "Held" HC mM)(aJ:ClsAt K mg "RankPlay" R sL)(oF:Dn P w K mg base "play_held" 1 ["desk","kinds"] (TB K HC DC))(wI:tL P w K mg base R "go" 2 ["self"] (XS R)):Dn P w K mg base "say_go" 3 ["desk","words"] (L7 HC DC R):=by
 have sc:=IW;refine F.ok sc (λvs H Q E h=>?_) (λf dW A outer s H vs Q E hr h=>?_)
 .obtain⟨_,_,_,_,_,_,_,_,_,_,_,_,_,_,_,_,_,_,_,_,_,_,rfl,_⟩:=h;rfl
 obtain⟨d,th,dx,wl,ph,na,x,dr,fl,fr,m,m2,G,wf,h,p,q,wa,oa,ua,names,z,rfl,hd,hF,hH,hn,hx,JB,Dz,hD,hp,hh,hw,q0,hz,qq⟩:=h;refine⟨_,(ak (bz (i:=2) sc.nd Z (aY Z) (b9 oF hr (aa (pv 0) (aa (gt (aa cq (aa cq am))) am))))
   (aA (bU (be (iy (K:=K) Z) (bV (K:=K) Z (pv 2) Z) (O1 aJ.cl wI hr (bV (K:=K) Z (pv 2) Z)) (λ_ _=>rfl))))),?_⟩
 refine⟨_,Z,(by show 2<=az;decide),λtp zv=>?_⟩;have s1:=av zv (.tup [V.str "game",V.str "purse"]);have Et:upd H tp (.tup [V.str "game",V.str "purse"]) tp=O (.tup [V.str "game",V.str "purse"]):=ao;generalize upd H tp (.tup [V.str "game",V.str "purse"])=H1 at s1 Et ⊢;have Qh:=hH.up s1;obtain⟨dy,fy,xZ,hy⟩:=id Qh;refine⟨d,th,dx,ph,na,tp,fl,.ref x,m,"game",["game","purse"],Z,s1 _ _ hd,hF,Qh,gA.of Et,by simp,?_⟩;have nx:na≠x:=λe=>by rw[e,hx] at hn;cases hn
 refine⟨_,Z,ph,HC,_,_,_,Z,xZ,bC.cl,bC.na _ (by trivial),hy.names,_,Z,ph,HC,_,_,_,Z,xZ,bC.cl,bC.na _ (by trivial),hy.CZ,x,dr,fr,Z,s1 _ _ hx,JB.go,x,dr,fr,G,wf,h,p,q,wa,oa,ua,m2,Z,s1 _ _ hx,JB,Dz,hD.up s1,hp,hh,hw,?_⟩;refine⟨na,_,_,_,Z,Z,bI.of (by rw[bh nx];exact s1 _ _ hn),fi q0 (by rw[au,hz];rfl),?_⟩;exact qq H1 s1
def Fj(HC DC R:ai):Sp:=λvs H Q _=>∃(d th dx wl ph na x dr:ai)(fl fr:List (aE × V))(m m2:Nat)(G:List Row)(wf:Int->Option Int)(h p:Int)(j:Nat)(wa oa ua:ai)(names:List aE)(z:aE),vs=[.ref d,.ref wl]/\H wl=O (.lst [.str z])/\H d=O (.ins DC dx fl)/\Fu fl th (.ref ph) m/\HeldAt HC H ph "game" na (.ref x)/\H na=O (.lst (names.map V.str))/\names.Nodup/\names[j]?=O z/\H x=O (.ins R dr fr)/\J0 fr h p wa oa ua m2/\m2<900/\MT H G wf wa oa ua/\je G p/\¬ hd G p=h/\((j:Nat):Int)∈wy G p /\
 ∀ H1,aU H H1->Q (.str "ok") (upd H1 x (.ins R dr (cE "at" (.int (j:Nat)) fr)))
theorem ON(F:aN K mg "say_go_other" ij ["desk","words"])(T:Txt mg)(bC:ClsAt K mg "Held" HC mM)(aJ:ClsAt K mg "RankPlay" R sL)(oF:Dn P w K mg base "play_held" 1 ["desk","kinds"] (TB K HC DC))(sJ:tL P w K mg base R "other" 3 ["self","place"] (GB R)):Dn P w K mg base "say_go_other" 4 ["desk","words"] (Fj HC DC R):=by
 have sc:=ul;refine F.ok sc (λvs H Q E h=>?_) (λf dW A outer s H vs Q E hr h=>?_)
 .obtain⟨_,_,_,_,_,_,_,_,_,_,_,_,_,_,_,_,_,_,_,_,_,_,rfl,_⟩:=h;rfl
 obtain⟨d,th,dx,wl,ph,na,x,dr,fl,fr,m,m2,G,wf,h,p,j,wa,oa,ua,names,z,rfl,oT,hd,hF,hH,hn,nd,hz,hx,JB,Dz,hD,hp,hh,hw,qq⟩:=h;refine⟨_,(ak (bz (i:=2) sc.nd Z (aY Z) (b9 oF hr (aa (pv 0) (aa (gt (aa cq (aa cq am))) am))))
   (ak (dE (cA (lQ (K:=K) Z) (be (iy (K:=K) Z) (pv 1) aD (λ_ _=>rfl)) (bV (K:=K) Z (pv 2) Z) Z)
   (aA dZ)
   cv)
   (ak (cL (gP aJ.cl sJ hr (bV (K:=K) Z (pv 2) Z) (aa (ge ba eZ jv tj (bV (K:=K) Z (pv 2) Z) (aa (be (iy (K:=K) Z) (pv 1) aD (λ_ _=>rfl)) am)) am)))
   (aA (bU cq))))),?_⟩
 refine⟨_,Z,(by show 2<=az;decide),λtp zv=>?_⟩;have s1:=av zv (.tup [V.str "game",V.str "purse"]);have Et:upd H tp (.tup [V.str "game",V.str "purse"]) tp=O (.tup [V.str "game",V.str "purse"]):=ao;generalize upd H tp (.tup [V.str "game",V.str "purse"])=H1 at s1 Et ⊢;have Qh:=hH.up s1;obtain⟨dy,fy,xZ,hy⟩:=id Qh;refine⟨d,th,dx,ph,na,tp,fl,.ref x,m,"game",["game","purse"],Z,s1 _ _ hd,hF,Qh,gA.of Et,by simp,?_⟩;have nx:na≠x:=λe=>by rw[e,hx] at hn;cases hn
 refine⟨_,Z,wl,_,_,_,Z,Z,bI.of (s1 _ _ oT),bb (j:=0) Z,_,Z,ph,HC,_,_,_,Z,xZ,bC.cl,bC.na _ (by trivial),hy.names,na,_,Z,.inl (bI.of (s1 _ _ hn)),Z,gZ _,?_⟩;rw[if_pos Z,mB,decide_eq_true (ag hz)];refine⟨false,Z,?_⟩;refine gO ?_;refine⟨_,Z,ph,HC,_,_,_,Z,xZ,bC.cl,bC.na _ (by trivial),hy.CZ,x,dr,fr,Z,s1 _ _ hx,JB.oth,_,Z,ph,HC,_,_,_,Z,xZ,bC.cl,bC.na _ (by trivial),hy.names,.inl ⟨Z,_,bI.of (s1 _ _ hn)⟩,_,Z,wl,_,_,_,Z,Z,bI.of (s1 _ _ oT),bb (j:=0) Z,na,_,_,j,Z,Z,bI.of (s1 _ _ hn),Z,gZ _,oO nd hz,x,dr,fr,G,wf,h,p,(j:Nat),wa,oa,ua,m2,Z,s1 _ _ hx,JB,Dz,hD.up s1,hp,hh,hw,?_⟩;exact qq H1 s1
def a0c(z:aE):List aE:=if (bK z " ").headD "" ∈ (["game","purse","wish"]:List aE) then dj z " " 2 else bK z " "
theorem Ou(z:aE):(dj z " " 2).length<=3:=by
 unfold dj;split
 .exact gn (show 1<3 by decide)
 .split
  .exact gn (show 1<3 by decide)
  .rw[jw];have h:=StrLaws.occ_length_le z " " 0 z.length (Oq z 2);rw[ya] at h ⊢;generalize bW z " " 0 z.length 2=l at h ⊢
   match l,h with
   |[],_=>rw[PySem.StrLaws.partsFrom.eq_1];exact gn (show 1<3 by decide)
   |[_],_=>rw[PySem.StrLaws.partsFrom.eq_2,PySem.StrLaws.partsFrom.eq_1];exact gn (by show 2<3;decide)
   |[_,_],_=>rw[PySem.StrLaws.partsFrom.eq_2,PySem.StrLaws.partsFrom.eq_2,PySem.StrLaws.partsFrom.eq_1];exact ay 3
   |a::b::c::r,h=>exact absurd (show r.length+3<=2 from h) (by omega)
def XW:Sp:=λvs H Q _=>∃ z:aE,vs=[.str z]/\z.length<=100000/\∀(p:ai)(H':Hp),aU H H'->H' p=O (.lst ((a0c z).map V.str))->Q (.ref p) H'
theorem Lk(F:aN K mg "words_of" l5 ["row"])(T:Txt mg)(oI:u9 K mg "KINDS" ["game","purse","wish"]):Dn P w K mg base "words_of" 1 ["row"] XW:=by
 have sc:=CQ;refine F.ok sc (λvs H Q E h=>?_) (λf dW A outer s H vs Q E hr h=>?_)
 .obtain⟨_,rfl,_⟩:=h;rfl
 obtain⟨z,rfl,hz,q⟩:=h;refine⟨_,(ak (dE (ji (fM (bP (BM (K:=K) Z (T := "str")) Z T.jI eP (aa (pv 0) (aa (rG (v:=.ty "str") Z T.FI jG Z) am)))))
   (aA dZ)
   cv)
   (ak (bz (i:=1) sc.nd Z (aY Z) (ge cO gV gW rE (pv 0) (aa cq am)))
   (aA (bU (rH (cA (inS (K:=K) Z) (be (iy (K:=K) Z) (pv 1) aD (λ_ _=>rfl)) (O3 oI) Z) (ge cO gV gW IG (pv 0) (aa cq (aa aD am))) (pv 1)))))),?_⟩
 refine⟨_,Z,_,"str",_,Z,Z,rA _,_,Z,?_⟩;refine gO ?_;refine⟨_,Z,Z,z,_,Z,Z,Z,a0a (m:=100002) (by omega),λp hp=>?_⟩;have s1:=av hp (.lst ((bK z " ").map V.str));have tP:upd H p (.lst ((bK z " ").map V.str)) p=O (.lst ((bK z " ").map V.str)):=ao;generalize upd H p (.lst ((bK z " ").map V.str))=H1 at s1 tP ⊢;obtain⟨w0,ws,hs⟩:∃ w0 ws,bK z " " = w0::ws:=by
  have:=(mx z " ").1;cases e:bK z " " with
  |nil=>rw[e] at this;simp at this
  |cons a b=>exact⟨a,b,Z⟩
 have FV:oB ((bK z " ").map V.str) 0=O (.str w0):=by rw[hs];exact bb (j:=0) Z
 refine⟨_,Z,p,_,_,_,Z,Z,bI.of tP,FV,λa ha=>⟨a,_,Z,.inr (ha H1),Z,gZ _,?_⟩⟩;rw[if_neg (by decide),mB];refine⟨_,Z,?_⟩;refine gN (λc=>?_) (λc=>?_)
 .have c:=of_decide_eq_true c;have e:a0c z=dj z " " 2:=by unfold a0c;rw[hs];exact if_pos c
  refine⟨_,Z,Z,z,_,2,Z,Z,Z,by decide,by decide,a0a (m:=100002) (by omega),a0a (m:=100002) (by have:=Ou z;omega),λp2 NZ=>?_⟩;exact q p2 _ (s1.trans (av NZ _)) (by rw[e];exact ao)
 .have e:a0c z=bK z " " := by unfold a0c;rw[hs];exact if_neg (λc'=>c (decide_eq_true c'))
  exact⟨_,Z,q p _ s1 (by rw[e];exact tP)⟩
def o3(s:aE):Option Int:=if s = "PURSE" then O 70 else if s = "NUMBER" then O 9 else Y
def TX:List (aE × Int):=[("PURSE",70),("NUMBER",9)]
theorem Cf(s:aE):eO (TX.map λp=>((.inr p.1:Key),V.int p.2)) (.inr s)=(o3 s).map V.int:=by
 unfold o3 TX
 by_cases h:s = "PURSE"
 .subst h;rfl
 .rw[if_neg h]
  by_cases h2:s = "NUMBER"
  .subst h2;rfl
  .rw[if_neg h2];show eO [((.inr "PURSE" : Key),V.int 70),(.inr "NUMBER",V.int 9)] (.inr s)=Y;unfold eO;rw[kE (by intro z;have z:=of_decide_eq_true z;exact h (lc z).symm),kE (by intro z;have z:=of_decide_eq_true z;exact h2 (lc z).symm)];rfl
def numsOf(ps:List (aE × aE)):List (aE × aE):=ps.filter λp=>(o3 p.1).isSome
def vq(f:aE)(ws:List aE):Bool:=decide ((bK f " ").length=ws.length) && decide ((bK f " ").headD "" = ws.headD "") && (numsOf ((bK f " ").zip ws)).all λp=>mD p.2 ((o3 p.1).getD 0)
def rSS:Rel (aE × aE):=λH p v=>∃ t:ai,v=.ref t/\H t=O (.tup [.str p.1,.str p.2])
theorem zF:kJ rSS:=⟨λ_ _ p v s h=>by
 obtain⟨t,e,h⟩:=h;exact⟨t,e,s _ _ h⟩⟩
def L6:Sp:=λvs H Q _=>∃(f:aE)(wl:ai)(ws:List aE),vs=[.str f,.ref wl]/\H wl=O (.lst (ws.map V.str))/\f.length<=1000/\1<=ws.length/\(∀ x∈ws,x.length<=100000)/\∀ H',aU H H'->Q (.bl (vq f ws)) H'
theorem OE(F:aN K mg "fits" qL ["form","words"])(T:Txt mg)(fN:qu P w K mg "MOST_FIGURES" TX)(nW:Dn P w K mg base "is_figures" 2 ["word","most"] L5):Dn P w K mg base "fits" 3 ["form","words"] L6:=by
 have sc:=Po;refine F.ok sc (λvs H Q E h=>?_) (λf dW A outer s H vs Q E hr h=>?_)
 .obtain⟨_,_,_,rfl,_⟩:=h;rfl
 obtain⟨fm,wl,ws,rfl,hw,hf,mO,hwf,q⟩:=h;refine⟨_,(ak (bz (i:=2) sc.nd Z (aY Z) (ge cO gV gW rE (pv 0) (aa cq am)))
   (ak (dE (PW.pt (a0o (cA o5 (bP (gp (K:=K) Z) Z T.fR bu (aa (pv 2) am)) (bP (gp (K:=K) Z) Z T.fR bu (aa (pv 1) am)) (de _)) (a0m (cA o5 (be (iy (K:=K) Z) (pv 2) aD (λ_ _=>rfl)) (be (iy (K:=K) Z) (pv 1) aD (λ_ _=>rfl)) (de _)))))
   (aA (bU ln))
   cv)
   (ak (rJ (i:=3) (aC qL) ["form","words","parts","numbers"] ["part","word"] 2 [] sc.nd Z Z (EV (K:=K) Z Z T.Kb (aa (pv 2) (aa (pv 1) am))) (λ_ _ _ _ _ _=>(O9 (K:=K) Z Z (show cM (["part","word"]:List aE) by trivial) Z Z Z Z)) (λ_ _ _ _ _ _=>(mH (vS (OV (P:=P) (w:=w) (K:=K) Z Z Z (pv 0) (ym (P:=P) (w:=w) (K:=K) (mg:=mg) Z Z Z Z fN))))) (λ_ _ _ _ _ _=>(gt (aa (pv 0) (aa (pv 1) am)))))
   (aA (bU (bP (sR Z) Z T.J8 nP (aa (lS (aC qL) ["form","words","parts","numbers"] ["part","word"] 2 [] (cV (pv 3)) (λ_ _ _ _ _ _=>(O9 (K:=K) Z Z (show cM (["part","word"]:List aE) by trivial) Z Z Z Z)) (λ_ _ _ _ _ _=>gm) (λ_ _ _ _ _ _=>(b9 nW hr (aa (pv 1) (aa (Lw (P:=P) (w:=w) (K:=K) Z Z Z (ym (P:=P) (w:=w) (K:=K) (mg:=mg) Z Z Z Z fN) (pv 0) (λ_ _=>rfl)) am))))) am))))))),?_⟩
 refine⟨_,Z,Z,fm,_,Z,Z,Z,a0a (m:=100002) (by omega),λp hp=>?_⟩;have Ek:=mx fm " ";have s1:=av hp (.lst ((bK fm " ").map V.str));have tP:upd H p (.lst ((bK fm " ").map V.str)) p=O (.lst ((bK fm " ").map V.str)):=ao;generalize upd H p (.lst ((bK fm " ").map V.str))=H1 at s1 tP ⊢;have hQ:∀ H',aU H1 H'->Q (.bl (vq fm ws)) H':=λH' s'=>q H' (s1.trans s');unfold vq at hQ;generalize bK fm " " = ps at Ek tP hQ ⊢;have Zn:=s1 _ _ hw;refine⟨_,Z,p,_,Z,.inl (bI.of tP),_,Z,wl,_,Z,.inl (bI.of Zn),Z,_,Z,?_⟩;rw[ab,ab];refine gN (λc=>?_) (λc=>?_)
 .have c:¬ ps.length=ws.length:=λe=>by rw[e] at c;simp at c
  have:=hQ H1 (aU.refl _);rw[decide_eq_false c,iQ,iQ] at this;exact this
 have cl:ps.length=ws.length:=bX λe=>c (by
  have:decide (V.int ((ps.length:Nat):Int)=V.int ((ws.length:Nat):Int))=false:=decide_eq_false λz=>e (by injection z with z;omega);rw[this];rfl)
 obtain⟨p0,pr,rfl⟩:∃ a b,ps=a::b:=by
  cases ps with
  |nil=>simp at Ek
  |cons a b=>exact⟨a,b,Z⟩
 obtain⟨w0,wr,rfl⟩:∃ a b,ws=a::b:=by
  cases ws with
  |nil=>simp at mO
  |cons a b=>exact⟨a,b,Z⟩
 refine⟨_,Z,p,_,_,_,Z,Z,bI.of tP,bb (j:=0) Z,_,Z,wl,_,_,_,Z,Z,bI.of Zn,bb (j:=0) Z,Z,_,Z,?_⟩;refine gN (λc=>?_) (λc=>?_)
 .have c:¬ p0=w0:=λe=>by rw[e] at c;simp at c
  have:=hQ H1 (aU.refl _);rw[decide_eq_false (show ¬ (p0::pr).headD "" = (w0::wr).headD "" from c),AK,iQ] at this;exact this
 have ch:p0=w0:=bX λe=>c (by
  have:decide (V.str p0=V.str w0)=false:=decide_eq_false λz=>e (by injection z);rw[this];rfl)
 rw[decide_eq_true cl,decide_eq_true (show(p0::pr).headD "" = (w0::wr).headD "" from ch),su,su] at hQ;generalize p0::pr=ps at *;generalize w0::wr=ws at *;clear c ch;have m8:(ps.map V.str).length=ps.length:=ab _;have aik:(ws.map V.str).length=ws.length:=ab _;have Iv:(ps.zip ws).length=ps.length:=by rw[md];omega
 refine⟨_,Z,_,Z,p,wl,Z,⟨_,bI.of tP⟩,⟨_,bI.of Zn⟩,HH (K:=K) (a:=p) (b:=wl) (xs:=ps.map V.str) (zs:=ws.map V.str) ps.length (by omega) (by omega) (.inl (by omega)) (λi ys H3=>aU H1 H3/\gf (rSS H3) (numsOf ((ps.zip ws).take i)) ys) ⟨aU.refl _,.nil⟩ (a0a (m:=100002) (by omega)) (λi ys H3 hi h=>?_) (λi x z ys H3 T0 hi hx hz h hT=>?_) (λys H3 h np hnp=>?_)⟩
 .have:=h.2.length;unfold numsOf at this;have h2:=cC (λp:aE × aE=>(o3 p.1).isSome) ((ps.zip ws).take i);rw[db] at h2;exact⟨bI.of (h.1 _ _ tP),bI.of (h.1 _ _ Zn),by omega⟩
 .obtain⟨s3,pr⟩:=h;rw[au] at hx hz;obtain⟨x',Ir,rfl⟩:=d5.mp hx;obtain⟨z',Zq,rfl⟩:=d5.mp hz;have hzp:(ps.zip ws)[i]?=O (x',z'):=gb.mpr ⟨Ir,Zq⟩;have s4:=av hT (.tup [V.str x',V.str z']);refine⟨T0,_,Z,gA.of ao,Z,?_⟩;refine⟨_,Z,λd hd=>⟨d,_,.inr x',Z,hd,Z,_,Z,?_⟩⟩;rw[if_neg (by decide),Cf];have en:numsOf ((ps.zip ws).take (i+1))=numsOf ((ps.zip ws).take i)++if (o3 x').isSome=true then [(x',z')] else []:=by
   unfold numsOf;rw[aM,hzp,cD];show _++gh _ [(x',z')]=_;rw[List.filter_cons];rfl
  refine gN (λc=>?_) (λc=>?_)
  .rw[nk] at c;refine⟨_,Z,_,Z,(by show 2<=az;decide),λt ht=>?_⟩;rw[en,if_pos c];have s5:=s4.trans (av ht (.tup [V.str x',V.str z']));exact⟨s3.trans s5,Paired.app (dq zF s5 pr) (.cons ⟨t,Z,ao⟩ .nil)⟩
  .rw[nk] at c;rw[en,if_neg c,er];exact⟨s3.trans s4,dq zF s4 pr⟩
 obtain⟨s3,pr⟩:=h;rw[← Iv,aR] at pr;have s4:=av hnp (.lst ys);have Sa:upd H3 np (.lst ys) np=O (.lst ys):=ao;have ZA:=dq zF s4 pr;have Nc:=s3.trans s4;generalize upd H3 np (.lst ys)=H4 at Nc Sa ZA ⊢;have FX:∀ p∈numsOf (ps.zip ws),∃ m,o3 p.1=O m/\p.2.length<=100000:=λp hp=>by
  unfold numsOf at hp;obtain⟨h1,h2⟩:=bt.mp hp;obtain⟨m,hm⟩:=nO.mp h2;exact⟨m,hm,hwf _ (jD h1).2⟩
 have Ep:(numsOf (ps.zip ws)).length<=ps.length:=by rw[← Iv];exact cC _ _
 generalize numsOf (ps.zip ws)=nu at ZA FX Ep hQ;have Na:=ZA.length;refine⟨_,Z,np,Z,⟨_,bI.of Sa⟩,cW (K:=K) (a:=np) (xs:=ys) (λi l9 H5=>aU H4 H5/\l9=((nu.take i).map λp=>mD p.2 ((o3 p.1).getD 0)).map V.bl) ⟨aU.refl _,Z⟩ (a0a (m:=100002) (by omega)) (λi l9 H5 hi h=>?_) (λi y l9 H5 hi h=>?_) (λl9 H5 h ap hap=>?_)⟩
 .obtain⟨s5,rfl⟩:=h;exact⟨bI.of (s5 _ _ Sa),by simp;omega⟩
 .obtain⟨s5,rfl⟩:=h;obtain⟨⟨x',z'⟩,hpx,⟨t,rfl,ht⟩⟩:=Paired.ta ZA hi;obtain⟨mm,hmm,acp⟩:=FX _ (ag hpx);refine sV (gA.of (s5 _ _ ht)) Z ?_;refine⟨_,Z,λd hd=>⟨_,Z,d,_,.inr x',.int mm,Z,hd,Z,(by rw[Cf,hmm];rfl),z',mm,Z,acp,λH6 s6=>?_⟩⟩;refine⟨s5.trans s6,?_⟩;rw[aM,hpx,aB,aB];show _=_++[V.bl (mD z' ((o3 x').getD 0))];rw[hmm];rfl
 obtain⟨s5,rfl⟩:=h;rw[← Na,aR];refine⟨ap,_,Z,bI.of ao,?_⟩;rw[YH];exact hQ _ (Nc.trans (s5.trans (av hap _)))
abbrev xy:List (aE × aE):=[("game NAME TEXT","put_game"),("purse NAME TEXT","put_purses"),("wish NAME TEXT","put_wishes"),("drop NAME","say_drop"),("show NAME","say_show"),("turn NEW NAME","say_turn"),("won NAME PLACE","say_won"),("need NAME PLACE","say_need"),("serve NAME","say_serve"),("play NAME PLACE","play_ranks"),("play NAME PLACE PURSE","play_purses"),("play NAME","play_wishes"),("go","say_go"),("go PLACE","say_go_other"),("left","say_left"),("now","say_now"),("tick NUMBER","say_tick")]
def Mq:List aE:=xy.map (·.1)
theorem Mr:∀ x∈Mq,x.length<=1000:=by
 have:(Mq.all λx=>decide (x.length<=1000))=true:=by trivial
 exact λx hx=>of_decide_eq_true (bL.mp this x hx)
structure qZ(z:aE)(i:Nat)(qe name:aE):Prop where
 len:z.length<=100000
 HL:∀ x∈a0c z,x.length<=100000
 at_:xy[i]?=O (qe,name)
 fit:vq qe (a0c z)=true
 no:∀ j p,j<i->xy[j]?=O p->vq p.1 (a0c z)=false
def LZ(f:aE)(n:Nat)(w0:aE):Bool:=decide ((bK f " ").length=n) && decide ((bK f " ").headD "" = w0)
def CA(n:Nat)(w0:aE)(i:Nat):Bool:=(xy[i]?.any λp=>LZ p.1 n w0 && (bK p.1 " ").all λx=>(o3 x).isNone) && (xy.take i).all λp=>!LZ p.1 n w0
theorem rN{z:aE}{ws:List aE}{i:Nat}{qe name:aE}(hw:a0c z=ws)(hz:z.length<=100000)(HL:∀ x∈ws,x.length<=100000)(hi:xy[i]?=O (qe,name))(hx:CA ws.length (ws.headD "") i=true):qZ z i qe name:=by
 unfold CA at hx;rw[aQ,hi] at hx;obtain⟨h1,h2⟩:=hx;have h1:(LZ qe ws.length (ws.headD "") && (bK qe " ").all λx=>(o3 x).isNone)=true:=h1;rw[aQ] at h1;subst hw;refine⟨hz,HL,hi,?_,λj p hj hp=>?_⟩
 .have e:numsOf ((bK qe " ").zip (a0c z))=[]:=by
   unfold numsOf;rw[Fx];intro p hp hs;have:=bL.mp h1.2 _ (jD hp).1;rw[m6.mp this] at hs;cases hs
  have h3:=h1.1;unfold LZ at h3;unfold vq;rw[e,h3];rfl
 .have hm:p∈xy.take i:=ag (i:=j) (by rw[fP,if_pos hj];exact hp);have:=bL.mp h2 _ hm;unfold LZ at this;unfold vq;rw[(Bool.not_eq_eq_eq_not.mp this:_=!true),show(!true)=false from Z,iQ]
def GC(P:aS)(w:bv)(K:af)(mg:aE->Option ae)(base:cR):Sp:=λvs H Q _=>∃(d:ai)(z qe name:aE)(i n:Nat)(sp:Sp),vs=[.ref d,.str z]/\qZ z i qe name/\n<=52/\Dn P w K mg base name n ["desk","words"] sp/\∀(wl:ai)(H':Hp),aU H H'->H' wl=O (.lst ((a0c z).tail.map V.str))->sp [.ref d,.ref wl] H' Q E0
theorem a0I(z:aE):1<=(a0c z).length:=by
 unfold a0c;split
 .exact PyProof.Rows.splitMax_pos z " " 2
 .exact(mx z " ").1
theorem Tb(F:j5 K DC "say" "Desk.say" lU ["self","row"])(T:Txt mg)(pd:oH P w K mg "ROWS" xy)(DW:Dn P w K mg base "words_of" 1 ["row"] XW)(Rc:Dn P w K mg base "fits" 3 ["form","words"] L6):tL P w K mg base DC "say" 53 ["self","row"] (GC P w K mg base):=by
 have sc:=CF;refine F.ok sc (λvs H Q E h=>?_) (λf dW A outer s H vs Q E hr h=>?_)
 .obtain⟨_,_,_,_,_,_,_,rfl,_⟩:=h;rfl
 obtain⟨d,z,qe,name,i,n,sp,rfl,⟨hz,hwf,hi,RV,ug⟩,hn,D,q⟩:=h;refine⟨_,(ak (bz (i:=2) sc.nd Z (aY Z) (b9 DW hr (aa (pv 1) am)))
   (ak (fD bB Z (O6 Z pd) (cU (i:=3) sc.nd Z (aY Z))
   (aA (dE (fM (b9 Rc hr (aa (pv 3) (aa (pv 2) am))))
   (aA (bU (Lu (Cv (O2 pd.fn) (pv 3) (λ_ _=>rfl)) hr (aa (pv 0) (aa (nG (UK (K:=K) Z) (pv 2) (pI aD) pH) am)))))
   cv)))
   (aA dZ))),?_⟩
 refine⟨_,Z,z,Z,hz,λp H1 s1 hp=>?_⟩;have Dy:i<Mq.length:=by unfold Mq;rw[ab];exact(aj.mp hi).1
 refine Kj (ks:=Mq) (λk J H2=>k<=i/\∃ y,J=[O (.ref d),O (.str z),O (.ref p),y]/\aU H1 H2) ⟨bq _,_,Z,aU.refl _⟩ (λk x J H2 hk h=>?_) (λ J H2 h=>?_)
 .obtain⟨hki,y,rfl,s2⟩:=h;obtain⟨⟨x',nm⟩,VW,rfl⟩:=d5.mp (show(xy[k]?).map (·.1)=O x by rw[← au];exact hk);refine⟨_,Z,_,Z,x',p,a0c z,Z,s2 _ _ hp,Mr _ (ag hk),a0I z,hwf,λH3 s3=>?_⟩;refine⟨_,Z,?_⟩;refine gN (λc=>?_) (λc=>?_)
  .have e:k=i:=by
    rcases pW k i with h | h
    .rw[ug k _ h VW] at c;cases c
    .omega
   subst e;rw[hi] at VW;cases VW;refine λdd bM hK hv=>?_;obtain⟨fa,Zm,uI⟩:=hv (qe,name) (ag hi);obtain⟨f',fd,Fo,Dz,kp,hb⟩:=D.ex;have e:fa=f':=by
    have:=uI.symm.trans Dz;injection this with this;injection this
   subst e;refine⟨_,Z,dd,bM,.inr qe,_,Z,hK,Z,Zm,fa,fd,n,_,sp,Z,Fo,hn,kp,hb,?_⟩;refine⟨_,Z,_,Z,1,Z,p,_,Z,bI.of (s3 _ _ (s2 _ _ hp)),λwl oT=>?_⟩;refine q wl _ (s1.trans (s2.trans (s3.trans (av oT _)))) ?_;rw[ao];rw[nq,← UV,List.drop_one]
  .have ne:k≠i:=λe=>by
    subst e;rw[hi] at VW;cases VW;exact c RV
   exact⟨by omega,_,Z,s2.trans s3⟩
 .obtain⟨h1,_⟩:=h;exact absurd Dy (by omega)
theorem pA{z:aE}(h:a0b z=true):32 ∉ z.cps.toList:=λe=>by have:=(nB h).2.2 32 e;omega
theorem T7{kk k a b:aE}(hk:kk.cps.toList=k.cps.toList++[32])(h0:32 ∉ k.cps.toList)(hn:k ∉ (["game","purse","wish"]:List aE))(ha:32 ∉ a.cps.toList)(hb:32 ∉ b.cps.toList):a0c (kk++a ++ " " ++ b)=[k,a,b]:=by
 have e:kk++a ++ " " ++ b=fB " " [k,a,b]:=by
  have l1:(kk++a ++ " " ++ b).cps.toList=(fB " " [k,a,b]).cps.toList:=by
   rw[a0h,a0h,a0h,kh,hk];show _++[32]++_=k.cps.toList++[32]++(a.cps.toList++[32]++b.cps.toList);simp
  exact(a0g l1).trans (a0g Z).symm
 have hs:bK (kk++a ++ " " ++ b) " " = [k,a,b]:=by
  rw[e];refine oh (c:=32) (s:=[]) Z (by trivial) (by simp) λp hp=>?_;rcases aG.mp hp with rfl | hp
  .exact h0
  .rcases aG.mp hp with rfl | hp
   .exact ha
   .rw[bj.mp hp];exact hb
 unfold a0c;rw[hs];exact if_neg hn
theorem T6{kk k a:aE}(hk:kk.cps.toList=k.cps.toList++[32])(h0:32 ∉ k.cps.toList)(hn:k ∉ (["game","purse","wish"]:List aE))(ha:32 ∉ a.cps.toList):a0c (kk++a)=[k,a]:=by
 have e:kk++a=fB " " [k,a]:=by
  have l1:(kk++a).cps.toList=(fB " " [k,a]).cps.toList:=by
   rw[a0h,kh,hk];rfl
  exact(a0g l1).trans (a0g Z).symm
 have hs:bK (kk++a) " " = [k,a]:=by
  rw[e];refine oh (c:=32) (s:=[]) Z (by trivial) (by simp) λp hp=>?_;rcases aG.mp hp with rfl | hp
  .exact h0
  .rw[bj.mp hp];exact ha
 unfold a0c;rw[hs];exact if_neg hn
theorem T8{a b:aE}(ha:32 ∉ a.cps.toList):a0c ("game " ++ a ++ " " ++ b)=[("game" : aE),a,b]:=by
 have hz:("game " ++ a ++ " " ++ b:aE).cps.toList=("game" : aE).cps.toList++32::(a.cps.toList++32::b.cps.toList):=by
  rw[a0h,a0h,a0h,show(("game " : aE)).cps.toList=("game" : aE).cps.toList++[32] from by trivial];show _++[32]++_=_;simp
 have h0:32 ∉ (("game" : aE)).cps.toList:=by trivial
 obtain⟨t,ht⟩:=a0A hz h0;unfold a0c;rw[show bK ("game " ++ a ++ " " ++ b) " " = _ from ht];refine(if_pos (show(⟨("game" : aE).cps.toList.toArray⟩:aE)∈(["game","purse","wish"]:List aE) by trivial)).trans ?_;exact Jh hz h0 ha
def Ar(K:af):Sp:=λvs H Q _=>∃(a:ai)(ns:List Int)(k:Int),vs=[.ref a,.int k]/\bI K H a (ns.map V.int)/\0<=k/\∀ m:Int,Q (.int m) H
theorem OD(F:aN K mg "_law_cell_at" i4 ["_law_script","_law_k"])(T:Txt mg):Dn P w K mg base "_law_cell_at" 1 ["_law_script","_law_k"] (Ar K):=by
 have sc:=vY;refine F.ok sc (λvs H Q E h=>?_) (λf dW A outer s H vs Q E hr h=>?_)
 .obtain⟨a,ns,k,rfl,_⟩:=h;rfl
 obtain⟨a,ns,k,rfl,hS,h0,q⟩:=h;have hl:(ns.map V.int).length=ns.length:=ab _;refine⟨_,(ak (dE (cA Cs (pv 1) (bP (gp (K:=K) Z) Z T.fR bu (aa (pv 0) am)) (de _))
   (aA (bU (be (iy (K:=K) Z) (pv 0) (pv 1) (λ_ _=>rfl))))
   cv)
   (aA (bU aD))),?_⟩
 refine⟨_,Z,_,Z,a,_,Z,.inl hS,_,_,Z,Z,_,Z,?_⟩;refine gN (λc=>?_) (λc=>?_)
 .have c':=of_decide_eq_true c;rw[hl] at c';obtain⟨m,hm⟩:∃ m,ns[k.toNat]?=O m:=⟨ns[k.toNat]'(by omega),by simp⟩
  exact⟨_,Z,_,Z,a,_,_,_,Z,Z,hS,fi h0 (by rw[au,hm];rfl),q m⟩
 .exact q 0
def Cb(t:Int):Nat:=97+t.toNat
def Ug:aE := "abcdefghijklmnopqrstuvwxyz"
theorem Rt:∀ t:Int,0<=t->t<26->oB Ug.cps.toList t=O (Cb t):=by
 have h:(bn 26).all (λk=>decide (oB Ug.cps.toList ((k:Nat):Int)=O (Cb ((k:Nat):Int))))=true:=by trivial
 intro t h0 h1;have:=bL.mp h t.toNat (cm.mpr (by omega));rw[show((t.toNat:Nat):Int)=t by omega] at this;exact of_decide_eq_true this
theorem IH{l:List Nat}(h1:1<=l.length)(h8:l.length<=8)(h:∀ c∈l,97<=c/\c<=122):a0b ⟨l.toArray⟩=true:=by
 have hb:(bn 26).all (λk=>decide (97+k∈Ug.cps.toList))=true:=by trivial
 have el:(⟨l.toArray⟩:aE).length=l.length:=by rw[a0e]
 unfold a0b;rw[aQ];refine⟨decide_eq_true (by rw[el];omega),bL.mpr λc hc=>?_⟩;rw[rs];refine decide_eq_true ?_;have HW:=h c hc;have:=of_decide_eq_true (bL.mp hb (c-97) (cm.mpr (by omega)));rw[show 97+(c-97)=c by omega] at this;exact this
theorem SQ{t:Int}(h0:0<=t)(h1:t<26):97<=Cb t/\Cb t<=122:=by unfold Cb;omega
def GN(l:List Int):aE:=⟨(l.map Cb).toArray⟩
theorem rZ(l:List Int):(GN l).cps.toList=l.map Cb:=rfl
theorem PV(l:List Int):(GN l).length=l.length:=by rw[a0e,rZ,ab]
theorem MH(l:List Int)(t:Int):GN l++⟨#[Cb t]⟩=GN (l++[t]):=by
 have:=a0h (GN l) ⟨#[Cb t]⟩;rw[rZ] at this;rw[a0g this];unfold GN;rw[aB];rfl
theorem MG{l:List Int}(h1:1<=l.length)(h8:l.length<=8)(h:∀ t∈l,0<=t/\t<26):a0b (GN l)=true:=by
 refine IH (by rw[ab];exact h1) (by rw[ab];exact h8) λc hc=>?_;obtain⟨t,ht,rfl⟩:=bE.mp hc;exact SQ (h t ht).1 (h t ht).2
theorem PU{l l':List Int}(h:∀ t∈l,0<=t)(h':∀ t∈l',0<=t)(e:GN l=GN l'):l=l':=by
 have e1:l.map Cb=l'.map Cb:=by rw[← rZ,← rZ,e]
 have back:∀ l:List Int,(∀ t∈l,0<=t)->(l.map Cb).map (λc:Nat=>(c:Int)-97)=l:=λl hl=>by
  rw[dD];have:l.map ((λc:Nat=>(c:Int)-97) ∘ Cb)=l.map id:=gK λt ht=>by
   have:=hl t ht;show((Cb t:Nat):Int)-97=t;unfold Cb;omega
  rw[this,List.map_id]
 rw[← back l h,← back l' h',e1]
def m3(H:Hp)(x p d:ai):Hp:=mn (L2.del H x) p d
theorem F7{H:Hp}{x p d:ai}:aU (m3 H x p d) H:=iz.trans (kL _ _)
theorem QH{H:Hp}{x p d c:ai}(h1:c≠x)(h2:c≠p)(h3:c≠d):m3 H x p d c=H c:=by unfold m3;rw[mG h2 h3,dF h1]
theorem SS{H:Hp}{x p d:ai}:m3 H x p d x=Y:=by
 unfold m3 mn L2.del;split
 .rfl
 .split
  .rfl
  .rw[if_pos rfl]
theorem SR{H:Hp}{x p d:ai}:m3 H x p d p=Y:=yb
theorem W3{H:Hp}{x p d:ai}:m3 H x p d d=Y:=vH
def ltN(c at' k:Int)(j:Nat):Int:=(c / ((j:Int)+3)+j+k*(if (j:Int)=at' then 1 else 0)) % 26
def II(c at' k:Int)(n:Nat):List Int:=(bn n).map (ltN c at' k)
theorem EH{c at' k:Int}{n:Nat}:∀ t∈II c at' k n,0<=t/\t<26:=λt ht=>by
 obtain⟨j,_,rfl⟩:=bE.mp ht;exact⟨cj _ (by decide),bN _ (by decide)⟩
theorem Ox{c at' k k':Int}{n:Nat}(h0:0<=at')(h1:at'<n)(a0:0<=k)(a1:k<26)(b0:0<=k')(b1:k'<26)(e:II c at' k n=II c at' k' n):k=k':=by
 have z:=congrArg (λl=>l[at'.toNat]?) e;unfold II at z;simp only [au,dH (show at'.toNat<n by omega),d8] at z;injection z with z;unfold ltN at z;rw[show((at'.toNat:Nat):Int)=at' by omega,if_pos rfl] at z;omega
def IJ(c at':Int)(n m:Nat):List aE:=(bn m).map λ(k:Nat)=>GN (II c at' (k:Int) n)
theorem Oy{c at':Int}{n m:Nat}(h0:0<=at')(h1:at'<n)(h8:n<=8)(hm:m<=26):qY (IJ c at' n m):=by
 constructor
 .unfold IJ;rw[AQ,kF];refine(AQ.mp List.nodup_range).imp_of_mem λ{a b} ha hb YS e=>?_;have l1:=cm.mp ha;have l2:=cm.mp hb;have:=Ox h0 h1 (by omega) (by omega) (by omega) (by omega) (PU (λt ht=>(EH t ht).1) (λt ht=>(EH t ht).1) e);omega
 .intro x hx;obtain⟨k,_,rfl⟩:=bE.mp hx;exact MG (by unfold II;rw[ab,gi];omega) (by unfold II;rw[ab,gi];exact h8) EH
def Gz:Sp:=λvs H Q _=>∃(c n:Int),vs=[.int c,.int n]/\0<=n/\n<=26/\∀(p:ai)(names:List aE)(H':Hp),aU H H'->H p=Y->H' p=O (.lst (names.map V.str))->names.length=n.toNat->qY names->Q (.ref p) H'
theorem Ld(F:aN K mg "_law_names" kT ["_law_cell","_law_many"])(T:Txt mg):Dn P w K mg base "_law_names" 1 ["_law_cell","_law_many"] Gz:=by
 have sc:=Ad;refine F.ok sc (λvs H Q E h=>?_) (λf dW A outer s H vs Q E hr h=>?_)
 .obtain⟨_,_,rfl,_⟩:=h;rfl
 obtain⟨c0,n,rfl,n0,n26,q⟩:=h;refine⟨_,(ak (bz (i:=2) sc.nd Z (aY Z) cq)
   (ak (bz (i:=0) sc.nd Z (aY Z) (bA dG (bA iN (pv 0) aD) aD))
   (ak (bz (i:=3) sc.nd Z (aY Z) (bA iM aD (bA dG (pv 0) aD)))
   (ak (bz (i:=4) sc.nd Z (aY Z) (bA dG (bA lE (pv 0) aD) (pv 3)))
   (ak (bz (i:=5) sc.nd Z (aY Z) (eY am))
   (ak (fD bB Z (lI Z T.mz (aa (pv 1) am)) (cU (i:=6) sc.nd Z (aY Z))
   (ak (bz (i:=7) sc.nd Z (aY Z) cq)
   (ak (fD bB Z (lI Z T.mz (aa (pv 3) am)) (cU (i:=8) sc.nd Z (aY Z))
   (ak (bz (i:=9) sc.nd Z (aY Z) (bA iM (bA iM (bA lE (pv 0) (bA iM (pv 8) aD)) (pv 8)) (bA iN (pv 6) (km Hm Z T.J9 nQ (aa (kI lR (pv 8) (pv 4) (de _)) am)))))
   (aA (bz (i:=7) sc.nd Z (aY Z) (bA cy (pv 7) (be qG (pv 2) (bA dG (pv 9) aD) (λ_ _=>rfl)))))))
   (aA (cL (ge ba bR bS fw (pv 5) (aa (pv 7) am)))))))
   (aA (bU (pv 5))))))))),?_⟩
 refine⟨_,Z,_,_,Z,Z,.inr ⟨by decide,by decide⟩,_,_,Z,Z,(show(0:Int)<65537 by decide),?_⟩;have e0:=cj (c0*48271) (show(65537:Int)≠0 by decide);have e1:=bN (c0*48271) (show(0:Int)<65537 by decide);generalize hc:c0*48271 % 65537=c at e0 e1;replace hc:(λi j:Int=>V.int (i % j)) (c0*48271) 65537=V.int c:=by rw[← hc]
 rw[hc];refine⟨_,Z,_,_,Z,Z,(show(0:Int)<8 by decide),_,_,Z,Z,?_⟩;have s0:=cj c (show(8:Int)≠0 by decide);have s1:=bN c (show(0:Int)<8 by decide);generalize hsz:1+c % 8=sz;have WD:(λi j:Int=>V.int (i+j)) 1 (c % 8)=V.int sz:=by rw[← hsz]
 rw[WD];have z0:1<=sz/\sz<=8:=by omega
 clear WD hsz s0 s1;refine⟨_,Z,_,_,Z,Z,⟨by decide,by decide⟩,_,Z,_,_,Z,Z,(show 0<sz by omega),?_⟩;have t0:=cj (c / 8) (show sz≠0 by omega);have t1:=bN (c / 8) (show 0<sz by omega);generalize FV:c / 8 % sz=at' at t0 t1;replace FV:(λi j:Int=>V.int (i % j)) (c / 8) sz=V.int at':=by rw[← FV]
 rw[FV];refine⟨bq _,λg hg=>?_⟩;refine⟨_,Z,n,Z,by omega,by omega,nt (lo:=0) (n:=n.toNat) (λi J H5=>∃ y1 y2 y3 y4:Option V,J=[O (.int c),O (.int n),O (.str Ug),O (.int sz),O (.int at'),O (.ref g),y1,y2,y3,y4]/\aU H H5/\H5 g=O (.lst ((IJ c at' sz.toNat i).map V.str)))
  ⟨_,_,_,_,Z,av hg _,ao⟩ (λi J H5 hi h=>?_) (λ J H5 h=>?_)⟩
 .obtain⟨y1,y2,y3,y4,rfl,s5,Ul⟩:=h;refine⟨_,Z,sz,Z,by omega,by omega,nt (lo:=0) (n:=sz.toNat) (λj J H6=>∃ y3 y4:Option V,J=[O (.int c),O (.int n),O (.str Ug),O (.int sz),O (.int at'),O (.ref g),O (.int (0+((i:Nat):Int))),O (.str (GN (II c at' (i:Int) j))),y3,y4]/\H6=H5)
   ⟨_,_,Z,Z⟩ (λj J H6 hj h=>?_) (λ J H6 h=>?_)⟩
  .obtain⟨y3,y4,rfl,rfl⟩:=h;have ek:c / ((0+((j:Nat):Int))+3)+(0+((j:Nat):Int))+(0+((i:Nat):Int))*(if decide (V.int (0+((j:Nat):Int))=V.int at')=true then 1 else 0)=c / (((j:Nat):Int)+3)+j+(i:Int)*(if ((j:Nat):Int)=at' then 1 else 0):=by
    rw[pV,pV]
    by_cases e:((j:Nat):Int)=at'
    .rw[if_pos e,if_pos (by rw[e];simp)]
    .rw[if_neg e,if_neg (by simp[e])]
   refine⟨_,Z,_,Z,_,_,Z,Z,_,_,Z,Z,⟨by omega,by omega⟩,_,Z,_,_,Z,Z,_,Z,_,Z,_,Z,Z,.inr ⟨_,Z,_,_,Z,Z,.inl ⟨by omega,by omega⟩,_,_,Z,Z,?_⟩⟩;have wl:(GN (II c at' (i:Int) j)).length=j:=by rw[PV];unfold II;simp
   refine⟨_,Z,_,Z,_,Z,_,_,Z,Z,(show(0:Int)<26 by decide),Ug,_,Cb (ltN c at' (i:Int) j),Z,Z,(by trivial),?_,_,_,Z,Z,a0a (m:=100) (by rw[wl];show j+1<=100;omega),?_⟩
   .rw[ek];exact Rt _ (cj _ (by decide)) (bN _ (by decide))
   have ew:GN (II c at' (i:Int) j)++⟨#[Cb (ltN c at' (i:Int) j)]⟩=GN (II c at' (i:Int) (j+1)):=by
    rw[MH];unfold II;rw[fe,aB];rfl
   rw[ew];exact⟨_,_,Z,Z⟩
  .obtain⟨y3,y4,rfl,rfl⟩:=h;refine⟨_,Z,.inl ⟨Z,_,bI.of Ul⟩,_,Z,g,_,_,Z,Z,Ul,o9 (m:=1000) (by unfold IJ;simp;omega),?_⟩;refine⟨_,_,_,_,Z,s5.put hg _,?_⟩;unfold IJ;rw[ao,fe,aB,aB];rfl
 .obtain⟨y1,y2,y3,y4,rfl,s5,Ul⟩:=h;exact⟨_,Z,q g _ _ s5 hg Ul (by unfold IJ;simp) (Oy t0 (by omega) (by omega) (by omega))⟩
structure GR(G:List Row):Prop where
 pos:1<=G.length
 HL:G.length<=12
 rows:∀ r∈G,(r.1=0\/r.1=1)/\(0<=r.2.1/\r.2.1<40)/\r.2.2≠[]/\r.2.2.length<=6/\∀ x∈r.2.2,0<=x/\x<(G.length:Int)
theorem GR.good{G:List Row}(g:GR G):tM G:=⟨by have:=g.HL;omega,λr hr=>by
 obtain⟨a,b,c,d,e⟩:=g.rows r hr;exact⟨a,⟨b.1,by omega⟩,c,e⟩⟩
theorem GR.XD{G:List Row}(g:GR G):∀ r∈G,lN G.length r:=λr hr=>by
 obtain⟨a,b,c,d,e⟩:=g.rows r hr;exact⟨a,b.1,by omega,e,by omega⟩
theorem Ms{G:List Row}{r:Row}(h:r∈a0d G):∃ r0∈G,r=(r0.1,r0.2.1,a0p G.length r0.2.2):=by
 obtain⟨r0,h0,e⟩:=bE.mp h;exact⟨r0,h0,e.symm⟩
theorem GR.TZ{G:List Row}(g:GR G):∀ r∈a0d G,(r.1=0\/r.1=1)/\(0<=r.2.1/\r.2.1<40)/\r.2.2≠[]/\r.2.2.Pairwise (·<·)/\r.2.2.length<=12/\∀ x∈r.2.2,0<=x/\x<((a0d G).length:Int):=λr hr=>by
 obtain⟨r0,h0,rfl⟩:=Ms hr;obtain⟨a,b,c,d,e⟩:=g.rows r0 h0;refine⟨a,b,λz=>?_,Gb _ _,by have:=K5 G.length r0.2.2;have:=g.HL;show(a0p G.length r0.2.2).length<=12;omega,λx hx=>?_⟩
 .obtain⟨w0,KQ⟩:∃ w0,w0∈r0.2.2:=by
   cases h:r0.2.2 with
   |nil=>exact absurd h c
   |cons w0 _=>exact⟨w0,aL⟩
  have:=(rF e w0).mpr KQ;rw[show a0p G.length r0.2.2=[] from z] at this;cases this
 .rw[eN];exact e x ((rF e x).mp hx)
theorem FR{G:List Row}(RL:G.length<=12)(h:∀ r∈G,(r.1=0\/r.1=1)/\(0<=r.2.1/\r.2.1<41)/\r.2.2≠[]/\r.2.2.Pairwise (·<·)/\r.2.2.length<=12/\∀ x∈r.2.2,0<=x/\x<(G.length:Int)):G0 G:=by
 refine⟨⟨by omega,λrow hr=>?_⟩,λrow hr=>(h row hr).1,λrow hr=>(h row hr).2.2.1,λz z0 z1=>?_⟩
 .obtain⟨_,_,_,a,b,c⟩:=h row hr;exact⟨a,c,by omega⟩
 .obtain⟨row,iL⟩:∃ row,G[z.toNat]?=O row:=⟨G[z.toNat]'(by omega),by simp⟩
  rw[vT iL];exact(h row (ag iL)).2.1
theorem GR.sol{G:List Row}(g:GR G):G0 (a0d G):=FR (by rw[eN];exact g.HL) λr hr=>by
 obtain⟨a,b,c⟩:=g.TZ r hr;exact⟨a,⟨b.1,by omega⟩,c⟩
theorem GR.Mu{G:List Row}(g:GR G):∀ r∈fo (a0d G),(r.1=0\/r.1=1)/\(0<=r.2.1/\r.2.1<41)/\r.2.2≠[]/\r.2.2.Pairwise (·<·)/\r.2.2.length<=12/\∀ x∈r.2.2,0<=x/\x<((fo (a0d G)).length:Int):=λr hr=>by
 obtain⟨r0,h0,rfl⟩:=bE.mp hr;obtain⟨a,b,c⟩:=g.TZ r0 h0;rw[l8];exact⟨by show 1-r0.1=0\/1-r0.1=1;omega,⟨by show 0<=r0.2.1+1;omega,by show r0.2.1+1<41;omega⟩,c⟩
theorem GR.Yk{G:List Row}(g:GR G):(fo (a0d G)).length<=12:=by rw[l8,eN];exact g.HL
theorem GR.Yj{G:List Row}(g:GR G):tM (fo (a0d G)):=⟨by have:=g.Yk;omega,λr hr=>by
 obtain⟨a,b,c,d,e,f⟩:=g.Mu r hr;exact⟨a,⟨b.1,by omega⟩,c,f⟩⟩
theorem GR.Yl{G:List Row}(g:GR G):G0 (fo (a0d G)):=FR g.Yk g.Mu
theorem GR.Ym{G:List Row}(g:GR G):a0d (fo (a0d G))=fo (a0d G):=by
 unfold a0d;have:∀ r∈fo (a0d G),(r.1,r.2.1,a0p (fo (a0d G)).length r.2.2)=r:=λr hr=>by
  obtain⟨a,b,c,d,e,f⟩:=g.Mu r hr;rw[← a0E f d λ_=>Z7]
 exact(gK this).trans (List.map_id' _)
theorem AD{G:List Row}{p:Int}(hp:je G p):hd (a0d G) p=hd G p/\rk (a0d G) p=rk G p:=by
 obtain⟨row,iL⟩:∃ row,G[p.toNat]?=O row:=⟨G[p.toNat]'(by have:=hp.1;have:=hp.2;omega),by simp⟩
 rw[ql iL,vT iL,ql (uT iL),vT (uT iL)];exact⟨Z,Z⟩
def Mg(K:af):Sp:=λvs H Q _=>∃(a:ai)(ns:List Int),vs=[.ref a]/\bI K H a (ns.map V.int)/\∀(v:V)(H':Hp)(G:List Row),aU H H'->hZ H' G v->GR G->Q v H'
theorem OQ(F:aN K mg "_law_rows" lX ["_law_script"])(T:Txt mg)(eE:Dn P w K mg base "_law_cell_at" 1 ["_law_script","_law_k"] (Ar K)):Dn P w K mg base "_law_rows" 2 ["_law_script"] (Mg K):=by
 have sc:=CI;refine F.ok sc (λvs H Q E h=>?_) (λf dW A outer s H vs Q E hr h=>?_)
 .obtain⟨_,_,rfl,_⟩:=h;rfl
 obtain⟨a,ns,rfl,hS,q⟩:=h;refine⟨_,(ak (bz (i:=1) sc.nd Z (aY Z) (bA dG (bA iN (b9 eE hr (aa (pv 0) (aa aD am))) aD) aD))
   (ak (bz (i:=2) sc.nd Z (aY Z) (bA iM aD (bA dG (pv 1) aD)))
   (ak (bz (i:=3) sc.nd Z (aY Z) (be (iy (K:=K) Z) (eY (aa aD (aa aD (aa aD (aa aD am))))) (bA dG (bA lE (pv 1) aD) aD) (λ_ _=>rfl)))
   (zV (dE (cA lR (bA dG (bA lE (pv 1) aD) aD) aD (de _))
   (aA (bz (i:=2) sc.nd Z (aY Z) (bA iM aD (bA dG (bA lE (pv 1) aD) aD))))
   cv)
   (ak (bz (i:=4) sc.nd Z (aY Z) (eY am))
   (ak (fD bB Z (lI Z T.mz (aa (pv 2) am)) (cU (i:=5) sc.nd Z (aY Z))
   (ak (bz (i:=6) sc.nd Z (aY Z) (bA iM (b9 eE hr (aa (pv 0) (aa (bA iM aD (pv 5)) am))) (bA iN (bA iN aD (pv 5)) (pv 5))))
   (ak (bz (i:=7) sc.nd Z (aY Z) (bA dG (bA dG (bA iN (pv 6) aD) aD) (pv 3)))
   (ak (bz (i:=8) sc.nd Z (aY Z) (eY (aa (bA dG (bA dG (bA iN (pv 6) aD) aD) (pv 2)) am)))
   (zV (dE (cA lR (bA dG (bA lE (pv 1) aD) aD) aD (de _))
   (ak (bz (i:=7) sc.nd Z (aY Z) (bA dG (bA zM (pv 2) (pv 5)) (pv 3)))
   (aA (bz (i:=8) sc.nd Z (aY Z) (eY (aa (bA dG (bA iM (pv 5) aD) (pv 2)) am)))))
   cv)
   (ak (fD bB Z (lI Z T.mz (aa (bA dG (bA dG (bA iN (pv 6) aD) aD) (be (iy (K:=K) Z) (eY (aa aD (aa aD (aa aD (aa aD am))))) (bA dG (bA lE (pv 1) aD) aD) (λ_ _=>rfl))) am)) (cU (i:=9) sc.nd Z (aY Z))
   (aA (cL (ge ba bR bS fw (pv 8) (aa (bA dG (bA dG (bA iM (bA iN (bA iN (pv 6) (bA iM (pv 9) aD)) aD) (bA iN aD (pv 9))) aD) (pv 2)) am)))))
   (aA (cL (ge ba bR bS fw (pv 4) (aa (gt (aa (bA dG (bA dG (bA iN (pv 6) aD) aD) aD) (aa (pv 7) (aa (pv 8) am)))) am))))))))))
   (aA (bU (pv 4))))))))),?_⟩
 refine⟨_,Z,a,ns,0,Z,hS,by decide,λm0=>?_⟩;refine⟨_,_,Z,Z,.inr ⟨by decide,by decide⟩,_,_,Z,Z,(show(0:Int)<104729 by decide),?_⟩;have c0:=cj (m0*16807) (show(104729:Int)≠0 by decide);generalize hc:m0*16807 % 104729=c at c0;replace hc:(λi j:Int=>V.int (i % j)) (m0*16807) 104729=V.int c:=by rw[← hc]
 rw[hc];refine⟨_,Z,_,_,Z,Z,(show(0:Int)<6 by decide),_,_,Z,Z,?_⟩;refine⟨(by show 4<=az;decide),λp0 xZ=>?_⟩;obtain⟨tp,zv,Et,AV⟩:∃ t:Int,oB [V.int 2,V.int 4,V.int 10,V.int 40] (c / 6 % 4)=O (.int t)/\2<=t/\t<=40:=by
  have:c / 6 % 4=0\/c / 6 % 4=1\/c / 6 % 4=2\/c / 6 % 4=3:=by omega
  rcases this with e | e | e | e <;> rw[e]
  .exact⟨2,Z,by decide,by decide⟩
  .exact⟨4,Z,by decide,by decide⟩
  .exact⟨10,Z,by decide,by decide⟩
  .exact⟨40,Z,by decide,by decide⟩
 have sp0:=av xZ (.lst [V.int 2,V.int 4,V.int 10,V.int 40]);refine⟨_,Z,_,_,Z,Z,⟨by decide,by decide⟩,_,_,Z,Z,(show(0:Int)<4 by decide),p0,_,_,_,Z,Z,bI.of ao,zv,?_⟩;refine⟨λσ' H1=>∃(n:Int),σ'=[O (.ref a),O (.int c),O (.int n),O (.int tp),Y,Y,Y,Y,Y,Y]/\aU H H1/\1<=n/\n<=12,?_,?_⟩
 .refine⟨_,Z,_,_,Z,Z,⟨by decide,by decide⟩,_,_,Z,Z,(show(0:Int)<6 by decide),Z,_,Z,?_⟩;refine gN (λc=>?_) (λc=>?_)
  .refine⟨_,Z,_,_,Z,Z,⟨by decide,by decide⟩,_,_,Z,Z,(show(0:Int)<6 by decide),_,_,Z,Z,?_⟩;exact⟨_,Z,sp0,by omega,by omega⟩
  .exact⟨_,Z,sp0,by omega,by omega⟩
 rintro σ' H1 ⟨n,rfl,s1,Io,vx⟩;refine⟨bq _,λg hg=>?_⟩;refine⟨_,Z,n,Z,by omega,by omega,nt (lo:=0) (n:=n.toNat) (λi J Hy=>∃ (G':List Row) (y1 y2 y3 y4 y5:Option V),J=[O (.ref a),O (.int c),O (.int n),O (.int tp),O (.ref g),y1,y2,y3,y4,y5]/\Dh zW H1 Hy g G'/\G'.length=i/\∀ row∈G',(row.1=0\/row.1=1)/\(0<=row.2.1/\row.2.1<40)/\row.2.2≠[]/\row.2.2.length<=6/\∀ x∈row.2.2,0<=x/\x<n)
  ⟨[],_,_,_,_,_,Z,Dh.start (aU.refl _) hg,Z,λ_ z=>by cases z⟩ (λi J Hy hi h=>?_) (λ J Hy h=>?_)⟩
 .obtain⟨G',y1,y2,y3,y4,y5,rfl,b,hl,hk⟩:=h;refine⟨_,Z,_,Z,_,_,Z,Z,a,ns,_,Z,(s1.trans b.s).seq hS,by omega,λm5=>?_⟩;have hk0:(0:Int)<=0+((i:Nat):Int)/\(0+((i:Nat):Int))<=30:=by omega
  refine⟨_,Z,_,_,Z,Z,.inl ⟨by decide,by decide⟩,_,Z,_,_,Z,Z,.inl ⟨by omega,by omega⟩,_,_,Z,Z,?_⟩;generalize m8:m5+19*(0+((i:Nat):Int))*(0+((i:Nat):Int))=pl;replace m8:(λi j:Int=>V.int (i+j)) m5 (19*(0+((i:Nat):Int))*(0+((i:Nat):Int)))=V.int pl:=by rw[← m8]
  rw[m8];refine⟨_,Z,_,_,Z,Z,.inr ⟨by decide,by decide⟩,_,_,Z,Z,(show(0:Int)<20011 by decide),_,Z,_,_,Z,Z,(show 0<tp by omega),?_⟩;refine⟨_,Z,_,_,Z,Z,.inr ⟨by decide,by decide⟩,_,_,Z,Z,(show(0:Int)<65521 by decide),_,Z,_,_,Z,Z,(show 0<n by omega),(by show 1<=az;decide),λl0 R6=>?_⟩;refine⟨λσ' H2=>∃(rk w0:Int)(l:ai),σ'=[O (.ref a),O (.int c),O (.int n),O (.int tp),O (.ref g),O (.int (0+((i:Nat):Int))),O (.int pl),O (.int rk),O (.ref l),y5]/\aU Hy H2/\Hy l=Y/\H2 l=O (.lst [.int w0])/\0<=rk/\rk<40/\0<=w0/\w0<n,?_,?_⟩
  .refine⟨_,Z,_,_,Z,Z,⟨by decide,by decide⟩,_,_,Z,Z,(show(0:Int)<2 by decide),Z,_,Z,?_⟩;refine gN (λe=>?_) (λe=>?_)
   .refine⟨_,Z,_,Z,_,_,Z,Z,_,Z,_,_,Z,Z,(show 0<tp by omega),?_⟩;refine⟨_,Z,_,_,Z,Z,_,Z,_,_,Z,Z,(show 0<n by omega),(by show 1<=az;decide),λl1 Ii=>?_⟩;exact⟨_,_,l1,Z,(av R6 _).trans (av Ii _),(av R6 _).free Ii,ao,cj _ (by omega),by have:=bN (n-(0+((i:Nat):Int))) (show 0<tp by omega);omega,cj _ (by omega),bN _ (by omega)⟩
   .exact⟨_,_,l0,Z,av R6 _,R6,ao,cj _ (by omega),by have:=bN (pl*16807 % 20011) (show 0<tp by omega);omega,cj _ (by omega),bN _ (by omega)⟩
  rintro σ' H2 ⟨rk,w0,l,rfl,s2,wX,nS,rk0,rk1,w00,w01⟩;refine⟨_,Z,_,_,Z,Z,.inr ⟨by decide,by decide⟩,_,_,Z,Z,(show(0:Int)<32749 by decide),?_⟩;refine⟨(by show 4<=az;decide),λp1 tP=>?_⟩;obtain⟨mo,hmo,uI,Dz⟩:∃ t:Int,oB [V.int 3,V.int 3,V.int 3,V.int 6] (c / 6000 % 4)=O (.int t)/\3<=t/\t<=6:=by
   have:c / 6000 % 4=0\/c / 6000 % 4=1\/c / 6000 % 4=2\/c / 6000 % 4=3:=by omega
   rcases this with e | e | e | e <;> rw[e]
   .exact⟨3,Z,by decide,by decide⟩
   .exact⟨3,Z,by decide,by decide⟩
   .exact⟨3,Z,by decide,by decide⟩
   .exact⟨6,Z,by decide,by decide⟩
  have e0:=cj (pl*40692 % 32749) (show mo≠0 by omega);have e1:=bN (pl*40692 % 32749) (show 0<mo by omega);have s3:=s2.trans (av tP (.lst [V.int 3,V.int 3,V.int 3,V.int 6]));have Iq:=av tP (.lst [V.int 3,V.int 3,V.int 3,V.int 6]) _ _ nS;refine⟨_,Z,_,_,Z,Z,⟨by decide,by decide⟩,_,_,Z,Z,(show (0:Int)<4 by decide),p1,_,_,_,Z,Z,bI.of ao,hmo,_,_,Z,Z,(show 0<mo by omega),_,Z,by omega,by omega,nt (lo:=0) (n:=(pl*40692 % 32749 % mo).toNat) (λj J Hz=>∃ (ws:List Int) (y5:Option V),J=[O (.ref a),O (.int c),O (.int n),O (.int tp),O (.ref g),O (.int (0+((i:Nat):Int))),O (.int pl),O (.int rk),O (.ref l),y5]/\aU Hy Hz/\Hz l=O (.lst (ws.map V.int))/\ws.length=j+1/\∀ x∈ws,0<=x/\x<n)
   ⟨[w0],_,Z,s3,Iq,Z,λx hx=>by rw[bj.mp hx];exact⟨w00,w01⟩⟩ (λj J Hz hj h=>?_) (λ J Hz h=>?_)⟩
  .obtain⟨ws,y6,rfl,sz,hz,oT,hws⟩:=h;refine⟨_,Z,.inl ⟨Z,_,bI.of hz⟩,_,Z,_,Z,_,_,Z,Z,_,_,Z,Z,.inr ⟨by omega,by omega⟩,_,_,Z,Z,.inr ⟨by decide,by decide⟩,_,Z,_,_,Z,Z,.inl ⟨by decide,by decide⟩,_,_,Z,Z,_,_,Z,Z,(show(0:Int)<50021 by decide),_,Z,_,_,Z,Z,(show 0<n by omega),l,_,_,Z,Z,hz,(o9 (m:=1000) (by rw[ab];omega)),?_⟩;refine⟨ws++[(pl*(0+((j:Nat):Int)+2)*69621+11*(0+((j:Nat):Int))) % 50021 % n],_,Z,sz.put wX _,by rw[ao,aB];rfl,by rw[aV,oT];rfl,λx hx=>?_⟩;rcases bH.mp hx with h | h
   .exact hws x h
   .rw[bj.mp h];exact⟨cj _ (by omega),bN _ (by omega)⟩
  obtain⟨ws,y6,rfl,sz,hz,oT,hws⟩:=h;obtain⟨gvs,hgv,_⟩:=b.sq;refine⟨_,Z,.inl ⟨Z,_,bI.of (sz _ _ hgv)⟩,_,Z,_,_,Z,Z,.inr ⟨by decide,by decide⟩,_,_,Z,Z,(show(0:Int)<10007 by decide),_,_,Z,Z,(show(0:Int)<2 by decide),_,Z,_,Z,(by show 3<=az;decide),λt2 WE=>?_⟩;obtain⟨vs4,k1,k2,b4⟩:=b.push iU (sz.trans (av WE _)) (zZ (h:=pl*30011 % 10007 % 2) (r:=rk) (ws:=ws) sz wX hz WE);refine⟨g,vs4,_,Z,Z,k1,(o9 (m:=1000) (by omega)),?_⟩;refine⟨_,_,_,_,_,_,Z,b4,by simp[hl],λxh iL=>?_⟩;rcases bH.mp iL with h | h
  .exact hk xh h
  .rw[bj.mp h];have e0:=cj (pl*30011 % 10007) (show(2:Int)≠0 by decide);have e1:=bN (pl*30011 % 10007) (show(0:Int)<2 by decide);exact⟨by show pl*30011 % 10007 % 2=0\/pl*30011 % 10007 % 2=1;omega,⟨rk0,rk1⟩,(λz=>by rw[show ws=[] from z] at oT;simp at oT),by show ws.length<=6;omega,hws⟩
 .obtain⟨G',y1,y2,y3,y4,y5,rfl,b,hl,hk⟩:=h;have e:(G'.length:Int)=n:=by omega
  refine⟨_,Z,q _ _ G' (s1.trans b.s) (dS.up (ye _ _) (b.done iU)) ⟨by omega,by omega,λrow hr=>?_⟩⟩;rw[e];exact hk row hr
def Gu(K:af):Sp:=λvs H Q _=>∃(a:ai)(ns:List Int)(n:Int),vs=[.ref a,.int n]/\bI K H a (ns.map V.int)/\1<=n/\n<=12/\∀(p:ai)(ls:List Int)(H':Hp),aU H H'->H' p=O (.lst (ls.map V.int))->1<=ls.length->ls.length<=12->(∀ x∈ls,0<=x/\x<n)->Q (.ref p) H'
theorem K8(F:aN K mg "_law_asked" kS ["_law_script","_law_many"])(T:Txt mg)(eE:Dn P w K mg base "_law_cell_at" 1 ["_law_script","_law_k"] (Ar K)):Dn P w K mg base "_law_asked" 2 ["_law_script","_law_many"] (Gu K):=by
 have sc:=Ac;refine F.ok sc (λvs H Q E h=>?_) (λf dW A outer s H vs Q E hr h=>?_)
 .obtain⟨_,_,_,rfl,_⟩:=h;rfl
 obtain⟨a,ns,n,rfl,hS,n1,n12,q⟩:=h;refine⟨_,(ak (dE (cA Cs (pv 1) aD (de _))
   (aA (bU (km (qk Z) Z T.D6 m7 (aa (yn Z T.mz (aa (pv 1) am)) am))))
   cv)
   (ak (bz (i:=2) sc.nd Z (aY Z) (bA dG (bA iN (b9 eE hr (aa (pv 0) (aa aD am))) aD) aD))
   (aA (bU (eY (aa (bA dG (pv 2) (pv 1)) (aa (bA dG (bA lE (pv 2) aD) (pv 1)) (aa (bA dG (bA lE (pv 2) aD) (pv 1)) am)))))))),?_⟩
 refine⟨_,Z,_,_,Z,Z,_,Z,?_⟩;refine gN (λc=>?_) (λc=>?_)
 .refine⟨_,Z,n,Z,λr hr=>⟨r,n,Z,ao,by omega,by omega,λp hp=>?_⟩⟩;refine q p ((bn n.toNat).map λ(i:Nat)=>(i:Int)) _ ((av hr _).trans (av hp _)) ao (by simp;omega) (by simp;omega) λx hx=>?_;obtain⟨k,hk,rfl⟩:=bE.mp hx;have:=cm.mp hk;omega
 .refine⟨_,Z,a,ns,2,Z,hS,by decide,λm=>?_⟩;refine⟨_,_,Z,Z,.inr ⟨by decide,by decide⟩,_,_,Z,Z,(show(0:Int)<65521 by decide),?_⟩;generalize hc:m*30011 % 65521=c1;replace hc:(λi j:Int=>V.int (i % j)) (m*30011) 65521=V.int c1:=by rw[← hc]
  rw[hc];refine⟨_,Z,_,Z,_,_,Z,Z,(show 0<n by omega),_,Z,_,_,Z,Z,⟨by decide,by decide⟩,_,Z,_,_,Z,Z,(show 0<n by omega),_,Z,_,_,Z,Z,⟨by decide,by decide⟩,_,Z,_,_,Z,Z,(show 0<n by omega),(by show 3<=az;decide),λp hp=>?_⟩;refine q p [c1 % n,c1 / 13 % n,c1 / 170 % n] _ (av hp _) ao (show 1<=3 by decide) (show 3<=12 by decide) λx hx=>?_;rcases aG.mp hx with rfl | hx
  .exact⟨cj _ (by omega),bN _ (by omega)⟩
  .rcases aG.mp hx with rfl | hx
   .exact⟨cj _ (by omega),bN _ (by omega)⟩
   .rw[bj.mp hx];exact⟨cj _ (by omega),bN _ (by omega)⟩
theorem Pk:qZ "go" 12 "go" "say_go" := rN (ws:=([("go" : aE)])) (by trivial) (by trivial) (λx hx=>by rw[bj.mp hx];decide +kernel) Z (by trivial)
theorem jM{a:aE}(h:a0b a=true):a.length<=8:=(nB h).2.1
theorem Pm{a:aE}(h:a0b a=true):qZ ("go " ++ a) 13 "go PLACE" "say_go_other" /\ a0c ("go " ++ a)=[("go" : aE),a]:=by
 have hw:a0c ("go " ++ a)=[("go" : aE),a]:=T6 (by trivial) (by trivial) (by trivial) (pA h);have hl:=jM h;refine⟨rN hw ?_ (λx hx=>?_) Z (show CA 2 "go" 13=true by trivial),hw⟩
 .rw[gL];show 3+a.length<=100000;omega
 .rcases aG.mp hx with rfl | hx
  .decide +kernel
  .rw[bj.mp hx];omega
theorem z6{kk k a b qe name:aE}{i:Nat}(hk:kk.cps.toList=k.cps.toList++[32])(h0:32 ∉ k.cps.toList)(hn:k ∉ (["game","purse","wish"]:List aE))(hl:k.length<=100/\kk.length<=100)(ha:a0b a=true)(hb:a0b b=true)(hi:xy[i]?=O (qe,name))(hx:CA 3 k i=true):qZ (kk++a ++ " " ++ b) i qe name/\a0c (kk++a ++ " " ++ b)=[k,a,b]:=by
 have hw:=T7 hk h0 hn (pA ha) (pA hb);have la:=jM ha;have lb:=jM hb;refine⟨rN hw ?_ (λx hx=>?_) hi hx,hw⟩
 .rw[gL,gL,gL];show kk.length+a.length+1+b.length<=100000;omega
 .rcases aG.mp hx with rfl | hx
  .omega
  .rcases aG.mp hx with rfl | hx
   .omega
   .rw[bj.mp hx];omega
theorem LS{a b:aE}(ha:a0b a=true)(hb:a0b b=true):qZ ("turn " ++ a ++ " " ++ b) 5 "turn NEW NAME" "say_turn" /\ a0c ("turn " ++ a ++ " " ++ b)=[("turn" : aE),a,b]:=z6 (by trivial) (by trivial) (by trivial) (by trivial) ha hb Z (by trivial)
theorem Pn{a b:aE}(ha:a0b a=true)(hb:a0b b=true):qZ ("won " ++ a ++ " " ++ b) 6 "won NAME PLACE" "say_won" /\ a0c ("won " ++ a ++ " " ++ b)=[("won" : aE),a,b]:=z6 (by trivial) (by trivial) (by trivial) (by trivial) ha hb Z (by trivial)
theorem LR{a b:aE}(ha:a0b a=true)(hb:a0b b=true):qZ ("play " ++ a ++ " " ++ b) 9 "play NAME PLACE" "play_ranks" /\ a0c ("play " ++ a ++ " " ++ b)=[("play" : aE),a,b]:=z6 (by trivial) (by trivial) (by trivial) (by trivial) ha hb Z (by trivial)
theorem LQ{a b:aE}(ha:a0b a=true)(hb:b.length<=50000):qZ ("game " ++ a ++ " " ++ b) 0 "game NAME TEXT" "put_game" /\ a0c ("game " ++ a ++ " " ++ b)=[("game" : aE),a,b]:=by
 have hw:=T8 (b:=b) (pA ha);have la:=jM ha;refine⟨rN hw ?_ (λx hx=>?_) Z (show CA 3 "game" 0=true by trivial),hw⟩
 .rw[gL,gL,gL];show 5+a.length+1+b.length<=100000;omega
 .rcases aG.mp hx with rfl | hx
  .decide +kernel
  .rcases aG.mp hx with rfl | hx
   .omega
   .rw[bj.mp hx];omega
theorem W4{C H:Hp}{x p d:ai}(s:aU C H)(h1:C x=Y)(h2:C p=Y)(h3:C d=Y):aU C (m3 H x p d):=λb o e=>by
 rw[QH (cw e h1) (cw e h2) (cw e h3)];exact s _ _ e
structure YJ(R:ai)(H:Hp)(x pa da:ai)(G:List Row)(hf:Int->Int)(wf:Int->Option Int)(h:Int)(wa oa ua:ai)(m:Nat)(names:List aE):Prop where
 ob:∃(dx:ai)(fl:List (aE × V))(p:Int)(qs:List Int),H x=O (.ins R dx fl)/\J0 fl h p wa oa ua m/\H pa=O (.lst ((qs++[p]).map V.int))/\Pl G hf wf h (qs++[p])
 di:∃ bM:List (Key × V),H da=O (.dK bM)/\bM.length<=m/\∀(z:Int)(v:V),eO bM (gS z:Key)=O v->∃ y,wf z=O y/\v=.str (names.getD y.toNat "")
structure UP(HC DC:ai)(C:Hp)(d x:ai)(names:List aE):Prop where
 ex:∃(th dx ph na:ai)(fl:List (aE × V))(m:Nat),C d=O (.ins DC dx fl)/\Fu fl th (.ref ph) m/\HeldAt HC C ph "game" na (.ref x)/\C na=O (.lst (names.map V.str))
theorem UP.up{C C':Hp}{d x:ai}{names:List aE}(k:UP HC DC C d x names)(s:aU C C'):UP HC DC C' d x names:=by
 obtain⟨th,dx,ph,na,fl,m,h1,h2,h3,h4⟩:=k.ex;exact⟨th,dx,ph,na,fl,m,s _ _ h1,h2,h3.up s,s _ _ h4⟩
def Mi(HC DC R:ai):Sp:=λvs H Q _=>∃(d nl x pa da:ai)(v:V)(pick:Int)(G:List Row)(names:List aE)(hf:Int->Int)(wf:Int->Option Int)(h:Int)(wa oa ua:ai)(m:Nat),vs=[.ref d,.ref nl,v,.int h,.ref pa,.ref da,.int pick]/\YJ R H x pa da (a0d G) hf wf h wa oa ua m names/\m<900/\UP HC DC (m3 H x pa da) d x names/\m3 H x pa da nl=O (.lst (names.map V.str))/\qY names/\names.length=G.length/\hZ (m3 H x pa da) G v/\GR G/\MT (m3 H x pa da) (a0d G) wf wa oa ua/\FG (a0d G) (je (a0d G)) hf wf/\(h=0\/h=1) /\
 ∀ H',aU (m3 H x pa da) H'->YJ R H' x pa da (a0d G) hf wf h wa oa ua (m+1) names->Q (.bl true) H'
theorem OR(F:aN K mg "_law_step" ko ["_law_desk","_law_names_here","_law_rows_here","_law_hand","_law_pile","_law_gone","_law_pick"])(T:Txt mg)(bZ:ClsAt K mg "Desk" DC nY)(fX:tL P w K mg base DC "say" 53 ["self","row"] (GC P w K mg base))(Z2:Dn P w K mg base "say_go" 3 ["desk","words"] (L7 HC DC R))(UN:Dn P w K mg base "say_go_other" 4 ["desk","words"] (Fj HC DC R)):Dn P w K mg base "_law_step" 54 ["_law_desk","_law_names_here","_law_rows_here","_law_hand","_law_pile","_law_gone","_law_pick"] (Mi HC DC R):=by
 have sc:=CJ;refine F.ok sc (λvs H Q E h=>?_) (λf dW A outer s H vs Q E hr h=>?_)
 .obtain⟨_,_,_,_,_,_,_,_,_,_,_,_,_,_,_,_,rfl,_⟩:=h;rfl
 obtain⟨d,nl,x,pa,da,v,pick,G,names,hf,wf,h,wa,oa,ua,m,rfl,hP,hm,hK,Ep,qg,Qx,hG,zp,hD,lC,mh,qq⟩:=h;obtain⟨⟨dx,fl,p,qs,hx,hF,vy,NR⟩,⟨bM,Qp,hkl,Ih⟩⟩:=hP;obtain⟨g0,gv,rfl,jl,n9,ll⟩:=dk hG;have RL:=zp.HL;have sM:aU (m3 H x pa da) H:=F7;have Zz:x≠pa:=λz=>by rw[z,vy] at hx;cases hx
 have nxd:x≠da:=λz=>by rw[z,Qp] at hx;cases hx
 have npd:pa≠da:=λz=>by rw[z,Qp] at vy;cases vy
 obtain⟨JG,N2⟩:=NR.Qd p (by simp);have hp:je G p:=⟨JG.1,by have:=JG.2;rw[eN] at this;exact this⟩
 obtain⟨row,iL⟩:∃ row,G[p.toNat]?=O row:=⟨G[p.toNat]'(by have:=hp.1;have:=hp.2;omega),by simp⟩
 obtain⟨t0,w0,p1,p2,p3⟩:=ll p.toNat row iL;have ap:=fi hp.1 p1;have al:oB ((qs++[p]).map V.int) (-1)=O (.int p):=by rw[aB];exact vg _ _
 have hW:=lC.QZ h mh;obtain⟨_,_,abU,hrl,Wx⟩:=zp.rows row (ag iL);have WQ:∀ q,q∈wy (a0d G) p↔q∈row.2.2:=λq=>by rw[tV (uT iL)];exact rF Wx q
 obtain⟨th,dd,ph,na,df,dm,Qm,Dw,hHd,Sb⟩:=hK.ex;have UB:∀ q:Int,0<=q->q<G.length->∃ z,names[q.toNat]?=O z/\names.getD q.toNat "" = z/\a0b z=true:=λq h0 h1=>oS qg h0 (by rw[Qx];exact h1);refine⟨_,(ak (bz (i:=7) sc.nd Z (aY Z) (be (iy (K:=K) Z) (pv 2) (be (iy (K:=K) Z) (pv 4) (Gh AG aD) (λ_ _=>rfl)) (λ_ _=>rfl)))
   (zV (dE (cA lR (be (m9 (K:=K) Z) (pv 7) aD (λ_ _=>rfl)) (pv 3) (de _))
   (ak (bz (i:=8) sc.nd Z (aY Z) (gP bZ.cl fX hr (pv 0) (aa cq am)))
   (ak (dE (PW.pt (a0o (ji (fM (bP (BM (K:=K) Z (T := "str")) Z T.jI eP (aa (pv 8) (aa (rG (v:=.ty "str") Z T.FI jG Z) am))))) (a0o (cA (lQ (K:=K) Z) (pv 8) (pv 1) Z) (a0m (cA o5 (Lx (pv 5) (be (iy (K:=K) Z) (pv 4) (Gh AG aD) (λ_ _=>rfl)) (pv 8) ⟨Z,Z,Z,Z⟩) (pv 8) (de _))))))
   (aA (bU ln))
   cv)
   (ak (bz (i:=9) sc.nd Z (aY Z) (ge ba eZ jv tj (pv 1) (aa (pv 8) am)))
   (aA (dE (cA (lQ (K:=K) Z) (pv 9) (be (m9 (K:=K) Z) (pv 7) aD (λ_ _=>rfl)) Z)
   (aA (bU ln))
   cv)))))
   (ak (bz (i:=9) sc.nd Z (aY Z) (be (iy (K:=K) Z) (be (m9 (K:=K) Z) (pv 7) aD (λ_ _=>rfl)) (bA dG (pv 6) (bP (gp (K:=K) Z) Z T.fR bu (aa (be (m9 (K:=K) Z) (pv 7) aD (λ_ _=>rfl)) am))) (λ_ _=>rfl)))
   (aA (dE (cA o5 (gP bZ.cl fX hr (pv 0) (aa (bA cy cq (be (iy (K:=K) Z) (pv 1) (pv 9) (λ_ _=>rfl))) am)) cq (de _))
   (aA (bU ln))
   cv))))
   (ak (dE (cA (lQ (K:=K) Z) (pv 9) (pv 4) Z)
   (ak (cL (ge ba bR bS fw (pv 4) (aa (pv 9) am)))
   (aA (bU ln)))
   cv)
   (ak (bz (i:=10) sc.nd Z (aY Z) (ge ba eZ jv K1 (pv 4) (aa (pv 9) am)))
   (ak (bz (i:=11) sc.nd Z (aY Z) (bP (sS Z) Z T.Ka nR (aa (lS (aC ko) ["_law_desk","_law_names_here","_law_rows_here","_law_hand","_law_pile","_law_gone","_law_pick","_law_row","_law_name","_law_place","_law_start","_law_greatest"] ["_law_spot","_law_rows_here"] 1 [2] (cV (nG (UK (K:=K) Z) (pv 4) (pI (pv 10)) pH)) (λ_ _ _ _ _ _=>(d0 (show cM (["_law_spot","_law_rows_here"]:List aE) by trivial) Z Z)) (λ_ _ _ _ _ _=>gm) (λ_ _ _ _ _ _=>(be (m9 (K:=K) Z) (be (iy (K:=K) Z) (pv 1) (pv 0) (λ_ _=>rfl)) aD (λ_ _=>rfl)))) am)))
   (ak (vR bB (cA yg (bP (gp (K:=K) Z) Z T.fR bu (aa (pv 4) am)) (bA iM (pv 10) aD) (de _))
   (aA (cL (Th ba PySem.F.slot_list_pop PySem.F.type_list_pop SV (pv 4)))))
   (aA (bU (kI lR (bA dG (pv 11) aD) (pv 3) (de _)))))))))),?_⟩
 refine⟨_,Z,_,Z,_,Z,pa,_,_,_,Z,Z,bI.of vy,al,g0,_,_,_,Z,Z,bI.of (sM _ _ jl),ap,?_⟩;refine⟨λσ' H1=>∃(q:Int)(Ex:List (Key × V))(y1 y2 y3:Option V),σ'=[O (.ref d),O (.ref nl),O (.ref g0),O (.int h),O (.ref pa),O (.ref da),O (.int pick),O (.ref t0),y1,O (.int q),y2,y3]/\aU (m3 H x pa da) H1/\H1 x=O (.ins R dx (cE "at" (.int q) fl))/\H1 pa=O (.lst ((qs++[p]).map V.int))/\H1 da=O (.dK Ex)/\Ex.length<=m+1/\(∀(z:Int)(v:V),eO Ex (gS z:Key)=O v->∃ y,wf z=O y/\v=.str (names.getD y.toNat ""))/\ed (a0d G) wf h p q/\je (a0d G) q/\hf q=h,?_,?_⟩
 .refine⟨_,Z,t0,_,_,_,Z,Z,gA.of (sM _ _ p2),bb (j:=0) Z,_,Z,Z,_,Z,?_⟩;refine gN (λc=>?_) (λc=>?_)
  .have ho:hd (a0d G) p=h:=by rw[(AD hp).1,ql iL];have:=of_decide_eq_true c;injection this
   obtain⟨q,Zp,Uu,N5⟩:=hW.own p ⟨JG,N2⟩ ho;have zu:0<=q/\q<G.length:=⟨N5.1.1,by have:=N5.1.2;rw[eN] at this;exact this⟩
   obtain⟨z,hz,QE,Uz⟩:=UB q zu.1 zu.2;refine⟨_,Z,d,dd,df,Z,sM _ _ Qm,Dw.say,d,"go",_,_,12,3,L7 HC DC R,Z,Pk,by decide,Z2,λwl H1 s1 oT=>?_⟩;refine⟨d,th,dd,wl,ph,na,x,dx,df,fl,dm,m,a0d G,wf,h,p,q,wa,oa,ua,names,z,Z,(sM.trans s1) _ _ Qm,Dw,hHd.up (sM.trans s1),(sM.trans s1) _ _ Sb,s1 _ _ hx,hF,hm,hD.up (sM.trans s1),JG,ho,Zp,zu.1,hz,λH2 s2=>?_⟩;have s3:aU (m3 H x pa da) (upd H2 x (.ins R dx (cE "at" (.int q) fl))):=(sM.trans (s1.trans s2)).put SS _;have vz:upd H2 x (.ins R dx (cE "at" (.int q) fl)) x=O (.ins R dx (cE "at" (.int q) fl)):=ao;have Qz:upd H2 x (.ins R dx (cE "at" (.int q) fl)) pa=O (.lst ((qs++[p]).map V.int)):=by rw[bh (cg Zz)];exact s2 _ _ (s1 _ _ vy)
   have NS:upd H2 x (.ins R dx (cE "at" (.int q) fl)) da=O (.dK bM):=by rw[bh (cg nxd)];exact s2 _ _ (s1 _ _ Qp)
   generalize upd H2 x (.ins R dx (cE "at" (.int q) fl))=H3 at s3 vz Qz NS ⊢;have VF:ed (a0d G) wf h p q:=(oN ho).mpr Zp;refine⟨_,Z,_,"str",_,Z,Z,rA _,true,Z,?_⟩;refine gO ?_;refine⟨_,Z,_,Z,nl,_,Z,.inl (bI.of (s3 _ _ Ep)),Z,gZ _,?_⟩;rw[if_pos Z,mB,decide_eq_true (ag hz)];refine⟨false,Z,?_⟩;refine gO ?_;have eq:((q.toNat:Nat):Int)=q:=by omega
   refine⟨_,Z,da,Z,.inl ⟨_,.inl NS⟩,_,Z,_,Z,pa,_,_,_,Z,Z,bI.of Qz,al,_,Z,bM,gS p,NS,Z,o9 (m:=1000) (by omega),λv9 Su=>?_,λhn=>?_⟩
   .obtain⟨y,hy,rfl⟩:=Ih p v9 Su;rw[Zp] at hy;cases hy;rw[QE];refine⟨_,Z,Z,?_⟩;rw[decide_eq_true rfl];refine⟨false,Z,?_⟩;refine gO ?_;refine⟨_,Z,.inl ⟨Z,_,bI.of (s3 _ _ Ep)⟩,_,Z,nl,_,_,q.toNat,Z,Z,bI.of (s3 _ _ Ep),Z,gZ _,oO qg.nd hz,?_⟩;rw[eq];refine⟨_,Z,_,Z,t0,_,_,_,Z,Z,gA.of (s3 _ _ p2),bb (j:=2) Z,w0,_,Z,.inl (bI.of (s3 _ _ p3)),Z,px _,?_⟩;rw[oV,decide_eq_true ((WQ q).mp Uu)];refine⟨false,Z,?_⟩;refine gO ?_;exact⟨q,bM,_,_,_,Z,s3,vz,Qz,NS,by omega,Ih,VF,N5.1,N5.2⟩
   .refine⟨_,Z,Z,?_⟩;rw[decide_eq_true rfl];refine⟨false,Z,?_⟩;refine gO ?_;have s4:=s3.put (W3 (H:=H) (x:=x) (p:=pa) (d:=da)) (.dK (a0f bM (gS p) (.str z)));have Oe:upd H3 da (.dK (a0f bM (gS p) (.str z))) x=O (.ins R dx (cE "at" (.int q) fl)):=by rw[bh nxd];exact vz
    have Wb:upd H3 da (.dK (a0f bM (gS p) (.str z))) pa=O (.lst ((qs++[p]).map V.int)):=by rw[bh npd];exact Qz
    have Qo:upd H3 da (.dK (a0f bM (gS p) (.str z))) da=O (.dK (a0f bM (gS p) (.str z))):=ao;generalize upd H3 da (.dK (a0f bM (gS p) (.str z)))=H4 at s4 Oe Wb Qo ⊢;refine⟨_,Z,.inl ⟨Z,_,bI.of (s4 _ _ Ep)⟩,_,Z,nl,_,_,q.toNat,Z,Z,bI.of (s4 _ _ Ep),Z,gZ _,oO qg.nd hz,?_⟩;rw[eq];refine⟨_,Z,_,Z,t0,_,_,_,Z,Z,gA.of (s4 _ _ p2),bb (j:=2) Z,w0,_,Z,.inl (bI.of (s4 _ _ p3)),Z,px _,?_⟩;rw[oV,decide_eq_true ((WQ q).mp Uu)];refine⟨false,Z,?_⟩;refine gO ?_;refine⟨q,_,_,_,_,Z,s4,Oe,Wb,Qo,bF (jm _ _ _) (by omega),λz' v9 Su=>?_,VF,N5.1,N5.2⟩;rw[rY] at Su
    by_cases c9:(gS z':Key)=gS p
    .rw[if_pos c9] at Su;cases Su;cases c9;exact⟨q,Zp,by rw[QE]⟩
    .rw[if_neg c9] at Su;exact Ih z' v9 Su
  .have ho:¬ hd (a0d G) p=h:=λz=>c (decide_eq_true (by rw[← ql iL,← (AD hp).1,z]));have R6:0<row.2.2.length:=dI.mpr abU;have hlm:((row.2.2.map V.int).length:Int)=(row.2.2.length:Int):=by rw[ab]
   have i0:=cj pick (show((row.2.2.map V.int).length:Int)≠0 by omega);have i1:=bN pick (show 0<((row.2.2.map V.int).length:Int) by omega);obtain⟨q,hq⟩:∃ q,row.2.2[(pick % ((row.2.2.map V.int).length:Int)).toNat]?=O q:=⟨row.2.2[(pick % ((row.2.2.map V.int).length:Int)).toNat]'(by omega),by simp⟩
   have hqr:=ag hq;have Uu:q∈wy (a0d G) p:=(WQ q).mpr hqr;have zu:=Wx q hqr;have N5:=(hW.oth p ⟨JG,N2⟩ ho).2 q Uu ⟨zu.1,by rw[eN];exact zu.2⟩;obtain⟨z,hz,QE,Uz⟩:=UB q zu.1 zu.2;obtain⟨so,sw⟩:=Pm Uz;have UD:=sM _ _ p2;refine⟨_,Z,t0,_,_,_,Z,Z,gA.of UD,bb (j:=2) Z,_,Z,_,Z,t0,_,_,_,Z,Z,gA.of UD,bb (j:=2) Z,w0,_,Z,.inl (bI.of (sM _ _ p3)),_,_,Z,Z,(by omega),w0,_,_,_,Z,Z,bI.of (sM _ _ p3),fi i0 (by rw[au,hq];rfl),?_⟩;refine⟨_,Z,d,dd,df,Z,sM _ _ Qm,Dw.say,_,Z,_,Z,nl,_,_,_,Z,Z,bI.of (sM _ _ Ep),fi zu.1 (by rw[au,hz];rfl),_,_,Z,Z,a0a (m:=1000) (by have:=jM Uz;show 3+z.length<=1000;omega),d,_,_,_,13,4,Fj HC DC R,Z,so,by decide,UN,λwl H1 s1 oT=>?_⟩;rw[sw] at oT;have eq:((q.toNat:Nat):Int)=q:=by omega
   refine⟨d,th,dd,wl,ph,na,x,dx,df,fl,dm,m,a0d G,wf,h,p,q.toNat,wa,oa,ua,names,z,Z,oT,(sM.trans s1) _ _ Qm,Dw,hHd.up (sM.trans s1),(sM.trans s1) _ _ Sb,qg.nd,hz,s1 _ _ hx,hF,hm,hD.up (sM.trans s1),JG,ho,by rw[eq];exact Uu,λH2 s2=>?_⟩;rw[eq];refine⟨Z,?_⟩;rw[decide_eq_true rfl];refine⟨false,Z,?_⟩;refine gO ?_;have CC:=s1.trans s2;exact⟨q,bM,_,_,_,Z,(sM.trans CC).put SS _,ao,by rw[bh (cg Zz)];exact CC _ _ vy,by rw[bh (cg nxd)];exact CC _ _ Qp,by omega,Ih,(n6 ho).mpr Uu,N5.1,N5.2⟩
 rintro σ' H1 ⟨q,Ex,y1,y2,y3,rfl,s1,Iu,tP,hd1,VU,VX,VF,hqP,hqh⟩;have hF1:=hF.put q;have hln:(qs++[p]).length<=63:=by
  have:=g7 (qs++[p]) ((bn (a0d G).length).map λ(i:Nat)=>(i:Int)) NR.nd λk hk=>by
   obtain⟨⟨k0,k1⟩,_⟩:=NR.Qd k hk;exact bE.mpr ⟨k.toNat,cm.mpr (by omega),by omega⟩
  rw[ab,gi,eN] at this;omega
 have Qv:(qs++[p])[(qs++[p]).length-1]?=O p:=by simp
 refine⟨_,Z,_,Z,pa,_,Z,.inl (bI.of tP),Z,px _,?_⟩;rw[oV];refine⟨_,Z,?_⟩;refine gN (λc=>?_) (λc=>?_)
 .have qg:q ∉ qs++[p]:=by
   intro z;rw[if_pos Z,decide_eq_true z] at c;cases c
  refine⟨_,Z,.inl ⟨Z,_,bI.of tP⟩,_,Z,pa,_,_,Z,Z,tP,o9 (m:=1000) (by rw[ab];omega),?_⟩;refine qq _ (s1.put SR _) ⟨⟨dx,_,q,qs++[p],by rw[bh Zz];exact Iu,hF1,by rw[ao,aB (l₁:=qs++[p])];rfl,NR.push Qv VF ⟨hqP,hqh⟩ qg⟩,⟨Ex,by rw[bh (cg npd)];exact hd1,VU,VX⟩⟩
 have En:q∈qs++[p]:=bX λz=>c (by rw[if_pos Z,decide_eq_false z];rfl);have hs:(qs++[p])[(qs++[p]).idxOf q]?=O q:=aj.mpr ⟨List.idxOf_lt_length_of_mem En,MO _⟩;have M7:=(aj.mp hs).1;refine⟨_,Z,.inl ⟨Z,_,bI.of tP⟩,_,Z,pa,qs++[p],q,Z,Z,bI.of tP,En,?_⟩;generalize (qs++[p]).idxOf q=sI at hs M7 ⊢;refine⟨_,Z,_,Z,sI,Z,pa,_,Z,bI.of tP,λsa Zj=>?_⟩;rw[Kf _ _ (by omega)];have M5:((qs++[p]).drop sI).length<=63:=by rw[i8];omega
 have s2:=s1.trans (av Zj (.lst (((qs++[p]).drop sI).map V.int)));refine⟨sa,Z,⟨_,bI.of ao⟩,cW (K:=K) (a:=sa) (xs:=((qs++[p]).drop sI).map V.int) (λk ys H3=>H3=upd H1 sa (.lst (((qs++[p]).drop sI).map V.int))/\ys=((((qs++[p]).drop sI).take k).map (rk (a0d G))).map V.int) ⟨Z,Z⟩ (a0a (m:=1000) (by rw[ab];omega)) (λk ys H3 hk h=>?_) (λk y ys H3 hk h=>?_) (λys H3 h ka JD=>?_)⟩
 .obtain⟨rfl,rfl⟩:=h;exact⟨bI.of ao,by rw[ab,ab];simp;omega⟩
 .obtain⟨rfl,rfl⟩:=h;obtain⟨z,hz,rfl⟩:=dR hk;obtain⟨zP',_⟩:=NR.Qd z (lG (ag hz));have zP:je G z:=⟨zP'.1,by have:=zP'.2;rw[eN] at this;exact this⟩
  obtain⟨rz,hrz⟩:∃ row,G[z.toNat]?=O row:=⟨G[z.toNat]'(by have:=zP.1;have:=zP.2;omega),by simp⟩
  obtain⟨t5,w5,r1,r2,r3⟩:=ll z.toNat rz hrz;refine gq ?_;refine⟨_,Z,_,Z,g0,_,_,_,Z,Z,bI.of (s2 _ _ jl),fi zP.1 r1,t5,_,_,_,Z,Z,gA.of (s2 _ _ r2),bb (j:=1) Z,Z,?_⟩;rw[aM,hz,aB,aB];show _=_++[V.int (rk (a0d G) z)];rw[(AD zP).2,vT hrz]
 obtain⟨rfl,rfl⟩:=h;rw[ab,aR];refine⟨ka,_,Z,bI.of ao,?_,λM hM B2=>?_⟩
 .intro z;have:=congrArg j3 z;rw[ab,i8] at this;simp at this M7;omega
 have Es:=NR.ring hW.nb Qv VF hs hM B2;have s3:=s2.trans (av JD (.lst ((((qs++[p]).drop sI).map (rk (a0d G))).map V.int)));have vz:=(av Zj (.lst (((qs++[p]).drop sI).map V.int))).trans (av JD (.lst ((((qs++[p]).drop sI).map (rk (a0d G))).map V.int))) _ _ Iu;have NS:=(av Zj (.lst (((qs++[p]).drop sI).map V.int))).trans (av JD (.lst ((((qs++[p]).drop sI).map (rk (a0d G))).map V.int))) _ _ hd1;have Qz:=(av Zj (.lst (((qs++[p]).drop sI).map V.int))).trans (av JD (.lst ((((qs++[p]).drop sI).map (rk (a0d G))).map V.int))) _ _ tP;generalize upd (upd H1 sa (.lst (((qs++[p]).drop sI).map V.int))) ka (.lst ((((qs++[p]).drop sI).map (rk (a0d G))).map V.int))=H3 at s3 vz NS Qz ⊢;have JG:=NR.cut (sI+1);rw[aM,hs] at JG;have etk:(qs++[p]).take (sI+1)=(qs++[p]).take sI++[q]:=by rw[aM,hs];rfl
 generalize qs++[p]=ps at Qz M7 hln JG etk ⊢;obtain⟨W,hW⟩:∃ W:Nat->St->Hp->Prop,W=λk σ' Hz=>sI+1<=k/\k<=ps.length/\σ'=[O (.ref d),O (.ref nl),O (.ref g0),O (.int h),O (.ref pa),O (.ref da),O (.int pick),O (.ref t0),y1,O (.int q),O (.int (sI:Nat)),O (.int M)]/\aU (m3 H x pa da) Hz/\Hz x=O (.ins R dx (cE "at" (.int q) fl))/\Hz da=O (.dK Ex)/\Hz pa=O (.lst ((ps.take k).map V.int)):=⟨_,Z⟩
 refine⟨W,⟨ps.length,by rw[hW];exact⟨M7,ay _,Z,s3,vz,NS,by rw[aR];exact Qz⟩⟩,λk σ' Hz w=>?_⟩;have w':=w;rw[hW] at w';obtain⟨k0,k1,rfl,sz,hxz,YZ,Zg⟩:=w';have Uq:((ps.take k).map V.int).length=k:=by rw[ab,db];omega
 refine⟨_,Z,pa,_,Z,.inl (bI.of Zg),_,Z,_,_,Z,Z,_,_,Z,Z,_,Z,?_⟩;refine gN (λc=>?_) (λc=>?_)
 .have c':=of_decide_eq_true c;rw[Uq] at c';obtain⟨y,hy⟩:∃ y,((ps.take k).map V.int)[((ps.take k).map V.int).length-1]?=O y:=⟨_,bi (by omega)⟩
  refine⟨W (k-1),λσ2 H2 w2=>⟨k-1,by omega,w2⟩,?_⟩;refine⟨_,Z,.inl ⟨Z,_,bI.of Zg⟩,pa,_,y,Z,Z,Zg,hy,?_⟩;show W (k-1) _ _;rw[hW];refine⟨by omega,by omega,Z,sz.put SR _,by rw[bh Zz];exact hxz,by rw[bh (cg npd)];exact YZ,?_⟩;rw[ao,List.dropLast_eq_take,Uq,← List.map_take,List.take_take];congr 5;omega
 .have c':¬ ((sI:Int)+1<(((ps.take k).map V.int).length:Nat)):=λz=>c (decide_eq_true z);rw[Uq] at c';have ek:k=sI+1:=by omega
  subst ek;refine⟨_,Z,_,_,Z,Z,(show(0:Int)<2 by decide),_,Z,Z,?_⟩;rw[decide_eq_true (by rw[← Es])];exact qq Hz sz ⟨⟨dx,_,q,ps.take sI,hxz,hF1,by rw[← etk];exact Zg,JG⟩,⟨Ex,YZ,VU,VX⟩⟩
theorem QO(h:Int):sg h∈(["+","-"]:List aE):=by unfold sg;split <;> simp
theorem LY{h:Int}(mh:h=0\/h=1):bW "+-" (sg h) 0 ("+-" : aE).length 1=[h.toNat]:=by rcases mh with rfl | rfl <;> decide +kernel
theorem Tx{h:Int}(mh:h=0\/h=1):∃ c,oB ("-+" : aE).cps.toList ((h.toNat:Nat):Int)=O c/\(⟨#[c]⟩:aE)=sg (1-h):=by
 rcases mh with rfl | rfl
 .exact⟨45,Z,Z⟩
 .exact⟨43,Z,Z⟩
theorem RK{names:List aE}{G:List Row}(hl:names.length=G.length)(RL:G.length<=12)(kc:qY names)(hG:∀ r∈G,lN names.length r):(gT names G).length<=50000:=by
 have hb:∀ x∈uj names G,x.length<=1197:=λx hx=>by
  obtain⟨p,hp,rfl⟩:=bE.mp hx;obtain⟨h1,h2⟩:=wt hl kc hG p hp;exact(tz kc h1 h2).1
 have:=vC (y := "; ") hb;have m8:(uj names G).length=G.length:=by unfold uj;rw[ab,md];omega
 rw[m8] at this;have h3:G.length*(1197+("; " : aE).length)<=12*1199:=Nat.mul_le_mul RL (by trivial);exact bF this (by omega)
theorem xW{C A B:Hp}{d th:ai}{od ot:HO}(sC:aU C A)(s:aU A B)(cd:C d=Y)(ct:C th=Y)(hd:A d=O od)(ht:A th=O ot):aU C (mn B d th)/\aU (jf A B) (mn B d th)/\∀ o,aU (mn B d th) (upd B th o):=by
 refine⟨λb o e=>?_,λb o e=>?_,λo=>iz.put vH _⟩
 .rw[mG (cw e cd) (cw e ct)];exact s _ _ (sC _ _ e)
 .have h:A b=Y:=by
   cases z:A b with
   |none=>rfl
   |some u=>rw[nE z] at e;cases e
  rw[eV h] at e;rw[mG (λz=>by rw[z,hd] at h;cases h) (λz=>by rw[z,ht] at h;cases h)];exact e
theorem rO{k n w:aE}(hk:k.length<=100)(hn:a0b n=true)(hw:a0b w=true):k.length+n.length<=1000/\(k++n).length+(" " : aE).length<=1000/\(k++n ++ " ").length+w.length<=1000:=by
 have a:=jM hn;have b:=jM hw;have c:(" " : aE).length=1:=rfl;simp only [gL,c];omega
theorem z7(xC:Dn P w K mg base "say_won" 50 ["desk","words"] (GF HC DC)){H:Hp}{Q:VK}{d th dx x0 na:ai}{fl:List (aE × V)}{py v:V}{bM:List (Key × V)}{m:Nat}{n0 z:aE}{names:List aE}{G:List Row}{j:Nat}(hn:a0b n0=true)(hz:a0b z=true)(hd:H d=O (.ins DC dx fl))(hF:Fu fl th py m)(wv:H th=O (.dK bM))(hv:eO bM (.inr n0)=O (.ref x0))(hG:Nl HC H x0 na v names G)(hS:G0 G)(nd:names.Nodup)(hj:names[j]?=O z)(hl:j<G.length)(q:∀(hf:Int->Int)(wf:Int->Option Int)(H1:Hp),aU H H1->FG G (je G) hf wf->Q (.str (sg (hf (j:Nat)))) H1):GC P w K mg base [.ref d,.str ("won " ++ n0 ++ " " ++ z)] H Q E0:=by
 obtain⟨so,sw⟩:=Pn hn hz;refine⟨d,_,_,_,6,50,GF HC DC,Z,so,by decide,xC,λwl H1 s1 oT=>?_⟩;rw[sw] at oT;exact⟨d,th,dx,wl,x0,na,fl,py,v,bM,m,n0,z,names,G,j,Z,s1 _ _ hd,hF,s1 _ _ wv,oT,hv,hG.up s1,hS,nd,hj,hl,λhf wf H2 s2=>q hf wf H2 (s1.trans s2)⟩
theorem Ed{A B:Hp}{d x:ai}{od:HO}(s:aU A (L2.del B x))(hx:A x=Y)(hd:A d=O od):aU (L2.del A d) (L2.del (L2.del B x) d)/\aU (jf A (L2.del B x)) (L2.del (L2.del B x) d)/\∀ o,aU (L2.del (L2.del B x) d) (upd B d o):=by
 refine⟨lO s d,λb o e=>?_,λo b u e=>?_⟩
 .have h:A b=Y:=by
   cases z:A b with
   |none=>rfl
   |some u=>rw[nE z] at e;cases e
  rw[eV h] at e;rw[dF (λz=>by rw[z,hd] at h;cases h)];exact e
 .have nb:b≠d:=λz=>by rw[z] at e;unfold L2.del at e;rw[if_pos rfl] at e;cases e
  rw[bh nb];rw[dF nb] at e;exact kL _ _ _ _ e
def Gy(K:af):Sp:=λvs H Q _=>∃(a:ai)(ns:List Int),vs=[.ref a]/\bI K H a (ns.map V.int)/\ns.length<=63/\∀ H',Q (.bl true) H'
theorem S8{f:ai}{fd:iJ}(F:Jt K "law" "law" tS f fd)(T:Txt mg)(bZ:ClsAt K mg "Desk" DC nY)(eE:Dn P w K mg base "_law_cell_at" 1 ["_law_script","_law_k"] (Ar K))(DS:Dn P w K mg base "_law_rows" 2 ["_law_script"] (Mg K))(tK:Dn P w K mg base "_law_names" 1 ["_law_cell","_law_many"] Gz)(DU:Dn P w K mg base "_law_text" 1 ["_law_names_here","_law_rows_here"] (Mh K))(Bp:Dn P w K mg base "_law_asked" 2 ["_law_script","_law_many"] (Gu K))(tZ:GZ P w K mg base DC 1 ["self"] (Gw DC))(fX:tL P w K mg base DC "say" 53 ["self","row"] (GC P w K mg base))(UO:Dn P w K mg base "put_game" 8 ["desk","words"] (Fk HC DC))(Rf:Dn P w K mg base "say_turn" 8 ["desk","words"] (Ay HC DC))(xC:Dn P w K mg base "say_won" 50 ["desk","words"] (GF HC DC))(Re:Dn P w K mg base "play_ranks" 52 ["desk","words"] (Aw HC DC R))(DT:Dn P w K mg base "_law_step" 54 ["_law_desk","_law_names_here","_law_rows_here","_law_hand","_law_pile","_law_gone","_law_pick"] (Mi HC DC R)):ow P w K mg base DR 55 f fd ["_law_script"] (Gy K):=by
 have sc:=Tv;refine F.ok sc (λvs H Q E h=>?_) (λdW A outer s H vs Q E hr h=>?_)
 .obtain⟨_,_,rfl,_⟩:=h;rfl
 obtain⟨a,ns,rfl,hS,Dv,q⟩:=h;refine⟨_,(ak (bz (i:=1) sc.nd Z (aY Z) (b9 DS hr (aa (pv 0) am)))
   (ak (bz (i:=2) sc.nd Z (aY Z) (b9 tK hr (aa (b9 eE hr (aa (pv 0) (aa aD am))) (aa (bP (gp (K:=K) Z) Z T.fR bu (aa (pv 1) am)) am))))
   (ak (bz (i:=3) sc.nd Z (aY Z) (b9 tK hr (aa (bA iM (b9 eE hr (aa (pv 0) (aa aD am))) aD) (aa aD am))))
   (ak (bz (i:=4) sc.nd Z (aY Z) (O0 bZ tZ hr))
   (ak (dE (cA o5 (gP bZ.cl fX hr (pv 4) (aa (bA cy (bA cy (bA cy cq (be (iy (K:=K) Z) (pv 3) aD (λ_ _=>rfl))) cq) (b9 DU hr (aa (pv 2) (aa (pv 1) am)))) am)) cq (de _))
   (aA (bU ln))
   cv)
   (ak (dE (cA o5 (gP bZ.cl fX hr (pv 4) (aa (bA cy (bA cy (bA cy cq (be (iy (K:=K) Z) (pv 3) aD (λ_ _=>rfl))) cq) (be (iy (K:=K) Z) (pv 3) aD (λ_ _=>rfl))) am)) cq (de _))
   (aA (bU ln))
   cv)
   (ak (bz (i:=5) sc.nd Z (aY Z) (b9 Bp hr (aa (pv 0) (aa (bP (gp (K:=K) Z) Z T.fR bu (aa (pv 1) am)) am))))
   (ak (fD bB Z (cV (pv 5)) (cU (i:=6) sc.nd Z (aY Z))
   (ak (bz (i:=7) sc.nd Z (aY Z) (gP bZ.cl fX hr (pv 4) (aa (bA cy (bA cy (bA cy cq (be (iy (K:=K) Z) (pv 3) aD (λ_ _=>rfl))) cq) (be (iy (K:=K) Z) (pv 2) (pv 6) (λ_ _=>rfl))) am)))
   (ak (dE (cA (lQ (K:=K) Z) (pv 7) (gt (aa cq (aa cq am))) Z)
   (aA (bU ln))
   cv)
   (aA (dE (cA o5 (gP bZ.cl fX hr (pv 4) (aa (bA cy (bA cy (bA cy cq (be (iy (K:=K) Z) (pv 3) aD (λ_ _=>rfl))) cq) (be (iy (K:=K) Z) (pv 2) (pv 6) (λ_ _=>rfl))) am)) (be qG cq (ge cO By Bz yd cq (aa (pv 7) am)) (λ_ _=>rfl)) (de _))
   (aA (bU ln))
   cv)))))
   (ak (bz (i:=6) sc.nd Z (aY Z) (be (iy (K:=K) Z) (pv 5) (bA dG (b9 eE hr (aa (pv 0) (aa aD am))) (bP (gp (K:=K) Z) Z T.fR bu (aa (pv 5) am))) (λ_ _=>rfl)))
   (ak (bz (i:=7) sc.nd Z (aY Z) (gP bZ.cl fX hr (pv 4) (aa (bA cy (bA cy (bA cy cq (be (iy (K:=K) Z) (pv 3) aD (λ_ _=>rfl))) cq) (be (iy (K:=K) Z) (pv 2) (pv 6) (λ_ _=>rfl))) am)))
   (ak (dE (cA (lQ (K:=K) Z) (pv 7) (gt (aa cq (aa cq am))) Z)
   (aA (bU ln))
   cv)
   (ak (dE (cA o5 (pv 7) (gP bZ.cl fX hr (pv 4) (aa (bA cy (bA cy (bA cy cq (be (iy (K:=K) Z) (pv 3) aD (λ_ _=>rfl))) cq) (be (iy (K:=K) Z) (pv 2) (pv 6) (λ_ _=>rfl))) am)) (de _))
   (aA (bU ln))
   cv)
   (ak (bz (i:=8) sc.nd Z (aY Z) (eY (aa (pv 6) am)))
   (ak (bz (i:=9) sc.nd Z (aY Z) Cw)
   (ak (fD bB Z (lI Z T.mz (aa aD am)) (cU (i:=10) sc.nd Z (aY Z))
   (ak (bz (i:=11) sc.nd Z (aY Z) (bA dG (bA iN (bA iM (b9 eE hr (aa (pv 0) (aa (bA iM aD (pv 10)) am))) (bA iN (bA iN aD (pv 10)) (pv 10))) aD) aD))
   (aA (dE (ji (fM (b9 DT hr (aa (pv 4) (aa (pv 2) (aa (pv 1) (aa (ge cO By Bz yd cq (aa (pv 7) am)) (aa (pv 8) (aa (pv 9) (aa (pv 11) am))))))))))
   (aA (bU ln))
   cv))))
   (aA (bU (kI lR (gP bZ.cl fX hr (pv 4) (aa (bA cy (bA cy (bA cy cq (be (iy (K:=K) Z) (pv 3) aD (λ_ _=>rfl))) cq) (be (iy (K:=K) Z) (pv 2) (be (iy (K:=K) Z) (pv 8) (Gh AG aD) (λ_ _=>rfl)) (λ_ _=>rfl))) am)) (pv 7) (de _))))))))))))))))))),?_⟩
 refine⟨_,Z,a,ns,Z,hS,λv H1 G s1 hG zp=>?_⟩;obtain⟨g0,gv,rfl,jl,n9,ll⟩:=dk hG;have RL:=zp.HL;have h1p:=zp.pos;refine⟨_,Z,a,ns,1,Z,s1.seq hS,by decide,λm1=>?_⟩;refine⟨_,Z,g0,_,Z,.inl (bI.of jl),m1,_,Z,by omega,by omega,λnl names H2 s2 nl0 Ep abF qg=>?_⟩;have Qx:names.length=G.length:=by rw[abF];omega
 have CC:=s1.trans s2;refine⟨_,Z,a,ns,2,Z,CC.seq hS,by decide,λm2=>?_⟩;refine⟨_,_,Z,Z,m2+7,2,Z,by decide,by decide,λsl X0 H3 s3 sl0 M7 abY hsm=>?_⟩;obtain⟨n0,n1,rfl⟩:∃ n0 n1,X0=[n0,n1]:=by
  match X0,abY with
  |[a,b],_=>exact⟨a,b,Z⟩
 have Io:a0b n0=true:=hsm.nm n0 (by simp);have vx:a0b n1=true:=hsm.nm n1 (by simp);have n01:n0≠n1:=λe=>by have:=hsm.nd;rw[e] at this;simp at this
 refine λd dd Qm aa7 ned=>?_;refine⟨d,dd,Z,ao,λth fl wv Dw=>⟨Z,?_⟩⟩;have u0:aU H3 (upd (upd H3 dd (.own d)) d (.ins DC dd [])):=(av aa7 _).trans (av (by rw[bh (cg ned)];exact Qm) _);have th0:H3 th=Y:=u0.free wv;have OA:th≠d:=λe=>by rw[e,ao] at wv;cases wv
 have s4:aU H3 (upd (upd (upd (upd H3 dd (.own d)) d (.ins DC dd [])) th (.dK [])) d (.ins DC dd fl)):=(u0.trans (av wv (.dK []))).put Qm (.ins DC dd fl);have Qo:upd (upd (upd (upd H3 dd (.own d)) d (.ins DC dd [])) th (.dK [])) d (.ins DC dd fl) d=O (.ins DC dd fl):=ao;have Oa:upd (upd (upd (upd H3 dd (.own d)) d (.ins DC dd [])) th (.dK [])) d (.ins DC dd fl) th=O (.dK []):=by rw[bh OA,ao]
 generalize upd (upd (upd (upd H3 dd (.own d)) d (.ins DC dd [])) th (.dK [])) d (.ins DC dd fl)=H4 at s4 Qo Oa ⊢;clear u0 wv;have Nc:=s2.trans (s3.trans s4);have hg4:hZ H4 G (.ref g0):=dS.up Nc hG;have V5:=(s3.trans s4) _ _ Ep;have WB:=s4 _ _ M7;have XD:∀ r∈G,lN names.length r:=by rw[Qx];exact zp.XD
 have hgT:=RK Qx RL qg XD;obtain⟨so1,sw1⟩:=LQ (b:=gT names G) Io hgT;have l0:=jM Io;have l1:=jM vx;refine⟨_,Z,d,dd,fl,Z,Qo,Dw.say,_,Z,sl,_,_,_,Z,Z,bI.of WB,bb (j:=0) Z,_,_,Z,Z,a0a (m:=1000) (by show 5+n0.length<=1000;omega),_,_,Z,Z,a0a (m:=1000) (by rw[gL];show 5+n0.length+1<=1000;omega),_,Z,_,Z,nl,_,names,G,Z,bI.of V5,hg4,Qx,by omega,qg,XD,λH5 s5=>?_⟩;refine⟨_,_,Z,Z,a0a (m:=100000) (by rw[gL,gL];show 5+n0.length+1+(gT names G).length<=100000;omega),d,_,_,_,0,8,Fk HC DC,Z,so1,by decide,UO,λwl H6 s6 oT=>?_⟩;rw[sw1] at oT;refine⟨d,th,dd,wl,fl,.fC,[],2,n0,names,G,Z,s6 _ _ (s5 _ _ Qo),Dw,s6 _ _ (s5 _ _ Oa),by decide,oT,Io,Qx,by omega,qg,XD,zp.good,λx0 na v0 H7 s7 hG7=>?_⟩;refine⟨Z,?_⟩;rw[decide_eq_true rfl];refine⟨false,Z,?_⟩;refine gO ?_;have VA:=s6 _ _ (s5 _ _ Qo);have WH:=s6 _ _ (s5 _ _ Oa);obtain⟨f1,f2,f3⟩:=xW (s4.trans (s5.trans s6)) s7 Qm th0 VA WH;have YQ:=hG7.up f2;have c1d:mn H7 d th d=Y:=yb;have c1t:mn H7 d th th=Y:=vH;have UG:=f3 (.dK (a0f [] (.inr n0) (.ref x0)));have YY:upd H7 th (.dK (a0f [] (.inr n0) (.ref x0))) d=O (.ins DC dd fl):=by rw[bh (cg OA)];exact s7 _ _ VA
 have Ob:upd H7 th (.dK (a0f [] (.inr n0) (.ref x0))) th=O (.dK (a0f [] (.inr n0) (.ref x0))):=ao;generalize upd H7 th (.dK (a0f [] (.inr n0) (.ref x0)))=H8 at UG YY Ob ⊢;generalize mn H7 d th=C1 at f1 YQ c1d c1t UG;clear f2 f3 hG7 s7 VA WH oT s6 s5 hgT sw1 so1 hg4 V5 WB Qo Oa Nc;have M9:eO (a0f [] (.inr n0) (.ref x0)) (.inr n0:Key)=O (.ref x0):=by rw[rY,if_pos rfl]
 have VV:(a0f ([]:List (Key × V)) (.inr n0) (.ref x0)).length<=1:=bF (jm _ _ _) (by decide);generalize a0f ([]:List (Key × V)) (.inr n0) (.ref x0)=Oo at M9 VV Ob;obtain⟨so2,sw2⟩:=LS vx Io;have So:=UG _ _ (f1 _ _ M7);refine⟨_,Z,d,dd,fl,Z,YY,Dw.say,_,Z,sl,_,_,_,Z,Z,bI.of So,bb (j:=1) Z,_,_,Z,Z,a0a (m:=1000) (by show 5+n1.length<=1000;omega),_,_,Z,Z,a0a (m:=1000) (by rw[gL];show 5+n1.length+1<=1000;omega),_,Z,sl,_,_,_,Z,Z,bI.of So,bb (j:=0) Z,_,_,Z,Z,a0a (m:=1000) (by rw[gL,gL];show 5+n1.length+1+n0.length<=1000;omega),d,_,_,_,5,8,Ay HC DC,Z,so2,by decide,Rf,λwl H9 s9 oT=>?_⟩;rw[sw2] at oT;have VB:=s9 _ _ YY;have Sr:=s9 _ _ Ob;refine⟨d,th,dd,wl,x0,na,fl,.fC,v0,Oo,2,n1,n0,names,a0d G,Z,VB,Dw,Sr,by omega,oT,vx,M9,YQ.up (UG.trans s9),zp.Yj,λr hr=>?_,λx1 v1 Rj s10 Qh zn=>?_⟩
 .have:=(zp.TZ r hr).2.2.2.2.1;omega
 rw[zp.Ym] at zn;refine⟨Z,?_⟩;rw[decide_eq_true rfl];refine⟨false,Z,?_⟩;refine gO ?_;obtain⟨f4,f5,f6⟩:=xW (UG.trans s9) s10 c1d c1t VB Sr;have NQ:=YQ.up f4;have Vo:Nl HC (mn Rj d th) x1 na v1 names (fo (a0d G)):=⟨Qh.up f5,NQ.names,dS.up f5 zn⟩
 have c2d:mn Rj d th d=Y:=yb;have c2t:mn Rj d th th=Y:=vH;have UH:=f6 (.dK (a0f Oo (.inr n1) (.ref x1)));have RU:upd Rj th (.dK (a0f Oo (.inr n1) (.ref x1))) d=O (.ins DC dd fl):=by rw[bh (cg OA)];exact s10 _ _ VB
 have F0:upd Rj th (.dK (a0f Oo (.inr n1) (.ref x1))) th=O (.dK (a0f Oo (.inr n1) (.ref x1))):=ao;generalize upd Rj th (.dK (a0f Oo (.inr n1) (.ref x1)))=H11 at UH RU F0 ⊢;have NM:=f1.trans f4;generalize mn Rj d th=C2 at NM NQ Vo c2d c2t UH;clear f1 f4 f5 f6 zn Qh s10 VB Sr oT s9 YQ sw2 so2 YY Ob So c1d c1t UG;have Zm:eO (a0f Oo (.inr n1) (.ref x1)) (.inr n1:Key)=O (.ref x1):=by rw[rY,if_pos rfl]
 have KP:eO (a0f Oo (.inr n1) (.ref x1)) (.inr n0:Key)=O (.ref x0):=by rw[rY,if_neg (λz=>n01 (lc z))];exact M9
 generalize a0f Oo (.inr n1) (.ref x1)=kv at Zm KP F0;clear M9 VV;have sH:aU H H11:=(s1.trans (s2.trans s3)).trans (NM.trans UH);have RW:=(s2.trans (s3.trans (NM.trans UH))) _ _ jl;refine⟨_,Z,_,Z,g0,_,Z,.inl (bI.of RW),a,ns,_,Z,sH.seq hS,by omega,by omega,λal ls H12 IV M3 la1 acx Ur=>?_⟩;have UI:=UH.trans IV;have zq:=IV _ _ RU;have B4:=IV _ _ F0;have FY:=UI _ _ (NM _ _ (s3 _ _ Ep));have FZ:=UI _ _ (NM _ _ M7);have hGa:=NQ.up UI;have hGb:=Vo.up UI;have XO:=sH.trans IV;have abf:=IV _ _ RW;have UB:∀ z:Int,0<=z->z<G.length->∃ w,names[z.toNat]?=O w/\names.getD z.toNat "" = w/\a0b w=true:=λz h0 h1=>oS qg h0 (by rw[Qx];exact h1);clear RW RU F0 UH sH IV;refine⟨_,Z,al,Z,⟨_,bI.of M3⟩,gr (K:=K) (a:=al) (xs:=ls.map V.int) (λi J Hy=>(∃ y6 y7:Option V,J=[O (.ref a),O (.ref g0),O (.ref nl),O (.ref sl),O (.ref d),O (.ref al),y6,y7,Y,Y,Y,Y])/\aU H12 Hy) ⟨⟨_,_,Z⟩,aU.refl _⟩ (λi J Hy _ h=>bI.of (h.2 _ _ M3)) (λi x J Hy hi h=>?_) (λ J Hy h=>?_)⟩
 .obtain⟨⟨y6,y7,rfl⟩,sy⟩:=h;obtain⟨z,hz,rfl⟩:=dR hi;have ww:=Ur z (ag hz);rw[n9] at ww;obtain⟨wn,hw,nS,Od⟩:=UB z ww.1 ww.2;have ez:((z.toNat:Nat):Int)=z:=by omega
  obtain⟨b1,b2,b3⟩:=rO (k := "won ") (by trivial) Io Od;refine⟨_,Z,d,dd,fl,Z,sy _ _ zq,Dw.say,_,Z,sl,_,_,_,Z,Z,bI.of (sy _ _ FZ),bb (j:=0) Z,_,_,Z,Z,a0a (m:=1000) b1,_,_,Z,Z,a0a (m:=1000) b2,_,Z,_,Z,nl,_,_,_,Z,Z,bI.of (sy _ _ FY),fi ww.1 (by rw[au,hw];rfl),_,_,Z,Z,a0a (m:=1000) b3,?_⟩;refine z7 xC Io Od (sy _ _ zq) Dw (sy _ _ B4) KP (hGa.up sy) zp.sol qg.nd hw (by rw[eN];omega) λhf wf Hb sb lC=>?_;rw[ez];have zP:je (a0d G) z:=⟨ww.1,by rw[eN];exact ww.2⟩
  have mh:=lC.mh z zP;have syb:=sy.trans sb;refine⟨_,Z,(by show 2<=az;decide),λtp zv=>⟨tp,_,Z,.inr (gA.of ao),Z,Z,?_⟩⟩;have st:=av zv (.tup [V.str "+",V.str "-"]);rw[if_pos Z,show[V.str "+",V.str "-"]=(["+","-"]:List aE).map V.str from Z,mB,decide_eq_true (QO _)];refine⟨false,Z,?_⟩;refine gO ?_;have QS:aU H12 (upd Hb tp (.tup (((["+","-"]:List aE)).map V.str))):=syb.trans st;generalize upd Hb tp (.tup ((["+","-"]:List aE).map V.str))=Hc at QS ⊢;obtain⟨b1,b2,b3⟩:=rO (k := "won ") (by trivial) vx Od;refine⟨_,Z,d,dd,fl,Z,QS _ _ zq,Dw.say,_,Z,sl,_,_,_,Z,Z,bI.of (QS _ _ FZ),bb (j:=1) Z,_,_,Z,Z,a0a (m:=1000) b1,_,_,Z,Z,a0a (m:=1000) b2,_,Z,_,Z,nl,_,_,_,Z,Z,bI.of (QS _ _ FY),fi ww.1 (by rw[au,hw];rfl),_,_,Z,Z,a0a (m:=1000) b3,?_⟩;refine z7 xC vx Od (QS _ _ zq) Dw (QS _ _ B4) Zm (hGb.up QS) zp.Yl qg.nd hw (by rw[l8,eN];omega) λqS yB Hd sd Kr=>?_;rw[ez];have e2:qS z=1-hf z:=Aq (λp hp=>hp) zp.Yl.mh Kr (Mv lC) z (by rw[l8];exact zP);obtain⟨c,hc,ec⟩:=Tx mh;refine⟨Z,_,Z,"+-",sg (hf z),_,_,Z,Z,LY mh,"-+",_,c,Z,Z,(by trivial),hc,Z,?_⟩;rw[ec,e2,decide_eq_true rfl];refine⟨false,Z,?_⟩;refine gO ?_;exact⟨⟨_,_,Z⟩,QS.trans sd⟩
 obtain⟨⟨y6,y7,rfl⟩,sy⟩:=h;refine⟨_,Z,_,Z,a,ns,1,Z,(XO.trans sy).seq hS,by decide,λZr=>?_⟩;have NX:((ls.map V.int).length:Int)=(ls.length:Int):=by rw[ab]
 have i0:=cj Zr (show((ls.map V.int).length:Int)≠0 by omega);have i1:=bN Zr (show 0<((ls.map V.int).length:Int) by omega);obtain⟨z,hz⟩:∃ z,ls[(Zr % ((ls.map V.int).length:Int)).toNat]?=O z:=⟨ls[(Zr % ((ls.map V.int).length:Int)).toNat]'(by omega),by simp⟩
 have ww:=Ur z (ag hz);rw[n9] at ww;refine⟨_,Z,al,_,Z,.inl (bI.of (sy _ _ M3)),_,_,Z,Z,(by omega),al,_,_,_,Z,Z,bI.of (sy _ _ M3),fi i0 (by rw[au,hz];rfl),?_⟩;clear i0 i1 NX hz Ur la1 acx;obtain⟨wn,hw,nS,Od⟩:=UB z ww.1 ww.2;have ez:((z.toNat:Nat):Int)=z:=by omega
 obtain⟨so3,sw3⟩:=LR Io Od;obtain⟨b1,b2,b3⟩:=rO (k := "play ") (by trivial) Io Od;refine⟨_,Z,d,dd,fl,Z,sy _ _ zq,Dw.say,_,Z,sl,_,_,_,Z,Z,bI.of (sy _ _ FZ),bb (j:=0) Z,_,_,Z,Z,a0a (m:=1000) b1,_,_,Z,Z,a0a (m:=1000) b2,_,Z,_,Z,nl,_,_,_,Z,Z,bI.of (sy _ _ FY),fi ww.1 (by rw[au,hw];rfl),_,_,Z,Z,a0a (m:=1000) b3,d,_,_,_,9,52,Aw HC DC R,Z,so3,by decide,Re,λwl Ha sa oT=>?_⟩;rw[sw3] at oT;have QR:=sy.trans sa;refine⟨d,th,dd,wl,x0,na,fl,.fC,v0,kv,2,n0,wn,names,a0d G,z.toNat,Z,QR _ _ zq,Dw,by decide,QR _ _ B4,oT,KP,hGa.up QR,zp.sol,qg.nd,hw,by rw[eN];omega,λx dr ph fr hf wf wa oa ua Hb sb zw hPD hxb JB lC hHp=>?_⟩;rw[ez] at JB ⊢;have zP:je (a0d G) z:=⟨ww.1,by rw[eN];exact ww.2⟩
 have mh:=lC.mh z zP;obtain⟨k1,k2,k3⟩:=Ed sb zw (QR _ _ zq);have UJ:aU C2 (L2.del (L2.del Hb x) d):=aU.trans (λb o e=>by rw[dF (cw e c2d)];exact QR _ _ (UI _ _ e)) k1;have Ss:L2.del (L2.del Hb x) d th=O (.dK kv):=k1 _ _ (by rw[dF OA];exact QR _ _ B4);have Vr:=hPD.up k2;have Vp:=hHp.up k2;have XI:=k3 (.ins DC dd (cE "play" (.ref ph) fl));have SZ:x≠d:=λe=>by rw[e,QR _ _ zq] at zw;cases zw
 have hxq:upd Hb d (.ins DC dd (cE "play" (.ref ph) fl)) x=O (.ins R dr fr):=by rw[bh SZ];exact hxb
 have Uj:upd Hb d (.ins DC dd (cE "play" (.ref ph) fl)) d=O (.ins DC dd (cE "play" (.ref ph) fl)):=ao;have cx:L2.del (L2.del Hb x) d x=Y:=by rw[dF SZ];unfold L2.del;rw[if_pos rfl]
 have HR:=Dw.put (.ref ph);generalize upd Hb d (.ins DC dd (cE "play" (.ref ph) fl))=Hq at XI hxq Uj ⊢;generalize L2.del (L2.del Hb x) d=C3 at UJ Ss Vr Vp XI cx;generalize cE "play" (.ref ph) fl=fq at Uj HR;clear k1 k2 k3 hPD hHp hxb sb zw oT QR sa zq B4 M3 sy abf FY FZ hGa hGb UI XO so3 sw3 b1 b2 b3;have RM:=NQ.up UJ;have V7:=UJ _ _ (NM _ _ (s3 _ _ Ep));have WC:=UJ _ _ (NM _ _ M7);have hgC:hZ C3 G (.ref g0):=dS.up (s2.trans (s3.trans (NM.trans UJ))) hG;have sHC:aU H C3:=CC.trans (s3.trans (NM.trans UJ));refine⟨_,Z,(by show 2<=az;decide),λtp zv=>⟨tp,_,Z,.inr (gA.of ao),Z,Z,?_⟩⟩;have st:=av zv (.tup [V.str "+",V.str "-"]);rw[if_pos Z,show[V.str "+",V.str "-"]=(["+","-"]:List aE).map V.str from Z,mB,decide_eq_true (QO _)];refine⟨false,Z,?_⟩;refine gO ?_;have sq:aU Hq (upd Hq tp (.tup ((["+","-"]:List aE).map V.str))):=st;generalize upd Hq tp (.tup ((["+","-"]:List aE).map V.str))=Hr at sq ⊢;clear st zv;obtain⟨b1,b2,b3⟩:=rO (k := "won ") (by trivial) Io Od;have XJ:=XI.trans sq;refine⟨_,Z,_,Z,d,dd,fq,Z,sq _ _ Uj,HR.say,_,Z,sl,_,_,_,Z,Z,bI.of (XJ _ _ WC),bb (j:=0) Z,_,_,Z,Z,a0a (m:=1000) b1,_,_,Z,Z,a0a (m:=1000) b2,_,Z,_,Z,nl,_,_,_,Z,Z,bI.of (XJ _ _ V7),fi ww.1 (by rw[au,hw];rfl),_,_,Z,Z,a0a (m:=1000) b3,?_⟩;refine z7 xC Io Od (sq _ _ Uj) HR (XJ _ _ Ss) KP (RM.up XJ) zp.sol qg.nd hw (by rw[eN];omega) λqS yB Hs ss Kr=>?_;rw[ez];have e2:qS z=hf z:=Aq (λp hp=>hp) zp.sol.mh Kr lC z zP;refine⟨Z,?_⟩;rw[e2,decide_eq_true rfl];refine⟨false,Z,?_⟩;refine gO ?_;have ZJ:=sq.trans ss;have sCs:=XI.trans ZJ;have hxs:=ZJ _ _ hxq;have hds:=ZJ _ _ Uj;clear sq ss XJ XI hxq Uj;refine⟨_,Z,(by show 1<=az;decide),λpa vy=>?_⟩;have u1:=av vy (.lst [V.int z]);have q1:upd Hs pa (.lst [V.int z]) pa=O (.lst [V.int z]):=ao;generalize upd Hs pa (.lst [V.int z])=Ht at u1 q1 ⊢;refine λda Qp=>?_;have u2:=av Qp (.dK []);have q2:upd Ht da (.dK []) da=O (.dK []):=ao;generalize upd Ht da (.dK [])=Hu at u2 q2 ⊢;have u12:=u1.trans u2;have VC:Hs da=Y:=u1.free Qp;have hP0:YJ R Hu x pa da (a0d G) hf wf (hf z) wa oa ua 5 names:=⟨⟨dr,fr,z,[],u12 _ _ hxs,JB,u2 _ _ q1,Pl.one zP⟩,⟨[],q2,bq _,λz v h=>by cases h⟩⟩
 have sD:aU (L2.del Hs x) (m3 Hu x pa da):=λb o e=>by
  have nb:b≠x:=λz=>by rw[z] at e;unfold L2.del at e;rw[if_pos rfl] at e;cases e
  rw[dF nb] at e;rw[QH nb (λz=>by rw[z,vy] at e;cases e) (λz=>by rw[z,VC] at e;cases e)];exact u12 _ _ e
 have Nd:aU C3 (m3 Hu x pa da):=aU.trans (λb o e=>by rw[dF (cw e cx)];exact sCs _ _ e) sD;have Ui:m3 Hu x pa da d=O (.ins DC dd fq):=sD _ _ (by rw[dF (cg SZ)];exact hds);have kx:m3 Hu x pa da x=Y:=SS;have kp:m3 Hu x pa da pa=Y:=SR;have kd:m3 Hu x pa da da=Y:=W3;have sDu:aU (m3 Hu x pa da) Hu:=F7;generalize m3 Hu x pa da=C5 at Nd Ui kx kp kd sDu;clear sD u12 u1 u2 q1 q2 hxs hds sCs ZJ JB vy Qp VC;have hDS:UP HC DC C5 d x names:=⟨th,dd,ph,na,fq,3,Ui,HR,Vp.up Nd,(RM.up Nd).names⟩
 have ab4:=Nd _ _ Ss;have V6:=Nd _ _ V7;have abX:=Nd _ _ WC;have hG5:=RM.up Nd;have Ul:=dS.up Nd hgC;have aaT:=Vr.up Nd;have sH5:=sHC.trans Nd;refine⟨30,Z,by decide,by decide,nt (lo:=0) (n:=30) (λi J Hy=>∃ y10 y11:Option V,J=[O (.ref a),O (.ref g0),O (.ref nl),O (.ref sl),O (.ref d),O (.ref al),O (.int z),O (.str (sg (hf z))),O (.ref pa),O (.ref da),y10,y11]/\aU C5 Hy/\YJ R Hy x pa da (a0d G) hf wf (hf z) wa oa ua (i+5) names)
  ⟨_,_,Z,sDu,hP0⟩ (λi J Hy hi h=>?_) (λ J Hy h=>?_)⟩
 .obtain⟨y10,y11,rfl,sy,hPS⟩:=h;refine⟨_,Z,_,Z,_,_,Z,Z,a,ns,_,Z,(sH5.trans sy).seq hS,by omega,λm5=>?_⟩;refine⟨_,Z,_,_,Z,Z,.inl ⟨by decide,by decide⟩,_,Z,_,_,Z,Z,.inl ⟨by omega,by omega⟩,_,_,Z,Z,_,_,Z,Z,.inr ⟨by decide,by decide⟩,_,_,Z,Z,(show(0:Int)<60013 by decide),?_⟩;have sM:=W4 sy kx kp kd;have eh:(((hf z).toNat:Nat):Int)=hf z:=by omega
  refine⟨_,Z,_,Z,_,Z,Z,_,Z,"+-",sg (hf z),_,_,Z,Z,LY mh,_,Z,_,Z,_,Z,?_⟩;rw[eh];refine⟨d,nl,x,pa,da,_,_,G,names,hf,wf,hf z,wa,oa,ua,i+5,Z,hPS,by omega,hDS.up sM,sM _ _ V6,qg,Qx,dS.up sM Ul,zp,aaT.up sM,lC,mh,λHk sk hPk=>?_⟩;refine⟨true,Z,?_⟩;refine gO ?_;exact⟨_,_,Z,sM.trans sk,by rw[show i+1+5=i+5+1 by omega];exact hPk⟩
 .obtain⟨y10,y11,rfl,sy,⟨⟨d9,f9,p,qs,hx9,hF9,hp9,NR⟩,_⟩⟩:=h;obtain⟨hpP,N2⟩:=NR.Qd p (by simp);have Se:0<=p/\p<G.length:=⟨hpP.1,by have:=hpP.2;rw[eN] at this;exact this⟩
  obtain⟨wp,JI,_,WP⟩:=UB p Se.1 Se.2;have ep:((p.toNat:Nat):Int)=p:=by omega
  have al9:oB ((qs++[p]).map V.int) (-1)=O (.int p):=by rw[aB];exact vg _ _
  obtain⟨b1,b2,b3⟩:=rO (k := "won ") (by trivial) Io WP;refine⟨_,Z,d,dd,fq,Z,sy _ _ Ui,HR.say,_,Z,sl,_,_,_,Z,Z,bI.of (sy _ _ abX),bb (j:=0) Z,_,_,Z,Z,a0a (m:=1000) b1,_,_,Z,Z,a0a (m:=1000) b2,_,Z,_,Z,_,Z,pa,_,_,_,Z,Z,bI.of hp9,al9,nl,_,_,_,Z,Z,bI.of (sy _ _ V6),fi Se.1 (by rw[au,JI];rfl),_,_,Z,Z,a0a (m:=1000) b3,?_⟩;refine z7 xC Io WP (sy _ _ Ui) HR (sy _ _ ab4) KP (hG5.up sy) zp.sol qg.nd JI (by rw[eN];omega) λhf3 wf3 He se Vt=>?_;rw[ep];have e3:hf3 p=hf z:=(Aq (λp hp=>hp) zp.sol.mh Vt lC p hpP).trans N2;refine⟨_,Z,Z,?_⟩;rw[e3,decide_eq_true rfl];exact q _
theorem main{f:ai}{fd:iJ}(T:Txt mg)
  (oI:u9 K mg "KINDS" ["game","purse","wish"])
  (fN:qu P w K mg "MOST_FIGURES" [("PURSE",70),("NUMBER",9)])
  (pd:oH P w K mg "ROWS" [("game NAME TEXT","put_game"),("purse NAME TEXT","put_purses"),("wish NAME TEXT","put_wishes"),("drop NAME","say_drop"),("show NAME","say_show"),("turn NEW NAME","say_turn"),("won NAME PLACE","say_won"),("need NAME PLACE","say_need"),("serve NAME","say_serve"),("play NAME PLACE","play_ranks"),("play NAME PLACE PURSE","play_purses"),("play NAME","play_wishes"),("go","say_go"),("go PLACE","say_go_other"),("left","say_left"),("now","say_now"),("tick NUMBER","say_tick")])
  {fQ:ai} (aK:ClsAt K mg "Cutter" fQ ["game","entries","hands","ways"])
  {ie:ai} (aJ:ClsAt K mg "RankPlay" ie ["hand","at","rule","owners","outs"])
  {yS:ai} (bC:ClsAt K mg "Held" yS ["kind","names","thing"])
  {sF:ai} (bZ:ClsAt K mg "Desk" sF ["things","play"])
  (DI:aN K mg "is_whole" lW ["value"])
  (DH:aN K mg "is_place" lV ["value","count"])
  (yE:aN K mg "check_hand" jO ["hand"])
  (yG:aN K mg "check_rank" jQ ["rank"])
  (yJ:aN K mg "check_ways" jR ["ways","count"])
  (AZ:aN K mg "check_row" kP ["row","count"])
  (yI:aN K mg "check_rows" iB ["rows"])
  (GO:aN K mg "game_of" lJ ["rows"])
  (GU:aN K mg "ways_in" lK ["game"])
  (JN:aN K mg "turned" nL ["game"])
  (wG:aN K mg "place_marks" i5 ["count","places"])
  (yP:aN K mg "part_marks" jV ["game","part"])
  (uW:aN K mg "lacking_ways" gx ["game","hand","inside","wanted"])
  (yO:aN K mg "next_layer" jU ["layer","entries","lacking"])
  (Be:aN K mg "layers_to" jn ["game","entries","hand","goal","part"])
  (Bf:aN K mg "least_way" jq ["ways","marks"])
  (yN:aN K mg "layer_ways" jT ["game","hand","layers"])
  (qT:qw K fQ "Cutter.__init__" fU ["self","game"])
  (wB:j5 K fQ "pull" "Cutter.pull" iX ["self","hand","goal","left"])
  (sn:j5 K fQ "without" "Cutter.without" fz ["self","left","places"])
  (wA:j5 K fQ "give" "Cutter.give" iW ["self","hand","layers"])
  (qo:j5 K fQ "give_tops" "Cutter.give_tops" fE ["self","hand","tops","left"])
  (yC:j5 K fQ "cut" "Cutter.cut" fb ["self","part"])
  (Bh:aN K mg "places_of" kW ["layers"])
  (JM:aN K mg "solved" o7 ["game"])
  (wE:aN K mg "check_start" iZ ["start","count"])
  (AY:aN K mg "check_due" kO ["due"])
  (Ba:aN K mg "check_way" kQ ["place","outs"])
  (pR:qw K ie "RankPlay.__init__" dA ["self","game","start"])
  (wC:j5 K ie "go" "RankPlay.go" iY ["self"])
  (sr:j5 K ie "other" "RankPlay.other" gw ["self","place"])
  (yM:aN K mg "is_made_of" iC ["word","signs","most"])
  (GQ:aN K mg "is_name" nJ ["word"])
  (yL:aN K mg "is_figures" jS ["word","most"])
  (Bb:aN K mg "is_number" kR ["word"])
  (yD:aN K mg "check_form" jN ["right"])
  (wH:aN K mg "places_told" i6 ["text"])
  (Bk:aN K mg "read_head" jr ["word"])
  (yR:aN K mg "read_place" iD ["text"])
  (DM:aN K mg "numbered" kt ["names"])
  (Bg:aN K mg "number_of" kU ["numbers","name"])
  (Bj:aN K mg "read_game" gH ["text"])
  (tX:qw K yS "Held.__init__" gY ["self","kind","names","thing"])
  (yF:aN K mg "check_name" jP ["word"])
  (GP:aN K mg "held_by" nI ["desk","name","kinds"])
  (DN:aN K mg "place_in" lY ["held","name"])
  (Bi:aN K mg "play_held" kX ["desk","kinds"])
  (DO:aN K mg "put_game" lZ ["desk","words"])
  (DP:aN K mg "say_turn" l4 ["desk","words"])
  (GS:aN K mg "say_won" nK ["desk","words"])
  (yQ:aN K mg "play_ranks" jW ["desk","words"])
  (JL:aN K mg "say_go" o6 ["desk","words"])
  (uX:aN K mg "say_go_other" ij ["desk","words"])
  (DQ:aN K mg "words_of" l5 ["row"])
  (Q5:aN K mg "fits" qL ["form","words"])
  (tW:qw K sF "Desk.__init__" gX ["self"])
  (DG:j5 K sF "say" "Desk.say" lU ["self","row"])
  (wF:aN K mg "_law_cell_at" i4 ["_law_script","_law_k"])
  (Bd:aN K mg "_law_names" kT ["_law_cell","_law_many"])
  (DJ:aN K mg "_law_rows" lX ["_law_script"])
  (DL:aN K mg "_law_text" kr ["_law_names_here","_law_rows_here"])
  (DK:aN K mg "_law_step" ko ["_law_desk","_law_names_here","_law_rows_here","_law_hand","_law_pile","_law_gone","_law_pick"])
  (Bc:aN K mg "_law_asked" kS ["_law_script","_law_many"])
  (F:Jt K "law" "law" tS f fd):ow P w K mg base DR 55 f fd ["_law_script"] (Gy K):=by
 have iw:=Cp (P:=P) (w:=w) (base:=base) DI T;have ip:=Co DH T iw;have cr:=zJ AZ T (wY yE T iw) (wZ yG T iw) (xb yJ T ip);have go:=EN GO T (xa yI T cr);have tu:=IQ JN T go;have pm:=vI wG T ip;have ly:=IM Be T (xf yP T pm) pm (EO uW T) (OM yO T);have le:=Lc (P:=P) (w:=w) (base:=base) Bf T;have lw:=Xk yN T pm le;have cu:=NH yC T aK (Li wB T aK ly) (EQ sn T aK pm) (OG wA T aK lw) (OU qo T aK pm le) (IN Bh T) 42;have so:=IP JM T aK (OJ qT T aK (Xj GU T)) cu;have du:=EL (P:=P) (w:=w) (base:=base) AY T;have ir:=Lb pR T aJ (zK wE T ip) so;have mo:=OK (P:=P) (w:=w) (base:=base) yM T;have nm:=OL GQ T mo;have fg:=S6 yL T mo;have cf:=OF (P:=P) (w:=w) (base:=base) yD T;have rd:=OP Bj T (OT wH T cf) (Lg yR T (OH Bk T cf nm) cf (S9 Bb T fg) nm) (Cq DM T) (Le Bg T) go;have cn:=IL yF T nm;have ih:=La (P:=P) (w:=w) (base:=base) tX T bC;have hb:=OI (P:=P) (w:=w) (base:=base) GP T bC bZ;have pi:=Ta (P:=P) (w:=w) (base:=base) DN T bC;have ph:=Xl (P:=P) (w:=w) (base:=base) Bi T bC bZ;have sy:=Tb DG T pd (Lk DQ T oI) (OE Q5 T fN fg);have ce:=OD (P:=P) (w:=w) (base:=base) wF T;exact S8 F T bZ ce (OQ DJ T ce) (Ld Bd T) (OS DL T) (K8 Bc T ce) (K9 tW T bZ) sy (OO DO T bC bZ cn rd ih) (Lj DP T bC bZ cn hb tu ih) (Tc GS T bC bZ hb pi so) (Lh yQ T bC bZ aJ hb pi ir ih) (OR DK T bZ sy (S7 JL T bC aJ ph (Xi wC T aJ du)) (ON uX T bC aJ ph (Lf sr T aJ du (EM Ba T iw))))
end
theorem all_mk{P:aS}{w:bv}{K:af}{h:cR}{mg:aE->Option ae}{fa:ai}(e:fH.Ok w K)(X:K.In h)(G:h.Ns bo mg)(hfa:mg "law" = O (.ref fa)) :
  ∃ fd:iJ,(∀(s:aq)(v:ae),Nh s fd ⟨[v],[]⟩ [("_law_script",v)])/\∀ base:cR,K.In base->base.Ns bo mg->ow P w K mg base DR 55 fa fd ["_law_script"] (Gy K):=by
 have T:Txt mg:=⟨e.jg X G 0 Z,e.jg X G 1 Z,e.jg X G 2 Z,e.jg X G 3 Z,e.jg X G 4 Z,e.jg X G 5 Z,e.jg X G 6 Z,e.jg X G 7 Z,e.jg X G 8 Z,e.jg X G 9 Z,e.jg X G 10 Z,e.jg X G 11 Z,e.jg X G 12 Z,e.jg X G 13 Z,e.jg X G 14 Z,e.str X G 0 Z,e.int X G 0 Z,e.int X G 1 Z,e.str X G 1 Z,e.str X G 2 Z,e.int X G 2 Z,e.int X G 3 Z,e.int X G 4 Z,e.int X G 5 Z⟩
 have oI:u9 K mg "KINDS" ["game","purse","wish"]:=On X G (congrArg (λp=>p.1) e.more);have fN:qu P w K mg "MOST_FIGURES" [("PURSE",70),("NUMBER",9)]:=Ol X G (congrArg (λp=>p.2.1) e.more) (by trivial);have pd:oH P w K mg "ROWS" [("game NAME TEXT","put_game"),("purse NAME TEXT","put_purses"),("wish NAME TEXT","put_wishes"),("drop NAME","say_drop"),("show NAME","say_show"),("turn NEW NAME","say_turn"),("won NAME PLACE","say_won"),("need NAME PLACE","say_need"),("serve NAME","say_serve"),("play NAME PLACE","play_ranks"),("play NAME PLACE PURSE","play_purses"),("play NAME","play_wishes"),("go","say_go"),("go PLACE","say_go_other"),("left","say_left"),("now","say_now"),("tick NUMBER","say_tick")]:=Om Z X G (congrArg (λp=>p.2.2.1) e.more) (by trivial);obtain⟨fQ,lH,Hj,Hi,aK⟩:=e.cls X G 0 Z;obtain⟨ie,oM,BJ,BI,aJ⟩:=e.cls X G 1 Z;obtain⟨yS,Nz,ND,NB,bC⟩:=e.cls X G 2 Z;obtain⟨sF,FK,NC,NA,bZ⟩:=e.cls X G 3 Z;have A0:aN K mg "is_whole" lW ["value"]:=e.defAt X G 0 Z (λ_ _ _ _ _ _=>L2.lr λ_=>rfl);have A1:aN K mg "is_place" lV ["value","count"]:=e.defAt X G 1 Z (λ_ _ _ _ _ _=>L2.j7 λ_ _=>rfl);have A2:aN K mg "check_hand" jO ["hand"]:=e.defAt X G 2 Z (λ_ _ _ _ _ _=>L2.lr λ_=>rfl);have A3:aN K mg "check_rank" jQ ["rank"]:=e.defAt X G 3 Z (λ_ _ _ _ _ _=>L2.lr λ_=>rfl);have A4:aN K mg "check_ways" jR ["ways","count"]:=e.defAt X G 4 Z (λ_ _ _ _ _ _=>L2.j7 λ_ _=>rfl);have A5:aN K mg "check_row" kP ["row","count"]:=e.defAt X G 5 Z (λ_ _ _ _ _ _=>L2.j7 λ_ _=>rfl);have A6:aN K mg "check_rows" iB ["rows"]:=e.defAt X G 6 Z (λ_ _ _ _ _ _=>L2.lr λ_=>rfl);have A7:aN K mg "game_of" lJ ["rows"]:=e.defAt X G 7 Z (λ_ _ _ _ _ _=>L2.lr λ_=>rfl);have A8:aN K mg "ways_in" lK ["game"]:=e.defAt X G 8 Z (λ_ _ _ _ _ _=>L2.lr λ_=>rfl);have A9:aN K mg "turned" nL ["game"]:=e.defAt X G 9 Z (λ_ _ _ _ _ _=>L2.lr λ_=>rfl);have MJ:aN K mg "place_marks" i5 ["count","places"]:=e.defAt X G 10 Z (λ_ _ _ _ _ _=>L2.j7 λ_ _=>rfl);have Q4:aN K mg "part_marks" jV ["game","part"]:=e.defAt X G 11 Z (λ_ _ _ _ _ _=>L2.j7 λ_ _=>rfl);have Yw:aN K mg "lacking_ways" gx ["game","hand","inside","wanted"]:=e.defAt X G 12 Z (λ_ _ _ _ _ _=>L2.J5 λ_ _ _ _=>rfl);have Yx:aN K mg "next_layer" jU ["layer","entries","lacking"]:=e.defAt X G 13 Z (λ_ _ _ _ _ _=>L2.BE λ_ _ _=>rfl);have A14:aN K mg "layers_to" jn ["game","entries","hand","goal","part"]:=e.defAt X G 14 Z (λ_ _ _ _ _ _=>L2.aaB λ_ _ _ _ _=>rfl);have A15:aN K mg "least_way" jq ["ways","marks"]:=e.defAt X G 15 Z (λ_ _ _ _ _ _=>L2.j7 λ_ _=>rfl);have A16:aN K mg "layer_ways" jT ["game","hand","layers"]:=e.defAt X G 16 Z (λ_ _ _ _ _ _=>L2.BE λ_ _ _=>rfl);have A17:qw K fQ "Cutter.__init__" fU ["self","game"]:=e.Ov 17 lH Hj Hi Z (λ_ _ _ _ _ _=>L2.j7 λ_ _=>rfl);have A18:j5 K fQ "pull" "Cutter.pull" iX ["self","hand","goal","left"]:=e.Cd 18 lH Z (λ_ _ _ _ _ _=>L2.J5 λ_ _ _ _=>rfl);have A19:j5 K fQ "without" "Cutter.without" fz ["self","left","places"]:=e.Cd 19 lH Z (λ_ _ _ _ _ _=>L2.BE λ_ _ _=>rfl);have A20:j5 K fQ "give" "Cutter.give" iW ["self","hand","layers"]:=e.Cd 20 lH Z (λ_ _ _ _ _ _=>L2.BE λ_ _ _=>rfl);have A21:j5 K fQ "give_tops" "Cutter.give_tops" fE ["self","hand","tops","left"]:=e.Cd 21 lH Z (λ_ _ _ _ _ _=>L2.J5 λ_ _ _ _=>rfl);have A22:j5 K fQ "cut" "Cutter.cut" fb ["self","part"]:=e.Cd 22 lH Z (λ_ _ _ _ _ _=>L2.j7 λ_ _=>rfl);have A23:aN K mg "places_of" kW ["layers"]:=e.defAt X G 23 Z (λ_ _ _ _ _ _=>L2.lr λ_=>rfl);have A24:aN K mg "solved" o7 ["game"]:=e.defAt X G 24 Z (λ_ _ _ _ _ _=>L2.lr λ_=>rfl);have A25:aN K mg "check_start" iZ ["start","count"]:=e.defAt X G 25 Z (λ_ _ _ _ _ _=>L2.j7 λ_ _=>rfl);have A26:aN K mg "check_due" kO ["due"]:=e.defAt X G 26 Z (λ_ _ _ _ _ _=>L2.lr λ_=>rfl);have A27:aN K mg "check_way" kQ ["place","outs"]:=e.defAt X G 27 Z (λ_ _ _ _ _ _=>L2.j7 λ_ _=>rfl);have A28:qw K ie "RankPlay.__init__" dA ["self","game","start"]:=e.Ov 28 oM BJ BI Z (λ_ _ _ _ _ _=>L2.BE λ_ _ _=>rfl);have A29:j5 K ie "go" "RankPlay.go" iY ["self"]:=e.Cd 29 oM Z (λ_ _ _ _ _ _=>L2.lr λ_=>rfl);have A30:j5 K ie "other" "RankPlay.other" gw ["self","place"]:=e.Cd 30 oM Z (λ_ _ _ _ _ _=>L2.j7 λ_ _=>rfl);have A31:aN K mg "is_made_of" iC ["word","signs","most"]:=e.defAt X G 31 Z (λ_ _ _ _ _ _=>L2.BE λ_ _ _=>rfl);have A32:aN K mg "is_name" nJ ["word"]:=e.defAt X G 32 Z (λ_ _ _ _ _ _=>L2.lr λ_=>rfl);have A33:aN K mg "is_figures" jS ["word","most"]:=e.defAt X G 33 Z (λ_ _ _ _ _ _=>L2.j7 λ_ _=>rfl);have A34:aN K mg "is_number" kR ["word"]:=e.defAt X G 34 Z (λ_ _ _ _ _ _=>L2.lr λ_=>rfl);have A35:aN K mg "check_form" jN ["right"]:=e.defAt X G 35 Z (λ_ _ _ _ _ _=>L2.lr λ_=>rfl);have A36:aN K mg "places_told" i6 ["text"]:=e.defAt X G 36 Z (λ_ _ _ _ _ _=>L2.lr λ_=>rfl);have A37:aN K mg "read_head" jr ["word"]:=e.defAt X G 37 Z (λ_ _ _ _ _ _=>L2.lr λ_=>rfl);have A38:aN K mg "read_place" iD ["text"]:=e.defAt X G 38 Z (λ_ _ _ _ _ _=>L2.lr λ_=>rfl);have A39:aN K mg "numbered" kt ["names"]:=e.defAt X G 39 Z (λ_ _ _ _ _ _=>L2.lr λ_=>rfl);have A40:aN K mg "number_of" kU ["numbers","name"]:=e.defAt X G 40 Z (λ_ _ _ _ _ _=>L2.j7 λ_ _=>rfl);have A41:aN K mg "read_game" gH ["text"]:=e.defAt X G 41 Z (λ_ _ _ _ _ _=>L2.lr λ_=>rfl);have A42:qw K yS "Held.__init__" gY ["self","kind","names","thing"]:=e.Ov 42 Nz ND NB Z (λ_ _ _ _ _ _=>L2.J5 λ_ _ _ _=>rfl);have A43:aN K mg "check_name" jP ["word"]:=e.defAt X G 43 Z (λ_ _ _ _ _ _=>L2.lr λ_=>rfl);have A44:aN K mg "held_by" nI ["desk","name","kinds"]:=e.defAt X G 44 Z (λ_ _ _ _ _ _=>L2.BE λ_ _ _=>rfl);have A45:aN K mg "place_in" lY ["held","name"]:=e.defAt X G 45 Z (λ_ _ _ _ _ _=>L2.j7 λ_ _=>rfl);have A46:aN K mg "play_held" kX ["desk","kinds"]:=e.defAt X G 46 Z (λ_ _ _ _ _ _=>L2.j7 λ_ _=>rfl);have A47:aN K mg "put_game" lZ ["desk","words"]:=e.defAt X G 47 Z (λ_ _ _ _ _ _=>L2.j7 λ_ _=>rfl);have A48:aN K mg "say_turn" l4 ["desk","words"]:=e.defAt X G 48 Z (λ_ _ _ _ _ _=>L2.j7 λ_ _=>rfl);have A49:aN K mg "say_won" nK ["desk","words"]:=e.defAt X G 49 Z (λ_ _ _ _ _ _=>L2.j7 λ_ _=>rfl);have A50:aN K mg "play_ranks" jW ["desk","words"]:=e.defAt X G 50 Z (λ_ _ _ _ _ _=>L2.j7 λ_ _=>rfl);have A51:aN K mg "say_go" o6 ["desk","words"]:=e.defAt X G 51 Z (λ_ _ _ _ _ _=>L2.j7 λ_ _=>rfl);have A52:aN K mg "say_go_other" ij ["desk","words"]:=e.defAt X G 52 Z (λ_ _ _ _ _ _=>L2.j7 λ_ _=>rfl);have A53:aN K mg "words_of" l5 ["row"]:=e.defAt X G 53 Z (λ_ _ _ _ _ _=>L2.lr λ_=>rfl);have A54:aN K mg "fits" qL ["form","words"]:=e.defAt X G 54 Z (λ_ _ _ _ _ _=>L2.j7 λ_ _=>rfl);have A55:qw K sF "Desk.__init__" gX ["self"]:=e.Ov 55 FK NC NA Z (λ_ _ _ _ _ _=>L2.lr λ_=>rfl);have A56:j5 K sF "say" "Desk.say" lU ["self","row"]:=e.Cd 56 FK Z (λ_ _ _ _ _ _=>L2.j7 λ_ _=>rfl);have A57:aN K mg "_law_cell_at" i4 ["_law_script","_law_k"]:=e.defAt X G 57 Z (λ_ _ _ _ _ _=>L2.j7 λ_ _=>rfl);have A58:aN K mg "_law_names" kT ["_law_cell","_law_many"]:=e.defAt X G 58 Z (λ_ _ _ _ _ _=>L2.j7 λ_ _=>rfl);have A59:aN K mg "_law_rows" lX ["_law_script"]:=e.defAt X G 59 Z (λ_ _ _ _ _ _=>L2.lr λ_=>rfl);have A60:aN K mg "_law_text" kr ["_law_names_here","_law_rows_here"]:=e.defAt X G 60 Z (λ_ _ _ _ _ _=>L2.j7 λ_ _=>rfl);have A61:aN K mg "_law_step" ko ["_law_desk","_law_names_here","_law_rows_here","_law_hand","_law_pile","_law_gone","_law_pick"]:=e.defAt X G 61 Z (λ_ _ _ _ _ _ us hl=>match us,hl with | [_,_,_,_,_,_,_],_=>rfl);have A62:aN K mg "_law_asked" kS ["_law_script","_law_many"]:=e.defAt X G 62 Z (λ_ _ _ _ _ _=>L2.j7 λ_ _=>rfl);obtain⟨kV,doc,pm,an,dW,ct,FL⟩:=e.law X G 63 Z hfa;exact⟨_,λs v=>.of_eq Z,λbase _ _=>main (P:=P) (w:=w) (base:=base) T oI fN pd aK aJ bC bZ A0 A1 A2 A3 A4 A5 A6 A7 A8 A9 MJ Q4 Yw Yx A14 A15 A16 A17 A18 A19 A20 A21 A22 A23 A24 A25 A26 A27 A28 A29 A30 A31 A32 A33 A34 A35 A36 A37 A38 A39 A40 A41 A42 A43 A44 A45 A46 A47 A48 A49 A50 A51 A52 A53 A54 A55 A56 A57 A58 A59 A60 A61 A62 FL⟩
def dL:PySem.DefRec:=⟨"law",jJ tS,gM tS,aC tS,a0R tS⟩
set_option maxHeartbeats 0
theorem HZ:PySem.W.opening aw=PySem.W.plainProg aw.main.scope.names:=by kernel_rfl
theorem Ia(w:bv)(os:jF):(rl (bT w "special-get-raises" false) os).map (λr=>mK aw qV F5 Q3 true (λs=>fH.look (jh G9 s.heap)) (fZ (bT w "special-get-raises" false).params) r.abs)=O (true,iK qV F5,fH.want (bT w "special-get-raises" false)):=xX (A:=fH) (pt:=jh G9) (k1:=SK) (k2:=SL) Z (Wc w os) (We w os) (Wg w os) (Wi w os) (Wk w os)
theorem Ib(w:bv)(os:jF):(rl (bT w "special-get-raises" true) os).map (λr=>mK aw qV F5 Q3 true (λs=>fH.look (jh G9 s.heap)) (fZ (bT w "special-get-raises" true).params) r.abs)=O (true,iK qV F5,fH.want (bT w "special-get-raises" true)):=xX (A:=fH) (pt:=jh G9) (k1:=SK) (k2:=SL) Z (Wd w os) (Wf w os) (Wh w os) (Wj w os) (Wl w os)
theorem Kx(w:bv)(os:jF):(rl w os).map (λr=>mK aw qV F5 Q3 true (λs=>fH.look (jh G9 s.heap)) (fZ w.params) r.abs)=O (true,iK qV F5,fH.want w):=PySem.W.byRow2 "special-get-raises" (P:=λw=>(rl w os).map (λr=>mK aw qV F5 Q3 true (λs=>fH.look (jh G9 s.heap)) (fZ w.params) r.abs)=O (true,iK qV F5,fH.want w)) (λw=>Ia w os) (λw=>Ib w os) w
theorem HY:PySem.W.LeftO bx.row.prog qV F5 Q3 (λs=>fH.look (jh G9 s.heap)) (λw=>fH.want w) 20530 :=
 IC (p:=aw) (H₀:=fZ) (gs₀:=Array.mk []) (d₀:=G3) (k₀:=Jv) (m₀:=11) (ann:=O (.ref 6)) (M:=20530) (T₀:=xN) (n₀:=11) (life:={}) (PySem.W.boot_open HZ (by trivial) λs=>by kernel_rfl) (λw=>by kernel_rfl) (λP=>by kernel_rfl) Kx (by trivial)
end Law
open PySem PySem.W PyProof.Rows
set_option maxRecDepth 100000 in
set_option maxHeartbeats 0 in
theorem PySem.Challenge.cw_rankgarth_k76_whole_desk_won_by_ranks_holds : PySem.Challenge.rw_rankgarth_k76_whole_desk_won_by_ranks.Holds := by
 refine PySem.W.holds_law Law.N1 λacX=>?_;refine PySem.W.holds_open (q:=Law.qV) (loose:=Law.F5) (Xt:=Law.Q3) (XP:=XL Law.qV []) (YP:=λw h=>∃ K:Frag,K.In h/\Law.fH.Ok w K) (d:=Law.dL) (kwd:=[]) Law.HY (λw s e=>⟨_,L2.tm _ _,e⟩) (λw h h' y k=>y.elim λK z=>⟨K,z.1.keeps k,z.2⟩) (λs e=>xl_of s (lF.mp e).1) XL.keeps (by kernel_rfl) (by kernel_rfl) (by kernel_rfl) (λs e=>recFacts_of (lF.mp e).2) (by kernel_rfl) acX (by kernel_rfl) ⟨Z,Z,Z,Z,Z,Law.KM⟩ ?hw ?hc
 case hw=>w_witness2
 case hc=>exact L2.PJ (l:=bx) (n:=63) (k:=55) (x := "_law_script") (nm := "law") (sp:=Law.Gy) Z (by decide) (by kernel_rfl) ⟨Z,by decide,by decide⟩ (by kernel_rfl) (λw K mg fa h e X G hm=>Law.all_mk e X G hm) (λ_ _ a ns hl _ hS=>⟨a,ns,Z,hS,hl,λ_=>rfl⟩) λ_ _ _ _ z=>z
