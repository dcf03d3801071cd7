import PyProof.Rows.All
import Wide.All
import OpenK.AllK
import Wide.FinOn
import PyProof.EqAt
import PyProof.EqKinds
import PyProof.TupleCall
import KE.BitLaws
import Open.SpecLaws
import KE.OsHead
import KE.OsGo
import KE.KSortKeySt
import KE.KSortTupG
import KE.KNest
import KE.KDictOf
import KE.KDictSum
import KE.LcSums
import PyProof.Rows.SetFrom
import PyProof.Rows.SumAny
import PySem.Challenge.RW_wrongday_s01_answers
set_option Elab.async false
set_option linter.all false
set_option maxRecDepth 100000
set_option maxHeartbeats 4000000
open PySem.W (Frag)
def ah:=@if_neg
def aj:=@if_pos
def c9:=@decide_eq_false
def dX:=@decide_eq_true
def h9:=@decide_eq_true_iff
def eW:=@congrArg
def nj:=@of_decide_eq_true
def oH:=@beq_self_eq_true
def uH:=@beq_eq_false_iff_ne
def l9:=@if_false
def EZ:=@decide_eq_false_iff_not
def AD:=@decide_eq_true_eq
def uI:=@beq_iff_eq
def qj:=@if_true
def N4:=@of_decide_eq_false
open Array renaming length_toList->sf,getElem?_eq_getElem->E1,toList_append->N5,append_assoc->N6,toList->E2
open Bool renaming and_eq_true->cJ,false_ne_true->fR,noConfusion->j4,false_eq_true->sg,eq_iff_iff->xg,eq_false_iff->E3,false_and->E4,and_eq_true_iff->N7,or_eq_false_iff->N8,false_or->E5,and_comm->E6,not_eq_true'->N9,or_eq_true->N_,and_false->Oa,and_true->Ob,true_and->Oc
open ForInStep renaming yield->AE
open Iff renaming rfl->iQ
open Int renaming toNat_natCast->xh,natCast_emod->E7
open List renaming length_map->aD,mem_map->aB,mem_cons_of_mem->b8,mem_singleton->cj,map_append->bS,filter_cons->bX,mem_cons_self->cK,getElem?_eq_getElem->dY,mem_filter->ck,getElem?_eq_some_iff->eo,mem_of_getElem?->du,mem_append->cu,map_congr_left->dE,mem_cons->b9,length_filter_le->e_,length_cons->dJ,map_cons->cV,contains_iff_mem->fD,take_length->dQ,length_append->eL,size_toArray->eX,filter_append->fy,getElem?_map->fz,mem_of_find?_eq_some->iA,map_map->dv,filter_sublist->gd,nodup_append->gf,getElem_of_mem->h_,filter_nil->gL,find?_eq_none->iR,mem_append_left->jx,mem_append_right->j5,nodup_cons->gS,find?_some->gU,getElem?_append_left->nv,pairwise_cons->jy,getElem?_append_right->oI,length_take_le'->k5,length_take->jd,pairwise_singleton->ny,append_nil->je,pairwise_map->j6,take_of_length_le->oJ,append_assoc->l_,filterMap_cons->qk,getElem_take->oK,length_eq_zero_iff->uJ,getD_eq_getElem?_getD->xi,find?_append->qm,lookup->j7,find?_cons->oM,length_drop->qo,all_eq_true->qp,length->k6,nodup_nil->oN,range->j8,find?_cons_of_pos->xj,lookup_cons->sh,filterMap_append->xk,of_mem_zip->si,filter_congr->uK,flatMap_cons->uL,sum_cons->qr,mem_filterMap->xm,filter_filter->xo,find?_cons_of_neg->AF,filter_eq_nil_iff->AG,all_cons->sj,pairwise_iff_getElem->E8,flatMap_append->AH,length_nil->xp,getElem?_cons_zero->E9,getElem?_set_self->E_,range_succ_eq_map->Fb,length_singleton->Fc,getElem?_eq_none->Fd,getElem?_set_ne->Fe,mem_of_getLast?->Ff,mem_of_mem_take->Fg,foldl_cons->AI,take_succ_cons->Fh,map_nil->xq,forIn_nil->AJ,zip_cons_cons->Fi,getElem?_drop->Fj,drop_drop->AK,getElem?_eq_none_iff->Od,drop_eq_getElem_cons->Oe,take_sublist->Fl,foldl_append->Fm,map_id->xt,getElem?_take_of_lt->Of,any_cons->AL,getElem?_cons_succ->Og,any_eq_true->Fn,drop_length->Fo,drop_of_length_le->Oh,zipWith->AM,forIn_cons->Fp,mem_iff_getElem?->Oi,take_append_drop->Oj,contains_eq_mem->Ol,take_zero->Fq,pairwise_append->Om,find?_map->Fs,filter_eq_self->Oo,findSome?_cons->Oq,length_zipWith->Ot,contains_cons->Ou,filterMap_nil->Ov,all_map->Ft,getElem_inj->Ow,getElem_mem->Ox,zipIdx_cons->Oy,mem_flatMap->Oz,zipIdx_nil->OA,filter_map->OB,map_drop->OC,any_map->OD,foldl->OE
open List.Pairwise renaming nil->AN
open List.Sublist renaming map->ia,refl->OF
open Nat renaming le_trans->aZ,le_refl->bM,lt_of_lt_of_le->fI,ne_of_lt->eA,zero_le->fb,lt_of_le_of_lt->k7,le_of_lt->jz,le_add_right->oO,lt_irrefl->ma,not_lt_zero->uM,mul_le_mul_right->AO,ne_of_gt->sk,max_eq_left->xu,le_of_eq->uN,le_of_succ_le->AQ,max_eq_right->AR,min_eq_left->AS,lt_succ_of_lt->Fu,lt_succ_self->Fv,zero_add->Fw,sub_self->Fy,le_max_right->OG,lt_of_not_le->OH,le_max_left->OI,add_zero->OJ,add_mul->OK,mod_one->OL,succ->OM
open Option renaming some->cM,isSome_iff_exists->nA,map_eq_some_iff->oP,map_eq_none_iff->Fz,map_some->AU,isSome_map->FA,isSome_some->ON,getD_none->OO,none_or->OP,none->OQ
open Option.some renaming injEq->AV
open Or renaming inr->xx,inl->AW,comm->FE
open PyFlat renaming calls->qt,played->xy,call->xA,told->xB,rows->AX
open PyProof.Rows renaming callWith_type1->xC,IntsAre->jA,intKind->FF,envOfC->j9,KK->AY,listUpdate_at->AZ,callWith_kw->OR,subscriptTail_builtinR->OS,SortedToK->OT,seqObj->nB,KeyKind->OU,AllBare->so,Constant_none->FH,subscriptTail->FJ,lexLt->OV,callWith_builtin1->Z_,Subscript_->FP,listItems_at->OW,seqEpoch_at->OX,boot_max->FQ,step_any->FR,KeysOf->aaa,ge_int->aab,IsTup->A1,Call_->A2
open PyProof.Rows.G renaming tupKeyC->xD,isTupObj->OY,wpS_sortRunsSt->aac,tupC_ltAt->aad,tupKindC->aae,LtAt->aaf
open PySem renaming wpAny_bind->aI,Addr->af,Value->ag,Shared->aA,sizeLine->aS,wpAny_pure->bN,wpAny->aH,starEach->bE,model->aO,Program->bR,mem_of_lookup->ib,Str->ai,mainGlobals->fJ,Stmt->aV,World->bI,Expr->a_,FuncData->eB,Heap->bg,cellsFrom->gg,Around->dF,wpAny_truthy_bool->nE,compareOp->gz,wpAny_mono->ic,sysModules->iB,attributeBase->me,keywordEach->j_,compEnvC->gV,wpAny_Call_Name_kw->su,behindInMarks->nF,wpAny_typeNameOfWhole_keyiter->A3,foldedSetIterable->sv,wpAny_callSpecial?_slot->xE,assignEach->ka,Scope->dZ,wpAny_call_entry->sx,NameKind->iS,tupleKind_room_in1->uO,IsPair->fZ,wpAny_passesOwn->sy,Arguments->kc,wpAny_Call_method->uP,wpAny_field->nG,wpAny_typeNameOf_keyiter->A4,rawInt->gA,Obj->bx,wpAny_setField_rec->xF,wpAny_seqItems->uQ,boot_len->uR,codeAny_mono->sA,DictEntry->nH,cLine->f7,swapsWith->oQ,sliceBounds->sC,bootBuiltins->uS,callWith->nI,wpAny_newObj_type->A5,call_meetsIn->uT,pushCells->qu,wpAny_pyIter_zip->A6,wpAny_attempt->xH,wpAny_execs_nil->A7,letOwnedTupleGo->A8,pushCells_keeps->A9,evalArgs_none->FU,Keyword->nJ,tupleKind->sD,getMethod->sE,wpAny_newFunctionEnv_cells->OZ,IsZip->iT,wpAny_letOwnedTupleGo_zip->O0,wpAny_pyIter_list->FV,valueAt->oR,wpAny_dictEntries->FW,pyNext->mf,builtinsNs->xI,wpAny_pyNext_range_end->O1,wpAny_pyIter_rangeiter->O2,wpAny_call->xJ,wpAny_dictEpoch->FX,Pos->dG,wpAny_isTrue_Compare1->O3,wpAny_isOneOf_keyiter->O4,subscripted->A_,wpAny_setField->FY,method_meetsIn->FZ,ZipApart->uU,wpAny_updateSeq_pair->O5,standAt->sF,codeAny->sG,Builtin->sH,codeAmong->xK,Env->d9,wpAny_standAt->F0,wpAny_holding->F1,wpAny_onRaise->F2,closureFor->Ba,Params->qv,Within->F3,wpAny_assign_Name->O6,binaryOp->xM,bindArgs->xN,getItem->uV,wpAny_pyIter_slot->O7,meets_dict_values->O8,wpAny_pyIter_enum->O9,Paired->sI,wpAny_execs_cons->O_,wpAny_getItem_of->Pa,wpAny_isInstance->Pb,Fin->Bb,CmpOp->oS,IsRangeIter->F4,sizeLine_eq->F5,wpAny_letGo->F6,BindsTo->xO,wpAny_Name->F7,wpAny_Compare1->Pc,wpAny_fieldsOf->Pd,isSubtype_stop->Pe,wpAny_rule->F8,wpAny_newTuple->Pf,evalPart_none->Pg,wpAny_newList->Ph,PassesOwn->F9,seqIndex_neg->Pj,Model->uW,Sem->ie,seqIndex_of->Pk,wpAny_in_of->Pl,Tok->jB
open PySem.Around renaming frames_deeper->Pn,under->F_
open PySem.Builtin.List renaming listTooLong->Ga
open PySem.Builtin.Range renaming rangeSize->Po,small->aag
open PySem.Builtin.SmallTypes renaming ownedTupleIsFree->Bc,nextOf->xP,ownedTupleHandOut->Pp
open PySem.Calls renaming spliced_cons->xQ,callWith_builtin->Bd,evalArgs_plain->Be,spliced_nil->Bf,Name_function_global->Pq
open PySem.EqMixed renaming eq_bool_str->aah,eq_str_bool->aai,ne_bool_str->aaj,ne_str_bool->aak,eq_int_str->aal,eq_str_int->aam,ne_int_str->aan,ne_str_int->aao
open PySem.EqNone renaming eq_none_none->aap,eq_none_bool->aaq,eq_bool_none->aar,ne_none_none->aas,ne_none_bool->aat,ne_bool_none->aau,eq_none_int->aav,eq_none_str->aaw,eq_int_none->aax,eq_str_none->aay,ne_none_int->aaz,ne_none_str->aaA,ne_int_none->aaB,ne_str_none->aaC
open PySem.F renaming slot_dict_get->uX,plainAttrs_list->xR,slot_dict_keyiterator_next->Bg,slot_list_extend->Bh,type_list_extend->Bi,entry_dict_get->Bj,slot_dict_values->Bk,plainAttrs_dict->Gb,args_dict_keyiterator_next_1->Pr,entry_dict_keyiterator_next->Pt,slot_dict_keyiterator_iter->Pu,slot_zip_next->Bl,slot_tuple_iterator_next->Pw,slot_dict_delitem->Px,plainAttrs_dict->Gd,args_dict_get_2->Py,args_dict_get_3->PB,slot_dict_pop->PD,type_dict_get->PF,args_dict_values_1->PH,entry_dict_values->PJ,type_dict_values->PL,slot_dict_items->PM,args_zip_next_1->PN,slot_dict_iter->PQ,entry_zip_next->PR
open PySem.Heap renaming get?_push_of_some->cN,get?_push_size->eC,lt_size->cB,size_push->ig,SameBut->uY,get?_update_other->PU,get?_update_self->PV
open PySem.Heap.SameBut renaming update->Ge
open PySem.NameKind renaming free->uZ,cell->Gf
open PySem.Obj renaming data_mapFields->Bm,mapSeq->u0,isFreed_of_fields->PX,cls_mapFields->PY,mapFields->PZ
open PySem.Paired renaming length->k8,snoc->P0
open PySem.PassesOwn renaming never->xS
open PySem.Str renaming ofString->jC,empty->P5
open PySem.Value renaming ref->dg,none->mh,type->oT,int->sJ,str->xT,bool->Bn,isStrOf->P6,isInt->P7,bytes->P8,float->P9
open PySem.W renaming Frag->aG,keepIn->jf,CodeHd->jD,mg_none_of->nK,findIn->k9,emptyDict->oU,kla_obj->nL,fnOf->k_,instObj->qw,mg_of->oV,codeIn->qx,tabIn->qy,nsIn->qz,plainGet->xU,callWith_K->Bo,hasDictIn->Bp,cellsFrom_some->Gg,methodCall_KW->Gh,length_le_weightAllW->P_,plainGet_of->Gi,isFn->xV,kla_makeFunctionHit->Qa,lookIn->Bq,tabObj->Br,methodObj->Gj,plainOver->Gk,kla_makeFunction->Qb,envX->Bs,takerIn->Gm,makesIn->Gn,kla_callFunE->Qc,kla_codeExpr->Qe,callWith_K0->Qg,ktu_apart->Qh,handedIn->Qi,WRecords->Qj,kla_eval->Qk,kla_fn->Ql,TabsAt->Qm,noTabs->Qn
open PySem.W.Codec renaming encAll->xW,denoteAll->Gp,app->Gq
open PySem.W.WData renaming weightAll->Bt,int->Qo
open PyVbahaj renaming shape->jg,answers_asked->Gs,answers->Bu,whole->Bv,calls->Gu
open Sum renaming inl->ay,inr->qA
open True renaming intro->bJ
open Vbahaj renaming Flight->aw,setFlight->cT,within->bY,active->aN,onFlightOf->bQ,Seated->bD,timeOf->bG,onward->bU,isOpen->bV,stranded->dA,onFlight->dM,roomOf->cp,waysOf->cw,flightOf->eM,cancels->eN,lateness->fS,Want->bF,onPax->cY,wantOf->fA,swapped->gB,base->mi,leaveBefore->mj,stepRows->iU,swappable->kh,paxOf->eO,couldRefusal->oW,Pax->bj,sortTimes->lg,Call->oX,setPax->gW,arrived->jh,start->sL,rebooked->ml,oneLess->kj,byRank->iW,putFlight->qB,leaveOf->mn,arriveOf->qC,MOSTFLIGHTS->xX,moveOne->qD,greatest->u4,timesFrom->xY,priorFits->xZ,seatAt->sM,MOSTREFUSED->Gv,Feed->nM,MOSTPAX->Gw
open VbahajNeutral renaming step->x_,row->Bw,asked1->Qp,start->aaD,asked->aaE
namespace L2
open PySem PySem.Spec PyProof.Rows
abbrev Key:=Sum Int ai
def oY:Key->ag->Bool|.inl k,v=>P7 k v|.inr x,v=>P6 x v
def aaF(w:bI):Key->Int|.inl k=>hashInt k|.inr x=>hashStr w x
theorem nN:∀{k:Key}{v:ag},oY k v=true->(∃i t,k=ay i/\v=sJ i t)∨(∃x t,k=qA x/\v=xT x t)|.inl i,v,h=>by obtain⟨t,e⟩:=Value.isInt_shape (k:=i) (v:=v) h;exact .inl ⟨i,t,rfl,e⟩|.inr x,v,h=>by obtain⟨t,e⟩:=Value.isStrOf_shape (x:=x) (v:=v) h;exact .inr ⟨x,t,rfl,e⟩
theorem ya(i:Int)(t:jB):oY (.inl i) (.int i t)=true:=by simp[oY,P7]
theorem aaG(x:ai)(t:jB):oY (.inr x) (.str x t)=true:=by simp[oY,P6]
theorem aaH(a b:Int):decide ((ay a:Key)=ay b)=(a==b):=by
 by_cases e:a=b
 ·subst e;simp
 ·have h:¬(ay a:Key)=ay b:=λq=>e (ay.inj q)
  rw[c9 h];exact(uH.mpr e).symm
theorem aaI(a b:ai):decide ((qA a:Key)=qA b)=decide (a=b):=by
 by_cases e:a=b
 ·subst e;simp
 ·have h:¬(qA a:Key)=qA b:=λq=>e (qA.inj q)
  rw[c9 h,c9 e]
theorem aaJ(a:Int)(b:ai):decide ((ay a:Key)=qA b)=false:=c9 (λq=>nomatch q)
theorem aaK(a:ai)(b:Int):decide ((qA a:Key)=ay b)=false:=c9 (λq=>nomatch q)
def ff(prog:bR)(w:bI):PySem.KeyKind prog w Key where
 is:=oY
 hash:=aaF w
 inj:=λv a b ha hb=>by
  rcases nN ha with⟨i,t,rfl,rfl⟩|⟨x,t,rfl,rfl⟩
  ·rcases nN hb with⟨j,u,rfl,e⟩|⟨y,u,rfl,e⟩
   ·injection e with e1 _;rw[e1]
   ·exact nomatch e
  ·rcases nN hb with⟨j,u,rfl,e⟩|⟨y,u,rfl,e⟩
   ·exact nomatch e
   ·injection e with e1 _;rw[e1]
 byValue:=λk v h=>by rcases nN h with⟨i,t,rfl,rfl⟩|⟨x,t,rfl,rfl⟩<;>rfl
 pyHash:=λhv h=>by
  rcases nN hv with⟨i,t,rfl,rfl⟩|⟨x,t,rfl,rfl⟩
  ·exact wpAny_pyHash_int h
  ·exact wpAny_pyHash_str h
 eqBool:=λhu hv h=>by
  rcases nN hu with⟨i,t,rfl,rfl⟩|⟨x,t,rfl,rfl⟩
  ·rcases nN hv with⟨j,u,rfl,rfl⟩|⟨y,u,rfl,rfl⟩
   ·rw[aaH]at h;exact wpAny_eqBool_int h
   ·rw[aaJ]at h;exact SeqAt.EqAt.int_str i t y u _ _ _ _ h
  ·rcases nN hv with⟨j,u,rfl,rfl⟩|⟨y,u,rfl,rfl⟩
   ·rw[aaK]at h;exact SeqAt.EqAt.str_int x t j u _ _ _ _ h
   ·rw[aaI]at h;exact wpAny_eqBool_str h
 «strs»:=λk x t v h=>by
  rcases nN h with⟨i,u,rfl,e⟩|⟨y,u,rfl,e⟩
  ·exact nomatch e
  ·injection e with e1 _
   subst e1;cases v<;>rfl
theorem aaL(prog:bR)(w:bI)(i:Int)(t:jB):(ff prog w).is (.inl i) (.int i t)=true:=ya i t
theorem aaM(prog:bR)(w:bI)(x:ai)(t:jB):(ff prog w).is (.inr x) (.str x t)=true:=aaG x t
inductive V where|non|bl (b:Bool)|int (i:Int)|str (x:ai)|ij (b:Array UInt8)|flt (b:UInt64)|ref (a:af)|ty (n:String)
 deriving DecidableEq
def RelV:V->ag->Prop|.non,u=>u=mh|.bl b,u=>u=Bn b|.int i,u=>∃t,u=sJ i t|.str x,u=>∃t,u=xT x t|.ij b,u=>∃t,u=P8 b t|.flt b,u=>∃t,u=P9 b t|.ref a,u=>u=dg a|.ty n,u=>u=oT n
abbrev Vals:List V->List ag->Prop:=sI RelV
theorem Vals.length(r:Vals xs us):xs.length=us.length:=k8 r
theorem Vals.get:∀{xs:List V}{us:List ag}{i:Nat}{x:V},Vals xs us->xs[i]? =some x->∃u,us[i]? =some u/\RelV x u|_,_,_,_,.nil,e=>by simp at e|_,_,0,_,.cons r _,e=>by simp at e;subst e;exact⟨_,rfl,r⟩|_,_,i+1,x,.cons _ t,e=>by obtain⟨u,h1,h2⟩:=Vals.get (i:=i) (x:=x) t (by simpa using e);exact⟨u,by simpa using h1,h2⟩
theorem Vals.append:∀{xs ys:List V}{us ws:List ag},Vals xs us->Vals ys ws->Vals (xs++ys) (us++ws)|_,_,_,_,.nil,s=>s|_,_,_,_,.cons r t,s=>.cons r (Vals.append t s)
theorem Vals.take:∀{xs:List V}{us:List ag}(n:Nat),Vals xs us->Vals (xs.take n) (us.take n)|_,_,0,_=>.nil|_,_,_+1,.nil=>.nil|_,_,n+1,.cons r t=>.cons r (Vals.take n t)
theorem Vals.drop:∀{xs:List V}{us:List ag}(n:Nat),Vals xs us->Vals (xs.drop n) (us.drop n)|_,_,0,r=>r|_,_,_+1,.nil=>.nil|_,_,n+1,.cons _ t=>Vals.drop n t
def gM:Option V->Option ag->Prop|some v,some u=>RelV v u|none,none=>True|_,_=>False
def KV{κ:Type}:List (κ×V)->List (κ×ag)->Prop:=sI λ(p:κ×V)(q:κ×ag)=>p.1=q.1/\RelV p.2 q.2
def kV:Key->V|.inl i=>.int i|.inr x=>.str x
inductive HO where|lst (xs:List V)|tup (xs:List V)|dK (kvs:List (Key×V))|dT (kvs:List (List Key×V))|set (S:Int->Bool) (n:Nat)|ins (C dx:af) (fs:List (ai×V))|own (x:af)|xd (fs:List (ai×V))|met (f x:af)|Gx (lo hi:Int)|aQ (o:bx) (u:HO)|c_ (ps:Array ag)|ext (φ:bg->Prop)
abbrev Hp:=af->Option HO
def upd(H:Hp)(a:af)(o:HO):Hp:=λb=>if b=a then some o else H b
theorem ao:upd H a o a=some o:=by unfold upd;rw[aj rfl]
theorem ak(h:b≠a):upd H a o b=H b:=by unfold upd;rw[ah h]
theorem di:upd (upd H a o) a u=upd H a u:=by funext b;unfold upd;split<;>rfl
theorem cZ{H:Hp}{a b:af}{o u:HO}(h:H a=some o)(h':H b=some u)(d:o≠u):a≠b:=by intro e;subst e;rw[h]at h';exact d (cM.inj h')
theorem ba{H:Hp}{a b:af}{o:HO}(h:H a=some o)(h':H b=none):a≠b:=by intro e;subst e;rw[h]at h';cases h'
section
variable(P:bR)(w:bI)
def d3(H:Hp)(h:bg)(a:af):HO->Prop
 |.lst xs=>xs.length<=aS/\∃(its:List ag)(n:Nat),Vals xs its/\h.get? a=some {cls:=.type "list",data:=.seq its.toArray n}|.tup xs=>xs.length<=aS/\∃its:List ag,Vals xs its/\A1 h a its.toArray|.dK kvs=>kvs.length<=aS/\(a==iB)=false/\∃vs,KV kvs vs/\h.DictOf (ff P w) a vs|.dT kvs=>kvs.length<=aS/\(a==iB)=false/\∃xs:List (List Key×af×ag),sI (λ(p:List Key×V)(q:List Key×af×ag)=>p.1=q.1/\H q.2.1=some (.tup (p.1.map kV))/\RelV p.2 q.2.2) kvs xs/\
   ∃o es ep,h.get? a=some o/\o.ExactDict/\o.data=.dict es ep/\es.toList=xs.map (entryOfKey (sD (ff P w)))/\(xs.map (·.1)).Nodup|.set S n=>h.SetOf (intKind P w) a S n|.ins C dx fs=>H dx=some (.own a)/\fs.length<=1000/\dx≠a/\h.get? a=some (qw C dx)/\∃mA,h.Ns1 dx mA/\(∀f,gM (fs.lookup f) (mA f))/\F3 mA (fs.map (·.1))|.own _=>∃o,h.get? a=some o|.xd fs=>∃mA,h.Ns1 a mA/\∀f,gM (fs.lookup f) (mA f)|.Gx lo hi=>∃t u v,h.get? a=some {cls:=.type "range",data:=.fields #[.int lo t,.int hi u,.int 1 v]}|.aQ o u=>h.get? a=some o/\d3 H h a u|.c_ ps=>h.get? a=some {cls:=.none,data:=.fields ps}|.met f x=>h.get? a=some (Gj (.ref f) (.ref x))|.ext φ=>φ h/\(∃o,h.get? a=some o)/\∀h1 h2:bg,φ h1->(∀o,h1.get? a=some o->h2.get? a=some o)->φ h2
def dR(H:Hp)(h:bg):Prop:=∀a o,H a=some o->d3 P w H h a o
end
section
variable{P:bR}{w:bI}{H H':Hp}{h h':bg}{a:af}{o:HO}
theorem d3.lt(x:d3 P w H h a o):a<h.objs.size:=by cases o with|lst xs=>obtain⟨_,_,_,_,e⟩:=x;exact cB e|tup xs=>obtain⟨_,_,_,p⟩:=x;exact p.lt|dK kvs=>obtain⟨_,_,_,_,o,_,_,e,_⟩:=x;exact cB e|dT kvs=>obtain⟨_,_,_,_,o,_,_,e,_⟩:=x;exact cB e|set S n=>obtain⟨o,_,_,_,e,_⟩:=x;exact cB e|ins C dx fs=>obtain⟨_,_,_,e,_⟩:=x;exact cB e|own y=>obtain⟨_,e⟩:=x;exact cB e|xd fs=>obtain⟨_,⟨_,_,_,e,_⟩,_⟩:=x;exact cB e|Gx lo hi=>obtain⟨_,_,_,e⟩:=x;exact cB e|aQ ob u=>obtain⟨e,_⟩:=x;exact cB e|c_ ps=>exact cB (show h.get? a=some _ from x)|met f y=>exact cB (show h.get? a=some _ from x)|ext φ=>obtain⟨_,⟨_,e⟩,_⟩:=x;exact cB e
theorem Paired.Gy{α β:Type}{F G:α->β->Prop}:∀{l₁:List α}{l₂:List β},sI F l₁ l₂->(∀a b,F a b->G a b)->sI G l₁ l₂|_,_,.nil,_=>.nil|_,_,.cons r t,f=>.cons (f _ _ r) (Paired.Gy t f)
theorem d3.stay(x:d3 P w H h a o)(k:∀b u,(b=a∨H b=some (.own a))->h.get? b=some u->h'.get? b=some u) (ho:∀b,H b=some (.own a)->H' b=some (.own a))(ht:∀b xs,H b=some (.tup xs)->H' b=some (.tup xs)):d3 P w H' h' a o:=by
 induction o with|lst xs=>obtain⟨z,its,n,r,e⟩:=x;exact⟨z,its,n,r,k _ _ (.inl rfl) e⟩|tup xs=>obtain⟨z,its,r,ob,e,c⟩:=x;exact⟨z,its,r,ob,k _ _ (.inl rfl) e,c⟩|dK kvs=>obtain⟨z,y,vs,r,ob,es,ep,e,c⟩:=x;exact⟨z,y,vs,r,ob,es,ep,k _ _ (.inl rfl) e,c⟩|dT kvs=>obtain⟨z,y,xs,r,ob,es,ep,e,c⟩:=x;exact⟨z,y,xs,Paired.Gy r λp q z=>⟨z.1,ht _ _ z.2.1,z.2.2⟩,ob,es,ep,k _ _ (.inl rfl) e,c⟩|set S n=>obtain⟨ob,es,ep,t,e,c⟩:=x;exact⟨ob,es,ep,t,k _ _ (.inl rfl) e,c⟩|ins C dx fs=>obtain⟨d,z,ne,e,mA,⟨od,es,ep,e2,c⟩,r⟩:=x;exact⟨ho _ d,z,ne,k _ _ (.inl rfl) e,mA,⟨od,es,ep,k _ _ (.inr d) e2,c⟩,r⟩|own y=>obtain⟨ob,e⟩:=x;exact⟨ob,k _ _ (.inl rfl) e⟩|xd fs=>obtain⟨mA,⟨od,es,ep,e,c⟩,r⟩:=x;exact⟨mA,⟨od,es,ep,k _ _ (.inl rfl) e,c⟩,r⟩|Gx lo hi=>obtain⟨t,u,v,e⟩:=x;exact⟨t,u,v,k _ _ (.inl rfl) e⟩|aQ ob u ih=>obtain⟨e,q⟩:=x;exact⟨k _ _ (.inl rfl) e,ih q⟩|c_ ps=>have e:h.get? a=some {cls:=.none,data:=.fields ps}:=x;show h'.get? a=some {cls:=.none,data:=.fields ps};exact k a _ (.inl rfl) e|met f y=>have e:h.get? a=some (Gj (.ref f) (.ref y)):=x;show h'.get? a=some (Gj (.ref f) (.ref y));exact k a _ (.inl rfl) e|ext φ=>obtain⟨p,⟨o,e⟩,st⟩:=x;exact⟨st _ _ p λo q=>k _ _ (.inl rfl) q,⟨o,k _ _ (.inl rfl) e⟩,st⟩
theorem dR.lt(x:dR P w H h)(e:H a=some o):a<h.objs.size:=(x a o e).lt
theorem dR.fresh(x:dR P w H h)(e:h.objs.size<=a):H a=none:=by cases q:H a with|none=>rfl|some u=>exact absurd (fI (x.lt q) e) (ma _)
theorem dR.kept(x:dR P w H h)(k:∀b u,h.get? b=some u->h'.get? b=some u):dR P w H h':=λa o e=>(x a o e).stay (λb u _ q=>k b u q) (λ_ q=>q) λ_ _ q=>q
theorem dR.laid(x:dR P w H h)(k:∀b u,h.get? b=some u->h'.get? b=some u)(hp:h.objs.size<=a)(new:d3 P w (upd H a o) h' a o):dR P w (upd H a o) h':=λb u e=>by
 have hn:=x.fresh hp
 by_cases hb:b=a
 ·subst hb;rw[ao]at e;cases e;exact new
 ·rw[ak hb]at e
  exact(x b u e).stay (λc v _ q=>k c v q) (λc q=>by rw[ak (ba q hn)];exact q) λc xs q=>by rw[ak (ba q hn)];exact q
end
def Rd(H:Hp)(a:af)(u:HO):Prop:=H a=some u∨∃o,H a=some (.aQ o u)
theorem Rd.ok(r:Rd H a u)(x:dR P w H h):d3 P w H h a u:=by
 rcases r with r|⟨o,r⟩
 ·exact x a u r
 ·obtain⟨_,q⟩:=x a _ r
  exact q
def nO:Option HO->Prop|some (.lst _)=>True|some (.dK _)=>True|some (.dT _)=>True|some (.set _ _)=>True|some (.ins _ _ _)=>True|some (.ext _)=>True|_=>False
section
variable{P:bR}{w:bI}{H:Hp}{h h':bg}{x e:af}{o':HO}
theorem dR.write(ok:dR P w H h)(mu:nO (H x))(he:e=x∨H e=some (.own x))(k:∀b u,b≠e->h.get? b=some u->h'.get? b=some u)(u5:∃u,h'.get? e=some u) (new:d3 P w (upd H x o') h' x o'):dR P w (upd H x o') h':=λb u q=>by
 have Bx:∀c y,H c=some (.own y)->c≠x:=λc y r z=>by subst z;rw[r]at mu;exact mu
 have aaN:∀c xs,H c=some (.tup xs)->c≠x:=λc xs r z=>by subst z;rw[r]at mu;exact mu
 by_cases hb:b=x
 ·subst hb;rw[ao]at q;cases q;exact new
 ·rw[ak hb]at q
  by_cases mq:b=e
  ·have q':H b=some (.own x):=by
    rcases he with z|z
    ·exact absurd (mq.trans z) hb
    ·rw[mq];exact z
   rw[q]at q';cases q';obtain⟨v,hv⟩:=u5;exact⟨v,by rw[mq];exact hv⟩
  ·refine(ok b u q).stay (λc v hc r=>k c v ?_ r) (λc r=>by rw[ak (Bx c b r)];exact r) λc xs r=>by rw[ak (aaN c xs r)];exact r
   rcases hc with rfl|hc
   ·exact mq
   ·rintro rfl
    rcases he with z|z
    ·exact Bx c b hc z
    ·rw[hc]at z;cases z;exact hb rfl
end
structure Un(fs ex:List af)(H H':Hp)(h h':bg):Prop where
 keep:∀b o,h.get? b=some o->H b=none->b∉fs->b∉ex->h'.get? b=some o
 slot:∀b o,h.get? b=some o->H b=none->b∈fs->b∉ex->∃sl,h'.get? b=some {o with slots:=sl}
 free:∀b o,h.get? b=some o->H b=none->b∉ex->H' b=none
 there:∀b o,h.get? b=some o->b∉ex->∃o',h'.get? b=some o'
 tups:∀b xs,H b=some (.tup xs)->H' b=some (.tup xs)
 jE:∀b o u,H b=some (.aQ o u)->H' b=some (.aQ o u)
 km:∀b ps,H b=some (.c_ ps)->∃more,H' b=some (.c_ (ps++more))
section
variable{fs fs' ex ex':List af}{H H1 H2:Hp}{h h1 h2 h':bg}{a x e:af}{o:HO}
theorem Un.any(u:Un fs ex H H1 h h1)(q:h.get? b=some ob)(n:H b=none)(hx:b∉ex):∃sl,h1.get? b=some {ob with slots:=sl}:=by
 by_cases hb:b∈fs
 ·exact u.slot b ob q n hb hx
 ·exact⟨ob.slots,u.keep b ob q n hb hx⟩
theorem Un.trans(a:Un fs ex H H1 h h1)(b:Un fs ex H1 H2 h1 h2):Un fs ex H H2 h h2 where
 keep:=λc ob q n hc hx=>b.keep c ob (a.keep c ob q n hc hx) (a.free c ob q n hx) hc hx
 slot:=λc ob q n hc hx=>by obtain⟨sl,e1⟩:=a.slot c ob q n hc hx;obtain⟨Gz,e2⟩:=b.slot c _ e1 (a.free c ob q n hx) hc hx;exact⟨Gz,e2⟩
 free:=λc ob q n hx=>by obtain⟨o',e1⟩:=a.there c ob q hx;exact b.free c o' e1 (a.free c ob q n hx) hx
 there:=λc ob q hx=>by obtain⟨o',e1⟩:=a.there c ob q hx;exact b.there c o' e1 hx
 tups:=λc xs q=>b.tups c xs (a.tups c xs q)
 jE:=λc ob xs q=>b.jE c ob xs (a.jE c ob xs q)
 km:=λc ps q=>by obtain⟨m1,e1⟩:=a.km c ps q;obtain⟨m2,e2⟩:=b.km c _ e1;exact⟨m1++m2,by rw[e2,N6]⟩
theorem Un.kept(k:∀b u,h.get? b=some u->h'.get? b=some u):Un fs ex H H h h':=⟨λb ob q _ _ _=>k b ob q,λb ob q _ _ _=>⟨ob.slots,k b ob q⟩,λ_ _ _ n _=>n,λb ob q _=>⟨ob,k b ob q⟩,λ_ _ q=>q,λ_ _ _ q=>q,λ_ ps q=>⟨#[],by rw[q];simp⟩⟩
theorem Un.refl:Un fs ex H H h h:=Un.kept λ_ _ q=>q
theorem Un.laid(k:∀b u,h.get? b=some u->h'.get? b=some u)(hp:h.objs.size<=a)(hn:H a=none):Un fs ex H (upd H a o) h h' where
 keep:=λb u q _ _ _=>k b u q
 slot:=λb u q _ _ _=>⟨u.slots,k b u q⟩
 free:=λb u q n _=>by rw[ak (eA (fI (cB q) hp))];exact n
 there:=λb u q _=>⟨u,k b u q⟩
 tups:=λb xs q=>by rw[ak (ba q hn)];exact q
 jE:=λb u xs q=>by rw[ak (ba q hn)];exact q
 km:=λb ps q=>⟨#[],by rw[ak (ba q hn),q];simp⟩
theorem Un.write(mu:nO (H x))(he:e=x∨H e=some (.own x))(k:∀b u,b≠e->h.get? b=some u->h'.get? b=some u)(u5:∃u,h'.get? e=some u):Un fs ex H (upd H x o) h h':=by
 have hx:∀b,H b=none->b≠x:=λb n z=>by subst z;rw[n]at mu;exact mu
 have hb:∀b,H b=none->b≠e:=λb n z=>by
  subst z;rcases he with r|r
  ·exact hx b n r
  ·rw[n]at r;cases r
 have hm:∀b u,H b=some u->¬nO (some u)->b≠x:=λb u q nm z=>by subst z;rw[q]at mu;exact nm mu
 refine⟨λb u q n _ _=>k b u (hb b n) q,λb u q n _ _=>⟨u.slots,k b u (hb b n) q⟩,λb u q n _=>by rw[ak (hx b n)];exact n,λb u q _=>?_,λb xs q=>by rw[ak (hm b _ q λz=>z)];exact q,λb u xs q=>by rw[ak (hm b _ q λz=>z)];exact q,λb ps q=>⟨#[],by rw[ak (hm b _ q λz=>z),q];simp⟩⟩
 by_cases mq:b=e
 ·subst mq;exact u5
 ·exact⟨u,k b u mq q⟩
end
def By(h:bg)(H:Hp):List af:=(j8 h.objs.size).filter λa=>(H a).isSome
def mr(h:bg)(H:Hp):bg:=PySem.W.hideAll h (By h H)
theorem aaO(h:bg)(H:Hp):(mr h H).objs.size=h.objs.size:=PySem.W.hideAll_size _ _
theorem aaP(e:h.get? b=some o)(n:H b=none):(mr h H).get? b=some o:=PySem.W.hideAll_get _ e λhm=>by have q:(H b).isSome=true:=(ck.mp hm).2;rw[n]at q;simp at q
theorem aaQ(e:(mr h H).get? b=some o):h.get? b=some o/\H b=none:=by have e':h.get? b=some o:=PySem.W.of_hideAll (By h H) e;refine⟨e',?_⟩;cases q:H b with|none=>rfl|some x=>have hm:b∈By h H:=ck.mpr ⟨List.mem_range.mpr (cB e'),by simp[q]⟩;have z:(mr h H).get? b=none:=PySem.W.hideAll_none (By h H) hm;rw[z]at e;cases e
structure Mod(K:aG)(mg:ai->Option ag)(base:bg):Prop where
 u6:K.In base
 glob:base.Ns fJ mg
 blt:∃mb,base.Ns xI mb/\∀x:ai,x≠"__name__"->mb x=uS x
 nolimit:base.NoLimit
structure Cx where
 prog:bR
 w:bI
 K:aG
 mg:ai->Option ag
 base:bg
 A:dF
 N:List ai
 gC:aA
 mw:Hp
 env:d9
 outer:List d9
 stack:List d9
 ex:List af
 fn:ai->Bool
 calm:Bool
 pn:List (af×bx)
 xe:ag->aA->Prop
def mx(l:List d9):List af:=l.filterMap (·.frame)
abbrev Cx.fs(X:Cx):List af:=mx X.outer
def yb(sc:dZ)(x:ai):Prop:=sc.names.lookup x=some .local∨sc.names.lookup x=some .cell∨sc.names.lookup x=some .free
def Loc(sc:dZ)(x:ai):Prop:=sc.names.lookup x=some .local∨sc.names.lookup x=some .cell
def Look(env:d9)(h:bg)(m:ai->Option ag)(x:ai)(u:ag):Prop:=(env.kindOf x=some .local/\m x=some u)∨((env.kindOf x=some .cell∨env.kindOf x=some .free)/\∃c,env.cells.lookup x=some c/\h.IsCell c (some u))
structure Cx.Ok(X:Cx):Prop where
 mod:Mod X.K X.mg X.base
 kind:X.env.scope.kind=.function
 glob:X.env.globals=fJ
 blt:X.env.builtins=xI
 above:X.gC.heap.objs.size<=X.env.locals
 inj:∀x y c,X.env.cells.lookup x=some c->X.env.cells.lookup y=some c->x=y
 has:∀x,(X.env.kindOf x=some .cell∨X.env.kindOf x=some .free)->∃c,X.env.cells.lookup x=some c
 cab:∀x c,X.fn x=true->X.env.cells.lookup x=some c->X.gC.heap.objs.size<=c
 hd:X.calm=true->X.A.handled=none
 frames:X.A.frames=some X.stack
 stk:X.stack=X.outer∨(X.stack=X.env::X.outer/\X.env.frame=some X.env.locals)
 Bz:∀b∈X.ex,b≠X.env.locals/\∀x c,X.env.cells.lookup x=some c->c≠b
 bs:∀b o,X.base.get? b=some o->X.gC.heap.get? b=some o/\X.mw b=none
 lj:X.base.objs.size<=X.gC.heap.objs.size
 yc:∀b o,X.base.get? b=some o->b∉X.ex
 yd:∀b∈X.ex,b∉X.fs
 jF:X.gC.heap.FunFrames X.base X.outer
 oZ:∀b∈X.fs,X.mw b=none
structure Inv(X:Cx)(ae:List (af×bx))(σ:List (Option V))(H:Hp)(s:aA):Prop where
 ok:X.Ok
 os:s.os=X.gC.os
 bare:so s.gens
 base:Un X.fs X.ex X.mw H X.gC.heap s.heap
 loc:∃m,s.heap.Ns X.env.locals m/\∀(i:Nat)(x:ai)(v:V),X.N[i]? =some x->σ[i]? =some (some v)->yb X.env.scope x->∃u,RelV v u/\Look X.env s.heap m x u
 cell:∀x c,X.env.cells.lookup x=some c->∃v,s.heap.IsCell c v
 free:H X.env.locals=none
 jG:∀x c,X.env.cells.lookup x=some c->H c=none
 pin:∀p∈X.pn++ae,s.heap.get? p.1=some p.2/\H p.1=none/\p.1≠X.env.locals/\p.1∉X.fs/\∀v,p.2.data≠.cell v
 hok:dR X.prog X.w H s.heap
 len:σ.length=X.N.length
section
variable{X:Cx}{ae:List (af×bx)}{σ:List (Option V)}{H H':Hp}{s:aA}{h':bg}
theorem Cx.Ok.aaR(ok:X.Ok)(e:X.base.get? b=some o):b∉X.fs:=λhb=>by have:=(ok.jF.mem hb).1;rw[e]at this;cases this
theorem Inv.bs(I:Inv X ae σ H s):∀b o,X.base.get? b=some o->s.heap.get? b=some o/\H b=none:=λb o e=>⟨I.base.keep b o (I.ok.bs b o e).1 (I.ok.bs b o e).2 (I.ok.aaR e) (I.ok.yc b o e),I.base.free b o (I.ok.bs b o e).1 (I.ok.bs b o e).2 (I.ok.yc b o e)⟩
theorem Inv.bk(I:Inv X ae σ H s):∀b o,X.base.get? b=some o->s.heap.get? b=some o:=λb o e=>(I.bs b o e).1
theorem Inv.mod(I:Inv X ae σ H s):Mod X.K X.mg X.base:=I.ok.mod
theorem Inv.gX(I:Inv X ae σ H s):X.K.In s.heap:=I.ok.mod.u6.keeps I.bk
theorem Inv.nolimit(I:Inv X ae σ H s):s.heap.NoLimit:=I.ok.mod.nolimit.keeps I.bk
theorem Inv.fr(I:Inv X ae σ H s):∃m,Fr X.base X.env.locals s.heap m:=let⟨m,hn,_⟩:=I.loc
 ⟨m,hn,I.bk,aZ I.ok.lj I.ok.above⟩
theorem Inv.lt(I:Inv X ae σ H s):X.env.locals<s.heap.objs.size:=let⟨_,hn,_⟩:=I.loc;hn.lt
theorem Inv.sz(I:Inv X ae σ H s):X.gC.heap.objs.size<=s.heap.objs.size:=aZ I.ok.above (jz I.lt)
theorem Inv.aaS(I:Inv X ae σ H s)(h:s.heap.objs.size<=a):a∉X.fs:=λhb=>by obtain⟨_,o,ho,_⟩:=I.ok.jF.mem hb;exact absurd (fI (cB ho) (aZ I.sz h)) (ma _)
theorem Inv.sN(I:Inv X ae σ H s):∀x c,X.env.cells.lookup x=some c->c≠X.env.locals:=λx c e z=>by obtain⟨v,o,ho,hd⟩:=I.cell x c e;obtain⟨m,⟨o',es,ep,jH,sO,_⟩,_⟩:=I.loc;rw[z,jH]at ho;cases ho;rw[sO]at hd;cases hd
theorem Inv.jF(I:Inv X ae σ H s):s.heap.FunFrames X.base X.outer:=by
 have all:∀(l:List d9),(∀b∈mx l,b∈X.fs)->X.gC.heap.FunFrames X.base l->s.heap.FunFrames X.base l:=by intro l;induction l with
  |nil=>intro _ _;trivial|cons env r ih=>intro hs hl;obtain⟨hk,⟨L,o,hf,hn,ho,hd⟩,hr⟩:=hl;have hL:L∈X.fs:=hs L (by unfold mx;rw[qk,hf];exact cK);obtain⟨sl,e⟩:=I.base.slot L o ho (I.ok.oZ L hL) hL λz=>I.ok.yd L z hL;exact⟨hk,⟨L,_,hf,hn,e,hd⟩,ih (λb hb=>hs b (by unfold mx;rw[qk,hf];exact b8 _ hb)) hr⟩
 exact all X.outer (λ_ hb=>hb) I.ok.jF
theorem Inv.stack(I:Inv X ae σ H s):s.heap.FunFrames X.base X.stack:=by
 rcases I.ok.stk with e|⟨e,hf⟩
 ·rw[e];exact I.jF
 ·rw[e]
  obtain⟨m,hn,_⟩:=I.loc;refine .cons (by rw[I.ok.kind];decide) hf hn ?_ I.jF;exact Heap.get?_none_of_le (aZ I.ok.lj I.ok.above)
theorem Inv.GA(I:Inv X ae σ H s):∀b∈mx X.stack,b∈X.env.locals::X.fs:=λb hb=>by
 rcases I.ok.stk with e|⟨e,hf⟩
 ·rw[e]at hb;exact b8 _ hb
 ·rw[e]at hb
  unfold mx at hb;rw[qk,hf]at hb;exact hb
theorem Inv.Qq(I:Inv X ae σ H s):∀b∈mx X.stack,H b=none:=λb hb=>by
 rcases b9.mp (I.GA b hb)with e|hb
 ·rw[e];exact I.free
 ·obtain⟨_,o,ho,_⟩:=I.ok.jF.mem hb
  exact I.base.free b o ho (I.ok.oZ b hb) λz=>I.ok.yd b z hb
theorem Inv.step{g':Array GenState}{t':Nat}{d':Drawn}{ch:List af}(I:Inv X ae σ H s) (nQ:∀b∈ch,(b∈X.ex∨X.gC.heap.objs.size<=b)/\b≠X.env.locals/\(∀x c,X.env.cells.lookup x=some c->c≠b)/\∀p∈X.pn++ae,p.1≠b)
  (keep:∀b o,b≠X.env.locals->b∉X.fs->b∉ch->s.heap.get? b=some o->H b=none->h'.get? b=some o)
  (slot:∀b o,b≠X.env.locals->b∈X.fs->b∉ch->s.heap.get? b=some o->H b=none->∃sl,h'.get? b=some {o with slots:=sl})(free:∀b o,b∉ch->s.heap.get? b=some o->H b=none->H' b=none)
  (there:∀b o,b∉ch->s.heap.get? b=some o->∃o',h'.get? b=some o')
  (tups:∀b xs,H b=some (.tup xs)->H' b=some (.tup xs))(jE:∀b o u,H b=some (.aQ o u)->H' b=some (.aQ o u))(km:∀b ps,H b=some (.c_ ps)->∃more,H' b=some (.c_ (ps++more)))
  (ns:∀m,s.heap.Ns X.env.locals m->h'.Ns X.env.locals m)(hok:dR X.prog X.w H' h')(hg:so g'):
  Inv X ae σ H' {s with heap:=h',gens:=g',drawn:=d',toks:=t'}:=by
 have Qr:∀b o,X.gC.heap.get? b=some o->b≠X.env.locals:=λb o e=>eA (fI (cB e) I.ok.above);have BA:∀b o,X.gC.heap.get? b=some o->b∉X.ex->b∉ch:=λb o e hx hb=>by
  rcases(nQ b hb).1 with z|z
  ·exact hx z
  ·exact absurd (fI (cB e) z) (ma _)
 have cellK:∀x c,X.env.cells.lookup x=some c->∀v,s.heap.IsCell c v->h'.IsCell c v:=λx c e v⟨o,ho,hd⟩=>by
  have sP:c∉ch:=λz=>(nQ c z).2.2.1 x c e rfl;by_cases hc:c∈X.fs
  ·obtain⟨sl,q⟩:=slot c o (I.sN x c e) hc sP ho (I.jG x c e)
   exact⟨_,q,hd⟩
  ·exact⟨o,keep c o (I.sN x c e) hc sP ho (I.jG x c e),hd⟩
 refine⟨I.ok,I.os,hg,⟨λb o e n hb hx=>?_,λb o e n hb hx=>?_,λb o e n hx=>?_,λb o e hx=>?_,λb xs e=>tups b xs (I.base.tups b xs e),λb o xs e=>jE b o xs (I.base.jE b o xs e),λb ps e=>?_⟩,?_,λx c e=>?_,?_,λx c e=>?_,λp hp=>?_,hok,I.len⟩
 ·exact keep b o (Qr b o e) hb (BA b o e hx) (I.base.keep b o e n hb hx) (I.base.free b o e n hx)
 ·obtain⟨sl,e1⟩:=I.base.slot b o e n hb hx
  obtain⟨Gz,e2⟩:=slot b _ (Qr b o e) hb (BA b o e hx) e1 (I.base.free b o e n hx);exact⟨Gz,e2⟩
 ·obtain⟨o',e1⟩:=I.base.there b o e hx
  exact free b o' (BA b o e hx) e1 (I.base.free b o e n hx)
 ·obtain⟨o',e1⟩:=I.base.there b o e hx
  exact there b o' (BA b o e hx) e1
 ·obtain⟨m1,e1⟩:=I.base.km b ps e
  obtain⟨m2,e2⟩:=km b _ e1;exact⟨m1++m2,by rw[e2,N6]⟩
 ·obtain⟨m,hn,hl⟩:=I.loc
  refine⟨m,ns m hn,λi x v e1 e2 e3=>?_⟩;obtain⟨u,r,l⟩:=hl i x v e1 e2 e3;refine⟨u,r,?_⟩;rcases l with l|⟨k,c,e,z⟩
  ·exact .inl l
  ·exact .inr ⟨k,c,e,cellK x c e _ z⟩
 ·obtain⟨v,z⟩:=I.cell x c e
  exact⟨v,cellK x c e v z⟩
 ·obtain⟨m,⟨o,_,_,ho,_⟩,_⟩:=I.loc
  exact free _ o (λz=>(nQ _ z).2.1 rfl) ho I.free
 ·obtain⟨v,o,ho,hd⟩:=I.cell x c e
  exact free c o (λz=>(nQ c z).2.2.1 x c e rfl) ho (I.jG x c e)
 ·obtain⟨e,n,ne,nf,d⟩:=I.pin p hp
  have sP:p.1∉ch:=λz=>(nQ p.1 z).2.2.2 p hp rfl;exact⟨keep p.1 p.2 ne nf sP e n,free p.1 p.2 sP e n,ne,nf,d⟩
theorem Inv.un{t':Nat}(I:Inv X ae σ H s)(u:Un X.fs [] H H' s.heap h')(hok:dR X.prog X.w H' h'):Inv X ae σ H' {s with heap:=h',toks:=t'}:=by obtain⟨m,⟨o,es,ep,ho,r⟩,_⟩:=id I.loc;obtain⟨sl,hL⟩:=u.any ho I.free (by simp);exact I.step (g':=s.gens) (d':=s.drawn) (ch:=[]) (λ_ z=>nomatch z) (λb o _ hb _ e n=>u.keep b o e n hb (by simp)) (λb o _ hb _ e n=>u.slot b o e n hb (by simp)) (λb o _ e n=>u.free b o e n (by simp)) (λb o _ e=>u.there b o e (by simp)) u.tups u.jE u.km (λm' hm=>by obtain⟨o',jI,jJ,jH,r'⟩:=hm;rw[ho]at jH;cases jH;exact⟨_,jI,jJ,hL,r'⟩) hok I.bare
theorem Inv.call{g':Array GenState}{t':Nat}{d':Drawn}{ch:List af}(I:Inv X ae σ H s)(u:Un (mx X.stack) ch H H' s.heap h')(hok:dR X.prog X.w H' h')(hg:so g') (nQ:∀b∈ch,(b∈X.ex∨X.gC.heap.objs.size<=b)/\b≠X.env.locals/\(∀x c,X.env.cells.lookup x=some c->c≠b)/\∀p∈X.pn++ae,p.1≠b):
  Inv X ae σ H' {s with heap:=h',gens:=g',drawn:=d',toks:=t'}:=by
 obtain⟨m,⟨o,es,ep,ho,r⟩,_⟩:=id I.loc;obtain⟨sl,hL⟩:=u.any ho I.free λz=>(nQ _ z).2.1 rfl;exact I.step (ch:=ch) nQ (λb o hL hb hc e n=>u.keep b o e n (λz=>(b9.mp (I.GA b z)).elim hL hb) hc) (λb o _ _ hc e n=>u.any e n hc) (λb o hc e n=>u.free b o e n hc) (λb o hc e=>u.there b o e hc) u.tups u.jE u.km (λm' hm=>by obtain⟨o',jI,jJ,jH,r'⟩:=hm;rw[ho]at jH;cases jH;exact⟨_,jI,jJ,hL,r'⟩) hok hg
theorem Inv.turned{t':Nat}(I:Inv X ae σ H s)(k:∀b o,b≠it->s.heap.get? b=some o->h'.get? b=some o)(hn:H it=none)(hL:it≠X.env.locals) (h1:it∈X.ex∨X.gC.heap.objs.size<=it)(h2:∀x c,X.env.cells.lookup x=some c->c≠it)(h3:∀p∈X.pn++ae,p.1≠it):Inv X ae σ H {s with heap:=h',toks:=t'}:=by
 have qE:∀b u,H b=some u->b≠it:=λb u e z=>by rw[z,hn]at e;cases e
 refine I.step (g':=s.gens) (d':=s.drawn) (ch:=[it]) (λb hb=>?_) (λb o _ _ hc e _=>k b o (λz=>hc (by simp[z])) e) (λb o _ _ hc e _=>⟨o.slots,k b o (λz=>hc (by simp[z])) e⟩) (λ_ _ _ _ n=>n) (λb o hc e=>⟨o,k b o (λz=>hc (by simp[z])) e⟩) (λ_ _ e=>e) (λ_ _ _ e=>e) (λb ps e=>⟨#[],by rw[e];simp⟩) (λm hm=>?_) (λb u e=>?_) I.bare
 ·have e:b=it:=by simpa using hb
  subst e;exact⟨h1,hL,h2,h3⟩
 ·obtain⟨o,es,ep,ho,r⟩:=hm
  exact⟨o,es,ep,k _ o (Ne.symm hL) ho,r⟩
 ·refine(I.hok b u e).stay (λc v hc q=>k c v ?_ q) (λ_ q=>q) λ_ _ q=>q
  rcases hc with z|z
  ·rw[z];exact qE b u e
  ·exact qE c _ z
theorem Inv.tok(I:Inv X ae σ H s)(t:Nat):Inv X ae σ H {s with toks:=t}:=I.un (h':=s.heap) (t':=t) Un.refl I.hok
theorem Inv.kept{t':Nat}(I:Inv X ae σ H s)(k:∀b u,s.heap.get? b=some u->h'.get? b=some u):Inv X ae σ H {s with heap:=h',toks:=t'}:=I.un (Un.kept k) (I.hok.kept k)
theorem Inv.laid{t':Nat}(I:Inv X ae σ H s)(k:∀b u,s.heap.get? b=some u->h'.get? b=some u)(hp:s.heap.objs.size<=a)(new:d3 X.prog X.w (upd H a o) h' a o):Inv X ae σ (upd H a o) {s with heap:=h',toks:=t'}:=I.un (Un.laid k hp (I.hok.fresh hp)) (I.hok.laid k hp new)
theorem Inv.write{t':Nat}(I:Inv X ae σ H s)(mu:nO (H x))(he:e=x∨H e=some (.own x))(k:∀b u,b≠e->s.heap.get? b=some u->h'.get? b=some u)(u5:∃u,h'.get? e=some u) (new:d3 X.prog X.w (upd H x o) h' x o):Inv X ae σ (upd H x o) {s with heap:=h',toks:=t'}:=I.un (Un.write mu he k u5) (I.hok.write mu he k u5 new)
theorem Inv.weak{σ':List (Option V)}(I:Inv X ae σ H s)(hl:σ'.length=σ.length)(w:∀(i:Nat)v,σ'[i]? =some (some v)->σ[i]? =some (some v)):Inv X ae σ' H s:=⟨I.ok,I.os,I.bare,I.base,let⟨m,hn,GB⟩:=I.loc;⟨m,hn,λi x v e1 e2 e3=>GB i x v e1 (w i v e2) e3⟩,I.cell,I.free,I.jG,I.pin,I.hok,hl.trans I.len⟩
theorem Inv.Qs(I:Inv X ae σ H s)(h:∀p∈aaT,s.heap.get? p.1=some p.2/\H p.1=none/\p.1≠X.env.locals/\p.1∉X.fs/\∀v,p.2.data≠.cell v):Inv X aaT σ H s:=⟨I.ok,I.os,I.bare,I.base,I.loc,I.cell,I.free,I.jG,λp hp=>(cu.mp hp).elim (λz=>I.pin p (jx _ z)) (h p),I.hok,I.len⟩
theorem GC{N:List ai}(hN:N.Nodup){i j:Nat}{x:ai}(a:N[i]? =some x)(b:N[j]? =some x):i=j:=by obtain⟨h1,e1⟩:=eo.mp a;obtain⟨h2,e2⟩:=eo.mp b;exact(Ow hN).mp (e1.trans e2.symm)
theorem Qt{M:uW}{A:dF}{E:ag->aA->Prop}{i:Nat}{x:ai}{v:V}{u:ag}{Q:Unit->aA->Prop}(I:Inv X ae σ H s)(hN:X.N.Nodup)(hi:X.N[i]? =some x)(hx:Loc X.env.scope x)(r:RelV v u) (h:∀s',Inv X ae (σ.set i (some v)) H s'->(∃a,uY a s.heap s'.heap/\(a=X.env.locals∨X.env.cells.lookup x=some a))->Q () s')(hf:X.fn x=true∨X.env.scope.names.lookup x=some .local:=by first|exact .inl rfl|exact .inr rfl|assumption):aH M A (storeName X.env x u) Q E s:=by
 obtain⟨m,hn,hl⟩:=id I.loc;have aaU:(X.env.scope.kind==.class||(X.env.scope.kind==.module&&X.env.locals !=X.env.globals))=false:=by rw[I.ok.kind];rfl
 have hiσ:i<σ.length:=by rw[I.len];exact(eo.mp hi).1
 have sN:=I.sN;have tracked:∀{a:af}{h':bg},(∃o,s.heap.get? a=some o/\H a=none)->uY a s.heap h'->dR X.prog X.w H h':=λ{a h'}ha hs b ob e=>by
  obtain⟨_,_,kn⟩:=ha;refine(I.hok b ob e).stay (λc w' hc q=>(hs.2 c ?_).trans q) (λ_ q=>q) λ_ _ q=>q;rintro rfl;rcases hc with rfl|hc
  ·rw[kn]at e;cases e
  ·rw[kn]at hc;cases hc
 rcases hx with hk|hk
 ·refine wpAny_storeName_local hk hn (λh' gD hs=>?_) aaU
  obtain⟨oL,_,_,GG,_⟩:=id hn;refine h _ ⟨I.ok,I.os,I.bare,⟨λb o e n hb hx=>?_,λb o e n hb hx=>?_,I.base.free,λb o e hx=>?_,I.base.tups,I.base.jE,I.base.km⟩,⟨_,gD,λj y v' e1 e2 e3=>?_⟩,λy c e=>?_,I.free,I.jG,λp hp=>?_,tracked ⟨oL,GG,I.free⟩ hs,by simpa using I.len⟩ ⟨_,hs,.inl rfl⟩
  ·exact(hs.2 b (eA (fI (cB e) I.ok.above))).trans (I.base.keep b o e n hb hx)
  ·obtain⟨sl,e1⟩:=I.base.slot b o e n hb hx
   exact⟨sl,(hs.2 b (eA (fI (cB e) I.ok.above))).trans e1⟩
  ·obtain⟨o',e1⟩:=I.base.there b o e hx
   exact⟨o',(hs.2 b (eA (fI (cB e) I.ok.above))).trans e1⟩
  ·by_cases hj:j=i
   ·subst hj
    rw[hi]at e1;cases e1;rw[E_ hiσ]at e2;cases e2;exact⟨u,r,.inl ⟨hk,by simp⟩⟩
   ·rw[Fe (Ne.symm hj)]at e2
    obtain⟨u',r',q⟩:=hl j y v' e1 e2 e3;refine⟨u',r',?_⟩;rcases q with⟨k,e⟩|⟨k,c,e,z⟩
    ·refine .inl ⟨k,?_⟩
     have:y≠x:=λe=>hj (GC hN e1 (e▸hi));simp[this,e]
    ·exact .inr ⟨k,c,e,z.sameBut hs (sN y c e)⟩
  ·obtain⟨w',z⟩:=I.cell y c e
   exact⟨w',z.sameBut hs (sN y c e)⟩
  ·obtain⟨e,n,ne,nf,d⟩:=I.pin p hp
   exact⟨(hs.2 p.1 ne).trans e,n,ne,nf,d⟩
 ·have u7:X.fn x=true:=by
   rcases hf with z|z
   ·exact z
   ·rw[z]at hk;cases hk
  obtain⟨c,hc⟩:=I.ok.has x (.inl hk);obtain⟨w',z⟩:=I.cell x c hc;refine wpAny_storeName_cell I.ok.kind hk hc z (λh' u9 hs=>?_);obtain⟨oc,Qu,aaV⟩:=id z;refine h {s with heap:=h'} ⟨I.ok,I.os,I.bare,⟨λb o e n hb hx=>?_,λb o e n hb hx=>?_,I.base.free,λb o e hx=>?_,I.base.tups,I.base.jE,I.base.km⟩,⟨m,hn.sameBut hs (Ne.symm (sN x c hc)),λj y v' e1 e2 e3=>?_⟩,λy c' e=>?_,I.free,I.jG,λp hp=>?_,tracked ⟨oc,Qu,I.jG x c hc⟩ hs,by simpa using I.len⟩ ⟨c,hs,.inr hc⟩
  ·exact(hs.2 b (eA (fI (cB e) (I.ok.cab x c u7 hc)))).trans (I.base.keep b o e n hb hx)
  ·obtain⟨sl,e1⟩:=I.base.slot b o e n hb hx
   exact⟨sl,(hs.2 b (eA (fI (cB e) (I.ok.cab x c u7 hc)))).trans e1⟩
  ·obtain⟨o',e1⟩:=I.base.there b o e hx
   exact⟨o',(hs.2 b (eA (fI (cB e) (I.ok.cab x c u7 hc)))).trans e1⟩
  ·by_cases hj:j=i
   ·subst hj
    rw[hi]at e1;cases e1;rw[E_ hiσ]at e2;cases e2;exact⟨u,r,.inr ⟨.inl hk,c,hc,u9⟩⟩
   ·rw[Fe (Ne.symm hj)]at e2
    obtain⟨u',r',q⟩:=hl j y v' e1 e2 e3;refine⟨u',r',?_⟩;rcases q with q|⟨k,c',e,z'⟩
    ·exact .inl q
    ·refine .inr ⟨k,c',e,z'.sameBut hs ?_⟩
     rintro rfl;exact hj (GC hN e1 (I.ok.inj _ _ _ e hc▸hi))
  ·by_cases lp:c'=c
   ·subst lp;exact⟨_,u9⟩
   ·obtain⟨w2,z2⟩:=I.cell y c' e
    exact⟨w2,z2.sameBut hs lp⟩
  ·obtain⟨e,n,ne,nf,d⟩:=I.pin p hp
   refine⟨(hs.2 p.1 ?_).trans e,n,ne,nf,d⟩;intro q;rw[q,Qu]at e;have q':oc=p.2:=cM.inj e;exact d w' (by rw[<-q'];exact aaV)
theorem Qv{M:uW}{i:Nat}{Q:Unit->aA->Prop}(I:Inv X ae σ H s)(hN:X.N.Nodup)(hi:X.N[i]? =some x)(hx:Loc X.env.scope x)(r:RelV v u) (h:∀s',Inv X ae (σ.set i (some v)) H s'->Q () s')(hf:X.fn x=true∨X.env.scope.names.lookup x=some .local:=by first|exact .inl rfl|exact .inr rfl|assumption):aH M A (storeName X.env x u) Q E s:=
 Qt I hN hi hx r (λs' I' _=>h s' I') hf
theorem Inv.call'{ch:List af}(I:Inv X ae σ H s)(ho:s'.os=s.os)(u:Un (mx X.stack) ch H H' s.heap s'.heap)(hok:dR X.prog X.w H' s'.heap)(hg:so s'.gens) (nQ:∀b∈ch,(b∈X.ex∨X.gC.heap.objs.size<=b)/\b≠X.env.locals/\(∀x c,X.env.cells.lookup x=some c->c≠b)/\∀p∈X.pn++ae,p.1≠b):Inv X ae σ H' s':=by
 obtain⟨h',g',d',t',o'⟩:=s';have e:o'=s.os:=ho;subst e;exact I.call (g':=g') (t':=t') (d':=d') u hok hg nQ
end
abbrev XK:=ag->Option af->Hp->Prop
abbrev St:=List (Option V)
abbrev VK:=V->Hp->Prop
abbrev TE:=St->Hp->VK->Prop
abbrev TT:=St->Hp->(Bool->Hp->Prop)->Prop
abbrev TA:=St->Hp->(List V->Hp->Prop)->Prop
structure Ends where
 nx:St->Hp->Prop
 rt:VK
 bk:St->Hp->Prop:=λ_ _=>False
 ct:St->Hp->Prop:=λ_ _=>False
abbrev TS:=Ends->St->Hp->Prop
def EP(X:Cx)(ae:List (af×bx))(σ:St)(Q:VK)(u:ag)(s':aA):Prop:=∃v H',Inv X ae σ H' s'/\RelV v u/\Q v H'
def TP(X:Cx)(ae:List (af×bx))(σ:St)(Q:Bool->Hp->Prop)(b:Bool)(s':aA):Prop:=∃H',Inv X ae σ H' s'/\Q b H'
def AP(X:Cx)(ae:List (af×bx))(σ:St)(Q:List V->Hp->Prop)(us:List ag)(s':aA):Prop:=∃vs H',Inv X ae σ H' s'/\Vals vs us/\Q vs H'
def SP(X:Cx)(ae:List (af×bx))(D:Ends)(f:Flow)(s':aA):Prop:=match f with|.next=>∃σ' H',Inv X ae σ' H' s'/\D.nx σ' H'|.brk=>∃σ' H',Inv X ae σ' H' s'/\D.bk σ' H'|.cont=>∃σ' H',Inv X ae σ' H' s'/\D.ct σ' H'|.ret u=>∃v σ' H',Inv X ae σ' H' s'/\RelV v u/\D.rt v H'
def PE(X:Cx)(e:a_)(t:TE):Prop:=∀(ae:List (af×bx))(s:aA)(σ:St)(H:Hp)(Q:VK),Inv X ae σ H s->t σ H Q->aH (aO X.prog X.w) X.A (eval e X.env) (EP X ae σ Q) X.xe s
def PT(X:Cx)(e:a_)(t:TT):Prop:=∀(ae:List (af×bx))(s:aA)(σ:St)(H:Hp)(Q:Bool->Hp->Prop),Inv X ae σ H s->t σ H Q->aH (aO X.prog X.w) X.A (isTrue e X.env (eval e X.env)) (TP X ae σ Q) X.xe s
def PW(X:Cx)(e:a_)(t:TT):Prop:=∀(whole:ie ag)(ae:List (af×bx))(s:aA)(σ:St)(H:Hp)(Q:Bool->Hp->Prop),Inv X ae σ H s->t σ H Q->aH (aO X.prog X.w) X.A (isTrue e X.env whole) (TP X ae σ Q) X.xe s
theorem PW.pt(h:PW X e t):PT X e t:=h _
def PA(X:Cx)(es:List a_)(t:TA):Prop:=∀(pos:dG)(ae:List (af×bx))(s:aA)(σ:St)(H:Hp)(Q:List V->Hp->Prop),Inv X ae σ H s->t σ H Q->aH (aO X.prog X.w) X.A (spliced (backTo pos (bE es X.env))) (AP X ae σ Q) X.xe s
def PS(X:Cx)(st:aV)(t:TS):Prop:=∀(ae:List (af×bx))(s:aA)(σ:St)(H:Hp)(D:Ends),Inv X ae σ H s->t D σ H->aH (aO X.prog X.w) X.A (exec st X.env) (SP X ae D) X.xe s
def iX(X:Cx)(st:List aV)(t:TS):Prop:=∀(ae:List (af×bx))(s:aA)(σ:St)(H:Hp)(D:Ends),Inv X ae σ H s->t D σ H->aH (aO X.prog X.w) X.A (execs st X.env) (SP X ae D) X.xe s
theorem aU{α:Type}{t:ie α}{Q Q':α->aA->Prop}{M:uW}{A:dF}{E:ag->aA->Prop}{s:aA}(h:aH M A t Q E s)(hQ:∀a s,Q a s->Q' a s):aH M A t Q' E s:=ic h hQ λ_ _ x=>x
section
variable{X:Cx}
theorem bin{a b:a_}{ta tb:TE}(ha:PE X a ta)(hb:PE X b tb){ae:List (af×bx)}{s:aA}{σ:St}{H:Hp}{R:V->V->Hp->Prop}(I:Inv X ae σ H s)(h:ta σ H λx H1=>tb σ H1 λy H2=>R x y H2) {α:Type}{Q:α->aA->Prop}{f:ag->ag->ie α}
  (hf:∀v u s2 x y H2,Inv X ae σ H2 s2->RelV x v->RelV y u->R x y H2->aH (aO X.prog X.w) X.A (f v u) Q X.xe s2):
  aH (aO X.prog X.w) X.A (eval a X.env) (λv s₁=>aH (aO X.prog X.w) X.A (eval b X.env) (λu s₂=>aH (aO X.prog X.w) X.A (f v u) Q X.xe s₂) X.xe s₁) X.xe s:=by
 refine aU (ha ae s σ H _ I h) λv s1 br=>?_;obtain⟨x,H1,I1,r1,q1⟩:=br;refine aU (hb ae s1 σ H1 _ I1 q1) λu s2 eE=>?_;obtain⟨y,H2,I2,r2,q2⟩:=eE;exact hf v u s2 x y H2 I2 r1 r2 q2
inductive nR(i:Nat)(σ:St)(H:Hp)(Q:VK):Prop|mk v (z:σ[i]? =some (some v)) (z:Q v H)
def tC(v:V):TE:=λ_ H Q=>Q v H
theorem aaW{i:Nat}(hN:X.N[i]? =some x)(hv:yb X.env.scope x)(hd:(x==("__debug__":ai))=false:=by decide)(fT:(x==("__classdict__":ai))=false:=by decide):PE X (.Name x pos) (nR i):=by
 intro ae s σ H Q I h;obtain⟨v,e,h⟩:=h;obtain⟨m,hn,hl⟩:=I.loc;obtain⟨u,r,l⟩:=hl i x v hN e hv;have fin:EP X ae σ Q u s:=⟨v,H,I,r,h⟩;rcases l with⟨hk,hm⟩|⟨hk,c,hc,ye⟩
 ·exact F7 (wpAny_loadName_local I.ok.kind hk hn hm fin) hd
 ·rcases hk with hk|hk
  ·exact F7 (wpAny_loadName_cell I.ok.kind hk hc ye fin) hd
  ·exact F7 (wpAny_loadName_free I.ok.kind hk hc ye fin fT) hd
theorem aJ{i j pos}:PE X (.Constant (.int i) j pos) (tC (.int i)):=λ_ _ _ H _ I h=>wpAny_Constant_int ⟨.int i,H,I.tok _,⟨_,rfl⟩,h⟩
theorem ik{b j pos}:PE X (.Constant (.bool b) j pos) (tC (.bl b)):=λ_ _ _ H _ I h=>Constant_bool ⟨.bl b,H,I,rfl,h⟩
theorem u_{j pos}:PE X (.Constant .none j pos) (tC .non):=λ_ _ _ H _ I h=>FH ⟨.non,H,I,rfl,h⟩
def Gl(X:Cx)(x:ai):Prop:=X.env.kindOf x=some .globalImplicit
theorem BB{σ:St}(I:Inv X ae σ H s)(hg:Gl X x)(hm:X.mg x=some u)(h:Q u s) (hd:(x==("__debug__":ai))=false:=by decide):aH (aO X.prog X.w) X.A (eval (.Name x pos) X.env) Q E s:=
 Pq I.ok.kind hg (Calls.loadGlobal_global (by rw[I.ok.glob];exact I.mod.glob.keeps I.bk) hm h) hd
theorem qF{σ:St}(I:Inv X ae σ H s)(hg:Gl X x)(hm:X.mg x=none)(hv:uS x=some u)(h:Q u s) (hn:x≠"__name__":=by decide)(hd:(x==("__debug__":ai))=false:=by decide):aH (aO X.prog X.w) X.A (eval (.Name x pos) X.env) Q E s:=by
 obtain⟨mb,h1,h2⟩:=I.mod.blt;exact Pq I.ok.kind hg (Calls.loadGlobal_builtin (by rw[I.ok.glob];exact I.mod.glob.keeps I.bk) hm (by rw[I.ok.blt];exact h1.keeps I.bk) ((h2 x hn).trans hv) h) hd
theorem Qw(hg:Gl X x)(hm:X.mg x=some u)(r:RelV v u)(hd:(x==("__debug__":ai))=false:=by decide):PE X (.Name x pos) (tC v):=λ_ _ _ H _ I h=>BB I hg hm ⟨v,H,I,r,h⟩ hd
variable{a b:a_}{ta tb:TE}{pos:dG}
def PC(X:Cx)(op:oS)(a b:a_)(t:TE):Prop:=∀(ae:List (af×bx))(s:aA)(σ:St)(H:Hp)(Q:VK),Inv X ae σ H s->t σ H Q->aH (aO X.prog X.w) X.A (eval a X.env) (λv s₁=>aH (aO X.prog X.w) X.A (eval b X.env) (λu s₂=>aH (aO X.prog X.w) X.A (gz op v u) (EP X ae σ Q) X.xe s₂) X.xe s₁) X.xe s
theorem Qx(b:a_){op:oS}(h:op≠.In)(h2:op≠.NotIn):nF op b=false:=by
 have e1:(op==CmpOp.In)=false:=by cases op<;>first|rfl|exact absurd rfl h
 have e2:(op==CmpOp.NotIn)=false:=by cases op<;>first|rfl|exact absurd rfl h2
 cases b<;>simp[nF,e1,e2]
def aaX(ta:TE):TE:=λσ H Q=>ta σ H λx H1=>Q (.bl (decide (x=.non))) H1
def aaY(ta:TE):TE:=λσ H Q=>ta σ H λx H1=>Q (.bl (!decide (x=.non))) H1
theorem RelV.Qy(r:RelV x v):(v==mh)=decide (x=.non):=by cases x with|non=>cases r;rfl|bl _=>cases r;rfl|int _=>obtain⟨t,rfl⟩:=r;rfl|str _=>obtain⟨t,rfl⟩:=r;rfl|ij _=>obtain⟨t,rfl⟩:=r;rfl|flt _=>obtain⟨t,rfl⟩:=r;rfl|ref _=>cases r;rfl|ty _=>cases r;rfl
theorem yf{j pos'}(ha:PE X a ta):PC X .Is a (.Constant .none j pos') (aaX ta):=by intro ae s σ H Q I h;refine aU (ha ae s σ H _ I h) λv s1 br=>?_;obtain⟨x,H1,I1,r1,q1⟩:=br;exact FH (is_none_gen ⟨.bl _,H1,I1,by rw[r1.Qy];rfl,q1⟩)
theorem o3{j pos'}(ha:PE X a ta):PC X .IsNot a (.Constant .none j pos') (aaY ta):=by intro ae s σ H Q I h;refine aU (ha ae s σ H _ I h) λv s1 br=>?_;obtain⟨x,H1,I1,r1,q1⟩:=br;exact FH (isnot_none_gen ⟨.bl _,H1,I1,by rw[r1.Qy];rfl,q1⟩)
inductive kg(x:V)(H:Hp)(Q:Bool->Hp->Prop):Prop|mk c (z:x=.bl c) (z:Q c H)
def tB(t:TE):TT:=λσ H Q=>t σ H λx H1=>kg x H1 Q
theorem qG{op:oS}(h:PC X op a b t)(h1:nF op b=false:=by first|exact Qx _ (by decide) (by decide)|rfl):PE X (.Compare a [op] [b] pos) t:=λae s σ H Q I hw=>Pc (h ae s σ H Q I hw) h1
theorem dB{op:oS}(h:PC X op a b t)(h1:nF op b=false:=by first|exact Qx _ (by decide) (by decide)|rfl):PT X (.Compare a [op] [b] pos) (tB t):=by intro ae s σ H Q I hw;refine O3 (aU (h ae s σ H _ I hw) λv s1 h1=>aU h1 λu s2 h2=>aU h2 λc s3⟨x,H1,I1,r1,q1⟩=>?_) h1;obtain⟨d,rfl,q⟩:=q1;cases r1;exact nE ⟨H1,I1,q⟩
theorem dj(h:PE X e t)(he:∀whole,isTrue e X.env whole=(do let v<-whole;sF e.pos;holding [v] (truthy v)):=by intro _;rfl):PT X e (tB t):=by intro ae s σ H Q I hw;refine isTrue_plain (aU (h ae s σ H _ I hw) λv s1⟨x,H1,I1,r1,q1⟩=>?_) (he _);obtain⟨d,rfl,q⟩:=q1;cases r1;exact nE ⟨H1,I1,q⟩
variable{tA BC:TT}{rest:List a_}
def aaZ(t u:TT):TT:=λσ H Q=>t σ H λc H1=>if c=true then u σ H1 Q else Q false H1
def tOr(t u:TT):TT:=λσ H Q=>t σ H λc H1=>if c=true then Q true H1 else u σ H1 Q
def aa0(t:TT):TT:=λσ H Q=>t σ H λc H1=>Q (!c) H1
theorem aa1(ha:PT X a tA):PW X (.BoolOp .And [a] pos) tA:=by intro wh ae s σ H Q I h;refine isTrue_and (aU (ha ae s σ H Q I h) λc s1 e=>?_);cases c with|true=>exact isTrue_and_nil e|false=>exact e
theorem ji(ha:PT X a tA):PW X (.BoolOp .Or [a] pos) tA:=by intro wh ae s σ H Q I h;refine isTrue_or (aU (ha ae s σ H Q I h) λc s1 e=>?_);cases c with|false=>exact isTrue_or_nil e|true=>exact e
theorem aa2(ha:PT X a tA)(hb:PW X (.BoolOp .And (b::rest) pos) BC):PW X (.BoolOp .And (a::b::rest) pos) (aaZ tA BC):=by intro wh ae s σ H Q I h;refine isTrue_and (aU (ha ae s σ H _ I h) λc s1 br=>?_);obtain⟨H1,I1,q1⟩:=br;cases c with|true=>exact hb wh ae s1 σ H1 Q I1 q1|false=>exact⟨H1,I1,q1⟩
theorem jj(ha:PT X a tA)(hb:PW X (.BoolOp .Or (b::rest) pos) BC):PW X (.BoolOp .Or (a::b::rest) pos) (tOr tA BC):=by intro wh ae s σ H Q I h;refine isTrue_or (aU (ha ae s σ H _ I h) λc s1 br=>?_);obtain⟨H1,I1,q1⟩:=br;cases c with|true=>exact⟨H1,I1,q1⟩|false=>exact hb wh ae s1 σ H1 Q I1 q1
theorem gY(ha:PT X a tA):PT X (.UnaryOp .Not a pos) (aa0 tA):=by intro ae s σ H Q I h;exact isTrue_not (ha ae s σ H (λc H1=>Q (!c) H1) I h)
def aa3(ta tb:TE):TE:=λσ H Q=>ta σ H λx H1=>∃c,x=.bl c/\if c=true then tb σ H1 Q else Q (.bl false) H1
def aa4(ta tb:TE):TE:=λσ H Q=>ta σ H λx H1=>∃c,x=.bl c/\if c=true then Q (.bl true) H1 else tb σ H1 Q
def aa5(ta:TE):TE:=λσ H Q=>ta σ H λx H1=>∃c,x=.bl c/\Q (.bl (!c)) H1
theorem nS{op}(h:PE X a t):PE X (.BoolOp op [a] pos) t:=λae s σ H Q I hw=>BoolOp_one (h ae s σ H Q I hw)
theorem qH(ha:PE X a ta)(hb:PE X (.BoolOp .And (b::rest) pos) tb):PE X (.BoolOp .And (a::b::rest) pos) (aa3 ta tb):=by intro ae s σ H Q I h;refine BoolOp_and (aU (ha ae s σ H _ I h) λv s1 br=>?_);obtain⟨x,H1,I1,r1,q1⟩:=br;obtain⟨c,rfl,q1⟩:=q1;cases r1;refine nE ?_;cases c with|true=>exact hb ae s1 σ H1 Q I1 q1|false=>exact⟨.bl false,H1,I1,rfl,q1⟩
theorem Qz(ha:PE X a ta)(hb:PE X (.BoolOp .Or (b::rest) pos) tb):PE X (.BoolOp .Or (a::b::rest) pos) (aa4 ta tb):=by intro ae s σ H Q I h;refine BoolOp_or (aU (ha ae s σ H _ I h) λv s1 br=>?_);obtain⟨x,H1,I1,r1,q1⟩:=br;obtain⟨c,rfl,q1⟩:=q1;cases r1;refine nE ?_;cases c with|false=>exact hb ae s1 σ H1 Q I1 q1|true=>exact⟨.bl true,H1,I1,rfl,q1⟩
theorem aa6(ha:PE X a ta):PE X (.UnaryOp .Not a pos) (aa5 ta):=by intro ae s σ H Q I h;refine UnaryOp_ (aU (ha ae s σ H _ I h) λv s1 br=>?_);obtain⟨x,H1,I1,r1,q1⟩:=br;obtain⟨c,rfl,q1⟩:=q1;cases r1;exact not_of (nE ⟨.bl (!c),H1,I1,rfl,q1⟩)
def tIf(t:TT)(ta tb:TE):TE:=λσ H Q=>t σ H λc H1=>if c=true then ta σ H1 Q else tb σ H1 Q
theorem QA(hc:PT X c tA)(ha:PE X a ta)(hb:PE X b tb):PE X (.IfExp c a b pos) (tIf tA ta tb):=by intro ae s σ H Q I h;refine wpAny_IfExp (aU (hc ae s σ H _ I h) λd s1 br=>?_);obtain⟨H1,I1,q1⟩:=br;cases d with|true=>exact ha ae s1 σ H1 Q I1 q1|false=>exact hb ae s1 σ H1 Q I1 q1
end
def aE(K:aG)(H:Hp)(a:af)(xs:List V):Prop:=Rd H a (.lst xs)∨∃(o:bx)(its:Array ag)(n:Nat),K.lookup a=some o/\o.cls=.type "list"/\o.dict=none/\o.data=.seq its n/\its.size<=aS/\Vals xs its.toList
def cW(K:aG)(H:Hp)(a:af)(xs:List V):Prop:=Rd H a (.tup xs)∨∃(o:bx)(its:Array ag)(n:Nat),K.lookup a=some o/\o.cls=.type "tuple"/\o.data=.seq its n/\its.size<=aS/\Vals xs its.toList
def QB:ag->Option V|.none=>some .non|.bool b=>some (.bl b)|.int i _=>some (.int i)|.str x _=>some (.str x)|.bytes b _=>some (.ij b)|.float b _=>some (.flt b)|.ref a=>some (.ref a)|.type n=>some (.ty n)|_=>none
theorem RelV.abs(r:RelV x u):QB u=some x:=by cases x with|non=>cases r;rfl|bl _=>cases r;rfl|int _=>obtain⟨t,rfl⟩:=r;rfl|str _=>obtain⟨t,rfl⟩:=r;rfl|ij _=>obtain⟨t,rfl⟩:=r;rfl|flt _=>obtain⟨t,rfl⟩:=r;rfl|ref _=>cases r;rfl|ty _=>cases r;rfl
theorem RelV.inj(r:RelV x u)(q:RelV y u):x=y:=cM.inj (r.abs.symm.trans q.abs)
theorem Vals.inj:∀{xs ys:List V}{us:List ag},Vals xs us->Vals ys us->xs=ys|_,_,_,.nil,.nil=>rfl|_,_,_,.cons r t,.cons r' t'=>by rw[r.inj r',Vals.inj t t']
section
variable{X:Cx}{ae:List (af×bx)}{σ:St}{H:Hp}{s:aA}{a:af}{xs ys:List V}
theorem aE.of{K:aG}(h:H a=some (.lst xs)):aE K H a xs:=.inl (.inl h)
theorem cW.of{K:aG}(h:H a=some (.tup xs)):cW K H a xs:=.inl (.inl h)
theorem Inv.list(I:Inv X ae σ H s)(h:aE X.K H a xs):∃its:List ag,Vals xs its/\PlainL s.heap a its.toArray/\xs.length<=aS:=by
 rcases h with h|⟨o,its,n,hk,hc,hd,hs,hz,r⟩
 ·obtain⟨z,its,n,r,e⟩:=h.ok I.hok
  exact⟨its,r,⟨_,n,e,rfl,rfl,rfl⟩,z⟩
 ·refine⟨its.toList,r,⟨o,n,I.gX a o hk,hc,hd,by simpa using hs⟩,?_⟩
  have e:=r.length;simp only[sf]at e;lia
theorem Inv.tuple(I:Inv X ae σ H s)(h:cW X.K H a xs):∃its:List ag,Vals xs its/\A1 s.heap a its.toArray/\xs.length<=aS:=by
 rcases h with h|⟨o,its,n,hk,hc,hs,hz,r⟩
 ·obtain⟨z,its,r,p⟩:=h.ok I.hok
  exact⟨its,r,p,z⟩
 ·refine⟨its.toList,r,⟨o,I.gX a o hk,hc,n,by simpa using hs⟩,?_⟩
  have e:=r.length;simp only[sf]at e;lia
theorem Inv.yg(I:Inv X ae σ H s)(h:aE X.K H a xs)(h':aE X.K H a ys):xs=ys:=by
 obtain⟨its,r,⟨o,n,e,_,_,d⟩,_⟩:=I.list h;obtain⟨ko,r',⟨o',n',e',_,_,d'⟩,_⟩:=I.list h';rw[e]at e';cases e';rw[d]at d';injection d' with d1 _
 have:its=ko:=by simpa using eW E2 d1
 subst this;exact r.inj r'
theorem Inv.aa7(I:Inv X ae σ H s)(h:cW X.K H a xs)(h':cW X.K H a ys):xs=ys:=by
 obtain⟨its,r,⟨o,e,_,n,d⟩,_⟩:=I.tuple h;obtain⟨ko,r',⟨o',e',_,n',d'⟩,_⟩:=I.tuple h';rw[e]at e';cases e';rw[d]at d';injection d' with d1 _
 have:its=ko:=by simpa using eW E2 d1
 subst this;exact r.inj r'
end
abbrev Cx.wish(X:Cx)(E:ag->aA->Prop):Cx:={X with xe:=E}
abbrev Cx.my(X:Cx):Cx:=X.wish λ_ _=>False
theorem Cx.Ok.wish{X:Cx}(ok:X.Ok)(E:ag->aA->Prop):(X.wish E).Ok:=⟨ok.mod,ok.kind,ok.glob,ok.blt,ok.above,ok.inj,ok.has,ok.cab,ok.hd,ok.frames,ok.stk,ok.Bz,ok.bs,ok.lj,ok.yc,ok.yd,ok.jF,ok.oZ⟩
theorem Cx.Ok.o4{X:Cx}{E:ag->aA->Prop}(ok:(X.wish E).Ok):X.Ok:=⟨ok.mod,ok.kind,ok.glob,ok.blt,ok.above,ok.inj,ok.has,ok.cab,ok.hd,ok.frames,ok.stk,ok.Bz,ok.bs,ok.lj,ok.yc,ok.yd,ok.jF,ok.oZ⟩
section
variable{X:Cx}{ae:List (af×bx)}{σ:St}{H:Hp}{s:aA}{E:ag->aA->Prop}
theorem Inv.wish(I:Inv X ae σ H s)(E:ag->aA->Prop):Inv (X.wish E) ae σ H s:=⟨I.ok.wish E,I.os,I.bare,I.base,I.loc,I.cell,I.free,I.jG,I.pin,I.hok,I.len⟩
theorem Inv.o4(I:Inv (X.wish E) ae σ H s):Inv X ae σ H s:=⟨I.ok.o4,I.os,I.bare,I.base,I.loc,I.cell,I.free,I.jG,I.pin,I.hok,I.len⟩
theorem SP.o4{f:Flow}(h:SP (X.wish E) ae D f s'):SP X ae D f s':=by cases f with|next=>obtain⟨σ',H',I,q⟩:=h;exact⟨σ',H',I.o4,q⟩|brk=>obtain⟨σ',H',I,q⟩:=h;exact⟨σ',H',I.o4,q⟩|cont=>obtain⟨σ',H',I,q⟩:=h;exact⟨σ',H',I.o4,q⟩|ret u=>obtain⟨v,σ',H',I,r,q⟩:=h;exact⟨v,σ',H',I.o4,r,q⟩
theorem PE.my(h:PE X.my e t):PE X e t:=λae s σ H Q I hw=>ic (h ae s σ H Q (I.wish _) hw) (λ_ _⟨v,H',I',r,q⟩=>⟨v,H',I'.o4,r,q⟩) λ_ _ z=>False.elim z
theorem iX.my{st:List aV}{t:TS}(h:iX X.my st t):iX X st t:=λae s σ H D I hw=>ic (h ae s σ H D (I.wish _) hw) (λ_ _ q=>q.o4) λ_ _ z=>False.elim z
end
section
variable{X:Cx}{st:aV}{rest:List aV}{t u:TS}{e:a_}{te:TE}{pos:dG}
def aa8:TS:=λD σ H=>D.nx σ H
def BD(t u:TS):TS:=λD σ H=>t {D with nx:=u D} σ H
theorem bt:iX X [] aa8:=λ_ _ σ H _ I h=>A7 ⟨σ,H,I,h⟩
theorem aq(h1:PS X st t)(h2:iX X rest u):iX X (st::rest) (BD t u):=by intro ae s σ H D I h;refine O_ (aU (h1 ae s σ H {D with nx:=u D} I h) λf s1 q=>?_);cases f with|next=>obtain⟨σ',H',I',q⟩:=q;exact h2 ae s1 σ' H' D I' q|ret v=>exact q|brk=>exact q|cont=>exact q
theorem az(h1:PS X st t):iX X [st] t:=by intro ae s σ H D I h;refine O_ (aU (h1 ae s σ H D I h) λf s1 q=>?_);cases f with|next=>exact A7 q|ret v=>exact q|brk=>exact q|cont=>exact q
def aa9:TS:=λD σ H=>D.bk σ H
theorem aba:PS X (.Break pos) aa9:=λ_ _ σ H _ I h=>wpAny_Break ⟨σ,H,I,h⟩
theorem Inv.quiet{σ:St}(I:Inv X ae σ H s):interactive X.env=false:=by simp[interactive,I.ok.kind]
def abb(te:TE):TS:=λD σ H=>te σ H λ_ H1=>D.nx σ H1
theorem jk(he:PE X e te)(hs:oQ e none pos.line X.env=pure false:=by rfl):PS X (.Expr e pos) (abb te):=by intro ae s σ H D I h;exact wpAny_Expr_any (aU (he ae s σ H _ I h) λv s1⟨x,H1,I1,r1,q1⟩=>⟨σ,H1,I1,q1⟩) I.quiet hs
def abc(te:TE):TS:=λD σ H=>te σ H D.rt
theorem aK(he:PE X e te):PS X (.Return (some e) pos) (abc te):=by intro ae s σ H D I h;refine wpAny_Return_some (aU (he ae s σ H _ I h) λv s1 br=>?_);obtain⟨x,H1,I1,r1,q1⟩:=br;exact⟨x,σ,H1,I1,r1,q1⟩
def abd:TS:=λD _ H=>D.rt .non H
theorem abe:PS X (.Return none pos) abd:=λ_ _ σ H _ I h=>wpAny_Return_none ⟨.non,σ,H,I,rfl,h⟩
def abf(c:TT)(t u:TS):TS:=λD σ H=>c σ H λb H1=>if b=true then t D σ H1 else u D σ H1
theorem bo(hc:PT X c tc)(ha:iX X a t)(hb:iX X b u):PS X (.If c a b pos) (abf tc t u):=by intro ae s σ H D I h;refine wpAny_If (aU (hc ae s σ H _ I h) λd s1 br=>?_);obtain⟨H1,I1,q1⟩:=br;cases d with|true=>exact ha ae s1 σ H1 D I1 q1|false=>exact hb ae s1 σ H1 D I1 q1
end
abbrev TG:=V->St->Hp->(St->Hp->Prop)->Prop
abbrev sQ:=List V->St->Hp->(St->Hp->Prop)->Prop
def PG(X:Cx)(target:a_)(t:TG):Prop:=∀(ae:List (af×bx))(s:aA)(σ:St)(H:Hp)(v:V)(u:ag)(Q:St->Hp->Prop),Inv X ae σ H s->RelV v u->t v σ H Q->aH (aO X.prog X.w) X.A (assign target X.env u) (λ_ s'=>∃σ' H',Inv X ae σ' H' s'/\Q σ' H') X.xe s
def yh(X:Cx)(ts:List a_)(t:sQ):Prop:=∀(ae:List (af×bx))(s:aA)(σ:St)(H:Hp)(vs:List V)(us:List ag)(Q:St->Hp->Prop),Inv X ae σ H s->Vals vs us->t vs σ H Q->aH (aO X.prog X.w) X.A (assignInOrder ((ka ts X.env).map (·.2)) us) (λ_ s'=>∃σ' H',Inv X ae σ' H' s'/\Q σ' H') X.xe s
section
variable{X:Cx}{pos:dG}
def qI(i:Nat):TG:=λv σ H Q=>Q (σ.set i (some v)) H
theorem abg{i:Nat}(hN:X.N.Nodup)(hi:X.N[i]? =some x)(hx:Loc X.env.scope x)(hf:X.fn x=true∨X.env.scope.names.lookup x=some .local:=by first|exact .inl rfl|exact .inr rfl|assumption):PG X (.Name x pos) (qI i):=by intro ae s σ H v u Q I r h;exact O6 (Qv I hN hi hx r (λs' I'=>⟨_,H,I',h⟩) hf)
def QC:sQ:=λvs σ H Q=>vs=[]/\Q σ H
inductive GH(t:TG)(u:sQ)(vs:List V)(σ:St)(H:Hp)(Q:St->Hp->Prop):Prop|mk v r (z:vs=v::r) (z:t v σ H λσ' H'=>u r σ' H' Q)
theorem abh:yh X [] QC:=by intro ae s σ H vs us Q I r h;obtain⟨e,h⟩:=h;subst e;cases r;exact assignInOrder_nil ⟨σ,H,I,h⟩
theorem QD{u:sQ}(h1:PG X e t)(h2:yh X es u) (hs:(ka (e::es) X.env).map (·.2)=assign e X.env::(ka es X.env).map (·.2):=by rfl):yh X (e::es) (GH t u):=by
 intro ae s σ H vs us Q I r h;obtain⟨v,vr,e1,h⟩:=h;subst e1;cases r with|cons r rr=>rw[hs];refine assignInOrder_cons (aU (h1 ae s σ H _ _ _ I r h) λ_ s1 br=>?_);obtain⟨σ1,H1,I1,q1⟩:=br;exact h2 ae s1 σ1 H1 _ _ Q I1 rr q1
inductive GJ(K:aG)(n:Nat)(t:sQ)(v:V)(σ:St)(H:Hp)(Q:St->Hp->Prop):Prop|mk a xs (z:v=.ref a) (z:cW K H a xs) (z:xs.length=n) (z:t xs σ H Q)
theorem abi{k:Nat}{t:sQ}{n:Nat}(hc:X.calm=true)(h:yh X es t) (hn:(ka es X.env).length=n:=by rfl)(eQ:(ka es X.env).findIdx? (·.1)=none:=by rfl):PG X (.Tuple es k pos) (GJ X.K n t):=by
 intro ae s σ H v u Q I r hw;obtain⟨a,xs,e1,hq,hl,hw⟩:=hw;subst e1;cases r;obtain⟨its,rv,ht,hz⟩:=I.tuple hq;refine assign_Tuple_tuple (I.ok.hd hc) ht (by simp[hn,<-hl,rv.length]) eQ λh' hx=>?_;have I1:Inv X ae σ H {s with heap:=h'}:=I.kept (t':=s.toks) λb o e=>hx b o (eA (cB e)) e;exact h ae _ σ H xs _ Q I1 (by simpa using rv) hw
def yi(te:TE)(g:TG):TS:=λD σ H=>te σ H λx H1=>g x σ H1 D.nx
theorem abj{i:Nat}(hN:X.N.Nodup)(hi:X.N[i]? =some x)(hx:Loc X.env.scope x)(he:PE X e te)(hs:oQ e (some (.Name x pos')) pos.line X.env=pure false:=by rfl)(hf:X.fn x=true∨X.env.scope.names.lookup x=some .local:=by first|exact .inl rfl|exact .inr rfl|assumption):PS X (.Assign [.Name x pos'] e pos) (yi te (qI i)):=by
 intro ae s σ H D I h;refine wpAny_Assign_Name (aU (he ae s σ H _ I h) λv s1⟨y,H1,I1,r1,q1⟩=>?_) hs;exact Qv I1 hN hi hx r1 (λs2 I2=>⟨_,H1,I2,q1⟩) hf
end
section
variable{X:Cx}{pos:dG}
def abk(c:TT)(tb:TS):TS:=λD σ H=>∃W:Nat->St->Hp->Prop,(∃m,W m σ H)/\∀m σ H,W m σ H->c σ H λb H1=>if b=true then∃N:St->Hp->Prop,(∀σ' H',N σ' H'->∃m',m'<m/\W m' σ' H')/\tb {D with nx:=N,ct:=N,bk:=D.nx} σ H1 else D.nx σ H1
theorem BE(hp:F9 (aO X.prog X.w) X.A X.env X.xe)(hc:PT X c tc)(hb:iX X body tb):PS X (.While c body [] pos) (abk tc tb):=by intro ae s σ H D I h;obtain⟨W,⟨m0,w0⟩,turn⟩:=h;refine wpAny_While (codeAny_whileLoop (λn s'=>∃σ' H',Inv X ae σ' H' s'/\W n σ' H') ?_ m0 ⟨σ,H,I,w0⟩);rintro n s1 ⟨σ1,H1,I1,w1⟩;refine sy hp (aU (hc ae s1 σ1 H1 _ I1 (turn n σ1 H1 w1)) λb s2 br=>?_);obtain⟨H2,I2,q2⟩:=br;cases b with
 |true=>obtain⟨N,hN,q2⟩:=q2;rw[aj rfl];refine sy hp (aU (hb ae s2 σ1 H2 _ I2 q2) λf s3 q3=>?_);cases f with
  |next=>obtain⟨σ3,H3,I3,n3⟩:=q3;obtain⟨m',hm,w3⟩:=hN σ3 H3 n3;exact⟨m',hm,σ3,H3,I3,w3⟩|cont=>obtain⟨σ3,H3,I3,n3⟩:=q3;obtain⟨m',hm,w3⟩:=hN σ3 H3 n3;exact⟨m',hm,σ3,H3,I3,w3⟩|brk=>exact q3|ret v=>exact q3
 |false=>rw[ah fR];exact A7 ⟨σ1,H2,I2,q2⟩
end
structure It where
 go:Nat->Hp->Prop
 o5:Nat->Hp->V->Hp->Prop
 stop:Nat->Hp->Prop
def lr(X:Cx)(ae:List (af×bx))(H:Hp)(b:af):Prop:=H b=none/\b≠X.env.locals/\b∉X.fs/\(b∈X.ex∨X.gC.heap.objs.size<=b)/\(∀x c,X.env.cells.lookup x=some c->c≠b)/\∀p∈X.pn++ae,p.1≠b
theorem Inv.vc{σ:St}(I:Inv X ae σ H s)(hb:s.heap.objs.size<=b)(hn:H' b=none):lr X ae H' b:=by
 refine⟨hn,sk (fI I.lt hb),I.aaS hb,.inr (aZ I.sz hb),λx c e z=>?_,λp hp z=>?_⟩
 ·obtain⟨v,q⟩:=I.cell x c e
  exact absurd (fI q.lt (by rw[z];exact hb)) (ma _)
 ·exact absurd (fI (cB (I.pin p hp).1) (by rw[z];exact hb)) (ma _)
structure Turn(P:bR)(w:bI)(K:aG)(tg:a_)(J:It)(fp:List af)(it:af)(tn:Nat->bg->Prop):Prop where
 mem:it∈fp
 obj:∀i h,tn i h->∀b∈fp,∃o,h.get? b=some o/\∀v,o.data≠.cell v
 keep:∀i h h',tn i h->(∀b∈fp,∀o,h.get? b=some o->h'.get? b=some o)->tn i h'
 item:∀(X:Cx),X.prog=P->X.w=w->X.K=K->X.calm=true->∀(i:Nat)(ae:List (af×bx))(s:aA)(σ:St)(H:Hp)(E:ag->aA->Prop),Inv X ae σ H s->(∀b∈fp,lr X ae H b)->tn i s.heap->J.go i H->aH (aO P w) X.A (mf (.ref it)) (λr s1=>∃u,r=some u/\aH (aO P w) X.A (A8 tg (.ref it) u) (λ_ s2=>∃x H',Inv X ae σ H' s2/\RelV x u/\J.o5 i H x H'/\tn (i+1) s2.heap/\∀b∈fp,H' b=none) E s1) E s
 done:∀(X:Cx),X.prog=P->X.w=w->X.K=K->X.calm=true->∀(i:Nat)(ae:List (af×bx))(s:aA)(σ:St)(H:Hp)(E:ag->aA->Prop),Inv X ae σ H s->(∀b∈fp,lr X ae H b)->tn i s.heap->J.stop i H->aH (aO P w) X.A (mf (.ref it)) (λr s1=>r=none/\Inv X ae σ H s1) E s
 self:∀(A:dF)(i:Nat)(s:aA)(Q:ag->aA->Prop)(E:ag->aA->Prop),tn i s.heap->Q (.ref it) s->aH (aO P w) A (pyIter (.ref it)) Q E s
abbrev TI:=St->Hp->(It->Hp->Prop)->Prop
def BF(X:Cx)(ae:List (af×bx))(σ:St)(tg:a_)(R:It->Hp->Prop)(GK:ag)(s2:aA):Prop:=∃(it:af)(fp:List af)(tn:Nat->bg->Prop)(J:It)(H':Hp),GK=.ref it/\Inv X ae σ H' s2/\Turn X.prog X.w X.K tg J fp it tn/\tn 0 s2.heap/\(∀b∈fp,lr X ae H' b)/\R J H'
def PI(X:Cx)(tg iter:a_)(wi:TI):Prop:=∀(ae:List (af×bx))(s:aA)(σ:St)(H:Hp)(R:It->Hp->Prop),Inv X ae σ H s->wi σ H R->aH (aO X.prog X.w) X.A (eval iter X.env) (λv s1=>aH (aO X.prog X.w) X.A (pyIter v) (BF X ae σ tg R) X.xe s1) X.xe s
theorem vd{M:uW}{n:String}{Q:Unit->aA->Prop}(ho:s.heap.get? it=some o)(hc:o.cls=.type n)(hd:o.data=.fields vs) (hn:["enumerate","zip","dict_itemiterator","dict_reverseitemiterator","odict_iterator","itertools.zip_longest","itertools.pairwise"].contains n=false)(hQ:Q () s):aH M A (A8 tg (.ref it) u) Q E s:=by
 unfold A8
 cases tg<;>first
  |exact bN hQ|(cases u<;>first
    |exact bN hQ
    |(refine aI (wpAny_load ho ?_)
      rw[hc,hd];show aH M A (if(["enumerate","zip","dict_itemiterator","dict_reverseitemiterator","odict_iterator","itertools.zip_longest","itertools.pairwise"].contains n&&vs[0]? ==some (gA _))=true then _ else _) Q E s;rw[ah (by intro h;rw[hn,E4]at h;cases h)];exact bN hQ))
def GL(K:aG)(a:af):It:=⟨λi H=>∃xs x,aE K H a xs/\xs[i]? =some x,λi H x H'=>H'=H/\∀xs,aE K H a xs->xs[i]? =some x,λi H=>∃xs,aE K H a xs/\xs.length<=i⟩
def Itr(lo:Int)(n:Nat):It:=⟨λi _=>i<n,λi H x H'=>H'=H/\x=.int (lo+i),λi _=>n<=i⟩
theorem abl{P:bR}{w:bI}{K:aG}{tg:a_}(a it:af):Turn P w K tg (GL K a) [it] it (λi h=>h.IsListIter it a i)where
 mem:=by simp
 obj:=λi h st b hb=>by
  have e:b=it:=by simpa using hb
  subst e;obtain⟨o,e,c,d⟩:=st;exact⟨o,e,λv z=>by rw[d]at z;cases z⟩
 keep:=λi h h' st k=>st.at λo e=>k it (by simp) o e
 item:=by intro X hP hw hK hc i ae s σ H E I hf st hg;subst hP hw hK;obtain⟨xs,x,hq,hx⟩:=hg;obtain⟨its,rv,p,hz⟩:=I.list hq;obtain⟨u,hu,ru⟩:=rv.get hx;obtain⟨f0,f1,f2,f3,f4,f5⟩:=hf it (by simp);refine wpAny_pyNext_list_item st p.isList (x:=u) (by simpa using hu) λh' fU sb=>?_;have I1:Inv X ae σ H {s with heap:=h'}:=I.turned (t':=s.toks) (λb o hb e=>(sb.2 b hb).trans e) f0 f1 f3 f4 f5;obtain⟨o,e,c,d⟩:=id fU;exact⟨u,rfl,vd (s:={s with heap:=h'}) e c d (by decide) ⟨x,H,I1,ru,⟨rfl,λys hy=>by rw[I.yg hy hq];exact hx⟩,fU,λb hb=>(hf b hb).1⟩⟩
 done:=by intro X hP hw hK hc i ae s σ H E I hf st hg;subst hP hw hK;obtain⟨xs,hq,hx⟩:=hg;obtain⟨its,rv,p,hz⟩:=I.list hq;obtain⟨f0,f1,f2,f3,f4,f5⟩:=hf it (by simp);have hl:=rv.length;exact wpAny_pyNext_list_end (I.ok.hd hc) st p.isList (by simp;lia) λh' eb=>⟨rfl,I.turned (t':=s.toks) (λb o hb e=>eb b o hb e) f0 f1 f3 f4 f5⟩
 self:=λ_ _ _ _ _ st h=>wpAny_pyIter_listiter st h
theorem aj7{P:bR}{w:bI}{K:aG}{tg:a_}(it:af)(lo:Int)(n:Nat):Turn P w K tg (Itr lo n) [it] it (λi h=>F4 h it (lo+(i:Nat)*1) ((n:Int)-(i:Nat)) 1)where
 mem:=by simp
 obj:=λi h st b hb=>by
  have e:b=it:=by simpa using hb
  subst e;exact⟨_,st,λv z=>by have z':Data.fields _=Data.cell v:=z;cases z'⟩
 keep:=λi h h' st k=>k it (by simp) _ st
 item:=by intro X hP hw hK hc i ae s σ H E I hf st hg;subst hP hw hK;obtain⟨f0,f1,f2,f3,f4,f5⟩:=hf it (by simp);have W:=Walks.range (prog:=X.prog) (w:=X.w) (I.ok.hd hc) it lo 1 n;refine W.item i s _ _ hg st λv h' tk hv fU kk=>?_;obtain⟨t,rfl⟩:=hv;have I1:Inv X ae σ H {s with heap:=h',toks:=tk}:=I.turned (λb o hb e=>kk b o (by simpa using hb) e) f0 f1 f3 f4 f5;refine⟨_,rfl,vd (s:={s with heap:=h',toks:=tk}) (n:="range_iterator") fU rfl rfl (by decide) ⟨.int (lo+i),H,I1,⟨t,?_⟩,⟨rfl,rfl⟩,fU,λb hb=>(hf b hb).1⟩⟩;rw[Int.mul_one]
 done:=by intro X hP hw hK hc i ae s σ H E I hf st hg;subst hP hw hK;obtain⟨f0,f1,f2,f3,f4,f5⟩:=hf it (by simp);exact O1 (I.ok.hd hc) st (by have:n<=i:=hg;lia) λh' eb=>⟨rfl,I.turned (t':=s.toks) (λb o hb e=>eb b o hb e) f0 f1 f3 f4 f5⟩
 self:=λ_ _ _ _ _ st h=>O2 st h
section
variable{X:Cx}{tg:a_}
inductive LsI(K:aG)(x:V)(H:Hp)(R:It->Hp->Prop):Prop|mk a (z:x=.ref a) (z:∃xs,aE K H a xs) (z:R (GL K a) H)
def abm(K:aG)(tl:TE):TI:=λσ H R=>tl σ H λx H1=>LsI K x H1 R
theorem fV{l:a_}{tl:TE}(hl:PE X l tl):PI X tg l (abm X.K tl):=by
 intro ae s σ H R I h;refine aU (hl ae s σ H _ I h) λv s1 br=>?_;obtain⟨x,H1,I1,r1,q1⟩:=br;obtain⟨a,e,⟨xs,hq⟩,q⟩:=q1;subst e;cases r1;obtain⟨its,rv,p,hz⟩:=I1.list hq;refine FV p.isList ?_;refine⟨s1.heap.objs.size,[s1.heap.objs.size],_,_,H1,rfl,I1.kept (t':=s1.toks) λb o e=>cN _ e,abl a _,⟨_,eC _ rfl,rfl,rfl⟩,λb hb=>?_,q⟩;have e:b=s1.heap.objs.size:=by simpa using hb
 subst e;exact I1.vc (bM _) (I1.hok.fresh (bM _))
def QE(wi:TI)(g:TG)(tb:TS):TS:=λD σ H=>wi σ H λJ H1=>∃W:Nat->Nat->St->Hp->Prop,(∃m,W 0 m σ H1)/\∀i m σ H,W i m σ H->(J.stop i H/\D.nx σ H)∨(J.go i H/\∃N:St->Hp->Prop,(∀σ' H',N σ' H'->∃m',m'<m/\W (i+1) m' σ' H')/\∀x H',J.o5 i H x H'->g x σ H' λσ2 H2=>tb {D with nx:=N,ct:=N,bk:=D.nx} σ2 H2)
def yj(fp:List af)(h:bg):List (af×bx):=fp.filterMap λb=>(h.get? b).map λo=>(b,o)
theorem GO{fp:List af}(hb:b∈fp)(e:h.get? b=some o):(b,o)∈yj fp h:=xm.mpr ⟨b,hb,by rw[e];rfl⟩
theorem abn{fp:List af}{p:af×bx}(hp:p∈yj fp h):p.1∈fp/\h.get? p.1=some p.2:=by obtain⟨b,hb,e⟩:=xm.mp hp;cases q:h.get? b with|none=>rw[q]at e;cases e|some o=>rw[q]at e;have e':(b,o)=p:=cM.inj e;subst e';exact⟨hb,q⟩
theorem Inv.pinned{σ:St}{fp:List af}(I:Inv X ae σ H s)(hf:∀b∈fp,lr X ae H b)(ho:∀b∈fp,∃o,s.heap.get? b=some o/\∀v,o.data≠.cell v):Inv X (ae++yj fp s.heap) σ H s:=I.Qs λp hp=>(cu.mp hp).elim (λz=>I.pin p (j5 _ z)) λz=>by obtain⟨hb,e⟩:=abn z;obtain⟨f0,f1,f2,_⟩:=hf p.1 hb;obtain⟨o,e',d⟩:=ho p.1 hb;rw[e]at e';cases e';exact⟨e,f0,f1,f2,d⟩
theorem Inv.BG{σ:St}(I:Inv X (ae++pl) σ H s):Inv X ae σ H s:=I.Qs λp hp=>I.pin p (j5 _ (jx _ hp))
theorem abo(hp:F9 (aO X.prog X.w) X.A X.env X.xe)(hc:X.calm=true)(hi:PI X tg iter wi)(hg:PG X tg g)(hb:iX X body tb) (hs:∀x,sv iter X.env x=pure x:=by intro _;rfl):PS X (.For tg iter body [] pos) (QE wi g tb):=by
 intro ae s σ H D I h;refine wpAny_For (aU (hi ae s σ H _ I h) λv s1 h1=>aU h1 λGK s2 h2=>?_) hs;obtain⟨it,fp,tn,J,H2,e,I2,T,BH,f2,W,⟨m0,w0⟩,turn⟩:=h2;subst e
 have sR:∀{H':Hp},(∀b∈fp,H' b=none)->∀b∈fp,lr X ae H' b:=λhn b hb=>⟨hn b hb,(f2 b hb).2⟩
 refine codeAny_forLoop_any (λn s'=>∃i σ' H',Inv X ae σ' H' s'/\tn i s'.heap/\(∀b∈fp,H' b=none)/\W i n σ' H') ?_ m0 ⟨0,σ,H2,I2,BH,λb hb=>(f2 b hb).1,w0⟩;rintro n s3 ⟨i,σ3,H3,I3,BI,QF,w3⟩;rcases turn i n σ3 H3 w3 with⟨stop,qn⟩|⟨go,N,hN,step⟩
 ·refine sy hp (aU (T.done X rfl rfl rfl hc i ae s3 σ3 H3 X.xe I3 (sR QF) BI stop) λr s4 br=>?_);obtain⟨hr,I4⟩:=br
  subst hr;exact A7 ⟨σ3,H3,I4,qn⟩
 ·refine sy hp (aU (T.item X rfl rfl rfl hc i ae s3 σ3 H3 X.xe I3 (sR QF) BI go) λr s4 eE=>?_);obtain⟨u,hr,h4⟩:=eE
  subst hr;refine sy hp (aU h4 λ_ s5 yk=>?_);obtain⟨x,H5,I5,r5,y5,ve,fr5⟩:=yk;have I5':=I5.pinned (sR fr5) (T.obj _ _ ve);refine sy hp (aU (hg _ s5 σ3 H5 x u _ I5' r5 (step x H5 y5)) λ_ s6 GP=>?_);obtain⟨σ6,H6,I6,q6⟩:=GP;refine sy hp (aU (hb _ s6 σ6 H6 _ I6 q6) λf s7 q7=>?_);have again:∀{σ7:St}{H7:Hp},Inv X (ae++yj fp s5.heap) σ7 H7 s7->N σ7 H7->∃m,m<n/\∃i σ' H',Inv X ae σ' H' s7/\tn i s7.heap/\(∀b∈fp,H' b=none)/\W i m σ' H':=λ{σ7 H7}I7 n7=>by obtain⟨m',hm,w7⟩:=hN σ7 H7 n7;refine⟨m',hm,i+1,σ7,H7,I7.BG,T.keep _ _ _ ve λb hb o e=>(I7.pin (b,o) (j5 _ (j5 _ (GO hb e)))).1,λb hb=>?_,w7⟩;obtain⟨o,e,d⟩:=T.obj _ _ ve b hb;exact(I7.pin (b,o) (j5 _ (j5 _ (GO hb e)))).2.1
  cases f with
  |next=>obtain⟨σ7,H7,I7,n7⟩:=q7;exact again I7 n7|cont=>obtain⟨σ7,H7,I7,n7⟩:=q7;exact again I7 n7|brk=>obtain⟨σ7,H7,I7,q7⟩:=q7;exact⟨σ7,H7,I7.BG,q7⟩|ret v=>obtain⟨x7,σ7,H7,I7,r7,q7⟩:=q7;exact⟨x7,σ7,H7,I7.BG,r7,q7⟩
end
abbrev R2:=V->V->Hp->VK->Prop
def fW(X:Cx)(f:ag->ag->ie ag)(r:R2):Prop:=∀(ae:List (af×bx))(s:aA)(σ:St)(H:Hp)(x y:V)(v u:ag)(Q:VK),Inv X ae σ H s->RelV x v->RelV y u->r x y H Q->aH (aO X.prog X.w) X.A (f v u) (EP X ae σ Q) X.xe s
def GQ(X:Cx)(f:ag->ie ag)(r:V->Hp->VK->Prop):Prop:=∀(ae:List (af×bx))(s:aA)(σ:St)(H:Hp)(x:V)(v:ag)(Q:VK),Inv X ae σ H s->RelV x v->r x H Q->aH (aO X.prog X.w) X.A (f v) (EP X ae σ Q) X.xe s
def mz(X:Cx)(f:ag)(r:List V->Hp->VK->Prop):Prop:=∀(ae:List (af×bx))(s:aA)(σ:St)(H:Hp)(xs:List V)(us:List ag)(Q:VK),Inv X ae σ H s->Vals xs us->r xs H Q->aH (aO X.prog X.w) X.A (call f us) (EP X ae σ Q) X.xe s
def qJ(r:R2)(ta tb:TE):TE:=λσ H Q=>ta σ H λx H1=>tb σ H1 λy H2=>r x y H2 Q
def tUn(r:V->Hp->VK->Prop)(ta:TE):TE:=λσ H Q=>ta σ H λx H1=>r x H1 Q
inductive rI(C:Int->Int->Prop)(g:Int->Int->V)(x y:V)(H:Hp)(Q:VK):Prop|mk i j (z:x=.int i) (z:y=.int j) (z:C i j) (z:Q (g i j) H)
inductive qK(g:Int->Int->V)(x y:V)(H:Hp)(Q:VK):Prop|mk i j (z:x=.int i) (z:y=.int j) (z:Q (g i j) H)
inductive rU(g:Int->V)(x:V)(H:Hp)(Q:VK):Prop|mk i (z:x=.int i) (z:Q (g i) H)
section
variable{X:Cx}{a b c:a_}{ta tb tc:TE}{pos:dG}
theorem GR(ha:PE X a ta)(hb:PE X b tb){σ:St}{R:V->V->Hp->Prop}(I:Inv X ae σ H s) (h:ta σ H λx H1=>tb σ H1 λy H2=>R x y H2){f:ag->ag->ie ag}
  (hf:∀v u s2 x y H2,Inv X ae σ H2 s2->RelV x v->RelV y u->R x y H2->aH (aO X.prog X.w) X.A (f v u) Q X.xe s2):
  aH (aO X.prog X.w) X.A (eval a X.env) (λv s₁=>aH (aO X.prog X.w) X.A (eval b X.env) (λu s₂=>aH (aO X.prog X.w) X.A (f v u) Q X.xe s₂) X.xe s₁) X.xe s:=by
 refine aU (ha ae s σ H _ I h) λv s1 br=>?_;obtain⟨x,H1,I1,r1,q1⟩:=br;refine aU (hb ae s1 σ H1 _ I1 q1) λu s2 eE=>?_;obtain⟨y,H2,I2,r2,q2⟩:=eE;exact hf v u s2 x y H2 I2 r1 r2 q2
theorem fg{op:Operator}{r:R2}(ho:fW X (xM op) r)(ha:PE X a ta)(hb:PE X b tb):PE X (.BinOp a op b pos) (qJ r ta tb):=by intro ae s σ H Q I h;exact wpAny_BinOp (GR ha hb I h λv u s2 x y H2 I2 rx ry q=>ho ae s2 σ H2 x y v u Q I2 rx ry q)
theorem GS{op:UnaryOp}{r:V->Hp->VK->Prop}(ho:GQ X (unaryOp op) r)(ha:PE X a ta):PE X (.UnaryOp op a pos) (tUn r ta):=by intro ae s σ H Q I h;refine UnaryOp_ (aU (ha ae s σ H _ I h) λv s1 br=>?_);obtain⟨x,H1,I1,r1,q1⟩:=br;exact ho ae s1 σ H1 x v Q I1 r1 q1
theorem opI{f:ag->ag->ie ag}{C:Int->Int->Prop}{g:Int->Int->Int} (rule:∀(i j:Int)(t u:jB)(s:aA)(Q:ag->aA->Prop)(E:ag->aA->Prop),C i j->Q (.int (g i j) s.toks) {s with toks:=s.toks+1}->aH (aO X.prog X.w) X.A (f (.int i t) (.int j u)) Q E s):
  fW X f (rI C λi j=>.int (g i j)):=by
 intro ae s σ H x y v u Q I rx ry h;obtain⟨i,j,rfl,rfl,hc,q⟩:=h;obtain⟨t,rfl⟩:=rx;obtain⟨t',rfl⟩:=ry;exact rule i j t t' s _ _ hc ⟨.int (g i j),H,I.tok _,⟨_,rfl⟩,q⟩
theorem QG{f:ag->ag->ie ag}{g:Int->Int->Int} (rule:∀(i j:Int)(t u:jB)(s:aA)(Q:ag->aA->Prop)(E:ag->aA->Prop),Q (.int (g i j) s.toks) {s with toks:=s.toks+1}->aH (aO X.prog X.w) X.A (f (.int i t) (.int j u)) Q E s):
  fW X f (qK λi j=>.int (g i j)):=by
 intro ae s σ H x y v u Q I rx ry h;obtain⟨i,j,rfl,rfl,q⟩:=h;obtain⟨t,rfl⟩:=rx;obtain⟨t',rfl⟩:=ry;exact rule i j t t' s _ _ ⟨.int (g i j),H,I.tok _,⟨_,rfl⟩,q⟩
theorem BJ{f:ag->ag->ie ag}{g:Int->Int->Bool} (rule:∀(i j:Int)(t u:jB)(s:aA)(Q:ag->aA->Prop)(E:ag->aA->Prop),Q (.bool (g i j)) s->aH (aO X.prog X.w) X.A (f (.int i t) (.int j u)) Q E s):
  fW X f (qK λi j=>.bl (g i j)):=by
 intro ae s σ H x y v u Q I rx ry h;obtain⟨i,j,rfl,rfl,q⟩:=h;obtain⟨t,rfl⟩:=rx;obtain⟨t',rfl⟩:=ry;exact rule i j t t' s _ _ ⟨.bl (g i j),H,I,rfl,q⟩
theorem iC:fW X (xM .Add) (qK λi j=>.int (i+j)):=QG λ_ _ _ _ _ _ _ q=>add_int q
theorem vf:fW X (xM .Sub) (qK λi j=>.int (i-j)):=QG λ_ _ _ _ _ _ _ q=>sub_int q
theorem QH:fW X (xM .Mod) (rI (λ_ j=>0<j) λi j=>.int (i%j)):=opI λi j _ _ _ _ _ hc q=>by have h1:(0:Int)<j:=hc;exact mod_int' (by lia) (by rw[Int.fmod_eq_emod_of_nonneg i (by lia)];exact q)
theorem unI{f:ag->ie ag}{g:Int->Int} (rule:∀(i:Int)(t:jB)(s:aA)(Q:ag->aA->Prop)(E:ag->aA->Prop),Q (.int (g i) s.toks) {s with toks:=s.toks+1}->aH (aO X.prog X.w) X.A (f (.int i t)) Q E s):
  GQ X f (rU λi=>.int (g i)):=by
 intro ae s σ H x v Q I rx h;obtain⟨i,rfl,q⟩:=h;obtain⟨t,rfl⟩:=rx;exact rule i t s _ _ ⟨.int (g i),H,I.tok _,⟨_,rfl⟩,q⟩
theorem GU:GQ X (unaryOp .USub) (rU λi=>.int (-i)):=unI λ_ _ _ _ _ q=>neg_int q
end
def QI:V->V->Bool|.non,.non=>true|.non,.int _=>true|.int _,.non=>true|.non,.bl _=>true|.bl _,.non=>true|.non,.str _=>true|.str _,.non=>true|.int _,.int _=>true|.bl _,.bl _=>true|.str _,.str _=>true|.ij _,.ij _=>true|.int _,.str _=>true|.str _,.int _=>true|.bl _,.str _=>true|.str _,.bl _=>true|_,_=>false
def rEq:R2:=λx y H Q=>QI x y=true/\Q (.bl (decide (x=y))) H
def rNe:R2:=λx y H Q=>QI x y=true/\Q (.bl (!decide (x=y))) H
theorem QJ{i j:Int}:decide (V.int i=V.int j)=(i==j):=by rw[xg];simp
theorem QK{i j:Bool}:decide (V.bl i=V.bl j)=(i==j):=by rw[xg];simp
theorem QL:decide (V.str i=V.str j)=(i==j):=by rw[xg];simp
theorem QM{i j:Array UInt8}:decide (V.ij i=V.ij j)=(i.toList==j.toList):=by rw[xg];cases i;cases j;simp
section
variable{X:Cx}{a b c:a_}{ta tb tc:TE}{pos:dG}
theorem eR{σ:St}{k k':Bool}(I:Inv X ae σ H s)(q:Q (.bl k) H)(e:k=k'):EP X ae σ Q (.bool k') s:=by subst e;exact⟨.bl k,H,I,rfl,q⟩
theorem mB:fW X (gz .Eq) rEq:=by intro ae s σ H x y v u Q I rx ry h;obtain⟨hs,q⟩:=h;cases x with
 |non=>cases rx;cases y with
  |non=>cases ry;exact aap (eR I q (by simp))|bl j=>cases ry;exact aaq (eR I q (by simp))|int j=>obtain⟨t',rfl⟩:=ry;exact aav (eR I q (by simp))|str j=>obtain⟨t',rfl⟩:=ry;exact aaw (eR I q (by simp))|_=>exact absurd (show false=true from hs) fR
 |bl i=>cases rx;cases y with
  |non=>cases ry;exact aar (eR I q (by simp))|bl j=>cases ry;exact eq_bool (eR I q QK)|str j=>obtain⟨t',rfl⟩:=ry;exact aah (eR I q (by simp))|_=>exact absurd (show false=true from hs) fR
 |int i=>obtain⟨t,rfl⟩:=rx;cases y with
  |non=>cases ry;exact aax (eR I q (by simp))|int j=>obtain⟨t',rfl⟩:=ry;exact eq_int (eR I q QJ)|str j=>obtain⟨t',rfl⟩:=ry;exact aal (eR I q (by simp))|_=>exact absurd (show false=true from hs) fR
 |str i=>obtain⟨t,rfl⟩:=rx;cases y with
  |non=>cases ry;exact aay (eR I q (by simp))|bl j=>cases ry;exact aai (eR I q (by simp))|int j=>obtain⟨t',rfl⟩:=ry;exact aam (eR I q (by simp))|str j=>obtain⟨t',rfl⟩:=ry;exact eq_str (eR I q QL)|_=>exact absurd (show false=true from hs) fR
 |ij i=>obtain⟨t,rfl⟩:=rx;cases y with
  |ij j=>obtain⟨t',rfl⟩:=ry;exact PySem.W.eq_bytes (eR I q QM)|_=>exact absurd (show false=true from hs) fR
 |_=>cases y<;>exact absurd (show false=true from hs) fR
theorem vg:fW X (gz .NotEq) rNe:=by intro ae s σ H x y v u Q I rx ry h;obtain⟨hs,q⟩:=h;cases x with
 |non=>cases rx;cases y with
  |non=>cases ry;exact aas (eR I q (by simp))|bl j=>cases ry;exact aat (eR I q (by simp))|int j=>obtain⟨t',rfl⟩:=ry;exact aaz (eR I q (by simp))|str j=>obtain⟨t',rfl⟩:=ry;exact aaA (eR I q (by simp))|_=>exact absurd (show false=true from hs) fR
 |bl i=>cases rx;cases y with
  |non=>cases ry;exact aau (eR I q (by simp))|bl j=>cases ry;exact ne_bool (eR I q (eW not QK))|str j=>obtain⟨t',rfl⟩:=ry;exact aaj (eR I q (by simp))|_=>exact absurd (show false=true from hs) fR
 |int i=>obtain⟨t,rfl⟩:=rx;cases y with
  |non=>cases ry;exact aaB (eR I q (by simp))|int j=>obtain⟨t',rfl⟩:=ry;exact ne_int (eR I q (eW not QJ))|str j=>obtain⟨t',rfl⟩:=ry;exact aan (eR I q (by simp))|_=>exact absurd (show false=true from hs) fR
 |str i=>obtain⟨t,rfl⟩:=rx;cases y with
  |non=>cases ry;exact aaC (eR I q (by simp))|bl j=>cases ry;exact aak (eR I q (by simp))|int j=>obtain⟨t',rfl⟩:=ry;exact aao (eR I q (by simp))|str j=>obtain⟨t',rfl⟩:=ry;exact ne_str (eR I q (eW not QL))|_=>exact absurd (show false=true from hs) fR
 |ij i=>obtain⟨t,rfl⟩:=rx;cases y with
  |ij j=>obtain⟨t',rfl⟩:=ry;exact PySem.W.ne_bytes (eR I q (eW not QM))|_=>exact absurd (show false=true from hs) fR
 |_=>cases y<;>exact absurd (show false=true from hs) fR
theorem qL:fW X (gz .Lt) (qK λi j=>.bl (decide (i<j))):=BJ λ_ _ _ _ _ _ _ q=>lt_int q
theorem jK:fW X (gz .LtE) (qK λi j=>.bl (decide (i<=j))):=BJ λ_ _ _ _ _ _ _ q=>le_int q
theorem BK:fW X (gz .Gt) (qK λi j=>.bl (decide (j<i))):=BJ λ_ _ _ _ _ _ _ q=>gt_int q
theorem ym:fW X (gz .GtE) (qK λi j=>.bl (decide (j<=i))):=BJ λ_ _ _ _ _ _ _ q=>ge_int q
theorem QN(b:a_){op:oS}(h:op≠.In:=by decide)(h2:op≠.NotIn:=by decide):nF op b=false:=by
 have e1:(op==CmpOp.In)=false:=by cases op<;>first|rfl|exact absurd rfl h
 have e2:(op==CmpOp.NotIn)=false:=by cases op<;>first|rfl|exact absurd rfl h2
 cases b<;>simp[nF,e1,e2]
theorem abp{op:oS}{r:R2}(ho:fW X (gz op) r)(ha:PE X a ta)(hb:PE X b tb)(hm:nF op b=false):PE X (.Compare a [op] [b] pos) (qJ r ta tb):=by intro ae s σ H Q I h;exact Pc (GR ha hb I h λv u s2 x y H2 I2 rx ry q=>ho ae s2 σ H2 x y v u Q I2 rx ry q) hm
def GV(t:TE):TT:=λσ H Q=>t σ H λx H'=>kg x H' Q
theorem abq{op:oS}{r:R2}(ho:fW X (gz op) r)(ha:PE X a ta)(hb:PE X b tb)(hm:nF op b=false):PT X (.Compare a [op] [b] pos) (GV (qJ r ta tb)):=by
 intro ae s σ H Q I h
 refine O3 (aU (ha ae s σ H _ I h) λv s1⟨x,H1,I1,r1,q1⟩=>aU (hb ae s1 σ H1 _ I1 q1) λu s2⟨y,H2,I2,r2,q2⟩=>aU (ho ae s2 σ H2 x y v u _ I2 r1 r2 q2) λc s3⟨z,H3,I3,r3,k,e,q3⟩=>?_) hm
 subst e;cases r3;exact nE ⟨H3,I3,q3⟩
def QO(r r':R2)(ta tb tc:TE):TE:=λσ H Q=>ta σ H λx H1=>tb σ H1 λy H2=>r x y H2 λz H3=>∃k,z=.bl k/\(if k=true then tc σ H3 λw' H4=>r' y w' H4 Q else Q (.bl false) H3)
theorem abr{op sT:oS}{r r':R2}(ho:fW X (gz op) r)(jH:fW X (gz sT) r')(ha:PE X a ta)(hb:PE X b tb)(hc:PE X c tc) (hm:lastMarks [op,sT] [b,c]=false:=by with_unfolding_all rfl):PE X (.Compare a [op,sT] [b,c] pos) (QO r r' ta tb tc):=by
 intro ae s σ H Q I h
 refine Compare_chain (aU (ha ae s σ H _ I h) λv s1⟨x,H1,I1,r1,q1⟩=>chain_link (aU (hb ae s1 σ H1 _ I1 q1) λu s2⟨y,H2,I2,r2,q2⟩=>aU (ho ae s2 σ H2 x y v u _ I2 r1 r2 q2) λd s3⟨z,H3,I3,r3,k,e,q3⟩=>?_)) hm
 subst e;cases r3;refine nE ?_;cases k with|false=>exact ite_ff ⟨.bl false,H3,I3,rfl,q3⟩|true=>exact ite_tt (chain_last (aU (hc ae s3 σ H3 _ I3 q3) λw' s4⟨z',H4,I4,r4,q4⟩=>jH ae s4 σ H4 y z' u w' Q I4 r2 r4 q4))
theorem abt{op sT:oS}{r r':R2}(ho:fW X (gz op) r)(jH:fW X (gz sT) r')(ha:PE X a ta)(hb:PE X b tb)(hc:PE X c tc) (hm:lastMarks [op,sT] [b,c]=false:=by with_unfolding_all rfl):PT X (.Compare a [op,sT] [b,c] pos) (GV (QO r r' ta tb tc)):=by
 intro ae s σ H Q I h
 refine isTrue_chain (aU (ha ae s σ H _ I h) λv s1⟨x,H1,I1,r1,q1⟩=>test_link (aU (hb ae s1 σ H1 _ I1 q1) λu s2⟨y,H2,I2,r2,q2⟩=>aU (ho ae s2 σ H2 x y v u _ I2 r1 r2 q2) λd s3⟨z,H3,I3,r3,k,e,q3⟩=>?_)) hm
 subst e;cases r3;refine nE ?_;cases k with|false=>obtain⟨k',e',q'⟩:=q3;cases e';exact ite_ff ⟨H3,I3,q'⟩|true=>refine ite_tt (test_last (aU (hc ae s3 σ H3 _ I3 q3) λw' s4 br=>?_));obtain⟨z',H4,I4,r4,q4⟩:=br;refine aU (jH ae s4 σ H4 y z' u w' _ I4 r2 r4 q4) λd' s5 eE=>?_;obtain⟨z2,H5,I5,r5,k2,e2,q5⟩:=eE;subst e2;cases r5;exact nE ⟨H5,I5,q5⟩
theorem GW:(aS:Nat)<2 ^ 63:=by rw[F5];decide
theorem vals1(r:Vals [x] us):∃u,us=[u]/\RelV x u:=by cases r with|cons r1 r2=>cases r2;exact⟨_,rfl,r1⟩
theorem vals2(r:Vals [x,y] us):∃u w',us=[u,w']/\RelV x u/\RelV y w':=by cases r with|cons r1 r2=>cases r2 with|cons r3 r4=>cases r4;exact⟨_,_,rfl,r1,r3⟩
theorem GX(hc:X.calm=true):mz X (.builtin "max") (λxs H Q=>∃i j,xs=[.int i,.int j]/\Q (.int (if j>i then j else i)) H):=by
 intro ae s σ H xs us Q I r h;obtain⟨i,j,rfl,q⟩:=h;obtain⟨u,w',rfl,⟨t,rfl⟩,⟨t',rfl⟩⟩:=vals2 r;refine max_two_ints (I.ok.hd hc) λh' tk k=>⟨_,H,I.kept k,?_,q⟩
 by_cases hj:j>i
 ·rw[aj hj,aj hj];exact⟨_,rfl⟩
 ·rw[ah hj,ah hj];exact⟨_,rfl⟩
end
structure sU(h:bg)(x dx C:af)(mA:ai->Option ag):Prop where
 obj:h.get? x=some (qw C dx)
 ns:h.Ns1 dx mA
 ne:dx≠x
theorem abu{h:bg}{dx:af}{mA:ai->Option ag}(n:h.Ns1 dx mA):∃od,h.get? dx=some od/\∀name,Bq name od=some (mA name):=by
 obtain⟨o,es,ep,ho,hd,hk,_,hm⟩:=n;refine⟨o,ho,λname=>?_⟩;have e:=hm name;unfold nsFind findBy at e;rw[<-Array.find?_toList]at e;unfold Bq;rw[hd];dsimp only;split
 ·rename_i y q
  rw[q]at e;exact eW some e
 ·rename_i q
  rw[q]at e;have a:es.toList.any (·.refKey)=false:=by rw[List.any_eq_false];intro y hy;obtain⟨z,t,mC⟩:=hk y (Array.mem_toList_iff.mp hy);simp[DictEntry.refKey,mC]
  have a':¬es.toList.any (·.refKey)=true:=by rw[a];exact fR
  rw[ah a'];exact eW some e
theorem sU.look(I:sU h x dx C mA):∃od,PySem.W.InstAt h x (qw C dx) C (some od)/\∀name,Bq name od=some (mA name):=let⟨od,ho,hl⟩:=abu I.ns
 ⟨od,⟨I.obj,rfl,rfl,ho⟩,hl⟩
section
variable{prog:bR}{w:bI}{A:dF}{E:ag->aA->Prop}{s:aA}{K:aG}{x dx C f:af}{mA:ai->Option ag}{name:ai}{v:ag}
theorem get_map{expr:Bool}(X:K.In s.heap)(I:sU s.heap x dx C mA)(hg:xU K C name=true)(hh:Bp K C=true) (ha:k9 K (.ref C) name=some none)(hv:mA name=some v)(qM:Qi v=true)(h:Q v {s with toks:=s.toks+1}):
  aH (aO prog w) A (getAttr (.ref x) name expr) Q E s:=by
 obtain⟨od,J,hl⟩:=I.look;exact PySem.W.get_value X J (Gi hg).1 (PySem.W.findObj_own hh ha rfl (by rw[hl,hv])) qM h
theorem abv{pl:ie Bool}{Q:ag×List ag->aA->Prop}(X:K.In s.heap)(I:sU s.heap x dx C mA)(hg:xU K C name=true) (hf:k9 K (.ref C) name=some (some (.ref f)))(ht:xV K (.ref f)=true)(hv:mA name=none)(h:Q (.ref f,[.ref x]) s):
  aH (aO prog w) A (sE (.ref x) name pl) Q E s:=by
 obtain⟨od,J,hl⟩:=I.look;exact PySem.W.method_fn X J (Gi hg).1 (Gi hg).2 hf (uI.mp ht) (by show(Bq name od).map (·.isSome)=some false;rw[hl,hv];rfl) h
theorem abw{Q:Unit->aA->Prop}(X:K.In s.heap)(I:sU s.heap x dx C mA) (hs:k9 K (.ref C) "__setattr__"=some (some (.builtin "object.__setattr__")))(hp:Gk K C=true)(ht:Gm K C name=some none)(hh:Bp K C=true)
  (hw:F3 mA ns)(hsz:ns.length<=aS)
  (h:∀h',sU h' x dx C (λy=>if y=name then some v else mA y)->uY dx s.heap h'->Q () {s with heap:=h',toks:=s.toks+2}):
  aH (aO prog w) A (setAttr (.ref x) name v) Q E s:=by
 obtain⟨od,J,hl⟩:=I.look;refine PySem.W.set_plain X J hs (PySem.W.osa_open (s:={s with toks:=s.toks+1}) (r:=none) X J hp ht λb=>?_);obtain⟨cd,hc,sO⟩:=PySem.W.any_some hh;have hx:s.heap.get? x=some ⟨.ref C,some dx,.plain,#[]⟩:=I.obj;refine aI (bN (aI (aI (wpAny_loadPart hx (aI (PySem.W.Looks.here (s:={s with toks:=s.toks+1}) (PySem.W.looks_clsIn X hc) ?_))))));rw[sO];refine bN (a:=some dx) (aI (bN (aI ?_)));refine wpAny_nsSet1 (s:={s with toks:=s.toks+1}) I.ns λh' sV BL=>?_;obtain⟨oD,esD,epD,hoD,hdD,hcD⟩:=sV.count (PySem.Within.cons name v hw);refine aI (wpAny_lookBehind hoD (by rw[hdD];exact pastItsLine_dict (aZ hcD (by rw[dJ];lia))) ?_);exact bN (h _ ⟨(BL.2 _ (Ne.symm I.ne)).trans I.obj,sV,I.ne⟩ BL)
theorem abx{R:Result->aA->Prop}{kw:List (ai×ag)}(X:K.In s.heap)(hm:Gn K C=true) (hi:k9 K (.ref C) "__init__"=some (some (.ref f)))(hf:PySem.W.typeIn K (.ref f)=some (.type "function"))
  (h:sG (aO prog w) (A.under (.builtin "type.__call__" ⟨.ref C::vs,kw⟩)) (.call (.ref f) ⟨.ref (s.heap.objs.size+1)::vs,kw⟩) (PySem.W.InitBack (s.heap.objs.size+1) R) {s with heap:=(s.heap.push oU).push (qw C s.heap.objs.size)}):
  sG (aO prog w) A (.call (.ref C) ⟨vs,kw⟩) R s:=by
 obtain⟨hh,g,d,t,os⟩:=s;exact PySem.W.make_core (PySem.W.makes_of X hm) (PySem.W.looks_findIn X hi) (λself=>PySem.W.bind_fn X self hf) (.inl rfl) h
end
def bO(f:ai)(v:V):List (ai×V)->List (ai×V)|[]=>[(f,v)]|(g,x)::r=>if g=f then(g,v)::r else(g,x)::bO f v r
theorem QP(f g:ai)(v:V):∀fs:List (ai×V),(bO f v fs).lookup g=if g=f then some v else fs.lookup g
 |[]=>by
  show j7 g [(f,v)]=_;by_cases h:g=f
  ·have hb:(g==f)=true:=uI.mpr h
   simp only[j7,hb,aj h]
  ·have hb:(g==f)=false:=uH.mpr h
   simp only[j7,hb,ah h]|(k,x)::r=>by
  have ih:=QP f g v r;rw[show bO f v ((k,x)::r)=(if k=f then(k,v)::r else(k,x)::bO f v r)from rfl];by_cases hk:k=f
  ·rw[aj hk]
   by_cases h:g=k
   ·have hb:(g==k)=true:=uI.mpr h
    simp only[j7,hb,aj (h.trans hk)]
   ·have hb:(g==k)=false:=uH.mpr h
    simp only[j7,hb,ah (λe:g=f=>h (e.trans hk.symm))]
  ·rw[ah hk]
   by_cases h:g=k
   ·have hb:(g==k)=true:=uI.mpr h
    simp only[j7,hb,ah (λe:g=f=>hk (h.symm.trans e))]
   ·have hb:(g==k)=false:=uH.mpr h
    simp only[j7,hb];exact ih
theorem GY(f:ai)(v:V):∀fs:List (ai×V),f∈(bO f v fs).map (·.1)/\∀g,g∈fs.map (·.1)->g∈(bO f v fs).map (·.1)
 |[]=>⟨by simp[bO],λg h=>by simp at h⟩|(k,x)::r=>by
  obtain⟨i1,i2⟩:=GY f v r;rw[show bO f v ((k,x)::r)=(if k=f then(k,v)::r else(k,x)::bO f v r)from rfl];by_cases hk:k=f
  ·rw[aj hk]
   subst hk;exact⟨by simp,λg h=>by simpa using h⟩
  ·rw[ah hk]
   refine⟨?_,λg h=>?_⟩
   ·rw[cV]
    exact b8 _ i1
   ·rw[cV]at h⊢
    rcases b9.mp h with e|e
    ·exact b9.mpr (.inl e)
    ·exact b8 _ (i2 g e)
theorem QQ(f:ai)(v:V):∀fs:List (ai×V),(bO f v fs).length<=fs.length+1
 |[]=>by simp[bO]|(k,x)::r=>by
  have ih:=QQ f v r;rw[show bO f v ((k,x)::r)=(if k=f then(k,v)::r else(k,x)::bO f v r)from rfl];by_cases hk:k=f
  ·rw[aj hk,dJ,dJ];lia
  ·rw[ah hk,dJ,dJ];lia
theorem gM.some_of{o:Option ag}(r:gM (some v) o):∃u,o=some u/\RelV v u:=by cases o with|none=>exact(show False from r).elim|some u=>exact⟨u,rfl,r⟩
theorem gM.none_of{o:Option ag}(r:gM none o):o=none:=by cases o with|none=>rfl|some u=>exact(show False from r).elim
theorem aby(r:RelV v u):Qi u=true:=by cases v with|non=>cases(show u=mh from r);rfl|bl b=>cases(show u=Bn b from r);rfl|int i=>obtain⟨t,e⟩:=(show∃t,u=sJ i t from r);cases e;rfl|str x=>obtain⟨t,e⟩:=(show∃t,u=xT x t from r);cases e;rfl|ij b=>obtain⟨t,e⟩:=(show∃t,u=P8 b t from r);cases e;rfl|flt b=>obtain⟨t,e⟩:=(show∃t,u=P9 b t from r);cases e;rfl|ref a=>cases(show u=dg a from r);rfl|ty n=>cases(show u=oT n from r);rfl
section
variable{P:bR}{w:bI}{H H':Hp}{h h':bg}{a C dx:af}{fs fs':List (ai×V)}
theorem GZ(hok:dR P w H h)(e:H a=some (.ins C dx fs)):∃mA,sU h a dx C mA/\(∀f,gM (fs.lookup f) (mA f))/\F3 mA (fs.map (·.1))/\fs.length<=1000/\H dx=some (.own a):=by obtain⟨d,z,ne,ob,mA,n,r,q⟩:=(show d3 P w H h a (.ins C dx fs)from hok a _ e);exact⟨mA,⟨ob,n,ne⟩,r,q,z,d⟩
end
structure gN(K:aG)(C:af):Prop where
 pg:xU K C P5=true
 hd:Bp K C=true
 po:Gk K C=true
 sa:k9 K (.ref C) "__setattr__"=some (some (.builtin "object.__setattr__"))
theorem gN.get{K:aG}{C:af}(c:gN K C)(f:ai):xU K C f=true:=c.pg
def da(K:aG)(C:af)(f:ai):Prop:=k9 K (.ref C) f=some none
theorem da.taker{K:aG}{C:af}{f:ai}(n:da K C f):Gm K C f=some none:=by unfold Gm;rw[show k9 K (.ref C) f=some none from n];rfl
structure Meth(K:aG)(C:af)(m:ai)(f:af):Prop where
 at_:k9 K (.ref C) m=some (some (.ref f))
 fn:xV K (.ref f)=true
 kp:jf K (.ref f)=true
section
variable{X:Cx}{ae:List (af×bx)}{σ:St}{H:Hp}{s:aA}{a C dx:af}{fs:List (ai×V)}{f:ai}{v:V}{A:dF}{E:ag->aA->Prop}
theorem abz{b:Bool}(I:Inv X ae σ H s)(e:H a=some (.ins C dx fs))(c:gN X.K C)(n:da X.K C f)(l:fs.lookup f=some v) (h:∀u s',Inv X ae σ H s'->RelV v u->Q u s'):aH (aO X.prog X.w) A (getAttr (.ref a) f b) Q E s:=by
 obtain⟨mA,O,r,_,_,_⟩:=GZ I.hok e;obtain⟨u,hu,ru⟩:=gM.some_of (v:=v) (o:=mA f) (by rw[<-l];exact r f);exact get_map I.gX O (c.get f) c.hd n hu (aby ru) (h u _ (I.tok _) ru)
theorem G0{pl:ie Bool}{Q:ag×List ag->aA->Prop}(I:Inv X ae σ H s)(e:H a=some (.ins C dx fs))(c:gN X.K C)(k:Meth X.K C m g)(l:fs.lookup m=none) (h:Q (.ref g,[.ref a]) s):aH (aO X.prog X.w) A (sE (.ref a) m pl) Q E s:=by
 obtain⟨mA,O,r,_,_,_⟩:=GZ I.hok e;have hn:mA m=none:=gM.none_of (by rw[<-l];exact r m);exact abv I.gX O (c.get m) k.at_ k.fn hn h
theorem abA{Q:Unit->aA->Prop}(I:Inv X ae σ H s)(e:H a=some (.ins C dx fs))(c:gN X.K C)(n:da X.K C f)(hl:fs.length<1000)(ry:RelV y u) (h:∀s',Inv X ae σ (upd H a (.ins C dx (bO f y fs))) s'->Q () s'):aH (aO X.prog X.w) A (setAttr (.ref a) f u) Q E s:=by
 obtain⟨mA,O,r,wi,_,ho⟩:=GZ I.hok e;have hz:(fs.map (·.1)).length<=aS:=by rw[aD,F5];lia
 refine abw I.gX O c.sa c.po n.taker c.hd wi hz λh' O' sb=>h _ ?_;have hd:∃o,h'.get? dx=some o:=let⟨o,_,_,e',_⟩:=O'.ns;⟨o,e'⟩
 refine I.write (x:=a) (e:=dx) (by rw[e];exact bJ) (.inr ho) (λb q hb z=>(sb.2 b hb).trans z) hd ?_;refine⟨by rw[ak O.ne];exact ho,?_,O.ne,O'.obj,_,O'.ns,λg=>?_,λg hg=>?_⟩
 ·have:=QQ f y fs;lia
 ·show gM ((bO f y fs).lookup g) (if g=f then some u else mA g)
  rw[QP];by_cases q:g=f
  ·rw[aj q,aj q];exact ry
  ·rw[ah q,ah q];exact r g
 ·by_cases q:g=f
  ·rw[q];exact(GY f y fs).1
  ·refine(GY f y fs).2 g (wi g λz=>hg ?_)
   show(if g=f then some u else mA g)=none;rw[ah q];exact z
theorem Inv.made(I:Inv X ae σ H s):Inv X ae σ (upd (upd H s.heap.objs.size (.own (s.heap.objs.size+1))) (s.heap.objs.size+1) (.ins C s.heap.objs.size [])) {s with heap:=(s.heap.push oU).push (qw C s.heap.objs.size)}:=by
 have e1:(s.heap.push oU).get? s.heap.objs.size=some oU:=eC s.heap rfl;have e2:((s.heap.push oU).push (qw C s.heap.objs.size)).get? (s.heap.objs.size+1)=some (qw C s.heap.objs.size):=by have:=eC (s.heap.push oU) (o:=qw C s.heap.objs.size) rfl;rwa[ig]at this
 have e3:(s.heap.push oU).Ns s.heap.objs.size (λ_=>none):=⟨oU,#[],_,e1,rfl,(λe he=>absurd he (by simp)),λ_=>rfl⟩;have I1:=I.laid (a:=s.heap.objs.size) (o:=.own (s.heap.objs.size+1)) (h':=s.heap.push oU) (t':=s.toks) (λb u q=>cN _ q) (bM _) ⟨_,e1⟩;refine I1.laid (a:=s.heap.objs.size+1) (o:=.ins C s.heap.objs.size []) (t':=s.toks) (λb u q=>cN _ q) (uN (ig _ _)) ?_;have ne:s.heap.objs.size≠s.heap.objs.size+1:=eA (Fv _);refine⟨by rw[ak ne,ao],fb _,ne,e2,λ_=>none,(Heap.Ns1.of_empty e3).at λo q=>cN _ q,λ_=>bJ,λy hy=>absurd rfl hy⟩
theorem abB{env:d9}(hb:me e f env (eval e env)=eval e env) (h:aH (aO prog w) A (eval e env) (λo s₁=>aH (aO prog w) A (getAttr o f true) Q E s₁) E s):aH (aO prog w) A (eval (.Attribute e f pos) env) Q E s:=
 Attribute_any_ h (by rw[arm_eval_Attribute,hb])
end
inductive amK(K:aG)(f:ai)(x:V)(H:Hp)(Q:VK):Prop|mk a C dx fs v (z:x=.ref a) (z:H a=some (.ins C dx fs)) (z:gN K C) (z:da K C f) (z:fs.lookup f=some v) (z:Q v H)
def o6(K:aG)(ta:TE)(f:ai):TE:=λσ H Q=>ta σ H λx H1=>amK K f x H1 Q
inductive amM(K:aG)(f:ai)(x y:V)(H:Hp)(Q:Hp->Prop):Prop|mk a C dx fs (z:x=.ref a) (z:H a=some (.ins C dx fs)) (z:gN K C) (z:da K C f) (z:fs.length<1000) (z:Q (upd H a (.ins C dx (bO f y fs))))
def QR(K:aG)(ta tv:TE)(f:ai):TS:=λD σ H=>tv σ H λy H1=>ta σ H1 λx H2=>amM K f x y H2 (D.nx σ)
section
variable{X:Cx}{o e value:a_}{f:ai}{pos pos' iD:dG}{ta tv:TE}
theorem abC(he:PE X e ta)(hb:me e f X.env (eval e X.env)=eval e X.env):PE X (.Attribute e f pos) (o6 X.K ta f):=by intro ae s σ H Q I h;refine abB hb (aU (he ae s σ H _ I h) λu s1 br=>?_);obtain⟨x,H1,I1,rx,a,C,dx,fs,v,ex,ea,c,n,l,q⟩:=br;subst ex;obtain rfl:u=dg a:=rx;exact abz I1 ea c n l λu' s2 I2 ru=>⟨v,H1,I2,ru,q⟩
theorem abD(ha:PE X o ta)(hv:PE X value tv)(hs:oQ value (some (.Attribute o f pos')) pos.line X.env=pure false):PS X (.Assign [.Attribute o f pos'] value pos) (QR X.K ta tv f):=by intro ae s σ H D I h;refine plainObj_wpAny_Assign_Attribute (aU (hv ae s σ H _ I h) λu s1⟨y,H1,I1,ry,q⟩=>aU (ha ae s1 σ H1 _ I1 q) λov s2⟨x,H2,I2,rx,a,C,dx,fs,ex,ea,c,n,l,q2⟩=>?_) hs;subst ex;obtain rfl:ov=dg a:=rx;exact abA I2 ea c n l ry λs3 I3=>⟨σ,_,I3,q2⟩
theorem aj8{pl:ie Bool}{σ:St}(he:PE X e te)(I:Inv X ae σ H s)
  (h:te σ H λx H1=>∃a C dx fs g,x=.ref a/\H1 a=some (.ins C dx fs)/\gN X.K C/\Meth X.K C m g/\fs.lookup m=none/\
   ∀s1,Inv X ae σ H1 s1->aH (aO X.prog X.w) X.A (nI pos (.ref g) [.ref a] (backTo pos (bE args X.env)) (backToKw pos (j_ [] X.env))) Q X.xe s1)
  (ht:eval (.Call (.Attribute e m apos) args [] pos) X.env=(do
   let ov<-eval e X.env
   sF apos.atName
   let(f,first)<-holding [ov] (sE ov m pl)
   nI pos f first (backTo pos (bE args X.env)) (backToKw pos (j_ [] X.env)))) :
  aH (aO X.prog X.w) X.A (eval (.Call (.Attribute e m apos) args [] pos) X.env) Q X.xe s:=by
 refine Gh (pl:=pl) (aU (he ae s σ H _ I h) λu s1⟨x,H1,I1,rx,a,C,dx,fs,g,ex,ea,c,k,l,q⟩=>?_) ht;subst ex;obtain rfl:u=dg a:=rx;exact G0 I1 ea c k l (q s1 I1)
end
structure c6(k:Nat)(A:dF):Prop where
 hd:A.handled=none
 dp:A.depth+3*k+5<recursionLimit
 un:A.units+16*k+200<f7
theorem c6.mono{j k:Nat}(r:c6 k A)(h:j<=k):c6 j A:=⟨r.hd,by have:=r.dp;lia,by have:=r.un;lia⟩
theorem c6.deeper{k:Nat}(r:c6 (k+1) A)(env:d9):c6 k (A.deeper env):=⟨r.hd,by have:=r.dp;show A.depth+1+3*k+5<_;lia,by have:=r.un;show A.units+3+16*k+200<_;lia⟩
theorem c6.in1{k:Nat}(r:c6 (k+1) A):c6 k A.in1:=⟨r.hd,by have:=r.dp;show A.depth+3*k+5<_;lia,by have:=r.un;show A.units+1+16*k+200<_;lia⟩
theorem abE{A:dF}{C:af}{us:List ag}{kw:List (ai×ag)}:(A.under (.builtin "type.__call__" ⟨.ref C::us,kw⟩)).depth=A.depth+1:=by first|rfl|simp[F_,Code.weight,Code.isCreation,Code.isGuard,Code.isCaller,Code.frames,Code.isFrame,guardIds]
theorem abF{A:dF}{C:af}{us:List ag}{kw:List (ai×ag)}:(A.under (.builtin "type.__call__" ⟨.ref C::us,kw⟩)).units=A.units+1:=by first|rfl|simp[F_,Code.cUnits,Code.frames,Code.isFrame]
theorem c6.make{k:Nat}(r:c6 (k+1) A)(C:af)(us:List ag)(kw:List (ai×ag)):c6 k (A.under (.builtin "type.__call__" ⟨.ref C::us,kw⟩)):=⟨r.hd,by have:=r.dp;rw[abE];lia,by have:=r.un;rw[abF];lia⟩
theorem c6.depth{k:Nat}(r:c6 k A):A.depth<recursionLimit:=by have:=r.dp;lia
theorem c6.abG{k:Nat}(r:c6 k A):A.units<f7:=by have:=r.un;lia
def lu:TA:=λ_ H Q=>Q [] H
def mD(ta:TE)(tr:TA):TA:=λσ H Q=>ta σ H λx H1=>tr σ H1 λxs H2=>Q (x::xs) H2
section
variable{X:Cx}{e:a_}{es:List a_}{te:TE}{t:TA}{pos:dG}
theorem mE:PA X [] lu:=λ_ _ _ _ H Q I h=>Bf ⟨[],H,I,.nil,h⟩
theorem aM(ha:PE X e te)(hr:PA X es t)(hs:bE (e::es) X.env=(false,eval e X.env)::bE es X.env:=by rfl):PA X (e::es) (mD te t):=by intro pos ae s σ H Q I h;rw[hs];show aH _ _ (spliced ((false,eval e X.env)::backTo pos (bE es X.env))) _ _ s;refine xQ (aU (ha ae s σ H _ I h) λu s1 br=>?_);obtain⟨x,H1,I1,r1,q1⟩:=br;refine aU (hr pos ae s1 σ H1 _ I1 q1) λus s2 eE=>?_;obtain⟨xs,H2,I2,r2,q2⟩:=eE;exact⟨x::xs,H2,I2,.cons r1 r2,q2⟩
def BM(t:TA):TE:=λσ H Q=>t σ H λxs H1=>xs.length<=aS/\∀p,H1 p=none->Q (.ref p) (upd H1 p (.tup xs))
def abH(t:TA):TE:=λσ H Q=>t σ H λxs H1=>xs.length<=aS/\∀p,H1 p=none->Q (.ref p) (upd H1 p (.lst xs))
theorem vh{x1}(h:PA X es t):PE X (.Tuple es x1 pos) (BM t):=by intro ae s σ H Q I hq;refine wpAny_Tuple_spliced (aU (h pos ae s σ H _ I hq) λus s1 br=>?_);obtain⟨xs,H1,I1,r,z,q⟩:=br;refine⟨by rw[<-r.length];exact z,?_⟩;have hf:H1 s1.heap.objs.size=none:=I1.hok.fresh (bM _);refine⟨.ref s1.heap.objs.size,upd H1 s1.heap.objs.size (.tup xs),I1.laid (t':=s1.toks) (λb u e=>cN _ e) (bM _) ?_,rfl,q _ hf⟩;exact⟨z,us,r,⟨_,eC _ rfl,rfl,_,rfl⟩⟩
theorem bw(h:PA X es t):PE X (.List es pos) (abH t):=by intro ae s σ H Q I hq;refine wpAny_List_spliced (aU (h pos ae s σ H _ I hq) λus s1 br=>?_);obtain⟨xs,H1,I1,r,z,q⟩:=br;refine⟨by rw[<-r.length];exact z,?_⟩;have hf:H1 s1.heap.objs.size=none:=I1.hok.fresh (bM _);refine⟨.ref s1.heap.objs.size,upd H1 s1.heap.objs.size (.lst xs),I1.laid (t':=s1.toks) (λb u e=>cN _ e) (bM _) ?_,rfl,q _ hf⟩;exact⟨z,us,0,r,eC _ rfl⟩
end
abbrev Sp:=List V->Hp->VK->XK->Prop
abbrev lx:=List d9->Hp->aA->XK->ag->aA->Prop
structure kq(P:bR)(w:bI)(K:aG)(mg:ai->Option ag)(base:bg)(A:dF)(outer:List d9)(s:aA)(H:Hp):Prop where
 frames:A.frames=some outer
 mod:Mod K mg base
 bs:∀b o,base.get? b=some o->s.heap.get? b=some o/\H b=none
 lj:base.objs.size<=s.heap.objs.size
 jF:s.heap.FunFrames base outer
 oZ:∀b∈mx outer,H b=none
 hok:dR P w H s.heap
 bare:so s.gens
def CE(outer:List d9)(P:bR)(w:bI)(H:Hp)(s:aA)(Q:VK)(u:ag)(s':aA):Prop:=∃v H',s'.os=s.os/\so s'.gens/\Un (mx outer) [] H H' s.heap s'.heap/\dR P w H' s'.heap/\RelV v u/\Q v H'
def CR(CX:lx)(outer:List d9)(P:bR)(w:bI)(H:Hp)(s:aA)(Q:VK)(E:XK)(r:Result)(s':aA):Prop:=match r with|.ok (.ret u)=>CE outer P w H s Q u s'|.ok _=>False|.error e=>CX outer H s E e s'
structure aX(P:bR)(w:bI)(K:aG)(mg:ai->Option ag)(base:bg)(CX:lx)(k:Nat)(f:af)(fd:eB)(ps:List ai)(sp:Sp):Prop where
 len:∀vs H Q E,sp vs H Q E->vs.length=ps.length
 run:∀(A:dF)(outer:List d9)(s:aA)(H:Hp)(args:Args)(us:List ag)(vs:List V)(Q:VK)(E:XK),c6 k A->kq P w K mg base A outer s H->xO s fd args (ps.zip us)->Vals vs us->sp vs H Q E->sG (aO P w) A (.call (.ref f) args) (CR CX outer P w H s Q E) s
theorem aX.mono{P:bR}{w:bI}{K:aG}{mg:ai->Option ag}{base:bg}{CX:lx}{j k:Nat}{f:af}{fd:eB}{ps:List ai}{sp:Sp}(F:aX P w K mg base CX j f fd ps sp)(h:j<=k):aX P w K mg base CX k f fd ps sp:=⟨F.len,λA outer s H args us vs Q E hr=>F.run A outer s H args us vs Q E (hr.mono h)⟩
theorem aX.imp{P:bR}{w:bI}{K:aG}{mg:ai->Option ag}{base:bg}{CX:lx}{k:Nat}{f:af}{fd:eB}{ps:List ai}{sp QS:Sp}(F:aX P w K mg base CX k f fd ps sp) (h:∀vs H Q E,QS vs H Q E->sp vs H Q E):aX P w K mg base CX k f fd ps QS:=
 ⟨λvs H Q E q=>F.len vs H Q E (h _ _ _ _ q),λA outer s H args us vs Q E hr he hb hv hs=>F.run A outer s H args us vs Q E hr he hb hv (h _ _ _ _ hs)⟩
theorem kq.make{P:bR}{w:bI}{K:aG}{mg:ai->Option ag}{base:bg}{A:dF}{outer:List d9}{s:aA}{H:Hp}(e:kq P w K mg base A outer s H)(C:af)(us:List ag)(kw:List (ai×ag)):kq P w K mg base (A.under (.builtin "type.__call__" ⟨.ref C::us,kw⟩)) outer s H:=⟨by first|exact e.frames|(simpa[F_,Code.envs,Code.isFrame,pushEnvs]using e.frames),e.mod,e.bs,e.lj,e.jF,e.oZ,e.hok,e.bare⟩
theorem kq.in1{P:bR}{w:bI}{K:aG}{mg:ai->Option ag}{base:bg}{A:dF}{outer:List d9}{s:aA}{H:Hp}(e:kq P w K mg base A outer s H):kq P w K mg base A.in1 outer s H:=⟨e.frames,e.mod,e.bs,e.lj,e.jF,e.oZ,e.hok,e.bare⟩
section
variable{X:Cx}{ae:List (af×bx)}{σ:St}{H:Hp}{s s':aA}
theorem Inv.env0(I:Inv X ae σ H s):kq X.prog X.w X.K X.mg X.base X.A X.stack s H:=⟨I.ok.frames,I.ok.mod,I.bs,aZ I.ok.lj I.sz,I.stack,I.Qq,I.hok,I.bare⟩
theorem Inv.after(I:Inv X ae σ H s)(h:CE X.stack X.prog X.w H s Q u s'):EP X ae σ Q u s':=by obtain⟨v,H',os,bare,un,hok,r,q⟩:=h;obtain⟨hh,g,d,t,os'⟩:=s';obtain rfl:os'=s.os:=os;exact⟨v,H',I.call (h':=hh) (g':=g) (d':=d) (t':=t) (ch:=[]) un hok bare (λb z=>absurd z (by simp)),r,q⟩
end
def QT(sp:Sp)(fK:List V)(E:XK)(t:TA):TE:=λσ H Q=>t σ H λvs H1=>sp (vs++fK) H1 Q E
inductive MtI(C:af)(m:ai)(x:V)(H:Hp)(R:Prop):Prop|mk a dx fs (z:x=.ref a) (z:H a=some (.ins C dx fs)) (z:fs.lookup m=none) (z:R)
def BN(C:af)(m:ai)(sp:Sp)(fK:List V)(E:XK)(ta:TE)(t:TA):TE:=λσ H Q=>ta σ H λx H1=>MtI C m x H1 (t σ H1 λvs H2=>sp (x::(vs++fK)) H2 Q E)
def BO(C:af)(sp:Sp)(fK:List V)(E:XK)(t:TA):TE:=λσ H Q=>t σ H λvs H1=>∀x dx,H1 x=none->H1 dx=none->dx≠x->sp (.ref x::(vs++fK)) (upd (upd H1 dx (.own x)) x (.ins C dx [])) (λv H2=>v=.non/\Q (.ref x) H2) E
def Binds(K:aG)(fd:eB)(ps:List ai)(ds:List ag):Prop:=∀(s:aA)(us:List ag),K.In s.heap->(us++ds).length=ps.length->xO s fd ⟨us,[]⟩ (ps.zip (us++ds))
theorem Binds.all{K:aG}{fd:eB}{ps:List ai}(h:∀us:List ag,us.length=ps.length->xN fd ⟨us,[]⟩=pure (ps.zip us)):Binds K fd ps []:=λs us _ hl=>by rw[je]at hl⊢;exact .of_eq (h us hl)
def Passes(CX:lx)(X:Cx)(E:XK):Prop:=∀(ae:List (af×bx))(σ:St)(H:Hp)(s:aA)(e:ag)(s':aA),Inv X ae σ H s->CX X.stack H s E e s'->X.xe e s'
section
variable{X:Cx}{CX:lx}{k:Nat}{f C:af}{fd:eB}{ps:List ai}{sp:Sp}{fK:List V}{ds:List ag}{E:XK}{x m:ai}{p pos apos:dG}{e o:a_}{es:List a_}{ta:TE}{t:TA}
theorem BP{σ:St}(F:aX X.prog X.w X.K X.mg X.base CX k f fd ps sp)(hr:c6 k X.A)(hb:Binds X.K fd ps ds)(hd:Vals fK ds)(hx:Passes CX X E) (I:Inv X ae σ H s)(r:Vals vs us)(h:sp (vs++fK) H Q E):aH (aO X.prog X.w) X.A (call (.ref f) us) (EP X ae σ Q) X.xe s:=by
 have r2:Vals (vs++fK) (us++ds):=r.append hd;have hl:(us++ds).length=ps.length:=by rw[<-r2.length];exact F.len _ _ _ _ h
 refine xJ (sA (F.run X.A X.stack s H ⟨us,[]⟩ (us++ds) (vs++fK) Q E hr I.env0 (hb s us I.gX hl) r2 h) λr s' hq=>?_);cases r with|error e=>exact hx ae σ H s e s' I hq|ok fl=>cases fl with|ret u=>exact I.after hq|next=>exact False.elim hq|brk=>exact False.elim hq|cont=>exact False.elim hq
theorem abI(F:aX X.prog X.w X.K X.mg X.base CX k f fd ps sp)(hr:c6 k X.A)(hg:Gl X x)(hm:X.mg x=some (.ref f))(hk:jf X.K (.ref f)=true)(hb:Binds X.K fd ps ds)(hd:Vals fK ds)(hx:Passes CX X E) (ha:PA X (e::es) t)(jl:(x==("__debug__":ai))=false:=by decide)(he:bE (e::es) X.env=(false,eval e X.env)::bE es X.env:=by rfl)(dk:(backTo pos (bE es X.env)).any (·.1)=false:=by rfl):
  PE X (.Call (.Name x p) (e::es) [] pos) (QT sp fK E t):=by
 intro ae s σ H Q I h;refine su (BB I hg hm ?_ jl);refine Bo (h₀:=X.base) I.ok.mod.u6 hk (aU (ha pos ae s σ H _ I h) λus s1⟨vs,H1,I1,r,q⟩=>⟨I1.gX,?_⟩) he dk;exact BP F hr hb hd hx I1 r q
theorem abJ{pl:ie Bool}(he:PE X o ta)(c:gN X.K C)(hm:Meth X.K C m f)(F:aX X.prog X.w X.K X.mg X.base CX k f fd ps sp)(hr:c6 k X.A)(hb:Binds X.K fd ps ds)(hd:Vals fK ds)(hx:Passes CX X E)(ha:PA X (e::es) t)
  (eQ:bE (e::es) X.env=(false,eval e X.env)::bE es X.env:=by rfl)(dk:(backTo pos (bE es X.env)).any (·.1)=false:=by rfl)
  (ht:eval (.Call (.Attribute o m apos) (e::es) [] pos) X.env=(do
   let ov<-eval o X.env
   sF apos.atName
   let(f,first)<-holding [ov] (sE ov m pl)
   nI pos f first (backTo pos (bE (e :: es) X.env)) (backToKw pos (j_ [] X.env))) := by rfl) :
  PE X (.Call (.Attribute o m apos) (e::es) [] pos) (BN C m sp fK E ta t):=by
 intro ae s σ H Q I h;refine Gh (pl:=pl) (aU (he ae s σ H _ I h) λu s1⟨x,H1,I1,rx,a,dx,fs,ex,ea,l,q⟩=>?_) ht;subst ex;obtain rfl:u=dg a:=rx;refine G0 I1 ea c hm l ?_;refine Bo (first:=[.ref a]) (h₀:=X.base) I.ok.mod.u6 hm.kp (aU (ha pos ae s1 σ H1 _ I1 q) λus s2⟨vs,H2,I2,r,q2⟩=>⟨I2.gX,?_⟩) eQ dk;exact BP (us:=.ref a::us) (vs:=.ref a::vs) F hr hb hd hx I2 (.cons rfl r) q2
theorem abK{pl:ie Bool}(he:PE X o ta)(c:gN X.K C)(hm:Meth X.K C m f)(F:aX X.prog X.w X.K X.mg X.base CX k f fd ps sp)(hr:c6 k X.A)(hb:Binds X.K fd ps ds)(hd:Vals fK ds)(hx:Passes CX X E)
  (ht:eval (.Call (.Attribute o m apos) [] [] pos) X.env=(do
   let ov<-eval o X.env
   sF apos.atName
   let(f,first)<-holding [ov] (sE ov m pl)
   nI pos f first (backTo pos (bE [] X.env)) (backToKw pos (j_ [] X.env))) := by rfl) :
  PE X (.Call (.Attribute o m apos) [] [] pos) (BN C m sp fK E ta lu):=by
 intro ae s σ H Q I h;refine Gh (pl:=pl) (aU (he ae s σ H _ I h) λu s1⟨x,H1,I1,rx,a,dx,fs,ex,ea,l,q⟩=>?_) ht;subst ex;obtain rfl:u=dg a:=rx;refine G0 I1 ea c hm l ?_;exact Qg (first:=[.ref a]) I1.gX hm.kp (BP (us:=[.ref a]) (vs:=[.ref a]) F hr hb hd hx I1 (.cons rfl .nil) q)
structure Mk(K:aG)(C f:af):Prop where
 makes:Gn K C=true
 init:k9 K (.ref C) "__init__"=some (some (.ref f))
 fn:xV K (.ref f)=true
 kp:jf K (.ref C)=true
theorem QU{σ:St}(M:Mk X.K C f)(F:aX X.prog X.w X.K X.mg X.base CX k f fd ps sp)(hr:c6 (k+1) X.A)(hb:Binds X.K fd ps ds)(hd:Vals fK ds) (hx:Passes CX X E)(I:Inv X ae σ H s)(r:Vals vs us)
  (h:∀x dx,H x=none->H dx=none->dx≠x->sp (.ref x::(vs++fK)) (upd (upd H dx (.own x)) x (.ins C dx [])) (λv H2=>v=.non/\Q (.ref x) H2) E):
  aH (aO X.prog X.w) X.A (call (.ref C) us) (EP X ae σ Q) X.xe s:=by
 have hq:=h (s.heap.objs.size+1) s.heap.objs.size (I.hok.fresh (Nat.le_succ _)) (I.hok.fresh (bM _)) (eA (Fv _));have I2:=Inv.made (C:=C) I;have r2:Vals (V.ref (s.heap.objs.size+1)::(vs++fK)) (dg (s.heap.objs.size+1)::(us++ds)):=.cons rfl (r.append hd);have hl:(dg (s.heap.objs.size+1)::us++ds).length=ps.length:=by have e:=r2.length;rw[F.len _ _ _ _ hq]at e;exact e.symm
 refine xJ (abx (f:=f) I.gX M.makes M.init (uI.mp M.fn) (sA (F.run _ X.stack _ _ ⟨dg (s.heap.objs.size+1)::us,[]⟩ (dg (s.heap.objs.size+1)::(us++ds)) _ _ E (hr.make C us []) (I2.env0.make C us []) (hb _ (dg (s.heap.objs.size+1)::us) I2.gX hl) r2 hq) λr s' sW=>?_))
 cases r with|error e=>exact hx ae σ _ _ e s' I2 sW|ok fl=>cases fl with|ret u=>obtain⟨v,H',I3,rv,ev,q3⟩:=I2.after sW;subst ev;exact⟨rv,⟨V.ref (s.heap.objs.size+1),H',I3,rfl,q3⟩⟩|next=>exact False.elim sW|brk=>exact False.elim sW|cont=>exact False.elim sW
theorem abL(M:Mk X.K C f)(F:aX X.prog X.w X.K X.mg X.base CX k f fd ps sp)(hr:c6 (k+1) X.A)(hg:Gl X x)(hm:X.mg x=some (.ref C))(hb:Binds X.K fd ps ds)(hd:Vals fK ds)(hx:Passes CX X E) (ha:PA X (e::es) t)(jl:(x==("__debug__":ai))=false:=by decide)(he:bE (e::es) X.env=(false,eval e X.env)::bE es X.env:=by rfl)(dk:(backTo pos (bE es X.env)).any (·.1)=false:=by rfl):
  PE X (.Call (.Name x p) (e::es) [] pos) (BO C sp fK E t):=by
 intro ae s σ H Q I h;refine su (BB I hg hm ?_ jl);refine Bo (h₀:=X.base) I.ok.mod.u6 M.kp (aU (ha pos ae s σ H _ I h) λus s1⟨vs,H1,I1,r,q⟩=>⟨I1.gX,?_⟩) he dk;exact QU M F hr hb hd hx I1 r q
theorem abM(M:Mk X.K C f)(F:aX X.prog X.w X.K X.mg X.base CX k f fd ps sp)(hr:c6 (k+1) X.A)(hg:Gl X x)(hm:X.mg x=some (.ref C))(hb:Binds X.K fd ps ds)(hd:Vals fK ds)(hx:Passes CX X E) (jl:(x==("__debug__":ai))=false:=by decide):PE X (.Call (.Name x p) [] [] pos) (BO C sp fK E lu):=by
 intro ae s σ H Q I h;refine su (BB I hg hm ?_ jl);exact Qg I.gX M.kp (QU (us:=[]) M F hr hb hd hx I .nil h)
end
def PK(X:Cx)(yn:List nJ)(t:TA):Prop:=∀(pos:dG)(ae:List (af×bx))(s:aA)(σ:St)(H:Hp)(Q:List V->Hp->Prop),Inv X ae σ H s->t σ H Q->aH (aO X.prog X.w) X.A (evalAll ((backToKw pos (j_ yn X.env)).map (·.2))) (AP X ae σ Q) X.xe s
section
variable{X:Cx}{CX:lx}{k:Nat}{f C:af}{fd:eB}{ps ks:List ai}{sp:Sp}{E:XK}{x m:ai}{p pos apos vi:dG}{e o:a_}{es:List a_}{yn:List nJ}{te ta:TE}{t tk:TA}{nm:Option ai}
theorem yo:PK X [] lu:=λ_ _ _ _ H Q I h=>wpAny_evalAll_nil ⟨[],H,I,.nil,h⟩
theorem yp(ha:PE X e te)(hr:PK X yn t):PK X (⟨nm,e,vi⟩::yn) (mD te t):=by intro pos ae s σ H Q I h;show aH _ _ (evalAll ((do let v<-eval e X.env;sF pos;pure v)::(backToKw pos (j_ yn X.env)).map (·.2))) _ _ s;refine wpAny_evalAll_cons (aI (aU (ha ae s σ H _ I h) λu s1 br=>?_));obtain⟨x,H1,I1,r1,q1⟩:=br;refine aI (F0 (bN ?_));refine aU (hr pos ae s1 σ H1 _ I1 q1) λus s2 eE=>?_;obtain⟨xs,H2,I2,r2,q2⟩:=eE;exact⟨x::xs,H2,I2,.cons r1 r2,q2⟩
end
structure bu(N P:List ai)(sc:dZ):Prop where
 kind:sc.kind=.function
 co:sc.isCoroutine=false
 gen:sc.isGenerator=false
 nd:N.Nodup
 pre:N.take P.length=P
 par:∀x∈P,sc.names.lookup x=some .local∨sc.names.lookup x=some .cell
 abN:∀y∈sc.names,y.2≠.free
theorem QV{kindOf:ai->Option iS}:∀{binds:List (ai×ag)}{m:ai->Option ag},(∀v,(x,v)∉binds)->bindL kindOf binds m x=m x
 |[],_,_=>rfl|(n,v)::r,m,h=>by
  unfold bindL;rw[QV λw hw=>h w (b8 _ hw)];split
  ·have:x≠n:=by rintro rfl;exact h v cK
   simp[this]
  ·rfl
theorem QW{kindOf:ai->Option iS}:∀{binds:List (ai×ag)}{m:ai->Option ag},(∀v,(x,v)∉binds)->bindC kindOf binds m x=m x
 |[],_,_=>rfl|(n,v)::r,m,h=>by
  unfold bindC;rw[QW λw hw=>h w (b8 _ hw)];split
  ·rfl
  ·have:x≠n:=by rintro rfl;exact h v cK
   simp[this]
theorem QX{kindOf:ai->Option iS}:∀{P:List ai}{vs:List ag}{i:Nat}{m:ai->Option ag},P.Nodup->P[i]? =some x->vs[i]? =some v->kindOf x=some .local->bindL kindOf (P.zip vs) m x=some v|[],_,_,_,_,h,_,_=>by simp at h|_::_,[],_,_,_,_,h,_=>by simp at h|p::P,w::vs,0,m,nd,h1,h2,hk=>by simp at h1 h2;subst h1;subst h2;show bindL kindOf ((p,w)::P.zip vs) m p=_;unfold bindL;rw[QV λv hv=>(gS.mp nd).1 (si hv).1,aj hk];simp|p::P,w::vs,i+1,m,nd,h1,h2,hk=>by show bindL kindOf ((p,w)::P.zip vs) m x=_;unfold bindL;exact QX (i:=i) (gS.mp nd).2 (by simpa using h1) (by simpa using h2) hk
theorem QY{kindOf:ai->Option iS}:∀{P:List ai}{vs:List ag}{i:Nat}{m:ai->Option ag},P.Nodup->P[i]? =some x->vs[i]? =some v->kindOf x≠some .local->bindC kindOf (P.zip vs) m x=some v|[],_,_,_,_,h,_,_=>by simp at h|_::_,[],_,_,_,_,h,_=>by simp at h|p::P,w::vs,0,m,nd,h1,h2,hk=>by simp at h1 h2;subst h1;subst h2;show bindC kindOf ((p,w)::P.zip vs) m p=_;unfold bindC;rw[QW λv hv=>(gS.mp nd).1 (si hv).1,ah hk];simp|p::P,w::vs,i+1,m,nd,h1,h2,hk=>by show bindC kindOf ((p,w)::P.zip vs) m x=_;unfold bindC;exact QY (i:=i) (gS.mp nd).2 (by simpa using h1) (by simpa using h2) hk
def start(N:List ai)(vs:List V):St:=vs.map some++List.replicate (N.length-vs.length) none
def nU(CX:lx)(P:bR)(w:bI)(K:aG)(mg:ai->Option ag)(base:bg)(N:List ai)(qual:ai)(scope:dZ)(f:af)(cd:ag)(A:dF)(outer:List d9)(s:aA)(H:Hp)(E:XK):Cx where
 prog:=P
 w:=w
 K:=K
 mg:=mg
 base:=base
 A:=A.deeper (j9 qual scope s.heap.objs.size f cd)
 N:=N
 gC:=s
 mw:=H
 env:=j9 qual scope s.heap.objs.size f cd
 outer:=outer
 stack:=j9 qual scope s.heap.objs.size f cd::outer
 ex:=[]
 calm:=true
 fn:=λ_=>true
 pn:=[]
 xe:=λe s'=>aH (aO P w) (A.deeper (j9 qual scope s.heap.objs.size f cd)) (leaving (j9 qual scope s.heap.objs.size f cd) e) (λ_ yq=>CX outer H s E e yq) (λe' yq=>CX outer H s E e' yq) s'
theorem QZ{sc:dZ}{n:Nat}(h:sc.names.lookup x=some .cell):∃c,(gg n sc.names []).lookup x=some c:=by have q:=Gg sc.names n [] (.inl h);exact nA.mp q
theorem Q0{CX:lx}{P:bR}{w:bI}{K:aG}{mg:ai->Option ag}{base:bg}{N ps:List ai}{qual:ai}{scope:dZ}{f:af}{cd:ag}{A:dF}{outer:List d9}{s s1:aA}{H:Hp}{E:XK}{us:List ag}{vs:List V} (S:bu N ps scope)(hd:A.handled=none)(e0:kq P w K mg base A outer s H)(hl:vs.length=ps.length)(r:Vals vs us)
  (x:InCallC s s.heap.objs.size (bindL (j9 qual scope s.heap.objs.size f cd).kindOf (ps.zip us) λ_=>none) (gg (s.heap.objs.size+1) scope.names []) (bindC (j9 qual scope s.heap.objs.size f cd).kindOf (ps.zip us) λ_=>none) s1):
  Inv (nU CX P w K mg base N qual scope f cd A outer s H E) [] (start N vs) H s1:=by
 have dk:ps.length<=N.length:=by have:=eW k6 S.pre;rw[jd]at this;lia
 obtain⟨h1,tk,rfl,hk⟩:=x.done;have sX:∀b:af,b∉(nU CX P w K mg base N qual scope f cd A outer s H E).ex:=λb z=>absurd (show b∈([]:List af)from z) (by simp)
 refine⟨⟨e0.mod,S.kind,rfl,rfl,bM _,λy z c h1 h2=>?_,λy hy=>?_,λy c _ h=>?_,λ_=>hd,Pn e0.frames,.inr ⟨rfl,rfl⟩,λb z=>absurd z (sX b),e0.bs,e0.lj,λb _ _=>sX b,λb z=>absurd z (sX b),e0.jF,e0.oZ⟩,rfl,e0.bare,Un.kept hk,⟨_,x.toInCall.ns,λi y v h1 h2 h3=>?_⟩,λy c h=>⟨_,x.cell y c h⟩,e0.hok.fresh (bM _),λy c h=>?_,λp hp=>absurd (show p∈([]:List (af×bx))from hp) (by simp),e0.hok.kept hk,?_⟩
 ·exact name_of_addr x.apart (ib h1) (ib h2)
 ·have hy:scope.names.lookup y=some .cell∨scope.names.lookup y=some .free:=hy
  rcases hy with hy|hy
  ·exact QZ hy
  ·exact absurd rfl (S.abN _ (ib hy))
 ·exact jz (x.above y c (ib h))
 ·have hi:i<vs.length:=by
   unfold start at h2;by_cases hi:i<vs.length
   ·exact hi
   ·rw[oI (by simpa using hi)]at h2
    rw[List.getElem?_replicate]at h2;split at h2<;>cases h2
  have ha:vs[i]? =some v:=by unfold start at h2;rw[nv (by simpa using hi),fz]at h2;cases e:vs[i]? with
   |none=>rw[e]at h2;cases h2|some a=>rw[e]at h2;cases h2;rfl
  obtain⟨u,hu,rv⟩:=r.get ha;have hp:ps[i]? =some y:=by rw[<-S.pre,Of (by lia)];exact h1
  have Q1:ps.Nodup:=by rw[<-S.pre];exact S.nd.sublist (Fl _ _)
  refine⟨u,rv,?_⟩;rcases S.par y (du hp)with k|k
  ·exact .inl ⟨k,QX Q1 hp hu k⟩
  ·obtain⟨c,e⟩:=QZ (n:=s.heap.objs.size+1) k
   refine .inr ⟨.inl k,c,e,?_⟩;have q:=x.cell y c e;rw[QY Q1 hp hu (by show scope.names.lookup y≠_;rw[k];decide)]at q;exact q
 ·exact e0.hok.fresh (jz (x.above y c (ib h)))
 ·unfold start
  show _=N.length;rw[eL,aD,List.length_replicate];lia
theorem Q2{CX:lx}{P:bR}{w:bI}{K:aG}{mg:ai->Option ag}{base:bg}{k:Nat}{f:af}{name qual:ai}{params:kc}{body:List aV}{scope:dZ}{dV kV doc pm dc ct oc:ag}{an od:Option af} {fL:Array (Option ag)}{N ps:List ai}{sp:Sp}(lk:K.lookup f=some ⟨oc,od,.func (k_ name qual params body scope dV kV doc pm an dc ct),fL⟩)(fT:qx K dc qual=true)(S:bu N ps scope)
  (len:∀vs H Q E,sp vs H Q E->vs.length=ps.length)
  (mF:∀(A:dF)(outer:List d9)(s:aA)(H:Hp)(vs:List V)(Q:VK)(E:XK),c6 k (A.deeper (j9 qual scope s.heap.objs.size f dc))->sp vs H Q E->∃t,iX (nU CX P w K mg base N qual scope f dc A outer s H E) body t/\t {nx:=λ_ H'=>Q .non H',rt:=Q} (start N vs) H):
  aX P w K mg base CX (k+1) f (k_ name qual params body scope dV kV doc pm an dc ct) ps sp:=by
 refine⟨len,λA outer s H args us vs Q E hr e0 hb r ly=>?_⟩;have hl:=len _ _ _ _ ly;have KX:K.In s.heap:=e0.mod.u6.keeps λb o e=>(e0.bs b o e).1;have lim:s.heap.NoLimit:=e0.mod.nolimit.keeps λb o e=>(e0.bs b o e).1;have G3:∀y∈ps.zip us,scope.names.lookup y.1=some .local∨(scope.names.lookup y.1=some .cell/\((gg (s.heap.objs.size+1) scope.names []).lookup y.1).isSome=true):=λ⟨n,v⟩hy=>by
  rcases S.par n (si hy).1 with q|q
  ·exact .inl q
  ·exact .inr ⟨q,Gg _ _ _ (.inl q)⟩
 refine codeAny_call_function hr.depth (KX _ _ lk) rfl S.co S.gen rfl (PySem.W.codeRec_of KX fT) (hb _ _ _ _ ?_);refine OZ S.kind G3 λenv he s1 x=>?_;subst he;refine⟨lim.keeps x.toInCall.keep,codeAny_func ?_⟩;obtain⟨t,ht,hq⟩:=mF A outer s H vs Q E (hr.deeper _) ly;have I:Inv (nU CX P w K mg base N qual scope f dc A outer s H E) [] (start N vs) H s1:=Q0 S hr.hd e0 hl r x;refine ic (ht [] s1 (start N vs) H _ I hq) (λfl s' hs=>?_) λe s' hs=>hs
 have fin:∀{σ':St}{H':Hp}{v:V}{u:ag},Inv (nU CX P w K mg base N qual scope f dc A outer s H E) [] σ' H' s'->RelV v u->Q v H'->CE outer P w H s Q u s':=λ{σ' H' v u}J rv q=>⟨v,H',J.os,J.bare,J.base,J.hok,rv,q⟩
 cases fl with
 |ret u=>obtain⟨v,σ',H',J,rv,q⟩:=hs;exact fin J rv q|next=>obtain⟨σ',H',J,q⟩:=hs;exact fin (v:=V.non) (u:=mh) J rfl q|brk=>obtain⟨_,_,_,q⟩:=hs;exact False.elim q|cont=>obtain⟨_,_,_,q⟩:=hs;exact False.elim q
section
variable{X:Cx}{x:ai}{p pos:dG}{e:a_}{es:List a_}{t:TA}{id T:String}{r:List V->Hp->VK->Prop}
def G7(r:List V->Hp->VK->Prop)(t:TA):TE:=λσ H Q=>t σ H λvs H1=>r vs H1 Q
theorem lA(hc:mz X (.builtin id) r)(hg:Gl X x)(hm:X.mg x=none)(hv:uS x=some (.builtin id))(ha:PA X (e::es) t)(hn:x≠"__name__":=by decide)(jl:(x==("__debug__":ai))=false:=by decide) (he:bE (e::es) X.env=(false,eval e X.env)::bE es X.env:=by rfl)(dk:(backTo pos (bE es X.env)).any (·.1)=false:=by rfl):PE X (.Call (.Name x p) (e::es) [] pos) (G7 r t):=by
 intro ae s σ H Q I h;refine su (qF I hg hm hv ?_ hn jl);exact Z_ (aU (ha pos ae s σ H _ I h) λus s1⟨vs,H1,I1,r1,q1⟩=>hc ae s1 σ H1 vs us Q I1 r1 q1) he dk
theorem Q3(hc:mz X (.type T) r)(hg:Gl X x)(hm:X.mg x=none)(hv:uS x=some (.type T))(ha:PA X (e::es) t)(hn:x≠"__name__":=by decide)(jl:(x==("__debug__":ai))=false:=by decide) (he:bE (e::es) X.env=(false,eval e X.env)::bE es X.env:=by rfl)(dk:(backTo pos (bE es X.env)).any (·.1)=false:=by rfl):PE X (.Call (.Name x p) (e::es) [] pos) (G7 r t):=by
 intro ae s σ H Q I h;refine su (qF I hg hm hv ?_ hn jl);exact xC (aU (ha pos ae s σ H _ I h) λus s1⟨vs,H1,I1,r1,q1⟩=>hc ae s1 σ H1 vs us Q I1 r1 q1) he dk
end
end L2
namespace HT
open PySem PyProof.Rows
def lexLt:List Int->List Int->Bool|[],[]=>false|[],_::_=>true|_::_,[]=>false|x::xs,y::ys=>if x=y then lexLt xs ys else decide (x<y)
theorem Q4(x y:Int)(xs ys:List Int):lexLt (x::xs) (y::ys)=if x=y then lexLt xs ys else decide (x<y):=rfl
theorem abO:lexLt [] []=false:=rfl
theorem abP(y:Int)(ys:List Int):lexLt [] (y::ys)=true:=rfl
theorem abQ(x:Int)(xs:List Int):lexLt (x::xs) []=false:=rfl
theorem abR(A:dF)(s:aA)(a:Int)(t:jB)(c:Int)(u:jB):∃e,SeqAt.EqAt A s (.int a t) (.int c u) e/\(e=true↔a=c):=⟨(a==c),SeqAt.EqAt.int_int a t c u,by simp⟩
section
variable{prog:bR}{w:bI}{A:dF}{E:ag->aA->Prop}{s:aA}
def gO(n d:Nat):Option Int->Nat|none=>d|some v=>if v<0 then(v+(n:Int)).toNat else min v.toNat n
theorem Q5(n d k:Nat):gO n d (some (k:Int))=min k n:=by show(if(k:Int)<0 then((k:Int)+(n:Int)).toNat else min (k:Int).toNat n)=min k n;rw[ah (by lia),xh]
end
end HT
namespace L2
open PySem PySem.Spec PyProof.Rows
abbrev TO:=St->Hp->(Option Int->Hp->Prop)->Prop
def PO(X:Cx)(e:Option a_)(t:TO):Prop:=∀(ae:List (af×bx))(s:aA)(σ:St)(H:Hp)(Q:Option Int->Hp->Prop),Inv X ae σ H s->t σ H Q->aH (aO X.prog X.w) X.A (evalPart e X.env) (λu s'=>∃o H',Inv X ae σ H' s'/\IsPart u o/\Q o H') X.xe s
def abS:TO:=λ_ H Q=>Q none H
def abT(t:TE):TO:=λσ H Q=>t σ H λx H1=>∃i,x=.int i/\Q (some i) H1
theorem intsAre_of{ns:List Int}:∀{us:List ag},Vals (ns.map V.int) us->jA us ns:=by induction ns with|nil=>intro us r;rw[xq]at r;cases r;exact .nil|cons n ns ih=>intro us r;rw[cV]at r;cases r with|cons r1 r2=>obtain⟨t,e⟩:=r1;subst e;exact .cons n t (ih r2)
section
variable{X:Cx}{e:a_}{te:TE}{lo hi:Option a_}{tl th:TO}{pos p2:dG}
theorem Q6:PO X none abS:=by intro ae s σ H Q I h;rw[Pg];exact bN ⟨none,H,I,.none,h⟩
theorem BQ(h:PE X e te):PO X (some e) (abT te):=by intro ae s σ H Q I hw;rw[evalPart_some];refine aU (h ae s σ H _ I hw) λu s1 br=>?_;obtain⟨x,H1,I1,r1,q1⟩:=br;obtain⟨i,rfl,q⟩:=q1;obtain⟨t,rfl⟩:=r1;exact⟨some i,H1,I1,.int i t,q⟩
def Q7(X:Cx)(r:V->Option Int->Option Int->Hp->VK->Prop):Prop:=∀(ae:List (af×bx))(s:aA)(σ:St)(H:Hp)(x:V)(v vl vu:ag)(lo hi:Option Int)(sl:af)(Q:VK),Inv X ae σ H s->RelV x v->s.heap.IsSliceOf sl vl vu .none->IsPart vl lo->IsPart vu hi->r x lo hi H Q->∃T id,typeLookup (.type T) "__getitem__"=pure (some (.builtin id))/\s.TypeIs v T/\aH (aO X.prog X.w) X.A (uV v (.ref sl)) (EP X ae σ Q) X.xe s
def tSl(r:V->Option Int->Option Int->Hp->VK->Prop)(te:TE)(tl th:TO):TE:=λσ H Q=>te σ H λx H1=>tl σ H1 λl H2=>th σ H2 λu H3=>r x l u H3 Q
theorem G8{r:V->Option Int->Option Int->Hp->VK->Prop}(hr:Q7 X r)(he:PE X e te)(hl:PO X lo tl)(hu:PO X hi th):PE X (.Subscript e (.Slice lo hi none p2) pos) (tSl r te tl th):=by intro ae s σ H Q I h;refine FP (aU (he ae s σ H _ I h) λv s1 br=>?_);obtain⟨x,H1,I1,r1,q1⟩:=br;refine wpAny_Slice (aU (hl ae s1 σ H1 _ I1 q1) λvl s2 eE=>?_);obtain⟨l,H2,I2,pl,q2⟩:=eE;refine aU (hu ae s2 σ H2 _ I2 q2) λvu s3 yk=>?_;obtain⟨u,H3,I3,pu,q3⟩:=yk;rw[Pg];refine bN ?_;have I4:Inv X ae σ H3 {s3 with heap:=s3.heap.push {cls:=.type "slice",data:=.fields #[vl,vu,.none]}}:=I3.kept (t':=s3.toks) λb ob q=>cN _ q;obtain⟨T,id,hT,ht,hg⟩:=hr ae {s3 with heap:=s3.heap.push {cls:=.type "slice",data:=.fields #[vl,vu,.none]}} σ H3 x v vl vu l u s3.heap.objs.size Q I4 r1 (Heap.IsSliceOf.new ..) pl pu q3;show aH (aO X.prog X.w) X.A (FJ e (.Slice lo hi none p2) v (.ref s3.heap.objs.size)) (EP X ae σ Q) X.xe {s3 with heap:=s3.heap.push {cls:=.type "slice",data:=.fields #[vl,vu,.none]}};exact tail_any (ops:=[.ref s3.heap.objs.size,v]) ht hT hg (by with_unfolding_all rfl)
def mG(xs:List V)(lo hi:Option Int):List V:=(xs.drop (HT.gO xs.length 0 lo)).take (HT.gO xs.length xs.length hi-HT.gO xs.length 0 lo)
theorem abU(xs:List V)(lo hi:Option Int):(mG xs lo hi).length<=xs.length:=by unfold mG;rw[jd,qo];lia
end
def qN(n:Nat)(i:Int):Option Nat:=if 0<=i then(if i<n then some i.toNat else none)else if -(n:Int)<=i then some (i+n).toNat else none
def nV{α:Type}(xs:List α)(i:Int):Option α:=(qN xs.length i).bind λj=>xs[j]?
theorem abV{n:Nat}{i:Int}{j:Nat}(h:qN n i=some j):seqIndex? i n=some j/\j<n/\ -(n:Int)<=i/\i<n:=by
 unfold qN at h;by_cases h0:0<=i
 ·rw[aj h0]at h
  by_cases h1:i<n
  ·rw[aj h1]at h
   have e:i.toNat=j:=cM.inj h;exact⟨by rw[Pk h0 h1,e],by lia,by lia,h1⟩
  ·rw[ah h1]at h;cases h
 ·rw[ah h0]at h
  by_cases h1: -(n:Int)<=i
  ·rw[aj h1]at h
   have e:(i+n).toNat=j:=cM.inj h;exact⟨by rw[Pj (by lia) h1,e],by lia,h1,by lia⟩
  ·rw[ah h1]at h;cases h
theorem Q8{α:Type}{xs:List α}{i:Int}{v:α}(h:nV xs i=some v):∃j,seqIndex? i xs.length=some j/\xs[j]? =some v/\j<xs.length/\ -(xs.length:Int)<=i/\i<xs.length:=by unfold nV at h;cases e:qN xs.length i with|none=>rw[e]at h;cases h|some j=>rw[e]at h;obtain⟨h1,h2,h3,h4⟩:=abV e;exact⟨j,h1,h,h2,h3,h4⟩
theorem abW{α:Type}{xs:List α}{j:Nat}{v:α}(h:xs[j]? =some v):nV xs (j:Int)=some v:=by
 have hj:j<xs.length:=(eo.mp h).1;have e:qN xs.length (j:Int)=some j:=by unfold qN;rw[aj (by lia),aj (by lia)];simp
 unfold nV;rw[e];exact h
def G9(b:a_):Prop:=∀o i,A_ b false o i=operate [o,i] (uV o i)
def yr(X:Cx)(r:R2):Prop:=∀(value slice:a_)(ae:List (af×bx))(s:aA)(σ:St)(H:Hp)(x y:V)(v u:ag)(Q:VK),Inv X ae σ H s->RelV x v->RelV y u->r x y H Q->A_ slice false v u=operate [v,u] (uV v u)->aH (aO X.prog X.w) X.A (FJ value slice v u) (EP X ae σ Q) X.xe s
def MtR(X:Cx)(id:String)(r:V->List V->Hp->VK->Prop):Prop:=∀(ae:List (af×bx))(s:aA)(σ:St)(H:Hp)(x:V)(xs:List V)(v:ag)(us:List ag)(Q:VK),Inv X ae σ H s->RelV x v->Vals xs us->r x xs H Q->aH (aO X.prog X.w) X.A (call (.builtin id) (v::us)) (EP X ae σ Q) X.xe s
section
variable{X:Cx}{a b:a_}{ta tb:TE}{pos:dG}
theorem Q9{r:R2}(hr:yr X r)(ha:PE X a ta)(hb:PE X b tb)(hs:G9 b):PE X (.Subscript a b pos) (qJ r ta tb):=by intro ae s σ H Q I h;exact FP (GR ha hb I h λv u s2 x y H2 I2 rx ry q=>hr a b ae s2 σ H2 x y v u Q I2 rx ry q (hs _ _))
inductive G_(K:aG)(x y:V)(H:Hp)(Q:VK):Prop|mk p xs i v (z:x=.ref p) (z:y=.int i) (z:aE K H p xs) (z:nV xs i=some v) (z:Q v H)
inductive Ha(K:aG)(x y:V)(H:Hp)(Q:VK):Prop|mk p xs i v (z:x=.ref p) (z:y=.int i) (z:cW K H p xs) (z:nV xs i=some v) (z:Q v H)
theorem abX:yr X (G_ X.K):=by
 intro value slice ae s σ H x y v u Q I rx ry h hs;obtain⟨p,xs,i,z,rfl,rfl,hq,he,q⟩:=h;cases rx;obtain⟨t,rfl⟩:=ry;obtain⟨its,r,pl,hz⟩:=I.list hq;obtain⟨j,h1,h2,h3,h4,h5⟩:=Q8 he;obtain⟨w,ew,gZ⟩:=r.get h2;have hl:=r.length;have hn:=GW;have fin:EP X ae σ Q w s:=⟨z,H,I,gZ,q⟩;by_cases h0:0<=i
 ·have hj:i.toNat=j:=by rw[Pk h0 h5]at h1;exact cM.inj h1
  exact item_listR pl.isList h0 (by lia) (by rw[hj];simpa using ew) fin hs
 ·have hj:(i+(its.toArray.size:Int)).toNat=j:=by rw[Pj (by lia) h4]at h1;rw[eX,<-hl];exact cM.inj h1
  exact OS (x:=w) pl.isList.typeIs slot_list_getitem.lookup (wpAny_getItem_list_neg (Q:=λr s'=>r=w/\EP X ae σ Q r s') pl.isList (by lia) (by rw[eX]<;>lia) (by lia) (by rw[hj];simpa using ew) ⟨rfl,fin⟩) hs
theorem abY:yr X (Ha X.K):=by
 intro value slice ae s σ H x y v u Q I rx ry h hs;obtain⟨p,xs,i,z,rfl,rfl,hq,he,q⟩:=h;cases rx;obtain⟨t,rfl⟩:=ry;obtain⟨its,r,pl,hz⟩:=I.tuple hq;obtain⟨j,h1,h2,h3,h4,h5⟩:=Q8 he;obtain⟨w,ew,gZ⟩:=r.get h2;have hl:=r.length;have hn:=GW;have fin:EP X ae σ Q w s:=⟨z,H,I,gZ,q⟩
 exact OS (x:=w) pl.typeIs slot_tuple_getitem.lookup (getItem_tuple (j:=j) (Q:=λr s'=>r=w/\EP X ae σ Q r s') pl (by lia) (by lia) (by rw[eX,<-hl];exact h1) (by simpa using ew) ⟨rfl,fin⟩) hs
theorem abZ(lo hi:Option Int)(n:Nat):(sC lo hi none n).1=((HT.gO n 0 lo:Nat):Int)/\(sC lo hi none n).2.1=((HT.gO n n hi:Nat):Int)/\(sC lo hi none n).2.2=1:=by
 refine⟨?_,?_,rfl⟩
 ·cases lo with
  |none=>simp[sC,HT.gO]|some i=>
   simp only[sC,HT.gO,OO,show(1:Int)>0 by decide,qj];by_cases h:i<0
   ·simp only[h,qj]<;>lia
   ·simp only[h,l9]<;>lia
 ·cases hi with
  |none=>simp[sC,HT.gO]|some i=>
   simp only[sC,HT.gO,OO,show(1:Int)>0 by decide,qj];by_cases h:i<0
   ·simp only[h,qj]<;>lia
   ·simp only[h,l9]<;>lia
theorem ab0(its:List ag)(lo hi:Option Int):slicePick its.toArray lo hi none=((its.drop (HT.gO its.length 0 lo)).take (HT.gO its.length its.length hi-HT.gO its.length 0 lo)).toArray:=by obtain⟨h1,h2,h3⟩:=abZ lo hi its.toArray.size;unfold slicePick;rw[h1,h2,h3];simp only[sliceRange_one,pick_run,eX]<;>rfl
inductive ab1(K:aG)(x:V)(lo hi:Option Int)(H:Hp)(Q:VK):Prop|mk a xs (z:x=.ref a) (z:aE K H a xs) (z:∀p,H p=none->Q (.ref p) (upd H p (.lst (mG xs lo hi))))
theorem Hc:Q7 X (ab1 X.K):=by intro ae s σ H x v vl vu lo hi sl Q I rx hs pl pu h;obtain⟨a,xs,rfl,hx,q⟩:=h;cases rx;obtain⟨its,r,ht,hz⟩:=I.list hx;have hlen:=r.length;refine⟨"list",_,slot_list_getitem.lookup,ht.isList.typeIs,?_⟩;refine wpAny_getItem_list_slice ht.isList hs pl pu .none (by simp) ?_ (by rw[eX]<;>lia);rw[ab0,<-hlen];refine⟨.ref s.heap.objs.size,_,I.laid (t':=s.toks) (o:=.lst (mG xs lo hi)) (λb ob q=>cN _ q) (bM _) ?_,rfl,q _ (I.hok.fresh (bM _))⟩;exact⟨aZ (abU xs lo hi) hz,_,0,(r.drop (HT.gO xs.length 0 lo)).take (HT.gO xs.length xs.length hi-HT.gO xs.length 0 lo),eC _ rfl⟩
theorem ab2:mz X (.builtin "len") (λxs H Q=>∃p ys,xs=[.ref p]/\(aE X.K H p ys∨cW X.K H p ys)/\Q (.int ys.length) H):=by
 intro ae s σ H xs us Q I r h;obtain⟨p,ys,rfl,hq,q⟩:=h;obtain⟨u,rfl,rx⟩:=vals1 r;cases rx;have hn:=GW;rcases hq with hq|hq
 ·obtain⟨its,r',pl,hz⟩:=I.list hq
  have hlen:=r'.length;exact Calls.call_len_list pl.isList (by simp only[eX]<;>lia) ⟨.int ys.length,H,I.tok _,⟨s.toks+1,by rw[eX,hlen]⟩,q⟩
 ·obtain⟨its,r',pl,hz⟩:=I.tuple hq
  have hlen:=r'.length;exact len_tuple pl (by simp only[eX]<;>lia) ⟨.int ys.length,H,I.tok _,⟨s.toks+1,by rw[eX,hlen]⟩,q⟩
def Q_(K:aG)(T:String)(x:V)(H:Hp):Prop:=match x with|.str _=>T="str"|.int _=>T="int"|.ref p=>(T="list"/\∃xs,aE K H p xs)∨(T="tuple"/\∃o,K.lookup p=some o/\o.cls=.type "tuple"/\o.dict=none)∨(T="dict"/\((∃kvs,H p=some (.dK kvs))∨∃kvs,H p=some (.dT kvs)))∨(T="set"/\∃S n,H p=some (.set S n))|_=>False
theorem ab3{σ:St}{T:String}(I:Inv X ae σ H s)(r:RelV x v)(ty:Q_ X.K T x H):s.TypeIs v T/\∀a,v=.ref a->∃ob,s.heap.get? a=some ob/\ob.dict=none:=by
 cases x with
 |str z=>obtain⟨t,rfl⟩:=r;cases(show T="str" from ty);exact⟨typeIs_str s z t,λ_ e=>nomatch e⟩|int i=>obtain⟨t,rfl⟩:=r;cases(show T="int" from ty);exact⟨typeIs_int s i t,λ_ e=>nomatch e⟩|ref p=>
  cases r;rcases ty with⟨rfl,xs,hq⟩|⟨rfl,o,hk,hc,hd⟩|⟨rfl,hk⟩|⟨rfl,S,n,hk⟩
  ·obtain⟨its,_,pl,_⟩:=I.list hq
   refine⟨pl.isList.typeIs,λa e=>?_⟩;cases e;obtain⟨o,n,e,c,hd,_⟩:=pl;exact⟨o,e,hd⟩
  ·refine⟨⟨o,I.gX p o hk,hc⟩,λa e=>?_⟩
   cases e;exact⟨o,I.gX _ o hk,hd⟩
  ·have z:∃o,s.heap.get? p=some o/\o.ExactDict:=by
    rcases hk with⟨kvs,hk⟩|⟨kvs,hk⟩
    ·obtain⟨_,_,_,_,o,_,_,e,ex,_⟩:=I.hok p _ hk
     exact⟨o,e,ex⟩
    ·obtain⟨_,_,_,_,o,_,_,e,ex,_⟩:=I.hok p _ hk
     exact⟨o,e,ex⟩
   obtain⟨o,e,ex⟩:=z;refine⟨⟨o,e,ex.1⟩,λa e2=>?_⟩;cases e2;exact⟨o,e,ex.2.1⟩
  ·obtain⟨o,_,_,_,e,ex,_⟩:=I.hok p _ hk
   refine⟨⟨o,e,ex.1⟩,λa e2=>?_⟩;cases e2;exact⟨o,e,ex.2.1⟩|_=>exact False.elim ty
def Ra(K:aG)(T:String)(r:V->List V->Hp->VK->Prop)(to:TE)(t:TA):TE:=λσ H Q=>to σ H λx H1=>Q_ K T x H1/\t σ H1 λxs H2=>r x xs H2 Q
variable{o e:a_}{es:List a_}{to:TE}{t:TA}{name:ai}{apos cO:dG}{T id:String}{r:V->List V->Hp->VK->Prop}
theorem yt(pa:PlainAttrs T)(slot:Slot T name id)(yu:typeOf (.builtin id)=pure (.type "method_descriptor"))(hm:MtR X id r)(ho:PE X o to)(ha:PA X (e::es) t) (o7:me o name X.env (eval o X.env)=eval o X.env:=by rfl)
  (He:((backTo cO (bE (e::es) X.env)).all (λx=> !x.1)&&(backToKw cO (j_ [] X.env)).all (λx=>x.1.isSome)&&decide ((e::es).length+([]:List nJ).length+(if([]:List nJ).isEmpty then 0 else 1)<30))=true:=by rfl)
  (o8:(apos.endLine==cO.line)=true:=by rfl)(hs:bE (e::es) X.env=(false,eval e X.env)::bE es X.env:=by rfl)(ab4:(backTo cO (bE es X.env)).any (·.1)=false:=by rfl):
  PE X (.Call (.Attribute o name apos) (e::es) [] cO) (Ra X.K T r to t):=by
 intro ae s σ H Q I h;refine wpAny_Call_method_late o7 He o8 rfl (aU (ho ae s σ H _ I h) λv s1 br=>?_);obtain⟨x,H1,I1,r1,ty,q1⟩:=br;obtain⟨h1,h2⟩:=ab3 I1 r1 ty;refine⟨T,id,pa,slot,yu,h1,h2,?_⟩;have hA:=ha cO ae s1 σ H1 _ I1 q1;rw[hs]at hA⊢;refine Bd (by show(false||(backTo cO (bE es X.env)).any (·.1))=false;rw[ab4]<;>rfl) (Be ?_);refine aU hA λus s2 eE=>?_;obtain⟨vs,H2,I2,r2,q2⟩:=eE;exact hm ae s2 σ H2 x vs v us Q I2 r1 r2 q2
end
def Rb(X:Cx)(id:String)(r:V->List V->Hp->VK->Prop):Prop:=∀(ae:List (af×bx))(s:aA)(σ:St)(H:Hp)(x:V)(xs:List V)(v:ag)(us:List ag)(Q:VK),Inv X ae σ H s->RelV x v->Vals xs us->r x xs H Q->aH (aO X.prog X.w) X.A (call (.builtin id) (v::us)) (EP X ae σ Q) X.xe s
theorem Vals.one:∀{x:V}{us:List ag},Vals [x] us->∃u,us=[u]/\RelV x u|_,_,.cons r .nil=>⟨_,rfl,r⟩
section
variable{X:Cx}{ae:List (af×bx)}{σ:St}{H:Hp}{s:aA}{l b:af}{xs ys zs:List V}
theorem Inv.vj{its ko:List ag}{n:Nat}{f:Array ag->Array ag}{t':Nat}(I:Inv X ae σ H s)(hH:H l=some (.lst xs)) (e:s.heap.get? l=some {cls:=.type "list",data:=.seq its.toArray n})(hf:f its.toArray=ko.toArray)(hv:Vals ys ko)(hz:ys.length<=aS):
  Inv X ae σ (upd H l (.lst ys)) {s with heap:=s.heap.update l (u0 f),toks:=t'}:=by
 have q:=PySem.IsL.update e f;rw[hf]at q;refine I.write (x:=l) (e:=l) (by rw[hH];exact trivial) (.inl rfl) (λb' u hb hu=>(PU s.heap (u0 f) (Ne.symm hb)).trans hu) ⟨_,q⟩ ?_;exact⟨hz,ko,_,hv,q⟩
theorem Inv.Hf{t':Nat}(I:Inv X ae σ H s)(hv:Vals ys its)(hz:ys.length<=aS):Inv X ae σ (upd H s.heap.objs.size (.lst ys)) {s with heap:=s.heap.push {cls:=.type "list",data:=.seq its.toArray},toks:=t'}:=
 I.laid (λ_ _ q=>cN _ q) (bM _) ⟨hz,its,0,hv,eC _ rfl⟩
theorem Inv.fresh(I:Inv X ae σ H s):H s.heap.objs.size=none:=I.hok.fresh (bM _)
theorem Inv.o9(I:Inv X ae σ H s)(hH:H l=some (.lst xs)):xs.length<=aS/\∃(its:List ag)(n:Nat),Vals xs its/\xs.length=its.length/\s.heap.get? l=some {cls:=.type "list",data:=.seq its.toArray n}:=by obtain⟨z,its,n,r,e⟩:=I.hok l _ hH;exact⟨z,its,n,r,r.length,e⟩
theorem ab5{n:Nat}(h:n<=aS):Ga n=false:=by unfold Ga;exact c9 (by lia)
end
section
variable{X:Cx}
inductive Rf(x:V)(vs:List V)(H:Hp)(Q:VK):Prop|mk l xs y (z:x=.ref l) (z:vs=[y]) (z:H l=some (.lst xs)) (z:xs.length<aS) (z:Q .non (upd H l (.lst (xs++[y]))))
theorem ab6:Rb X "list.append" Rf:=by
 intro ae s σ H x vs v us Q I rx rv h
 obtain⟨l,xs,y,rfl,rfl,hH,hz,q⟩:=h
 cases rx
 obtain⟨u,rfl,ru⟩:=rv.one
 obtain⟨z,its,n,r,hl,e⟩:=I.o9 hH
 refine call_meets F.slot_list_append ⟨_,e,rfl⟩ F.entry_list_append (F.args_list_append_2 _ _) (PySem.list_append l its.toArray n u (by rw[eX];lia)) ⟨e,?_⟩
 refine⟨.non,_,I.vj (ko:=its++[u]) hH e (by simp) (r.append (.cons ru .nil)) ?_,rfl,q⟩
 rw[eL,Fc]
 lia
def ab7:V->List V->Hp->VK->Prop:=λx vs H Q=>∃l b xs zs,x=.ref l/\vs=[.ref b]/\H l=some (.lst xs)/\H b=some (.lst zs)/\xs.length+zs.length<=aS/\Q .non (upd H l (.lst (xs++zs)))
theorem BR:Rb X "list.extend" ab7:=by
 intro ae s σ H x vs v us Q I rx rv h
 obtain⟨l,b,xs,zs,rfl,rfl,hH,hB,hz,q⟩:=h
 cases rx
 obtain⟨u,rfl,ru⟩:=rv.one
 cases ru
 obtain⟨z,its,n,r,hl,e⟩:=I.o9 hH
 obtain⟨z2,iY,n2,r2,iZ,e2⟩:=I.o9 hB
 have hsz:its.toArray.size+iY.toArray.size<=aS:=by rw[eX,eX];lia
 have ab8:¬(!its.toArray.isEmpty&&Ga (its.toArray.size+iY.toArray.size))=true:=by
  rw[ab5 hsz,Oa]
  exact fR
 refine call_meets F.slot_list_extend ⟨_,e,rfl⟩ F.entry_list_extend (F.args_list_extend_2 _ _) (AutoSeq1.list_extend_list_list_0 l its.toArray n b iY.toArray n2 ab8 (by rw[eX];lia) (by lia)) ⟨e,e2,?_⟩
 refine⟨.non,_,I.vj (ko:=its++iY) hH e (by simp) (r.append r2) ?_,rfl,q⟩
 rw[eL]
 lia
def ab9:R2:=λx y H Q=>∃l b xs zs,x=.ref l/\y=.ref b/\H l=some (.lst xs)/\H b=some (.lst zs)/\xs.length+zs.length<=aS/\∀p,H p=none->Q (.ref p) (upd H p (.lst (xs++zs)))
theorem Hg:fW X (xM .Add) ab9:=by
 intro ae s σ H x y v u Q I rx ry h;obtain⟨l,b,xs,zs,rfl,rfl,hH,hB,hz,q⟩:=h;cases rx;cases ry;obtain⟨z,its,n,r,hl,e⟩:=I.o9 hH;obtain⟨z2,iY,n2,r2,iZ,e2⟩:=I.o9 hB;refine PySem.P.add_list e e2 ?_ (by rw[eX,eX];lia);have ea:its.toArray++iY.toArray=(its++iY).toArray:=by simp
 rw[ea];exact⟨.ref _,_,I.Hf (t':=s.toks) (r.append r2) (by rw[eL];lia),rfl,q _ I.fresh⟩
end
theorem Vals.ints:∀{ns:List Int}{us:List ag},Vals (ns.map V.int) us->jA us ns|[],us,h=>by rw[xq]at h;cases h;exact IntsAre.nil|n::ns,us,h=>by rw[cV]at h;cases h with|cons r t=>obtain⟨k,rfl⟩:=r;exact IntsAre.cons n k (Vals.ints t)
theorem Vals.BS(r:Vals [V.ref a] us):us=[dg a]:=by cases r with|cons r t=>cases t;cases r;rfl
abbrev Rg(h:bg)(c:af)(v:Option ag):Prop:=h.IsCell c v
def aca(scope sc:dZ):dZ:={scope with names:=scope.names.map λ(n,k)=>if(k==.free&&sc.kind==.function&&sc.names.lookup n==some .cell)then(n,.cell)else(n,k)}
def gE(cells:List (ai×af)):List (ai×iS)->List (ai×af)->List (ai×af)|[],acc=>acc|(n,k)::r,acc=>if k==.free then gE cells r ((n,(cells.lookup n).getD 0)::acc)else gE cells r acc
theorem Rh(env:d9)(f:ai×iS->List (ai×af)->ie (ForInStep (List (ai×af)))) (hf:∀n k c,f (n,k) c=if k==.free then(do let a<-cellOf env n;pure (.yield ((n,a)::c)))else pure (.yield c)):
  ∀(names:List (ai×iS))(acc:List (ai×af)),(∀y∈names,y.2=.free->∃c,env.cells.lookup y.1=some c)->forIn names acc f=pure (gE env.cells names acc)
 |[],acc,_=>by rw[AJ];rfl|(n,k)::r,acc,h=>by
  rw[Fp,hf];have ih:=λacc=>Rh env f hf r acc λy hy=>h y (b8 _ hy);unfold gE;by_cases hk:(k==uZ)=true
  ·rw[aj hk,aj hk]
   obtain⟨c,hc⟩:=h (n,k) cK (by simpa using hk);have e:cellOf env n=pure c:=by unfold cellOf;rw[hc]
   rw[e];have e2:(env.cells.lookup n).getD 0=c:=by rw[hc];rfl
   rw[e2];exact ih _
  ·rw[ah hk,ah hk]
   exact ih _
theorem acb{scope:dZ}{env:d9}(h:∀y∈scope.names,y.2=.free->∃c,env.cells.lookup y.1=some c):Ba scope env=pure (gE env.cells scope.names []):=by simp only[Ba];rw[Rh env _ (λn k c=>rfl) scope.names [] h];rfl
theorem mem_lookup{α:Type}:∀{l:List (ai×α)}{n:ai}{c:α},(n,c)∈l->∃c',l.lookup n=some c'
 |(k,v)::r,n,c,h=>by rw[sh];cases hb:n==k with
  |true=>exact⟨_,rfl⟩|false=>
   rcases b9.mp h with e|h
   ·cases e;simp at hb
   ·exact mem_lookup h
theorem BU{cells:List (ai×af)}:∀{names:List (ai×iS)}{acc:List (ai×af)}{n:ai}{c:af},(n,c)∈gE cells names acc->(n,c)∈acc∨((n,.free)∈names/\c=(cells.lookup n).getD 0)
 |[],_,_,_,h=>.inl h|(m,k)::r,acc,n,c,h=>by
  unfold gE at h;split at h
  ·rename_i hk
   have hk:k=.free:=by simpa using hk
   rcases BU h with h|⟨h1,h2⟩
   ·rcases b9.mp h with e|h
    ·cases e;exact .inr ⟨hk▸cK,rfl⟩
    ·exact .inl h
   ·exact .inr ⟨b8 _ h1,h2⟩
  ·rcases BU h with h|⟨h1,h2⟩
   ·exact .inl h
   ·exact .inr ⟨b8 _ h1,h2⟩
theorem Hh{cells:List (ai×af)}:∀{names:List (ai×iS)}{acc:List (ai×af)}{p:ai×af},p∈acc->p∈gE cells names acc
 |[],_,_,h=>h|(m,k)::r,acc,p,h=>by
  unfold gE;split
  ·exact Hh (b8 _ h)
  ·exact Hh h
theorem Hi{cells:List (ai×af)}:∀{names:List (ai×iS)}{acc:List (ai×af)}{n:ai},(n,.free)∈names->(n,(cells.lookup n).getD 0)∈gE cells names acc
 |(m,k)::r,acc,n,h=>by
  unfold gE;rcases b9.mp h with e|h
  ·cases e
   exact Hh cK
  ·split
   ·exact Hi h
   ·exact Hi h
theorem yw:∀{names:List (ai×iS)}{h:bg}{acc:List (ai×af)}{x:ai}{c:af},(x,c)∈gg h.objs.size names acc->(x,c)∈acc∨((x,.cell)∈names/\h.objs.size<=c/\Rg (qu h names) c none)
 |[],_,_,_,_,h=>.inl h|(n,k)::r,h,acc,x,c,hm=>by
  unfold gg at hm;unfold qu;split at hm
  ·rename_i hk
   rw[aj hk];have hk:k=.cell:=by simpa using hk
   rw[<-ig h {cls:=.type "cell",data:=.cell none}]at hm;rcases yw hm with hm|⟨h1,h2,h3⟩
   ·rcases b9.mp hm with e|hm
    ·cases e
     exact .inr ⟨hk▸cK,bM _,_,A9 r _ _ _ (eC _ rfl),rfl⟩
    ·exact .inl hm
   ·rw[ig]at h2
    exact .inr ⟨b8 _ h1,AQ h2,h3⟩
  ·rename_i hk
   rw[ah hk];rcases yw hm with hm|⟨h1,h2,h3⟩
   ·exact .inl hm
   ·exact .inr ⟨b8 _ h1,h2,h3⟩
theorem BV:∀{names:List (ai×iS)}{n:Nat}{acc:List (ai×af)}{p:ai×af},p∈acc->p∈gg n names acc
 |[],_,_,_,h=>h|(m,k)::r,n,acc,p,h=>by
  unfold gg;split
  ·exact BV (b8 _ h)
  ·exact BV h
theorem Hj:∀{names:List (ai×iS)}{n:Nat}{acc:List (ai×af)}{x:ai},(x,.cell)∈names->∃c,(x,c)∈gg n names acc
 |(m,k)::r,n,acc,x,h=>by
  unfold gg;rcases b9.mp h with e|h
  ·cases e
   exact⟨n,BV cK⟩
  ·split
   ·exact Hj h
   ·exact Hj h
theorem Hk:∀{names:List (ai×iS)}{h:bg}{acc:List (ai×af)}{x y:ai}{c:af},(∀p∈acc,p.2<h.objs.size)->(∀x y c,(x,c)∈acc->(y,c)∈acc->x=y)->(x,c)∈gg h.objs.size names acc->(y,c)∈gg h.objs.size names acc->x=y
 |[],_,_,_,_,_,_,hi,h1,h2=>hi _ _ _ h1 h2|(n,k)::r,h,acc,x,y,c,hl,hi,h1,h2=>by
  unfold gg at h1 h2;split at h1
  ·rename_i hk
   rw[aj hk]at h2;rw[<-ig h {cls:=.type "cell",data:=.cell none}]at h1 h2;refine Hk (h:=h.push _) (λp hp=>?_) (λx y c a b=>?_) h1 h2
   ·rw[ig]
    rcases b9.mp hp with rfl|hp
    ·exact Fv _
    ·exact Fu (hl p hp)
   ·rcases b9.mp a with e|a<;>rcases b9.mp b with e'|b
    ·cases e;cases e';rfl
    ·cases e;exact absurd (hl _ b) (ma _)
    ·cases e';exact absurd (hl _ a) (ma _)
    ·exact hi _ _ _ a b
  ·rename_i hk
   rw[ah hk]at h2;exact Hk hl hi h1 h2
theorem acd{M:uW}{A:dF}{E:ag->aA->Prop}{s:aA}{scope:dZ}{globals:af}{closure:List (ai×af)}{qual:ai}{func:Option af}{code:ag}{around:d9}{builtins:af}{Q:d9->aA->Prop} (h:Q (newEnv scope s.heap.objs.size globals (gg (s.heap.objs.size+1) scope.names closure) qual func code (some around) builtins) {s with heap:=qu (s.heap.push {cls:=.type "dict",data:=.dict #[]}) scope.names}):
  aH M A (newFunctionEnv scope globals closure [] qual func code (some around) builtins) Q E s:=by
 simp only[newFunctionEnv,ON,qj];refine aI (wpAny_alloc ?_);refine aI (wpAny_layCells _ (λn k c=>rfl) scope.names closure _ _ ?_);rw[show({s with heap:=s.heap.push {cls:=.type "dict",data:=.dict #[]}}:aA).heap.objs.size=s.heap.objs.size+1 from ig ..];rw[AJ];exact aI (bN (bN h))
theorem Hl{sc:dZ}:∀{names:List (ai×iS)}{x:ai}{k:iS},(names.map λ(n,k)=>if(k==uZ&&sc.kind==.function&&sc.names.lookup n==some .cell)then(n,Gf)else(n,k)).lookup x=some k->
  ∃k',names.lookup x=some k'/\(k=k'∨(k'=.free/\k=.cell))
 |[],_,_,h=>by simp at h|(n,k₀)::r,x,k,h=>by have ih:= @Hl sc r x k;have h':j7 x ((if(k₀==uZ&&sc.kind==.function&&sc.names.lookup n==some .cell)=true then(n,Gf)else(n,k₀))::(r.map _))=some k:=h;cases hx:x==n with
  |true=>
   simp only[sh,hx];by_cases hc:(k₀==uZ&&sc.kind==.function&&sc.names.lookup n==some .cell)=true
   ·rw[aj hc]at h'
    simp only[sh,hx]at h';cases h';simp only[cJ,uI]at hc;exact⟨k₀,rfl,.inr ⟨hc.1.1,rfl⟩⟩
   ·rw[ah hc]at h'
    simp only[sh,hx]at h';cases h';exact⟨_,rfl,.inl rfl⟩|false=>
   simp only[sh,hx];by_cases hc:(k₀==uZ&&sc.kind==.function&&sc.names.lookup n==some .cell)=true
   ·rw[aj hc]at h'
    simp only[sh,hx]at h';exact ih h'
   ·rw[ah hc]at h'
    simp only[sh,hx]at h';exact ih h'
structure sY(N:List ai)(sc scope:dZ)(own:List (ai×Nat)):Prop where
 kind:scope.kind=.function
 uniq:∀y∈scope.names,scope.names.lookup y.1=some y.2
 ix:∀p∈own,N[p.2]? =some p.1
 free:∀y∈scope.names,y.2=.free->sc.names.lookup y.1=some .cell∨sc.names.lookup y.1=some .free
 own:∀y∈scope.names,y.2=.local∨y.2=.cell->y.1∈own.map (·.1)∨y.1∉N
def wipe(σ:St):List Nat->St|[]=>σ|v::vs=>(wipe σ vs).set v none
theorem Hm(σ:St):∀vs:List Nat,(wipe σ vs).length=σ.length|[]=>rfl|v::vs=>by unfold wipe;rw[List.length_set,Hm σ vs]
theorem Hn{σ:St}{i:Nat}:∀{vs:List Nat},(wipe σ vs)[i]? =some (some x)->σ[i]? =some (some x)/\i∉vs
 |[],h=>⟨h,by simp⟩|v::vs,h=>by
  unfold wipe at h;by_cases hi:v=i
  ·subst hi
   by_cases hv:v<(wipe σ vs).length
   ·rw[E_ hv]at h;cases h
   ·rw[Fd (by simpa using hv)]at h;cases h
  ·rw[Fe hi]at h
   obtain⟨h1,h2⟩:=Hn h;exact⟨h1,by simp only[b9,not_or];exact⟨λe=>hi e.symm,h2⟩⟩
abbrev Cx.blk(X:Cx)(s:aA)(H:Hp)(scope:dZ)(eS:d9)(fp:List af):Cx:={X with gC:=s,mw:=H,env:=eS,outer:=X.stack,ex:=fp,fn:=λx=>scope.names.lookup x==some .cell,pn:=[],xe:=λ_ _=>False}
section
variable{X:Cx}{ae:List (af×bx)}{σ:St}{H:Hp}{s:aA}
theorem ace{scope:dZ}{own:List (ai×Nat)}{fp:List af}(I:Inv X ae σ H s)(ok:sY X.N X.env.scope scope own)(hN:X.N.Nodup)(lB:∀b∈fp,lr X ae H b/\b<s.heap.objs.size):Inv (X.blk s H scope (gV scope (gg (s.heap.objs.size+1) scope.names (gE X.env.cells scope.names [])) s.heap.objs.size X.env) fp) [] (wipe σ (own.map (·.2))) H {s with heap:=qu (s.heap.push {cls:=.type "dict",data:=.dict #[]}) scope.names}:=by
 have kn:∀y∈scope.names,y.2=.free->∃c,X.env.cells.lookup y.1=some c:=λy hy e=>by
  rcases ok.free y hy e with k|k
  ·exact I.ok.has _ (.inl k)
  ·exact I.ok.has _ (.inr k)
 generalize yx:gV scope (gg (s.heap.objs.size+1) scope.names (gE X.env.cells scope.names [])) s.heap.objs.size X.env=eS
 have kp:∀b o,s.heap.get? b=some o->(qu (s.heap.push {cls:=.type "dict",data:=.dict #[]}) scope.names).get? b=some o:=λb o e=>A9 _ _ _ _ (cN _ e)
 have hL:eS.locals=s.heap.objs.size:=by rw[<-yx];rfl
 have iE:eS.cells=gg (s.heap.objs.size+1) scope.names (gE X.env.cells scope.names []):=by rw[<-yx];rfl
 have Ho:eS.scope=aca scope X.env.scope:=by rw[<-yx];rfl
 rw[<-ig s.heap {cls:=.type "dict",data:=.dict #[]}]at iE
 have cm:∀{y c},(y,c)∈gE X.env.cells scope.names []->X.env.cells.lookup y=some c/\c<s.heap.objs.size:=λ{y c}hm=>by
  rcases BU hm with hm|⟨h1,rfl⟩
  ·cases hm
  ·obtain⟨c,hc⟩:=kn _ h1 rfl
   rw[hc]
   obtain⟨w,z⟩:=I.cell _ _ hc
   exact⟨rfl,z.lt⟩
 have mem:∀{y c},eS.cells.lookup y=some c->(X.env.cells.lookup y=some c/\c<s.heap.objs.size)∨(s.heap.objs.size+1<=c/\Rg (qu (s.heap.push {cls:=.type "dict",data:=.dict #[]}) scope.names) c none):=λ{y c}e=>by
  rw[iE]at e
  rcases yw (ib e)with hm|⟨_,h2,h3⟩
  ·exact .inl (cm hm)
  ·rw[ig]at h2;exact .inr ⟨h2,h3⟩
 have look:∀{y},scope.names.lookup y=some .free->∃c,eS.cells.lookup y=some c/\X.env.cells.lookup y=some c:=λ{y}hl=>by
  have hy:(y,uZ)∈scope.names:=ib hl
  obtain⟨c',e'⟩:=mem_lookup (BV (names:=scope.names) (n:=(s.heap.push {cls:=.type "dict",data:=.dict #[]}).objs.size) (Hi (cells:=X.env.cells) (acc:=[]) hy))
  rw[<-iE]at e'
  refine⟨c',e',?_⟩
  rw[iE]at e'
  rcases yw (ib e')with hm|⟨h1,_,_⟩
  ·exact(cm hm).1
  ·have:=ok.uniq _ h1
   rw[hl]at this;cases this
 have okB:(X.blk s H scope eS fp).Ok:=by
  refine⟨I.ok.mod,by show eS.scope.kind=_;rw[Ho];exact ok.kind,by show eS.globals=_;rw[<-yx];exact I.ok.glob,by show eS.builtins=_;rw[<-yx];exact I.ok.blt,by show s.heap.objs.size<=eS.locals;rw[hL];exact bM _,λy z c e1 e2=>?_,λy hy=>?_,λy c z e=>?_,I.ok.hd,I.ok.frames,.inl rfl,λb hb=>⟨?_,λy c e z=>?_⟩,I.bs,aZ I.ok.lj I.sz,λb o e hb=>?_,λb hb z=>?_,I.stack,I.Qq⟩
  ·have e1:eS.cells.lookup y=some c:=e1
   have e2:eS.cells.lookup z=some c:=e2
   rw[iE]at e1 e2
   refine Hk (λp hp=>?_) (λy z c a b=>I.ok.inj y z c (cm a).1 (cm b).1) (ib e1) (ib e2)
   rw[ig]
   exact Fu (cm (y:=p.1) (c:=p.2) hp).2
  ·show∃c,eS.cells.lookup y=some c
   have key:∀k,eS.kindOf y=some k->(k=.cell∨k=.free)->∃c,eS.cells.lookup y=some c:=λk hk jL=>by
    unfold Env.kindOf at hk
    rw[Ho]at hk
    obtain⟨k',e,r⟩:=Hl hk
    have:k'=.cell∨k'=.free:=by
     rcases r with rfl|⟨rfl,_⟩
     ·exact jL
     ·exact .inr rfl
    rcases this with rfl|rfl
    ·obtain⟨c,hm⟩:=Hj (n:=(s.heap.push {cls:=.type "dict",data:=.dict #[]}).objs.size) (acc:=gE X.env.cells scope.names []) (ib e)
     obtain⟨c',e'⟩:=mem_lookup hm
     exact⟨c',by rw[iE];exact e'⟩
    ·obtain⟨c,h1,_⟩:=look e
     exact⟨c,h1⟩
   rcases hy with hy|hy
   ·exact key _ hy (.inl rfl)
   ·exact key _ hy (.inr rfl)
  ·have z:(scope.names.lookup y==some Gf)=true:=z
   have z:scope.names.lookup y=some .cell:=by simpa using z
   have e:eS.cells.lookup y=some c:=e
   rw[iE]at e
   rcases yw (ib e)with hm|⟨_,h2,_⟩
   ·rcases BU hm with hm|⟨h1,_⟩
    ·cases hm
    ·have q:=ok.uniq _ h1
     rw[z]at q;cases q
   ·rw[ig]at h2
    exact AQ h2
  ·show b≠eS.locals
   rw[hL];exact eA (lB b hb).2
  ·have e:eS.cells.lookup y=some c:=e
   rcases mem e with⟨h1,_⟩|⟨h1,_⟩
   ·exact(lB b hb).1.2.2.2.2.1 y c h1 z
   ·have h2:s.heap.objs.size+1<=b:=by rw[<-z];exact h1
    exact absurd (fI (lB b hb).2 (AQ h2)) (ma _)
  ·rcases(lB b hb).1.2.2.2.1 with z|z
   ·exact I.ok.yc b o e z
   ·exact absurd (fI (cB e) (aZ I.ok.lj z)) (ma _)
  ·rcases b9.mp (I.GA b z)with z|z
   ·exact(lB b hb).1.2.1 z
   ·exact(lB b hb).1.2.2.1 z
 refine⟨okB,rfl,I.bare,Un.kept kp,⟨λ_=>none,?_,λi y av e1 e2 e3=>?_⟩,λy c e=>?_,?_,λy c e=>?_,λp hp=>?_,I.hok.kept kp,by rw[Hm];exact I.len⟩
 ·show Heap.Ns _ eS.locals _
  rw[hL]
  exact Heap.Ns.keeps (Heap.Ns.new ..) λb o e=>A9 _ _ _ _ e
 ·obtain⟨e2,cD⟩:=Hn e2
  have mH:scope.names.lookup y=some .free/\(eS.kindOf y=some .cell∨eS.kindOf y=some .free):=by
   have key:∀k,eS.scope.names.lookup y=some k->k=.local∨k=.cell∨k=.free->scope.names.lookup y=some .free/\(eS.kindOf y=some .cell∨eS.kindOf y=some .free):=λk hk jL=>by
    have lC:=hk
    rw[Ho]at hk
    obtain⟨k',e,r⟩:=Hl hk
    have no:¬(k'=.local∨k'=.cell):=λhh=>by
     rcases ok.own _ (ib e) hh with e'|e'
     ·obtain⟨p,hp,hpy⟩:=aB.mp e'
      have e3:=ok.ix p hp
      have:p.1=y:=hpy
      rw[this]at e3
      exact cD (aB.mpr ⟨p,hp,GC hN e3 e1⟩)
     ·exact e' (du e1)
    rcases r with rfl|⟨rfl,rfl⟩
    ·rcases jL with rfl|rfl|rfl
     ·exact absurd (.inl rfl) no
     ·exact absurd (.inr rfl) no
     ·exact⟨e,.inr lC⟩
    ·exact⟨e,.inl lC⟩
   have e3:yb eS.scope y:=e3
   rcases e3 with e3|e3|e3
   ·exact key _ e3 (.inl rfl)
   ·exact key _ e3 (.inr (.inl rfl))
   ·exact key _ e3 (.inr (.inr rfl))
  obtain⟨m,hn,hl⟩:=I.loc
  have acf:yb X.env.scope y:=(ok.free _ (ib mH.1) rfl).elim (λk=>.inr (.inl k)) (λk=>.inr (.inr k))
  obtain⟨w,r,q⟩:=hl i y av e1 e2 acf
  refine⟨w,r,.inr ⟨mH.2,?_⟩⟩
  obtain⟨c,h1,h2⟩:=look mH.1
  rcases q with⟨k,_⟩|⟨_,c',e',z⟩
  ·have k:X.env.scope.names.lookup y=some .local:=k
   rcases ok.free _ (ib mH.1) rfl with k'|k'<;>rw[show X.env.scope.names.lookup y=_ from k']at k<;>cases k
  ·rw[h2]at e';cases e'
   exact⟨c,h1,z.keeps kp⟩
 ·have e:eS.cells.lookup y=some c:=e
  rcases mem e with⟨h1,_⟩|⟨_,z⟩
  ·obtain⟨w,z⟩:=I.cell y c h1
   exact⟨w,z.keeps kp⟩
  ·exact⟨_,z⟩
 ·show H eS.locals=none
  rw[hL];exact I.hok.fresh (bM _)
 ·have e:eS.cells.lookup y=some c:=e
  rcases mem e with⟨h1,_⟩|⟨h1,_⟩
  ·exact I.jG y c h1
  ·exact I.hok.fresh (AQ h1)
 ·exact absurd (show p∈([]:List (af×bx))++[]from hp) (by simp)
theorem acg(I:Inv X ae σ H s)(hD:H D=some (.lst xs))(hz:xs.length<aS)(r:RelV y v) (h:∀s',Inv X ae σ (upd H D (.lst (xs++[y]))) s'->Q .none s'):aH (aO X.prog X.w) X.A (call (.builtin "list.append") [.ref D,v]) Q E s:=by
 obtain⟨hz',its,n,ri,e⟩:=I.hok D _ hD;have hl:=ri.length;refine append_at (hsz:=by rw[eX];lia) e λh' sb jH=>?_;refine h {s with heap:=h'} (I.write (t':=s.toks) (by rw[hD];trivial) (.inl rfl) (λb u hb q=>(sb.2 b hb).trans q) ⟨_,jH⟩ ⟨by rw[eL];exact hz,its++[v],n+1,ri.append (.cons r .nil),?_⟩);rw[jH];simp
def sZ(X:Cx)(ifs:List a_)(t:TT):Prop:=∀(ae:List (af×bx))(s:aA)(σ:St)(H:Hp)(Q:Bool->Hp->Prop),Inv X ae σ H s->t σ H Q->aH (aO X.prog X.w) X.A (forIn ifs true λc r=>if r=true then do let ok<-isTrue c X.env (eval c X.env);pure (AE ok)else pure (AE r)) (TP X ae σ Q) X.xe s
def Hr:TT:=λ_ H Q=>Q true H
theorem s_:sZ X [] Hr:=λ_ _ _ H _ I h=>wpAny_tests_nil ⟨H,I,h⟩
theorem o_(h:PT X c t):sZ X [c] t:=λae s σ H Q I hw=>wpAny_tests_one (h ae s σ H Q I hw)
end
theorem vk{α:Type}{t:ie α}{Q Q':α->aA->Prop}{M:uW}{A:dF}{E:ag->aA->Prop}{s:aA}(h:aH M A t Q (λ_ _=>False) s)(hQ:∀a s,Q a s->Q' a s):aH M A t Q' E s:=ic h hQ λ_ _ z=>False.elim z
theorem ach{R:Result->aA->Prop}{scope:dZ}{env:d9}(I:Nat->aA->Prop) (turn:∀n s,I n s->aH (aO prog w) A (mf it) (λr s₁=>match r with
   |none=>R (.ok .next) s₁|some v=>aH (aO prog w) A (A8 target it v) (λ_ s₁'=>aH (aO prog w) A (assign target env v) (λ_ s₂=>aH (aO prog w) A (forIn ifs true λc r=>if r=true then do let ok<-isTrue c env (eval c env);pure (AE ok)else pure (AE r)) (λok s₃=>if ok=true then aH (aO prog w) A (eval elt env) (λx s₄=>aH (aO prog w) A (call (.builtin "list.append") [acc,x]) (λ_ s₅=>∃m,m<n/\I m s₅) (notedBy (aO prog w) A env λe s'=>R (.error e) s') s₄) (notedBy (aO prog w) A env λe s'=>R (.error e) s') s₃
      else∃m,m<n/\I m s₃) (notedBy (aO prog w) A env λe s'=>R (.error e) s') s₂) (notedBy (aO prog w) A env λe s'=>R (.error e) s') s₁') (notedBy (aO prog w) A env λe s'=>R (.error e) s') s₁) (notedBy (aO prog w) A env λe s'=>R (.error e) s') s)
  (n:Nat)(h:I n s):
  sG (aO prog w) A (.compLoop (.ListComp elt [⟨target,iter,ifs,0⟩] scope pos) 0 it acc env) R s:=by
 refine codeAny_loop rfl I (λn s hI=>?_) n h;show aH _ A ((compTurn (.ListComp elt [⟨target,iter,ifs,0⟩] scope pos) 0 it acc env).onRaise (λx=>do noteFrame x env;theTreesLotGoes x)) _ _ s;refine wpAny_noted ?_;rw[compTurn_list];refine aI (F0 (aI (ic (turn n s hI) (λr s₁ h₁=>?_) λ_ _ h'=>h')));cases r with
 |none=>exact bN h₁|some v=>refine aI (ic h₁ (λ_ s₁' h₁'=>?_) λ_ _ h'=>h');refine aI (ic h₁' (λ_ s₂ h₂=>aI (ic h₂ (λok s₃ h₃=>?_) λ_ _ h'=>h')) λ_ _ h'=>h');cases ok with
  |false=>exact bN ⟨rfl,h₃⟩|true=>exact aI (aI (ic h₃ (λx s₄ h₄=>aI (ic h₄ (λ_ s₅ h₅=>bN (bN ⟨rfl,h₅⟩)) λ_ _ h'=>h')) λ_ _ h'=>h'))
section
variable{X:Cx}
def vm(wi:TI)(g:TG)(tt:TT)(te:TE)(vs:List Nat):TE:=λσ H Q=>wi σ H λJ H1=>∀D,H1 D=none->∃W:Nat->Nat->Hp->Prop,(∃m,W 0 m (upd H1 D (.lst [])))/\∀i m H,W i m H->(J.stop i H/\Q (.ref D) H)∨(J.go i H/\∃Nx:Hp->Prop,(∀H',Nx H'->∃m',m'<m/\W (i+1) m' H')/\∀x H',J.o5 i H x H'->g x (wipe σ vs) H' λσ2 H2=>wipe σ2 vs=wipe σ vs/\tt σ2 H2 λb H3=>if b=true then te σ2 H3 λy H4=>∃acc,H4 D=some (.lst acc)/\acc.length<aS/\Nx (upd H4 D (.lst (acc++[y])))else Nx H3)
theorem Ri{ae:List (af×bx)}{s:aA}{σ:St}{H:Hp}{Q:VK}{elt tg iter:a_}{ifs:List a_}{scope:dZ}{own:List (ai×Nat)}{pos pos':dG}{wi:TI}{g:TG}{tt:TT}{te:TE}{use:Option (ag->ie Unit)}{Qf:ag->aA->Prop} (hc:X.calm=true)(hN:X.N.Nodup)(I:Inv X ae σ H s)(hi:PI X tg iter wi)(ok:sY X.N X.env.scope scope own)
  (hg:∀(s:aA)(H:Hp)(C:af)(cl:List (ai×af))(fp:List af),PG (X.blk s H scope (gV scope cl C X.env) fp) tg g)(ht:∀(s:aA)(H:Hp)(C:af)(cl:List (ai×af))(fp:List af),sZ (X.blk s H scope (gV scope cl C X.env) fp) ifs tt)
  (he:∀(s:aA)(H:Hp)(C:af)(cl:List (ai×af))(fp:List af),PE (X.blk s H scope (gV scope cl C X.env) fp) elt te)(hs:∀x,sv iter X.env x=pure x)
  (h:vm wi g tt te (own.map (·.2)) σ H Q)
  (hRR:∀D C s' m H',Inv X ae σ H' s'->Q (.ref D) H'->s'.heap.Ns C m->lr X ae H' C->compPost (aO X.prog X.w) X.A X.xe use Qf (.ref D) C (.ok .next) s'):
  aH (aO X.prog X.w) X.A (comprehension (.ListComp elt [⟨tg,iter,ifs,0⟩] scope pos) scope X.env pos' (newList []) false (eval iter X.env) use) Qf X.xe s:=by
 have kn:∀y∈scope.names,y.2=.free->∃c,X.env.cells.lookup y.1=some c:=λy hy e=>by
  rcases ok.free y hy e with k|k
  ·exact I.ok.has _ (.inl k)
  ·exact I.ok.has _ (.inr k)
 refine wpAny_comprehension_free (use:=use) rfl hs (acb kn) ok.kind (λy hy e=>by rw[ok.uniq y hy,e]) (aU (hi ae s σ H _ I h) λxv s1 hx=>aU hx λGK s2 h2=>?_)
 obtain⟨it,fp,tn,J,H2,e,I2,T,BH,f2,q⟩:=h2;subst e;refine A5 (acd ?_) (by show 0<=aS;decide);generalize hD:s2.heap.objs.size=D;have hDn:H2 D=none:=I2.hok.fresh (uN hD);obtain⟨W,⟨m0,w0⟩,turn⟩:=q D hDn
 generalize tj:({s2 with heap:=s2.heap.push {cls:=.type "list",data:=.seq ([]:List ag).toArray}}:aA)=s3;have I3:Inv X ae σ (upd H2 D (.lst [])) s3:=by rw[<-tj];refine I2.laid (t':=s2.toks) (λb o e=>cN _ e) (uN hD) ⟨fb _,[],0,.nil,?_⟩;rw[<-hD];exact eC _ rfl
 have h3:s3.heap=s2.heap.push {cls:=.type "list",data:=.seq ([]:List ag).toArray}:=by rw[<-tj]
 have sz:∀b∈fp,b<s2.heap.objs.size:=λb hb=>by obtain⟨o,e,_⟩:=T.obj _ _ BH b hb;exact cB e
 have f3:∀b∈fp,lr X ae (upd H2 D (.lst [])) b/\b<s3.heap.objs.size:=λb hb=>by have dN:=sz b hb;refine⟨⟨?_,(f2 b hb).2⟩,by rw[h3,ig];exact Fu dN⟩;rw[ak (by rw[<-hD];exact eA dN)];exact(f2 b hb).1
 have BI:tn 0 s3.heap:=T.keep _ _ _ BH λb _ o e=>by rw[h3];exact cN _ e
 have I4:=ace I3 ok hN f3;have pg:=hg s3 (upd H2 D (.lst [])) s3.heap.objs.size (gg (s3.heap.objs.size+1) scope.names (gE X.env.cells scope.names [])) fp;have pt:=ht s3 (upd H2 D (.lst [])) s3.heap.objs.size (gg (s3.heap.objs.size+1) scope.names (gE X.env.cells scope.names [])) fp;have pe:=he s3 (upd H2 D (.lst [])) s3.heap.objs.size (gg (s3.heap.objs.size+1) scope.names (gE X.env.cells scope.names [])) fp;show sG _ _ (.compStart (.ListComp elt [⟨tg,iter,ifs,0⟩] scope pos) 0 (.ref it) (.ref D) (gV scope (gg (s3.heap.objs.size+1) scope.names (gE X.env.cells scope.names [])) s3.heap.objs.size X.env)) (compPost (aO X.prog X.w) X.A X.xe use Qf (.ref D) s3.heap.objs.size) {s3 with heap:=qu (s3.heap.push {cls:=.type "dict",data:=.dict #[]}) scope.names};have Rj:∀b∈fp,(upd H2 D (.lst [])) b=none:=λb hb=>(f3 b hb).1.1;generalize BW:gV scope (gg (s3.heap.objs.size+1) scope.names (gE X.env.cells scope.names [])) s3.heap.objs.size X.env=ce at I4 pg pt pe⊢;have cL:ce.locals=s3.heap.objs.size:=by subst BW;rfl
 generalize d4:upd H2 D (.lst [])=H3 at I3 I4 pg pt pe w0 Rj f3;generalize hs4:({s3 with heap:=qu (s3.heap.push {cls:=.type "dict",data:=.dict #[]}) scope.names}:aA)=s4 at I4⊢;have Rk:tn 0 s4.heap:=T.keep _ _ _ BI λb _ o e=>by rw[<-hs4];exact A9 _ _ _ _ (cN _ e)
 have sR:∀{σ':St}{H':Hp}{s':aA},Inv (X.blk s3 H3 scope ce fp) [] σ' H' s'->(∀b∈fp,H' b=none)->∀b∈fp,lr (X.blk s3 H3 scope ce fp) [] H' b:=λ{σ' H' s'}I' hn b hb=>⟨hn b hb,(I'.ok.Bz b hb).1,I'.ok.yd b hb,.inl hb,λx c e=>(I'.ok.Bz b hb).2 x c e,λp hp=>absurd (show p∈([]:List (af×bx))++[]from hp) (by simp)⟩
 have loop:sG (aO X.prog X.w) X.A (.compLoop (.ListComp elt [⟨tg,iter,ifs,0⟩] scope pos) 0 (.ref it) (.ref D) ce) (compPost (aO X.prog X.w) X.A X.xe use Qf (.ref D) s3.heap.objs.size) s4:=by
  refine ach (λn s'=>∃i H',Inv (X.blk s3 H3 scope ce fp) [] (wipe σ (own.map (·.2))) H' s'/\tn i s'.heap/\(∀b∈fp,H' b=none)/\W i n H') ?_ m0 ⟨0,H3,I4,Rk,Rj,w0⟩;rintro n s5 ⟨i,H5,I5,ve,n5,w5⟩;rcases turn i n H5 w5 with⟨stop,qq⟩|⟨go,Nx,yy,step⟩
  ·have td:=T.done (X.blk s3 H3 scope ce fp) rfl rfl rfl hc i [] s5 _ H5 (λ_ _=>False) I5 (sR I5 n5) ve stop
   refine vk td λr s6 br=>?_;obtain⟨hr,I6⟩:=br;subst hr
   have I7:Inv X ae σ H5 s6:=I3.call' (ch:=fp) I6.os I6.base I6.hok I6.bare λb hb=>⟨(f3 b hb).1.2.2.2.1,(f3 b hb).1.2.1,(f3 b hb).1.2.2.2.2.1,(f3 b hb).1.2.2.2.2.2⟩
   have nC:H5 s3.heap.objs.size=none:=by have z:H5 ce.locals=none:=I6.free;rw[cL]at z;exact z
   obtain⟨m,hn,_⟩:=I6.loc;have hn:s6.heap.Ns ce.locals m:=hn;rw[cL]at hn;exact hRR D s3.heap.objs.size s6 m H5 I7 qq hn (I3.vc (bM _) nC)
  ·have ti:=T.item (X.blk s3 H3 scope ce fp) rfl rfl rfl hc i [] s5 _ H5 (λ_ _=>False) I5 (sR I5 n5) ve go
   refine vk ti λr s6 eE=>?_;obtain⟨u,hr,h6⟩:=eE;subst hr;refine vk h6 λ_ s7 yk=>?_;obtain⟨x,H7,I7,r7,y7,Hs,n7⟩:=yk;have I7':=I7.pinned (sR I7 n7) (T.obj _ _ Hs);refine vk (pg _ s7 _ H7 x u _ I7' r7 (step x H7 y7)) λ_ s8 GP=>?_;obtain⟨σ8,H8,I8,Rm,q8⟩:=GP;refine vk (pt _ s8 σ8 H8 _ I8 q8) λb s9 zq4=>?_;obtain⟨H9,I9,q9⟩:=zq4
   have fin:∀{s':aA}{H':Hp},Inv (X.blk s3 H3 scope ce fp) ([]++yj fp s7.heap) σ8 H' s'->Nx H'->∃m,m<n/\∃i H',Inv (X.blk s3 H3 scope ce fp) [] (wipe σ (own.map (·.2))) H' s'/\tn i s'.heap/\(∀b∈fp,H' b=none)/\W i m H':=λ{s' H'}I' nx=>by
    obtain⟨m',hm,w'⟩:=yy H' nx
    have Rn:∀b∈fp,∀o,s7.heap.get? b=some o->s'.heap.get? b=some o/\H' b=none:=λb hb o e=>let z:=I'.pin (b,o) (j5 _ (j5 _ (GO hb e)))
     ⟨z.1,z.2.1⟩
    have hl:(wipe σ (own.map (·.2))).length=σ8.length:=by rw[<-Rm,Hm]
    refine⟨m',hm,i+1,H',(I'.BG (ae:=[])).weak hl (λj v e=>?_),T.keep _ _ _ Hs λb hb o e=>(Rn b hb o e).1,λb hb=>?_,w'⟩
    ·rw[<-Rm]at e
     exact(Hn e).1
    ·obtain⟨o,e,_⟩:=T.obj _ _ Hs b hb
     exact(Rn b hb o e).2
   cases b with
   |false=>simp only[sg,l9]at q9⊢;exact fin I9 q9|true=>simp only[qj]at q9⊢;refine vk (pe _ s9 σ8 H9 _ I9 q9) λz ph zq5=>?_;obtain⟨yv,yz,I10,r10,acc,yA,aci,nx⟩:=zq5;exact acg (X:=X.blk s3 H3 scope ce fp) I10 yA aci r10 λs11 I11=>fin I11 nx
 exact codeAny_compStart_list loop (T.self X.A 0 _ _ _ Rk loop)
theorem acj{scope:dZ}{own:List (ai×Nat)}(hc:X.calm=true)(hN:X.N.Nodup)(hi:PI X tg iter wi)(ok:sY X.N X.env.scope scope own) (hg:∀(s:aA)(H:Hp)(C:af)(cl:List (ai×af))(fp:List af),PG (X.blk s H scope (gV scope cl C X.env) fp) tg g)(ht:∀(s:aA)(H:Hp)(C:af)(cl:List (ai×af))(fp:List af),sZ (X.blk s H scope (gV scope cl C X.env) fp) ifs tt)
  (he:∀(s:aA)(H:Hp)(C:af)(cl:List (ai×af))(fp:List af),PE (X.blk s H scope (gV scope cl C X.env) fp) elt te)(hs:∀x,sv iter X.env x=pure x:=by intro _;rfl):
  PE X (.ListComp elt [⟨tg,iter,ifs,0⟩] scope pos) (vm wi g tt te (own.map (·.2))):=by
 intro ae s σ H Q I h;rw[eval_ListComp];refine Ri hc hN I hi ok hg ht he hs h λD C s' m H' I' q hn f=>⟨m,hn,λi3 sb=>?_⟩
 obtain⟨f0,f1,f2,f3,f4,f5⟩:=f;exact⟨.ref D,H',I'.turned (t':=s'.toks) (λb o hb e=>(sb.2 b hb).trans e) f0 f1 f3 f4 f5,rfl,q⟩
theorem ack{i:Nat}{scope:dZ}{own:List (ai×Nat)}(hc:X.calm=true)(hN:X.N.Nodup)(hy:X.N[i]? =some y)(vn:X.env.scope.names.lookup y=some .local) (gF:oQ (.ListComp elt [⟨tg,iter,ifs,0⟩] scope pos) (some (.Name y py)) acm.line X.env=pure true)(hi:PI X tg iter wi)(ok:sY X.N X.env.scope scope own)
  (hg:∀(s:aA)(H:Hp)(C:af)(cl:List (ai×af))(fp:List af),PG (X.blk s H scope (gV scope cl C X.env) fp) tg g)(ht:∀(s:aA)(H:Hp)(C:af)(cl:List (ai×af))(fp:List af),sZ (X.blk s H scope (gV scope cl C X.env) fp) ifs tt)
  (he:∀(s:aA)(H:Hp)(C:af)(cl:List (ai×af))(fp:List af),PE (X.blk s H scope (gV scope cl C X.env) fp) elt te)(hs:∀x,sv iter X.env x=pure x:=by intro _;rfl):
  PS X (.Assign [.Name y py] (.ListComp elt [⟨tg,iter,ifs,0⟩] scope pos) acm) (yi (vm wi g tt te (own.map (·.2))) (qI i)):=by
 intro ae s σ H D I h;rw[exec_Assign_Name_used _ _ _ _ gF];refine aI (F0 (aI ?_));show aH _ X.A (do let _<-comprehension (.ListComp elt [⟨tg,iter,ifs,0⟩] scope pos) scope X.env (firstIterPos [⟨tg,iter,ifs,0⟩] pos) (newList []) false (eval iter X.env) (some (assign (.Name y py) X.env))) _ _ s;have h:vm wi g tt te (own.map (·.2)) σ H (λx H1=>qI i x σ H1 D.nx):=h;refine aI (aU (Ri (Qf:=λ_ s'=>SP X ae D .next s') hc hN I hi ok hg ht he hs h λL C s' m H' I' q hn f=>?_) λ_ s' hq=>bN (bN hq));show aH _ _ (assign (.Name y py) X.env (.ref L)) _ _ _;refine O6 (Qt (v:=V.ref L) I' hN hy (.inl vn) rfl (λs2 I2⟨a,sb,ha⟩=>?_) (.inr vn));obtain⟨f0,f1,f2,f3,f4,f5⟩:=f;have haC:C≠a:=by
  rcases ha with z|z
  ·rw[z];exact f1
  ·exact λe=>f4 y a z e.symm
 refine⟨m,hn.sameBut sb haC,λh3 sb3=>?_⟩;exact⟨_,H',I2.turned (t':=s2.toks) (λb o hb e=>(sb3.2 b hb).trans e) f0 f1 f3 f4 f5,q⟩
end
def Ro(N:List ai)(sc scope:dZ)(own:List (ai×Nat)):Bool:=(match scope.kind with|.function=>true|_=>false)&&(scope.names.all λy=>decide (scope.names.lookup y.1=some y.2))&&(own.all λp=>decide (N[p.2]? =some p.1))&&(scope.names.all λy=>match y.2 with|.free=>(match sc.names.lookup y.1 with|some .cell=>true|some .free=>true|_=>false)|.local=>decide (y.1∈own.map (·.1))||decide (y.1∉N)|.cell=>decide (y.1∈own.map (·.1))||decide (y.1∉N)|_=>true)
theorem Rp{sc scope:dZ}{own:List (ai×Nat)}(h:Ro N sc scope own=true):sY N sc scope own:=by
 unfold Ro at h;simp only[cJ,qp,AD]at h;obtain⟨⟨⟨h1,h2⟩,h3⟩,h4⟩:=h;refine⟨?_,h2,h3,λy hy e=>?_,λy hy e=>?_⟩
 ·split at h1
  ·assumption
  ·cases h1
 ·have q:=h4 y hy
  simp only[e]at q;split at q<;>first|exact .inl (by assumption)|exact .inr (by assumption)|cases q
 ·have q:=h4 y hy
  rcases e with e|e<;>(simp only[e,N_,AD]at q;exact q)
section
variable{κ:Type}[DecidableEq κ]
def bZ(kvs:List (κ×V))(k:κ):Option V:=(kvs.find? λkv=>decide (kv.1=k)).map (·.2)
def putK(kvs:List (κ×V))(k:κ)(v:V):List (κ×V):=if(kvs.any λkv=>decide (kv.1=k))=true then kvs.map (λkv=>if kv.1=k then(kv.1,v)else kv)else kvs++[(k,v)]
def il(kvs:List (κ×V))(k:κ):List (κ×V):=kvs.filter λkv=>decide (kv.1≠k)
theorem jm{p:κ×V}{r:List (κ×V)}{k:κ}(e:p.1=k):bZ (p::r) k=some p.2:=by simp[bZ,oM,e]
theorem iF{p:κ×V}{r:List (κ×V)}{k:κ}(e:¬p.1=k):bZ (p::r) k=bZ r k:=by simp[bZ,oM,e]
theorem yB(k:κ):∀kvs:List (κ×V),(kvs.any λkv=>decide (kv.1=k))=(bZ kvs k).isSome
 |[]=>rfl|p::r=>by
  rw[AL];by_cases e:p.1=k
  ·simp only[jm e,dX e,Bool.true_or,ON]
  ·rw[iF e,c9 e,E5];exact yB k r
theorem Rq(k j:κ)(y:V):∀kvs:List (κ×V),bZ (kvs.map λkv=>if kv.1=k then(kv.1,y)else kv) j=(bZ kvs j).map λx=>if j=k then y else x
 |[]=>rfl|p::r=>by
  have ih:=Rq k j y r;rw[cV];by_cases h:p.1=k
  ·rw[aj h]
   by_cases e:p.1=j
   ·rw[jm (p:=(p.1,y)) e,jm e,AU,aj (e.symm.trans h)]
   ·rw[iF (p:=(p.1,y)) e,iF e,ih]
  ·rw[ah h]
   by_cases e:p.1=j
   ·rw[jm (p:=p) e,jm e,AU,ah (λz=>h (e.trans z))]
   ·rw[iF (p:=p) e,iF e,ih]
theorem Rr(k j:κ)(y:V):∀kvs:List (κ×V),bZ kvs k=none->bZ (kvs++[(k,y)]) j=if j=k then some y else bZ kvs j
 |[],_=>by
  by_cases e:k=j
  ·rw[aj e.symm];exact jm (p:=(k,y)) e
  ·rw[ah (λz=>e z.symm)];exact iF (p:=(k,y)) e|p::r,hn=>by
  rw[List.cons_append];have hk:¬p.1=k:=λz=>by rw[jm z]at hn;cases hn
  rw[iF hk]at hn;have ih:=Rr k j y r hn;by_cases e:p.1=j
  ·rw[jm e,jm e,ah (λz=>hk (e.trans z))]
  ·rw[iF e,iF e,ih]
theorem Ht(kvs:List (κ×V))(k j:κ)(y:V):bZ (putK kvs k y) j=if j=k then some y else bZ kvs j:=by
 unfold putK;by_cases a:(kvs.any λkv=>decide (kv.1=k))=true
 ·rw[aj a,Rq]
  rw[yB]at a;by_cases e:j=k
  ·obtain⟨x,hx⟩:=nA.mp a
   rw[aj e,e,hx,AU,aj rfl]
  ·rw[ah e]
   cases bZ kvs j with
   |none=>rfl|some x=>rw[AU,ah e]
 ·rw[ah a]
  refine Rr k j y kvs ?_;rw[yB]at a;cases q:bZ kvs k with
  |none=>rfl|some x=>rw[q]at a;exact(a rfl).elim
theorem yC(kvs:List (κ×V))(k:κ)(v:V):(putK kvs k v).length<=kvs.length+1:=by
 unfold putK;split
 ·rw[aD];lia
 ·rw[eL,dJ,xp];lia
theorem qO{kvs:List (κ×V)}{k:κ}(v:V)(h:bZ kvs k=none):putK kvs k v=kvs++[(k,v)]:=by unfold putK;rw[yB,h];exact ah (by decide)
theorem gM.tm{o:Option V}{u:Option ag}(r:gM o u):o.isSome=u.isSome:=by cases o with
 |none=>cases u with
  |none=>rfl|some _=>exact(show False from r).elim
 |some _=>cases u with
  |none=>exact(show False from r).elim|some _=>rfl
theorem gM.getD{o:Option V}{u:Option ag}(r:gM o u)(rd:RelV d d'):RelV (o.getD d) (u.getD d'):=by cases o with
 |none=>cases u with
  |none=>exact rd|some _=>exact(show False from r).elim
 |some _=>cases u with
  |none=>exact(show False from r).elim|some _=>exact r
theorem KV.val{kvs:List (κ×V)}{vs:List (κ×ag)}(r:KV kvs vs)(k:κ):gM (bZ kvs k) (oR vs k):=by unfold KV at r;induction r with
 |nil=>exact bJ| @cons p q ps qs h t ih=>
  obtain⟨h1,h2⟩:=h;by_cases e:p.1=k
  ·have e':q.1=k:=h1.symm.trans e
   have b:oR (q::qs) k=some q.2:=by simp[oR,oM,e']
   rw[jm e,b];exact h2
  ·have e':¬q.1=k:=λz=>e (h1.trans z)
   have b:oR (q::qs) k=oR qs k:=by simp[oR,oM,e']
   rw[iF e,b];exact ih
theorem KV.any{kvs:List (κ×V)}{vs:List (κ×ag)}(r:KV kvs vs)(k:κ):(kvs.any λkv=>decide (kv.1=k))=vs.any λkv=>decide (kv.1=k):=by unfold KV at r;induction r with|nil=>rfl|cons h t ih=>rw[AL,AL,ih,h.1]
theorem KV.repl{kvs:List (κ×V)}{vs:List (κ×ag)}(r:KV kvs vs)(k:κ)(ry:RelV y u):KV (kvs.map λkv=>if kv.1=k then(kv.1,y)else kv) (vs.map λkv=>if kv.1=k then(kv.1,u)else kv):=by
 unfold KV at r⊢;induction r with
 |nil=>exact .nil| @cons p q ps qs h t ih=>
  rw[cV,cV];refine .cons ?_ ih;obtain⟨h1,h2⟩:=h;by_cases e:p.1=k
  ·rw[aj e,aj (h1.symm.trans e)];exact⟨h1,ry⟩
  ·rw[ah e,ah (λz=>e (h1.trans z))];exact⟨h1,h2⟩
theorem KV.put{kvs:List (κ×V)}{vs:List (κ×ag)}(r:KV kvs vs)(k:κ)(ry:RelV y u):KV (putK kvs k y) (stored vs k u):=by
 unfold putK stored;rw[r.any k];by_cases e:(vs.any λkv=>decide (kv.1=k))=true
 ·rw[aj e,aj e];exact r.repl k ry
 ·rw[ah e,ah e];exact P0 r ⟨rfl,ry⟩
theorem KV.drop{kvs:List (κ×V)}{vs:List (κ×ag)}(r:KV kvs vs)(k:κ):KV (il kvs k) (without vs k):=by unfold KV at r⊢;unfold il without;induction r with
 |nil=>exact .nil| @cons p q ps qs h t ih=>
  obtain⟨h1,h2⟩:=h;rw[bX,bX];by_cases e:p.1=k
  ·have a:¬decide (p.1≠k)=true:=by simp[e]
   have b:¬decide (q.1≠k)=true:=by simp[h1.symm.trans e]
   rw[ah a,ah b];exact ih
  ·have e':¬q.1=k:=λz=>e (h1.trans z)
   have a:decide (p.1≠k)=true:=by simp[e]
   have b:decide (q.1≠k)=true:=by simp[e']
   rw[aj a,aj b];exact .cons ⟨h1,h2⟩ ih
theorem KV.keys{kvs:List (κ×V)}{vs:List (κ×ag)}(r:KV kvs vs):kvs.map (·.1)=vs.map (·.1):=by unfold KV at r;induction r with|nil=>rfl|cons h t ih=>rw[cV,cV,ih,h.1]
theorem KV.length{kvs:List (κ×V)}{vs:List (κ×ag)}(r:KV kvs vs):kvs.length=vs.length:=k8 r
theorem Rt(kvs:List (κ×V))(k:κ):(il kvs k).length<=kvs.length:=e_ _ _
end
theorem mI{k:Key}(r:RelV (kV k) u):(ff P w).is k u=true:=by cases k with|inl i=>obtain⟨t,e⟩:=(show∃t,u=sJ i t from r);subst e;exact aaL P w i t|inr x=>obtain⟨t,e⟩:=(show∃t,u=xT x t from r);subst e;exact aaM P w x t
theorem Ru:∀{ks:List Key}{us:List ag},Vals (ks.map kV) us->ItemsAre (ff P w) ks us|[],_,r=>by rw[xq]at r;cases r;exact .nil|k::ks,_,r=>by rw[cV]at r;cases r with|cons h t=>exact .cons (mI h) (Ru t)
abbrev KT(H:Hp):List (List Key×V)->List (List Key×af×ag)->Prop:=sI λp q=>p.1=q.1/\H q.2.1=some (.tup (p.1.map kV))/\RelV p.2 q.2.2
theorem KT.val{kvs:List (List Key×V)}{xs:List (List Key×af×ag)}(r:KT H kvs xs)(k:List Key):gM (bZ kvs k) ((atKey xs k).map (·.2)):=by induction r with
 |nil=>exact bJ| @cons p q ps qs h t ih=>
  obtain⟨h1,_,h2⟩:=h;by_cases e:p.1=k
  ·have e':q.1=k:=h1.symm.trans e
   have b:atKey (q::qs) k=some q.2:=by simp[atKey,oM,e']
   rw[jm e,b];exact h2
  ·have e':¬q.1=k:=λz=>e (h1.trans z)
   have b:atKey (q::qs) k=atKey qs k:=by simp[atKey,oM,e']
   rw[iF e,b];exact ih
theorem KT.repl{kvs:List (List Key×V)}{xs:List (List Key×af×ag)}(r:KT H kvs xs)(k:List Key)(ry:RelV y u):KT H (kvs.map λkv=>if kv.1=k then(kv.1,y)else kv) (xs.map (putAt k u)):=by
 induction r with
 |nil=>exact .nil| @cons p q ps qs h t ih=>
  rw[cV,cV];refine .cons ?_ ih;obtain⟨h1,h2,h3⟩:=h;unfold putAt;by_cases e:p.1=k
  ·rw[aj e,aj (h1.symm.trans e)];exact⟨h1,h2,ry⟩
  ·rw[ah e,ah (λz=>e (h1.trans z))];exact⟨h1,h2,h3⟩
theorem KT.put{kvs:List (List Key×V)}{xs:List (List Key×af×ag)}(r:KT H kvs xs)(k:List Key)(hb:H b=some (.tup (k.map kV)))(ry:RelV y u):KT H (putK kvs k y) (storedH xs k b u):=by
 have e:(kvs.any λkv=>decide (kv.1=k))=(atKey xs k).isSome:=by rw[yB,(r.val k).tm,FA]
 unfold putK storedH;rw[e];by_cases q:(atKey xs k).isSome=true
 ·rw[aj q,aj q];exact r.repl k ry
 ·rw[ah q,ah q];exact P0 r ⟨rfl,hb,ry⟩
theorem KT.keeps{kvs:List (List Key×V)}{xs:List (List Key×af×ag)}(r:KT H kvs xs)(ht:∀b ys,H b=some (.tup ys)->H' b=some (.tup ys)):KT H' kvs xs:=Paired.Gy r λ_ _ z=>⟨z.1,ht _ _ z.2.1,z.2.2⟩
section
variable{P:bR}{w:bI}{H:Hp}{h:bg}{a:af}
theorem Rv(ok:dR P w H h)(e:Rd H a u):d3 P w H h a u:=e.ok ok
theorem lE(ok:dR P w H h)(e:Rd H a (.dK kvs)):kvs.length<=aS/\(a==iB)=false/\∃vs,KV kvs vs/\h.DictOf (ff P w) a vs:=show d3 P w H h a (.dK kvs)from Rv ok e
theorem Hu(ok:dR P w H h)(e:H a=some (.dK kvs)):kvs.length<=aS/\(a==iB)=false/\∃vs,KV kvs vs/\h.DictOf (ff P w) a vs:=lE ok (.inl e)
theorem tq{ks:List Key}(ok:dR P w H h)(e:H a=some (.tup (ks.map kV))):(sD (ff P w)).is h ks a:=by obtain⟨_,its,r,o,h1,h2,n,h3⟩:=(show d3 P w H h a (.tup (ks.map kV))from ok a _ e);exact⟨o,its.toArray,n,h1,h2,h3,by simpa using Ru r⟩
theorem qP{kvs:List (List Key×V)}(ok:dR P w H h)(e:Rd H a (.dT kvs)):kvs.length<=aS/\(a==iB)=false/\∃xs,KT H kvs xs/\h.DictOfH (sD (ff P w)) a xs:=by
 obtain⟨z,y,xs,r,o,es,ep,h1,h2,h3,h4,h5⟩:=(show d3 P w H h a (.dT kvs)from Rv ok e);refine⟨z,y,xs,r,o,es,ep,h1,h2,h3,h4,λx hx=>?_,h5⟩;have all:∀{l:List (List Key×V)}{m:List (List Key×af×ag)},KT H l m->∀x∈m,(sD (ff P w)).is h x.1 x.2.1:=by intro l m q;induction q with
  |nil=>intro x hx;exact nomatch hx| @cons p q ps qs hq t ih=>
   intro x hx;rcases b9.mp hx with e|hx
   ·subst e
    exact tq ok (by rw[<-hq.1];exact hq.2.1)
   ·exact ih x hx
 exact all r x hx
theorem acn{kvs:List (List Key×V)}(ok:dR P w H h)(e:H a=some (.dT kvs)):kvs.length<=aS/\(a==iB)=false/\∃xs,KT H kvs xs/\h.DictOfH (sD (ff P w)) a xs:=qP ok (.inl e)
end
def jM(H:Hp)(a:af)(y:V)(r:Option V):Prop:=(∃kvs k,Rd H a (.dK kvs)/\y=kV k/\r=bZ kvs k)∨∃kvs k b,Rd H a (.dT kvs)/\y=.ref b/\H b=some (.tup (k.map kV))/\r=bZ kvs k
def yD(H:Hp)(a:af)(y v:V)(H':Hp):Prop:=(∃kvs k,H a=some (.dK kvs)/\y=kV k/\kvs.length<aS/\H'=upd H a (.dK (putK kvs k v)))∨
 ∃kvs k b,H a=some (.dT kvs)/\y=.ref b/\H b=some (.tup (k.map kV))/\kvs.length<aS/\H'=upd H a (.dT (putK kvs k v))
theorem jM.k{k:Key}(e:H a=some (.dK kvs)):jM H a (kV k) (bZ kvs k):=.inl ⟨kvs,k,.inl e,rfl,rfl⟩
theorem yD.k{k:Key}(e:H a=some (.dK kvs))(hl:kvs.length<aS):yD H a (kV k) v (upd H a (.dK (putK kvs k v))):=.inl ⟨kvs,k,e,rfl,hl,rfl⟩
section
variable{X:Cx}{ae:List (af×bx)}{σ:St}{H:Hp}{s:aA}{a:af}{y v:V}{u r:ag}{o:Option V}{A:dF}{E:ag->aA->Prop}
theorem Inv.big(I:Inv X ae σ H s):iB<s.heap.objs.size:=by have h:fJ<s.heap.objs.size:=(I.mod.glob.keeps I.bk).lt;exact Nat.lt_trans (by decide) h
theorem aco(hu:A.units+1<f7)(I:Inv X ae σ H s)(g:jM H a y (some v))(ry:RelV y u)(h:∀w' s',Inv X ae σ H s'->RelV v w'->Q w' s'):aH (aO X.prog X.w) A (uV (.ref a) u) Q E s:=by
 rcases g with⟨kvs,k,e,ey,l⟩|⟨kvs,k,b,e,ey,eb,l⟩
 ·subst ey
  obtain⟨z,hd,vs,rel,dd⟩:=lE I.hok e;obtain⟨w',hw,gZ⟩:=gM.some_of (v:=v) (o:=oR vs k) (by rw[l];exact rel.val k);exact Pa (mI ry) dd.mapOf hw (h w' _ (I.tok _) gZ)
 ·subst ey
  cases(show u=dg b from ry);obtain⟨z,hd,xs,rel,dd⟩:=qP I.hok e;obtain⟨w',hw,gZ⟩:=gM.some_of (v:=v) (o:=(atKey xs k).map (·.2)) (by rw[l];exact rel.val k);obtain⟨p,hp,d_⟩:=oP.mp hw;refine wpAny_getItem_heap (uO hu) (tq I.hok eb) dd hp ?_;rw[d_];exact h w' _ (I.tok _) gZ
theorem acp(hu:A.units+1<f7)(I:Inv X ae σ H s)(g:jM H a y o)(ry:RelV y u)(h:∀s',Inv X ae σ H s'->Q (.bool o.isSome) s'):aH (aO X.prog X.w) A (gz .In u (.ref a)) Q E s:=by
 rcases g with⟨kvs,k,e,ey,l⟩|⟨kvs,k,b,e,ey,eb,l⟩
 ·subst ey
  obtain⟨z,hd,vs,rel,dd⟩:=lE I.hok e;refine Pl (mI ry) hd dd.mapOf ?_;rw[<-(rel.val k).tm,<-l];exact h _ (I.tok _)
 ·subst ey
  cases(show u=dg b from ry);obtain⟨z,hd,xs,rel,dd⟩:=qP I.hok e;refine wpAny_in_heap (uO hu) (tq I.hok eb) hd dd ?_;have q:=(rel.val k).tm;rw[FA]at q;rw[<-q,<-l];exact h _ (I.tok _)
theorem acq(hu:A.units+1<f7)(I:Inv X ae σ H s)(g:jM H a y o)(ry:RelV y u)(h:∀s',Inv X ae σ H s'->Q (.bool (!o.isSome)) s'):aH (aO X.prog X.w) A (gz .NotIn u (.ref a)) Q E s:=by
 rcases g with⟨kvs,k,e,ey,l⟩|⟨kvs,k,b,e,ey,eb,l⟩
 ·subst ey
  obtain⟨z,hd,vs,rel,dd⟩:=lE I.hok e;refine wpAny_notIn_of (mI ry) hd dd.mapOf ?_;rw[<-(rel.val k).tm,<-l];exact h _ (I.tok _)
 ·subst ey
  cases(show u=dg b from ry);obtain⟨z,hd,xs,rel,dd⟩:=qP I.hok e;refine wpAny_notIn_heap (uO hu) (tq I.hok eb) hd dd ?_;have q:=(rel.val k).tm;rw[FA]at q;rw[<-q,<-l];exact h _ (I.tok _)
theorem BX{t':Nat}(I:Inv X ae σ H s)(mu:nO (H a))(hs:uY a s.heap h')(he:∃q,h'.get? a=some q)(new:d3 X.prog X.w (upd H a ob) h' a ob):Inv X ae σ (upd H a ob) {s with heap:=h',toks:=t'}:=
 I.write (x:=a) (e:=a) mu (.inl rfl) (λb q hb z=>(hs.2 b hb).trans z) he new
theorem Hv{vs:List (Key×ag)}(z:kvs.length<=aS)(hd:(a==iB)=false)(rel:KV kvs vs)(dd:h'.DictOf (ff P w) a vs):d3 P w H' h' a (.dK kvs):=⟨z,hd,vs,rel,dd⟩
theorem acr{H':Hp}{Q:Unit->aA->Prop}(hu:A.units+1<f7)(I:Inv X ae σ H s)(g:yD H a y v H')(ry:RelV y u)(rv:RelV v r)(h:∀s',Inv X ae σ H' s'->Q () s'):aH (aO X.prog X.w) A (setItem (.ref a) u r) Q E s:=by
 rcases g with⟨kvs,k,e,ey,l,eH⟩|⟨kvs,k,b,e,ey,eb,l,eH⟩
 ·subst ey eH
  obtain⟨z,hd,vs,rel,dd⟩:=Hu I.hok e;have hz:vs.length<=aS:=by rw[<-rel.length];exact z
  have hl:(putK kvs k v).length<=aS:=by have:=yC kvs k v;lia
  refine wpAny_setItem_pairs (hsz:=hz) (mI ry) dd λh' lF hs=>h _ ?_;have he:∃q,h'.get? a=some q:=let⟨q,_,_,hq,_⟩:=lF;⟨q,hq⟩
  exact BX I (by rw[e];exact bJ) hs he (Hv hl hd (rel.put k rv) lF)
 ·subst ey eH
  cases(show u=dg b from ry);obtain⟨z,hd,xs,rel,dd⟩:=acn I.hok e;have hz:xs.length<=aS:=by rw[<-k8 rel];exact z
  have hl:(putK kvs k v).length<=aS:=by have:=yC kvs k v;lia
  refine wpAny_setItem_heap (hsz:=hz) (uO hu) (tq I.hok eb) dd λh' lF hs=>h _ ?_;obtain⟨q,es,ep,hq,h2,h3,h4,_,h5⟩:=lF;refine BX I (by rw[e];exact bJ) hs ⟨q,hq⟩ ⟨hl,hd,_,(rel.put k eb rv).keeps λc ys ec=>?_,q,es,ep,hq,h2,h3,h4,h5⟩;rw[ak (cZ ec e (λz=>nomatch z))];exact ec
end
section
variable{X:Cx}{ae:List (af×bx)}{σ:St}{H:Hp}{s:aA}{a:af}{kvs:List (Key×V)}{k:Key}{u:ag}{A:dF}{E:ag->aA->Prop}
theorem aj9{Q:Unit->aA->Prop}(I:Inv X ae σ H s)(e:H a=some (.dK kvs))(ry:RelV (kV k) u)(l:(bZ kvs k).isSome=true)(h:∀s',Inv X ae σ (upd H a (.dK (il kvs k))) s'->Q () s'):aH (aO X.prog X.w) A (delItem (.ref a) u) Q E s:=by
 obtain⟨z,hd,vs,rel,dd⟩:=Hu I.hok e
 refine wpAny_delItem_slot dd.typeIs (by decide) Px (uT Px dd.typeIs PySem.F.entry_dict_delitem (PySem.F.args_dict_delitem_2 _ _) (meets_dict_delitem_pairs (ff X.prog X.w) a (mI ry)) ⟨vs,dd,by rw[<-rel.length];exact z,by rw[<-(rel.val k).tm];exact l,λh' lF hs=>h _ ?_⟩)
 have he:∃q,h'.get? a=some q:=let⟨q,_,_,hq,_⟩:=lF;⟨q,hq⟩
 exact BX I (by rw[e];exact bJ) hs he (Hv (aZ (Rt kvs k) z) hd (rel.drop k) lF)
theorem acs(I:Inv X ae σ H s)(e:H a=some (.dK kvs))(ry:RelV (kV k) u)(l:bZ kvs k=some v)(hm:more=[]∨∃x,more=[x]) (h:∀w' s',Inv X ae σ (upd H a (.dK (il kvs k))) s'->RelV v w'->Q w' s'):aH (aO X.prog X.w) A (call (.builtin "dict.pop") (.ref a::u::more)) Q E s:=by
 obtain⟨z,hd,vs,rel,dd⟩:=Hu I.hok e;obtain⟨w',hw,gZ⟩:=gM.some_of (v:=v) (o:=oR vs k) (by rw[<-l];exact rel.val k);have hp:(keyPart u).isSome=true:=by cases k with
  |inl i=>obtain⟨t,q⟩:=(show∃t,u=sJ i t from ry);subst q;rfl|inr x=>obtain⟨t,q⟩:=(show∃t,u=xT x t from ry);subst q;rfl
 have ha:argsOk "dict.pop" ⟨.ref a::u::more,[]⟩:=by
  rcases hm with q|⟨x,q⟩
  ·subst q;exact PySem.F.args_dict_pop_2 _ _
  ·subst q;exact PySem.F.args_dict_pop_3 _ _ _
 refine uT PD dd.typeIs PySem.F.entry_dict_pop ha (meets_dict_pop_there (ff X.prog X.w) a (mI ry) more hm hp) ⟨vs,w',dd,by rw[<-rel.length];exact z,hw,λh' lF hs=>h w' _ ?_ gZ⟩
 have he:∃q,h'.get? a=some q:=let⟨q,_,_,hq,_⟩:=lF;⟨q,hq⟩
 exact BX I (by rw[e];exact bJ) hs he (Hv (aZ (Rt kvs k) z) hd (rel.drop k) lF)
theorem acu(I:Inv X ae σ H s)(e:Rd H a (.dK kvs))(h:∀t s',Inv X ae σ H s'->Q (.int kvs.length t) s'):aH (aO X.prog X.w) A (call (.builtin "len") [.ref a]) Q E s:=by obtain⟨z,hd,vs,rel,dd⟩:=lE I.hok e;refine call_len_dict hd dd (by rw[<-rel.length];rw[F5]at z;lia) ?_;rw[<-rel.length];exact h _ _ (I.tok _)
end
def BY(i:a_):Prop:=∀ov iv,A_ i false ov iv=operate [ov,iv] (uV ov iv)
theorem Rw{env:d9}{T id:String} (hl:typeLookup (.type T) "__getitem__"=pure (some (.builtin id)))(hs:BY slice)
  (h:aH (aO prog w) A (eval value env) (λo s₁=>aH (aO prog w) A (eval slice env) (λi s₂=>s₂.TypeIs o T/\aH (aO prog w) A (uV o i) Q E s₂) E s₁) E s):
  aH (aO prog w) A (eval (.Subscript value slice pos) env) Q E s:=by
 refine FP (ic h (λo s₁ h₁=>ic h₁ (λi s₂ h₂=>?_) λ_ _ x=>x) λ_ _ x=>x);obtain⟨hT,h₂⟩:=h₂;unfold FJ;refine aI ?_;rw[getitemInPython_of_ne hT.not_modules];refine aI (wpAny_specialOf hT hl ?_);have fin:aH (aO prog w) A (A_ slice false o i) (λr s₃=>aH (aO prog w) A (letTemporaryGo value o r>>=λ_=>pure r) Q E s₃) E s₂:=by rw[hs o i];exact wpAny_operating (ic h₂ (λr s₃ h₃=>aI (wpAny_letTemporaryGo (bN h₃))) λ_ _ x=>x)
 first|exact bN (aI fin)|exact aI (bN (aI fin))|exact aI fin
theorem acv{σ:St}{o:Option V}(I:Inv X ae σ H s)(g:jM H a y o):s.TypeIs (.ref a) "dict":=by
 rcases g with⟨kvs,k,e,_,_⟩|⟨kvs,k,b,e,_,_,_⟩
 ·obtain⟨_,_,vs,_,dd⟩:=lE I.hok e
  exact dd.typeIs
 ·obtain⟨_,_,xs,_,dd⟩:=qP I.hok e
  exact dd.typeIs
inductive GtI(x y:V)(H:Hp)(Q:VK):Prop|mk a v (z:x=.ref a) (z:jM H a y (some v)) (z:Q v H)
def Hw(td ty:TE):TE:=λσ H Q=>td σ H λx H1=>ty σ H1 λy H2=>GtI x y H2 Q
inductive InI(x y:V)(H:Hp)(Q:VK):Prop|mk a o (z:x=.ref a) (z:jM H a y o) (z:Q (.bl o.isSome) H)
def acw(ty td:TE):TE:=λσ H Q=>ty σ H λy H1=>td σ H1 λx H2=>InI x y H2 Q
inductive NiI(x y:V)(H:Hp)(Q:VK):Prop|mk a o (z:x=.ref a) (z:jM H a y o) (z:Q (.bl (!o.isSome)) H)
def acx(ty td:TE):TE:=λσ H Q=>ty σ H λy H1=>td σ H1 λx H2=>NiI x y H2 Q
inductive PtI(x y v:V)(H:Hp)(Q:Hp->Prop):Prop|mk a H4 (z:x=.ref a) (z:yD H a y v H4) (z:Q H4)
def Rx(td ty tv:TE):TS:=λD σ H=>tv σ H λv H1=>td σ H1 λx H2=>ty σ H2 λy H3=>PtI x y v H3 (D.nx σ)
section
variable{X:Cx}{o i e value:a_}{pos pos' iD:dG}{td ty tv:TE}
theorem acy(hu:X.A.units+1<f7)(ho:PE X o td)(hi:PE X i ty)(hs:BY i):PE X (.Subscript o i pos) (Hw td ty):=by intro ae s σ H Q I h;refine Rw PySem.F.slot_dict_getitem.lookup hs (aU (ho ae s σ H _ I h) λu s1 br=>?_);obtain⟨x,H1,I1,rx,q1⟩:=br;refine aU (hi ae s1 σ H1 _ I1 q1) λiv s2 eE=>?_;obtain⟨y,H2,I2,ry,a,v,ex,g,q2⟩:=eE;subst ex;obtain rfl:u=dg a:=rx;exact⟨acv I2 g,aco hu I2 g ry λw' s3 I3 gZ=>⟨v,H2,I3,gZ,q2⟩⟩
theorem qQ(hu:X.A.units+1<f7)(hi:PE X i ty)(ho:PE X o td):PC X .In i o (acw ty td):=by intro ae s σ H Q I h;refine aU (hi ae s σ H _ I h) λiv s1 br=>?_;obtain⟨y,H1,I1,ry,q1⟩:=br;refine aU (ho ae s1 σ H1 _ I1 q1) λu s2 eE=>?_;obtain⟨x,H2,I2,rx,a,ov,ex,g,q2⟩:=eE;subst ex;obtain rfl:u=dg a:=rx;exact acp hu I2 g ry λs3 I3=>⟨.bl ov.isSome,H2,I3,rfl,q2⟩
theorem f9(hu:X.A.units+1<f7)(hi:PE X i ty)(ho:PE X o td):PC X .NotIn i o (acx ty td):=by intro ae s σ H Q I h;refine aU (hi ae s σ H _ I h) λiv s1 br=>?_;obtain⟨y,H1,I1,ry,q1⟩:=br;refine aU (ho ae s1 σ H1 _ I1 q1) λu s2 eE=>?_;obtain⟨x,H2,I2,rx,a,ov,ex,g,q2⟩:=eE;subst ex;obtain rfl:u=dg a:=rx;exact acq hu I2 g ry λs3 I3=>⟨.bl (!ov.isSome),H2,I3,rfl,q2⟩
theorem acz(hu:X.A.units+1<f7)(ho:PE X o td)(hi:PE X i ty)(hv:PE X value tv)(hs:oQ value (some (.Subscript o i pos')) pos.line X.env=pure false):PS X (.Assign [.Subscript o i pos'] value pos) (Rx td ty tv):=by
 intro ae s σ H D I h;refine wpAny_Assign_Subscript (aU (hv ae s σ H _ I h) λr s1⟨v,H1,I1,rv,q1⟩=>aU (ho ae s1 σ H1 _ I1 q1) λu s2⟨x,H2,I2,rx,q2⟩=>aU (hi ae s2 σ H2 _ I2 q2) λiv s3⟨y,H3,I3,ry,a,H4,ex,g,q3⟩=>?_) hs;subst ex;obtain rfl:u=dg a:=rx;exact acr hu I3 g ry rv λs4 I4=>⟨σ,H4,I4,q3⟩
end
theorem acA(h:bg)(hb:iB<h.objs.size):d3 P w H (h.push {cls:=.type "dict",data:=.dict #[]}) h.objs.size (.dK []):=⟨fb _,uH.mpr (Ne.symm (eA hb)),[],.nil,Heap.DictOf.new h⟩
def acB:TE:=λ_ H Q=>∀p,H p=none->Q (.ref p) (upd H p (.dK []))
section
variable{X:Cx}{pos:dG}
theorem ku:PE X (.Dict [] [] pos) acB:=λae s σ H Q I h=>wpAny_Dict_empty ⟨.ref s.heap.objs.size,_,I.laid (a:=s.heap.objs.size) (o:=.dK []) (t':=s.toks) (λ_ _ q=>cN _ q) (bM _) (acA s.heap I.big),rfl,h _ (I.hok.fresh (bM _))⟩
end
structure M1(X:Cx)(o:a_)(m:ai)(apos:dG)(e:a_)(cO:dG):Prop where
 base:me o m X.env (eval o X.env)=eval o X.env
 few:((backTo cO (bE [e] X.env)).all (λx=> !x.1)&&(backToKw cO (j_ [] X.env)).all (λx=>x.1.isSome)&&decide (([e]:List a_).length+([]:List nJ).length+(if([]:List nJ).isEmpty then 0 else 1)<30))=true
 line:(apos.endLine==cO.line)=true
 trees:backTo cO (bE [e] X.env)=[(false,eval e X.env)]
structure M2(X:Cx)(o:a_)(m:ai)(apos:dG)(e f:a_)(cO:dG):Prop where
 base:me o m X.env (eval o X.env)=eval o X.env
 few:((backTo cO (bE [e,f] X.env)).all (λx=> !x.1)&&(backToKw cO (j_ [] X.env)).all (λx=>x.1.isSome)&&decide (([e,f]:List a_).length+([]:List nJ).length+(if([]:List nJ).isEmpty then 0 else 1)<30))=true
 line:(apos.endLine==cO.line)=true
 trees:backTo cO (bE [e,f] X.env)=[(false,eval e X.env),(false,eval f X.env)]
def BZ(H:Hp)(a:af):Prop:=(∃kvs,Rd H a (.dK kvs))∨∃kvs,Rd H a (.dT kvs)
theorem Hx{σ:St}(I:Inv X ae σ H s)(d:BZ H a):s.TypeIs (.ref a) "dict"/\(∀b,dg a=.ref b->∃ob,s.heap.get? b=some ob/\ob.dict=none)/\(a==iB)=false:=by
 rcases d with⟨kvs,e⟩|⟨kvs,e⟩
 ·obtain⟨_,hd,vs,_,dd⟩:=lE I.hok e
  refine⟨dd.typeIs,λb q=>?_,hd⟩;cases q;obtain⟨ob,_,_,h1,h2,_⟩:=dd;exact⟨ob,h1,h2.2.1⟩
 ·obtain⟨_,hd,xs,_,dd⟩:=qP I.hok e
  refine⟨dd.typeIs,λb q=>?_,hd⟩;cases q;obtain⟨ob,_,_,h1,h2,_⟩:=dd;exact⟨ob,h1,h2.2.1⟩
section
variable{X:Cx}{ae:List (af×bx)}{σ:St}{H:Hp}{s:aA}{a:af}{y d:V}{u r:ag}{o:Option V}{A:dF}{E:ag->aA->Prop}
theorem acC(hu:A.units+1<f7)(I:Inv X ae σ H s)(g:jM H a y o)(ry:RelV y u)(h:∀w' s',Inv X ae σ H s'->RelV (o.getD .non) w'->Q w' s'):aH (aO X.prog X.w) A (call (.builtin "dict.get") [.ref a,u]) Q E s:=by
 rcases g with⟨kvs,k,e,ey,l⟩|⟨kvs,k,b,e,ey,eb,l⟩
 ·subst ey
  obtain⟨z,hd,vs,rel,dd⟩:=lE I.hok e;refine uT uX dd.typeIs Bj (Py _ _) (meets_dict_get (ff X.prog X.w) a (mI ry) hd) ⟨_,dd.mapOf,h _ _ (I.tok _) ?_⟩;rw[l];exact(rel.val k).getD rfl
 ·subst ey
  cases(show u=dg b from ry);obtain⟨z,hd,xs,rel,dd⟩:=qP I.hok e;refine uT uX dd.typeIs Bj (Py _ _) (meetsH_dict_get (sD (ff X.prog X.w)) a b hd) ⟨uO hu,k,xs,tq I.hok eb,dd,h _ _ (I.tok _) ?_⟩;rw[l];exact(rel.val k).getD rfl
theorem acD(hu:A.units+1<f7)(I:Inv X ae σ H s)(g:jM H a y o)(ry:RelV y u)(rd:RelV d r)(h:∀w' s',Inv X ae σ H s'->RelV (o.getD d) w'->Q w' s'):aH (aO X.prog X.w) A (call (.builtin "dict.get") [.ref a,u,r]) Q E s:=by
 rcases g with⟨kvs,k,e,ey,l⟩|⟨kvs,k,b,e,ey,eb,l⟩
 ·subst ey
  obtain⟨z,hd,vs,rel,dd⟩:=lE I.hok e;refine uT uX dd.typeIs Bj (PB _ _ _) (meets_dict_get_default (ff X.prog X.w) a (mI ry) hd r) ⟨_,dd.mapOf,h _ _ (I.tok _) ?_⟩;rw[l];exact(rel.val k).getD rd
 ·subst ey
  cases(show u=dg b from ry);obtain⟨z,hd,xs,rel,dd⟩:=qP I.hok e;refine uT uX dd.typeIs Bj (PB _ _ _) (meetsH_dict_get_default (sD (ff X.prog X.w)) a b hd r) ⟨uO hu,k,xs,tq I.hok eb,dd,h _ _ (I.tok _) ?_⟩;rw[l];exact(rel.val k).getD rd
end
def Ry(td ty:TE):TE:=λσ H Q=>td σ H λx H1=>∃a,x=.ref a/\BZ H1 a/\ty σ H1 λy H2=>∃o,jM H2 a y o/\Q (o.getD .non) H2
def Rz(td ty tx:TE):TE:=λσ H Q=>td σ H λx H1=>∃a,x=.ref a/\BZ H1 a/\ty σ H1 λy H2=>tx σ H2 λz H3=>∃o,jM H3 a y o/\Q (o.getD z) H3
def RA(td ty:TE):TE:=λσ H Q=>td σ H λx H1=>∃a,x=.ref a/\BZ H1 a/\ty σ H1 λy H2=>∃kvs k v,H2 a=some (.dK kvs)/\y=kV k/\bZ kvs k=some v/\Q v (upd H2 a (.dK (il kvs k)))
section
variable{X:Cx}{o e f:a_}{apos cO:dG}{td ty tx:TE}
theorem acE(hu:X.A.units+1<f7)(ho:PE X o td)(he:PE X e ty)(m:M1 X o "get" apos e cO):PE X (.Call (.Attribute o "get" apos) [e] [] cO) (Ry td ty):=by intro ae s σ H Q I h;refine uP m.base m.few m.line Gb uX PF (aU (ho ae s σ H _ I h) λu s1 br=>?_);obtain⟨x,H1,I1,rx,a,ex,d,q1⟩:=br;subst ex;obtain rfl:u=dg a:=rx;obtain⟨t1,t2,_⟩:=Hx I1 d;refine⟨t1,t2,?_⟩;rw[m.trees];refine Bd rfl (Be (xQ (aU (he ae s1 σ H1 _ I1 q1) λiv s2 eE=>?_)));obtain⟨y,H2,I2,ry,ov,g,q2⟩:=eE;refine Bf ?_;exact acC hu I2 g ry λw' s3 I3 gZ=>⟨_,H2,I3,gZ,q2⟩
theorem acF(hu:X.A.units+1<f7)(ho:PE X o td)(he:PE X e ty)(hf:PE X f tx)(m:M2 X o "get" apos e f cO):PE X (.Call (.Attribute o "get" apos) [e,f] [] cO) (Rz td ty tx):=by
 intro ae s σ H Q I h;refine uP m.base m.few m.line Gb uX PF (aU (ho ae s σ H _ I h) λu s1 br=>?_);obtain⟨x,H1,I1,rx,a,ex,d,q1⟩:=br;subst ex;obtain rfl:u=dg a:=rx;obtain⟨t1,t2,_⟩:=Hx I1 d;refine⟨t1,t2,?_⟩;rw[m.trees]
 refine Bd rfl (Be (xQ (aU (he ae s1 σ H1 _ I1 q1) λiv s2⟨y,H2,I2,ry,q2⟩=>xQ (aU (hf ae s2 σ H2 _ I2 q2) λfv s3⟨z,H3,I3,rz,ov,g,q3⟩=>Bf ?_))))
 exact acD hu I3 g ry rz λw' s4 I4 gZ=>⟨_,H3,I4,gZ,q3⟩
theorem acG(ho:PE X o td)(he:PE X e ty)(m:M1 X o "pop" apos e cO):PE X (.Call (.Attribute o "pop" apos) [e] [] cO) (RA td ty):=by intro ae s σ H Q I h;refine uP m.base m.few m.line Gb PD PySem.F.type_dict_pop (aU (ho ae s σ H _ I h) λu s1 br=>?_);obtain⟨x,H1,I1,rx,a,ex,d,q1⟩:=br;subst ex;obtain rfl:u=dg a:=rx;obtain⟨t1,t2,_⟩:=Hx I1 d;refine⟨t1,t2,?_⟩;rw[m.trees];refine Bd rfl (Be (xQ (aU (he ae s1 σ H1 _ I1 q1) λiv s2 eE=>?_)));obtain⟨y,H2,I2,ry,kvs,k,v,ea,ey,l,q2⟩:=eE;refine Bf ?_;subst ey;exact acs I2 ea ry l (.inl rfl) λw' s3 I3 gZ=>⟨v,_,I3,gZ,q2⟩
end
section
variable{X:Cx}{ae:List (af×bx)}{σ:St}{H:Hp}{s:aA}{h':bg}
theorem Inv.RB{t':Nat}{ch:List af}(I:Inv X ae σ H s)(k:∀b o,b∉ch->s.heap.get? b=some o->h'.get? b=some o)(hf:∀b∈ch,lr X ae H b):Inv X ae σ H {s with heap:=h',toks:=t'}:=by
 have qE:∀b u,H b=some u->b∉ch:=λb u e z=>by have q:=(hf b z).1;rw[q]at e;cases e
 refine I.step (g':=s.gens) (d':=s.drawn) (ch:=ch) (λb hb=>⟨(hf b hb).2.2.2.1,(hf b hb).2.1,(hf b hb).2.2.2.2.1,(hf b hb).2.2.2.2.2⟩) (λb o _ _ hc e _=>k b o hc e) (λb o _ _ hc e _=>⟨o.slots,k b o hc e⟩) (λ_ _ _ _ n=>n) (λb o hc e=>⟨o,k b o hc e⟩) (λ_ _ e=>e) (λ_ _ _ e=>e) (λb ps e=>⟨#[],by rw[e];simp⟩) (λm hm=>?_) (λb u e=>?_) I.bare
 ·obtain⟨o,es,ep,ho,r⟩:=hm
  exact⟨o,es,ep,k _ o (λz=>(hf _ z).2.1 rfl) ho,r⟩
 ·refine(I.hok b u e).stay (λc v hc q=>k c v ?_ q) (λ_ q=>q) λ_ _ q=>q
  rcases hc with z|z
  ·rw[z];exact qE b u e
  ·exact qE c _ z
theorem Inv.B0{t':Nat}{ch:List af}{T:af}{ob:HO}(I:Inv X ae σ H s)(k:∀b o,b∉ch->s.heap.get? b=some o->h'.get? b=some o)(hf:∀b∈ch,lr X ae H b)(hT:s.heap.objs.size<=T) (new:d3 X.prog X.w (upd H T ob) h' T ob):Inv X ae σ (upd H T ob) {s with heap:=h',toks:=t'}:=by
 have hn:H T=none:=I.hok.fresh hT;have qE:∀b u,H b=some u->b∉ch:=λb u e z=>by have q:=(hf b z).1;rw[q]at e;cases e
 refine I.step (g':=s.gens) (d':=s.drawn) (ch:=ch) (λb hb=>⟨(hf b hb).2.2.2.1,(hf b hb).2.1,(hf b hb).2.2.2.2.1,(hf b hb).2.2.2.2.2⟩) (λb o _ _ hc e _=>k b o hc e) (λb o _ _ hc e _=>⟨o.slots,k b o hc e⟩) (λb o _ e n=>?_) (λb o hc e=>⟨o,k b o hc e⟩) (λb xs e=>?_) (λb o u e=>?_) (λb ps e=>⟨#[],?_⟩) (λm hm=>?_) (λb u e=>?_) I.bare
 ·rw[ak (eA (fI (cB e) hT))];exact n
 ·rw[ak (ba e hn)];exact e
 ·rw[ak (ba e hn)];exact e
 ·rw[ak (ba e hn),e];simp
 ·obtain⟨o,es,ep,ho,r⟩:=hm
  exact⟨o,es,ep,k _ o (λz=>(hf _ z).2.1 rfl) ho,r⟩
 ·by_cases hb:b=T
  ·subst hb
   rw[ao]at e;cases e;exact new
  ·rw[ak hb]at e
   refine(I.hok b u e).stay (λc v hc q=>k c v ?_ q) (λc q=>by rw[ak (ba q hn)];exact q) λc xs q=>by rw[ak (ba q hn)];exact q
   rcases hc with z|z
   ·rw[z];exact qE b u e
   ·exact qE c _ z
theorem Inv.lock(I:Inv X ae σ H s)(h:H d=some u)(mu:nO (some u)):∃od,Inv X ae σ (upd H d (.aQ od u)) s:=by
 have x:=I.hok d u h;have ex:∃od,s.heap.get? d=some od:=by cases u with
  |lst xs=>obtain⟨_,_,_,_,e⟩:=x;exact⟨_,e⟩|dK kvs=>obtain⟨_,_,_,_,o,_,_,e,_⟩:=x;exact⟨o,e⟩|dT kvs=>obtain⟨_,_,_,_,o,_,_,e,_⟩:=x;exact⟨o,e⟩|set S n=>obtain⟨o,_,_,_,e,_⟩:=x;exact⟨o,e⟩|ins C dx fs=>obtain⟨_,_,_,e,_⟩:=x;exact⟨_,e⟩|ext φ=>obtain⟨_,⟨_,e⟩,_⟩:=x;exact⟨_,e⟩|_=>exact False.elim mu
 obtain⟨od,e⟩:=ex;have new:d3 X.prog X.w (upd H d (.aQ od u)) s.heap d (.aQ od u):=by
  refine⟨e,x.stay (λb v _ q=>q) (λb q=>?_) λb xs q=>?_⟩
  ·rw[ak (λz=>by rw[z,h]at q;cases q;exact mu)];exact q
  ·rw[ak (λz=>by rw[z,h]at q;cases q;exact mu)];exact q
 exact⟨od,I.write (x:=d) (e:=d) (t':=s.toks) (h':=s.heap) (by rw[h];exact mu) (.inl rfl) (λb v _ q=>q) ⟨od,e⟩ new⟩
theorem Inv.vo(I:Inv X ae σ H s)(h:H d=some u)(mu:nO (some u)):∀o' u',X.mw d≠some (.aQ o' u'):=λo' u' e=>by have q:=I.base.jE d o' u' e;rw[h]at q;cases q;exact mu
theorem Inv.unlock(I:Inv X ae σ H s)(h:H d=some (.aQ od u))(hn:∀o' u',X.mw d≠some (.aQ o' u')):Inv X ae σ (upd H d u) s:=by
 have vp:∀b o,H b=some o->(∀o' u',o≠.aQ o' u')->b≠d:=λb o e cD z=>by rw[z,h]at e;cases e;exact cD _ _ rfl
 have neN:∀b,H b=none->b≠d:=λb e z=>by rw[z,h]at e;cases e
 refine⟨I.ok,I.os,I.bare,⟨I.base.keep,I.base.slot,λb o e n hx=>?_,I.base.there,λb xs e=>?_,λb o x e=>?_,λb ps e=>?_⟩,I.loc,I.cell,?_,λx c e=>?_,λp hp=>?_,λb o e=>?_,I.len⟩
 ·rw[ak (neN b (I.base.free b o e n hx))];exact I.base.free b o e n hx
 ·have q:=I.base.tups b xs e
  rw[ak (vp b _ q (λ_ _ z=>nomatch z))];exact q
 ·have q:=I.base.jE b o x e
  rw[ak (λz=>by rw[z]at e;exact hn _ _ e)];exact q
 ·obtain⟨m,q⟩:=I.base.km b ps e
  exact⟨m,by rw[ak (vp b _ q (λ_ _ z=>nomatch z))];exact q⟩
 ·rw[ak (neN _ I.free)];exact I.free
 ·rw[ak (neN c (I.jG x c e))];exact I.jG x c e
 ·obtain⟨e,n,r⟩:=I.pin p hp
  exact⟨e,by rw[ak (neN _ n)];exact n,r⟩
 ·by_cases hb:b=d
  ·rw[hb,ao]at e
   cases e;rw[hb];obtain⟨_,x⟩:=I.hok d _ h;exact x.stay (λc v _ q=>q) (λc q=>by rw[ak (vp c _ q (λ_ _ z=>nomatch z))];exact q) λc xs q=>by rw[ak (vp c _ q (λ_ _ z=>nomatch z))];exact q
  ·rw[ak hb]at e
   exact(I.hok b o e).stay (λc v _ q=>q) (λc q=>by rw[ak (vp c _ q (λ_ _ z=>nomatch z))];exact q) λc xs q=>by rw[ak (vp c _ q (λ_ _ z=>nomatch z))];exact q
end
def acH(t:TS):TS:=λD σ H=>∃d u,H d=some u/\nO (some u)/\∀od,t ⟨λσ' H'=>H' d=some (.aQ od u)/\D.nx σ' (upd H' d u),λv H'=>H' d=some (.aQ od u)/\D.rt v (upd H' d u),λσ' H'=>H' d=some (.aQ od u)/\D.bk σ' (upd H' d u),λσ' H'=>H' d=some (.aQ od u)/\D.ct σ' (upd H' d u)⟩ σ (upd H d (.aQ od u))
def acI(t:TE):TE:=λσ H Q=>∃d u,H d=some u/\nO (some u)/\∀od,t σ (upd H d (.aQ od u)) λv H'=>H' d=some (.aQ od u)/\Q v (upd H' d u)
section
variable{X:Cx}
theorem yE{st:aV}{t:TS}(h:PS X st t):PS X st (acH t):=by intro ae s σ H D I hw;obtain⟨d,u,hd,mu,hw⟩:=hw;obtain⟨od,I1⟩:=I.lock hd mu;refine aU (h ae s σ _ _ I1 (hw od)) λf s1 q=>?_;cases f with|next=>obtain⟨σ',H',I2,e,q⟩:=q;exact⟨σ',_,I2.unlock e (I.vo hd mu),q⟩|brk=>obtain⟨σ',H',I2,e,q⟩:=q;exact⟨σ',_,I2.unlock e (I.vo hd mu),q⟩|cont=>obtain⟨σ',H',I2,e,q⟩:=q;exact⟨σ',_,I2.unlock e (I.vo hd mu),q⟩|ret v=>obtain⟨x,σ',H',I2,r,e,q⟩:=q;exact⟨x,σ',_,I2.unlock e (I.vo hd mu),r,q⟩
theorem Hy(h:PE X e t):PE X e (acI t):=by intro ae s σ H Q I hw;obtain⟨d,u,hd,mu,hw⟩:=hw;obtain⟨od,I1⟩:=I.lock hd mu;refine aU (h ae s σ _ _ I1 (hw od)) λv s1 br=>?_;obtain⟨x,H1,I2,r,e2,q⟩:=br;exact⟨x,_,I2.unlock e2 (I.vo hd mu),r,q⟩
theorem yF{σ:St}{R:It->Hp->Prop}{J:It}{tn:Nat->bg->Prop}{tk:Nat}(I:Inv X ae σ H s)(o:bx) (T:Turn X.prog X.w X.K tg J [s.heap.objs.size] s.heap.objs.size tn)(st:tn 0 (s.heap.push o))(q:R J H):BF X ae σ tg R (.ref s.heap.objs.size) {s with heap:=s.heap.push o,toks:=tk}:=by
 refine⟨s.heap.objs.size,[s.heap.objs.size],tn,J,H,rfl,I.kept λb ob e=>cN _ e,T,st,λb hb=>?_,q⟩;have e:b=s.heap.objs.size:=by simpa using hb
 subst e;exact I.vc (bM _) (I.hok.fresh (bM _))
end
def Hz(lo c:Int)(n:Nat):It:=⟨λi _=>i<n,λi H x H'=>H'=H/\x=.int (lo+(i:Nat)*c),λi _=>n<=i⟩
theorem acJ{P:bR}{w:bI}{K:aG}{tg:a_}(it:af)(lo c:Int)(n:Nat):Turn P w K tg (Hz lo c n) [it] it (λi h=>F4 h it (lo+(i:Nat)*c) ((n:Int)-(i:Nat)) c)where
 mem:=by simp
 obj:=λi h st b hb=>by
  have e:b=it:=by simpa using hb
  subst e;exact⟨_,st,λv z=>nomatch z⟩
 keep:=λi h h' st k=>k it (by simp) _ st
 item:=by intro X hP hw hK hc i ae s σ H E I hf st hg;subst hP hw hK;obtain⟨f0,f1,f2,f3,f4,f5⟩:=hf it (by simp);have W:=Walks.range (prog:=X.prog) (w:=X.w) (I.ok.hd hc) it lo c n;refine W.item i s _ _ hg st λv h' tk hv fU kk=>?_;obtain⟨t,rfl⟩:=hv;have I1:Inv X ae σ H {s with heap:=h',toks:=tk}:=I.turned (λb o hb e=>kk b o (by simpa using hb) e) f0 f1 f3 f4 f5;exact⟨_,rfl,vd (s:={s with heap:=h',toks:=tk}) (n:="range_iterator") fU rfl rfl (by decide) ⟨.int (lo+(i:Nat)*c),H,I1,⟨t,rfl⟩,⟨rfl,rfl⟩,fU,λb hb=>(hf b hb).1⟩⟩
 done:=by intro X hP hw hK hc i ae s σ H E I hf st hg;subst hP hw hK;obtain⟨f0,f1,f2,f3,f4,f5⟩:=hf it (by simp);exact O1 (I.ok.hd hc) st (by have:n<=i:=hg;lia) λh' eb=>⟨rfl,I.turned (t':=s.toks) (λb o hb e=>eb b o hb e) f0 f1 f3 f4 f5⟩
 self:=λA i s Q E st h=>O2 st h
def RC(i j c:Int)(n:Nat):Prop:=c≠0/\c.natAbs<1073741824/\aag i j c=true/\Po i j c=n
def acK(ta:TA):TI:=λσ H R=>ta σ H λvs H1=>∃(i j c:Int)(n:Nat),vs=[.int i,.int j,.int c]/\RC i j c n/\R (Hz i c n) H1
section
variable{X:Cx}{tg:a_}
theorem acL(hg:Gl X "range")(hm:X.mg "range"=none)(ha:PA X [a,b,c] ta) (hs:bE [a,b,c] X.env=(false,eval a X.env)::bE [b,c] X.env:=by rfl)(dk:(backTo pos (bE [b,c] X.env)).any (·.1)=false:=by rfl):
  PI X tg (.Call (.Name "range" p) [a,b,c] [] pos) (acK ta):=by
 intro ae s σ H R I h;refine A2 (qF I hg hm boot_range (xC (aU (ha pos ae s σ H _ I h) λus s1⟨vs,H1,I1,r1,q1⟩=>?_) hs dk));obtain⟨i,j,k,n,e,⟨c0,c1,c2,c3⟩,q⟩:=q1;subst e;cases r1 with|cons r rr=>cases rr with|cons r' rr=>cases rr with|cons r'' rr=>
    cases rr;obtain⟨t,rfl⟩:=r;obtain⟨t',rfl⟩:=r';obtain⟨t'',rfl⟩:=r'';refine call_range_3 c0 ?_ (.inl (PyProof.noPylong_small c1));refine wpAny_pyIter_range (IsRange.new ..) c2 ?_;have I2:Inv X ae σ H1 {s1 with heap:=s1.heap.push {cls:=.type "range",data:=.fields #[.int i t,.int j t',.int k t'']}}:=I1.kept (t':=s1.toks) λb o e=>cN _ e;refine yF (tk:=s1.toks) I2 _ (acJ _ i k n) ?_ q;have e1:i+((0:Nat):Int)*k=i:=by simp
    have e2:(n:Int)-((0:Nat):Int)=Po i j k:=by rw[c3];simp
    show F4 _ _ (i+((0:Nat):Int)*k) ((n:Int)-((0:Nat):Int)) k;rw[e1,e2];exact eC _ rfl
end
section
variable{prog:bR}{w:bI}{A:dF}{E:ag->aA->Prop}{s:aA}
theorem RD{es:Array nH}{ep:Nat}(hd:(d==iB)=false)(ho:s.heap.get? d=some o)(hc:o.ExactDict)(RE:o.data=.dict es ep) (hQ:Q (.ref s.heap.objs.size) {s with heap:=s.heap.push {cls:=.type "dict_keyiterator",data:=.fields #[.ref d,.int 0 0,.int es.size 0,.int ep 0]}}):
  aH (aO prog w) A (pyIter (.ref d)) Q E s:=by
 have hT:s.TypeIs (.ref d) "dict":=⟨o,ho,hc.1⟩;refine O7 hT PQ (sx PQ hT F.entry_dict_iter ?_ (F.args_dict_iter_1 _));unfold sH.«dict.__iter__»;refine aI ?_;unfold Builtin.Dict.dictSlotNone;refine aI (wpAny_notOrdered_dict hT ?_);show aH _ _ (pure (dg d)) _ _ s;refine bN ?_;show aH _ _ (Builtin.Dict.showsAll d>>=_) _ _ s;unfold Builtin.Dict.showsAll;rw[ah (by rw[hd];exact fR)];refine aI (bN ?_);refine aI (FW ho RE ?_);refine aI (FX ho RE ?_);refine aI (A5 (bN ⟨_,rfl,"dict_keyiterator",_,⟨_,eC _ rfl,rfl⟩,F.slot_dict_keyiterator_next.lookup,?_⟩));simpa[gA]using hQ
theorem acM{i n ep:Nat}{es:Array nH}{en:nH}{Q:Option ag->aA->Prop}(hit:s.heap.IsKeyIter it d i n ep)(fE:s.heap.get? d=some od)(yG:od.data=.dict es ep) (hsz:es.size=n)(hx:es[i]? =some en)(hQ:∀h',h'.IsKeyIter it d (i+1) n ep->uY it s.heap h'->Q (some en.key) {s with heap:=h'}):aH (aO prog w) A (mf (.ref it)) Q E s:=by
 obtain⟨o,ho,hc,hd⟩:=id hit;unfold mf
 refine aI (xH (xE (name:=jC "__next__") hit.typeIs Bg (sx Bg hit.typeIs Pt ?_ (Pr _))))
 refine aI (bN ?_);refine aI ?_;refine aI ?_
 first|refine aI (A3 hit.typeIs (bN ?_))|refine aI (A4 hit.typeIs (bN ?_))
 refine aI (Pd ho hd ?_);have vq:Builtin.Dict_items.ownsTuple "dict_keyiterator"=false:=by decide
 simp only[vq,sg,l9];show aH _ _ (if(dg d==mh)=true then _ else _) _ _ s;rw[ah (show¬((dg d==mh)=true)from fR)];refine aI (bN ?_);refine aI (FW fE yG ?_);rw[ah (by rw[hsz];simp)];refine aI (bN ?_);refine aI (FX fE yG ?_);rw[ah (by simp)];refine bN ?_;obtain⟨acN,HA⟩:=Array.getElem?_eq_some_iff.mp hx;simp only[show¬((i:Int)<0)from by lia,l9,xh,E1 acN];refine aI ?_
 first|refine aI (A3 hit.typeIs (bN ?_))|refine aI (A4 hit.typeIs (bN ?_))
 refine aI (O4 hit.typeIs ?_);show aH _ _ (setField (.ref it) 1 (gA ((i:Int)+1))>>=_) _ _ s;refine aI (FY ho hd (by simp) ?_)
 have B1:(s.heap.update it (PZ (·.setIfInBounds 1 (gA ((i:Int)+1))))).IsKeyIter it d (i+1) n ep:=⟨_,PV _ ho (PX (Bm hd _)),(PY ..).trans hc,by rw[Bm hd];simp[gA]⟩
 refine aI (F1 ?_);refine aI (O4 (s:={s with heap:=s.heap.update it (PZ (·.setIfInBounds 1 (gA ((i:Int)+1))))}) B1.typeIs ?_);show aH _ _ (pure es[i].key) _ _ _;rw[HA];exact bN (bN ⟨_,rfl,bN (hQ _ B1 (Ge ..))⟩)
theorem RF{i n ep:Nat}{es:Array nH}{Q:Option ag->aA->Prop}(hh:A.handled=none)(hit:s.heap.IsKeyIter it d i n ep)(fE:s.heap.get? d=some od)(yG:od.data=.dict es ep) (hsz:es.size=n)(mJ:n<=i)(hQ:∀h',Heap.ExtBut it s.heap h'->Q none {s with heap:=h'}):aH (aO prog w) A (mf (.ref it)) Q E s:=by
 obtain⟨o,ho,hc,hd⟩:=id hit;unfold mf
 refine aI (xH (xE (name:=jC "__next__") hit.typeIs Bg (sx Bg hit.typeIs Pt ?_ (Pr _))))
 refine aI (bN ?_);refine aI ?_;refine aI ?_
 first|refine aI (A3 hit.typeIs (bN ?_))|refine aI (A4 hit.typeIs (bN ?_))
 refine aI (Pd ho hd ?_);have vq:Builtin.Dict_items.ownsTuple "dict_keyiterator"=false:=by decide
 simp only[vq,sg,l9];show aH _ _ (if(dg d==mh)=true then _ else _) _ _ s;rw[ah (show¬((dg d==mh)=true)from fR)];refine aI (bN ?_);refine aI (FW fE yG ?_);rw[ah (by rw[hsz];simp)];refine aI (bN ?_);refine aI (FX fE yG ?_);rw[ah (by simp)];refine bN ?_;have acO:es.size<=i:=by rw[hsz];exact mJ
 simp only[show¬((i:Int)<0)from by lia,l9,xh,Array.getElem?_eq_none acO];refine aI ?_
 first|refine aI (A3 hit.typeIs (bN ?_))|refine aI (A4 hit.typeIs (bN ?_))
 show aH _ _ (setField (.ref it) 0 .none>>=_) _ _ s;refine aI (FY ho hd (by simp) ?_);show aH _ _ (newExc (.type "StopIteration") []>>=_) _ _ _;refine aI ?_;simp only[newExc,newTuple];refine aI (A5 ?_ (by size_fits));refine aI (m:=firstArgMember _ _) (wpAny_of_eq (a:=mh) (by first|rfl|(simp only[firstArgMember];rfl)) ?_);refine A5 ?_ (by size_fits);simp only[raiseNew];refine aI (wpAny_handled ?_);rw[show A.in1.handled=none from hh];refine aI (bN (wpAny_throw ?_));refine aI (Pb (T:="StopIteration") (b:=true) ⟨_,eC _ rfl,rfl⟩ Pe ?_);exact bN (hQ _ (((Ge ..).extBut.push _).push _))
end
theorem HB{κ:Type}{kvs:List (κ×V)}{vs:List (κ×ag)}(h:KV kvs vs):∀{i:Nat}{k:κ}{v:V},kvs[i]? =some (k,v)->∃u,vs[i]? =some (k,u)/\RelV v u:=by unfold KV at h;induction h with|nil=>intro i k v e;simp at e| @cons a b l₁ l₂ r t ih=>intro i k v e;cases i with|zero=>simp only[E9,AV]at e;subst e;refine⟨b.2,?_,r.2⟩;simp only[E9];exact eW some (Prod.ext r.1.symm rfl)|succ j=>simp only[Og]at e⊢;exact ih e
theorem acP{α β:Type}{G:α->β->Prop}{l₁:List α}{l₂:List β}(h:sI G l₁ l₂):∀{i:Nat}{a:α},l₁[i]? =some a->∃b,l₂[i]? =some b/\G a b:=by induction h with|nil=>intro i a e;simp at e| @cons a b l₁ l₂ r t ih=>intro i a' e;cases i with|zero=>simp only[E9,AV]at e;subst e;exact⟨b,rfl,r⟩|succ j=>simp only[Og]at e⊢;exact ih e
theorem RH{k:Key}(h:oY k u=true):RelV (kV k) u:=by
 rcases nN h with⟨i,t,rfl,rfl⟩|⟨x,t,rfl,rfl⟩
 ·exact⟨t,rfl⟩
 ·exact⟨t,rfl⟩
section
variable{X:Cx}{ae:List (af×bx)}{σ:St}{H:Hp}{s:aA}{d:af}{o:bx}
theorem Inv.pj(I:Inv X ae σ H s)(h:H d=some (.aQ o (.dK kvs))):(d==iB)=false/\s.heap.get? d=some o/\o.ExactDict/\∃(es:Array nH)(ep:Nat)(vs:List (Key×ag)),o.data=.dict es ep/\es.size=kvs.length/\KV kvs vs/\s.heap.DictAt (ff X.prog X.w) d vs ep:=by
 obtain⟨hd,z,hs,vs,kv,o',es,ep,ho,hx,ed,r⟩:=I.hok d _ h;rw[hd]at ho;cases ho;refine⟨hs,hd,hx,es,ep,vs,ed,?_,kv,o,es,hd,hx,ed,r⟩;have l1:=r.2.1.length;have l2:kvs.length=vs.length:=k8 kv;rw[sf]at l1;lia
theorem Inv.HC{kvs:List (List Key×V)}(I:Inv X ae σ H s)(h:H d=some (.aQ o (.dT kvs))):(d==iB)=false/\s.heap.get? d=some o/\o.ExactDict/\∃(es:Array nH)(ep:Nat),o.data=.dict es ep/\es.size=kvs.length/\∀(i:Nat)(k:List Key)(v:V),kvs[i]? =some (k,v)->∃(en:nH)(q:af),es[i]? =some en/\en.key=.ref q/\H q=some (.tup (k.map kV)):=by
 obtain⟨hd,z,hs,xs,pr,o',es,ep,ho,hx,ed,he,_⟩:=I.hok d _ h;rw[hd]at ho;cases ho;refine⟨hs,hd,hx,es,ep,ed,?_,λi k v e=>?_⟩
 ·have l1:es.size=xs.length:=size_of_entries he
  have l2:kvs.length=xs.length:=k8 pr;lia
 ·obtain⟨b,hb,e1,e2,_⟩:=acP pr e
  have q:=entry_at he i;rw[hb]at q;exact⟨_,b.2.1,q,rfl,e2⟩
end
def HD(d:af)(o:bx)(kvs:List (Key×V)):It:=⟨λi H=>H d=some (.aQ o (.dK kvs))/\i<kvs.length,λi H x H'=>H'=H/\∃k v,kvs[i]? =some (k,v)/\x=kV k,λi H=>H d=some (.aQ o (.dK kvs))/\kvs.length<=i⟩
def RI(d:af)(o:bx)(kvs:List (List Key×V)):It:=⟨λi H=>H d=some (.aQ o (.dT kvs))/\i<kvs.length,λi H x H'=>H'=H/\∃(k:List Key)(v:V)(q:af),kvs[i]? =some (k,v)/\x=.ref q/\H q=some (.tup (k.map kV)),λi H=>H d=some (.aQ o (.dT kvs))/\kvs.length<=i⟩
def HE(d:af)(o:bx)(kvs:List (Key×V)):It:=⟨λi H=>H d=some (.aQ o (.dK kvs))/\i<kvs.length,λi H x H'=>H'=H/\∃k,kvs[i]? =some (k,x),λi H=>H d=some (.aQ o (.dK kvs))/\kvs.length<=i⟩
def HF(d:af)(o:bx)(kvs:List (Key×V)):It:=⟨λi H=>H d=some (.aQ o (.dK kvs))/\i<kvs.length,λi H x H'=>∃T k v,kvs[i]? =some (k,v)/\x=.ref T/\H T=none/\H'=upd H T (.tup [kV k,v]),λi H=>H d=some (.aQ o (.dK kvs))/\kvs.length<=i⟩
theorem qR{o:bx}{es jI:Array nH}{ep jJ:Nat}(h:o.data=.dict es ep)(h':o.data=.dict jI jJ):jI=es/\jJ=ep:=by rw[h]at h';cases h';exact⟨rfl,rfl⟩
section
variable{P:bR}{w:bI}{K:aG}{tg:a_}{d:af}{o:bx}{es:Array nH}{ep:Nat}
theorem acQ{kvs:List (Key×V)}(it:af)(fE:o.data=.dict es ep):Turn P w K tg (HD d o kvs) [it] it (λi h=>h.IsKeyIter it d i kvs.length ep)where
 mem:=by simp
 obj:=λi h st b hb=>by
  have e:b=it:=by simpa using hb
  subst e;obtain⟨oi,e,c,dd⟩:=st;exact⟨oi,e,λv z=>by rw[dd]at z;cases z⟩
 keep:=λi h h' st k=>st.at λoi e=>k it (by simp) oi e
 item:=by intro X hP hw hK hc i ae s σ H E I hf st hg;subst hP hw hK;obtain⟨hd,hi⟩:=hg;obtain⟨f0,f1,f2,f3,f4,f5⟩:=hf it (by simp);obtain⟨hs,i4,hx,jI,jJ,vs,ed,hsz,kv,hm⟩:=I.pj hd;obtain⟨rfl,rfl⟩:=qR fE ed;obtain⟨⟨k,v⟩,gG⟩:∃p,kvs[i]? =some p:=⟨kvs[i],dY hi⟩;obtain⟨u,hu,ru⟩:=HB kv gG;have hl:kvs.length=vs.length:=k8 kv;rw[hl]at st;refine wpAny_pyNext_dict_item st hm hu λkey h' mC fU sb=>?_;have I1:Inv X ae σ H {s with heap:=h'}:=I.turned (t':=s.toks) (λb ob hb e=>(sb.2 b hb).trans e) f0 f1 f3 f4 f5;obtain⟨oi,e,c,dd⟩:=id fU;refine⟨key,rfl,vd (s:={s with heap:=h'}) e c dd (by decide) ⟨kV k,H,I1,RH (show oY k key=true from mC),⟨rfl,k,v,gG,rfl⟩,?_,λb hb=>(hf b hb).1⟩⟩;show h'.IsKeyIter it d (i+1) kvs.length _;rw[hl];exact fU
 done:=by intro X hP hw hK hc i ae s σ H E I hf st hg;subst hP hw hK;obtain⟨hd,hi⟩:=hg;obtain⟨f0,f1,f2,f3,f4,f5⟩:=hf it (by simp);obtain⟨hs,i4,hx,jI,jJ,vs,ed,hsz,kv,hm⟩:=I.pj hd;obtain⟨rfl,rfl⟩:=qR fE ed;exact RF (I.ok.hd hc) st i4 ed hsz hi λh' eb=>⟨rfl,I.turned (t':=s.toks) (λb ob hb e=>eb b ob hb e) f0 f1 f3 f4 f5⟩
 self:=λA i s Q E st h=>wpAny_pyIter_keyiter st h
theorem acR{kvs:List (List Key×V)}(it:af)(fE:o.data=.dict es ep):Turn P w K tg (RI d o kvs) [it] it (λi h=>h.IsKeyIter it d i kvs.length ep)where
 mem:=by simp
 obj:=λi h st b hb=>by
  have e:b=it:=by simpa using hb
  subst e
  obtain⟨oi,e,c,dd⟩:=st
  exact⟨oi,e,λv z=>by rw[dd]at z;cases z⟩
 keep:=λi h h' st k=>st.at λoi e=>k it (by simp) oi e
 item:=by
  intro X hP hw hK hc i ae s σ H E I hf st hg
  subst hP hw hK
  obtain⟨hd,hi⟩:=hg
  obtain⟨f0,f1,f2,f3,f4,f5⟩:=hf it (by simp)
  obtain⟨hs,i4,hx,jI,jJ,ed,hsz,ent⟩:=I.HC hd
  obtain⟨rfl,rfl⟩:=qR fE ed
  obtain⟨⟨k,v⟩,gG⟩:∃p,kvs[i]? =some p:=⟨kvs[i],dY hi⟩
  obtain⟨en,q,HA,mC,hq⟩:=ent i k v gG
  refine acM st i4 ed hsz HA λh' fU sb=>?_
  have I1:Inv X ae σ H {s with heap:=h'}:=I.turned (t':=s.toks) (λb ob hb e=>(sb.2 b hb).trans e) f0 f1 f3 f4 f5
  obtain⟨oi,e,c,dd⟩:=id fU
  exact⟨en.key,rfl,vd (s:={s with heap:=h'}) e c dd (by decide) ⟨.ref q,H,I1,mC,⟨rfl,k,v,q,gG,rfl,hq⟩,fU,λb hb=>(hf b hb).1⟩⟩
 done:=by
  intro X hP hw hK hc i ae s σ H E I hf st hg
  subst hP hw hK
  obtain⟨hd,hi⟩:=hg
  obtain⟨f0,f1,f2,f3,f4,f5⟩:=hf it (by simp)
  obtain⟨hs,i4,hx,jI,jJ,ed,hsz,ent⟩:=I.HC hd
  obtain⟨rfl,rfl⟩:=qR fE ed
  exact RF (I.ok.hd hc) st i4 ed hsz hi λh' eb=>⟨rfl,I.turned (t':=s.toks) (λb ob hb e=>eb b ob hb e) f0 f1 f3 f4 f5⟩
 self:=λA i s Q E st h=>by
  refine O7 st.typeIs Pu (sx Pu st.typeIs F.entry_dict_keyiterator_iter ?_ (F.args_dict_keyiterator_iter_1 _))
  show aH _ _ (ret (.ref it)) _ _ s
  exact bN ⟨_,rfl,"dict_keyiterator",_,st.typeIs,F.slot_dict_keyiterator_next.lookup,h⟩
theorem acS{kvs:List (Key×V)}(it:af)(fE:o.data=.dict es ep):Turn P w K tg (HE d o kvs) [it] it (λi h=>h.IsValIter it d i kvs.length ep)where
 mem:=by simp
 obj:=λi h st b hb=>by
  have e:b=it:=by simpa using hb
  subst e;obtain⟨oi,e,c,dd⟩:=st;exact⟨oi,e,λv z=>by rw[dd]at z;cases z⟩
 keep:=λi h h' st k=>st.at λoi e=>k it (by simp) oi e
 item:=by intro X hP hw hK hc i ae s σ H E I hf st hg;subst hP hw hK;obtain⟨hd,hi⟩:=hg;obtain⟨f0,f1,f2,f3,f4,f5⟩:=hf it (by simp);obtain⟨hs,i4,hx,jI,jJ,vs,ed,hsz,kv,hm⟩:=I.pj hd;obtain⟨rfl,rfl⟩:=qR fE ed;obtain⟨⟨k,v⟩,gG⟩:∃p,kvs[i]? =some p:=⟨kvs[i],dY hi⟩;obtain⟨u,hu,ru⟩:=HB kv gG;have hl:kvs.length=vs.length:=k8 kv;rw[hl]at st;refine wpAny_pyNext_values_item st hm hu λh' fU sb=>?_;have I1:Inv X ae σ H {s with heap:=h'}:=I.turned (t':=s.toks) (λb ob hb e=>(sb.2 b hb).trans e) f0 f1 f3 f4 f5;obtain⟨oi,e,c,dd⟩:=id fU;refine⟨u,rfl,vd (s:={s with heap:=h'}) e c dd (by decide) ⟨v,H,I1,ru,⟨rfl,k,gG⟩,?_,λb hb=>(hf b hb).1⟩⟩;show h'.IsValIter it d (i+1) kvs.length _;rw[hl];exact fU
 done:=by intro X hP hw hK hc i ae s σ H E I hf st hg;subst hP hw hK;obtain⟨hd,hi⟩:=hg;obtain⟨f0,f1,f2,f3,f4,f5⟩:=hf it (by simp);obtain⟨hs,i4,hx,jI,jJ,vs,ed,hsz,kv,hm⟩:=I.pj hd;obtain⟨rfl,rfl⟩:=qR fE ed;have hl:kvs.length=vs.length:=k8 kv;rw[hl]at st;exact wpAny_pyNext_values_end (I.ok.hd hc) st hm (Fd (by lia)) λh' eb=>⟨rfl,I.turned (t':=s.toks) (λb ob hb e=>eb b ob hb e) f0 f1 f3 f4 f5⟩
 self:=λA i s Q E st h=>wpAny_pyIter_valiter st h
theorem acT{kvs:List (Key×V)}{elts:List a_}{kk:Nat}{iD:dG}(it:af)(fE:o.data=.dict es ep):Turn P w K (.Tuple elts kk iD) (HF d o kvs) [it] it (λi h=>∃ok ov,IsItemIter h it d i kvs.length ep ok ov)where
 mem:=by simp
 obj:=λi h st b hb=>by
  have e:b=it:=by simpa using hb
  subst e;obtain⟨ok,ov,e⟩:=st;exact⟨_,e,λv z=>nomatch z⟩
 keep:=λi h h' st k=>let⟨ok,ov,e⟩:=st;⟨ok,ov,k it (by simp) _ e⟩
 item:=by
  intro X hP hw hK hc i ae s σ H E I hf st hg;subst hP hw hK;obtain⟨hd,hi⟩:=hg;obtain⟨hs,i4,hx,jI,jJ,vs,ed,hsz,kv,hm⟩:=I.pj hd;obtain⟨rfl,rfl⟩:=qR fE ed;obtain⟨⟨k,v⟩,gG⟩:∃p,kvs[i]? =some p:=⟨kvs[i],dY hi⟩;obtain⟨u,hu,ru⟩:=HB kv gG;have hl:kvs.length=vs.length:=k8 kv;obtain⟨ok,ov,he⟩:=st;rw[hl]at he;have dN:it<s.heap.objs.size:=cB he;refine wpAny_pyNext_items_item he hm hu λkey h' mC ho hT hz hk=>?_;refine⟨_,rfl,wpAny_letOwnedTupleGo_items (s:={s with heap:=h'}) ho λi3 HG sb=>?_⟩;have lG:i3.get? s.heap.objs.size=some {cls:=.type "tuple",data:=.seq #[key,u]}:=(sb.2 _ (sk dN)).trans hT
  have new:d3 X.prog X.w (upd H s.heap.objs.size (.tup [kV k,v])) i3 s.heap.objs.size (.tup [kV k,v]):=⟨by show 2<=aS;decide,[key,u],.cons (RH (show oY k key=true from mC)) (.cons ru .nil),⟨_,lG,rfl,_,rfl⟩⟩
  have I1:Inv X ae σ (upd H s.heap.objs.size (.tup [kV k,v])) {s with heap:=i3}:=I.B0 (t':=s.toks) (ch:=[it]) (λb ob hb e=>(sb.2 b (by simpa using hb)).trans (hk b ob (by simpa using hb) e)) hf (bM _) new
  refine⟨.ref s.heap.objs.size,_,I1,rfl,⟨_,k,v,gG,rfl,I.hok.fresh (bM _),rfl⟩,⟨key,u,?_⟩,λb hb=>?_⟩
  ·rw[hl];exact HG
  ·have e:b=it:=by simpa using hb
   rw[e,ak (eA dN)];exact(hf it (by simp)).1
 done:=by intro X hP hw hK hc i ae s σ H E I hf st hg;subst hP hw hK;obtain⟨hd,hi⟩:=hg;obtain⟨f0,f1,f2,f3,f4,f5⟩:=hf it (by simp);obtain⟨hs,i4,hx,jI,jJ,vs,ed,hsz,kv,hm⟩:=I.pj hd;obtain⟨rfl,rfl⟩:=qR fE ed;have hl:kvs.length=vs.length:=k8 kv;obtain⟨ok,ov,he⟩:=st;rw[hl]at he;exact wpAny_pyNext_items_end (I.ok.hd hc) he hm (Fd (by lia)) λh' eb=>⟨rfl,I.turned (t':=s.toks) (λb ob hb e=>eb b ob hb e) f0 f1 f3 f4 f5⟩
 self:=λA i s Q E st h=>let⟨_,_,e⟩:=st;PySem.W.kcp_self e h
end
def acU(td:TE):TI:=λσ H R=>td σ H λx H1=>∃d o,x=.ref d/\((∃kvs,H1 d=some (.aQ o (.dK kvs))/\R (HD d o kvs) H1)∨∃kvs,H1 d=some (.aQ o (.dT kvs))/\R (RI d o kvs) H1)
def acV(td:TE):TI:=λσ H R=>td σ H λx H1=>∃d o kvs,x=.ref d/\H1 d=some (.aQ o (.dK kvs))/\R (HE d o kvs) H1
def acW(td:TE):TI:=λσ H R=>td σ H λx H1=>∃d o kvs,x=.ref d/\H1 d=some (.aQ o (.dK kvs))/\R (HF d o kvs) H1
section
variable{X:Cx}{tg e:a_}{td:TE}{apos cO:dG}
theorem B2(he:PE X e td):PI X tg e (acU td):=by
 intro ae s σ H R I h;refine aU (he ae s σ H _ I h) λu s1 br=>?_;obtain⟨x,H1,I1,rx,d,o,ex,q⟩:=br;subst ex;obtain rfl:u=dg d:=rx;rcases q with⟨kvs,hd,q⟩|⟨kvs,hd,q⟩
 ·obtain⟨hs,i4,hx,es,ep,vs,ed,hsz,kv,hm⟩:=I1.pj hd
  refine RD hs i4 hx ed (yF (tk:=s1.toks) I1 _ (acQ _ ed) ⟨_,eC _ rfl,rfl,?_⟩ q);rw[hsz]<;>rfl
 ·obtain⟨hs,i4,hx,es,ep,ed,hsz,ent⟩:=I1.HC hd
  refine RD hs i4 hx ed (yF (tk:=s1.toks) I1 _ (acR _ ed) ⟨_,eC _ rfl,rfl,?_⟩ q);rw[hsz]<;>rfl
theorem HH(he:PE X e td)(o7:me e "values" X.env (eval e X.env)=eval e X.env:=by rfl)(o8:(apos.endLine==cO.line)=true:=by rfl):PI X tg (.Call (.Attribute e "values" apos) [] [] cO) (acV td):=by
 intro ae s σ H R I h;refine uP (T:="dict") (id:="dict.values") o7 rfl o8 Gd Bk PL (aU (he ae s σ H _ I h) λu s1 br=>?_);obtain⟨x,H1,I1,rx,d,o,kvs,ex,hd,q⟩:=br;subst ex;obtain rfl:u=dg d:=rx;obtain⟨hs,i4,hx,es,ep,vs,ed,hsz,kv,hm⟩:=I1.pj hd;have hl:kvs.length=vs.length:=k8 kv;refine⟨hm.dictOf.typeIs,hm.dictOf.mapOf.noDict,?_⟩;have I2:Inv X ae σ H1 {s1 with heap:=s1.heap.push {cls:=.type "dict_values",data:=.fields #[.ref d]}}:=I1.kept (t':=s1.toks) λb ob q=>cN _ q;have fin:aH (aO X.prog X.w) X.A (pyIter (.ref s1.heap.objs.size)) (BF X ae σ tg R) X.xe {s1 with heap:=s1.heap.push {cls:=.type "dict_values",data:=.fields #[.ref d]}}:=by refine wpAny_pyIter_values (d:=d) (knd:=ff X.prog X.w) ⟨_,eC _ rfl,rfl,rfl⟩ (hm.push _) (yF (tk:=s1.toks) I2 _ (acS _ ed) ⟨_,eC _ rfl,rfl,?_⟩ q);rw[hl]<;>rfl
 show aH _ _ (nI cO (.builtin "dict.values") [.ref d] [] []) _ X.xe s1;exact FZ Bk PJ rfl (FU ⟨rfl,hm.dictOf.typeIs,PH _,_,O8 (ff X.prog X.w) d hs,⟨vs,hm.dictOf⟩,fin⟩)
theorem RJ{kk:Nat}(he:PE X e td)(o7:me e "items" X.env (eval e X.env)=eval e X.env:=by rfl)(o8:(apos.endLine==cO.line)=true:=by rfl):PI X (.Tuple elts kk iD) (.Call (.Attribute e "items" apos) [] [] cO) (acW td):=by
 intro ae s σ H R I h;refine uP (T:="dict") (id:="dict.items") o7 rfl o8 Gd PM F.type_dict_items (aU (he ae s σ H _ I h) λu s1 br=>?_);obtain⟨x,H1,I1,rx,d,o,kvs,ex,hd,q⟩:=br;subst ex;obtain rfl:u=dg d:=rx;obtain⟨hs,i4,hx,es,ep,vs,ed,hsz,kv,hm⟩:=I1.pj hd;have hl:kvs.length=vs.length:=k8 kv;refine⟨hm.dictOf.typeIs,hm.dictOf.mapOf.noDict,?_⟩;have I2:Inv X ae σ H1 {s1 with heap:=s1.heap.push {cls:=.type "dict_items",data:=.fields #[.ref d]}}:=I1.kept (t':=s1.toks) λb ob q=>cN _ q;have fin:aH (aO X.prog X.w) X.A (pyIter (.ref s1.heap.objs.size)) (BF X ae σ (.Tuple elts kk iD) R) X.xe {s1 with heap:=s1.heap.push {cls:=.type "dict_items",data:=.fields #[.ref d]}}:=by refine wpAny_pyIter_items (d:=d) (knd:=ff X.prog X.w) ⟨_,eC _ rfl,rfl,rfl⟩ (hm.push _) (yF (tk:=s1.toks) I2 _ (acT _ ed) ⟨.none,.none,?_⟩ q);rw[hl];exact eC _ rfl
 show aH _ _ (nI cO (.builtin "dict.items") [.ref d] [] []) _ X.xe s1;exact FZ PM F.entry_dict_items rfl (FU ⟨rfl,hm.dictOf.typeIs,F.args_dict_items_1 _,_,meets_dict_items (ff X.prog X.w) d hs,⟨vs,hm.dictOf⟩,fin⟩)
end
def HI(K:aG)(a:af):It:=⟨λi H=>∃(xs:List V)(x:V),aE K H a xs/\xs[i]? =some x,λi H v H'=>∃T x,v=.ref T/\H T=none/\H'=upd H T (.tup [.int (i:Nat),x])/\∀xs,aE K H a xs->xs[i]? =some x,λi H=>∃xs:List V,aE K H a xs/\xs.length<=i⟩
theorem acX{P:bR}{w:bI}{K:aG}{elts:List a_}{kk:Nat}{iD:dG}(a e it:af):Turn P w K (.Tuple elts kk iD) (HI K a) [e,it] e (λi h=>(∃old,IsEnum h e it ((i:Nat):Int) old)/\h.IsListIter it a i/\e≠it)where
 mem:=by simp
 obj:=λi h st b hb=>by
  obtain⟨⟨old,he⟩,⟨o,ho,hc,hd⟩,_⟩:=st;have e':b=e∨b=it:=by simpa using hb
  rcases e' with z|z
  ·rw[z];exact⟨_,he,λv q=>nomatch q⟩
  ·rw[z];exact⟨o,ho,λv q=>by rw[hd]at q;cases q⟩
 keep:=λi h h' st k=>let⟨⟨old,he⟩,hi,cD⟩:=st;⟨⟨old,k e (by simp) _ he⟩,hi.at λo q=>k it (by simp) o q,cD⟩
 item:=by
  intro X hP hw hK hc i ae s σ H E I hf st hg;subst hP hw hK;obtain⟨⟨old,he⟩,hit,cD⟩:=st;obtain⟨xs,x,hq,hx⟩:=hg;obtain⟨its,rv,p,hz⟩:=I.list hq;obtain⟨u,hu,ru⟩:=rv.get hx;have RK:e<s.heap.objs.size:=cB he;have hil:it<s.heap.objs.size:=by obtain⟨_,q,_⟩:=hit;exact cB q
  refine wpAny_pyNext_enum_item he hit p.isList (x:=u) (by simpa using hu) cD λh' ho B1 hT hsz hk=>?_;refine⟨_,rfl,wpAny_letOwnedTupleGo_enum (s:={s with heap:=h',toks:=s.toks+1}) ho λi3 HG sb=>?_⟩;have lG:i3.get? s.heap.objs.size=some {cls:=.type "tuple",data:=.seq #[.int i s.toks,u]}:=(sb.2 _ (sk RK)).trans hT
  have new:d3 X.prog X.w (upd H s.heap.objs.size (.tup [.int (i:Nat),x])) i3 s.heap.objs.size (.tup [.int (i:Nat),x]):=⟨by show 2<=aS;decide,[.int i s.toks,u],.cons ⟨_,rfl⟩ (.cons ru .nil),⟨_,lG,rfl,_,rfl⟩⟩
  have I1:Inv X ae σ (upd H s.heap.objs.size (.tup [.int (i:Nat),x])) {s with heap:=i3,toks:=s.toks+1}:=I.B0 (ch:=[e,it]) (λb ob hb q=>(sb.2 b (λz=>hb (by simp[z]))).trans (hk b ob (λz=>hb (by simp[z])) (λz=>hb (by simp[z])) q)) hf (bM _) new
  refine⟨.ref s.heap.objs.size,_,I1,rfl,⟨_,x,rfl,I.hok.fresh (bM _),rfl,λys hy=>by rw[I.yg hy hq];exact hx⟩,⟨⟨u,?_⟩,B1.at λo q=>(sb.2 it (Ne.symm cD)).trans q,cD⟩,λb hb=>?_⟩
  ·have e1:((i+1:Nat):Int)=(i:Int)+1:=by lia
   rw[e1];exact HG
  ·have jN:b<s.heap.objs.size:=by
    have e':b=e∨b=it:=by simpa using hb
    rcases e' with z|z
    ·rw[z];exact RK
    ·rw[z];exact hil
   rw[ak (eA jN)];exact(hf b hb).1
 done:=by intro X hP hw hK hc i ae s σ H E I hf st hg;subst hP hw hK;obtain⟨⟨old,he⟩,hit,cD⟩:=st;obtain⟨xs,hq,hx⟩:=hg;obtain⟨its,rv,p,hz⟩:=I.list hq;obtain⟨f0,f1,f2,f3,f4,f5⟩:=hf it (by simp);have hl:=rv.length;exact wpAny_pyNext_enum_end (I.ok.hd hc) he hit p.isList (by simp;lia) λh' eb=>⟨rfl,I.turned (t':=s.toks) (λb o hb q=>eb b o hb q) f0 f1 f3 f4 f5⟩
 self:=λA i s Q E st h=>let⟨⟨_,he⟩,_⟩:=st;O9 he h
def acY(K:aG)(ta:TA):TI:=λσ H R=>ta σ H λvs H1=>∃a xs,vs=[.ref a]/\aE K H1 a xs/\R (HI K a) H1
theorem RL{X:Cx}{e:a_}{ta:TA}{p pos iD:dG}{elts:List a_}{kk:Nat}(hg:Gl X "enumerate")(hm:X.mg "enumerate"=none)(ha:PA X [e] ta)(hs:bE [e] X.env=[(false,eval e X.env)]:=by rfl):PI X (.Tuple elts kk iD) (.Call (.Name "enumerate" p) [e] [] pos) (acY X.K ta):=by
 intro ae s σ H R I h;refine A2 (qF I hg hm boot_enumerate (xC (aU (ha pos ae s σ H _ I h) λus s1⟨vs,H1,I1,r1,q1⟩=>?_) hs rfl));obtain⟨a,xs,ex,hq,q⟩:=q1;subst ex;cases r1 with|cons r rr=>
  cases rr;cases r;obtain⟨its,rv,p',hz⟩:=I1.list hq;refine call_enumerate_list p'.isList λh' he hit hsz hk=>O9 he ?_;have I2:Inv X ae σ H1 {s1 with heap:=h'}:=I1.kept (t':=s1.toks) hk;refine⟨s1.heap.objs.size+1,[s1.heap.objs.size+1,s1.heap.objs.size],_,_,H1,rfl,I2,acX a (s1.heap.objs.size+1) s1.heap.objs.size,⟨⟨.none,he⟩,hit,Nat.succ_ne_self _⟩,λb hb=>?_,q⟩;have e':b=s1.heap.objs.size+1∨b=s1.heap.objs.size:=by simpa using hb
  have hle:s1.heap.objs.size<=b:=by
   rcases e' with z|z
   ·rw[z];exact oO _ _
   ·rw[z];exact bM _
  exact I1.vc hle (I1.hok.fresh hle)
theorem RM:uS "zip"=some (.type "zip"):=by decide +kernel
def HJ(K:aG)(a b:af):It:=⟨λi H=>∃(xs ys:List V)(x y:V),aE K H a xs/\aE K H b ys/\xs[i]? =some x/\ys[i]? =some y,λi H v H'=>∃T x y,v=.ref T/\H T=none/\H'=upd H T (.tup [x,y])/\(∀xs,aE K H a xs->xs[i]? =some x)/\∀ys,aE K H b ys->ys[i]? =some y,
  λi H=>∃xs ys:List V,aE K H a xs/\aE K H b ys/\(xs.length<=i∨ys.length<=i)⟩
theorem acZ{P:bR}{w:bI}{K:aG}{elts:List a_}{kk:Nat}{iD:dG}{a b z TI TO i1 i2:af}(D:uU z TI TO i1 i2 a b):Turn P w K (.Tuple elts kk iD) (HJ K a b) [z,TI,TO,i1,i2] z (λi h=>iT h z TI TO .none/\fZ h TI (.ref i1) (.ref i2)/\(∃x y,fZ h TO x y)/\h.IsListIter i1 a i/\h.IsListIter i2 b i)where
 mem:=by simp
 obj:=λi h st c hc=>by
  obtain⟨hz,eG,⟨x,y,fh⟩,⟨o1,e1,_,d1⟩,⟨o2,e2,_,d2⟩⟩:=st;have e':c=z∨c=TI∨c=TO∨c=i1∨c=i2:=by simpa using hc
  rcases e' with q|q|q|q|q
  ·rw[q];exact⟨_,hz,λv q=>nomatch q⟩
  ·rw[q];exact⟨_,eG,λv q=>nomatch q⟩
  ·rw[q];exact⟨_,fh,λv q=>nomatch q⟩
  ·rw[q];exact⟨o1,e1,λv q=>by rw[d1]at q;cases q⟩
  ·rw[q];exact⟨o2,e2,λv q=>by rw[d2]at q;cases q⟩
 keep:=λi h h' st k=>by obtain⟨hz,eG,⟨x,y,fh⟩,h1,h2⟩:=st;exact⟨k z (by simp) _ hz,k TI (by simp) _ eG,⟨x,y,k TO (by simp) _ fh⟩,h1.at λo q=>k i1 (by simp) o q,h2.at λo q=>k i2 (by simp) o q⟩
 item:=by
  intro X hP hw hK hc i ae s σ H E I hf st hg;subst hP hw hK;obtain⟨hz,eG,⟨x0,y0,fh⟩,h1,h2⟩:=st;obtain⟨xs,ys,x,y,kx,ky,hx,hy⟩:=hg;obtain⟨its,rv,p,_⟩:=I.list kx;obtain⟨iY,pk,p2,_⟩:=I.list ky;obtain⟨u,hu,ru⟩:=rv.get hx;obtain⟨u2,vt,HK⟩:=pk.get hy;have yH:z<s.heap.objs.size:=cB hz;refine wpAny_pyNext_zip_item D hz eG fh h1 h2 p.isList p2.isList (x:=u) (y:=u2) (by simpa using hu) (by simpa using vt) λh' z' HL HM HN hT hsz hk=>?_;refine⟨_,rfl,O0 (s:={s with heap:=h'}) z' λi3 HP sb=>?_⟩;have lG:i3.get? s.heap.objs.size=some {cls:=.type "tuple",data:=.seq #[u,u2]}:=(sb.2 _ (sk yH)).trans hT
  have new:d3 X.prog X.w (upd H s.heap.objs.size (.tup [x,y])) i3 s.heap.objs.size (.tup [x,y]):=⟨by show 2<=aS;decide,[u,u2],.cons ru (.cons HK .nil),⟨_,lG,rfl,_,rfl⟩⟩
  have I1:Inv X ae σ (upd H s.heap.objs.size (.tup [x,y])) {s with heap:=i3}:=I.B0 (t':=s.toks) (ch:=[z,TI,TO,i1,i2]) (λc o hb q=>(sb.2 c (λq'=>hb (by simp[q']))).trans (hk c o (λq'=>hb (by simp[q'])) (λq'=>hb (by simp[q'])) (λq'=>hb (by simp[q'])) (λq'=>hb (by simp[q'])) q)) hf (bM _) new
  refine⟨.ref s.heap.objs.size,_,I1,rfl,⟨_,x,y,rfl,I.hok.fresh (bM _),rfl,λl hl=>by rw[I.yg hl kx];exact hx,λl hl=>by rw[I.yg hl ky];exact hy⟩,⟨HP,?_,⟨u,u2,?_⟩,?_,?_⟩,λc pq=>?_⟩
  ·exact(sb.2 _ D.TIz).trans (hk _ _ D.TIz D.TITO D.TIi1 D.TIi2 eG)
  ·exact(sb.2 _ D.TOz).trans HL
  ·exact HM.at λo q=>(sb.2 _ D.i1z).trans q
  ·exact HN.at λo q=>(sb.2 _ D.i2z).trans q
  ·have dN:c<s.heap.objs.size:=by
    have e':c=z∨c=TI∨c=TO∨c=i1∨c=i2:=by simpa using pq
    rcases e' with q|q|q|q|q
    ·rw[q];exact yH
    ·rw[q];exact cB eG
    ·rw[q];exact cB fh
    ·rw[q];obtain⟨_,e1,_⟩:=h1;exact cB e1
    ·rw[q];obtain⟨_,e2,_⟩:=h2;exact cB e2
   rw[ak (eA dN)];exact(hf c pq).1
 done:=by
  intro X hP hw hK hc i ae s σ H E I hf st hg;subst hP hw hK;obtain⟨hz,eG,⟨x0,y0,fh⟩,h1,h2⟩:=st;obtain⟨xs,ys,kx,ky,B3⟩:=hg;obtain⟨its,rv,p,_⟩:=I.list kx;obtain⟨iY,pk,p2,_⟩:=I.list ky;have l1:=rv.length;have l2:=pk.length;have he:its.toArray[i]? =none∨iY.toArray[i]? =none:=by
   rcases B3 with q|q
   ·exact .inl (by simp;lia)
   ·exact .inr (by simp;lia)
  exact wpAny_pyNext_zip_end (I.ok.hd hc) D hz eG fh h1 h2 p.isList p2.isList he λh' hk=>⟨rfl,I.RB (t':=s.toks) (ch:=[z,TI,TO,i1,i2]) (λc o hb q=>hk c o (λq'=>hb (by simp[q'])) (λq'=>hb (by simp[q'])) (λq'=>hb (by simp[q'])) (λq'=>hb (by simp[q'])) q) hf⟩
 self:=λA i s Q E st h=>A6 st.1 h
def ac0(K:aG)(ta:TA):TI:=λσ H R=>ta σ H λvs H1=>∃a b xs ys,vs=[.ref a,.ref b]/\aE K H1 a xs/\aE K H1 b ys/\R (HJ K a b) H1
theorem ac1{X:Cx}{e e2:a_}{ta:TA}{p pos iD:dG}{elts:List a_}{kk:Nat}(hg:Gl X "zip")(hm:X.mg "zip"=none)(ha:PA X [e,e2] ta) (hs:bE [e,e2] X.env=(false,eval e X.env)::bE [e2] X.env:=by rfl)(dk:(backTo pos (bE [e2] X.env)).any (·.1)=false:=by rfl):
  PI X (.Tuple elts kk iD) (.Call (.Name "zip" p) [e,e2] [] pos) (ac0 X.K ta):=by
 intro ae s σ H R I h;refine A2 (qF I hg hm RM (xC (aU (ha pos ae s σ H _ I h) λus s1⟨vs,H1,I1,r1,q1⟩=>?_) hs dk));obtain⟨a,b,xs,ys,ex,kx,ky,q⟩:=q1;subst ex;cases r1 with|cons r rr=>cases rr with|cons r' rr=>
   cases rr;cases r;cases r';obtain⟨its,rv,p1,_⟩:=I1.list kx;obtain⟨iY,pk,p2,_⟩:=I1.list ky;have la:a<s1.heap.objs.size:=p1.lt;have lb:b<s1.heap.objs.size:=p2.lt;refine call_zip_2 p1.isList p2.isList λh' hz eG fh h1 h2 hsz hk=>A6 hz ?_;have I2:Inv X ae σ H1 {s1 with heap:=h'}:=I1.kept (t':=s1.toks) hk;refine⟨s1.heap.objs.size+4,[s1.heap.objs.size+4,s1.heap.objs.size+2,s1.heap.objs.size+3,s1.heap.objs.size,s1.heap.objs.size+1],_,_,H1,rfl,I2,acZ (Qh s1.heap.objs.size a b la lb),⟨hz,eG,⟨_,_,fh⟩,h1,h2⟩,λc pq=>?_,q⟩;have e':c=s1.heap.objs.size+4∨c=s1.heap.objs.size+2∨c=s1.heap.objs.size+3∨c=s1.heap.objs.size∨c=s1.heap.objs.size+1:=by simpa using pq
   have hle:s1.heap.objs.size<=c:=by
    rcases e' with z|z|z|z|z
    ·rw[z];exact oO _ _
    ·rw[z];exact oO _ _
    ·rw[z];exact oO _ _
    ·rw[z];exact bM _
    ·rw[z];exact oO _ _
   exact I1.vc hle (I1.hok.fresh hle)
def inClass(s:aV)(j:Nat):aV:=match s with|.ClassDef _ _ _ body _ _ _ _ _ _ _=>body.getD j (.Pass ⟨0,0,0,0⟩)|_=>.Pass ⟨0,0,0,0⟩
def nW(s:aV):kc:=match s with|.FunctionDef _ a _ _ _ _ _ _ _ _=>a|_=>{posonlyargs:=[],args:=[],vararg:=none,kwonlyargs:=[],kw_defaults:=[],kwarg:=none,defaults:=[]}
def iG(s:aV):List aV:=match s with|.FunctionDef _ _ b _ _ _ _ _ _ _=>b|_=>[]
def bb(s:aV):dZ:=match s with|.FunctionDef _ _ _ _ _ _ sc _ _ _=>sc|_=>{kind:=.function,names:=[],isGenerator:=false,isCoroutine:=false}
abbrev bc:lx:=λ_ _ _ _ _ _=>False
abbrev E0:XK:=λ_ _ _=>False
theorem tw:Passes bc X E0:=λ_ _ _ _ _ _ _ h=>h.elim
structure bh(K:aG)(x qual:ai)(st:aV)(f:af)(fd:eB):Prop where
 ex:∃(oc:ag)(od:Option af)(kV doc pm:ag)(an:Option af)(dc ct:ag)(fL:Array (Option ag)),fd=k_ x qual (nW st) (iG st) (bb st) .none kV doc pm an dc ct/\K.lookup f=some ⟨oc,od,.func fd,fL⟩/\qx K dc qual=true
 kp:jf K (.ref f)=true
section
variable{P:bR}{w:bI}{K:aG}{mg:ai->Option ag}{base:bg}
theorem bh.ok{x qual:ai}{st:aV}{f:af}{fd:eB}{N ps:List ai}{k:Nat}{sp:Sp}(F:bh K x qual st f fd)(S:bu N ps (bb st))(len:∀vs H Q E,sp vs H Q E->vs.length=ps.length) (mF:∀(dc:ag)(A:dF)(outer:List d9)(s:aA)(H:Hp)(vs:List V)(Q:VK)(E:XK),c6 k (A.deeper (j9 qual (bb st) s.heap.objs.size f dc))->sp vs H Q E->∃t,iX (nU bc P w K mg base N qual (bb st) f dc A outer s H E).my (iG st) t/\t {nx:=λ_ H'=>Q .non H',rt:=Q} (start N vs) H):aX P w K mg base bc (k+1) f fd ps sp:=by
 obtain⟨oc,od,kV,doc,pm,an,dc,ct,fL,rfl,lk,fT⟩:=F.ex;refine Q2 lk fT S len λA outer s H vs Q E hr ly=>?_;obtain⟨t,h,q⟩:=mF dc A outer s H vs Q E hr ly;exact⟨t,h.my,q⟩
theorem bh.binds{x qual:ai}{st:aV}{f:af}{fd:eB}{ps:List ai}(F:bh K x qual st f fd) (h:∀(kV doc pm:ag)(an:Option af)(dc ct:ag)(us:List ag),us.length=ps.length->xN (k_ x qual (nW st) (iG st) (bb st) .none kV doc pm an dc ct) ⟨us,[]⟩=pure (ps.zip us)):Binds K fd ps []:=by
 obtain⟨oc,od,kV,doc,pm,an,dc,ct,fL,rfl,lk,fT⟩:=F.ex;exact .all (h kV doc pm an dc ct)
theorem RN{x qual:ai}{st:aV}{f:af}{oc:ag}{od an:Option af}{fL:Array (Option ag)}{kV doc pm dc ct:ag}(l:K.lookup f=some ⟨oc,od,.func (k_ x qual (nW st) (iG st) (bb st) .none kV doc pm an dc ct),fL⟩) (c:qx K dc qual=true)(k:jf K (.ref f)=true):bh K x qual st f (k_ x qual (nW st) (iG st) (bb st) .none kV doc pm an dc ct):=⟨⟨oc,od,kV,doc,pm,an,dc,ct,fL,rfl,l,c⟩,k⟩
end
section
variable{X:Cx}
theorem pv(i:Nat)(hN:X.N[i]? =some x:=by rfl)(hv:yb X.env.scope x:=by first|exact AW rfl|exact xx (AW rfl)|exact xx (xx rfl))(hd:(x==("__debug__":ai))=false:=by decide) (fT:(x==("__classdict__":ai))=false:=by decide):PE X (.Name x pos) (nR i):=aaW hN hv hd fT
theorem B4:mz X (.builtin "len") (λxs H Q=>∃a kvs,xs=[V.ref a]/\H a=some (.dK kvs)/\Q (.int kvs.length) H):=by intro ae s σ H xs us Q I r h;obtain⟨a,kvs,rfl,ha,q⟩:=h;obtain⟨u,rfl,ru⟩:=vals1 r;cases ru;exact acu I (.inl ha) λt s' I'=>⟨.int kvs.length,H,I',⟨t,rfl⟩,q⟩
end
theorem bp{A B:Prop}(h:B):if false=true then A else B:=by rw[ah fR];exact h
theorem aY{A B:Prop}(h:A):if true=true then A else B:=by rw[aj rfl];exact h
theorem lH{c A B:Prop}[Decidable c](hc:c)(h:B):if(!decide c)=true then A else B:=by rw[dX hc];exact bp h
def aC(H H':Hp):Prop:=∀b o,H b=some o->H' b=some o
theorem aC.refl(H:Hp):aC H H:=λ_ _ h=>h
theorem aC.trans(a:aC H H1)(b:aC H1 H2):aC H H2:=λc o h=>b c o (a c o h)
theorem aC.free(e:aC H H')(h:H' l=OQ):H l=OQ:=by cases q:H l with|none=>rfl|some o=>rw[e l o q]at h;cases h
theorem aC.seq{K:aG}{H H':Hp}{a:af}{xs:List V}(e:aC H H')(h:aE K H a xs):aE K H' a xs:=by
 rcases h with(h|⟨o,h⟩)|h
 ·exact .inl (.inl (e _ _ h))
 ·exact .inl (.inr ⟨o,e _ _ h⟩)
 ·exact .inr h
section
variable{κ:Type}[DecidableEq κ]
theorem B5{p:κ×V}{r:List (κ×V)}{k:κ}(e:p.1=k):il (p::r) k=il r k:=by unfold il;rw[bX,ah (by simp[e])]
theorem B6{p:κ×V}{r:List (κ×V)}{k:κ}(e:¬p.1=k):il (p::r) k=p::il r k:=by unfold il;rw[bX,aj (by simp[e])]
end
theorem at_of{z:Int}{j:Nat}(e:z=(j:Int))(h:xs[j]? =some v):nV xs z=some v:=by rw[e];exact abW h
theorem vw{α:Type}{l:List α}(hN:l.Nodup){i j:Nat}{x:α}(a:l[i]? =some x)(b:l[j]? =some x):i=j:=by obtain⟨h1,e1⟩:=eo.mp a;obtain⟨h2,e2⟩:=eo.mp b;exact(Ow hN).mp (e1.trans e2.symm)
end L2
namespace L2
open PySem PySem.Spec PyProof.Rows
open PySem.W (WData Codec OpenSpec Well WellAll ReadsW ReadsAllW)
mutual
inductive Dw(K:aG)(H:Hp):V->WData->Prop|non:Dw K H .non .none|bl (b:Bool):Dw K H (.bl b) (.bool b)|int (i:Int):Dw K H (.int i) (.int i)|str (x:ai):Dw K H (.str x) (.str x)|ij (b:Array UInt8):Dw K H (.ij b) (.bytes b.toList)|lst {a:af} {xs:List V} {ds:List WData}:aE K H a xs->jO K H xs ds->Dw K H (.ref a) (.list ds)|tup {a:af} {xs:List V} {ds:List WData}:cW K H a xs->jO K H xs ds->Dw K H (.ref a) (.tuple ds)
inductive jO(K:aG)(H:Hp):List V->List WData->Prop|nil:jO K H [] []|cons {v:V} {vs:List V} {d:WData} {ds:List WData}:Dw K H v d->jO K H vs ds->jO K H (v::vs) (d::ds)
end
theorem RO{K:aG}{H:Hp}:∀ns:List Int,jO K H (ns.map V.int) (ns.map Qo)|[]=>.nil|n::r=>.cons (.int n) (RO r)
theorem RP{K:aG}{H:Hp}:∀(ns:List Int)(xs:List V),jO K H xs (ns.map Qo)->xs=ns.map V.int|[],xs,h=>by cases h;rfl|n::r,xs,h=>by cases h with|cons h1 h2=>cases h1;rw[RP r _ h2]<;>rfl
section
variable{P:bR}{w:bI}{K:aG}{H:Hp}{h:bg}{R:Qj}{cl:ai->Option af}
theorem ac2(hok:dR P w H h)(KX:K.In h)(q:aE K H a xs):∃(its:List ag)(o:bx)(n:Nat),Vals xs its/\h.get? a=some o/\o.cls=.type "list"/\o.data=.seq its.toArray n:=by
 rcases q with q|⟨o,its,n,e,hc,_,hd,_,hv⟩
 ·obtain⟨_,its,n,hv,e⟩:=(show d3 P w H h a (.lst xs)from q.ok hok)
  exact⟨its,_,n,hv,e,rfl,rfl⟩
 ·exact⟨its.toList,o,n,hv,KX _ _ e,hc,by simp[hd]⟩
theorem ac3(hok:dR P w H h)(KX:K.In h)(q:cW K H a xs):∃(its:List ag)(o:bx)(n:Nat),Vals xs its/\h.get? a=some o/\o.cls=.type "tuple"/\o.data=.seq its.toArray n:=by
 rcases q with q|⟨o,its,n,e,hc,hd,_,hv⟩
 ·obtain⟨_,its,hv,o,e,hc,n,hd⟩:=(show d3 P w H h a (.tup xs)from q.ok hok)
  exact⟨its,o,n,hv,e,hc,hd⟩
 ·exact⟨its.toList,o,n,hv,KX _ _ e,hc,by simp[hd]⟩
mutual
theorem Dw.reads(hok:dR P w H h)(KX:K.In h):∀(d:WData)(v:V)(u:ag),Dw K H v d->RelV v u->∃as,ReadsW R cl h u d as
 |.none,_,_,x,r=>by
  cases x
  cases r
  exact⟨_,ReadsW.none⟩|.bool b,_,_,x,r=>by
  cases x
  cases r
  exact⟨_,ReadsW.bool b⟩|.int i,_,_,x,r=>by
  cases x
  obtain⟨t,rfl⟩:=r
  exact⟨_,ReadsW.int i t⟩|.str s,_,_,x,r=>by
  cases x
  obtain⟨t,rfl⟩:=r
  exact⟨_,ReadsW.str s t⟩|.bytes b,_,_,x,r=>by
  cases x
  obtain⟨t,rfl⟩:=r
  exact⟨_,ReadsW.bytes _ t⟩|.list ds,_,_,x,r=>by cases x with|lst hs ha=>
   cases r
   obtain⟨its,o,n,rv,ho,hc,hd⟩:=ac2 hok KX hs
   obtain⟨as,hr⟩:=Dw.readsAll hok KX ds _ its ha rv
   exact⟨_,ReadsW.list ho hc hd hr⟩
 |.tuple ds,_,_,x,r=>by cases x with|tup hs ha=>
   cases r
   obtain⟨its,o,n,rv,ho,hc,hd⟩:=ac3 hok KX hs
   obtain⟨as,hr⟩:=Dw.readsAll hok KX ds _ its ha rv
   exact⟨_,ReadsW.tuple ho hc hd hr⟩
 |.float _,_,_,x,_=>by cases x|.dict _,_,_,x,_=>by cases x|.bytearray _,_,_,x,_=>by cases x|.set _,_,_,x,_=>by cases x|.frozenset _,_,_,x,_=>by cases x|.obj _ _,_,_,x,_=>by cases x
theorem Dw.readsAll(hok:dR P w H h)(KX:K.In h):∀(ds:List WData)(vs:List V)(us:List ag),jO K H vs ds->Vals vs us->∃as,ReadsAllW R cl h us ds as
 |[],_,_,x,r=>by
  cases x
  cases r
  exact⟨_,ReadsAllW.nil⟩|d::ds,_,_,x,r=>by cases x with|cons h1 h2=>cases r with|cons r1 r2=>
    obtain⟨as,q1⟩:=Dw.reads hok KX d _ _ h1 r1
    obtain⟨bs,q2⟩:=Dw.readsAll hok KX ds _ _ h2 r2
    exact⟨_,ReadsAllW.cons q1 q2⟩
end
end
mutual
def jP:WData->Bool|.none=>true|.bool _=>true|.int _=>true|.str _=>true|.bytes _=>true|.list xs=>lI xs|.tuple xs=>lI xs|_=>false
def lI:List WData->Bool|[]=>true|x::r=>jP x&&lI r
end
theorem RQ{α:Type}{f:α->WData}(h:∀a,jP (f a)=true):∀l:List α,lI (l.map f)=true|[]=>rfl|x::r=>by show(jP (f x)&&lI (r.map f))=true;rw[h x,RQ h r]<;>rfl
theorem qS:∀(c:Codec)(a:c.denote),jP (c.enc a)=true|.unit,_=>rfl|.bool,_=>rfl|.int _ _,_=>rfl|.nat _ _,_=>rfl|.u8,_=>rfl|.bytes _ _,_=>rfl|.text _ _ _ _,_=>rfl|.list _ _ c,a=>RQ (λx=>qS c x) a|.pair c d,a=>by show(jP (c.enc a.1)&&(jP (d.enc a.2)&&true))=true;rw[qS c a.1,qS d a.2]<;>rfl|.triple c d e,a=>by show(jP (c.enc a.1)&&(jP (d.enc a.2.1)&&(jP (e.enc a.2.2)&&true)))=true;rw[qS c a.1,qS d a.2.1,qS e a.2.2]<;>rfl|.option c,none=>rfl|.option c,some x=>qS c x
theorem RR:∀(cs:List Codec)(a:Gp cs),lI (xW cs a)=true|[],_=>rfl|c::cs,a=>by show(jP (c.enc a.1)&&lI (xW cs a.2))=true;rw[qS c a.1,RR cs a.2]<;>rfl
theorem HQ:∀{xs:List WData}{d:WData},d∈xs->d.weight<=Bt xs
 |[],d,h=>absurd h (by simp)|x::r,d,h=>by
  show d.weight<=x.weight+1+Bt r;rcases b9.mp h with e|m
  ·rw[e]
   lia
  ·have z:=HQ m
   lia
def toV:ag->V|.none=>.non|.bool b=>.bl b|.int i _=>.int i|.str x _=>.str x|.bytes b _=>.ij b|.ref a=>.ref a|_=>.non
def kC(A:List af):ag->Prop|.none=>True|.bool _=>True|.int _ _=>True|.str _ _=>True|.bytes _ _=>True|.ref a=>a∈A|_=>False
theorem kC.mono{A B:List af}(h:∀a∈A,a∈B):∀{u:ag},kC A u->kC B u:=λ{u}x=>by cases u with|ref a=>exact h a x|none=>trivial|bool b=>trivial|int i t=>trivial|str s t=>trivial|bytes b t=>trivial|_=>exact False.elim x
theorem ac4{A:List af}(x:kC A u):RelV (toV u) u:=by cases u with|ref a=>rfl|none=>rfl|bool b=>rfl|int i t=>exact⟨t,rfl⟩|str s t=>exact⟨t,rfl⟩|bytes b t=>exact⟨t,rfl⟩|_=>exact False.elim x
theorem vx{A:List af}:∀{vs:List ag},(∀u∈vs,kC A u)->Vals (vs.map toV) vs|[],_=>.nil|u::r,h=>.cons (ac4 (h u (cK ..))) (vx λx hx=>h x (b8 _ hx))
def lJ(h:bg)(A:List af)(a:af):Prop:=∃vs:List ag,vs.length<=aS/\(∀u∈vs,kC A u)/\(h.get? a=some {cls:=.type "list",data:=.seq vs.toArray}∨h.get? a=some {cls:=.type "tuple",data:=.seq vs.toArray})
theorem lJ.mono{A B:List af}(k:∀a∈A,a∈B)(x:lJ h A a):lJ h B a:=by obtain⟨vs,h1,h2,h3⟩:=x;exact⟨vs,h1,λu hu=>(h2 u hu).mono k,h3⟩
theorem B7{P:qv}:∀{vs:List ag}{ds:List WData},WellAll P h vs ds->vs.length=ds.length|_,_,.nil=>rfl|_,_,.cons _ b=>by show _+1=_+1;rw[B7 b]
theorem RS{P:qv}{ds:List WData}(x:Well P h v (.list ds)):∃(a:af)(vs:List ag),v=.ref a/\h.get? a=some {cls:=.type "list",data:=.seq vs.toArray}/\WellAll P h vs ds:=by cases x with|list ho gH=>exact⟨_,_,rfl,ho,gH⟩
theorem RT{P:qv}{ds:List WData}(x:Well P h v (.tuple ds)):∃(a:af)(vs:List ag),v=.ref a/\h.get? a=some {cls:=.type "tuple",data:=.seq vs.toArray}/\WellAll P h vs ds:=by cases x with|tuple ho gH=>exact⟨_,_,rfl,ho,gH⟩
theorem RU{P:qv}{d:WData}{ds:List WData}(x:WellAll P h us (d::ds)):∃(v:ag)(vs:List ag),us=v::vs/\Well P h v d/\WellAll P h vs ds:=by cases x with|cons a b=>exact⟨_,_,rfl,a,b⟩
theorem RV{n:Nat}(h:n<=1048576):n<=aS:=aZ h (by decide)
section
variable{P:qv}{h:bg}
mutual
theorem ac5:∀(d:WData)(v:ag),Well P h v d->jP d=true->d.weight<=1048576->∃A:List af,kC A v/\∀a∈A,lJ h A a
 |.none,_,x,_,_=>by
  cases x
  exact⟨[],trivial,λa m=>absurd m (by simp)⟩|.bool b,_,x,_,_=>by
  cases x
  exact⟨[],trivial,λa m=>absurd m (by simp)⟩|.int i,_,x,_,_=>by
  cases x
  exact⟨[],trivial,λa m=>absurd m (by simp)⟩|.str s,_,x,_,_=>by
  cases x
  exact⟨[],trivial,λa m=>absurd m (by simp)⟩|.bytes b,_,x,_,_=>by
  cases x
  exact⟨[],trivial,λa m=>absurd m (by simp)⟩|.list ds,_,x,p,z=>by
  obtain⟨a,vs,rfl,ho,gH⟩:=RS x
  have z2:Bt ds<=1048576:=z
  obtain⟨A,h1,h2⟩:=B8 ds _ gH p λd hd=>aZ (HQ hd) z2
  have k:∀b∈A,b∈a::A:=λb hb=>b8 _ hb
  refine⟨a::A,cK ..,λb hb=>?_⟩
  rcases b9.mp hb with e|m
  ·rw[e]
   exact⟨vs,RV (by rw[B7 gH];exact aZ (P_ ds) z2),λu hu=>(h1 u hu).mono k,.inl ho⟩
  ·exact(h2 b m).mono k|.tuple ds,_,x,p,z=>by
  obtain⟨a,vs,rfl,ho,gH⟩:=RT x
  have z2:Bt ds<=1048576:=z
  obtain⟨A,h1,h2⟩:=B8 ds _ gH p λd hd=>aZ (HQ hd) z2
  have k:∀b∈A,b∈a::A:=λb hb=>b8 _ hb
  refine⟨a::A,cK ..,λb hb=>?_⟩
  rcases b9.mp hb with e|m
  ·rw[e]
   exact⟨vs,RV (by rw[B7 gH];exact aZ (P_ ds) z2),λu hu=>(h1 u hu).mono k,.inr ho⟩
  ·exact(h2 b m).mono k|.float _,_,_,p,_=>j4 (show false=true from p)|.dict _,_,_,p,_=>j4 (show false=true from p)|.bytearray _,_,_,p,_=>j4 (show false=true from p)|.set _,_,_,p,_=>j4 (show false=true from p)|.frozenset _,_,_,p,_=>j4 (show false=true from p)|.obj _ _,_,_,p,_=>j4 (show false=true from p)
theorem B8:∀(ds:List WData)(vs:List ag),WellAll P h vs ds->lI ds=true->(∀d∈ds,d.weight<=1048576)->∃A:List af,(∀u∈vs,kC A u)/\∀a∈A,lJ h A a
 |[],_,x,_,_=>by
  cases x
  exact⟨[],λu m=>absurd m (by simp),λa m=>absurd m (by simp)⟩|d::ds,_,x,p,z=>by
  obtain⟨v,vs,rfl,x1,x2⟩:=RU x
  have q:jP d=true/\lI ds=true:=N7.mp p
  obtain⟨A,a1,a2⟩:=ac5 d v x1 q.1 (z d (cK ..))
  obtain⟨B,b1,b2⟩:=B8 ds vs x2 q.2 λe he=>z e (b8 _ he)
  have kA:∀b∈A,b∈A++B:=λb hb=>cu.mpr (.inl hb)
  have kB:∀b∈B,b∈A++B:=λb hb=>cu.mpr (.inr hb)
  refine⟨A++B,λu hu=>?_,λb hb=>?_⟩
  ·rcases b9.mp hu with e|m
   ·rw[e]
    exact a1.mono kA
   ·exact(b1 u m).mono kB
  ·rcases cu.mp hb with m|m
   ·exact(a2 b m).mono kA
   ·exact(b2 b m).mono kB
end
end
def B9(o:bx):Option HO:=match o.data with|.seq vs _=>if(o.cls==oT "list")=true then some (.aQ o (.lst (vs.toList.map toV)))else some (.aQ o (.tup (vs.toList.map toV)))|_=>none
def fB(K:aG)(h:bg)(A:List af):Hp:=λb=>if b∈A then(if(K.lookup b).isNone=true then(h.get? b).bind B9 else none)else none
def ac6(H:Hp):Prop:=∀b,H b=none∨∃o u,H b=some (.aQ o u)
theorem RW(vs:List ag):B9 {cls:=.type "list",data:=.seq vs.toArray}=some (.aQ {cls:=.type "list",data:=.seq vs.toArray} (.lst (vs.map toV))):=by show(if(oT "list"==oT "list")=true then some (HO.aQ {cls:=.type "list",data:=.seq vs.toArray} (.lst (vs.toArray.toList.map toV)))else some (HO.aQ {cls:=.type "list",data:=.seq vs.toArray} (.tup (vs.toArray.toList.map toV))))=_;rw[aj (oH _)]
theorem RX(vs:List ag):B9 {cls:=.type "tuple",data:=.seq vs.toArray}=some (.aQ {cls:=.type "tuple",data:=.seq vs.toArray} (.tup (vs.map toV))):=by show(if(oT "tuple"==oT "list")=true then some (HO.aQ {cls:=.type "tuple",data:=.seq vs.toArray} (.lst (vs.toArray.toList.map toV)))else some (HO.aQ {cls:=.type "tuple",data:=.seq vs.toArray} (.tup (vs.toArray.toList.map toV))))=_;rw[ah (by decide)]
section
variable{P:bR}{w:bI}{K:aG}{h:bg}{A:List af}
theorem B_(hb:b∈A)(hk:K.lookup b=none)(e:h.get? b=some o):fB K h A b=B9 o:=by unfold fB;rw[aj hb,hk,aj (show(none:Option bx).isNone=true from rfl),e]<;>rfl
theorem ac7(q:fB K h A b=some u):b∈A/\K.lookup b=none:=by
 unfold fB at q;by_cases hb:b∈A
 ·rw[aj hb]at q
  cases hk:K.lookup b with
  |none=>exact⟨hb,rfl⟩|some o=>rw[hk,ah (by simp)]at q;cases q
 ·rw[ah hb]at q
  cases q
theorem vy(ar:∀a∈A,lJ h A a)(q:fB K h A b=some u):K.lookup b=none/\∃vs:List ag,vs.length<=aS/\(∀u∈vs,kC A u)/\((h.get? b=some {cls:=.type "list",data:=.seq vs.toArray}/\u=.aQ {cls:=.type "list",data:=.seq vs.toArray} (.lst (vs.map toV)))∨(h.get? b=some {cls:=.type "tuple",data:=.seq vs.toArray}/\u=.aQ {cls:=.type "tuple",data:=.seq vs.toArray} (.tup (vs.map toV)))):=by
 obtain⟨hb,hk⟩:=ac7 q;obtain⟨vs,h1,h2,h3⟩:=ar b hb;refine⟨hk,vs,h1,h2,?_⟩;rcases h3 with e|e
 ·rw[B_ hb hk e,RW]at q
  exact .inl ⟨e,(cM.inj q).symm⟩
 ·rw[B_ hb hk e,RX]at q
  exact .inr ⟨e,(cM.inj q).symm⟩
theorem ac8(ar:∀a∈A,lJ h A a):ac6 (fB K h A):=λb=>by cases q:fB K h A b with
 |none=>exact .inl rfl|some u=>
  obtain⟨_,vs,_,_,⟨_,e⟩|⟨_,e⟩⟩:=vy ar q
  ·exact .inr ⟨_,_,by rw[e]⟩
  ·exact .inr ⟨_,_,by rw[e]⟩
theorem ac9(ar:∀a∈A,lJ h A a):dR P w (fB K h A) h:=λb u q=>by
 obtain⟨_,vs,h1,h2,⟨e,rfl⟩|⟨e,rfl⟩⟩:=vy ar q
 ·exact⟨e,by rw[aD];exact h1,vs,_,vx h2,e⟩
 ·exact⟨e,by rw[aD];exact h1,vs,vx h2,_,e,rfl,_,rfl⟩
theorem Ca{c c':ag}{vs us:List ag}(e:(some {cls:=c,data:=.seq vs.toArray}:Option bx)=some {cls:=c',data:=.seq us.toArray}):c=c'/\vs=us:=by
 have e1:=cM.inj e;have e2:c=c':=eW Obj.cls e1;have e3:Data.seq vs.toArray=Data.seq us.toArray:=eW Obj.data e1;injection e3 with e4
 refine⟨e2,?_⟩;have e5:=eW E2 e4;simpa using e5
theorem ada(KX:K.In h)(ar:∀a∈A,lJ h A a){a:af}{vs:List ag}(ha:a∈A)(e:h.get? a=some {cls:=.type "list",data:=.seq vs.toArray}):(∀u∈vs,kC A u)/\aE K (fB K h A) a (vs.map toV):=by
 obtain⟨us,h1,h2,h3⟩:=ar a ha;have hu:us=vs:=by
  rcases h3 with q|q
  ·rw[e]at q
   exact(Ca q).2.symm
  ·rw[e]at q
   exact absurd (oT.inj (Ca q).1) (by decide)
 subst hu;refine⟨h2,?_⟩;cases hk:K.lookup a with
 |none=>exact .inl (.inr ⟨_,by rw[B_ ha hk e,RW]⟩)|some o=>have e2:=KX a o hk;rw[e]at e2;obtain rfl:=cM.inj e2;exact .inr ⟨_,us.toArray,_,hk,rfl,rfl,rfl,by rw[eX];exact h1,by simpa using vx h2⟩
theorem adb(KX:K.In h)(ar:∀a∈A,lJ h A a){a:af}{vs:List ag}(ha:a∈A)(e:h.get? a=some {cls:=.type "tuple",data:=.seq vs.toArray}):(∀u∈vs,kC A u)/\cW K (fB K h A) a (vs.map toV):=by
 obtain⟨us,h1,h2,h3⟩:=ar a ha;have hu:us=vs:=by
  rcases h3 with q|q
  ·rw[e]at q
   exact absurd (oT.inj (Ca q).1) (by decide)
  ·rw[e]at q
   exact(Ca q).2.symm
 subst hu;refine⟨h2,?_⟩;cases hk:K.lookup a with
 |none=>exact .inl (.inr ⟨_,by rw[B_ ha hk e,RX]⟩)|some o=>have e2:=KX a o hk;rw[e]at e2;obtain rfl:=cM.inj e2;exact .inr ⟨_,us.toArray,_,hk,rfl,rfl,by rw[eX];exact h1,by simpa using vx h2⟩
mutual
theorem ade{Pm:qv}(KX:K.In h)(ar:∀a∈A,lJ h A a):∀(d:WData)(v:ag),Well Pm h v d->jP d=true->kC A v->Dw K (fB K h A) (toV v) d
 |.none,_,x,_,_=>by
  cases x
  exact .non|.bool b,_,x,_,_=>by
  cases x
  exact .bl b|.int i,_,x,_,_=>by
  cases x
  exact .int i|.str s,_,x,_,_=>by
  cases x
  exact .str s|.bytes b,_,x,_,_=>by
  cases x
  have z:=Dw.ij (K:=K) (H:=fB K h A) b.toArray
  exact z|.list ds,_,x,p,hu=>by
  obtain⟨a,vs,rfl,ho,gH⟩:=RS x
  obtain⟨h2,hs⟩:=ada KX ar hu ho
  exact .lst hs (Cb KX ar ds _ gH p h2)|.tuple ds,_,x,p,hu=>by
  obtain⟨a,vs,rfl,ho,gH⟩:=RT x
  obtain⟨h2,hs⟩:=adb KX ar hu ho
  exact .tup hs (Cb KX ar ds _ gH p h2)|.float _,_,_,p,_=>j4 (show false=true from p)|.dict _,_,_,p,_=>j4 (show false=true from p)|.bytearray _,_,_,p,_=>j4 (show false=true from p)|.set _,_,_,p,_=>j4 (show false=true from p)|.frozenset _,_,_,p,_=>j4 (show false=true from p)|.obj _ _,_,_,p,_=>j4 (show false=true from p)
theorem Cb{Pm:qv}(KX:K.In h)(ar:∀a∈A,lJ h A a):∀(ds:List WData)(vs:List ag),WellAll Pm h vs ds->lI ds=true->(∀u∈vs,kC A u)->jO K (fB K h A) (vs.map toV) ds
 |[],_,x,_,_=>by
  cases x
  exact .nil|d::ds,_,x,p,hu=>by
  obtain⟨v,vs,rfl,x1,x2⟩:=RU x
  have q:jP d=true/\lI ds=true:=N7.mp p
  exact .cons (ade KX ar d v x1 q.1 (hu _ (cK ..))) (Cb KX ar ds vs x2 q.2 λu m=>hu u (b8 _ m))
end
end
theorem adf{ds:List WData}(h:WData.layableAll ds=true):∀d∈ds,d.weight<=1048576:=λd hd=>(PySem.W.layableW_iff.mp (qp.mp h d hd)).2.2
theorem RY:∀(cs:List Codec)(a:Gp cs),(xW cs a).length=cs.length|[],_=>rfl|c::cs,a=>by show(xW cs a.2).length+1=cs.length+1;rw[RY cs a.2]
end L2
namespace L2
open PySem PySem.Spec PyProof.Rows
def av(u:ag):V:=(QB u).getD .non
theorem HR(r:RelV x u):av u=x:=by unfold av;rw[r.abs];rfl
theorem RZ:∀{xs:List V}{us:List ag},Vals xs us->us.map av=xs|_,_,.nil=>rfl|_,_,.cons r t=>by rw[cV,HR r,RZ t]
theorem R0:∀{us:List ag},(∀u,u∈us->RelV (av u) u)->Vals (us.map av) us|[],_=>.nil|u::us,h=>.cons (h u (cK ..)) (R0 λv hv=>h v (b8 _ hv))
theorem R1:∀{xs:List V}{us:List ag},Vals xs us->∀u,u∈us->RelV (av u) u
 |_,_,.nil,_,h=>by cases h|_,_,.cons r t,u,h=>by
  rcases b9.mp h with rfl|h
  ·rw[HR r];exact r
  ·exact R1 t u h
def mK(X:Cx)(σ:St)(fv:ag)(run:V->Hp->VK->Prop):Prop:=∀(ae:List (af×bx))(s:aA)(H:Hp)(v:V)(u:ag)(Q:VK),Inv X ae σ H s->RelV v u->run v H Q->aH (aO X.prog X.w) X.A.in1.in1 (call fv [u]) (EP X ae σ Q) (λ_ _=>False) s
def pw(X:Cx)(de:V->V->Hp->Prop)(Rl:V->V->Prop):Prop:=∀(ae:List (af×bx))(s:aA)(σ:St)(H:Hp)(vs ks:List V)(us keys:List ag),Inv X ae σ H s->Vals vs us->Vals ks keys->vs.length=ks.length->(∀(i:Nat)(v k:V),vs[i]? =some v->ks[i]? =some k->de v k H)->∃(κ:OU)(kd:SortKind),aaf X.prog X.w s κ kd/\(∀k,k∈keys->∃a,κ.keyOf k=some a)/\(2<=keys.length->∀(A:dF)(E:ag->aA->Prop){Q:SortKind->aA->Prop},Q kd s->aH (aO X.prog X.w) A (keyKind' keys.toArray) Q E s)/\
   ∀p q:ag×ag,p∈keys.zip us->q∈keys.zip us->∀a b,κ.keyOf p.1=some a->κ.keyOf q.1=some b->κ.kle a b->Rl (av p.2) (av q.2)
theorem aC.HS(h:H a=none):aC H (upd H a o):=λb u e=>by rw[ak (ba e h)];exact e
section
variable{X:Cx}{ae:List (af×bx)}{σ:St}{s:aA}{H:Hp}
theorem sorted_out{κ:OU}{keys us:List ag}{xs:List V}{arr:Array Keyed}{Rl:V->V->Prop}(hv:Vals xs us)(hl:keys.length=us.length)(hk:∀k,k∈keys->∃a,κ.keyOf k=some a) (hp:arr.toList.Perm (keys.zip us))(hs:OT κ arr arr.size)
  (hR:∀p q:ag×ag,p∈keys.zip us->q∈keys.zip us->∀a b,κ.keyOf p.1=some a->κ.keyOf q.1=some b->κ.kle a b->Rl (av p.2) (av q.2)):
  ∃ys:List V,Vals ys (arr.toList.map (·.2))/\ys.Perm xs/\ys.Pairwise Rl/\ys.length=xs.length:=by
 have d_:(arr.toList.map (·.2)).Perm us:=by have:=hp.map (·.2);have e:(keys.zip us).map (·.2)=us:=List.map_snd_zip (by lia);rw[e]at this;exact this
 have R3:((arr.toList.map (·.2)).map av).Perm xs:=by have:=d_.map av;rw[RZ hv]at this;exact this
 refine⟨(arr.toList.map (·.2)).map av,R0 λu hu=>R1 hv u (d_.mem_iff.mp hu),R3,?_,R3.length_eq⟩;rw[dv,j6,E8];intro i j hi hj R4;have hi':i<arr.size:=by simpa using hi
 have R5:j<arr.size:=by simpa using hj
 have m1:arr.toList[i]∈keys.zip us:=hp.mem_iff.mp (Ox hi);have m2:arr.toList[j]∈keys.zip us:=hp.mem_iff.mp (Ox hj);obtain⟨a,ha⟩:=hk _ (si (a:=arr.toList[i].1) (b:=arr.toList[i].2) m1).1;obtain⟨b,hb⟩:=hk _ (si (a:=arr.toList[j].1) (b:=arr.toList[j].2) m2).1;have q:=hs i j (jz R4) R5;have e1:AY κ arr i=a:=by
  unfold AY;rw[E1 hi'];show(κ.keyOf arr[i].1).getD κ.dflt=a;have:arr[i]=arr.toList[i]:=by simp
  rw[this,ha];rfl
 have e2:AY κ arr j=b:=by
  unfold AY;rw[E1 R5];show(κ.keyOf arr[j].1).getD κ.dflt=b;have:arr[j]=arr.toList[j]:=by simp
  rw[this,hb];rfl
 rw[e1,e2]at q;exact hR _ _ m1 m2 a b ha hb q
theorem R6{e1:Nat}{st:SortSt}{P:Bb->aA->Prop}(I:Inv X ae σ H s)(hk:H kS=some (.lst ks))(hD:H D=some (.aQ od (.lst []))) (fE:od=nB "list" #[] e1)(hn:∀o' u',X.mw D≠some (.aQ o' u'))(hf:failedOf st=none)(hv:Vals ys ((arrOf st).toList.map (·.2)))(hz:ys.length<=aS)
  (h:∀s',Inv X ae σ (upd (upd H kS (.lst [])) D (.lst ys)) s'->P (.done (.ret .none)) s'):
  aH (aO X.prog X.w) A (ksk_tail D false e1 (.ref kS) st) P E s:=by
 obtain⟨z,its,n,r,hl,e⟩:=I.o9 hk;have HU:kS≠D:=cZ hk hD (by intro q;cases q);have eD:s.heap.get? D=some (nB "list" #[] e1):=by rw[<-fE];exact(I.hok D _ hD).1
 have I1:=I.vj (t':=s.toks) (ko:=[]) (ys:=[]) (f:=λ_=> #[]) hk e rfl .nil (fb _);have HV:(s.heap.update kS (u0 λ_=>(#[]:Array ag))).get? D=some (nB "list" #[] e1):=by rw[PU _ _ HU];exact eD
 have hD1:upd H kS (.lst []) D=some (.aQ od (.lst [])):=by rw[ak HU.symm];exact hD
 have I2:=I1.unlock hD1 hn;have I3:=I2.vj (l:=D) (xs:=[]) (t':=s.toks) (its:=[]) (ko:=(arrOf st).toList.map (·.2)) (ys:=ys) (f:=λ_=>(arrOf st).map (·.2)) ao HV (by rw[<-Array.toList_map]) hv hz;rw[di]at I3;have hlen:=hv.length;unfold ksk_tail
 try dsimp only
 refine aI (AZ e rfl ?_ (by rw[eX,<-hl];exact z) (fb _));refine aI (F6 ?_);refine aI (OX HV rfl ?_);refine aI (AZ HV rfl ?_ (fb _) (by simp only[sg,l9,Array.size_map];have h1:(arrOf st).toList.length=(arrOf st).size:=sf;rw[aD,h1]at hlen;lia))
 rw[hf];simp only[bne_self_eq_false,sg,l9];exact bN (h _ I3)
theorem HW(keys us:List ag):(keys.toArray.zip us.toArray).toList=keys.zip us:=by simp
theorem adg{de:V->V->Hp->Prop}{Rl:V->V->Prop}{D kS:af}{ks xs:List V}{e1:Nat}{od:bx}{us keys:List ag}{A:dF}{E:ag->aA->Prop}{P:Bb->aA->Prop}(O:pw X de Rl)(I:Inv X ae σ H s)(hk:H kS=some (.lst ks)) (hD:H D=some (.aQ od (.lst [])))(fE:od=nB "list" #[] e1)(hn:∀o' u',X.mw D≠some (.aQ o' u'))(hv:Vals xs us)(gG:Vals ks keys)(hl:xs.length=ks.length)(hz:xs.length<=aS)
  (g0:∀(i:Nat)(v k:V),xs[i]? =some v->ks[i]? =some k->de v k H)
  (h:∀s' ys,ys.Perm xs->ys.Pairwise Rl->Inv X ae σ (upd (upd H kS (.lst [])) D (.lst ys)) s'->P (.done (.ret .none)) s'):
  aH (aO X.prog X.w) A (ksk_end D false us.toArray e1 (.ref kS) keys.toArray) P E s:=by
 obtain⟨κ,kd,hO,HX,hkk,hR⟩:=O ae s σ H xs ks us keys I hv gG hl g0
 have l1:=hv.length
 have l2:=gG.length
 have hlen:keys.length=us.length:=by lia
 have R7:(keys.toArray.zip us.toArray).size=us.length:=by rw[Array.size_zip,eX,eX];lia
 have h0:aaa κ (keys.toArray.zip us.toArray):=λp hp=>by
  rw[HW]at hp
  exact HX _ (si (a:=p.1) (b:=p.2) hp).1
 unfold ksk_end
 simp only[sg,l9]
 by_cases h2:us.toArray.size<2
 ·rw[aj h2,aj h2]
  refine aI (bN ?_)
  rw[StateT.run_pure]
  refine aI (bN ?_)
  try dsimp only
  obtain⟨ys,q1,q2,q3,q4⟩:=sorted_out (arr:=keys.toArray.zip us.toArray) hv hlen HX (by rw[HW]) (λi j R4 hj=>by
   rw[R7]at hj
   rw[eX]at h2
   have:i=j:=by lia
   subst this
   exact PyProof.Rows.KeyOrd.kle_refl _) hR
  exact R6 (st:=SortSt.mk' general' (keys.toArray.zip us.toArray) #[] 7 none) I hk hD fE hn rfl q1 (by lia) λs' I'=>h s' ys q2 q3 I'
 ·rw[ah h2,ah h2]
  rw[eX]at h2
  refine aI (hkk (by lia) _ _ ?_)
  try dsimp only
  refine aI (ic (aac (κ:=κ) (kd:=kd) (a₀:=keys.toArray.zip us.toArray) (st:=SortSt.mk' kd (keys.toArray.zip us.toArray) #[] 7 none) (Q:=λ_ fU=>(arrOf fU).Perm (keys.toArray.zip us.toArray)/\failedOf fU=none/\OT κ (arrOf fU) (keys.toArray.zip us.toArray).size)
   hO h0 ⟨Array.Perm.refl _,rfl,rfl⟩ rfl (PyProof.Rows.Stable.refl _) (by rw[R7];lia) λfU a1 a2 a3 _=>⟨a1,a2,a3⟩) ?_ λ_ _ e=>e)
  rintro⟨⟨⟩,fU⟩ s' ⟨rfl,hp,hf,hs⟩
  try dsimp only
  obtain⟨ys,q1,q2,q3,q4⟩:=sorted_out (arr:=arrOf fU) hv hlen HX (by rw[<-HW];exact Array.perm_iff_toList_perm.mp hp) (by rw[hp.size_eq];exact hs) hR
  exact R6 I hk hD fE hn hf q1 (by lia) λs' I'=>h s' ys q2 q3 I'
theorem adh{de:V->V->Hp->Prop}{Rl:V->V->Prop}{run:V->Hp->VK->Prop}{e1:Nat}{P:Bb->aA->Prop}(O:pw X de Rl)(R:mK X σ fv run) (eQ:∀v k H H',(∀b zs,H b=some (.tup zs)->H' b=some (.tup zs))->de v k H->de v k H')(i5:∀v,v∈xs->∀H',aC H H'->run v H' λk fj=>aC H' fj/\de v k fj)
  (vz:H D=some (.aQ od (.lst [])))(Cc:H kS=none)(fE:od=nB "list" #[] e1)(hn:∀o' u',X.mw D≠some (.aQ o' u'))(hv:Vals xs us)(hz:xs.length<=aS)
  (I:Inv X ae σ (upd H kS (.lst [])) s)
  (h:∀s' H' ys,ys.Perm xs->ys.Pairwise Rl->(∀b o,H b=some o->b≠D->H' b=some o)->H' D=some (.lst ys)->Inv X ae σ H' s'->P (.done (.ret .none)) s'):
  aH (aO X.prog X.w) X.A.in1.in1 (ksk_rest D fv false us.toArray e1 (.ref kS)) P E s:=by
 have HU:kS≠D:=(ba vz Cc).symm;unfold ksk_rest;refine aI (F8 ?_)
 first
  |rw[List.forIn_toArray]|(rw[<-Array.forIn_toList];simp only[List.toList_toArray])
 refine aI (ksk_fold (λi s'=>∃H' ks,Inv X ae σ H' s'/\(∀b o,H b=some o->H' b=some o)/\H' kS=some (.lst ks)/\ks.length=i/\(∀(j:Nat)(v k:V),xs[j]? =some v->ks[j]? =some k->de v k H')) us 0 s ⟨_,[],I,aC.HS Cc,ao,rfl,λj v k _ h=>by simp at h⟩ ?step ?done)
 case step=>
  rintro j u s' hu ⟨H',ks,I',sm,hk,pz,g0⟩;simp only[Fw]at pz⊢;have hlen:=hv.length;have hj:j<xs.length:=by rw[hlen];exact(eo.mp hu).1
  obtain⟨v,HY⟩:∃v,xs[j]? =some v:=⟨_,dY hj⟩;obtain⟨u',R8,rv⟩:=hv.get HY;rw[hu]at R8;cases R8;have hr:=i5 v (du HY) H' sm;refine aI (xH (ic (R ae s' H' v u _ I' rv hr) (λw yq he=>?_) λ_ _ hF=>hF.elim));obtain⟨k,fj,I2,rk,mL,adi⟩:=he
  try dsimp only
  have pA:=mL _ _ hk;obtain⟨z,its,n,r,hl,e⟩:=I2.o9 pA;have I3:=I2.vj (t':=yq.toks) (ko:=its++[w]) (ys:=ks++[k]) (f:=(·.push w)) pA e (by simp) (r.append (.cons rk .nil)) (by rw[eL,Fc];lia);refine aI (AZ e rfl ?_ (by rw[eX,<-hl];exact z) (by rw[Array.size_push,eX];lia));refine bN ⟨rfl,_,ks++[k],I3,λb o eb=>?_,ao,by rw[eL,pz];rfl,λj' v' k' qM jL=>?_⟩
  ·rw[ak (ba eb Cc)]
   exact mL _ _ (sm _ _ eb)
  ·have stay:∀v0 k0,de v0 k0 fj->de v0 k0 (upd fj kS (.lst (ks++[k]))):=λv0 k0 q=>eQ v0 k0 fj _ (λb zs eb=>by rw[ak (cZ eb pA (by intro q;cases q))];exact eb) q
   by_cases hjj:j'<ks.length
   ·rw[nv hjj]at jL
    exact stay _ _ (eQ v' k' H' fj (λb zs eb=>mL _ _ eb) (g0 j' v' k' qM jL))
   ·have jn:j'=j:=by have:=(eo.mp jL).1;rw[eL,Fc]at this;lia
    subst jn;rw[HY]at qM;cases qM;rw[<-pz,oI (bM _),Fy]at jL;have:k=k':=cM.inj jL;subst this;exact stay _ _ adi
 case done=>
  rintro s' ⟨H',ks,I',sm,hk,pz,g0⟩;simp only[Fw]at pz;obtain⟨z,its,n,r,hl,e⟩:=I'.o9 hk
  try dsimp only
  refine aI (OW e rfl (adg O I' hk (sm _ _ vz) fE hn hv r (by rw[hv.length,pz]) hz g0 λs2 ys p1 p2 I2=>h s2 _ ys p1 p2 (λb o eb hb=>?_) ao I2));rw[ak hb,ak (ba eb Cc)];exact sm _ _ eb
theorem adj{de:V->V->Hp->Prop}{Rl:V->V->Prop}{run:V->Hp->VK->Prop}{P:Bb->aA->Prop}(O:pw X de Rl)(R:mK X σ fv run) (eQ:∀v k H H',(∀b zs,H b=some (.tup zs)->H' b=some (.tup zs))->de v k H->de v k H')(i5:∀v,v∈xs->∀H',aC H H'->run v H' λk fj=>aC H' fj/\de v k fj)
  (vz:H D=none)(I:Inv X ae σ (upd H D (.lst xs)) s)
  (h:∀s' H' ys,ys.Perm xs->ys.Pairwise Rl->aC H H'->H' D=some (.lst ys)->Inv X ae σ H' s'->P (.done (.ret .none)) s'):
  aH (aO X.prog X.w) X.A.in1.in1 (ksk_tree D fv false) P E s:=by
 obtain⟨z,its,n,r,hl,e⟩:=I.o9 (l:=D) (xs:=xs) ao;have I1:=I.vj (t':=s.toks) (ko:=[]) (ys:=[]) (f:=λ_=> #[]) ao e rfl .nil (fb _);rw[di]at I1;obtain⟨e1,R9⟩:∃e1,(s.heap.update D (u0 λ_=>(#[]:Array ag))).get? D=some (nB "list" #[] e1):=⟨_,get?_update_seq e λ_=> #[]⟩;have hnf:=I1.vo (d:=D) (u:=.lst []) ao trivial;obtain⟨od,I2⟩:=I1.lock (d:=D) (u:=.lst []) ao trivial;rw[di]at I2;have fE:od=nB "list" #[] e1:=by have q:=(I2.hok D _ ao).1;rw[show({s with heap:=s.heap.update D (u0 λ_=>(#[]:Array ag)),toks:=s.toks}:aA).heap.get? D=some (nB "list" #[] e1)from R9]at q;exact(cM.inj q).symm
 have I3:=I2.kept (t':=s.toks) (h':=(s.heap.update D (u0 λ_=>(#[]:Array ag))).push (nB "tuple" its.toArray 0)) λb u q=>cN _ q;have I4:=I3.Hf (ys:=[]) (its:=[]) (t':=s.toks) .nil (fb _);have mH:=I3.fresh;unfold ksk_tree;refine aI (OW e rfl (aI (AZ e rfl ?_ (by rw[eX,<-hl];exact z) (fb _))));refine aI (OX R9 rfl (aI (Pf ?_ (by show its.length<=_;rw[<-hl];exact z))));refine aI (Ph ?_ (fb _));refine F1 ?_;have smD:∀H',(∀b o,upd H D (.aQ od (.lst [])) b=some o->H' b=some o)->aC H H':=λH' k b o q=>k b o (by rw[ak (ba q vz)];exact q);refine adh (H:=upd H D (.aQ od (.lst []))) O R eQ (λv hv H' sm=>i5 v hv H' (smD H' sm)) ao mH fE hnf r z I4 λs' H' ys p1 p2 k1 k2 I'=>h s' H' ys p1 p2 (λb o q=>k1 b o (by rw[ak (ba q vz)];exact q) (ba q vz)) k2 I'
end
section
variable{X:Cx}{ae:List (af×bx)}{σ:St}{s:aA}{H:Hp}
theorem R_{de:V->V->Hp->Prop}{Rl:V->V->Prop}{run:V->Hp->VK->Prop}(O:pw X de Rl)(R:mK X σ (.ref q) run) (eQ:∀v k H H',(∀b zs,H b=some (.tup zs)->H' b=some (.tup zs))->de v k H->de v k H')(i5:∀v,v∈xs->∀H',aC H H'->run v H' λk fj=>aC H' fj/\de v k fj)
  (hv:Vals xs us)(hz:xs.length<=aS)(I:Inv X ae σ H s)
  (adk:∀(Q':List ag->aA->Prop),(∀h' tk,(∀b o,s.heap.get? b=some o->h'.get? b=some o)->Q' us {s with heap:=h',toks:=tk})->aH (aO X.prog X.w) X.A.in1 (collect it) Q' E s)
  (h:∀s' H' ys D,ys.Perm xs->ys.Pairwise Rl->aC H H'->H D=none->H' D=some (.lst ys)->Inv X ae σ H' s'->Q (.ref D) s'):
  aH (aO X.prog X.w) X.A (call (.builtin "sorted") [it] [(jC "key",.ref q)]) Q E s:=by
 refine call_function_entry_kw kind_sorted plain_sorted entry_sorted (ksk_s1 _ _) ?_;unfold sH.«sorted»;refine aI (m:=checkCount "sorted" 1 1 _) (bN (aI (adk _ λh' tk hk=>?_)));have I1:=I.kept (t':=tk) hk;have I2:=I1.Hf (ys:=xs) (its:=us) (t':=tk) hv hz;have mH:=I1.fresh;refine aI (Ph ?_ (by rw[<-hv.length];exact hz));have GG:(h'.push {cls:=.type "list",data:=.seq us.toArray}).get? h'.objs.size=some (nB "list" us.toArray 0):=eC _ rfl;refine aI (F1 (wpAny_call_entry_kw slot_list_sort ⟨_,GG,rfl⟩ entry_list_sort ?body (ksk_l1 _ _)))
 case body=>show aH (aO X.prog X.w) X.A.in1.in1 (sH.«list.sort» ⟨[.ref h'.objs.size],[(jC "key",.ref q)]⟩) _ _ _;rw[ksk_t1];exact adj O R eQ i5 mH I2 λs' H' ys p1 p2 sm hD I'=>⟨_,rfl,bN ⟨_,rfl,h s' H' ys _ p1 p2 sm mH hD I'⟩⟩
theorem adl{de:V->V->Hp->Prop}{Rl:V->V->Prop}{run:V->Hp->VK->Prop}{q l:af}{xs:List V}{E:ag->aA->Prop}{Q:ag->aA->Prop}(O:pw X de Rl)(R:mK X σ (.ref q) run) (eQ:∀v k H H',(∀b zs,H b=some (.tup zs)->H' b=some (.tup zs))->de v k H->de v k H')(i5:∀v,v∈xs->∀H',aC H H'->run v H' λk fj=>aC H' fj/\de v k fj)
  (I:Inv X ae σ H s)(hl:aE X.K H l xs)
  (h:∀s' H' ys D,ys.Perm xs->ys.Pairwise Rl->aC H H'->H D=none->H' D=some (.lst ys)->Inv X ae σ H' s'->Q (.ref D) s'):
  aH (aO X.prog X.w) X.A (call (.builtin "sorted") [.ref l] [(jC "key",.ref q)]) Q E s:=by
 obtain⟨its,rv,pl,hz⟩:=I.list hl;refine R_ O R eQ i5 rv hz I (λQ' hq=>?_) h;refine collect_list pl.isList (hq _ _ λb o e=>?_) (by rw[<-rv.length];exact hz);have dN:b<s.heap.objs.size:=cB e;rw[Heap.get?_update_ne _ _ _ _ (eA dN),Heap.get?_push_ne _ _ _ (eA dN)];exact e
theorem Sa:∀{kvs:List (Key×V)}{vs:List (Key×ag)},KV kvs vs->Vals (kvs.map (·.2)) (vs.map (·.2))|_,_,.nil=>.nil|_,_,.cons r t=>.cons r.2 (Sa t)
theorem adm{de:V->V->Hp->Prop}{Rl:V->V->Prop}{run:V->Hp->VK->Prop}{q d r:af}{kvs:List (Key×V)}{E:ag->aA->Prop}{Q:ag->aA->Prop}(O:pw X de Rl)(R:mK X σ (.ref q) run) (eQ:∀v k H H',(∀b zs,H b=some (.tup zs)->H' b=some (.tup zs))->de v k H->de v k H')(i5:∀v,v∈kvs.map (·.2)->∀H',aC H H'->run v H' λk fj=>aC H' fj/\de v k fj)
  (hc:X.calm=true)(I:Inv X ae σ H s)(hd:Rd H d (.dK kvs))(hr:s.heap.IsValuesView r d)
  (h:∀s' H' ys D,ys.Perm (kvs.map (·.2))->ys.Pairwise Rl->aC H H'->H D=none->H' D=some (.lst ys)->Inv X ae σ H' s'->Q (.ref D) s'):
  aH (aO X.prog X.w) X.A (call (.builtin "sorted") [.ref r] [(jC "key",.ref q)]) Q E s:=by
 obtain⟨hz,lo,vs,rel,dd⟩:=lE I.hok hd;obtain⟨ep,nX⟩:=dd.dictAt;have hl:kvs.length=vs.length:=rel.length;refine R_ O R eQ i5 (Sa rel) (by rw[aD];exact hz) I (λQ' hq=>?_) h;refine PySem.W.kdu_collect (PySem.W.kdl_values (knd:=ff X.prog X.w) (kvs:=vs) (ep:=ep)) (I.ok.hd hc) ⟨hr,nX⟩ (by rw[<-hl];exact hz) λh' tk acc hk Sb=>?_;have e:acc.toList=vs.map (·.2):=PySem.W.kdl_vals_eq acc.toList (by rw[sf];exact Sb.1) λj v e=>Sb.2 j v (by rw[<-Array.getElem?_toList];exact e);rw[e];exact hq h' tk hk
end
def Cd(κf:V->Int):V->V->Hp->Prop:=λv k _=>k=.int (κf v)
theorem Sd{α β:Type}:∀{l:List α}{m:List β}{p:α×β},p∈l.zip m->∃i:Nat,l[i]? =some p.1/\m[i]? =some p.2
 |[],_,_,h=>by simp at h|_::_,[],_,h=>by simp at h|a::l,b::m,p,h=>by
  rw[Fi]at h;rcases b9.mp h with rfl|h
  ·exact⟨0,rfl,rfl⟩
  ·obtain⟨i,h1,h2⟩:=Sd h
   exact⟨i+1,by simpa using h1,by simpa using h2⟩
theorem Vals.get':∀{xs:List V}{us:List ag}{i:Nat}{u:ag},Vals xs us->us[i]? =some u->∃x,xs[i]? =some x/\RelV x u|_,_,_,_,.nil,e=>by simp at e|_,_,0,_,.cons r _,e=>by simp at e;subst e;exact⟨_,rfl,r⟩|_,_,i+1,u,.cons _ t,e=>by obtain⟨x,h1,h2⟩:=Vals.get' (i:=i) (u:=u) t (by simpa using e);exact⟨x,by simpa using h1,h2⟩
section
variable{X:Cx}
theorem Ce{de:V->V->Hp->Prop}(hv:Vals vs us)(hk:Vals ks keys)(g0:∀(i:Nat)(v k:V),vs[i]? =some v->ks[i]? =some k->de v k H)(hp:p∈keys.zip us):∃k,RelV k p.1/\RelV (av p.2) p.2/\de (av p.2) k H:=by
 obtain⟨i,h1,h2⟩:=Sd hp;obtain⟨k,k1,k2⟩:=hk.get' h1;obtain⟨v,v1,v2⟩:=hv.get' h2;have:=HR v2;exact⟨k,k2,by rw[this];exact v2,by rw[this];exact g0 i v k v1 k1⟩
theorem Se{de:V->V->Hp->Prop}(hv:Vals vs us)(hk:Vals ks keys)(hl:vs.length=ks.length)(g0:∀(i:Nat)(v k:V),vs[i]? =some v->ks[i]? =some k->de v k H)(hu:u∈keys):∃v k,RelV k u/\de v k H:=by
 obtain⟨i,hi⟩:=Oi.mp hu;obtain⟨k,k1,k2⟩:=hk.get' hi;have Cf:i<vs.length:=by rw[hl];exact(eo.mp k1).1
 exact⟨vs[i],k,k2,g0 i _ k (dY Cf) k1⟩
theorem adn(κf:V->Int):pw X (Cd κf) (λa b=>κf a<=κf b):=by
 intro ae s σ H vs ks us keys I hv hk hl g0
 have hint:∀u,u∈keys->∃n t,u=sJ n t:=λu hu=>by
  obtain⟨v,k,r,e⟩:=Se hv hk hl g0 hu
  have e:k=.int (κf v):=e
  subst e
  obtain⟨t,e⟩:=r
  exact⟨_,t,e⟩
 refine⟨FF,oneType',λA E x y a b Q ha hb h=>?_,λu hu=>?_,λh2 A E Q hq=>?_,λp q hp hq a b ha hb hle=>?_⟩
 ·cases x<;>simp only[FF,reduceCtorEq,AV]at ha
  cases y<;>simp only[FF,reduceCtorEq,AV]at hb
  cases ha
  cases hb
  exact PySem.W.kat_lt_int h
 ·obtain⟨n,t,rfl⟩:=hint u hu
  exact⟨n,rfl⟩
 ·have hi:∃ns,jA keys ns:=by
   clear hq h2 g0 hl hk
   induction keys with
   |nil=>exact⟨[],.nil⟩|cons u r ih=>
    obtain⟨n,t,rfl⟩:=hint u (cK ..)
    obtain⟨ns,h⟩:=ih λv hv=>hint v (b8 _ hv)
    exact⟨n::ns,.cons n t h⟩
  obtain⟨ns,hi⟩:=hi
  rw[ksk_kind (kz:=ns) (by simpa using hi) (by simpa using h2)]
  exact bN hq
 ·obtain⟨k,r1,_,e1⟩:=Ce hv hk g0 hp
  obtain⟨k',r2,_,e2⟩:=Ce hv hk g0 hq
  have e1:k=.int (κf (av p.2)):=e1
  have e2:k'=.int (κf (av q.2)):=e2
  subst e1 e2
  obtain⟨t,r1⟩:=r1
  obtain⟨t',r2⟩:=r2
  rw[r1]at ha
  rw[r2]at hb
  have ha:κf (av p.2)=a:=cM.inj ha
  have hb:κf (av q.2)=b:=cM.inj hb
  subst ha hb
  have:decide (κf (av q.2)<κf (av p.2))=false:=hle
  have:=N4 this
  show κf (av p.2)<=κf (av q.2)
  lia
theorem ado{κf:V->Int}:∀v k H H',(∀b zs,H b=some (.tup zs)->H' b=some (.tup zs))->Cd κf v k H->Cd κf v k H':=λ_ _ _ _ _ h=>h
def TupAt(κf:V->List Int):V->V->Hp->Prop:=λv k H=>∃t,k=.ref t/\H t=some (.tup ((κf v).map V.int))/\κf v≠[]
theorem adp{κf:V->List Int}:∀v k H H',(∀b zs,H b=some (.tup zs)->H' b=some (.tup zs))->TupAt κf v k H->TupAt κf v k H':=λ_ _ _ _ hs⟨t,e,h,n⟩=>⟨t,e,hs _ _ h,n⟩
def mM:Nat->Bool:=λ_=>false
theorem Sf:∀{us:List ag}{ns:List Int}(i:Nat),jA us ns->tupItems mM i us=some (ns.map ay)|_,_,_,.nil=>rfl|_,_,i,.cons n t h=>by simp only[tupItems,mM,sg,l9];rw[Sf (i+1) h];rfl
theorem Sg:∀as bs:List Int,OV itemOrd (as.map ay) (bs.map ay)=HT.lexLt as bs
 |[],[]=>rfl|[],_::_=>rfl|_::_,[]=>rfl|a::as,b::bs=>by
  rw[HT.Q4,cV,cV];by_cases e:a=b
  ·subst e
   rw[aj rfl,lex_self,Sg as bs]
  ·rw[ah e,lex_diff (λq=>e (ay.inj q))]
   rfl
theorem Cg{σ:St}{κf:V->List Int}(I:Inv X ae σ H s)(h:TupAt κf v k H)(r:RelV k u):(∃f,TupOf s.heap mM u f)/\xD s.heap mM u=some ((κf v).map ay):=by
 obtain⟨t,rfl,ht,cD⟩:=h;have r:u=dg t:=r;subst r;obtain⟨_,its,rv,⟨o,ho,hc,n,hd⟩⟩:=I.hok t _ ht;have hi:jA its (κf v):=rv.ints;refine⟨?_,?_⟩
 ·cases hk:κf v with
  |nil=>exact absurd hk cD|cons a l=>rw[hk]at hi;cases hi with|cons _ tk hr=>exact⟨_,t,o,_,n,rfl,ho,hc,hd,rfl,λ_=>⟨a,tk,rfl⟩,λq=>absurd q (by simp[mM])⟩
 ·unfold xD
  have h1:OY s.heap (.ref t)=true:=by simp only[OY,ho,hc];rfl
  rw[aj h1];unfold tupKey;simp only[ho,hd];exact Sf 0 (by simpa using hi)
theorem adq(κf:V->List Int):pw X (TupAt κf) (λa b=>HT.lexLt (κf b) (κf a)=false):=by
 intro ae s σ H vs ks us keys I hv hk hl g0
 have mC:∀u,u∈keys->(∃f,TupOf s.heap mM u f)/\∃l,xD s.heap mM u=some l:=λu hu=>by
  obtain⟨v,k,r,e⟩:=Se hv hk hl g0 hu
  exact⟨(Cg I e r).1,_,(Cg I e r).2⟩
 have Ci:∃fs,TupsOf s.heap mM keys fs:=by
  clear g0 hl hk
  induction keys with
  |nil=>exact⟨[],.nil⟩|cons u r ih=>
   obtain⟨⟨f,hf⟩,_⟩:=mC u (cK ..)
   obtain⟨fs,h⟩:=ih λv hv=>mC v (b8 _ hv)
   exact⟨f::fs,.cons hf h⟩
 obtain⟨fs,Ci⟩:=Ci
 refine⟨aae s.heap mM,tuples' true,aad true (PyProof.Rows.G.KeepsTups.refl _),λu hu=>(mC u hu).2,λh2 A E Q hq=>?_,λp q hp hq a b ha hb hle=>?_⟩
 ·exact tup_kind (by rw[PyProof.Rows.G.TupsOf.length Ci];lia) Ci hq
 ·obtain⟨k,r1,_,e1⟩:=Ce hv hk g0 hp
  obtain⟨k',r2,_,e2⟩:=Ce hv hk g0 hq
  have ea:=(Cg I e1 r1).2
  have eb:=(Cg I e2 r2).2
  have ha:xD s.heap mM p.1=some a:=ha
  have hb:xD s.heap mM q.1=some b:=hb
  rw[ea]at ha
  rw[eb]at hb
  have ha:=cM.inj ha
  have hb:=cM.inj hb
  subst ha hb
  have hle:OV itemOrd ((κf (av q.2)).map ay) ((κf (av p.2)).map ay)=false:=hle
  rw[Sg]at hle
  exact hle
end
def yI(r d:af):HO:=.ext λh=>h.IsValuesView r d
theorem ads(e:h.IsValuesView r d):d3 P w H h r (yI r d):=⟨e,let⟨o,ho,_⟩:=e;⟨o,ho⟩,λ_ _⟨o,ho,q⟩k=>⟨o,k o ho,q⟩⟩
def adt(td:TE):TE:=λσ H Q=>td σ H λx H1=>∃d kvs,x=.ref d/\Rd H1 d (.dK kvs)/\∀r,H1 r=none->Q (.ref r) (upd H1 r (yI r d))
def SrcAt(K:aG)(H:Hp)(a:af)(xs:List V):Prop:=aE K H a xs∨∃d kvs,H a=some (yI a d)/\Rd H d (.dK kvs)/\xs=kvs.map (·.2)
def adu(K:aG)(run:af->St->V->Hp->VK->Prop)(ta tk:TA):TE:=λσ H Q=>ta σ H λvs H1=>tk σ H1 λzs H2=>∃(a q:af)(xs:List V)(κf:V->List Int),vs=[V.ref a]/\zs=[V.ref q]/\SrcAt K H2 a xs/\(∀v,v∈xs->∀H',aC H2 H'->run q σ v H' λk fj=>aC H' fj/\TupAt κf v k fj)/\
 ∀ys D H',ys.Perm xs->ys.Pairwise (λa b=>HT.lexLt (κf b) (κf a)=false)->aC H2 H'->H2 D=none->H' D=some (.lst ys)->Q (.ref D) H'
def adv(K:aG)(run:af->St->V->Hp->VK->Prop)(ta tk:TA):TE:=λσ H Q=>ta σ H λvs H1=>tk σ H1 λzs H2=>∃(a q:af)(xs:List V)(κf:V->Int),vs=[V.ref a]/\zs=[V.ref q]/\SrcAt K H2 a xs/\(∀v,v∈xs->∀H',aC H2 H'->run q σ v H' λk fj=>aC H' fj/\Cd κf v k fj)/\
 ∀ys D H',ys.Perm xs->ys.Pairwise (λa b=>κf a<=κf b)->aC H2 H'->H2 D=none->H' D=some (.lst ys)->Q (.ref D) H'
section
variable{X:Cx}{e ke:a_}{te tk td:TE}{p pos vi apos cO:dG}
theorem adw(he:PE X e td)(o7:me e "values" X.env (eval e X.env)=eval e X.env:=by rfl)(o8:(apos.endLine==cO.line)=true:=by rfl):PE X (.Call (.Attribute e "values" apos) [] [] cO) (adt td):=by
 intro ae s σ H Q I h;refine uP (T:="dict") (id:="dict.values") o7 rfl o8 Gd Bk PL (aU (he ae s σ H _ I h) λu s1 br=>?_);obtain⟨x,H1,I1,rx,d,kvs,ex,hd,q⟩:=br;subst ex;obtain rfl:u=dg d:=rx;obtain⟨hz,hs,vs,kv,dd⟩:=lE I1.hok hd;obtain⟨ep,hm⟩:=dd.dictAt;refine⟨hm.dictOf.typeIs,hm.dictOf.mapOf.noDict,?_⟩;have hvw:(s1.heap.push {cls:=.type "dict_values",data:=.fields #[.ref d]}).IsValuesView s1.heap.objs.size d:=⟨_,eC _ rfl,rfl,rfl⟩
 have I2:Inv X ae σ (upd H1 s1.heap.objs.size (yI s1.heap.objs.size d)) {s1 with heap:=s1.heap.push {cls:=.type "dict_values",data:=.fields #[.ref d]}}:=I1.laid (t':=s1.toks) (λb ob q=>cN _ q) (bM _) (ads hvw)
 show aH _ _ (nI cO (.builtin "dict.values") [.ref d] [] []) _ X.xe s1;exact FZ Bk PJ rfl (FU ⟨rfl,hm.dictOf.typeIs,PH _,_,O8 (ff X.prog X.w) d hs,⟨vs,hm.dictOf⟩,⟨.ref _,_,I2,rfl,q _ I1.fresh⟩⟩)
theorem Sh{de:V->V->Hp->Prop}{Rl:V->V->Prop}{run:V->Hp->VK->Prop}{σ:St}(O:pw X de Rl)(R:mK X σ (.ref q) run)(hc:X.calm=true) (eQ:∀v k H H',(∀b zs,H b=some (.tup zs)->H' b=some (.tup zs))->de v k H->de v k H')(i5:∀v,v∈xs->∀H',aC H H'->run v H' λk fj=>aC H' fj/\de v k fj)
  (I:Inv X ae σ H s)(hl:SrcAt X.K H l xs)
  (h:∀s' H' ys D,ys.Perm xs->ys.Pairwise Rl->aC H H'->H D=none->H' D=some (.lst ys)->Inv X ae σ H' s'->Q (.ref D) s'):
  aH (aO X.prog X.w) X.A (call (.builtin "sorted") [.ref l] [(jC "key",.ref q)]) Q E s:=by
 rcases hl with hl|⟨d,kvs,hv,hd,rfl⟩
 ·exact adl O R eQ i5 I hl h
 ·exact adm O R eQ i5 hc I hd (I.hok l _ hv).1 h
theorem Cj{run:af->St->V->Hp->VK->Prop}(hc:X.calm=true)(hg:Gl X "sorted")(hm:X.mg "sorted"=none)(hA:PA X [e] ta)(hK:PK X [⟨some (jC "key"),ke,vi⟩] HZ)(R:∀q σ,mK X σ (.ref q) (run q σ)) (hs:backTo pos (bE [e] X.env)=(false,eval e X.env)::backTo pos (bE [] X.env):=by rfl)(dk:(backTo pos (bE [e] X.env)).any (·.1)=false:=by rfl):PE X (.Call (.Name "sorted" p) [e] [⟨some (jC "key"),ke,vi⟩] pos) (adu X.K run ta HZ):=by
 intro ae s σ H Q I h;refine su (qF I hg hm (u:=.builtin "sorted") (by decide +kernel) (OR (aU (hA pos ae s σ H _ I h) λus s1⟨vs,H1,I1,r1,q1⟩=>?_) hs dk));refine aU (hK pos ae s1 σ H1 _ I1 q1) λws s2 br=>?_;obtain⟨zs,H2,I2,r2,q2⟩:=br;obtain⟨a,q,xs,κf,rfl,rfl,H_,i5,hq⟩:=q2;rw[Vals.BS r1,Vals.BS r2];exact Sh (adq κf) (R q σ) hc adp i5 I2 H_ λs' H' ys D p1 p2 sm hD hl I'=>⟨.ref D,H',I',rfl,hq ys D H' p1 p2 sm hD hl⟩
theorem adx{run:af->St->V->Hp->VK->Prop}(hc:X.calm=true)(hg:Gl X "sorted")(hm:X.mg "sorted"=none)(hA:PA X [e] ta)(hK:PK X [⟨some (jC "key"),ke,vi⟩] HZ)(R:∀q σ,mK X σ (.ref q) (run q σ)) (hs:backTo pos (bE [e] X.env)=(false,eval e X.env)::backTo pos (bE [] X.env):=by rfl)(dk:(backTo pos (bE [e] X.env)).any (·.1)=false:=by rfl):PE X (.Call (.Name "sorted" p) [e] [⟨some (jC "key"),ke,vi⟩] pos) (adv X.K run ta HZ):=by
 intro ae s σ H Q I h;refine su (qF I hg hm (u:=.builtin "sorted") (by decide +kernel) (OR (aU (hA pos ae s σ H _ I h) λus s1⟨vs,H1,I1,r1,q1⟩=>?_) hs dk));refine aU (hK pos ae s1 σ H1 _ I1 q1) λws s2 br=>?_;obtain⟨zs,H2,I2,r2,q2⟩:=br;obtain⟨a,q,xs,κf,rfl,rfl,H_,i5,hq⟩:=q2;rw[Vals.BS r1,Vals.BS r2];exact Sh (adn κf) (R q σ) hc ado i5 I2 H_ λs' H' ys D p1 p2 sm hD hl I'=>⟨.ref D,H',I',rfl,hq ys D H' p1 p2 sm hD hl⟩
theorem ady(F:aX X.prog X.w X.K X.mg X.base CX k f fd ps sp)(hr:c6 (k+2) X.A)(hb:Binds X.K fd ps [])(hx:∀(outer:List d9)(H:Hp)(s:aA)(e:ag)(s':aA),¬CX outer H s E e s'):∀q σ,mK X σ (.ref q) λv H Q=>q=f/\sp [v] H Q E:=by
 intro q σ ae s H v u Q I rv h;obtain⟨rfl,h⟩:=h;have r2:Vals [v] [u]:=.cons rv .nil;have hl:([u]++([]:List ag)).length=ps.length:=by have:=r2.length;have:=F.len _ _ _ _ h;simp at this⊢;exact this
 have e0:kq X.prog X.w X.K X.mg X.base X.A.in1.in1 X.stack s H:=I.env0.in1.in1;refine xJ (sA (F.run X.A.in1.in1 X.stack s H ⟨[u],[]⟩ ([u]++[]) [v] Q E hr.in1.in1 e0 (hb s [u] I.gX hl) r2 h) λr s' hq=>?_);cases r with|error e=>exact absurd hq (hx _ _ _ _ _)|ok fl=>cases fl with|ret u=>exact I.after hq|next=>exact False.elim hq|brk=>exact False.elim hq|cont=>exact False.elim hq
end
def nY(c:af)(q:ai):HO:=.ext λh=>h.CodeRec (.ref c) q
theorem Si(e:h.CodeRec (.ref c) q):d3 P w H h c (nY c q):=by refine⟨e,?_,λh1 h2 x k=>x.at k⟩;obtain⟨c',o,vs,t,e1,e2,_⟩:=e;cases e1;exact⟨o,e2⟩
def yJ(f c:af)(q:ai)(params:kc)(body:a_)(scope:dZ):HO:=.ext λh=>∃pm eI,h.get? f=some (nL "<lambda>" q params body scope [] pm c eI)
theorem Sj(e:h.get? f=some (nL "<lambda>" q params body scope [] pm c eI)):d3 P w H h f (yJ f c q params body scope):=⟨⟨pm,eI,e⟩,⟨_,e⟩,λh1 h2⟨pm,eI,x⟩k=>⟨pm,eI,k _ x⟩⟩
def ip(H:Hp)(q:ai):List ag->Prop|[]=>True|.int _ _::.int _ _::.ref c::rest=>H c=some (nY c q)/\ip H q rest|_=>False
theorem ip.ok:∀{l:List ag},ip H q l->TriplesOk l|[],_=>trivial|.int _ _::.int _ _::.ref c::rest,h=>ip.ok (l:=rest) h.2
theorem ip.mono(k:∀c,H c=some (nY c q)->H' c=some (nY c q)):∀{l:List ag},ip H q l->ip H' q l|[],_=>trivial|.int _ _::.int _ _::.ref c::rest,h=>⟨k c h.1,ip.mono k (l:=rest) h.2⟩
theorem ip.among:∀{l:List ag},ip H q l->xK pos l=some v->∃c,v=.ref c/\H c=some (nY c q)
 |[],_,e=>by simp[xK]at e|.int a t::.int b u::.ref c::rest,h,e=>by
  simp only[xK]at e;split at e
  ·cases e;exact⟨c,rfl,h.1⟩
  ·exact ip.among (l:=rest) h.2 e
theorem ip.snoc(hc:H c=some (nY c q)):∀{l:List ag},ip H q l->ip H q (l++[gA a,gA b,.ref c])|[],_=>⟨hc,trivial⟩|.int _ _::.int _ _::.ref c'::rest,h=>⟨h.1,ip.snoc hc (l:=rest) h.2⟩
def TabAt(H:Hp)(P:af)(q:ai):Prop:=∃ps,H P=some (.c_ ps)/\ip H q ps.toList
section
variable{X:Cx}{ae:List (af×bx)}{σ:St}{s:aA}{H:Hp}
theorem Inv.grow{φ ψ:bg->Prop}(I:Inv X ae σ H s)(hP:H P=some (.c_ ps))(hx:∀b o,b≠P->s.heap.get? b=some o->h'.get? b=some o) (iH:h'.get? P=some {cls:=.none,data:=.fields (ps++more)})(hc:s.heap.objs.size<=c)(hf:s.heap.objs.size<=f)(Ia:c≠f)(oc:∀H,d3 X.prog X.w H h' c (.ext φ))(of:∀H,d3 X.prog X.w H h' f (.ext ψ)):
  Inv X ae σ (upd (upd (upd H P (.c_ (ps++more))) c (.ext φ)) f (.ext ψ)) {s with heap:=h',toks:=t'}:=by
 have nc:H c=none:=I.hok.fresh hc;have nf:H f=none:=I.hok.fresh hf;have cP:P≠c:=ba hP nc;have fP:P≠f:=ba hP nf;have old:∀b,b≠P->b≠c->b≠f->upd (upd (upd H P (.c_ (ps++more))) c (.ext φ)) f (.ext ψ) b=H b:=λb h1 h2 h3=>by rw[ak h3,ak h2,ak h1]
 have lt:∀b o,s.heap.get? b=some o->b≠c/\b≠f:=λb o e=>⟨eA (fI (cB e) hc),eA (fI (cB e) hf)⟩
 have nZ:∀b o,H b=some o->b≠c/\b≠f:=λb o e=>⟨ba e nc,ba e nf⟩
 have nP:∀b,H b=none->b≠P:=λb e z=>by rw[z,hP]at e;cases e
 have Sk:upd (upd (upd H P (.c_ (ps++more))) c (.ext φ)) f (.ext ψ) P=some (.c_ (ps++more)):=by rw[ak fP,ak cP,ao]
 refine I.un (t':=t') ⟨λb o e n _ _=>hx b o (nP b n) e,λb o e n _ _=>⟨o.slots,hx b o (nP b n) e⟩,λb o e n _=>?_,λb o e _=>?_,λb xs e=>?_,λb o u e=>?_,λb qs e=>?_⟩ λb u e=>?_
 ·rw[old b (nP b n) (lt b o e).1 (lt b o e).2];exact n
 ·by_cases hb:b=P
  ·rw[hb];exact⟨_,iH⟩
  ·exact⟨o,hx b o hb e⟩
 ·rw[old b (cZ e hP nofun) (nZ b _ e).1 (nZ b _ e).2];exact e
 ·rw[old b (cZ e hP nofun) (nZ b _ e).1 (nZ b _ e).2];exact e
 ·by_cases hb:b=P
  ·rw[hb]at e⊢
   rw[hP]at e;cases e;exact⟨more,Sk⟩
  ·exact⟨#[],by rw[old b hb (nZ b _ e).1 (nZ b _ e).2,e];simp⟩
 ·by_cases h1:b=f
  ·subst h1
   rw[ao]at e;cases e;exact of _
  ·by_cases h2:b=c
   ·subst h2
    rw[ak h1,ao]at e;cases e;exact oc _
   ·by_cases h3:b=P
    ·subst h3
     rw[Sk]at e;cases e;exact iH
    ·rw[old b h3 h2 h1]at e
     refine(I.hok b u e).stay (λa v ha q=>hx a v ?_ q) (λa q=>?_) λa xs q=>?_
     ·rcases ha with rfl|ha
      ·exact h3
      ·exact cZ ha hP nofun
     ·rw[old a (cZ q hP nofun) (nZ a _ q).1 (nZ a _ q).2];exact q
     ·rw[old a (cZ q hP nofun) (nZ a _ q).1 (nZ a _ q).2];exact q
end
def lK(mg:ai->Option ag)(base:bg):Prop:=∃bm o,mg "__builtins__"=some (.ref bm)/\bm≠xI/\bm≠fJ/\base.get? bm=some o/\o.cls=.type "module"/\o.dict=some xI/\o.data=.plain
def adz(P:af)(q:ai)(params:kc)(body:a_)(scope:dZ):TE:=λσ H Q=>TabAt H P q/\∀(H':Hp)(f c:af),(∀b o,H b=some o->b≠P->H' b=some o)->TabAt H' P q->H f=none->H' f=some (yJ f c q params body scope)->H' c=some (nY c q)->Q (.ref f) H'
section
variable{X:Cx}
theorem Ib(B:lK X.mg X.base)(yK:X.env.code=.ref c)(C:jD X.base c P)(hq:X.env.qual++"<lambda>"=q) (Ic:defaultsOf params X.env=([],[]):=by rfl)(iE:Ba scope X.env=pure []:=by rfl):PE X (.Lambda params body scope pos) (adz P q params body scope):=by
 intro ae s σ H Q I h;obtain⟨⟨ps,hP,tr⟩,h⟩:=h;refine Qk Ic ?_;rw[hq];have eP:s.heap.get? P=some (Br ps):=I.hok P _ hP;have kE:s.heap.Ns fJ X.mg:=I.mod.glob.keeps I.bk;obtain⟨bm,ob,b1,b2,b3,b4,b5,b6,b7⟩:=B;have Ie:fJ≠P:=λz=>by obtain⟨o,es,ep,e,hd,_⟩:=kE;rw[z,eP]at e;cases e;cases hd
 have Ig:bm≠P:=λz=>by have e:=I.bk _ _ b4;rw[z,eP]at e;cases e;cases b5
 have yL:s.heap.BuiltinsAt X.mg P:=⟨bm,ob,b1,b2,b3,Ig,I.bk _ _ b4,b5,b6,b7⟩;cases hf:xK pos ps.toList with
 |none=>
  refine Qb (mg:=X.mg) iE I.ok.glob kE yK (C.keeps I.bk) eP tr.ok hf Ie yL λc' eI h' tk hx mJ dN yM Ih=>?_;have hk:∀b o,b≠P->s.heap.get? b=some o->(h'.push (nL "<lambda>" q params body scope [] ((X.mg "__name__").getD .none) c' eI)).get? b=some o:=λb o hb e=>cN _ (hx b o hb e);have hsz:s.heap.objs.size<=h'.objs.size:=jz (k7 mJ dN)
  have I2:=I.grow (t':=tk) (more:= #[gA pos.line,gA pos.col,.ref c']) (φ:=λh=>h.CodeRec (.ref c') q) (ψ:=λh=>∃pm eI,h.get? h'.objs.size=some (nL "<lambda>" q params body scope [] pm c' eI)) hP hk (cN _ Ih) mJ hsz (eA dN) (λH=>Si (yM.keeps λb o e=>cN _ e)) (λH=>Sj (eC _ rfl))
  have nc:H c'=none:=I.hok.fresh mJ;have nf:H h'.objs.size=none:=I.hok.fresh hsz;have yN:c'≠h'.objs.size:=eA dN;have cP:P≠c':=ba hP nc;have fP:P≠h'.objs.size:=ba hP nf;refine⟨.ref _,_,I2,rfl,h _ _ c' (λb o e hb=>?_) ⟨ps++ #[gA pos.line,gA pos.col,.ref c'],?_,?_⟩ nf ao ?_⟩
  ·rw[ak (ba e nf),ak (ba e nc),ak hb];exact e
  ·rw[ak fP,ak cP,ao]
  ·rw[N5]
   refine ip.snoc (by rw[ak yN,ao];rfl) (tr.mono λa e=>?_);rw[ak (ba e nf),ak (ba e nc),ak (cZ e hP nofun)];exact e
  ·rw[ak yN,ao];rfl|some cv=>obtain⟨c',rfl,u9⟩:=tr.among hf;refine Qa (mg:=X.mg) iE I.ok.glob kE yK (C.keeps I.bk) eP tr.ok hf yL λeI h' tk hk hsz=>?_;have nf:H h'.objs.size=none:=I.hok.fresh hsz;have I2:=I.laid (t':=tk) (a:=h'.objs.size) (o:=yJ h'.objs.size c' q params body scope) (h':=h'.push (nL "<lambda>" q params body scope [] ((X.mg "__name__").getD .none) c' eI)) (λb o e=>cN _ (hk b o e)) hsz (Sj (eC _ rfl));have sm:aC H (upd H h'.objs.size (yJ h'.objs.size c' q params body scope)):=aC.HS nf;exact⟨.ref _,_,I2,rfl,h _ _ c' (λb o e _=>sm b o e) ⟨ps,sm _ _ hP,tr.mono λa e=>sm _ _ e⟩ nf ao (sm _ _ u9)⟩
def Ck(N:List ai)(q:ai)(params:kc)(body:a_)(scope:dZ)(t:TE):af->V->Hp->VK->Prop:=λf v H Q=>(∃c,H f=some (yJ f c q params body scope)/\H c=some (nY c q))/\t (start N [v]) H Q
theorem Ii(S:bu N [x] scope)(hr:c6 (k+3) X.A) (hb:∀(pm eI:ag)(c:af)(u:ag),xN (Ql "<lambda>" q params body scope [] pm (.ref c) eI) ⟨[u],[]⟩=pure [(x,u)])
  (mF:∀(f c:af)(A:dF)(outer:List d9)(s:aA)(H:Hp),c6 k (A.deeper (j9 q scope s.heap.objs.size f (.ref c)))->PE (nU bc X.prog X.w X.K X.mg X.base N q scope f (.ref c) A outer s H E0).my body t):
  ∀f σ,mK X σ (.ref f) (Ck N q params body scope t f):=by
 intro f σ ae s H v u Q I rv h;obtain⟨⟨c,hf,hc⟩,h⟩:=h;obtain⟨⟨pm,eI,ef⟩,_,_⟩:=I.hok f _ hf;have ec:s.heap.CodeRec (.ref c) q:=(I.hok c _ hc).1;have e0:kq X.prog X.w X.K X.mg X.base X.A.in1.in1 X.stack s H:=I.env0.in1.in1;have jo:c6 (k+1) X.A.in1.in1:=hr.in1.in1;have KX:X.K.In s.heap:=I.gX;have lim:s.heap.NoLimit:=I.nolimit;have G3:∀y∈[x].zip [u],scope.names.lookup y.1=some .local∨(scope.names.lookup y.1=some .cell/\((gg (s.heap.objs.size+1) scope.names []).lookup y.1).isSome=true):=λ⟨n,v⟩hy=>by
  rcases S.par n (si hy).1 with z|z
  ·exact .inl z
  ·exact .inr ⟨z,Gg _ _ _ (.inl z)⟩
 refine xJ (sA (R:=CR bc X.stack X.prog X.w H s Q E0) ?_ λr s' hq=>?_)
 ·refine Qc jo.depth ef rfl S.co S.gen rfl ec ?_
  rw[hb pm eI c u];refine bN (OZ S.kind G3 λenv he s1 y=>?_);subst he;refine⟨lim.keeps y.toInCall.keep,Qe ?_⟩;have J:Inv (nU bc X.prog X.w X.K X.mg X.base N q scope f (.ref c) X.A.in1.in1 X.stack s H E0) [] (start N [v]) H s1:=Q0 S jo.hd e0 rfl (.cons rv .nil) y;refine ic ((mF f c X.A.in1.in1 X.stack s H (jo.deeper _)).my [] s1 (start N [v]) H Q J h) (λw s' hs=>?_) λe s' hs=>hs;obtain⟨v',H',J',Ij,q'⟩:=hs;exact⟨v',H',J'.os,J'.bare,J'.base,J'.hok,Ij,q'⟩
 ·cases r with
  |error e=>exact hq.elim|ok fl=>cases fl with
   |ret u=>exact I.after hq|next=>exact False.elim hq|brk=>exact False.elim hq|cont=>exact False.elim hq
end
end L2
namespace HT
open PySem PyProof.Rows
theorem adA(a c:Int):(!decide (a<c))=decide (c<=a):=by
 by_cases h:a<c
 ·rw[dX h,c9 (by lia)];rfl
 ·rw[c9 h,dX (by lia)];rfl
theorem adB(a c:Nat):(!decide (a<c))=decide (c<=a):=by
 by_cases h:a<c
 ·rw[dX h,c9 (by lia)];rfl
 ·rw[c9 h,dX (by lia)];rfl
theorem adC(A:dF)(s:aA)(a:Int)(t:jB)(c:Int)(u:jB)(prog:bR)(w:bI)(E:ag->aA->Prop)(Q:ag->aA->Prop)(h:Q (.bool (decide (c<=a))) s):aH (aO prog w) A (richCompare .GtE (.int a t) (.int c u)) Q E s:=
 (aab h:aH (aO prog w) A (gz .GtE (.int a t) (.int c u)) Q E s)
section
open PySem.SeqAt
open PySem.AutoSeq1 (wpAny_loadPart')
open PySem.MeetsSeq PySem.MeetsSeq2 PySem.MeetsSeq3
theorem adD(l b:af)(items pB:Array ag)(n n2:Nat)(dd Ik:Option af)(sl Il:Array (Option ag))(ns ms:List Int)(hi:jA items.toList ns)(hj:jA pB.toList ms):Meets (sH.«tuple.__ge__» ⟨[.ref l,.ref b],[]⟩) (λ_ R s=>s.heap.get? l=some {cls:=.type "tuple",dict:=dd,data:=.seq items n,slots:=sl}/\s.heap.get? b=some {cls:=.type "tuple",dict:=Ik,data:=.seq pB n2,slots:=Il}/\R (.ok (.ret (.bool (!lexLt ns ms)))) s):=
 .of_wp λprog w A R s h=>by
  obtain⟨hp,g,d,tk,os⟩:=s;obtain⟨hl,hb,h⟩:=h;have f2:=AutoSeq1.sub_tuple_tuple;have z1:items.size=ns.length:=by rw[<-hi.length];simp
  have z2:pB.size=ms.length:=by rw[<-hj.length];simp
  wp_walk using wpAny_loadPart' hl,wpAny_loadPart' hb,wpAny_forIn_list _ (λrest b s'=>b.1=none/\s'=⟨hp,g,d,tk,os⟩/\∃(vs ws:List ag)(mN vA:List Int),rest=vs.zip ws/\jA vs mN/\jA ws vA/\mN.length+pB.size=vA.length+items.size/\R (.ok (.ret (.bool (!lexLt mN vA)))) ⟨hp,g,d,tk,os⟩) _
  case turn=>rintro⟨y,x⟩ rest b s' ⟨jN,rfl,vs,ws,mN,vA,hz,Im,qT,hlen,hR⟩;cases Im with
   |nil=>rw[List.zip_nil_left]at hz;cases hz|cons a t adE=>cases qT with
    |nil=>rw[List.zip_nil_right]at hz;cases hz|cons c u adF=>
     rw[Fi]at hz;injection hz with Sl adG
     injection Sl with hy hx
     subst hy hx;rw[Q4]at hR;simp only[dJ]at hlen;obtain⟨e,he,Sm⟩:=abR A.in1 ⟨hp,g,d,tk,os⟩ a t c u;refine aI (he prog w _ _ ?_);cases e with
     |true=>
      rw[aj (Sm.mp rfl)]at hR
      wp_walk
      exact⟨rfl,rfl,_,_,_,_,adG,adE,adF,by lia,hR⟩|false=>
      rw[ah (λq=>absurd (Sm.mpr q) fR)]at hR;have hri:=adC A.in1 ⟨hp,g,d,tk,os⟩ a t c u prog w;rw[adA]at hR
      wp_walk using hri
      exact⟨_,rfl,by simpa using hR⟩
  case fin=>
   rintro⟨b1,b2⟩ s' ⟨jN,rfl,vs,ws,mN,vA,hz,Im,qT,hlen,hR⟩;simp only at jN;subst jN;have hv:lexLt mN vA=decide (items.size<pB.size):=by cases Im with
    |nil=>cases qT with
     |nil=>simp only[xp]at hlen;rw[abO];exact(c9 (by lia)).symm|cons c u hw=>simp only[xp,dJ]at hlen;rw[abP];exact(dX (by lia)).symm
    |cons a t hv=>cases qT with
     |nil=>simp only[xp,dJ]at hlen;rw[abQ];exact(c9 (by lia)).symm|cons c u hw=>rw[Fi]at hz;cases hz
   rw[hv,adB]at hR
   wp_walk
   exact⟨_,rfl,by simpa[Builtin.Tuple.tupleCompareSizes]using hR⟩
  case h=>exact⟨rfl,rfl,items.toList,pB.toList,ns,ms,rfl,hi,hj,by lia,h⟩
end
section
variable{prog:bR}{w:bI}{A:dF}{E:ag->aA->Prop}{s:aA}
theorem adH(hl:A1 s.heap l items)(hb:A1 s.heap b pB)(hi:jA items.toList ns)(hj:jA pB.toList ms) (hu:A.units<f7)(h:Q (.bool (!lexLt ns ms)) s):aH (aO prog w) A (gz .GtE (.ref l) (.ref b)) Q E s:=by
 obtain⟨⟨cls,dd,data,sl⟩,ho,hc,n,hd⟩:=id hl;obtain⟨⟨aka,Ik,data2,Il⟩,Sn,So,n2,hd2⟩:=id hb;simp only at hc hd So hd2;subst hc hd So hd2
 exact richCompare_meets_room (op:=.GtE) ⟨_,ho,rfl⟩ ⟨_,Sn,rfl⟩ PySem.F.slot_tuple_ge PySem.F.entry_tuple_ge (PySem.F.args_tuple_ge_2 _ _) (adD l b items pB n n2 dd Ik sl Il ns ms hi hj) ⟨ho,Sn,show Bn (!lexLt ns ms)≠Value.notImplemented/\Q (.bool (!lexLt ns ms)) s from⟨(λx=>nomatch x),h⟩⟩ hu
end
end HT
namespace L2
open PySem PySem.Spec PyProof.Rows
section
variable{X:Cx}
def Sq(K:aG):R2:=λx y H Q=>∃a b ns ms,x=.ref a/\y=.ref b/\cW K H a (ns.map V.int)/\cW K H b (ms.map V.int)/\Q (.bl (!HT.lexLt ns ms)) H
theorem adI(hu:X.A.units<f7):fW X (gz .GtE) (Sq X.K):=by intro ae s σ H x y v u Q I rx ry h;obtain⟨a,b,ns,ms,rfl,rfl,ha,hb,q⟩:=h;cases rx;cases ry;obtain⟨its,r1,p1,_⟩:=I.tuple ha;obtain⟨iY,r2,p2,_⟩:=I.tuple hb;have i1:jA its.toArray.toList ns:=intsAre_of r1;have i2:jA iY.toArray.toList ms:=intsAre_of r2;exact HT.adH p1 p2 i1 i2 hu ⟨.bl (!HT.lexLt ns ms),H,I,rfl,q⟩
end
end L2
namespace L2
open PySem PySem.Spec PyProof.Rows
open PySem.W (WData Codec OpenSpec Well WellAll ReadsW ReadsAllW)
def Callee(X:Cx)(f:af)(sp:List V->Hp->VK->Prop):Prop:=jf X.K (.ref f)=true/\∀(ae:List (af×bx))(σ:St)(H:Hp)(s:aA)(Q:VK)(us:List ag)(vs:List V),Inv X ae σ H s->Vals vs us->sp vs H Q->aH (aO X.prog X.w) X.A (call (.ref f) us) (EP X ae σ Q) X.xe s
section
variable{X:Cx}
theorem Sr(F:aX X.prog X.w X.K X.mg X.base CX k f fd ps sp)(hr:c6 k X.A)(hk:jf X.K (.ref f)=true)(hb:Binds X.K fd ps ds)(hd:Vals fK ds)(hx:Passes CX X E):Callee X f λvs H Q=>sp (vs++fK) H Q E:=⟨hk,λae σ H s Q us vs I r h=>BP F hr hb hd hx I r h⟩
def adJ(X:Cx)(tf:TE)(t:TA):TE:=λσ H Q=>tf σ H λx H1=>∃f sp,x=.ref f/\Callee X f sp/\t σ H1 λvs H2=>sp vs H2 Q
theorem Ss(hf:PE X func tf)(ha:PA X (e::es) t) (hev:eval (.Call func (e::es) [] pos) X.env=(do nI pos (<-eval func X.env) [] (backTo pos (bE (e::es) X.env)) (backToKw pos (j_ [] X.env))):=by rfl)
  (he:bE (e::es) X.env=(false,eval e X.env)::bE es X.env:=by rfl)(dk:(backTo pos (bE es X.env)).any (·.1)=false:=by rfl):PE X (.Call func (e::es) [] pos) (adJ X tf t):=by
 intro ae s σ H Q I h;rw[hev];refine aI (aU (hf ae s σ H _ I h) λu s1⟨x,H1,I1,rx,f,sp,ex,hc,q⟩=>?_);subst ex;obtain rfl:u=dg f:=rx;refine Bo (h₀:=X.base) I.ok.mod.u6 hc.1 (aU (ha pos ae s1 σ H1 _ I1 q) λus s2⟨vs,H2,I2,r,q2⟩=>⟨I2.gX,?_⟩) he dk;exact hc.2 ae σ H2 s2 Q us vs I2 r q2
end
theorem adK{K:aG}{H H':Hp}{a:af}{xs:List V}(k:∀b u,H b=some u->H' b=some u)(h:aE K H a xs):aE K H' a xs:=by
 rcases h with(h|⟨o,h⟩)|h
 ·exact .inl (.inl (k _ _ h))
 ·exact .inl (.inr ⟨o,k _ _ h⟩)
 ·exact .inr h
theorem adL{K:aG}{H H':Hp}{a:af}{xs:List V}(k:∀b u,H b=some u->H' b=some u)(h:cW K H a xs):cW K H' a xs:=by
 rcases h with(h|⟨o,h⟩)|h
 ·exact .inl (.inl (k _ _ h))
 ·exact .inl (.inr ⟨o,k _ _ h⟩)
 ·exact .inr h
mutual
theorem adM{K:aG}{H H':Hp}(k:∀b u,H b=some u->H' b=some u):∀(d:WData)(v:V),Dw K H v d->Dw K H' v d
 |.none,_,x=>by cases x;exact .non|.bool b,_,x=>by cases x;exact .bl b|.int i,_,x=>by cases x;exact .int i|.str z,_,x=>by cases x;exact .str z|.bytes b,_,x=>by cases x;exact .ij _|.list ds,_,x=>by cases x with|lst h1 h2=>exact .lst (adK k h1) (Cm k ds _ h2)
 |.tuple ds,_,x=>by cases x with|tup h1 h2=>exact .tup (adL k h1) (Cm k ds _ h2)
 |.float _,_,x=>by cases x|.dict _,_,x=>by cases x|.bytearray _,_,x=>by cases x|.set _,_,x=>by cases x|.frozenset _,_,x=>by cases x|.obj _ _,_,x=>by cases x
theorem Cm{K:aG}{H H':Hp}(k:∀b u,H b=some u->H' b=some u):∀(ds:List WData)(vs:List V),jO K H vs ds->jO K H' vs ds
 |[],_,x=>by cases x;exact .nil|d::ds,_,x=>by cases x with|cons h1 h2=>exact .cons (adM k d _ h1) (Cm k ds _ h2)
end
def jq(tabs:List (af×af))(H:Hp):Hp:=λb=>if b∈tabs.map (·.2)then some (.c_ #[])else H b
theorem adN{P:bR}{w:bI}{K:aG}{mg mb:ai->Option ag}{CX:lx}{k:Nat}{fa:af}{fd:eB}{ps:List ai}{sp:Sp}{s₁:aA}{vals:List ag}{ds:List WData}{R:Qj}{cl:ai->Option af}{d0:WData}{tabs:List (af×af)} (KX:K.In s₁.heap)(yO:s₁.heap.Ns fJ mg)(hb:s₁.heap.Ns xI mb)(hbb:∀x:ai,x≠"__name__"->mb x=uS x)(adO:s₁.heap.NoLimit)(hg:s₁.gens= #[])
  (hT:Qm tabs s₁.heap)(Io:Qn K=true)(hbm:lK mg s₁.heap)
  (jr:WellAll w.params s₁.heap vals ds)(dk:lI ds=true)(hwt:∀d∈ds,d.weight<=1048576)(hr:c6 k callerA)
  (F:∀base:bg,K.In base->base.Ns fJ mg->lK mg base->(∀q∈tabs,jD base q.1 q.2)->aX P w K mg base CX k fa fd ps sp)(adP:∀(s:aA)(us:List ag),us.length=ps.length->xO s fd ⟨us,[]⟩ (ps.zip us))(hlen:ds.length=ps.length)
  (ly:∀(H:Hp)(xs:List V),(∀q∈tabs,H q.2=some (.c_ #[]))->jO K H xs ds->sp xs H (λv H'=>Dw K H' v d0) λ_ _ _=>False)
  (Ip:∀H e s',CX [] H s₁ (λ_ _ _=>False) e s'->False):
  sG (aO P w) callerA (.call (.ref fa) ⟨vals,[]⟩) (λr s'=>∃u as,r=.ok (.ret u)/\ReadsW R cl s'.heap u d0 as/\OldK s₁.heap s'.heap/\s'.os=s₁.os/\so s'.gens) s₁:=by
 obtain⟨A,ho,ar⟩:=B8 ds vals jr dk hwt;have hS:=Cb KX ar ds vals jr dk ho;have hV:=vx ho;have tabAt:∀b,b∈tabs.map (·.2)->s₁.heap.get? b=some (Br #[]):=λb hb=>by obtain⟨q,hq,rfl⟩:=aB.mp hb;exact(hT q hq).2
 have hH:∀b u,jq tabs (fB K s₁.heap A) b=some u->(b∈tabs.map (·.2)/\u=.c_ #[])∨(b∉tabs.map (·.2)/\fB K s₁.heap A b=some u):=λb u q=>by
  unfold jq at q;by_cases hb:b∈tabs.map (·.2)
  ·rw[aj hb]at q
   exact .inl ⟨hb,(cM.inj q).symm⟩
  ·rw[ah hb]at q
   exact .inr ⟨hb,q⟩
 have Iq:∀b u,fB K s₁.heap A b=some u->jq tabs (fB K s₁.heap A) b=some u:=λb u q=>by
  unfold jq;rw[ah λhb=>?_]
  ·exact q
  ·obtain⟨_,vs,_,_,⟨e,_⟩|⟨e,_⟩⟩:=vy ar q
   ·rw[tabAt b hb]at e
    cases e
   ·rw[tabAt b hb]at e
    cases e
 have sS:jO K (jq tabs (fB K s₁.heap A)) (vals.map toV) ds:=Cm Iq _ _ hS;have hok:dR P w (jq tabs (fB K s₁.heap A)) s₁.heap:=λb u q=>by
  rcases hH b u q with⟨hb,rfl⟩|⟨_,q⟩
  ·exact tabAt b hb
  ·refine(ac9 (P:=P) (w:=w) ar b u q).stay (λ_ _ _ e=>e) (λc e=>Iq _ _ e) λc xs e=>Iq _ _ e
 have hK:∀b u,jq tabs (fB K s₁.heap A) b=some u->K.lookup b=none:=λb u q=>by
  rcases hH b u q with⟨hb,_⟩|⟨_,q⟩
  ·cases hk:K.lookup b with
   |none=>rfl|some o=>have e:=KX b o hk;rw[tabAt b hb]at e;have h2:=qp.mp Io (b,o) (PySem.W.mem_of_lookupK hk);obtain rfl:=cM.inj e;exact absurd (show false=true from h2) fR
  ·exact(vy ar q).1
 have free:∀{b:af}{o:bx},s₁.heap.get? b=some o->(∀vs,o.data≠.fields vs)->(∀vs n,o.data≠.seq vs n)->jq tabs (fB K s₁.heap A) b=none:=λ{b o}e n1 n2=>by cases q:jq tabs (fB K s₁.heap A) b with
  |none=>rfl|some u=>
   rcases hH b u q with⟨hb,_⟩|⟨_,q⟩
   ·rw[tabAt b hb]at e
    cases e;exact absurd rfl (n1 #[])
   ·obtain⟨_,vs,_,_,⟨e2,_⟩|⟨e2,_⟩⟩:=vy ar q
    ·rw[e2]at e
     cases e;exact absurd rfl (n2 _ _)
    ·rw[e2]at e
     cases e;exact absurd rfl (n2 _ _)
 have code:∀q∈tabs,jq tabs (fB K s₁.heap A) q.1=none:=λq hq=>by obtain⟨o,vs,file,tf,flags,tg,yP,text,tt,e1,e2,e3,_⟩:=(hT q hq).1;cases z:jq tabs (fB K s₁.heap A) q.1 with
  |none=>rfl|some u=>
   rcases hH _ u z with⟨hb,_⟩|⟨_,z⟩
   ·rw[tabAt _ hb]at e1
    cases e1;cases e2
   ·obtain⟨_,ws,_,_,⟨e,_⟩|⟨e,_⟩⟩:=vy ar z
    ·rw[e]at e1
     cases e1;cases e3
    ·rw[e]at e1
     cases e1;cases e3
 have Cn:∀q∈tabs,jq tabs (fB K s₁.heap A) q.2=some (.c_ #[]):=λq hq=>by unfold jq;rw[aj (aB.mpr ⟨q,hq,rfl⟩)]
 have only:∀b u,jq tabs (fB K s₁.heap A) b=some u->(∃o v,u=.aQ o v)∨(b∈tabs.map (·.2)/\u=.c_ #[]):=λb u q=>by
  rcases hH b u q with h|⟨_,q⟩
  ·exact .inr h
  ·rcases ac8 ar b with z|⟨o,v,z⟩
   ·rw[z]at q
    cases q
   ·rw[z]at q
    exact .inl ⟨o,v,(cM.inj q).symm⟩
 generalize jq tabs (fB K s₁.heap A)=H at sS hok hK free code Cn only;have Co:∀{b:af}{o:bx},s₁.heap.get? b=some o->H b=none->(mr s₁.heap H).get? b=some o:=λe n=>aaP e n
 have Cp:∀{b:af}{m:ai->Option ag},s₁.heap.Ns b m->(mr s₁.heap H).Ns b m:=λ{b m}⟨o,es,ep,e,d,r⟩=>⟨o,es,ep,Co e (free e (λvs z=>by rw[d]at z;cases z) λvs n z=>by rw[d]at z;cases z),d,r⟩
 have qU:K.In (mr s₁.heap H):=λb o e=>Co (KX b o e) (by cases q:H b with
  |none=>rfl|some u=>rw[hK b u q]at e;cases e)
 have hM:Mod K mg (mr s₁.heap H):=⟨qU,Cp yO,⟨mb,Cp hb,hbb⟩,let⟨mc,h1,h2⟩:=adO;⟨mc,Cp h1,h2⟩⟩;have hB:lK mg (mr s₁.heap H):=by obtain⟨bm,o,b1,b2,b3,b4,b5,b6,b7⟩:=hbm;exact⟨bm,o,b1,b2,b3,Co b4 (free b4 (λvs z=>by rw[b7]at z;cases z) λvs n z=>by rw[b7]at z;cases z),b5,b6,b7⟩
 have hC:∀q∈tabs,jD (mr s₁.heap H) q.1 q.2:=λq hq=>by obtain⟨o,vs,file,tf,flags,tg,yP,text,tt,e1,r⟩:=(hT q hq).1;exact⟨o,vs,file,tf,flags,tg,yP,text,tt,Co e1 (code q hq),r⟩
 have e0:kq P w K mg (mr s₁.heap H) callerA [] s₁ H:=⟨rfl,hM,λb o e=>aaQ e,uN (aaO _ _),trivial,λb hb=>absurd (show b∈([]:List af)from hb) (by simp),hok,.of_eq hg⟩;have hl:vals.length=ps.length:=by rw[B7 jr];exact hlen
 refine sA ((F _ qU (Cp yO) hB hC).run callerA [] s₁ H ⟨vals,[]⟩ vals (vals.map toV) _ _ hr e0 (adP s₁ vals hl) hV (ly H _ Cn sS)) λr s' x=>?_;cases r with
 |error e=>exact(Ip H e s' x).elim|ok fl=>cases fl with
  |next=>exact False.elim x|brk=>exact False.elim x|cont=>exact False.elim x|ret u=>
   obtain⟨v,H',os,bare,un,Ir,r',q⟩:=x;have kept:∀b o,b∉tabs.map (·.2)->s₁.heap.get? b=some o->s'.heap.get? b=some o:=λb o hb e=>by cases q2:H b with
    |none=>exact un.keep b o e q2 (by intro z;exact absurd (show b∈([]:List af)from z) (by simp)) (by simp)|some u2=>
     rcases only b u2 q2 with⟨ob,u3,rfl⟩|⟨z,_⟩
     ·have z2:=un.jE b ob _ q2
      obtain⟨e1,_⟩:=hok b _ q2;obtain⟨e2,_⟩:=Ir b _ z2;rw[e]at e1;cases e1;exact e2
     ·exact absurd z hb
   have grown:∀b,b∈tabs.map (·.2)->∃ps,s'.heap.get? b=some (Br ps):=λb hb=>by obtain⟨q,hq,rfl⟩:=aB.mp hb;obtain⟨more,z⟩:=un.km _ _ (Cn q hq);exact⟨_,Ir _ _ z⟩
   have KX':K.In s'.heap:=λb o e=>by refine kept b o (λhb=>?_) (KX b o e);obtain⟨q,hq,rfl⟩:=aB.mp hb;rw[hK _ _ (Cn q hq)]at e;cases e
   obtain⟨as,pC⟩:=Dw.reads (R:=R) (cl:=cl) Ir KX' d0 v u q r';refine⟨u,as,rfl,pC,⟨λb o e=>?_,λb o e=>?_⟩,os,bare⟩
   ·by_cases hb:b∈tabs.map (·.2)
    ·obtain⟨q,hq,rfl⟩:=aB.mp hb
     obtain⟨ps,hP⟩:=grown _ hb;rw[(hT q hq).2]at e;obtain rfl:=cM.inj e;exact .inr (.inl ⟨((hT q hq).1.tab (hT q hq).2).isCodeTable,rfl,#[],ps,rfl,by rw[Array.empty_append];exact hP⟩)
    ·exact .inl (kept b o hb e)
   ·by_cases hb:b∈tabs.map (·.2)
    ·obtain⟨ps,hP⟩:=grown b hb
     exact⟨_,hP⟩
    ·exact⟨o,kept b o hb e⟩
theorem adQ{k:Nat}{XP:(ai->Option ag)->bg->Prop}{YP:bI->bg->Prop}{K:qv->aG}{sp:aG->List (af×af)->Sp}(defs:List ai) (adR:r.wellSaid=true)(Iu:d.params.defaults=[])(hlen:r.args.length=ps.length)(hr:c6 k callerA)
  (hY:∀(w:bI)(h:bg),YP w h->(K w.params).In h)(Io:∀w:bI,Qn (K w.params)=true)
  (yM:∀x∈defs,∃dr,(recsOf q).find? (λe=>e.name==x)=some dr)
  (F:∀(w:bI)(mg:ai->Option ag)(fa:af)(h:bg),YP w h->(K w.params).In h->h.Ns fJ mg->mg d.name=some (.ref fa)->∃(fd:eB)(tabs:List (af×af)),(∀c P,(c,P)∈tabs->∃x∈defs,qy (K w.params) x=some (c,P))/\(∀(s:aA)(us:List ag),us.length=ps.length->xO s fd ⟨us,[]⟩ (ps.zip us))/\∀base:bg,(K w.params).In base->base.Ns fJ mg->lK mg base->(∀q∈tabs,jD base q.1 q.2)->aX r.prog w (K w.params) mg base CX k fa fd ps (sp (K w.params) tabs))
  (ly:∀(K:aG)(tabs:List (af×af))(H:Hp)(xs:List V)(a:Gp r.args),(∀q∈tabs,H q.2=some (.c_ #[]))->Codec.withinAll r.args a=true->Gq r.args r.asked a=true->jO K H xs (xW r.args a)->sp K tabs xs H (λv H'=>Dw K H' v (r.ret.enc (Gq r.args r.f a))) λ_ _ _=>False)
  (Ip:∀(H:Hp)(s:aA)(e:ag)(s':aA),CX [] H s (λ_ _ _=>False) e s'->False):
  PySem.W.WalkOS q loose XP YP r d [] (λf vs=>PySem.call f vs):=by
 intro w gC s₁ mg mb G Y fa o pm cd doc dV kV ho hd fT hD qV hg args vals as adS adT pC jr hlo;obtain⟨a,e1,e2⟩:=PySem.W.os_pre_some adS;obtain⟨e3,qT⟩:=Codec.encAll_of_decAll r.args args a e1;subst e3;have KX:=hY w _ Y;obtain⟨fd,tabs,ht,hb,hF⟩:=F w mg fa _ Y KX G.T.g qV;have hT:Qm tabs s₁.heap:=λt ht'=>by obtain⟨x,hx,e⟩:=ht t.1 t.2 ht';obtain⟨dr,yQ⟩:=yM x hx;exact PySem.W.tab_of G.T KX yQ e
 have hB:lK mg s₁.heap:=by obtain⟨bm,ob,b1,b2,b3,b4,b5,b6⟩:=G.T.bmain;refine⟨bm,ob,b1,b2,λz=>?_,b3,b4,b5,b6⟩;obtain⟨o,es,ep,e,hd,_⟩:=G.T.g;rw[z,e]at b3;cases b3;rw[hd]at b6;cases b6
 refine PySem.W.enter_call (sA (adN (R:=[]) (cl:=classAt gC.heap) (d0:=r.ret.enc (Gq r.args r.f a)) KX G.T.g G.T.b G.T.builtins G.T.nolimit hg hT (Io w) hB jr (RR _ _) (adf adT) hr hF hb (by rw[RY];exact hlen) (λH xs hO hS=>ly _ tabs H xs a hO qT e2 hS) λH e s'=>Ip H s₁ e s') λr' s' hq=>?_)
 obtain⟨u,as',rfl,h1,h2,h3,h4⟩:=hq;exact⟨.inl ⟨u,_,as',rfl,λ_=>rfl,h1,(OpenSpec.post_iff adR qT _ _).mpr rfl,λz=>j4 (show false=true from z)⟩,h2,h3,h4⟩
end L2
namespace L2
open PySem PySem.Spec PyProof.Rows
section
variable{X:Cx}
theorem Iv:∀{ns:List Int}{us:List ag},Vals (ns.map V.int) us->jA us ns|[],_,r=>by cases r;exact .nil|n::ns,_,r=>by cases r with|cons r1 r2=>obtain⟨t,rfl⟩:=(show∃t,_=sJ n t from r1);exact .cons n t (Iv r2)
theorem Su:∀{bs:List Bool}{us:List ag},Vals (bs.map V.bl) us->LSm.BoolsAre us bs|[],_,r=>by cases r;exact .nil|b::bs,_,r=>by cases r with|cons r1 r2=>obtain rfl:=(show _=Bn b from r1);exact .cons b (Su r2)
theorem adU(hc:X.calm=true):mz X (.builtin "sum") (λxs H Q=>∃(p:af)(ns:List Int),xs=[.ref p]/\aE X.K H p (ns.map V.int)/\Q (.int ns.sum) H):=by
 intro ae s σ H xs us Q I r h;obtain⟨p,ns,rfl,hq,q⟩:=h;obtain⟨u,rfl,rx⟩:=vals1 r;cases rx;obtain⟨its,r',pl,hz⟩:=I.list hq;have hi:=Iv r';obtain⟨xs,hx⟩:=hi.allInts.items;have GB:s.heap.IsList p (intItems xs):=hx▸pl.isList;refine sum_intListG (I.ok.hd hc) GB λh' tk t' hk=>?_;have e1:ns=xs.toList.map (·.1):=by rw[<-nums_intItems,<-hx];exact(show numsOf its.toArray.toList=ns from hi.numsOf).symm
 have e2:preSum (numAt xs) xs.size=ns.sum:=by rw[preSum_eq,oJ (by simp),e1]
 rw[e2];exact⟨.int ns.sum,H,I.kept (t':=tk) hk,⟨t',rfl⟩,q⟩
theorem Sv(hc:X.calm=true):mz X (.builtin "all") (λxs H Q=>∃(p:af)(bs:List Bool),xs=[.ref p]/\aE X.K H p (bs.map V.bl)/\Q (.bl (bs.all id)) H):=by
 intro ae s σ H xs us Q I r h;obtain⟨p,bs,rfl,hq,q⟩:=h;obtain⟨u,rfl,rx⟩:=vals1 r;cases rx;obtain⟨its,r',pl,hz⟩:=I.list hq;have hb:=Su r';have hl:s.heap.IsList p its.toArray:=pl.isList;have dN:p<s.heap.objs.size:=by obtain⟨_,e,_⟩:=hl;exact cB e
 refine call_all_walk (FV hl ?_)
 refine⟨s.heap.objs.size,[s.heap.objs.size,p],[s.heap.objs.size],its.toArray.size,_,_,λi=>(bs[i]?).getD true,rfl,Walks.list (A:=X.A.in1) (I.ok.hd hc) _ p (eA dN) its.toArray,⟨⟨_,eC _ rfl,rfl,rfl⟩,hl.push _⟩,λi v s' Q' E' hP hQ=>?_,λh' tk hk=>?_⟩
 ·obtain⟨b,e,rfl⟩:=hb.get i v (by simpa using hP)
  simp only[e,Option.getD_some]at hQ;exact nE hQ
 ·have e:((j8 its.toArray.size).all λi=>(bs[i]?).getD true)=bs.all id:=by rw[eX,hb.length];exact LSm.range_all bs
  rw[e];exact⟨.bl _,H,I.kept (t':=tk) (LSm.kept_iter hk),rfl,q⟩
theorem adV:mz X (.type "dict") (λxs H Q=>∃a kvs,xs=[.ref a]/\Rd H a (.dK kvs)/\∀p,H p=none->Q (.ref p) (upd H p (.dK kvs))):=by
 intro ae s σ H xs us Q I r h;obtain⟨a,kvs,rfl,hq,q⟩:=h;obtain⟨u,rfl,rx⟩:=vals1 r;cases rx;obtain⟨z,hd,vs,rel,dd⟩:=lE I.hok hq;refine kt_call_dict hd dd (by rw[<-rel.length];exact z) λh' lF sb=>⟨.ref s.heap.objs.size,_,I.laid (t':=s.toks) (a:=s.heap.objs.size) (o:=.dK kvs) (λb o e=>?_) (bM _) ⟨z,?_,vs,rel,lF⟩,rfl,q _ (I.hok.fresh (bM _))⟩
 ·exact(sb.2 b (eA (cB e))).trans (cN _ e)
 ·exact uH.mpr (Ne.symm (eA I.big))
theorem range_getD:∀(ns:List Int),(j8 ns.length).map (λi=>ns.getD i 0)=ns:=λns=>by apply List.ext_getElem (by simp);intro i h1 h2;simp[xi,h2]
theorem adW(hc:X.calm=true):mz X (.type "set") (λxs H Q=>∃(p:af)(ns:List Int),xs=[.ref p]/\aE X.K H p (ns.map V.int)/\ns.length+1<4096/\∀q S,H q=none->Q (.ref q) (upd H q (.set S (ns.foldl step_dedup []).length))):=by
 intro ae s σ H xs us Q I r h;obtain⟨p,ns,rfl,hq,hn,q⟩:=h;obtain⟨u,rfl,rx⟩:=vals1 r;cases rx;obtain⟨its,r',pl,hz⟩:=I.list hq;have hi:=Iv r';have hl:its.length=ns.length:=IntsAre.length hi;have e:firstMet (λi=>ns.getD i 0) its.toArray.size=ns.foldl step_dedup []:=by unfold firstMet;rw[eX,hl,range_getD]
 refine call_set_list (I.ok.hd hc) pl.isList hi (by rw[eX,hl];exact hn) λh' tk hS kp=>?_;rw[e]at hS;exact⟨.ref s.heap.objs.size,_,I.laid (t':=tk) (a:=s.heap.objs.size) (o:=.set _ _) (λb o e=>kp b o (cB e) e) (bM _) hS,rfl,q _ _ (I.hok.fresh (bM _))⟩
theorem adX:mz X (.builtin "len") (λxs H Q=>∃(a:af)(S:Int->Bool)(n:Nat),xs=[.ref a]/\H a=some (.set S n)/\Q (.int n) H):=by intro ae s σ H xs us Q I r h;obtain⟨a,S,n,rfl,ha,q⟩:=h;obtain⟨u,rfl,rx⟩:=vals1 r;cases rx;obtain⟨o,es,ep,t,h1,h2,h3,h4,h5,h6,h7,h8⟩:=(show s.heap.SetOf (intKind X.prog X.w) a S n from I.hok a _ ha);subst h8;exact call_len_set h1 h2 h3 h7 (by have:scanBound=4096:=rfl;lia) ⟨.int es.size,H,I.tok _,⟨_,rfl⟩,q⟩
end
def yR(f c:af)(q:ai)(params:kc)(body:a_)(scope:dZ)(clos:List (ai×af)):HO:=.ext λh=>∃pm eI,h.get? f=some (nL "<lambda>" q params body scope clos pm c eI)
theorem Sw(e:h.get? f=some (nL "<lambda>" q params body scope clos pm c eI)):d3 P w H h f (yR f c q params body scope clos):=⟨⟨pm,eI,e⟩,⟨_,e⟩,λh1 h2⟨pm,eI,x⟩k=>⟨pm,eI,k _ x⟩⟩
def adY(P:af)(q:ai)(params:kc)(body:a_)(scope:dZ)(clos:List (ai×af)):TE:=λσ H Q=>TabAt H P q/\∀(H':Hp)(f c:af),(∀b o,H b=some o->b≠P->H' b=some o)->TabAt H' P q->H f=none->H' f=some (yR f c q params body scope clos)->H' c=some (nY c q)->Q (.ref f) H'
section
variable{X:Cx}
theorem adZ(B:lK X.mg X.base)(yK:X.env.code=.ref c)(C:jD X.base c P)(hq:X.env.qual++"<lambda>"=q) (iE:Ba scope X.env=pure clos)(Ic:defaultsOf params X.env=([],[]):=by rfl):PE X (.Lambda params body scope pos) (adY P q params body scope clos):=by
 intro ae s σ H Q I h;obtain⟨⟨ps,hP,tr⟩,h⟩:=h;refine Qk Ic ?_;rw[hq];have eP:s.heap.get? P=some (Br ps):=I.hok P _ hP;have kE:s.heap.Ns fJ X.mg:=I.mod.glob.keeps I.bk;obtain⟨bm,ob,b1,b2,b3,b4,b5,b6,b7⟩:=B;have Ie:fJ≠P:=λz=>by obtain⟨o,es,ep,e,hd,_⟩:=kE;rw[z,eP]at e;cases e;cases hd
 have Ig:bm≠P:=λz=>by have e:=I.bk _ _ b4;rw[z,eP]at e;cases e;cases b5
 have yL:s.heap.BuiltinsAt X.mg P:=⟨bm,ob,b1,b2,b3,Ig,I.bk _ _ b4,b5,b6,b7⟩;cases hf:xK pos ps.toList with
 |none=>
  refine Qb (mg:=X.mg) iE I.ok.glob kE yK (C.keeps I.bk) eP tr.ok hf Ie yL λc' eI h' tk hx mJ dN yM Ih=>?_;have hk:∀b o,b≠P->s.heap.get? b=some o->(h'.push (nL "<lambda>" q params body scope clos ((X.mg "__name__").getD .none) c' eI)).get? b=some o:=λb o hb e=>cN _ (hx b o hb e);have hsz:s.heap.objs.size<=h'.objs.size:=jz (k7 mJ dN)
  have I2:=I.grow (t':=tk) (more:= #[gA pos.line,gA pos.col,.ref c']) (φ:=λh=>h.CodeRec (.ref c') q) (ψ:=λh=>∃pm eI,h.get? h'.objs.size=some (nL "<lambda>" q params body scope clos pm c' eI)) hP hk (cN _ Ih) mJ hsz (eA dN) (λH=>Si (yM.keeps λb o e=>cN _ e)) (λH=>Sw (eC _ rfl))
  have nc:H c'=none:=I.hok.fresh mJ;have nf:H h'.objs.size=none:=I.hok.fresh hsz;have yN:c'≠h'.objs.size:=eA dN;have cP:P≠c':=ba hP nc;have fP:P≠h'.objs.size:=ba hP nf;refine⟨.ref _,_,I2,rfl,h _ _ c' (λb o e hb=>?_) ⟨ps++ #[gA pos.line,gA pos.col,.ref c'],?_,?_⟩ nf ao ?_⟩
  ·rw[ak (ba e nf),ak (ba e nc),ak hb];exact e
  ·rw[ak fP,ak cP,ao]
  ·rw[N5]
   refine ip.snoc (by rw[ak yN,ao];rfl) (tr.mono λa e=>?_);rw[ak (ba e nf),ak (ba e nc),ak (cZ e hP nofun)];exact e
  ·rw[ak yN,ao];rfl|some cv=>obtain⟨c',rfl,u9⟩:=tr.among hf;refine Qa (mg:=X.mg) iE I.ok.glob kE yK (C.keeps I.bk) eP tr.ok hf yL λeI h' tk hk hsz=>?_;have nf:H h'.objs.size=none:=I.hok.fresh hsz;have I2:=I.laid (t':=tk) (a:=h'.objs.size) (o:=yR h'.objs.size c' q params body scope clos) (h':=h'.push (nL "<lambda>" q params body scope clos ((X.mg "__name__").getD .none) c' eI)) (λb o e=>cN _ (hk b o e)) hsz (Sw (eC _ rfl));have sm:aC H (upd H h'.objs.size (yR h'.objs.size c' q params body scope clos)):=aC.HS nf;exact⟨.ref _,_,I2,rfl,h _ _ c' (λb o e _=>sm b o e) ⟨ps,sm _ _ hP,tr.mono λa e=>sm _ _ e⟩ nf ao (sm _ _ u9)⟩
def Iw(P:bR)(w:bI)(K:aG)(mg:ai->Option ag)(base:bg)(N:List ai)(qual:ai)(scope:dZ)(f:af)(cd:ag)(clos:List (ai×af))(A:dF)(outer:List d9)(s:aA)(H:Hp):Cx where
 prog:=P
 w:=w
 K:=K
 mg:=mg
 base:=base
 A:=A.deeper (Bs qual scope s.heap.objs.size f cd clos)
 N:=N
 gC:=s
 mw:=H
 env:=Bs qual scope s.heap.objs.size f cd clos
 outer:=outer
 stack:=Bs qual scope s.heap.objs.size f cd clos::outer
 ex:=[]
 calm:=true
 fn:=λ_=>false
 pn:=[]
 xe:=λ_ _=>False
def Sx(x z:ai)(i:Nat)(q:ai)(params:kc)(body:a_)(scope:dZ)(c0:af)(t:TE):af->St->V->Hp->VK->Prop:=λf σ v H Q=>(∃c,H f=some (yR f c q params body scope [(z,c0)])/\H c=some (nY c q))/\∃zv,σ[i]? =some (some zv)/\t [some v,some zv] H Q
theorem ad0(Sy:scope.kind=.function)(hco:scope.isCoroutine=false)(ad1:scope.isGenerator=false)(vB:scope.names.lookup x=some .local)(hxz:x≠z) (ye:∀y∈scope.names,y.2≠.cell)(mH:∀y∈scope.names,y.2=.free->y.1=z)(hz:scope.names.lookup z=some .free)(hi:X.N[i]? =some z)(Sz:X.env.scope.names.lookup z=some .cell)(Cq:X.env.cells.lookup z=some c0)(hr:c6 (k+3) X.A)
  (hb:∀(pm eI:ag)(c:af)(u:ag),xN (Ql "<lambda>" q params body scope [(z,c0)] pm (.ref c) eI) ⟨[u],[]⟩=pure [(x,u)])
  (mF:∀(f c:af)(A:dF)(outer:List d9)(s:aA)(H:Hp),c6 k (A.deeper (Bs q scope s.heap.objs.size f (.ref c) [(z,c0)]))->PE (Iw X.prog X.w X.K X.mg X.base [x,z] q scope f (.ref c) [(z,c0)] A outer s H) body t):
  ∀f σ,mK X σ (.ref f) (Sx x z i q params body scope c0 t f σ):=by
 intro f σ ae s H v u Q I rv h;obtain⟨⟨c,hf,hc⟩,zv,hzv,h⟩:=h;obtain⟨⟨pm,eI,ef⟩,_,_⟩:=I.hok f _ hf;have ec:s.heap.CodeRec (.ref c) q:=(I.hok c _ hc).1;have e0:kq X.prog X.w X.K X.mg X.base X.A.in1.in1 X.stack s H:=I.env0.in1.in1;have jo:c6 (k+1) X.A.in1.in1:=hr.in1.in1;have lim:s.heap.NoLimit:=I.nolimit;obtain⟨m0,mO,hl0⟩:=I.loc;obtain⟨uz,ruz,lz⟩:=hl0 i z zv hi hzv (.inr (.inl Sz));have cz:s.heap.IsCell c0 (some uz):=by
  rcases lz with⟨k1,_⟩|⟨_,c1,e1,e2⟩
  ·rw[show X.env.kindOf z=some .cell from Sz]at k1;cases k1
  ·rw[Cq]at e1;cases e1;exact e2
 refine xJ (sA (R:=CR bc X.stack X.prog X.w H s Q E0) ?_ λr s' hq=>?_)
 ·refine Qc jo.depth ef rfl hco ad1 rfl ec ?_
  rw[hb pm eI c u];refine bN (wpAny_newFunctionEnv ye (λy hy=>?_) (λh1 yO hsb=>?_) Sy)
  ·obtain rfl:=cj.mp hy
   exact vB
  have pD:∀b o,s.heap.get? b=some o->h1.get? b=some o:=λb o e=>hsb.extBut b o (eA (cB e)) (cN _ e);refine⟨lim.keeps pD,Qe ?_⟩;have sX:∀b:af,b∉(Iw X.prog X.w X.K X.mg X.base [x,z] q scope f (.ref c) [(z,c0)] X.A.in1.in1 X.stack s H).ex:=λb w=>absurd (show b∈([]:List af)from w) (by simp);have Cr:∀y c1,([(z,c0)]:List (ai×af)).lookup y=some c1->y=z/\c1=c0:=λy c1 e=>by have hm:=ib e;have:=cj.mp hm;cases this;exact⟨rfl,rfl⟩
  have J:Inv (Iw X.prog X.w X.K X.mg X.base [x,z] q scope f (.ref c) [(z,c0)] X.A.in1.in1 X.stack s H) [] [some v,some zv] H {s with heap:=h1,toks:=s.toks+1}:=by
   refine⟨⟨e0.mod,Sy,rfl,rfl,bM _,λy y' c1 h1 h2=>?_,λy hy=>?_,λy c1 h _=>absurd (show false=true from h) fR,λ_=>jo.hd,Pn e0.frames,.inr ⟨rfl,rfl⟩,λb w=>absurd w (sX b),e0.bs,e0.lj,λb _ _=>sX b,λb w=>absurd w (sX b),e0.jF,e0.oZ⟩,rfl,e0.bare,Un.kept pD,⟨_,yO,λj y w h1 h2 h3=>?_⟩,λy c1 h=>?_,e0.hok.fresh (bM _),λy c1 h=>?_,λp hp=>absurd (show p∈([]:List (af×bx))from hp) (by simp),e0.hok.kept pD,rfl⟩
   ·rw[(Cr y c1 h1).1,(Cr y' c1 h2).1]
   ·have hy:scope.names.lookup y=some .cell∨scope.names.lookup y=some .free:=hy
    rcases hy with hy|hy
    ·exact absurd rfl (ye _ (ib hy))
    ·have e:=mH _ (ib hy) rfl
     subst e;exact⟨c0,by show j7 y [(y,c0)]=_;simp[j7]⟩
   ·match j,h1,h2 with
    |0,h1,h2=>have e:x=y:=cM.inj h1;have e2:v=w:=cM.inj (cM.inj h2);subst e e2;exact⟨u,rv,.inl ⟨vB,by simp[j7]⟩⟩|1,h1,h2=>have e:z=y:=cM.inj h1;have e2:zv=w:=cM.inj (cM.inj h2);subst e e2;exact⟨uz,ruz,.inr ⟨.inr hz,c0,by show j7 z [(z,c0)]=_;simp[j7],let⟨o,e1,e2⟩:=cz;⟨o,pD _ _ e1,e2⟩⟩⟩|j+2,h1,h2=>simp at h2
   ·obtain⟨rfl,rfl⟩:=Cr y c1 h
    exact⟨some uz,let⟨o,e1,e2⟩:=cz;⟨o,pD _ _ e1,e2⟩⟩
   ·obtain⟨rfl,rfl⟩:=Cr y c1 h
    exact I.jG _ _ Cq
  refine ic (mF f c X.A.in1.in1 X.stack s H (jo.deeper _) [] _ [some v,some zv] H Q J h) (λw s' hs=>?_) λe s' hs=>hs.elim;obtain⟨v',H',J',Ij,q'⟩:=hs;exact⟨v',H',J'.os,J'.bare,J'.base,J'.hok,Ij,q'⟩
 ·cases r with
  |error e=>exact hq.elim|ok fl=>cases fl with
   |ret u=>exact I.after hq|next=>exact False.elim hq|brk=>exact False.elim hq|cont=>exact False.elim hq
end
end L2
namespace PySem
open Sem (wp)
section
variable{prog:bR}{w:bI}{A:dF}{E:ag->aA->Prop}{s:aA}
theorem ad2{items}(hit:s.heap.IsTupleIter it l i) (hl:s.heap.IsTuple l items)(hx:items[i]? =some x)
  (hQ:∀h',h'.IsTupleIter it l (i+1)->uY it s.heap h'->Q x {s with heap:=h'}):
  aH (aO prog w) A (xP (.ref it)) Q E s:=by
 obtain⟨o,ho,hc,hd⟩:=id hit;obtain⟨ol,SA,_,nl,vC⟩:=hl;unfold xP
 refine aI (xE (name:=jC "__next__") hit.typeIs Pw (sx Pw hit.typeIs F.entry_tuple_iterator_next ?_ (F.args_tuple_iterator_next_1 _)))
 show aH _ _ (field (.ref it) 0>>=_) _ _ s;refine aI (nG ho hd (x:=.ref l) rfl ?_);show aH _ _ (if(dg l==mh)=true then _ else _) _ _ s;rw[ah (show¬((dg l==mh)=true)from fR)];show aH _ _ (field (.ref it) 1>>=_) _ _ s;refine aI (nG ho hd (x:=.int i 0) rfl ?_);show aH _ _ (seqItems? (.ref l)>>=_) _ _ s;refine aI (uQ SA vC ?_);simp only[xh,hx];refine aI (FY ho hd (by simp) (bN ⟨x,rfl,bN (hQ _ ?_ (Ge ..))⟩));exact⟨_,PV _ ho (PX (Bm hd _)),(PY ..).trans hc,by rw[Bm hd];simp[gA]⟩
theorem ad3{z TI TO i1 i2 l1 l2:af}{k1 k2:Nat}{xs ys:Array ag}{x y a b:ag}{Q:ag->aA->Prop}(D:uU z TI TO i1 i2 l1 l2) (hz:iT s.heap z TI TO .none)(eG:fZ s.heap TI (.ref i1) (.ref i2))(fh:fZ s.heap TO a b)
  (h1:s.heap.IsListIter i1 l1 k1)(h2:s.heap.IsTupleIter i2 l2 k2)(kF:s.heap.IsList l1 xs)(iZ:s.heap.IsTuple l2 ys)(hx:xs[k1]? =some x)(hy:ys[k2]? =some y)
  (hQ:∀h',iT h' z TI TO (gA s.heap.objs.size)->fZ h' TO x y->h'.IsListIter i1 l1 (k1+1)->h'.IsTupleIter i2 l2 (k2+1)->fZ h' s.heap.objs.size x y->h'.objs.size=s.heap.objs.size+1->(∀c o,c≠z->c≠TO->c≠i1->c≠i2->s.heap.get? c=some o->h'.get? c=some o)->Q (.ref s.heap.objs.size) {s with heap:=h'}):
  aH (aO prog w) A (sH.«zip.__next__» ⟨[.ref z],[]⟩) (λfin s'=>∃v,fin=.done (.ret v)/\Q v s') E s:=by
 show aH _ _ (field (.ref z) 2>>=_) _ _ _;refine aI (nG hz rfl (x:=.bool false) rfl ?_);show aH _ _ (field (.ref z) 3>>=_) _ _ _;refine aI (nG hz rfl (x:=.ref TI) rfl (aI (uQ eG rfl ?_)));show aH _ _ (Bc (.ref z)>>=_) _ _ _;refine aI ?_;unfold Bc;refine aI (nG hz rfl (x:=.none) rfl (bN ?_));simp only[qj];refine aI (F8 (aI (nG hz rfl (x:=.ref TO) rfl (aI (xF hz (by simp) λh₁ hz₁ hs₁=>?_)))))
 replace hz₁:iT h₁ z TI TO .ellipsis:=hz₁
 refine aI ?_;simp only[Oy,OA,Fp,AJ]
 refine aI (aI (F2 ?_));show aH _ _ (xP (.ref i1)>>=_) _ _ _;refine aI (wpAny_nextOf_list_item (h1.extBut hs₁.extBut D.i1z) (kF.extBut hs₁.extBut D.l1z) hx λh₂ h1₂ hs₂=>bN ?_);have hTO₂:fZ h₂ TO a b:=hs₂.extBut _ _ D.TOi1 (hs₁.extBut _ _ D.TOz fh);refine aI (uQ hTO₂ rfl (aI (O5 hTO₂ λh₃ hTO₃ hs₃=>?_)))
 replace hTO₃:fZ h₃ TO x b:=hTO₃
 refine aI (F6 (bN ?_))
 refine aI (aI (F2 ?_));show aH _ _ (xP (.ref i2)>>=_) _ _ _
 refine aI (ad2 (((h2.extBut hs₁.extBut D.i2z).extBut hs₂.extBut D.i12.symm).extBut hs₃.extBut D.TOi2.symm) (((iZ.extBut hs₁.extBut D.l2z).extBut hs₂.extBut D.l2i1).extBut hs₃.extBut D.l2TO) hy λh₄ h2₄ hs₄=>bN ?_)
 have hTO₄:fZ h₄ TO x b:=hs₄.extBut _ _ D.TOi2 hTO₃;refine aI (uQ hTO₄ rfl (aI (O5 hTO₄ λh₅ hTO₅ hs₅=>?_)))
 replace hTO₅:fZ h₅ TO x y:=hTO₅
 refine aI (F6 (bN (bN ?_)))
 refine aI (uQ hTO₅ rfl (aI (Pf ?_)));have hsz:h₅.objs.size=s.heap.objs.size:=by rw[hs₅.1,hs₄.1,hs₃.1,hs₂.1,hs₁.1]
 have hz₅:iT h₅ z TI TO .ellipsis:=hs₅.extBut _ _ D.TOz.symm (hs₄.extBut _ _ D.i2z.symm (hs₃.extBut _ _ D.TOz.symm (hs₂.extBut _ _ D.i1z.symm hz₁)))
 have hk₅:∀c o,c≠z->c≠TO->c≠i1->c≠i2->s.heap.get? c=some o->h₅.get? c=some o:=λc o c1 c2 c3 c4 e=>hs₅.extBut _ _ c2 (hs₄.extBut _ _ c4 (hs₃.extBut _ _ c2 (hs₂.extBut _ _ c3 (hs₁.extBut _ _ c1 e))))
 have h1₅:h₅.IsListIter i1 l1 (k1+1):=((h1₂.extBut hs₃.extBut D.TOi1.symm).extBut hs₄.extBut D.i12).extBut hs₅.extBut D.TOi1.symm;have h2₅:h₅.IsTupleIter i2 l2 (k2+1):=h2₄.extBut hs₅.extBut D.TOi2.symm;have SD:z<h₅.objs.size:=cB hz₅;have akb:TO<h₅.objs.size:=cB hTO₅;have akc:i1<h₅.objs.size:=by obtain⟨_,e,_⟩:=h1₅;exact cB e
 have akd:i2<h₅.objs.size:=by obtain⟨_,e,_⟩:=h2₅;exact cB e
 show aH _ _ (Pp (.ref z) (.ref h₅.objs.size)>>=_) _ _ _;refine aI ?_;unfold Pp;have hz₆:iT (h₅.push {cls:=.type "tuple",data:=.seq #[x,y]}) z TI TO .ellipsis:=cN _ hz₅;refine aI (xF hz₆ (by simp) λh₇ hz₇ hs₇=>?_)
 replace hz₇:iT h₇ z TI TO (gA h₅.objs.size):=hz₇
 refine xF hz₇ (by simp) λh₈ hz₈ hs₈=>?_
 replace hz₈:iT h₈ z TI TO (gA h₅.objs.size):=hz₈
 have up:∀c o,c≠z->h₅.get? c=some o->h₈.get? c=some o:=λc o c1 e=>hs₈.extBut _ _ c1 (hs₇.extBut _ _ c1 (cN _ e));have hT₈:fZ h₈ h₅.objs.size x y:=hs₈.extBut _ _ (sk SD) (hs₇.extBut _ _ (sk SD) (eC _ rfl));have SE:h₈.objs.size=h₅.objs.size+1:=by rw[hs₈.1,hs₇.1,ig]
 rw[hsz]at hz₈ hT₈ SE;refine bN ⟨_,rfl,?_⟩;show Q (.ref h₅.objs.size) _;rw[hsz];exact hQ h₈ hz₈ (up _ _ D.TOz hTO₅) (h1₅.at λo e=>up _ o D.i1z e) (h2₅.at λo e=>up _ o D.i2z e) hT₈ SE λc o c1 c2 c3 c4 e=>up c o c1 (hk₅ c o c1 c2 c3 c4 e)
theorem ad4(hh:A.handled=none)(D:uU z TI TO i1 i2 l1 l2) (hz:iT s.heap z TI TO .none)(eG:fZ s.heap TI (.ref i1) (.ref i2))(fh:fZ s.heap TO a b)
  (h1:s.heap.IsListIter i1 l1 k1)(h2:s.heap.IsTupleIter i2 l2 k2)(kF:s.heap.IsList l1 xs)(iZ:s.heap.IsTuple l2 ys)(hx:xs[k1]? =none)
  (hE:∀h' e,(∀c o,c≠z->c≠TO->c≠i1->c≠i2->s.heap.get? c=some o->h'.get? c=some o)->(∃o,h'.get? e=some o/\o.cls=.type "StopIteration")->E (.ref e) {s with heap:=h'}):
  aH (aO prog w) A (sH.«zip.__next__» ⟨[.ref z],[]⟩) Q E s:=by
 show aH _ _ (field (.ref z) 2>>=_) _ _ _;refine aI (nG hz rfl (x:=.bool false) rfl ?_);show aH _ _ (field (.ref z) 3>>=_) _ _ _;refine aI (nG hz rfl (x:=.ref TI) rfl (aI (uQ eG rfl ?_)));show aH _ _ (Bc (.ref z)>>=_) _ _ _;refine aI ?_;unfold Bc;refine aI (nG hz rfl (x:=.none) rfl (bN ?_));simp only[qj];refine aI (F8 (aI (nG hz rfl (x:=.ref TO) rfl (aI (xF hz (by simp) λh₁ hz₁ hs₁=>?_)))))
 replace hz₁:iT h₁ z TI TO .ellipsis:=hz₁
 refine aI ?_;simp only[Oy,OA,Fp,AJ];refine aI (aI (F2 ?_));show aH _ _ (xP (.ref i1)>>=_) _ _ _;refine aI (wpAny_nextOf_list_end hh (h1.extBut hs₁.extBut D.i1z) (kF.extBut hs₁.extBut D.l1z) hx λh₂ e hs₂ he=>?_);obtain⟨oe,Iy,BW⟩:=he;have hz₂:iT h₂ z TI TO .ellipsis:=hs₂ _ _ D.i1z.symm hz₁;have hez:e≠z:=λx=>by subst x;rw[hz₂]at Iy;cases Iy;simp at BW
 refine xF hz₂ (by simp) λh₃ _ hs₃=>hE h₃ e (λc o c1 _ c3 _ x=>hs₃.extBut _ _ c1 (hs₂ _ _ c3 (hs₁.extBut _ _ c1 x))) ⟨oe,hs₃.extBut _ _ hez Iy,BW⟩
theorem ad5(D:uU z TI TO i1 i2 l1 l2) (hz:iT s.heap z TI TO .none)(eG:fZ s.heap TI (.ref i1) (.ref i2))(fh:fZ s.heap TO a b)
  (h1:s.heap.IsListIter i1 l1 k1)(h2:s.heap.IsTupleIter i2 l2 k2)(kF:s.heap.IsList l1 xs)(iZ:s.heap.IsTuple l2 ys)(hx:xs[k1]? =some x)(hy:ys[k2]? =some y)
  (hQ:∀h',iT h' z TI TO (gA s.heap.objs.size)->fZ h' TO x y->h'.IsListIter i1 l1 (k1+1)->h'.IsTupleIter i2 l2 (k2+1)->fZ h' s.heap.objs.size x y->h'.objs.size=s.heap.objs.size+1->(∀c o,c≠z->c≠TO->c≠i1->c≠i2->s.heap.get? c=some o->h'.get? c=some o)->Q (some (.ref s.heap.objs.size)) {s with heap:=h'}):
  aH (aO prog w) A (mf (.ref z)) Q E s:=by
 have hT:s.TypeIs (.ref z) "zip":=⟨_,hz,rfl⟩;unfold mf
 exact aI (xH (xE (name:=jC "__next__") hT Bl (sx Bl hT PR (ad3 D hz eG fh h1 h2 kF iZ hx hy λh' a1 a2 a3 a4 a5 a6 a7=>bN (hQ h' a1 a2 a3 a4 a5 a6 a7)) (PN _))))
theorem ad6(hh:A.handled=none)(D:uU z TI TO i1 i2 l1 l2) (hz:iT s.heap z TI TO .none)(eG:fZ s.heap TI (.ref i1) (.ref i2))(fh:fZ s.heap TO a b)
  (h1:s.heap.IsListIter i1 l1 k1)(h2:s.heap.IsTupleIter i2 l2 k2)(kF:s.heap.IsList l1 xs)(iZ:s.heap.IsTuple l2 ys)(B3:xs[k1]? =none)
  (hQ:∀h',(∀c o,c≠z->c≠TO->c≠i1->c≠i2->s.heap.get? c=some o->h'.get? c=some o)->Q none {s with heap:=h'}):aH (aO prog w) A (mf (.ref z)) Q E s:=by
 have hT:s.TypeIs (.ref z) "zip":=⟨_,hz,rfl⟩;unfold mf
 refine aI (xH (xE (name:=jC "__next__") hT Bl (sx Bl hT PR (ad4 hh D hz eG fh h1 h2 kF iZ B3 λh' e hk he=>?_) (PN _))))
 obtain⟨o,ho,hc⟩:=he;exact aI (Pb (T:="StopIteration") (b:=true) ⟨o,ho,hc⟩ Pe (bN (hQ _ hk)))
end
abbrev Cs(h:bg)(l1:af):bg:=h.push {cls:=.type "list_iterator",data:=.fields #[.ref l1,.int 0 0]}
abbrev Ct(h:bg)(l1 l2:af):bg:=(Cs h l1).push {cls:=.type "tuple_iterator",data:=.fields #[.ref l2,.int 0 0]}
abbrev Cu(h:bg)(l1 l2:af):bg:=(Ct h l1 l2).push {cls:=.type "tuple",data:=.seq #[.ref h.objs.size,.ref (Cs h l1).objs.size]}
abbrev Cv(h:bg)(l1 l2:af):bg:=(Cu h l1 l2).push {cls:=.type "tuple",data:=.seq #[.none,.none]}
abbrev tD(h:bg)(l1 l2:af):bg:=(Cv h l1 l2).push {cls:=.type "zip",data:=.fields #[.none,.bool false,.bool false,.ref (Ct h l1 l2).objs.size,.ref (Cu h l1 l2).objs.size]}
theorem ad7(l1 l2:af)(xs ys:Array ag):Meets (sH.«zip.__new__» ⟨[.type "zip",.ref l1,.ref l2],[]⟩) (λ_ R s=>s.heap.IsList l1 xs/\s.heap.IsTuple l2 ys/\R (.ok (.ret (.ref (Cv s.heap l1 l2).objs.size))) {s with heap:=tD s.heap l1 l2}):=
 .of_wp λprog w A R s h=>by
  obtain⟨hp,g,d,tk,os⟩:=s;obtain⟨kF,iZ,h⟩:=h;have gh:=sub_zip;have hL1:Heap.IsList (Shared.heap ⟨hp,g,d,tk,os⟩) l1 xs:=kF;have hL2:Heap.IsTuple (Shared.heap ⟨hp.push {cls:=.type "list_iterator",data:=.fields #[.ref l1,.int 0 0]},g,d,tk,os⟩) l2 ys:=Heap.IsTuple.push iZ _
  wp_walk using FV hL1,wpAny_pyIter_tuple hL2
  exact⟨_,rfl,h⟩
section
variable{prog:bR}{w:bI}{A:dF}{E:ag->aA->Prop}{s:aA}
theorem ad8(kF:s.heap.IsList l1 xs)(iZ:s.heap.IsTuple l2 ys) (h:∀h',iT h' (s.heap.objs.size+4) (s.heap.objs.size+2) (s.heap.objs.size+3) .none->fZ h' (s.heap.objs.size+2) (.ref s.heap.objs.size) (.ref (s.heap.objs.size+1))->fZ h' (s.heap.objs.size+3) .none .none->h'.IsListIter s.heap.objs.size l1 0->h'.IsTupleIter (s.heap.objs.size+1) l2 0->h'.objs.size=s.heap.objs.size+5->
   (∀c o,s.heap.get? c=some o->h'.get? c=some o)->Q (.ref (s.heap.objs.size+4)) {s with heap:=h'}):
  aH (aO prog w) A (call (.type "zip") [.ref l1,.ref l2]) Q E s:=by
 refine callType_new F.called_zip (by decide) (F.typeCall_zip_2 _ _) (F.newCall_zip_2 _ _) (λobj=>F.args_object_init_3 obj _ _) F.entry_zip_new (ad7 l1 l2 xs ys) ⟨kF,iZ,?_⟩
 have z1:(Cs s.heap l1).objs.size=s.heap.objs.size+1:=ig ..;have z2:(Ct s.heap l1 l2).objs.size=s.heap.objs.size+2:=by rw[ig,z1]
 have z3:(Cu s.heap l1 l2).objs.size=s.heap.objs.size+3:=by rw[ig,z2]
 have z4:(Cv s.heap l1 l2).objs.size=s.heap.objs.size+4:=by rw[ig,z3]
 have z5:(tD s.heap l1 l2).objs.size=s.heap.objs.size+5:=by rw[ig,z4]
 have g5:(tD s.heap l1 l2).get? (Cv s.heap l1 l2).objs.size=some _:=eC _ rfl;have g4:(tD s.heap l1 l2).get? (Cu s.heap l1 l2).objs.size=some _:=cN _ (eC _ rfl);have g3:(tD s.heap l1 l2).get? (Ct s.heap l1 l2).objs.size=some _:=cN _ (cN _ (eC _ rfl));have g2:(tD s.heap l1 l2).get? (Cs s.heap l1).objs.size=some _:=cN _ (cN _ (cN _ (eC _ rfl)));have g1:(tD s.heap l1 l2).get? s.heap.objs.size=some _:=cN _ (cN _ (cN _ (cN _ (eC _ rfl))));show _/\_;rw[z2,z3,z4]at g5;rw[z1,z2]at g3;rw[z3]at g4;rw[z1]at g2;rw[z4]
 exact⟨⟨_,g5,rfl⟩,h _ g5 g3 g4 ⟨_,g1,rfl,rfl⟩ ⟨_,g2,rfl,rfl⟩ z5 λc o x=>cN _ (cN _ (cN _ (cN _ (cN _ x))))⟩
end
end PySem
namespace L2
open PySem PySem.Spec PyProof.Rows
def Iz(K:aG)(a b:af):It:=⟨λi H=>∃(xs ys:List V)(x y:V),aE K H a xs/\cW K H b ys/\xs[i]? =some x/\ys[i]? =some y,λi H v H'=>∃T x y,v=.ref T/\H T=none/\H'=upd H T (.tup [x,y])/\(∀xs,aE K H a xs->xs[i]? =some x)/\∀ys,cW K H b ys->ys[i]? =some y,
  λi H=>∃xs ys:List V,aE K H a xs/\cW K H b ys/\xs.length<=i⟩
theorem ad9{P:bR}{w:bI}{K:aG}{elts:List a_}{kk:Nat}{iD:dG}{a b z TI TO i1 i2:af}(D:uU z TI TO i1 i2 a b):Turn P w K (.Tuple elts kk iD) (Iz K a b) [z,TI,TO,i1,i2] z (λi h=>iT h z TI TO .none/\fZ h TI (.ref i1) (.ref i2)/\(∃x y,fZ h TO x y)/\h.IsListIter i1 a i/\h.IsTupleIter i2 b i)where
 mem:=by simp
 obj:=λi h st c hc=>by
  obtain⟨hz,eG,⟨x,y,fh⟩,⟨o1,e1,_,d1⟩,⟨o2,e2,_,d2⟩⟩:=st;have e':c=z∨c=TI∨c=TO∨c=i1∨c=i2:=by simpa using hc
  rcases e' with q|q|q|q|q
  ·rw[q];exact⟨_,hz,λv q=>nomatch q⟩
  ·rw[q];exact⟨_,eG,λv q=>nomatch q⟩
  ·rw[q];exact⟨_,fh,λv q=>nomatch q⟩
  ·rw[q];exact⟨o1,e1,λv q=>by rw[d1]at q;cases q⟩
  ·rw[q];exact⟨o2,e2,λv q=>by rw[d2]at q;cases q⟩
 keep:=λi h h' st k=>by obtain⟨hz,eG,⟨x,y,fh⟩,h1,h2⟩:=st;exact⟨k z (by simp) _ hz,k TI (by simp) _ eG,⟨x,y,k TO (by simp) _ fh⟩,h1.at λo q=>k i1 (by simp) o q,h2.at λo q=>k i2 (by simp) o q⟩
 item:=by
  intro X hP hw hK hc i ae s σ H E I hf st hg;subst hP hw hK;obtain⟨hz,eG,⟨x0,y0,fh⟩,h1,h2⟩:=st;obtain⟨xs,ys,x,y,kx,ky,hx,hy⟩:=hg;obtain⟨its,rv,p,_⟩:=I.list kx;obtain⟨iY,pk,p2,_⟩:=I.tuple ky;obtain⟨u,hu,ru⟩:=rv.get hx;obtain⟨u2,vt,HK⟩:=pk.get hy;have yH:z<s.heap.objs.size:=cB hz;refine ad5 D hz eG fh h1 h2 p.isList p2 (x:=u) (y:=u2) (by simpa using hu) (by simpa using vt) λh' z' HL HM HN hT hsz hk=>⟨_,rfl,O0 (s:={s with heap:=h'}) z' λi3 HP sb=>?_⟩
  have lG:i3.get? s.heap.objs.size=some {cls:=.type "tuple",data:=.seq #[u,u2]}:=(sb.2 _ (sk yH)).trans hT
  have new:d3 X.prog X.w (upd H s.heap.objs.size (.tup [x,y])) i3 s.heap.objs.size (.tup [x,y]):=⟨by show 2<=aS;decide,[u,u2],.cons ru (.cons HK .nil),⟨_,lG,rfl,_,rfl⟩⟩
  have I1:Inv X ae σ (upd H s.heap.objs.size (.tup [x,y])) {s with heap:=i3}:=I.B0 (t':=s.toks) (ch:=[z,TI,TO,i1,i2]) (λc o hb q=>(sb.2 c (λq'=>hb (by simp[q']))).trans (hk c o (λq'=>hb (by simp[q'])) (λq'=>hb (by simp[q'])) (λq'=>hb (by simp[q'])) (λq'=>hb (by simp[q'])) q)) hf (bM _) new
  refine⟨.ref s.heap.objs.size,_,I1,rfl,⟨_,x,y,rfl,I.hok.fresh (bM _),rfl,λl hl=>by rw[I.yg hl kx];exact hx,λl hl=>by rw[I.aa7 hl ky];exact hy⟩,⟨HP,?_,⟨u,u2,?_⟩,?_,?_⟩,λc pq=>?_⟩
  ·exact(sb.2 _ D.TIz).trans (hk _ _ D.TIz D.TITO D.TIi1 D.TIi2 eG)
  ·exact(sb.2 _ D.TOz).trans HL
  ·exact HM.at λo q=>(sb.2 _ D.i1z).trans q
  ·exact HN.at λo q=>(sb.2 _ D.i2z).trans q
  ·have dN:c<s.heap.objs.size:=by
    have e':c=z∨c=TI∨c=TO∨c=i1∨c=i2:=by simpa using pq
    rcases e' with q|q|q|q|q
    ·rw[q];exact yH
    ·rw[q];exact cB eG
    ·rw[q];exact cB fh
    ·rw[q];obtain⟨_,e1,_⟩:=h1;exact cB e1
    ·rw[q];obtain⟨_,e2,_⟩:=h2;exact cB e2
   rw[ak (eA dN)];exact(hf c pq).1
 done:=by
  intro X hP hw hK hc i ae s σ H E I hf st hg;subst hP hw hK;obtain⟨hz,eG,⟨x0,y0,fh⟩,h1,h2⟩:=st;obtain⟨xs,ys,kx,ky,B3⟩:=hg;obtain⟨its,rv,p,_⟩:=I.list kx;obtain⟨iY,pk,p2,_⟩:=I.tuple ky;have l1:=rv.length;have l2:=pk.length;have he:its.toArray[i]? =none:=by simp;lia
  exact ad6 (I.ok.hd hc) D hz eG fh h1 h2 p.isList p2 he λh' hk=>⟨rfl,I.RB (t':=s.toks) (ch:=[z,TI,TO,i1,i2]) (λc o hb q=>hk c o (λq'=>hb (by simp[q'])) (λq'=>hb (by simp[q'])) (λq'=>hb (by simp[q'])) (λq'=>hb (by simp[q'])) q) hf⟩
 self:=λA i s Q E st h=>A6 st.1 h
def aea(K:aG)(ta:TA):TI:=λσ H R=>ta σ H λvs H1=>∃a b xs ys,vs=[.ref a,.ref b]/\aE K H1 a xs/\cW K H1 b ys/\R (Iz K a b) H1
theorem aeb{X:Cx}{e e2:a_}{ta:TA}{p pos iD:dG}{elts:List a_}{kk:Nat}(hg:Gl X "zip")(hm:X.mg "zip"=none)(ha:PA X [e,e2] ta) (hs:bE [e,e2] X.env=(false,eval e X.env)::bE [e2] X.env:=by rfl)(dk:(backTo pos (bE [e2] X.env)).any (·.1)=false:=by rfl):
  PI X (.Tuple elts kk iD) (.Call (.Name "zip" p) [e,e2] [] pos) (aea X.K ta):=by
 intro ae s σ H R I h
 refine A2 (qF I hg hm RM (xC (aU (ha pos ae s σ H _ I h) λus s1⟨vs,H1,I1,r1,q1⟩=>?_) hs dk))
 obtain⟨a,b,xs,ys,ex,kx,ky,q⟩:=q1
 subst ex
 cases r1 with|cons r rr=>cases rr with|cons r' rr=>
   cases rr
   cases r
   cases r'
   obtain⟨its,rv,p1,_⟩:=I1.list kx
   obtain⟨iY,pk,p2,_⟩:=I1.tuple ky
   have la:a<s1.heap.objs.size:=p1.lt
   have lb:b<s1.heap.objs.size:=p2.lt
   refine ad8 p1.isList p2 λh' hz eG fh h1 h2 hsz hk=>A6 hz ?_
   have I2:Inv X ae σ H1 {s1 with heap:=h'}:=I1.kept (t':=s1.toks) hk
   refine⟨s1.heap.objs.size+4,[s1.heap.objs.size+4,s1.heap.objs.size+2,s1.heap.objs.size+3,s1.heap.objs.size,s1.heap.objs.size+1],_,_,H1,rfl,I2,ad9 (Qh s1.heap.objs.size a b la lb),⟨hz,eG,⟨_,_,fh⟩,h1,h2⟩,λc pq=>?_,q⟩
   have e':c=s1.heap.objs.size+4∨c=s1.heap.objs.size+2∨c=s1.heap.objs.size+3∨c=s1.heap.objs.size∨c=s1.heap.objs.size+1:=by simpa using pq
   have hle:s1.heap.objs.size<=c:=by
    rcases e' with z|z|z|z|z
    ·rw[z];exact oO _ _
    ·rw[z];exact oO _ _
    ·rw[z];exact oO _ _
    ·rw[z];exact bM _
    ·rw[z];exact oO _ _
   exact I1.vc hle (I1.hok.fresh hle)
def GD(P:bR)(w:bI)(K:aG)(a:af)(kvs:List (Key×V)):Prop:=(a==iB)=false/\∃o vs,K.lookup a=some o/\o.IsDictOf (ff P w) vs/\KV kvs vs
abbrev IA(X:Cx)(a:af)(kvs:List (Key×V)):Prop:=GD X.prog X.w X.K a kvs
def aec(X:Cx)(td ty:TE):TE:=λσ H Q=>td σ H λx H1=>ty σ H1 λy H2=>∃a kvs k v,x=.ref a/\IA X a kvs/\y=kV k/\bZ kvs k=some v/\Q v H2
def aed(X:Cx)(ty td:TE):TE:=λσ H Q=>ty σ H λy H1=>td σ H1 λx H2=>∃a kvs k,x=.ref a/\IA X a kvs/\y=kV k/\Q (.bl (bZ kvs k).isSome) H2
section
variable{X:Cx}{ae:List (af×bx)}{σ:St}{H:Hp}{s:aA}{a:af}{kvs:List (Key×V)}
theorem SF(g:IA X a kvs)(I:Inv X ae σ H s):∃vs,KV kvs vs/\s.heap.DictOf (ff X.prog X.w) a vs:=let⟨_,o,vs,h1,h2,h3⟩:=g;⟨vs,h3,Heap.dictOf_iff.mpr ⟨o,I.gX a o h1,h2⟩⟩
end
section
variable{X:Cx}{o i:a_}{pos:dG}{td ty:TE}
theorem SG(ho:PE X o td)(hi:PE X i ty)(hs:BY i):PE X (.Subscript o i pos) (aec X td ty):=by intro ae s σ H Q I h;refine Rw PySem.F.slot_dict_getitem.lookup hs (aU (ho ae s σ H _ I h) λu s1 br=>?_);obtain⟨x,H1,I1,rx,q1⟩:=br;refine aU (hi ae s1 σ H1 _ I1 q1) λiv s2 eE=>?_;obtain⟨y,H2,I2,ry,a,kvs,k,v,ex,g,ey,l,q2⟩:=eE;subst ex;subst ey;obtain rfl:u=dg a:=rx;obtain⟨vs,rel,dd⟩:=SF g I2;obtain⟨w',hw,gZ⟩:=gM.some_of (v:=v) (o:=oR vs k) (by rw[<-l];exact rel.val k);exact⟨dd.typeIs,Pa (mI ry) dd.mapOf hw ⟨v,H2,I2.tok _,gZ,q2⟩⟩
theorem SH(hi:PE X i ty)(ho:PE X o td):PC X .In i o (aed X ty td):=by intro ae s σ H Q I h;refine aU (hi ae s σ H _ I h) λiv s1 br=>?_;obtain⟨y,H1,I1,ry,q1⟩:=br;refine aU (ho ae s1 σ H1 _ I1 q1) λu s2 eE=>?_;obtain⟨x,H2,I2,rx,a,kvs,k,ex,g,ey,q2⟩:=eE;subst ex;subst ey;obtain rfl:u=dg a:=rx;obtain⟨vs,rel,dd⟩:=SF g I2;refine Pl (mI ry) g.1 dd.mapOf ?_;rw[<-(rel.val k).tm];exact⟨.bl _,H2,I2.tok _,rfl,q2⟩
end
end L2
namespace cQ
open Vbahaj
abbrev cI:=List (Nat×Nat)
def keys(a:bD):List Nat:=a.map λs=>s.1
def cnt(a:bD)(f:Nat):Nat:=(dM a f).length
def gj(rooms:cI)(ws:List bF):Prop:=∃g:Nat->Nat,(∀w,w∈ws->g w.x∈w.ways)/\∀f,(ws.filter λw=>g w.x==f).length<=cp rooms f
theorem pE(a:bD)(f:Nat):cnt a f=(a.filter λs=>s.2==f).length:=by unfold cnt dM;rw[aD]
theorem js:y∈dM a f↔(y,f)∈a:=by
 unfold dM;constructor
 ·intro h
  obtain⟨s,hs,e⟩:=aB.mp h;obtain⟨h1,h2⟩:=ck.mp hs;have e2:s.2=f:=by simpa using h2
  have:s=(y,f):=Prod.ext e e2;rw[<-this];exact h1
 ·intro h
  exact aB.mpr ⟨(y,f),ck.mpr ⟨h,by simp⟩,rfl⟩
theorem mem_keys:x∈keys a↔∃f,(x,f)∈a:=by
 unfold keys;constructor
 ·intro h
  obtain⟨s,hs,e⟩:=aB.mp h;exact⟨s.2,by rw[<-e];exact hs⟩
 ·rintro⟨f,h⟩
  exact aB.mpr ⟨_,h,rfl⟩
theorem uniq:∀{a:bD}{x f g:Nat},(keys a).Nodup->(x,f)∈a->(x,g)∈a->f=g
 |[],_,_,_,_,h,_=>by cases h|s::r,x,f,g,hn,h1,h2=>by
  have gD:=gS.mp hn;rcases b9.mp h1 with e1|h1<;>rcases b9.mp h2 with e2|h2
  ·rw[<-e1]at e2;exact(Prod.mk.inj e2).2.symm
  ·exact absurd (by rw[<-e1];exact mem_keys.mpr ⟨g,h2⟩) gD.1
  ·exact absurd (by rw[<-e2];exact mem_keys.mpr ⟨f,h1⟩) gD.1
  ·exact uniq gD.2 h1 h2
theorem kG:(p,g)∈sM x f a↔(p=x/\g=f)∨((p,g)∈a/\p≠x):=by
 unfold sM;rw[b9,ck];constructor
 ·rintro(h|⟨h1,h2⟩)
  ·exact .inl (Prod.mk.inj h)
  ·exact .inr ⟨h1,by simpa using h2⟩
 ·rintro(⟨rfl,rfl⟩|⟨h1,h2⟩)
  ·exact .inl rfl
  ·exact .inr ⟨h1,by simpa using h2⟩
theorem keys_filter:∀{a:bD},(keys a).Nodup->(keys (a.filter p)).Nodup:=by intro a h;exact List.Nodup.sublist (ia _ gd) h
theorem SI(h:(keys a).Nodup):(keys (sM x f a)).Nodup:=by unfold sM;refine gS.mpr ⟨λhx=>?_,keys_filter h⟩;obtain⟨g,hg⟩:=mem_keys.mp hx;have:=(ck.mp hg).2;simp at this
theorem IB(h:(keys a).Nodup)(f:Nat):(dM a f).Nodup:=keys_filter h
theorem n6:∀{l m:List Nat},l.Nodup->(∀x,x∈l->x∈m)->l.length<=m.length
 |[],_,_,_=>fb _|x::l,m,hn,hs=>by
  have gD:=gS.mp hn;have hx:=hs x (cK ..)
  have h2:=n6 gD.2 λy hy=>(List.mem_erase_of_ne (λ(e:y=x)=>gD.1 (e▸hy))).mpr (hs y (b8 _ hy))
  rw[List.length_erase_of_mem hx]at h2;have:=List.length_pos_of_mem hx;simp only[dJ];lia
theorem mP(ha:(keys a).Nodup)(h:∀p,(p,f)∈a->(p,f)∈b):cnt a f<=cnt b f:=n6 (IB ha f) λp hp=>js.mpr (h p (js.mp hp))
theorem IC(hb:(keys b).Nodup)(h:∀p,(p,f)∈b->(p,f)∈a/\p≠y)(hy:(y,f)∈a):cnt b f+1<=cnt a f:=by
 have h1:=gS.mpr ⟨λCw=>(h y (js.mp Cw)).2 rfl,IB hb f⟩;have h2:=n6 h1 λp hp=>by
  rcases b9.mp hp with rfl|hp
  ·exact js.mpr hy
  ·exact js.mpr (h p (js.mp hp)).1
 simpa[cnt]using h2
theorem Cy:cnt (sM x f a) g<=cnt a g+(if f=g then 1 else 0):=by
 rw[pE,pE];unfold sM;rw[bX];have h1:((a.filter λs=>s.1 !=x).filter λs=>s.2==g).length<=(a.filter λs=>s.2==g).length:=by
  rw[xo];have:(a.filter λs=>(s.2==g)&&(s.1 !=x))=(a.filter λs=>s.2==g).filter λs=>s.1 !=x:=by rw[xo];congr 1;funext s;rw[E6]
  rw[this];exact e_ _ _
 by_cases e:f=g
 ·subst e
  rw[aj (by simp),aj rfl,dJ];lia
 ·have:((x,f).2==g)=false:=by simpa using e
  rw[ah (by simpa using e),ah e];exact h1
structure Ok(rooms:cI)(wants:List bF)(a:bD):Prop where
 nd:(keys a).Nodup
 way:∀p f,(p,f)∈a->f∈cw wants p
 room:∀f,cnt a f<=cp rooms f
structure SJ(rooms:cI)(wants:List bF)(x:Nat)(seen:List Nat)(a b:bD):Prop where
 nd:(keys b).Nodup
 way:∀p f,(p,f)∈b->f∈cw wants p
 who:∀p,p∈keys b↔p=x∨p∈keys a
 kept:∀f,f∈seen->∀p,(p,f)∈b↔(p,f)∈a/\p≠x
 room:∀f,f∉seen->cnt b f<=cp rooms f
structure g7(rooms:cI)(wants:List bF)(seen:List Nat)(a:bD)(s:List Nat):Prop where
 sub:∀f,f∈seen->f∈s
 full:∀f,f∈s->f∉seen->cp rooms f<=cnt a f
 clos:∀f,f∈s->f∉seen->∀y,(y,f)∈a->∀g,g∈cw wants y->g∈s
theorem g7.refl{rooms:cI}{wants:List bF}{seen:List Nat}{a:bD}:g7 rooms wants seen a seen:=⟨λ_ h=>h,λ_ h h'=>absurd h h',λ_ h h'=>absurd h h'⟩
theorem g7.trans{rooms:cI}{wants:List bF}{seen s t:List Nat}{a:bD}(h1:g7 rooms wants seen a s)(h2:g7 rooms wants s a t):g7 rooms wants seen a t:=⟨λf h=>h2.sub f (h1.sub f h),λf h h'=>if hs:f∈s then h1.full f hs h' else h2.full f h hs,λf h h' y hy g hg=>if hs:f∈s then h2.sub g (h1.clos f hs h' y hy g hg)else h2.clos f h hs y hy g hg⟩
def jQ(rooms:cI)(seen:List Nat):Nat:=((rooms.map λr=>r.1).filter λf=> !seen.contains f).length
theorem ID:∀{l:List Nat},(∀x,x∈l->p x=true->q x=true)->(l.filter p).length<=(l.filter q).length
 |[],_=>bM _|x::l,h=>by
  have ih:=ID λy hy=>h y (b8 _ hy);have hx:=h x (cK ..);rw[bX,bX];by_cases hp:p x=true
  ·rw[aj hp,aj (hx hp)];simpa using ih
  ·rw[ah hp]
   split
   ·simp only[dJ];lia
   ·exact ih
theorem SK:∀{l:List Nat}{y:Nat},(∀x,x∈l->p x=true->q x=true)->y∈l->p y=false->q y=true->(l.filter p).length<(l.filter q).length
 |[],_,_,hy,_,_=>by cases hy|x::l,y,h,hy,hp,hq=>by
  have hx:=h x (cK ..);rcases b9.mp hy with rfl|hy
  ·have ih:=ID λz hz=>h z (b8 _ hz)
   rw[bX,bX,ah (by rw[hp];exact fR),aj hq];simp only[dJ];lia
  ·have ih:=SK (λz hz=>h z (b8 _ hz)) hy hp hq
   rw[bX,bX];by_cases hp:p x=true
   ·rw[aj hp,aj (hx hp)];simpa using ih
   ·rw[ah hp]
    split
    ·simp only[dJ];lia
    ·exact ih
theorem SM{rooms:cI}{s t:List Nat}(h:∀f,f∈s->f∈t):jQ rooms t<=jQ rooms s:=ID λx _ hx=>by simp only[N9,Ol,EZ]at hx⊢;exact λhs=>hx (h x hs)
theorem aee{rooms:cI}{f:Nat}(h:0<cp rooms f):f∈rooms.map λr=>r.1:=by unfold cp at h;cases e:rooms.find? λr=>r.1==f with|none=>rw[e]at h;simp at h|some r=>have h1:=iA e;have h2:=gU e;exact aB.mpr ⟨r,h1,by simpa using h2⟩
theorem aef{rooms:cI}{seen:List Nat}{f:Nat}(hr:0<cp rooms f)(hf:f∉seen):jQ rooms (f::seen)+1<=jQ rooms seen:=by
 refine SK (λx _ hx=>?_) (aee hr) ?_ ?_
 ·simp only[N9,Ol,EZ]at hx⊢
  exact λhs=>hx (b8 _ hs)
 ·simp
 ·simpa using hf
theorem IE:∀(l:List Nat)(z:Nat),l.foldl (·+·) z=z+l.foldl (·+·) 0|[],z=>by simp|x::l,z=>by rw[AI,AI,IE l (z+x),IE l (0+x)];lia
def total(wants:List bF):Nat:=(wants.map λw=>w.ways.length).foldl (·+·) 0
theorem IF:∀{wants:List bF}{w:bF},w∈wants->w.ways.length<=total wants
 |[],_,h=>by cases h|v::wants,w,h=>by
  unfold total;rw[cV,AI,IE];rcases b9.mp h with rfl|h
  ·lia
  ·have:=IF h
   unfold total at this;lia
theorem aeg:(cw wants y).length<=total wants:=by unfold cw;cases e:wants.find? λw=>w.x==y with|none=>simp|some w=>exact IF (iA e)
theorem Cz(h:f∈cw wants p):p∈wants.map λw=>w.x:=by unfold cw at h;cases e:wants.find? λw=>w.x==p with|none=>rw[e]at h;simp at h|some w=>exact aB.mpr ⟨w,iA e,by simpa using gU e⟩
theorem aeh{rooms:cI}{wants:List bF}{a:bD}(o:Ok rooms wants a)(f:Nat):(dM a f).length<=wants.length:=by have h:=n6 (IB o.nd f) λp hp=>Cz (o.way p f (js.mp hp));rwa[aD]at h
def lid(wants:List bF):Nat:=wants.length+(total wants+1+2)
def aei(rooms:cI)(wants:List bF)(fs:List Nat)(x:Nat)(seen:List Nat)(a:bD)(r:Option bD×List Nat):Prop:=(∀b,r.1=some b->SJ rooms wants x seen a b)/\(r.1=none->g7 rooms wants seen a r.2/\∀f,f∈fs->f∈r.2)
def SN(rooms:cI)(wants:List bF)(ys:List Nat)(f x:Nat)(seen:List Nat)(a:bD)(r:Option bD×List Nat):Prop:=(∀b,r.1=some b->∀tE:List Nat,(∀g,g∈tE->g∈seen)->f∉tE->(∀g,(x,g)∈a->g∈tE)->SJ rooms wants x tE a b)/\
 (r.1=none->g7 rooms wants seen a r.2/\∀y,y∈ys->∀g,g∈cw wants y->g∈r.2)
theorem SO(rooms:cI)(wants:List bF):∀k:Nat,(∀(fs:List Nat)(x:Nat)(seen:List Nat)(a:bD),Ok rooms wants a->(∀f,f∈fs->f∈cw wants x)->(∀g,(x,g)∈a->g∈seen)->fs.length+1+jQ rooms seen*lid wants<=k->aei rooms wants fs x seen a (seatVia rooms wants k fs x seen a))/\
  (∀(ys:List Nat)(f x:Nat)(seen:List Nat)(a:bD),Ok rooms wants a->(∀y,y∈ys->(y,f)∈a)->f∈seen->f∈cw wants x->(x,f)∉a->ys.length+1+(total wants+1)+jQ rooms seen*lid wants<=k->SN rooms wants ys f x seen a (qD rooms wants k ys f x seen a))
 |0=>⟨λfs x seen a _ _ _ h=>by lia,λys f x seen a _ _ _ _ _ h=>by lia⟩|k+1=>by
  obtain⟨IG,SQ⟩:=SO rooms wants k
  constructor
  ·intro fs x seen a ok hw hx hk
   cases fs with
   |nil=>
    rw[seatVia]
    exact⟨λb e=>(by cases e),λ_=>⟨g7.refl,λf h=>by cases h⟩⟩|cons f r=>
    have SR:∀g,g∈r->g∈cw wants x:=λg hg=>hw g (b8 _ hg)
    have yS:f∈cw wants x:=hw f (cK ..)
    rw[seatVia]
    simp only[dJ]at hk
    by_cases hs:seen.contains f=true
    ·rw[aj hs]
     have hf:f∈seen:=by simpa using hs
     obtain⟨h1,h2⟩:=IG r x seen a ok SR hx (by lia)
     exact⟨h1,λe=>⟨(h2 e).1,λg hg=>by
      rcases b9.mp hg with rfl|hg
      ·exact(h2 e).1.sub _ hf
      ·exact(h2 e).2 g hg⟩⟩
    ·rw[ah hs]
     have hf:f∉seen:=by simpa using hs
     by_cases hr:(dM a f).length<cp rooms f
     ·rw[aj hr]
      refine⟨λb e=>?_,λe=>by cases e⟩
      have e:=cM.inj e
      subst e
      refine⟨SI ok.nd,λp g h=>?_,λp=>?_,λg hg p=>?_,λg hg=>?_⟩
      ·rcases kG.mp h with⟨rfl,rfl⟩|⟨h,_⟩
       ·exact yS
       ·exact ok.way p g h
      ·rw[mem_keys,mem_keys]
       constructor
       ·rintro⟨g,hg⟩
        rcases kG.mp hg with⟨e,_⟩|⟨h,_⟩
        ·exact .inl e
        ·exact .inr ⟨g,h⟩
       ·rintro(rfl|⟨g,hg⟩)
        ·exact⟨f,kG.mpr (.inl ⟨rfl,rfl⟩)⟩
        ·by_cases e:p=x
         ·exact⟨f,kG.mpr (.inl ⟨e,rfl⟩)⟩
         ·exact⟨g,kG.mpr (.inr ⟨hg,e⟩)⟩
      ·rw[kG]
       constructor
       ·rintro(⟨_,rfl⟩|h)
        ·exact absurd hg hf
        ·exact h
       ·exact λh=>.inr h
      ·have h1:=Cy (x:=x) (f:=f) (g:=g) (a:=a)
       by_cases e:f=g
       ·subst e
        rw[aj rfl]at h1
        have:cnt a f<cp rooms f:=hr
        lia
       ·rw[ah e]at h1
        have:=ok.room g
        lia
     ·rw[ah hr]
      have tG:cp rooms f<=cnt a f:=Nat.le_of_not_lt hr
      have CB:(x,f)∉a:=λh=>hf (hx f h)
      have hM:SN rooms wants (dM a f) f x (f::seen) a (qD rooms wants k (dM a f) f x (f::seen) a):=by cases iI:dM a f with
       |nil=>
        have e:qD rooms wants k [] f x (f::seen) a=(none,f::seen):=by cases k with
         |zero=>rw[qD]|succ k=>rw[qD]
        rw[e]
        exact⟨λb e=>(by cases e),λ_=>⟨g7.refl,λy h=>by cases h⟩⟩|cons y0 r0=>
        have h0:0<cp rooms f:=by
         have h1:=ok.room f
         have h2:cnt a f=(y0::r0).length:=by unfold cnt;rw[iI]
         rw[dJ]at h2
         have:¬(y0::r0).length<cp rooms f:=by rw[<-iI];exact hr
         rw[dJ]at this
         cases hz:cp rooms f with
         |zero=>rw[hz]at h1;lia|succ n=>lia
        have ho:=aef h0 hf
        have hle:=aeh ok f
        rw[iI]at hle
        refine SQ (y0::r0) f x (f::seen) a ok (λy hy=>js.mp (by rw[iI];exact hy)) (cK ..) yS CB ?_
        have hm:(jQ rooms (f::seen)+1)*lid wants<=jQ rooms seen*lid wants:=AO _ ho
        rw[OK,Nat.one_mul]at hm
        have:lid wants=wants.length+(total wants+1+2):=rfl
        lia
      cases hq:qD rooms wants k (dM a f) f x (f::seen) a with|mk o s=>
       rw[hq]at hM
       cases o with
       |some b=>
        refine⟨λc e=>?_,λe=>by cases e⟩
        have e:=cM.inj e
        subst e
        exact hM.1 _ rfl seen (λg hg=>b8 _ hg) hf hx|none=>
        obtain⟨hL,hC⟩:=hM.2 rfl
        have gh:∀g,g∈seen->g∈s:=λg hg=>hL.sub g (b8 _ hg)
        have vD:f∈s:=hL.sub f (cK ..)
        obtain⟨h1,h2⟩:=IG r x s a ok SR (λg hg=>gh g (hx g hg)) (by
         have hm:jQ rooms s*lid wants<=jQ rooms seen*lid wants:=AO _ (SM gh)
         lia)
        have L0:g7 rooms wants seen a s:=⟨gh,λg hg hn=>by
          by_cases e:g=f
          ·subst e;exact tG
          ·exact hL.full g hg (λh=>by rcases b9.mp h with h|h;exact e h;exact hn h),
         λg hg hn y hy z hz=>by
          by_cases e:g=f
          ·subst e;exact hC y (js.mpr hy) z hz
          ·exact hL.clos g hg (λh=>by rcases b9.mp h with h|h;exact e h;exact hn h) y hy z hz⟩
        refine⟨λb e=>?_,λe=>?_⟩
        ·have W:=h1 b e
         refine⟨W.nd,W.way,W.who,λg hg p=>W.kept g (gh g hg) p,λg hg=>?_⟩
         by_cases kE:g∈s
         ·exact aZ (mP W.nd λp hp=>((W.kept g kE p).mp hp).1) (ok.room g)
         ·exact W.room g kE
        ·obtain⟨e1,e2⟩:=h2 e
         refine⟨L0.trans e1,λg hg=>?_⟩
         rcases b9.mp hg with rfl|hg
         ·exact e1.sub _ vD
         ·exact e2 g hg
  ·intro ys f x seen a ok hy hf yS CB hk
   cases ys with
   |nil=>
    rw[qD]
    exact⟨λb e=>(by cases e),λ_=>⟨g7.refl,λf h=>by cases h⟩⟩|cons y r=>
    have yT:(y,f)∈a:=hy y (cK ..)
    simp only[dJ]at hk
    rw[qD]
    have hV:=IG (cw wants y) y seen a ok (λ_ h=>h) (λg hg=>by rw[uniq ok.nd hg yT];exact hf) (by
     have:=aeg (wants:=wants) (y:=y)
     lia)
    cases hq:seatVia rooms wants k (cw wants y) y seen a with|mk o s=>
     rw[hq]at hV
     cases o with
     |some b=>
      have W:=hV.1 b rfl
      refine⟨λc e=>?_,λe=>by cases e⟩
      have e:=cM.inj e
      subst e
      intro tE gh yU hx0
      have aej:∀g,cnt b g<=cp rooms g:=λg=>by
       by_cases hg:g∈seen
       ·exact aZ (mP W.nd λp hp=>((W.kept g hg p).mp hp).1) (ok.room g)
       ·exact W.room g hg
      have Sl:y≠x:=λe=>CB (e▸yT)
      refine⟨SI W.nd,λp g h=>?_,λp=>?_,λg hg p=>?_,λg hg=>?_⟩
      ·rcases kG.mp h with⟨rfl,rfl⟩|⟨h,_⟩
       ·exact yS
       ·exact W.way p g h
      ·constructor
       ·intro h
        obtain⟨g,hg⟩:=mem_keys.mp h
        rcases kG.mp hg with⟨e,_⟩|⟨h,_⟩
        ·exact .inl e
        ·rcases(W.who p).mp (mem_keys.mpr ⟨g,h⟩)with rfl|h
         ·exact .inr (mem_keys.mpr ⟨f,yT⟩)
         ·exact .inr h
       ·intro h
        by_cases e:p=x
        ·exact mem_keys.mpr ⟨f,kG.mpr (.inl ⟨e,rfl⟩)⟩
        ·rcases h with h|h
         ·exact absurd h e
         ·obtain⟨g,hg⟩:=mem_keys.mp ((W.who p).mpr (.inr h))
          exact mem_keys.mpr ⟨g,kG.mpr (.inr ⟨hg,e⟩)⟩
      ·rw[kG,W.kept g (gh g hg) p]
       constructor
       ·rintro(⟨_,rfl⟩|⟨⟨h1,_⟩,h2⟩)
        ·exact absurd hg yU
        ·exact⟨h1,h2⟩
       ·rintro⟨h1,h2⟩
        refine .inr ⟨⟨h1,λe=>?_⟩,h2⟩
        subst e
        have:=uniq ok.nd h1 yT
        subst this
        exact yU hg
      ·have h1:=Cy (x:=x) (f:=f) (g:=g) (a:=b)
       by_cases e:f=g
       ·subst e
        rw[aj rfl]at h1
        have h2:=IC (a:=a) (b:=b) (f:=f) (y:=y) W.nd (λp hp=>(W.kept f hf p).mp hp) yT
        have:=ok.room f
        lia
       ·rw[ah e]at h1
        have:=aej g
        lia|none=>
      obtain⟨hL,hC⟩:=hV.2 rfl
      have hm:jQ rooms s*lid wants<=jQ rooms seen*lid wants:=AO _ (SM hL.sub)
      obtain⟨h1,h2⟩:=SQ r f x s a ok (λz hz=>hy z (b8 _ hz)) (hL.sub f hf) yS CB (by lia)
      refine⟨λb e tE gh=>h1 b e tE λg hg=>hL.sub g (gh g hg),λe=>?_⟩
      obtain⟨e1,e2⟩:=h2 e
      refine⟨hL.trans e1,λz hz g hg=>?_⟩
      rcases b9.mp hz with rfl|hz
      ·exact e1.sub g (hC g hg)
      ·exact e2 z hz g hg
def dd:List Nat->List Nat|[]=>[]|x::l=>if x∈l then dd l else x::dd l
theorem tH:∀{l:List Nat}{x:Nat},x∈dd l↔x∈l
 |[],_=>iQ|y::l,x=>by
  unfold dd;by_cases h:y∈l
  ·rw[aj h,tH,b9]
   exact⟨.inr,λq=>q.elim (λe=>e▸h) id⟩
  ·rw[ah h,b9,b9,tH]
theorem CC:∀l:List Nat,(dd l).Nodup
 |[]=>oN|y::l=>by
  unfold dd;by_cases h:y∈l
  ·rw[aj h];exact CC l
  ·rw[ah h];exact gS.mpr ⟨λq=>h (tH.mp q),CC l⟩
theorem split_len{α:Type}{p q r:α->Bool}:∀{l:List α},(∀x,x∈l->r x=(p x||q x))->(∀x,x∈l->¬(p x=true/\q x=true))->(l.filter r).length=(l.filter p).length+(l.filter q).length|[],_,_=>rfl|x::l,h1,h2=>by have ih:=split_len (λy hy=>h1 y (b8 _ hy)) λy hy=>h2 y (b8 _ hy);have e1:=h1 x (cK ..);have e2:=h2 x (cK ..);rw[bX,bX,bX];cases hp:p x<;>cases hq:q x<;>rw[hp,hq]at e1<;>simp only[hp,hq]at e2<;>simp[e1]<;>first|lia|simp at e2
theorem CD{α:Type}(l:List α)(h:α->Nat):∀S:List Nat,S.Nodup->(l.filter λv=>S.contains (h v)).length=(S.map λf=>(l.filter λv=>h v==f).length).sum
 |[],_=>by simp|f::S,hn=>by
  have gD:=gS.mp hn
  rw[cV,qr,<-CD l h S gD.2]
  refine split_len (λv _=>?_) λv _ hv=>?_
  ·rw[Ou]
  ·obtain⟨e1,e2⟩:=hv
   have e1:h v=f:=by simpa using e1
   have e2:h v∈S:=by simpa using e2
   exact gD.1 (e1▸e2)
theorem SS:∀{S:List Nat}{u v:Nat->Nat},(∀f,f∈S->u f<=v f)->(S.map u).sum<=(S.map v).sum|[],_,_,_=>bM _|f::S,u,v,h=>by rw[cV,cV,qr,qr];have:=SS λg hg=>h g (b8 _ hg);have:=h f (cK ..);lia
theorem gj.mono{rooms:cI}{l m:List bF}(h:gj rooms (l++m)):gj rooms l:=by obtain⟨g,h1,h2⟩:=h;refine⟨g,λw hw=>h1 w (jx _ hw),λf=>?_⟩;have:=h2 f;rw[fy,eL]at this;lia
theorem gH{rooms:cI}{wants done:List bF}{w:bF}{a:bD}{s:List Nat}(ok:Ok rooms wants a)(hk:∀p,p∈keys a↔p∈done.map λv=>v.x)(hw:∀v,v∈done++[w]->cw wants v.x=v.ways) (hn:((done++[w]).map λv=>v.x).Nodup)(L:g7 rooms wants [] a s)(hs:∀f,f∈w.ways->f∈s):¬gj rooms (done++[w]):=by
 rintro⟨g,h1,h2⟩;have hg:∀v,v∈done++[w]->g v.x∈cw wants v.x:=λv hv=>by rw[hw v hv];exact h1 v hv
 have IH:w.x∉keys a:=λh=>by rw[bS]at hn;have:=(gf.mp hn).2.2 w.x ((hk _).mp h) w.x (by simp);exact this rfl
 let Pz:List Nat:=w.x::keys (a.filter λq=>(dd s).contains q.2)
 have hP:Pz.Nodup:=gS.mpr ⟨λh=>by obtain⟨f,hf⟩:=mem_keys.mp h;exact IH (mem_keys.mpr ⟨f,(ck.mp hf).1⟩),keys_filter ok.nd⟩
 have gh:∀p,p∈Pz->p∈((done++[w]).filter λv=>(dd s).contains (g v.x)).map λv=>v.x:=λp hp=>by
  rcases b9.mp hp with rfl|hp
  ·refine aB.mpr ⟨w,ck.mpr ⟨by simp,?_⟩,rfl⟩
   have:g w.x∈s:=hs _ (h1 w (by simp));simpa[tH]using this
  ·obtain⟨f,hf⟩:=mem_keys.mp hp
   obtain⟨lL,tI⟩:=ck.mp hf;have vD:f∈s:=by simpa[tH]using tI
   obtain⟨v,hv,e⟩:=aB.mp ((hk p).mp (mem_keys.mpr ⟨f,lL⟩));have e:v.x=p:=e;have qM:v∈done++[w]:=jx _ hv;refine aB.mpr ⟨v,ck.mpr ⟨qM,?_⟩,e⟩;have:g v.x∈s:=L.clos f vD (by simp) p lL _ (by rw[<-e];exact hg v qM);simpa[tH]using this
 have c1:=n6 hP gh;rw[aD,CD _ (λv:bF=>g v.x) (dd s) (CC s)]at c1;have c2:=SS λf hf=>by refine aZ (h2 f) ?_;have:=L.full f (tH.mp hf) (by simp);rwa[pE]at this
 rw[<-CD a (λq:Nat×Nat=>q.2) (dd s) (CC s)]at c2;have c3:Pz.length=(a.filter λq=>(dd s).contains q.2).length+1:=by rw[dJ];unfold keys;rw[aD]
 lia
theorem i6:∀{wants:List bF}{w:bF},(wants.map λv=>v.x).Nodup->w∈wants->cw wants w.x=w.ways
 |[],_,_,h=>by cases h|v::wants,w,hn,h=>by
  have gD:=gS.mp hn;unfold cw;rw[oM];rcases b9.mp h with rfl|h
  ·simp
  ·have e:¬v.x=w.x:=λe=>gD.1 (aB.mpr ⟨w,h,e.symm⟩)
   have e:(v.x==w.x)=false:=by simpa using e
   rw[e];exact i6 gD.2 h
theorem CG{rooms:cI}{wants:List bF}{a:bD}(hn:(wants.map λv=>v.x).Nodup)(ok:Ok rooms wants a)(hk:∀p,p∈keys a↔p∈wants.map λv=>v.x):gj rooms wants:=by
 refine⟨λp=>((a.find? λq=>q.1==p).map λq=>q.2).getD 0,λw hw=>?_,λf=>?_⟩
 ·obtain⟨f,hf⟩:=mem_keys.mp ((hk w.x).mpr (aB.mpr ⟨w,hw,rfl⟩))
  cases e:a.find? λq=>q.1==w.x with
  |none=>exact absurd (iR.mp e _ hf) (by simp)|some q=>
   have h1:=iA e;have h2:q.1=w.x:=by simpa using gU e
   rw[<-i6 hn hw];show((a.find? λq=>q.1==w.x).map λq=>q.2).getD 0∈cw wants w.x;rw[e];refine ok.way w.x q.2 ?_;rw[<-h2];exact h1
 ·refine aZ ?_ (ok.room f)
  have h1:((wants.filter λw=>((a.find? λq=>q.1==w.x).map λq=>q.2).getD 0==f).map λw=>w.x).Nodup:=List.Nodup.sublist (ia _ gd) hn;have h2:=n6 h1 (m:=dM a f) λp hp=>by obtain⟨w,hw,rfl⟩:=aB.mp hp;obtain⟨yV,lM⟩:=ck.mp hw;obtain⟨f',hf'⟩:=mem_keys.mp ((hk w.x).mpr (aB.mpr ⟨w,yV,rfl⟩));cases e:a.find? λq=>q.1==w.x with
   |none=>exact absurd (iR.mp e _ hf') (by simp)|some q=>
    rw[e]at lM;have h1:=iA e;have h2:q.1=w.x:=by simpa using gU e
    have h3:q.2=f:=by simpa using lM
    refine js.mpr ?_;rw[<-h2,<-h3];exact h1
  rwa[aD]at h2
theorem SU{rooms:cI}{wants:List bF}(hn:(wants.map λv=>v.x).Nodup):∀(r done:List bF)(a:bD),wants=done++r->Ok rooms wants a->(∀p,p∈keys a↔p∈done.map λv=>v.x)->((seatAll rooms wants r a).isSome=true↔gj rooms wants)
 |[],done,a,e,ok,hk=>by rw[seatAll];rw[je]at e;subst e;exact⟨λ_=>CG hn ok hk,λ_=>rfl⟩|w::r,done,a,e,ok,hk=>by
  rw[seatAll];have hw:w∈wants:=by rw[e];simp
  have e':wants=(done++[w])++r:=by rw[e];simp
  have sV:((done++[w]).map λv=>v.x).Nodup:=by rw[e',bS]at hn;exact(gf.mp hn).1
  have IH:=λh=>by rw[bS]at sV;have:=(gf.mp sV).2.2 w.x ((hk _).mp h) w.x (by simp);exact this rfl
  have hV:=(SO rooms wants (stepsFor rooms wants)).1 w.ways w.x [] a ok (λf hf=>by rw[i6 hn hw];exact hf) (λg hg=>absurd (mem_keys.mpr ⟨g,hg⟩) IH) (by have h1:=IF hw;have h2:jQ rooms []<=rooms.length:=aZ (e_ _ _) (by rw[aD];exact bM _);have h3:stepsFor rooms wants=(rooms.length+2)*lid wants:=rfl;have h4:jQ rooms []*lid wants<=rooms.length*lid wants:=AO _ h2;rw[h3,OK];have:lid wants=wants.length+(total wants+1+2):=rfl;lia)
  cases hq:(seatVia rooms wants (stepsFor rooms wants) w.ways w.x [] a).1 with
  |some b=>have W:=hV.1 b hq;refine SU hn r (done++[w]) b e' ⟨W.nd,W.way,λf=>W.room f (by simp)⟩ λp=>?_;rw[W.who,bS,cu,<-hk];simp[or_comm]|none=>obtain⟨hL,hC⟩:=hV.2 hq;have iq:=gH ok hk (λv hv=>i6 hn (by rw[e'];exact jx _ hv)) sV hL hC;refine⟨λh=>(by cases h),λh=>absurd (by rw[e']at h;exact h.mono) iq⟩
theorem CI{rooms:cI}{wants:List bF}(hn:(wants.map λv=>v.x).Nodup):fits rooms wants=true↔gj rooms wants:=by unfold fits;refine SU hn wants [] [] rfl ⟨oN,λ_ _ h=>(by cases h),λf=>fb _⟩ λp=>?_;simp[keys]
end cQ
namespace L2
open PySem PySem.Spec PyProof.Rows
section
variable{X:Cx}{x m:ai}{p pos apos:dG}{e o:a_}{es:List a_}{ta:TE}{t:TA}{k:Nat}{ps:List ai}{sp:Sp}{C:af}
theorem cn(h:∃t,X.mg x=some (.int i t))(hg:Gl X x:=by rfl)(hd:(x==("__debug__":ai))=false:=by decide):PE X (.Name x pos) (tC (.int i)):=let⟨t,e⟩:=h
 Qw hg e ⟨t,rfl⟩ hd
theorem mQ(h:X.mg x=some (.ref a))(hg:Gl X x:=by rfl)(hd:(x==("__debug__":ai))=false:=by decide):PE X (.Name x pos) (tC (.ref a)):=Qw hg h rfl hd
end
section
variable{X:Cx}{K:aG}{e a b:a_}{f:ai}{pos:dG}{ta tb:TE}
theorem aek(he:PE X e ta)(hb:me e f X.env (eval e X.env)=eval e X.env)(hK:X.K=K:=by rfl):PE X (.Attribute e f pos) (o6 K ta f):=by subst hK;exact abC he hb
theorem ael(hK:X.K=K):yr X (G_ K):=by subst hK;exact abX
theorem aem(hK:X.K=K):yr X (Ha K):=by subst hK;exact abY
theorem aen(hK:X.K=K):mz X (.builtin "len") (λxs H Q=>∃p ys,xs=[.ref p]/\(aE K H p ys∨cW K H p ys)/\Q (.int ys.length) H):=by subst hK;exact ab2
theorem aeo(hu:X.A.units<f7)(hK:X.K=K):fW X (gz .GtE) (Sq K):=by subst hK;exact adI hu
theorem aep(hc:X.calm=true)(h:yh X es t)(hK:X.K=K) (hn:(ka es X.env).length=n:=by rfl)(eQ:(ka es X.env).findIdx? (·.1)=none:=by rfl):PG X (.Tuple es k pos) (GJ K n t):=by subst hK;exact abi hc h hn eQ
end
def aeq(t:TE):TE:=λσ H Q=>t σ H λx H1=>∃d u,H1 d=some u/\nO (some u)/\∀od,Q x (upd H1 d (.aQ od u))
theorem aer(h:PE X e t):PE X e (aeq t):=by intro ae s σ H Q I hw;refine aU (h ae s σ _ _ I hw) λv s1 br=>?_;obtain⟨x,H1,I1,rx,d,u,hd,mu,q⟩:=br;obtain⟨od,I2⟩:=I1.lock hd mu;exact⟨x,_,I2,rx,q od⟩
structure Glob(P:bR)(w:bI)(K:aG)(mg:ai->Option ag)(base:bg)(x:ai)(k:Nat)(ps:List ai)(sp:Sp):Prop where ex:∃f fd,aX P w K mg base bc k f fd ps sp/\mg x=some (.ref f)/\jf K (.ref f)=true/\Binds K fd ps []
structure dm(P:bR)(w:bI)(K:aG)(mg:ai->Option ag)(base:bg)(C:af)(m:ai)(k:Nat)(ps:List ai)(sp:Sp):Prop where ex:∃f fd,aX P w K mg base bc k f fd ps sp/\Meth K C m f/\Binds K fd ps []
structure pF(P:bR)(w:bI)(K:aG)(mg:ai->Option ag)(base:bg)(C:af)(x:ai)(k:Nat)(ps:List ai)(sp:Sp):Prop where ex:∃f fd,aX P w K mg base bc k f fd ps sp/\Mk K C f/\mg x=some (.ref C)/\Binds K fd ps []
section
variable{X:Cx}{x m:ai}{p pos apos:dG}{e o:a_}{es:List a_}{ta:TE}{t:TA}{k n:Nat}{ps:List ai}{sp:Sp}{C:af}
theorem bK(G:Glob X.prog X.w X.K X.mg X.base x k ps sp)(hr:c6 n X.A)(ha:PA X (e::es) t)(lC:k<=n:=by decide)(hg:Gl X x:=by rfl)(jl:(x==("__debug__":ai))=false:=by decide)(he:bE (e::es) X.env=(false,eval e X.env)::bE es X.env:=by rfl) (dk:(backTo pos (bE es X.env)).any (·.1)=false:=by rfl):PE X (.Call (.Name x p) (e::es) [] pos) (QT sp [] E0 t):=
 let⟨f,fd,F,hm,hk,hb⟩:=G.ex
 abI F (hr.mono lC) hg hm hk hb .nil tw ha jl he dk
theorem mR(he:PE X o ta)(c:gN X.K C)(G:dm X.prog X.w X.K X.mg X.base C m k ps sp)(hr:c6 n X.A)(ha:PA X (e::es) t)(lC:k<=n:=by decide)
  (eQ:bE (e::es) X.env=(false,eval e X.env)::bE es X.env:=by rfl)(dk:(backTo pos (bE es X.env)).any (·.1)=false:=by rfl)
  (ht:eval (.Call (.Attribute o m apos) (e::es) [] pos) X.env=(do
   let ov<-eval o X.env
   sF apos.atName
   let(f,first)<-holding [ov] (sE ov m pl)
   nI pos f first (backTo pos (bE (e :: es) X.env)) (backToKw pos (j_ [] X.env))) := by rfl) :
  PE X (.Call (.Attribute o m apos) (e::es) [] pos) (BN C m sp [] E0 ta t):=
 let⟨f,fd,F,hm,hb⟩:=G.ex
 abJ (pl:=pl) he c hm F (hr.mono lC) hb .nil tw ha eQ dk ht
theorem fk(he:PE X o ta)(c:gN X.K C)(G:dm X.prog X.w X.K X.mg X.base C m k ps sp)(hr:c6 n X.A)(lC:k<=n:=by decide)
  (ht:eval (.Call (.Attribute o m apos) [] [] pos) X.env=(do
   let ov<-eval o X.env
   sF apos.atName
   let(f,first)<-holding [ov] (sE ov m pl)
   nI pos f first (backTo pos (bE [] X.env)) (backToKw pos (j_ [] X.env))) := by rfl) :
  PE X (.Call (.Attribute o m apos) [] [] pos) (BN C m sp [] E0 ta lu):=
 let⟨f,fd,F,hm,hb⟩:=G.ex
 abK (pl:=pl) he c hm F (hr.mono lC) hb .nil tw ht
theorem vE(G:pF X.prog X.w X.K X.mg X.base C x k ps sp)(hr:c6 n X.A)(ha:PA X (e::es) t)(lC:k+1<=n:=by decide)(hg:Gl X x:=by rfl)(jl:(x==("__debug__":ai))=false:=by decide)(he:bE (e::es) X.env=(false,eval e X.env)::bE es X.env:=by rfl) (dk:(backTo pos (bE es X.env)).any (·.1)=false:=by rfl):PE X (.Call (.Name x p) (e::es) [] pos) (BO C sp [] E0 t):=
 let⟨f,fd,F,M,hm,hb⟩:=G.ex
 abL M F (hr.mono lC) hg hm hb .nil tw ha jl he dk
theorem aes(G:pF X.prog X.w X.K X.mg X.base C x k ps sp)(hr:c6 n X.A)(lC:k+1<=n:=by decide)(hg:Gl X x:=by rfl)(jl:(x==("__debug__":ai))=false:=by decide):PE X (.Call (.Name x p) [] [] pos) (BO C sp [] E0 lu):=let⟨f,fd,F,M,hm,hb⟩:=G.ex
 abM M F (hr.mono lC) hg hm hb .nil tw jl
end
inductive BodyOk(P:bR)(w:bI)(K:aG)(mg:ai->Option ag)(base:bg)(N:List ai)(qual:ai)(st:aV)(f:af)(dc:ag)(A:dF)(outer:List d9)(s:aA)(E:XK)(vs:List V)(H:Hp)(Q:VK):Prop|mk t (z:iX (nU bc P w K mg base N qual (bb st) f dc A outer s H E).my (iG st) t) (z:t {nx:=λ_ H'=>Q .non H',rt:=Q} (start N vs) H)
theorem bh.bH{P:bR}{w:bI}{K:aG}{mg:ai->Option ag}{base:bg}{x qual:ai}{st:aV}{f:af}{fd:eB}{N ps:List ai}{k:Nat}{sp:Sp}(F:bh K x qual st f fd)(S:bu N ps (bb st)) (mF:∀{dc:ag}{A:dF}{outer:List d9}{s:aA}(H:Hp)(vs:List V)(Q:VK)(E:XK),c6 k (A.deeper (j9 qual (bb st) s.heap.objs.size f dc))->(A.deeper (j9 qual (bb st) s.heap.objs.size f dc)).units+1<f7->sp vs H Q E->BodyOk P w K mg base N qual st f dc A outer s E vs H Q)
  (len:∀vs H Q E,sp vs H Q E->vs.length=ps.length:=by intro vs H Q E h;repeat(first|(cases h;subst_vars;rfl)|(obtain⟨rfl,_⟩:=h;rfl)|(obtain⟨_,h⟩:=h))):aX P w K mg base bc (k+1) f fd ps sp:=
 F.ok S len λ_ _ _ _ H vs Q E hr h=>let⟨t,h1,h2⟩:=mF H vs Q E hr (by have:=hr.un;lia) h;⟨t,h1,h2⟩
section
variable{X:Cx}{x y:ai}{p pos pos' apos cO:dG}{a b c e f o:a_}{es:List a_}{ta tb tc te td ty tx:TE}{t:TA}
theorem c7(i:Nat)(hN:X.N.Nodup)(hi:X.N[i]? =some x:=by rfl)(hx:Loc X.env.scope x:=by first|exact AW rfl|exact xx rfl)(hf:X.fn x=true∨X.env.scope.names.lookup x=some .local:=by first|exact .inl rfl|exact .inr rfl|assumption):PG X (.Name x pos) (qI i):=abg hN hi hx hf
theorem bf(i:Nat)(hN:X.N.Nodup)(he:PE X e te)(hi:X.N[i]? =some x:=by rfl)(hx:Loc X.env.scope x:=by first|exact AW rfl|exact xx rfl)(hs:oQ e (some (.Name x pos')) pos.line X.env=pure false:=by rfl)(hf:X.fn x=true∨X.env.scope.names.lookup x=some .local:=by first|exact .inl rfl|exact .inr rfl|assumption):PS X (.Assign [.Name x pos'] e pos) (yi te (qI i)):=abj hN hi hx he hs hf
theorem au(K:aG)(he:PE X e ta)(hb:me e x X.env (eval e X.env)=eval e X.env:=by rfl)(hK:X.K=K:=by rfl):PE X (.Attribute e x pos) (o6 K ta x):=aek he hb hK
theorem bz(K:aG)(ha:PE X a ta)(hb:PE X b tb)(hs:G9 b:=by exact λ_ _=>rfl)(hK:X.K=K:=by rfl):PE X (.Subscript a b pos) (qJ (G_ K) ta tb):=Q9 (ael hK) ha hb hs
theorem jt(K:aG)(ha:PE X a ta)(hb:PE X b tb)(hs:G9 b:=by exact λ_ _=>rfl)(hK:X.K=K:=by rfl):PE X (.Subscript a b pos) (qJ (Ha K) ta tb):=Q9 (aem hK) ha hb hs
theorem cC(hu:X.A.units+1<f7)(ho:PE X o td)(hi:PE X e ty)(hs:BY e:=by exact λ_ _=>rfl):PE X (.Subscript o e pos) (Hw td ty):=acy hu ho hi hs
theorem SV(hu:X.A.units+1<f7)(ho:PE X o td)(he:PE X e ty)(m:M1 X o "get" apos e cO:=by exact⟨rfl,rfl,rfl,rfl⟩):PE X (.Call (.Attribute o "get" apos) [e] [] cO) (Ry td ty):=acE hu ho he m
theorem aet(hu:X.A.units+1<f7)(ho:PE X o td)(he:PE X e ty)(hf:PE X f tx)(m:M2 X o "get" apos e f cO:=by exact⟨rfl,rfl,rfl,rfl⟩):PE X (.Call (.Attribute o "get" apos) [e,f] [] cO) (Rz td ty tx):=acF hu ho he hf m
theorem CJ(ho:PE X o td)(he:PE X e ty)(m:M1 X o "pop" apos e cO:=by exact⟨rfl,rfl,rfl,rfl⟩):PE X (.Call (.Attribute o "pop" apos) [e] [] cO) (RA td ty):=acG ho he m
theorem ax(ha:PE X e te)(hs:bE [e] X.env=(false,eval e X.env)::bE [] X.env:=by rfl):PA X [e] (mD te lu):=aM ha mE hs
theorem iJ(K:aG)(hm:X.mg "len"=none)(ha:PE X e te)(hg:Gl X "len":=by rfl)(hK:X.K=K:=by rfl)(he:bE [e] X.env=(false,eval e X.env)::bE [] X.env:=by rfl)(dk:(backTo pos (bE [] X.env)).any (·.1)=false:=by rfl):PE X (.Call (.Name "len" p) [e] [] pos) (G7 (λxs H Q=>∃p ys,xs=[.ref p]/\(aE K H p ys∨cW K H p ys)/\Q (.int ys.length) H) (mD te lu)):=lA (aen hK) hg hm uR (aM ha mE he) (by decide) (by decide) he dk
theorem n8(ho:fW X (gz op) r)(ha:PE X a ta)(hb:PE X b tb)(hm:nF op b=false:=by exact QN _):PE X (.Compare a [op] [b] pos) (qJ r ta tb):=abp ho ha hb hm
theorem dS(ho:fW X (gz op) r)(ha:PE X a ta)(hb:PE X b tb)(hm:nF op b=false:=by exact QN _):PT X (.Compare a [op] [b] pos) (GV (qJ r ta tb)):=abq ho ha hb hm
theorem yW(ho:PE X o ta)(ha:PE X e te)(o7:me o "append" X.env (eval o X.env)=eval o X.env:=by rfl) (He:((backTo cO (bE [e] X.env)).all (λx=> !x.1)&&(backToKw cO (j_ [] X.env)).all (λx=>x.1.isSome)&&decide (([e]:List a_).length+([]:List nJ).length+(if([]:List nJ).isEmpty then 0 else 1)<30))=true:=by rfl)
  (o8:(apos.endLine==cO.line)=true:=by rfl)(hs:bE [e] X.env=(false,eval e X.env)::bE [] X.env:=by rfl)(hp:(backTo cO (bE [] X.env)).any (·.1)=false:=by rfl):
  PE X (.Call (.Attribute o "append" apos) [e] [] cO) (Ra X.K "list" Rf ta (mD te lu)):=yt xR PySem.F.slot_list_append PySem.F.type_list_append ab6 ho (aM ha mE hs) o7 He o8 hs hp
theorem gn{tg iter:a_}{body:List aV}{wi:TI}{g:TG}{tb:TS}(hi:PI X tg iter wi)(hg:PG X tg g)(hb:iX X body tb)(hp:F9 (aO X.prog X.w) X.A X.env X.xe:=by exact xS)(hc:X.calm=true:=by rfl) (hs:∀x,sv iter X.env x=pure x:=by intro _;rfl):PS X (.For tg iter body [] pos) (QE wi g tb):=abo hp hc hi hg hb hs
theorem c8(ha:PE X o ta)(hv:PE X e te)(hs:oQ e (some (.Attribute o x pos')) pos.line X.env=pure false:=by rfl):PS X (.Assign [.Attribute o x pos'] e pos) (QR X.K ta te x):=abD ha hv hs
theorem iK(hu:X.A.units+1<f7)(ho:PE X o td)(hi:PE X a ty)(hv:PE X e te)(hs:oQ e (some (.Subscript o a pos')) pos.line X.env=pure false:=by rfl):PS X (.Assign [.Subscript o a pos'] e pos) (Rx td ty te):=acz hu ho hi hv hs
theorem w_g2(K:aG)(h1:PG X a g1)(h2:PG X b g2)(hc:X.calm=true:=by rfl)(hK:X.K=K:=by rfl)(s2:(ka [b] X.env).map (·.2)=assign b X.env::(ka [] X.env).map (·.2):=by rfl)(s1:(ka [a,b] X.env).map (·.2)=assign a X.env::(ka [b] X.env).map (·.2):=by rfl) (hn:(ka [a,b] X.env).length=2:=by rfl)(eQ:(ka [a,b] X.env).findIdx? (·.1)=none:=by rfl):PG X (.Tuple [a,b] k pos) (GJ K 2 (GH g1 (GH g2 QC))):=aep hc (QD h1 (QD h2 abh s2) s1) hK hn eQ
theorem jR(own:List (ai×Nat))(hN:X.N.Nodup)(hi:PI X tg iter wi) (hg:∀{s:aA}{H:Hp}{C:af}{cl:List (ai×af)}{fp:List af},PG (X.blk s H scope (gV scope cl C X.env) fp) tg g)(ht:∀{s:aA}{H:Hp}{C:af}{cl:List (ai×af)}{fp:List af},sZ (X.blk s H scope (gV scope cl C X.env) fp) ifs tt)
  (he:∀{s:aA}{H:Hp}{C:af}{cl:List (ai×af)}{fp:List af},PE (X.blk s H scope (gV scope cl C X.env) fp) elt te)(hc:X.calm=true:=by rfl)(ok:sY X.N X.env.scope scope own:=by exact Rp (by rfl))(hs:∀x,sv iter X.env x=pure x:=by intro _;rfl):
  PE X (.ListComp elt [⟨tg,iter,ifs,0⟩] scope pos) (vm wi g tt te (own.map (·.2))):=acj hc hN hi ok (λ_ _ _ _ _=>hg) (λ_ _ _ _ _=>ht) (λ_ _ _ _ _=>he) hs
theorem SW(i:Nat)(own:List (ai×Nat))(hN:X.N.Nodup)(hi:PI X tg iter wi) (hg:∀{s:aA}{H:Hp}{C:af}{cl:List (ai×af)}{fp:List af},PG (X.blk s H scope (gV scope cl C X.env) fp) tg g)(ht:∀{s:aA}{H:Hp}{C:af}{cl:List (ai×af)}{fp:List af},sZ (X.blk s H scope (gV scope cl C X.env) fp) ifs tt)
  (he:∀{s:aA}{H:Hp}{C:af}{cl:List (ai×af)}{fp:List af},PE (X.blk s H scope (gV scope cl C X.env) fp) elt te)(hy:X.N[i]? =some x:=by rfl)(vn:X.env.scope.names.lookup x=some .local:=by rfl)(gF:oQ (.ListComp elt [⟨tg,iter,ifs,0⟩] scope pos) (some (.Name x p)) pos'.line X.env=pure true:=by rfl)
  (hc:X.calm=true:=by rfl)(ok:sY X.N X.env.scope scope own:=by exact Rp (by rfl))(hs:∀x,sv iter X.env x=pure x:=by intro _;rfl):
  PS X (.Assign [.Name x p] (.ListComp elt [⟨tg,iter,ifs,0⟩] scope pos) pos') (yi (vm wi g tt te (own.map (·.2))) (qI i)):=ack hc hN hy vn gF hi ok (λ_ _ _ _ _=>hg) (λ_ _ _ _ _=>ht) (λ_ _ _ _ _=>he) hs
theorem bC(h1:sc.kind=.function:=by rfl)(h2:sc.isCoroutine=false:=by rfl)(h3:sc.isGenerator=false:=by rfl)(h4:N.Nodup:=by decide +kernel)(h5:N.take P.length=P:=by rfl)(h6:∀x∈P,sc.names.lookup x=some .local∨sc.names.lookup x=some .cell:=by decide +kernel) (h7:∀y∈sc.names,y.2≠.free:=by decide +kernel):bu N P sc:=⟨h1,h2,h3,h4,h5,h6,h7⟩
end
structure Wk(J:It)(n:Nat)(C:Hp->Prop)(Y:Nat->Hp->V->Hp->Prop):Prop where
 go:∀i H,C H->i<n->J.go i H
 stop:∀H,C H->J.stop n H
 o5:∀i H x H',C H->i<n->J.o5 i H x H'->Y i H x H'
theorem fX{K:aG}{a:af}{xs:List V}:Wk (GL K a) xs.length (λH=>aE K H a xs) (λi H x H'=>H'=H/\xs[i]? =some x):=⟨λi H h hi=>⟨xs,xs[i],h,by simp[hi]⟩,λH h=>⟨xs,h,bM _⟩,λi H x H' h _ y=>⟨y.1,y.2 xs h⟩⟩
theorem II:Wk (HE d o kvs) kvs.length (λH=>H d=some (.aQ o (.dK kvs))) (λi H x H'=>H'=H/\∃k,kvs[i]? =some (k,x)):=⟨λi H h hi=>⟨h,hi⟩,λH h=>⟨h,bM _⟩,λi H x H' h _ y=>y⟩
theorem CK:Wk (HD d o kvs) kvs.length (λH=>H d=some (.aQ o (.dK kvs))) (λi H x H'=>H'=H/\∃k v,kvs[i]? =some (k,v)/\x=kV k):=⟨λi H h hi=>⟨h,hi⟩,λH h=>⟨h,bM _⟩,λi H x H' h _ y=>y⟩
theorem SX:Wk (HF d o kvs) kvs.length (λH=>H d=some (.aQ o (.dK kvs))) (λi H x H'=>∃T k v,kvs[i]? =some (k,v)/\x=.ref T/\H T=none/\H'=upd H T (.tup [kV k,v])):=⟨λi H h hi=>⟨h,hi⟩,λH h=>⟨h,bM _⟩,λi H x H' h _ y=>y⟩
theorem SY{K:aG}{a:af}{xs:List V}:Wk (HI K a) xs.length (λH=>aE K H a xs) (λi H v H'=>∃T x,v=.ref T/\H T=none/\H'=upd H T (.tup [.int (i:Nat),x])/\xs[i]? =some x):=⟨λi H h hi=>⟨xs,xs[i],h,by simp[hi]⟩,λH h=>⟨xs,h,bM _⟩,λi H v H' h _⟨T,x,e,n,e2,y⟩=>⟨T,x,e,n,e2,y xs h⟩⟩
theorem aeu{K:aG}{a b:af}{xs ys:List V}(hl:ys.length<=xs.length):Wk (HJ K a b) ys.length (λH=>aE K H a xs/\aE K H b ys) (λi H v H'=>∃T x y,v=.ref T/\H T=none/\H'=upd H T (.tup [x,y])/\xs[i]? =some x/\ys[i]? =some y):=⟨λi H h hi=>⟨xs,ys,xs[i]'(fI hi hl),ys[i],h.1,h.2,by simp[fI hi hl],by simp[hi]⟩,λH h=>⟨xs,ys,h.1,h.2,.inr (bM _)⟩,λi H v H' h _⟨T,x,y,e,n,e2,z1,z2⟩=>⟨T,x,y,e,n,e2,z1 xs h.1,z2 ys h.2⟩⟩
theorem aev{lo c:Int}{n:Nat}:Wk (Hz lo c n) n (λ_=>True) (λi H x H'=>H'=H/\x=.int (lo+(i:Nat)*c)):=⟨λi H _ hi=>hi,λH _=>bM _,λi H x H' _ _ y=>y⟩
theorem gp{J:It}{n:Nat}{C:Hp->Prop}{Y:Nat->Hp->V->Hp->Prop}(wk:Wk J n C Y){g:TG}{tb:TS}{D:Ends}{σ:St}{H:Hp}(Pv:Nat->St->Hp->Prop)(h0:Pv 0 σ H)(hc:∀i σ H,i<=n->Pv i σ H->C H) (hs:∀i x σ H H',i<n->Pv i σ H->Y i H x H'->g x σ H' λσ2 H2=>tb {D with nx:=Pv (i+1),ct:=Pv (i+1),bk:=D.nx} σ2 H2)(hd:∀σ H,Pv n σ H->D.nx σ H):
  ∃W:Nat->Nat->St->Hp->Prop,(∃m,W 0 m σ H)/\∀i m σ H,W i m σ H->(J.stop i H/\D.nx σ H)∨(J.go i H/\∃N:St->Hp->Prop,(∀σ' H',N σ' H'->∃m',m'<m/\W (i+1) m' σ' H')/\∀x H',J.o5 i H x H'->g x σ H' λσ2 H2=>tb {D with nx:=N,ct:=N,bk:=D.nx} σ2 H2):=by
 refine⟨λi m σ H=>m=n-i/\i<=n/\Pv i σ H,⟨n,by simp,fb _,h0⟩,?_⟩;rintro i m σ H ⟨rfl,hi,p⟩;by_cases dN:i<n
 ·exact .inr ⟨wk.go i H (hc i σ H hi p) dN,Pv (i+1),λσ' H' p'=>⟨n-(i+1),by lia,rfl,dN,p'⟩,λx H' y=>hs i x σ H H' dN p (wk.o5 i H x H' (hc i σ H hi p) dN y)⟩
 ·have e:i=n:=by lia
  subst e;exact .inl ⟨wk.stop H (hc _ σ H hi p),hd σ H p⟩
theorem i7{J:It}{n:Nat}{C:Hp->Prop}{Y:Nat->Hp->V->Hp->Prop}(wk:Wk J n C Y){g:TG}{tt:TT}{te:TE}{vs:List Nat}{σ:St}{H1:Hp}{D:af}{Qd:Hp->Prop}(Pv:Nat->Hp->Prop)(h0:Pv 0 (upd H1 D (.lst [])))(hc:∀i H,i<=n->Pv i H->C H) (hs:∀i x H H',i<n->Pv i H->Y i H x H'->g x (wipe σ vs) H' λσ2 H2=>wipe σ2 vs=wipe σ vs/\tt σ2 H2 λb H3=>if b=true then te σ2 H3 λy H4=>∃acc,H4 D=some (.lst acc)/\acc.length<aS/\Pv (i+1) (upd H4 D (.lst (acc++[y])))else Pv (i+1) H3)(hd:∀H,Pv n H->Qd H):
  ∃W:Nat->Nat->Hp->Prop,(∃m,W 0 m (upd H1 D (.lst [])))/\∀i m H,W i m H->(J.stop i H/\Qd H)∨(J.go i H/\∃Nx:Hp->Prop,(∀H',Nx H'->∃m',m'<m/\W (i+1) m' H')/\∀x H',J.o5 i H x H'->g x (wipe σ vs) H' λσ2 H2=>wipe σ2 vs=wipe σ vs/\tt σ2 H2 λb H3=>if b=true then te σ2 H3 λy H4=>∃acc,H4 D=some (.lst acc)/\acc.length<aS/\Nx (upd H4 D (.lst (acc++[y])))else Nx H3):=by
 refine⟨λi m H=>m=n-i/\i<=n/\Pv i H,⟨n,by simp,fb _,h0⟩,?_⟩;rintro i m H ⟨rfl,hi,p⟩;by_cases dN:i<n
 ·exact .inr ⟨wk.go i H (hc i H hi p) dN,Pv (i+1),λH' p'=>⟨n-(i+1),by lia,rfl,dN,p'⟩,λx H' y=>hs i x H H' dN p (wk.o5 i H x H' (hc i H hi p) dN y)⟩
 ·have e:i=n:=by lia
  subst e;exact .inl ⟨wk.stop H (hc _ H hi p),hd H p⟩
end L2
namespace WD
open PySem PySem.Spec PyProof.Rows L2 Vbahaj
def top(i:Nat):aV:=PySem.Challenge.pw_wrongday_s01_answers.main.body.getD i (.Pass ⟨0,0,0,0⟩)
def optN:Option Nat->V|none=>.non|some n=>.int n
def d5(f:aw)(d:af):List (ai×V):=[("number",.int f.num),("src",.int f.src),("dst",.int f.dst),("dep",.int f.dep),("arr",.int f.arr),("turn",.int f.turn),("cap",.int f.cap),("others",.int f.others),("wait",.int f.wait),("air",.int f.air),("feeds",.ref d),("cancelled",.bl f.cancelled),("left",optN f.left)]
structure Ad where
 CF:af
 CH:af
 CP:af
 CS:af
 CE:af
 P1:af
 P2:af
 P3:af
 P4:af
 aR:af
 aL:af
 aW:af
 aF:af
 aP:af
structure TxN(K:aG)(CF CH CP CS CE:af):Prop where
 S0:da K CF "number"
 S1:da K CF "src"
 S2:da K CF "dst"
 S3:da K CF "dep"
 S4:da K CF "arr"
 S5:da K CF "turn"
 S6:da K CF "cap"
 S7:da K CF "others"
 IJ:da K CF "wait"
 IK:da K CF "air"
 S8:da K CF "feeds"
 IL:da K CF "cancelled"
 IM:da K CF "left"
 IP:da K CH "now"
 S9:da K CH "flights"
 IQ:da K CH "tails"
 S_:da K CH "passengers"
 IS:da K CH "steps"
 Ta:da K CP "number"
 Tb:da K CP "rank"
 Tc:da K CP "src"
 Td:da K CP "dst"
 Te:da K CP "due"
 Tf:da K CP "ready"
 Tg:da K CP "latest"
 Th:da K CP "unwanted"
 yX:da K CP "flight"
 Ti:da K CS "leaves"
 Tj:da K CS "arrives"
 Tn:da K CS "cause"
 To:da K CE "rooms"
 Tp:da K CE "wishes"
 Tq:da K CE "given"
 Tr:da K CE "settled"
structure Txt(K:aG)(mg:ai->Option ag)(A:Ad):Prop extends TxN K A.CF A.CH A.CP A.CS A.CE where
 cF:gN K A.CF
 cH:gN K A.CH
 cP:gN K A.CP
 cS:gN K A.CS
 cE:gN K A.CE
 len:mg "len"=none
 max:mg "max"=none
 sum:mg "sum"=none
 all:mg "all"=none
 dict:mg "dict"=none
 set:mg "set"=none
 sorted:mg "sorted"=none
 enumerate:mg "enumerate"=none
 zip:mg "zip"=none
 range:mg "range"=none
 IT:∃t,mg "OUT_OF_RANGE"=some (.int (-2) t)
 kH:∃t,mg "NO_FLIGHT"=some (.int (-3) t)
 pG:∃t,mg "NO_PASSENGER"=some (.int (-4) t)
 yY:∃t,mg "THERE_ALREADY"=some (.int (-5) t)
 vF:∃t,mg "FULL"=some (.int (-6) t)
 ir:∃t,mg "NOT_AS_IT_MUST_BE"=some (.int (-7) t)
 n9:∃t,mg "DOES_NOT_FIT"=some (.int (-8) t)
 IU:∃t,mg "NO_ROOM"=some (.int (-9) t)
 IV:∃t,mg "MOST_FLIGHTS"=some (.int (24) t)
 IW:∃t,mg "MOST_FEEDS"=some (.int (8) t)
 IX:∃t,mg "MOST_PASSENGERS"=some (.int (60) t)
 IY:∃t,mg "MOST_UNWANTED"=some (.int (8) t)
 CL:mg "RANGES"=some (.ref A.aR)
 yZ:mg "ROW_LENGTHS"=some (.ref A.aL)
 IZ:mg "ROW_RANGES"=some (.ref A.aW)
 y_:mg "FLIGHT_CALLS"=some (.ref A.aF)
 I0:mg "PASSENGER_CALLS"=some (.ref A.aP)
 pn:A.P1≠A.P2/\A.P1≠A.P3/\A.P1≠A.P4/\A.P2≠A.P3/\A.P2≠A.P4/\A.P3≠A.P4
def eY(q:bj)(u:af)(fv:V):List (ai×V):=[("number",.int q.x),("rank",.int q.rank),("src",.int q.src),("dst",.int q.dst),("due",.int q.due),("ready",.int q.ready),("latest",.int q.latest),("unwanted",.ref u),("flight",fv)]
def bA(now:Nat)(df dt dp ls:af):List (ai×V):=[("now",.int now),("flights",.ref df),("tails",.ref dt),("passengers",.ref dp),("steps",.ref ls)]
def qW(l r:Nat)(c:Option Nat):List (ai×V):=[("leaves",.int l),("arrives",.int r),("cause",optN c)]
def g8(r w g s:af):List (ai×V):=[("rooms",.ref r),("wishes",.ref w),("given",.ref g),("settled",.ref s)]
def b_(A:Ad)(H:Hp)(a:af)(f:aw)(d:af):Prop:=∃dx,H a=some (.ins A.CF dx (d5 f d))
def dH(A:Ad)(H:Hp)(a:af)(q:bj)(u:af)(fv:V):Prop:=∃dx,H a=some (.ins A.CP dx (eY q u fv))
def fq(A:Ad)(H:Hp)(a:af)(now:Nat)(df dt dp ls:af):Prop:=∃dx,H a=some (.ins A.CH dx (bA now df dt dp ls))
def kI(A:Ad)(H:Hp)(a:af)(l r:Nat)(c:Option Nat):Prop:=∃dx,H a=some (.ins A.CS dx (qW l r c))
def kJ(A:Ad)(H:Hp)(a:af)(r w g s:af):Prop:=∃dx,H a=some (.ins A.CE dx (g8 r w g s))
section
variable{K:aG}{mg:ai->Option ag}{A:Ad}{H:Hp}{a:af}{Q:VK}
abbrev dU(K:aG)(H:Hp)(a:af)(x:ai)(Q:VK):Prop:=amK K x (.ref a) H Q
theorem d6(e:H a=some (.ins C dx fs))(c:gN K C)(n:da K C x)(l:fs.lookup x=some v)(q:Q v H):dU K H a x Q:=⟨a,C,dx,fs,v,rfl,e,c,n,l,q⟩
theorem b_.keep(h:b_ A H a f d)(k:∀dx,H a=some (.ins A.CF dx (d5 f d))->H' a=some (.ins A.CF dx (d5 f d))):b_ A H' a f d:=let⟨dx,e⟩:=h;⟨dx,k dx e⟩
theorem dn(T:Txt K mg A)(h:b_ A H a f d)(q0:Q (.int f.num) H):dU K H a "number" Q:=let⟨_,e⟩:=h;d6 e T.cF T.S0 rfl q0
theorem qX(T:Txt K mg A)(h:b_ A H a f d)(q0:Q (.int f.src) H):dU K H a "src" Q:=let⟨_,e⟩:=h;d6 e T.cF T.S1 rfl q0
theorem vG(T:Txt K mg A)(h:b_ A H a f d)(q0:Q (.int f.dst) H):dU K H a "dst" Q:=let⟨_,e⟩:=h;d6 e T.cF T.S2 rfl q0
theorem qY(T:Txt K mg A)(h:b_ A H a f d)(q0:Q (.int f.dep) H):dU K H a "dep" Q:=let⟨_,e⟩:=h;d6 e T.cF T.S3 rfl q0
theorem tJ(T:Txt K mg A)(h:b_ A H a f d)(q0:Q (.int f.arr) H):dU K H a "arr" Q:=let⟨_,e⟩:=h;d6 e T.cF T.S4 rfl q0
theorem Ts(T:Txt K mg A)(h:b_ A H a f d)(q0:Q (.int f.turn) H):dU K H a "turn" Q:=let⟨_,e⟩:=h;d6 e T.cF T.S5 rfl q0
theorem Tt(T:Txt K mg A)(h:b_ A H a f d)(q0:Q (.int f.cap) H):dU K H a "cap" Q:=let⟨_,e⟩:=h;d6 e T.cF T.S6 rfl q0
theorem Tu(T:Txt K mg A)(h:b_ A H a f d)(q0:Q (.int f.others) H):dU K H a "others" Q:=let⟨_,e⟩:=h;d6 e T.cF T.S7 rfl q0
theorem aew(T:Txt K mg A)(h:b_ A H a f d)(q0:Q (.int f.wait) H):dU K H a "wait" Q:=let⟨_,e⟩:=h;d6 e T.cF T.IJ rfl q0
theorem aex(T:Txt K mg A)(h:b_ A H a f d)(q0:Q (.int f.air) H):dU K H a "air" Q:=let⟨_,e⟩:=h;d6 e T.cF T.IK rfl q0
theorem vH(T:Txt K mg A)(h:b_ A H a f d)(q0:Q (.ref d) H):dU K H a "feeds" Q:=let⟨_,e⟩:=h;d6 e T.cF T.S8 rfl q0
theorem vI(T:Txt K mg A)(h:b_ A H a f d)(q0:Q (.bl f.cancelled) H):dU K H a "cancelled" Q:=let⟨_,e⟩:=h;d6 e T.cF T.IL rfl q0
theorem pH(T:Txt K mg A)(h:b_ A H a f d)(q0:Q (optN f.left) H):dU K H a "left" Q:=let⟨_,e⟩:=h;d6 e T.cF T.IM rfl q0
theorem fq.keep(h:fq A H a now df dt dp ls)(k:∀dx,H a=some (.ins A.CH dx (bA now df dt dp ls))->H' a=some (.ins A.CH dx (bA now df dt dp ls))):fq A H' a now df dt dp ls:=let⟨dx,e⟩:=h;⟨dx,k dx e⟩
theorem n_(T:Txt K mg A)(h:fq A H a now df dt dp ls)(q0:Q (.int now) H):dU K H a "now" Q:=let⟨_,e⟩:=h;d6 e T.cH T.IP rfl q0
theorem ek(T:Txt K mg A)(h:fq A H a now df dt dp ls)(q0:Q (.ref df) H):dU K H a "flights" Q:=let⟨_,e⟩:=h;d6 e T.cH T.S9 rfl q0
theorem lN(T:Txt K mg A)(h:fq A H a now df dt dp ls)(q0:Q (.ref dt) H):dU K H a "tails" Q:=let⟨_,e⟩:=h;d6 e T.cH T.IQ rfl q0
theorem gI(T:Txt K mg A)(h:fq A H a now df dt dp ls)(q0:Q (.ref dp) H):dU K H a "passengers" Q:=let⟨_,e⟩:=h;d6 e T.cH T.S_ rfl q0
theorem aey(T:Txt K mg A)(h:fq A H a now df dt dp ls)(q0:Q (.ref ls) H):dU K H a "steps" Q:=let⟨_,e⟩:=h;d6 e T.cH T.IS rfl q0
theorem dH.keep(h:dH A H a q u fv)(k:∀dx,H a=some (.ins A.CP dx (eY q u fv))->H' a=some (.ins A.CP dx (eY q u fv))):dH A H' a q u fv:=let⟨dx,e⟩:=h;⟨dx,k dx e⟩
theorem tK(T:Txt K mg A)(h:dH A H a q u fv)(q0:Q (.int q.x) H):dU K H a "number" Q:=let⟨_,e⟩:=h;d6 e T.cP T.Ta rfl q0
theorem aez(T:Txt K mg A)(h:dH A H a q u fv)(q0:Q (.int q.rank) H):dU K H a "rank" Q:=let⟨_,e⟩:=h;d6 e T.cP T.Tb rfl q0
theorem aeA(T:Txt K mg A)(h:dH A H a q u fv)(q0:Q (.int q.src) H):dU K H a "src" Q:=let⟨_,e⟩:=h;d6 e T.cP T.Tc rfl q0
theorem aeB(T:Txt K mg A)(h:dH A H a q u fv)(q0:Q (.int q.dst) H):dU K H a "dst" Q:=let⟨_,e⟩:=h;d6 e T.cP T.Td rfl q0
theorem aeC(T:Txt K mg A)(h:dH A H a q u fv)(q0:Q (.int q.due) H):dU K H a "due" Q:=let⟨_,e⟩:=h;d6 e T.cP T.Te rfl q0
theorem aeD(T:Txt K mg A)(h:dH A H a q u fv)(q0:Q (.int q.ready) H):dU K H a "ready" Q:=let⟨_,e⟩:=h;d6 e T.cP T.Tf rfl q0
theorem aeE(T:Txt K mg A)(h:dH A H a q u fv)(q0:Q (.int q.latest) H):dU K H a "latest" Q:=let⟨_,e⟩:=h;d6 e T.cP T.Tg rfl q0
theorem vJ(T:Txt K mg A)(h:dH A H a q u fv)(q0:Q (.ref u) H):dU K H a "unwanted" Q:=let⟨_,e⟩:=h;d6 e T.cP T.Th rfl q0
theorem mS(T:Txt K mg A)(h:dH A H a q u fv)(q0:Q fv H):dU K H a "flight" Q:=let⟨_,e⟩:=h;d6 e T.cP T.yX rfl q0
theorem kI.keep(h:kI A H a l r c)(k:∀dx,H a=some (.ins A.CS dx (qW l r c))->H' a=some (.ins A.CS dx (qW l r c))):kI A H' a l r c:=let⟨dx,e⟩:=h;⟨dx,k dx e⟩
theorem vK(T:Txt K mg A)(h:kI A H a l r c)(q0:Q (.int l) H):dU K H a "leaves" Q:=let⟨_,e⟩:=h;d6 e T.cS T.Ti rfl q0
theorem oa(T:Txt K mg A)(h:kI A H a l r c)(q0:Q (.int r) H):dU K H a "arrives" Q:=let⟨_,e⟩:=h;d6 e T.cS T.Tj rfl q0
theorem aeF(T:Txt K mg A)(h:kI A H a l r c)(q0:Q (optN c) H):dU K H a "cause" Q:=let⟨_,e⟩:=h;d6 e T.cS T.Tn rfl q0
theorem kJ.keep(h:kJ A H a r w g s)(k:∀dx,H a=some (.ins A.CE dx (g8 r w g s))->H' a=some (.ins A.CE dx (g8 r w g s))):kJ A H' a r w g s:=let⟨dx,e⟩:=h;⟨dx,k dx e⟩
theorem Tv(T:Txt K mg A)(h:kJ A H a r w g s)(q0:Q (.ref r) H):dU K H a "rooms" Q:=let⟨_,e⟩:=h;d6 e T.cE T.To rfl q0
theorem Tw(T:Txt K mg A)(h:kJ A H a r w g s)(q0:Q (.ref w) H):dU K H a "wishes" Q:=let⟨_,e⟩:=h;d6 e T.cE T.Tp rfl q0
theorem qZ(T:Txt K mg A)(h:kJ A H a r w g s)(q0:Q (.ref g) H):dU K H a "given" Q:=let⟨_,e⟩:=h;d6 e T.cE T.Tq rfl q0
theorem Tx(T:Txt K mg A)(h:kJ A H a r w g s)(q0:Q (.ref s) H):dU K H a "settled" Q:=let⟨_,e⟩:=h;d6 e T.cE T.Tr rfl q0
end
end WD
namespace L2
open PySem PySem.Spec PyProof.Rows
theorem bL{H:Hp}{a:af}{o:HO}(h:H a=none):aC H (upd H a o):=λb q e=>by rw[ak (ba e h)];exact e
theorem aC.bW{H H':Hp}{a:af}{o:HO}(s:aC H H')(h:H a=none):aC H (upd H' a o):=λb q e=>by rw[ak (ba e h)];exact s b q e
theorem Tz{K:aG}{H H':Hp}{a:af}{xs:List V}(h:aE K H a xs)(k:∀o,H a=some o->H' a=some o):aE K H' a xs:=by
 rcases h with(h|⟨o,h⟩)|h
 ·exact .inl (.inl (k _ h))
 ·exact .inl (.inr ⟨o,k _ h⟩)
 ·exact .inr h
theorem mT{H H':Hp}{a:af}{u:HO}(h:Rd H a u)(k:∀o,H a=some o->H' a=some o):Rd H' a u:=by
 rcases h with h|⟨o,h⟩
 ·exact .inl (k _ h)
 ·exact .inr ⟨o,k _ h⟩
theorem bq{H:Hp}{a:af}{kvs:List (Key×V)}{n:Int}{o:Option V}(e:Rd H a (.dK kvs))(h:bZ kvs (ay n)=o):jM H a (.int n) o:=.inl ⟨kvs,.inl n,e,rfl,h.symm⟩
theorem iL{H:Hp}{a:af}{kvs:List (Key×V)}{n:Int}{v:V}(e:H a=some (.dK kvs))(hl:kvs.length<aS):yD H a (.int n) v (upd H a (.dK (putK kvs (ay n) v))):=.inl ⟨kvs,.inl n,e,rfl,hl,rfl⟩
end L2
namespace WD
open PySem PySem.Spec PyProof.Rows L2 Vbahaj
variable{P:bR}{w:bI}{K:aG}{mg:ai->Option ag}{base:bg}{A:Ad}{f:af}{fd:eB}
theorem vL{k:Nat}{A:dF}(r:c6 k A):A.units+1<f7:=by have:=r.un;lia
theorem take_snoc{α:Type}:∀{l:List α}{i:Nat}{x:α},l[i]? =some x->l.take (i+1)=l.take i++[x]|[],i,x,h=>by simp at h|a::l,0,x,h=>by have e:a=x:=cM.inj h;subst e;rfl|a::l,i+1,x,h=>by have ih:=take_snoc (l:=l) (i:=i) (x:=x) h;show a::l.take (i+1)=a::l.take i++[x];rw[ih];rfl
theorem i8{a b:Nat}(h:a≠b):¬(ay (a:Int):Key)=ay (b:Int):=λe=>h (by have:=ay.inj e;lia)
theorem el{α β:Type}{f:α->β}{l:List α}{i:Nat}{x:β}(h:(l.map f)[i]? =some x):∃y,l[i]? =some y/\x=f y:=by rw[fz]at h;obtain⟨y,h1,h2⟩:=oP.mp h;exact⟨y,h1,h2.symm⟩
theorem vM{fs:List aw}(hN:(fs.map λf=>f.num).Nodup){i j:Nat}{f g:aw}(hi:fs[i]? =some f)(hj:fs[j]? =some g)(e:f.num=g.num):i=j:=vw hN (x:=f.num) (by rw[fz,hi];rfl) (by rw[fz,hj,e];rfl)
def fF(A:Ad)(H:Hp)(fa fe:Nat->af)(fs:List aw):Prop:=∀f,f∈fs->b_ A H (fa f.num) f (fe f.num)
theorem b_.same{A:Ad}{H H':Hp}{a d:af}{f:aw}(h:b_ A H a f d)(s:aC H H'):b_ A H' a f d:=let⟨dx,e⟩:=h;⟨dx,s _ _ e⟩
theorem fF.same{A:Ad}{H H':Hp}{fa fe:Nat->af}{fs:List aw}(h:fF A H fa fe fs)(s:aC H H'):fF A H' fa fe fs:=λf hf=>(h f hf).same s
def vN(fa:Nat->af):Option aw->V|none=>.non|some g=>.ref (fa g.num)
def jS(fs:List aw)(i:Nat)(t:Nat):Option aw:=((fs.take i).filter λg=>g.tail==t).getLast?
theorem aeG{fs:List aw}{i:Nat}{f:aw}(h:fs[i]? =some f)(t:Nat):jS fs (i+1) t=if t=f.tail then some f else jS fs i t:=by
 unfold jS;rw[take_snoc h,fy];by_cases e:t=f.tail
 ·rw[aj e,bX,aj (by rw[e];exact oH _)]
  simp
 ·rw[ah e,bX,ah (by intro z;exact e (eq_of_beq z).symm)]
  simp
abbrev I_:aV:=inClass (top 1) 1
theorem aeH:bu ["self"] ["self"] (bb I_):=bC
inductive og(A:Ad)(vs:List V)(H:Hp)(Q:VK)(E:XK):Prop|mk a f d (z:vs=[.ref a]) (z:b_ A H a f d) (z:Q (.bl (bV f)) H)
theorem aeI(F:bh K "is_open" "Flight.is_open" I_ f fd)(T:Txt K mg A):aX P w K mg base bc 1 f fd ["self"] (og A):=by refine F.bH aeH λH vs Q E hr hu h=>?_;obtain⟨a,f,d,rfl,hF,k⟩:=h;refine⟨_,(az (aK (qH (aa6 (au K (pv 0))) (nS (qG (yf (au K (pv 0)))))))),_,rfl,vI T hF ⟨_,rfl,_,rfl,?_⟩⟩;have e:bV f=(!f.cancelled&&f.left.isNone):=rfl;cases hc:f.cancelled with|true=>rw[e,hc]at k;exact bp k|false=>rw[e,hc]at k;refine aY ⟨_,rfl,pH T hF ?_⟩;cases hl:f.left with|none=>rw[hl]at k;exact k|some n=>rw[hl]at k;exact k
abbrev Ja:aV:=inClass (top 1) 2
theorem aeJ:bu ["self"] ["self"] (bb Ja):=bC
inductive Jb(A:Ad)(vs:List V)(H:Hp)(Q:VK)(E:XK):Prop|mk a f d (z:vs=[.ref a]) (z:b_ A H a f d) (z:Q (.int ((f.arr:Int)-f.dep)) H)
theorem aeK(F:bh K "planned_minutes" "Flight.planned_minutes" Ja f fd)(T:Txt K mg A):aX P w K mg base bc 1 f fd ["self"] (Jb A):=by refine F.bH aeJ λH vs Q E hr hu h=>?_;obtain⟨a,f,d,rfl,hF,k⟩:=h;exact⟨_,(az (aK (fg vf (au K (pv 0)) (au K (pv 0))))),_,rfl,tJ T hF ⟨_,rfl,qY T hF ⟨_,_,rfl,rfl,k⟩⟩⟩
abbrev Jc:aV:=top 3
theorem aeL:bu ["flight"] ["flight"] (bb Jc):=bC
inductive Jd(A:Ad)(vs:List V)(H:Hp)(Q:VK)(E:XK):Prop|mk a f d (z:vs=[.ref a]) (z:b_ A H a f d) (z:∀t,H t=none->Q (.ref t) (upd H t (.tup [.int f.dep,.int f.num])))
theorem aeM(F:bh K "order" "order" Jc f fd)(T:Txt K mg A):aX P w K mg base bc 1 f fd ["flight"] (Jd A):=by refine F.bH aeL λH vs Q E hr hu h=>?_;obtain⟨a,f,d,rfl,hF,k⟩:=h;exact⟨_,(az (aK (vh (aM (au K (pv 0)) (ax (au K (pv 0))))))),_,rfl,qY T hF ⟨_,rfl,dn T hF ⟨by show 2<=aS;decide,λt ht=>k t ht⟩⟩⟩
abbrev Je:aV:=top 5
theorem za:bu ["flying","tails","before","last","flight","tail"] ["flying","tails"] (bb Je):=bC
inductive CM(A:Ad)(K:aG)(vs:List V)(H:Hp)(Q:VK)(E:XK):Prop|mk fl dt kt fa fe fs (z:vs=[.ref fl,.ref dt]) (z:aE K H fl (fs.map λf:aw=>V.ref (fa f.num))) (z:fF A H fa fe fs) (z:Rd H dt (.dK kt)) (z:(∀f,f∈fs->bZ kt (ay (f.num:Int))=some (.int f.tail))) (z:(fs.map λf=>f.num).Nodup) (z:fs.length<=100) (z:∀H' p kvs,aC H H'->H p=none->H' p=some (.dK kvs)->(∀i f,fs[i]? =some f->bZ kvs (ay (f.num:Int))=some (vN fa (jS fs i f.tail)))->Q (.ref p) H')
theorem aeN(F:bh K "flown_before" "flown_before" Je f fd)(T:Txt K mg A):aX P w K mg base bc 1 f fd ["flying","tails"] (CM A K):=by
 refine F.bH za λH vs Q E hr hu h=>?_
 obtain⟨fl,dt,kt,fa,fe,fs,rfl,hS,hF,hD,hT,hN,hL,k⟩:=h
 refine⟨_,(aq (bf 2 za.nd ku) (aq (bf 3 za.nd ku)
   (aq (gn (fV (pv 0)) (c7 4 za.nd) (aq (bf 5 za.nd (cC hu (pv 1) (au K (pv 4))))
   (aq (iK hu (pv 2) (au K (pv 4)) (SV hu (pv 3) (pv 5)))
   (az (iK hu (pv 3) (pv 5) (pv 4))))))
   (az (aK (pv 2)))))),?_⟩
 intro p hp p2 d_
 have np:p≠p2:=ba (H:=upd H p (.dK [])) ao d_
 have TB:H p2=none:=(bL hp).free d_
 have s0:aC H (upd (upd H p (.dK [])) p2 (.dK [])):=(bL hp).bW TB
 refine⟨_,rfl,fl,rfl,⟨_,s0.seq hS⟩,gp fX (λi σ H'=>∃v4 v5 kb kl,σ=[some (.ref fl),some (.ref dt),some (.ref p),some (.ref p2),v4,v5]/\aC H H'/\H' p=some (.dK kb)/\H' p2=some (.dK kl)/\kb.length<=i/\kl.length<=i/\(∀j f,j<i->fs[j]? =some f->bZ kb (ay (f.num:Int))=some (vN fa (jS fs j f.tail)))/\∀t:Nat,bZ kl (ay (t:Int))=(jS fs i t).map λg=>V.ref (fa g.num))
  ⟨none,none,[],[],rfl,s0,by rw[ak np,ao],ao,bM _,bM _,λj f hj=>absurd hj (uM _),λt=>rfl⟩ (λi σ H' _⟨_,_,_,_,_,s5,_⟩=>s5.seq hS) ?_ ?_⟩
 ·rintro i x σ H1 CN hi ⟨v4,v5,kb,kl,rfl,s1,e1,e2,l1,l2,b1,b2⟩ ⟨rfl,hx⟩
  rw[aD]at hi
  obtain⟨f,hf,rfl⟩:=el hx
  have hm:f∈fs:=du hf
  have hO:=(hF f hm).same s1
  have tL:=mT hD (λo e=>s1 _ o e)
  have big:∀n,n<=i->n<aS:=λn h=>k7 (aZ h (aZ (jz hi) hL)) (by decide)
  refine⟨_,rfl,?_⟩
  refine⟨_,rfl,?_⟩
  apply dn T hO
  refine⟨dt,_,rfl,bq tL (hT f hm),?_⟩
  refine⟨_,rfl,p2,rfl,.inl ⟨_,.inl e2⟩,_,rfl,_,bq (.inl e2) (b2 f.tail),?_⟩
  refine⟨_,rfl,?_⟩
  refine⟨_,rfl,?_⟩
  apply dn T hO
  refine⟨p,_,rfl,iL e1 (big _ l1),?_⟩
  refine⟨_,rfl,_,rfl,_,rfl,p2,_,rfl,iL (by rw[ak np.symm];exact e2) (big _ l2),?_⟩
  refine⟨_,_,_,_,rfl,?_,by rw[ak np,ao],ao,?_,?_,?_,?_⟩
  ·exact(s1.bW hp).bW TB
  ·have:=yC kb (ay (f.num:Int)) (Option.getD ((jS fs i f.tail).map λg=>V.ref (fa g.num)) .non)
   lia
  ·have:=yC kl (ay (f.tail:Int)) (V.ref (fa f.num))
   lia
  ·intro j g hj hg
   rw[Ht]
   by_cases e:j=i
   ·subst e
    rw[hf]at hg
    cases hg
    rw[aj rfl]
    cases jS fs j f.tail<;>rfl
   ·rw[ah (i8 λz=>e (vM hN hg hf z))]
    exact b1 j g (by lia) hg
  ·intro t
   rw[Ht,aeG hf]
   by_cases e:t=f.tail
   ·rw[aj (by rw[e]),aj e]
    rfl
   ·rw[ah (i8 e),ah e]
    exact b2 t
 ·rintro σ H1 ⟨v4,v5,kb,kl,rfl,s1,e1,e2,l1,l2,b1,b2⟩
  refine⟨_,rfl,k H1 p kb s1 hp e1 λi f hf=>b1 i f ?_ hf⟩
  have:=(eo.mp hf).1
  rw[aD]
  exact this
end WD
namespace L2
open PySem PySem.Spec PyProof.Rows
theorem aeO{σ:L2.St}(R:L2.St->Hp->Prop)(h1:∀(nx:L2.St->Hp->Prop),(∀σ H,R σ H->nx σ H)->t {D with nx:=nx} σ H)(h2:∀σ H,R σ H->u D σ H):BD t u D σ H:=h1 _ h2
theorem Jf{σ:L2.St}(h:u D (σ.set i (some v)) H):BD (yi (tC v) (qI i)) u D σ H:=h
theorem Jg{σ:L2.St}(R:L2.St->Hp->Prop)(h1:∀(nx:L2.St->Hp->Prop),(∀σ H,R σ H->nx σ H)->t {D with nx:=nx} σ H)(h2:∀σ H,R σ H->u D σ H):(Ends.mk (BD t u D) r b c).nx σ H:=h1 _ h2
theorem lO{c A B:Prop}[Decidable c](hc:¬c)(h:A):if(!decide c)=true then A else B:=by rw[c9 hc];exact aY h
theorem dO{c A B:Prop}[Decidable c](h1:c->A)(h2:¬c->B):if decide c=true then A else B:=by
 by_cases h:c
 ·rw[dX h]
  exact aY (h1 h)
 ·rw[c9 h]
  exact bp (h2 h)
end L2
namespace WD
open PySem PySem.Spec PyProof.Rows L2 Vbahaj
variable{P:bR}{w:bI}{K:aG}{mg:ai->Option ag}{base:bg}{A:Ad}{f:af}{fd:eB}
def eT(b:Nat)(ts:List Time)(xs:List nM):Nat:=u4 b (xs.filterMap (waited b ts))
def kK(b:Nat)(ts:List Time)(xs:List nM)(o:Option Nat):Option Nat:=if b<eT b ts xs then(xs.find? λx=>waited b ts x==some (eT b ts xs)).map λx=>x.g else o
theorem aeP(b:Nat)(ts:List Time)(o:Option Nat):kK b ts [] o=o:=by unfold kK;exact ah (ma _)
theorem aeQ(n:Nat)(l:List Nat)(m:Nat):u4 n (l++[m])=max (u4 n l) m:=by unfold u4;rw[Fm];rfl
theorem Jh(n:Nat):∀l:List Nat,n<=u4 n l/\∀m,m∈l->m<=u4 n l:=by intro l;induction l generalizing n with
 |nil=>exact⟨bM _,λm h=>absurd h (by simp)⟩|cons a l ih=>
  obtain⟨h1,h2⟩:=ih (max n a);refine⟨aZ (OI _ _) h1,λm hm=>?_⟩;rcases b9.mp hm with rfl|hm
  ·exact aZ (OG _ _) h1
  ·exact h2 m hm
theorem zb(h:waited b ts x=none):eT b ts (xs++[x])=eT b ts xs:=by unfold eT;rw[xk];simp[h]
theorem zc(h:waited b ts x=some m):eT b ts (xs++[x])=max (eT b ts xs) m:=by unfold eT;rw[xk];simp only[qk,h,Ov];exact aeQ _ _ _
theorem aeR(xs:List nM):b<=eT b ts xs:=(Jh _ _).1
theorem aeS(hx:x∈xs)(h:waited b ts x=some m):m<=eT b ts xs:=(Jh _ _).2 m (xm.mpr ⟨x,hx,h⟩)
theorem aeT{α:Type}{p:List α->Prop}(h0:p [])(h1:∀xs x,p xs->p (xs++[x]))(xs:List α):p xs:=by
 have:∀ys:List α,p ys.reverse:=by intro ys;induction ys with
  |nil=>exact h0|cons y ys ih=>rw[List.reverse_cons];exact h1 _ _ ih
 have:=this xs.reverse;rwa[List.reverse_reverse]at this
theorem aeU{b:Nat}(xs:List nM):b<eT b ts xs->∃x,x∈xs/\waited b ts x=some (eT b ts xs):=by
 refine aeT (p:=λxs=>b<eT b ts xs->∃x,x∈xs/\waited b ts x=some (eT b ts xs)) ?_ ?_ xs
 ·intro h
  exact absurd h (ma _)
 ·intro xs x ih h
  cases hx:waited b ts x with
  |none=>rw[zb hx]at h⊢;obtain⟨y,h1,h2⟩:=ih h;exact⟨y,jx _ h1,h2⟩|some m=>
   rw[zc hx]at h⊢;by_cases hm:m<=eT b ts xs
   ·rw[xu hm]at h⊢
    obtain⟨y,h1,h2⟩:=ih h;exact⟨y,jx _ h1,h2⟩
   ·rw[AR (by lia)]
    exact⟨x,j5 _ (by simp),hx⟩
theorem Ji(h:waited b ts x=none):kK b ts (xs++[x]) o=kK b ts xs o:=by
 unfold kK;rw[zb h];by_cases hb:b<eT b ts xs
 ·rw[aj hb,aj hb,qm]
  simp[h]
 ·rw[ah hb,ah hb]
theorem aeV(h:waited b ts x=some m)(hm:m<=eT b ts xs):kK b ts (xs++[x]) o=kK b ts xs o:=by
 unfold kK;rw[zc h,xu hm];by_cases hb:b<eT b ts xs
 ·rw[aj hb,aj hb,qm]
  obtain⟨y,h1,h2⟩:=aeU xs hb;cases hf:xs.find? λx=>waited b ts x==some (eT b ts xs)with
  |some z=>rfl|none=>have:=iR.mp hf y h1;rw[h2]at this;simp at this
 ·rw[ah hb,ah hb]
theorem aeW(h:waited b ts x=some m)(hm:eT b ts xs<m):kK b ts (xs++[x]) o=some x.g:=by
 unfold kK;rw[zc h,AR (by lia),aj (k7 (aeR xs) hm),qm];have:xs.find? (λx=>waited b ts x==some m)=none:=by rw[iR];intro y hy e;have:=aeS hy (eq_of_beq e);lia
 rw[this];simp[h]
structure i9(H:Hp)(kf:List (Key×V))(xs:List nM):Prop where
 len:kf.length=xs.length
 at_:∀(i:Nat)(x:nM),xs[i]? =some x->∃t,kf[i]? =some (ay (x.g:Int),.ref t)/\H t=some (.tup [.int x.need,.int x.most])
theorem i9.keep(h:i9 H kf xs)(k:∀t zs,H t=some (.tup zs)->H' t=some (.tup zs)):i9 H' kf xs:=⟨h.len,λi x e=>let⟨t,h1,h2⟩:=h.at_ i x e;⟨t,h1,k _ _ h2⟩⟩
structure gq(A:Ad)(H:Hp)(kvs:List (Key×V))(sa:Nat->af)(ts:List Time)(c:Nat->Option Nat):Prop where
 eq:kvs=ts.map λt=>(ay (t.num:Int),V.ref (sa t.num))
 at_:∀t,t∈ts->kI A H (sa t.num) t.leave t.arrive (c t.num)
theorem gq.keep(h:gq A H kvs sa ts c)(k:∀a C dx fs,H a=some (.ins C dx fs)->H' a=some (.ins C dx fs)):gq A H' kvs sa ts c:=⟨h.eq,λt ht=>let⟨dx,e⟩:=h.at_ t ht;⟨dx,k _ _ _ _ e⟩⟩
theorem iu{sa:Nat->af}(n:Nat):∀ts:List Time,bZ (ts.map λt=>((ay (t.num:Int):Key),V.ref (sa t.num))) (ay (n:Int))=(bG ts n).map λt=>V.ref (sa t.num)
 |[]=>rfl|t::ts=>by
  rw[cV];unfold bG;by_cases e:t.num=n
  ·rw[jm (by rw[<-e]),xj (by rw[e];exact oH _)]
   rfl
  ·rw[iF (i8 e),AF (by intro z;exact e (eq_of_beq z))]
   exact iu n ts
theorem kL(h:bG ts n=some t):t∈ts/\t.num=n:=⟨iA h,by unfold bG at h;have:=gU h;simpa using this⟩
def q_(f:aw):Prop:=f.dep<f.arr/\1<=(f.arr:Int)-f.dep+f.air
theorem Jj{f:aw}(g:q_ f)(l:Nat):((qC f l:Nat):Int)=l+((f.arr:Int)-f.dep)+f.air:=by unfold qC;obtain⟨h1,h2⟩:=g;lia
abbrev Jk:aV:=inClass (top 27) 0
theorem aeX:bu ["self","leaves","flight","cause"] ["self","leaves","flight","cause"] (bb Jk):=bC
inductive Jl(A:Ad)(vs:List V)(H:Hp)(Q:VK)(E:XK):Prop|mk p dx l r a f d c (z:vs=[.ref p,.int (l:Nat),.ref a,optN c]) (z:H p=some (.ins A.CS dx [])) (z:b_ A H a f d) (z:((r:Nat):Int)=l+((f.arr:Int)-f.dep)+f.air) (z:Q .non (upd H p (.ins A.CS dx (qW l r c))))
theorem aeY(F:bh K "__init__" "Stand.__init__" Jk f fd)(T:Txt K mg A)(vO:dm P w K mg base A.CF "planned_minutes" 1 ["self"] (Jb A)):aX P w K mg base bc 2 f fd ["self","leaves","flight","cause"] (Jl A):=by
 refine F.bH aeX λH vs Q E hr hu h=>?_;obtain⟨p,dx,l,r,a,f,d,c,rfl,hp,⟨dy,hF⟩,e,k⟩:=h;have Jm:a≠p:=cZ hF hp (by intro z;injection z with _ _ z;cases z)
 refine⟨_,(aq (c8 (pv 0) (pv 1)) (aq (c8 (pv 0) (fg iC (fg iC (pv 1) (fk (pv 2) T.cF vO hr)) (au K (pv 2))))
   (az (c8 (pv 0) (pv 3))))),?_⟩
 refine⟨_,rfl,_,rfl,p,_,dx,_,rfl,hp,T.cS,T.Ti,(by show 0<1000;decide),?_⟩;have tM:b_ A (upd H p (.ins A.CS dx (bO "leaves" (.int (l:Nat)) []))) a f d:=⟨dy,by rw[ak Jm];exact hF⟩;obtain⟨dz,hz⟩:=id tM;refine⟨_,rfl,_,rfl,a,dz,_,rfl,hz,rfl,a,f,d,rfl,tM,_,_,rfl,rfl,_,rfl,aex T tM ⟨_,_,rfl,rfl,_,rfl,p,_,dx,_,rfl,ao,T.cS,T.Tj,(by show 1<1000;decide),_,rfl,_,rfl,p,_,dx,_,rfl,ao,T.cS,T.Tn,(by show 2<1000;decide),?_⟩⟩;rw[di,di];unfold qW at k;rw[e]at k;exact k
abbrev Jn:aV:=top 28
theorem lP:bu ["flight","earlier","stands","now","base","cause","ready","held","fed","minutes","met"] ["flight","earlier","stands","now"] (bb Jn):=bC
inductive TC(A:Ad)(K:aG)(vs:List V)(H:Hp)(Q:VK)(E:XK):Prop|mk a f d kf (e:Option aw) (ev:V) (ds:af) (kvs:List (Key×V)) (sa:Nat->af) (ts:List Time) (c:Nat->Option Nat) (now:Nat) (l:List aw) (z:vs=[.ref a,ev,.ref ds,.int now]) (z:b_ A H a f d) (z:H d=some (.dK kf)) (z:i9 H kf f.feeds) (z:q_ f) (z:f.feeds.length<=8) (z:prior l f=e) (z:(match(generalizing:=false) e with|none=>ev=.non|some g=>∃b d',ev=.ref b/\b_ A H b g d'/\(bG ts g.num).isSome=true)) (z:H ds=some (.dK kvs)) (z:d≠ds) (z:gq A H kvs sa ts c) (z:∀H' p,aC H H'->H p=none->kI A H' p (mn now l ts f) (qC f (mn now l ts f)) (cause l ts f)->Q (.ref p) H')
theorem aeZ(F:bh K "stand_of" "stand_of" Jn f fd)(T:Txt K mg A)(CO:pF P w K mg base A.CS "Stand" 2 ["self","leaves","flight","cause"] (Jl A)):aX P w K mg base bc 5 f fd ["flight","earlier","stands","now"] (TC A K):=by
 refine F.bH lP λH vs Q E hr hu h=>?_;obtain⟨a,f,d,kf,e,ev,ds,kvs,sa,ts,c,now,l,rfl,hF,hd,hK,hG,hL,hP,hE,hS,CQ,hT,k⟩:=h
 refine⟨_,(aq (bo (dB (o3 (au K (pv 0)))) (az (aK (vE CO hr (aM (au K (pv 0)) (aM (pv 0) (ax u_)))))) bt) (aq (bf 4 lP.nd (au K (pv 0)))
   (aq (bf 5 lP.nd u_)
   (aq (bo (dB (o3 (pv 1))) (aq (bf 6 lP.nd (fg iC (au K (cC hu (pv 2) (au K (pv 1)))) (au K (pv 1))))
   (az (bo (dS BK (pv 6) (pv 4)) (aq (bf 4 lP.nd (pv 6))
   (az (bf 5 lP.nd (au K (pv 1))))) bt))) bt)
   (aq (bf 7 lP.nd (pv 4))
   (aq (yE (gn (RJ (au K (pv 0))) (w_g2 K (c7 8 lP.nd) (c7 9 lP.nd)) (az (bo (dB (qQ hu (pv 8) (pv 2))) (aq (bf 10 lP.nd (fg iC (au K (cC hu (pv 2) (pv 8))) (jt K (pv 9) aJ)))
   (az (bo (abt qL jK (pv 7) (pv 10) (fg iC (pv 4) (jt K (pv 9) aJ))) (aq (bf 7 lP.nd (pv 10))
   (az (bf 5 lP.nd (pv 8)))) bt))) bt))))
   (az (aK (vE CO hr (aM (lA (GX rfl) (by rfl) T.max FQ (aM (fg iC (pv 7) (au K (pv 0))) (ax (fg iC (pv 3) aJ)))) (aM (pv 0) (ax (pv 5))))))))))))),?_⟩
 refine⟨_,rfl,pH T hF ⟨_,rfl,?_⟩⟩
 have fin:∀(H1:Hp)(ll:Nat)(cc:Option Nat),aC H H1->mn now l ts f=ll->cause l ts f=cc->∀x dx,H1 x=none->H1 dx=none->dx≠x->Jl A [.ref x,.int (ll:Nat),.ref a,optN cc] (upd (upd H1 dx (.own x)) x (.ins A.CS dx [])) (λv H2=>v=.non/\Q (.ref x) H2) E0:=by
  intro H1 ll cc s1 e1 e2 x dx nx vP TF;obtain⟨dy,eF⟩:=hF;have Jo:=s1 _ _ eF;refine⟨x,dx,ll,qC f ll,a,f,d,cc,rfl,ao,⟨dy,by rw[ak (ba Jo nx),ak (ba Jo vP)];exact Jo⟩,Jj hG ll,rfl,?_⟩;refine k _ x (λb o hb=>?_) (s1.free nx) ⟨dx,by rw[e1,e2];exact ao⟩;have Jp:=s1 b o hb;rw[di,ak (ba Jp nx),ak (ba Jp vP)];exact Jp
 cases hl:f.left with
 |some n=>refine aY ?_;refine⟨_,rfl,pH T hF ?_⟩;rw[hl];refine⟨_,rfl,?_⟩;exact fin H n none (aC.refl H) (by unfold mn;rw[hl]) (by unfold cause;rw[hl];rfl)|none=>
  refine bp ?_;refine⟨_,rfl,qY T hF ?_⟩;refine Jf (i:=5) ?_;refine Jg (λσ' H'=>∃v6,σ'=[some (.ref a),some ev,some (.ref ds),some (.int now),some (.int (mi l ts f)),some (optN (if f.dep<ready l ts f then(prior l f).map (λg=>g.num)else none)),v6,none,none,none,none]/\H'=H) (λnx hn=>?_) ?_
  ·refine⟨_,rfl,_,rfl,?_⟩
   cases e with
   |none=>
    have hE:ev=.non:=hE;subst hE;refine lH rfl (hn _ _ ⟨none,?_,rfl⟩);have e1:ready l ts f=0:=by unfold ready;rw[hP]
    have e2:mi l ts f=f.dep:=by unfold mi;rw[e1];exact xu (fb _)
    rw[e1,e2,ah (uM _)];rfl|some g=>
    obtain⟨b,d',rfl,Jq,hg⟩:=(show∃b d',ev=.ref b/\b_ A H b g d'/\(bG ts g.num).isSome=true from hE);obtain⟨t,ht⟩:=nA.mp hg;have lQ:=hT.at_ t (kL ht).1;have e1:ready l ts f=t.arrive+g.turn:=by unfold ready;rw[hP];simp only[ht]
    refine lO nofun ?_;refine⟨_,rfl,_,rfl,dn T Jq ⟨ds,_,rfl,bq (.inl hS) (by rw[hT.eq,iu,ht];rfl),oa T lQ ⟨_,rfl,Ts T Jq ⟨_,_,rfl,rfl,?_⟩⟩⟩⟩;refine⟨_,rfl,_,rfl,_,_,rfl,rfl,_,rfl,dO (λh=>?_) λh=>?_⟩
    ·have h:f.dep<t.arrive+g.turn:=by have h:(f.dep:Int)<(t.arrive:Int)+g.turn:=h;lia
     refine⟨_,rfl,_,rfl,dn T Jq ?_⟩;refine hn _ _ ⟨some (.int ((t.arrive:Int)+g.turn)),?_,rfl⟩;rw[e1,hP,aj h];have e2:mi l ts f=t.arrive+g.turn:=by unfold mi;rw[e1];exact AR (jz h)
     rw[e2];rfl
    ·have h:¬f.dep<t.arrive+g.turn:=by have h:¬(f.dep:Int)<(t.arrive:Int)+g.turn:=h;lia
     refine hn _ _ ⟨some (.int ((t.arrive:Int)+g.turn)),?_,rfl⟩;rw[e1,ah h];have e2:mi l ts f=f.dep:=by unfold mi;rw[e1];exact xu (by lia)
     rw[e2];rfl
  ·rintro σ' H' ⟨v6,rfl,rfl⟩
   refine⟨_,rfl,?_⟩;generalize hb:mi l ts f=b;generalize Cq:(if f.dep<ready l ts f then(prior l f).map (λg=>g.num)else none)=c0;have TH:held l ts f=eT b ts f.feeds:=by unfold held eT;rw[hb]
   have ae0:cause l ts f=kK b ts f.feeds c0:=by unfold cause kK;rw[TH,hb,hl,<-Cq];rfl
   refine⟨d,_,hd,bJ,λod=>?_⟩;have rb:b_ A (upd H' d (.aQ od (.dK kf))) a f d:=let⟨dx,q⟩:=hF;⟨dx,by rw[ak (cZ q hd nofun)];exact q⟩
   have rf:(upd H' d (.aQ od (.dK kf))) ds=some (.dK kvs):=by rw[ak CQ.symm];exact hS
   have TJ:gq A (upd H' d (.aQ od (.dK kf))) kvs sa ts c:=hT.keep λa C dx fs q=>by rw[ak (cZ q hd nofun)];exact q
   have zd:i9 (upd H' d (.aQ od (.dK kf))) kf f.feeds:=hK.keep λt zs q=>by rw[ak (cZ q hd nofun)];exact q
   have iM:(upd H' d (.aQ od (.dK kf))) d=some (.aQ od (.dK kf)):=ao;generalize pI:upd H' d (.aQ od (.dK kf))=Hd at rb rf TJ zd iM;refine⟨_,rfl,vH T rb ?_⟩;refine⟨d,od,kf,rfl,iM,gp SX (λi σ' H1=>∃v8 v9 v10,σ'=[some (.ref a),some ev,some (.ref ds),some (.int now),some (.int b),some (optN (kK b ts (f.feeds.take i) c0)),v6,some (.int (eT b ts (f.feeds.take i))),v8,v9,v10]/\aC Hd H1) ⟨none,none,none,by rw[Fq,aeP];rfl,aC.refl _⟩ (λi σ H1 _⟨_,_,_,_,s1⟩=>s1 _ _ iM) ?_ ?_⟩
   ·rintro i x σ1 H1 H2 hi ⟨v8,v9,v10,rfl,s1⟩ ⟨T1,k1,v1,gG,rfl,nT,rfl⟩
    rw[hK.len]at hi;have hx:f.feeds[i]? =some f.feeds[i]:=dY hi;generalize f.feeds[i]=x at hx;obtain⟨tp,htp,hH⟩:=zd.at_ i x hx;rw[htp]at gG;cases gG;have s2:aC Hd (upd H1 T1 (.tup [kV (ay (x.g:Int)),V.ref tp])):=s1.bW (s1.free nT);have step:=take_snoc hx;refine⟨T1,_,rfl,cW.of ao,rfl,_,_,rfl,_,_,rfl,rfl,?_⟩;generalize upd H1 T1 (.tup [kV (ay (x.g:Int)),V.ref tp])=H2 at s2;have dC:=s2 _ _ rf;have lG:gq A H2 kvs sa ts c:=TJ.keep λa C dx fs q=>s2 _ _ q;have rh:cW K H2 tp [.int x.need,.int x.most]:=cW.of (s2 _ _ hH);refine⟨_,rfl,_,rfl,ds,(bG ts x.g).map λt=>V.ref (sa t.num),rfl,bq (.inl dC) (by rw[hT.eq,iu]),?_⟩;cases ht:bG ts x.g with
    |none=>
     have hw:waited b ts x=none:=by unfold waited;rw[ht]
     refine⟨_,rfl,bp ?_⟩;exact⟨_,_,_,by rw[step,zb hw,Ji hw];rfl,s2⟩|some t=>
     have lQ:=lG.at_ t (kL ht).1;refine⟨_,rfl,aY ⟨_,rfl,_,rfl,ds,_,rfl,bq (.inl dC) (by rw[hT.eq,iu,ht];rfl),oa T lQ ⟨_,rfl,tp,_,_,_,rfl,rfl,rh,rfl,_,_,rfl,rfl,?_⟩⟩⟩;have big:∀m,waited b ts x=m->m=if t.arrive+x.need<=b+x.most then some (t.arrive+x.need)else none:=λm e=>by rw[<-e];unfold waited;simp only[ht]
     refine⟨_,rfl,_,rfl,_,_,rfl,rfl,_,rfl,dO (λh1=>?_) λh1=>?_⟩
     ·have h1:eT b ts (f.feeds.take i)<t.arrive+x.need:=by have h1:((eT b ts (f.feeds.take i):Nat):Int)<(t.arrive:Int)+x.need:=h1;lia
      refine⟨_,rfl,_,rfl,tp,_,_,_,rfl,rfl,rh,rfl,_,_,rfl,rfl,_,_,rfl,rfl,_,rfl,dO (λh2=>?_) λh2=>?_⟩
      ·have h2:t.arrive+x.need<=b+x.most:=by have h2:(t.arrive:Int)+x.need<=(b:Int)+x.most:=h2;lia
       have hw:waited b ts x=some (t.arrive+x.need):=by rw[big _ rfl,aj h2]
       refine⟨_,rfl,_,rfl,?_⟩;exact⟨_,_,_,by rw[step,zc hw,aeW hw h1,AR (jz h1)];rfl,s2⟩
      ·have h2:¬t.arrive+x.need<=b+x.most:=by have h2:¬(t.arrive:Int)+x.need<=(b:Int)+x.most:=h2;lia
       have hw:waited b ts x=none:=by rw[big _ rfl,ah h2]
       exact⟨_,_,_,by rw[step,zb hw,Ji hw];rfl,s2⟩
     ·have h1:¬eT b ts (f.feeds.take i)<t.arrive+x.need:=by have h1:¬((eT b ts (f.feeds.take i):Nat):Int)<(t.arrive:Int)+x.need:=h1;lia
      refine⟨_,rfl,bp ?_⟩;by_cases h2:t.arrive+x.need<=b+x.most
      ·have hw:waited b ts x=some (t.arrive+x.need):=by rw[big _ rfl,aj h2]
       exact⟨_,_,_,by rw[step,zc hw,aeV hw (by lia),xu (by lia)];rfl,s2⟩
      ·have hw:waited b ts x=none:=by rw[big _ rfl,ah h2]
       exact⟨_,_,_,by rw[step,zb hw,Ji hw];rfl,s2⟩
   ·rintro σ1 H1 ⟨v8,v9,v10,rfl,s1⟩
    rw[hK.len,dQ];refine⟨s1 _ _ iM,?_⟩;have s3:aC H' (upd H1 d (.dK kf)):=λb' o jN=>by
     by_cases Jr:b'=d
     ·rw[Jr]at jN⊢
      rw[hd]at jN;cases jN;exact ao
     ·rw[ak Jr]
      refine s1 b' o ?_;rw[<-pI,ak Jr];exact jN
    generalize upd H1 d (.dK kf)=H4 at s3;have hF4:=hF.same s3;refine⟨_,rfl,_,rfl,aew T hF4 ⟨_,_,rfl,rfl,_,rfl,_,_,rfl,rfl,?_⟩⟩;have hv:(if(now:Int)+1>((eT b ts f.feeds:Nat):Int)+f.wait then(now:Int)+1 else((eT b ts f.feeds:Nat):Int)+f.wait)=((mn now l ts f:Nat):Int):=by unfold mn;rw[hl,TH];show _=((max (eT b ts f.feeds+f.wait) (now+1):Nat):Int);split<;>lia
    refine⟨_,_,rfl,?_⟩;rw[hv];refine⟨_,rfl,_,rfl,?_⟩;exact fin H4 _ _ s3 rfl ae0
end WD
namespace WD
open L2 Vbahaj
theorem jT:before a b=true↔a.dep<b.dep∨(a.dep=b.dep/\a.num<b.num):=by unfold before;simp
theorem ae1(h1:before a b=true)(h2:before b c=true):before a c=true:=by rw[jT]at *;lia
theorem Js(a:aw):¬before a a=true:=by rw[jT];lia
theorem ze(h:before a b=true):¬before b a=true:=by rw[jT]at *;lia
theorem Jt(h:a.num≠b.num):before a b=true∨before b a=true:=by rw[jT,jT];lia
theorem Ju(f:aw):∀l:List aw,(qB f l).Perm (f::l)
 |[]=>.refl _|g::l=>by
  unfold qB;split
  ·exact .refl _
  ·exact((Ju f l).cons g).trans (.swap f g l)
theorem pJ:∀l:List aw,(ordered l).Perm l|[]=>.refl _|f::l=>(Ju f (ordered l)).trans ((pJ l).cons f)
theorem TK:∀{l:List aw},l.Pairwise (λa b=>before a b=true)->(∀g,g∈l->g.num≠f.num)->(qB f l).Pairwise (λa b=>before a b=true)
 |[],_,_=>ny _ _|g::l,h,hn=>by
  unfold qB;have⟨h1,h2⟩:=jy.mp h;split
  ·rename_i hb
   refine jy.mpr ⟨λx hx=>?_,h⟩;rcases b9.mp hx with rfl|hx
   ·exact hb
   ·exact ae1 hb (h1 x hx)
  ·rename_i hb
   refine jy.mpr ⟨λx hx=>?_,TK h2 λy hy=>hn y (b8 _ hy)⟩;rcases b9.mp ((Ju f l).mem_iff.mp hx)with rfl|hx
   ·rcases Jt (hn g cK)with z|z
    ·exact z
    ·exact absurd z hb
   ·exact h1 x hx
theorem Jv:∀{l:List aw},(l.map λf=>f.num).Nodup->(ordered l).Pairwise (λa b=>before a b=true)|[],_=>AN|f::l,h=>by obtain⟨h1,h2⟩:=gS.mp h;exact TK (Jv h2) λg hg e=>h1 (aB.mpr ⟨g,(pJ l).mem_iff.mp hg,e⟩)
theorem vQ{α:Type}{R:α->α->Prop}(as:∀a b,R a b->¬R b a):∀{l m:List α},l.Perm m->l.Pairwise R->m.Pairwise R->l=m
 |[],m,p,_,_=>(List.nil_perm.mp p).symm|a::l,[],p,_,_=>absurd p.length_eq (by simp)|a::l,b::m,p,h1,h2=>by
  obtain⟨a1,a2⟩:=jy.mp h1;obtain⟨b1,b2⟩:=jy.mp h2;have e:a=b:=by
   rcases b9.mp (p.mem_iff.mp cK)with e|hm
   ·exact e
   ·rcases b9.mp (p.mem_iff.mpr (cK))with e|hl
    ·exact e.symm
    ·exact absurd (a1 b hl) (as _ _ (b1 a hm))
  subst e;rw[vQ as (List.Perm.cons_inv p) a2 b2]
theorem zf{α β:Type}{g:α->β}:∀{ys xs:List β},ys.Perm xs->∀{l:List α},xs=l.map g->∃l':List α,l'.Perm l/\ys=l'.map g:=by intro ys xs p;induction p with
 |nil=>intro l e;exact⟨[],by have:=List.map_eq_nil_iff.mp e.symm;rw[this],rfl⟩|cons x p ih=>intro l e;cases l with
  |nil=>cases e|cons a l=>cases e;obtain⟨l',h1,h2⟩:=ih rfl;exact⟨a::l',h1.cons a,by rw[h2];rfl⟩
 |swap x y l0=>
  intro l e
  match l,e with
  |a::b::l,e=>cases e;exact⟨b::a::l,.swap a b l,rfl⟩
 |trans p1 p2 ih1 ih2=>intro l e;obtain⟨l2,h1,h2⟩:=ih2 e;obtain⟨l1,h3,h4⟩:=ih1 h2;exact⟨l1,h3.trans h1,h4⟩
theorem CT(h:(l.map λf=>f.num).Nodup):(aN l).Pairwise (λa b=>before a b=true):=(Jv h).sublist gd
theorem i_:f∈aN l↔f∈l/\f.cancelled=false:=by unfold aN;rw[ck,(pJ l).mem_iff];simp
theorem rm(h:(l.map λf=>f.num).Nodup):((aN l).map λf=>f.num).Nodup:=by have h1:=((pJ l).map _).nodup_iff.mpr h;exact h1.sublist (ia _ gd)
theorem g9(l:List aw):(aN l).length<=l.length:=by unfold aN;exact aZ (e_ _ _) (uN (pJ l).length_eq)
theorem TL:∀{fs:List aw}{i:Nat}{f:aw}(p:aw->Bool),fs.Pairwise (λa b=>before a b=true)->fs[i]? =some f->(fs.filter λg=>p g&&before g f)=(fs.take i).filter p
 |[],i,f,p,_,h=>by simp at h|g::fs,0,f,p,hs,h=>by
  cases h;obtain⟨h1,h2⟩:=jy.mp hs;rw[Fq,gL,AG];intro x hx e;rw[cJ]at e;rcases b9.mp hx with rfl|hx
  ·exact Js _ e.2
  ·exact ze (h1 x hx) e.2|g::fs,i+1,f,p,hs,h=>by obtain⟨h1,h2⟩:=jy.mp hs;have hf:=h;have e:=h1 f (du hf);rw[Fh,bX,bX,e,Ob,TL p h2 hf]
theorem CU(h:(l.map λf=>f.num).Nodup)(hf:(aN l)[i]? =some f):prior l f=jS (aN l) i f.tail:=by unfold prior jS;rw[TL (λg=>g.tail==f.tail) (CT h) hf]
def jU(now:Nat)(l:List aw)(ts:List Time)(f:aw):Time:={num:=f.num,leave:=mn now l ts f,arrive:=qC f (mn now l ts f)}
def cG(now:Nat)(l:List aw)(i:Nat):List Time:=xY now l [] ((aN l).take i)
theorem TM(now:Nat)(l:List aw)(f:aw):∀(r:List aw)(ts:List Time),xY now l ts (r++[f])=xY now l ts r++[jU now l (xY now l ts r) f]|[],ts=>rfl|g::r,ts=>by show xY now l _ (r++[f])=_;rw[TM now l f r];rfl
theorem vR(h:(aN l)[i]? =some f):cG now l (i+1)=cG now l i++[jU now l (cG now l i) f]:=by unfold cG;rw[take_snoc h,TM]
theorem Jw(now:Nat)(l:List aw):cG now l (aN l).length=times now l:=by unfold cG times;rw[dQ]
theorem mU(now:Nat)(l:List aw):∀i,(cG now l i).map (λt=>t.num)=((aN l).take i).map λf=>f.num
 |0=>rfl|i+1=>by cases h:(aN l)[i]? with
  |none=>
   have hl:=Od.mp h;have e:cG now l (i+1)=cG now l i:=by unfold cG;rw[oJ (by lia),oJ (by lia)]
   rw[e,mU now l i,oJ (by lia),oJ (by lia)]|some f=>rw[vR h,take_snoc h,bS,bS,mU now l i];rfl
theorem iN(now:Nat)(l:List aw):(times now l).map (λt=>t.num)=(aN l).map λf=>f.num:=by rw[<-Jw,mU,dQ]
theorem tN:(bG ts n).isSome=true↔n∈ts.map λt=>t.num:=by
 unfold bG;rw[List.find?_isSome,aB];constructor
 ·rintro⟨t,h1,h2⟩
  exact⟨t,h1,by simpa using h2⟩
 ·rintro⟨t,h1,h2⟩
  exact⟨t,h1,by simpa using h2⟩
theorem oh:bG ts n=none↔n∉ts.map λt=>t.num:=by rw[<-tN];cases bG ts n<;>simp
theorem ae2(h:n∈ts.map λt=>t.num):bG (ts++us) n=bG ts n:=by obtain⟨t,ht⟩:=nA.mp (tN.mpr h);unfold bG at *;rw[qm,ht];rfl
theorem TN:∀j,∃us,cG now l (i+j)=cG now l i++us|0=>⟨[],by simp⟩|j+1=>by obtain⟨us,e⟩:=TN j;cases h:(aN l)[i+j]? with|none=>have hl:=Od.mp h;refine⟨us,?_⟩;rw[<-e];unfold cG;rw[oJ (by lia),oJ (by lia)]|some f=>exact⟨us++[jU now l (cG now l (i+j)) f],by rw[show i+(j+1)=(i+j)+1 from rfl,vR h,e,l_]⟩
theorem TQ(h:i<=(aN l).length):∃us,times now l=cG now l i++us:=by obtain⟨us,e⟩:=TN ((aN l).length-i);rw[<-Jw];exact⟨us,by rw[<-e];congr 1;lia⟩
end WD
namespace WD
open PySem PySem.Spec PyProof.Rows L2 Vbahaj
variable{P:bR}{w:bI}{K:aG}{mg:ai->Option ag}{base:bg}{A:Ad}{f:af}{fd:eB}
theorem Jx{A:Ad}{H:Hp}{fa fe:Nat->af}{l:List aw}(h:fF A H fa fe l){f g:aw}(hf:f∈l)(hg:g∈l)(e:fa f.num=fa g.num):f.num=g.num:=by
 obtain⟨d1,e1⟩:=h f hf;obtain⟨d2,e2⟩:=h g hg;rw[e,e2]at e1;have e3:=cM.inj e1;injection e3 with _ _ e4
 unfold d5 at e4;injection e4 with e5 _
 injection e5 with _ e6
 injection e6 with e7
 lia
theorem ja{l:List aw}(hN:(l.map λf=>f.num).Nodup){f g:aw}(hf:f∈l)(hg:g∈l)(e:f.num=g.num):f=g:=by obtain⟨i,hi,rfl⟩:=h_ hf;obtain⟨j,hj,rfl⟩:=h_ hg;have:=vM hN (dY hi) (dY hj) e;subst this;rfl
def keyOf(fa:Nat->af)(l:List aw)(v:V):List Int:=match l.find? λf=>decide (V.ref (fa f.num)=v)with|some f=>[(f.dep:Int),(f.num:Int)]|none=>[]
theorem CV{A:Ad}{H:Hp}{fa fe:Nat->af}{l:List aw}(h:fF A H fa fe l)(hN:(l.map λf=>f.num).Nodup){f:aw}(hf:f∈l):keyOf fa l (V.ref (fa f.num))=[(f.dep:Int),(f.num:Int)]:=by unfold keyOf;cases e:l.find? λg=>decide (V.ref (fa g.num)=V.ref (fa f.num))with|none=>have:=iR.mp e f hf;simp at this|some g=>have h1:=iA e;have h2:=gU e;have h3:V.ref (fa g.num)=V.ref (fa f.num):=nj h2;have h4:=ja hN h1 hf (Jx h h1 hf (V.ref.inj h3));subst h4;rfl
theorem zg:HT.lexLt [a,b] [c,d]=(decide (a<c)||(decide (a=c)&&decide (b<d))):=by
 by_cases h:a=c
 ·subst h
  by_cases h2:b=d
  ·subst h2;simp[HT.lexLt]
  ·simp[HT.lexLt,h2]
 ·simp[HT.lexLt,h]
theorem ae3(h:fF A H fa fe l)(hN:(l.map λf=>f.num).Nodup)(p:ys.Perm (l.map λf=>V.ref (fa f.num)))(hp:ys.Pairwise λa b=>HT.lexLt (keyOf fa l b) (keyOf fa l a)=false):ys=(ordered l).map λf=>V.ref (fa f.num):=by
 obtain⟨l',p',rfl⟩:=zf p rfl;have tO:(l'.map λf=>f.num).Nodup:=(p'.map _).nodup_iff.mpr hN;have e:l'=ordered l:=by
  refine vQ (R:=λa b=>before a b=true) (λa b h1=>ze h1) (p'.trans (pJ l).symm) ?_ (Jv hN);rw[j6]at hp;have d_:l'.Pairwise λa b=>HT.lexLt (keyOf fa l (V.ref (fa b.num))) (keyOf fa l (V.ref (fa a.num)))=false/\a.num≠b.num:=by refine hp.and ?_;have:(l'.map λf=>f.num).Pairwise (·≠·):=tO;rw[j6]at this;exact this
  refine d_.imp_of_mem λ{a b}ha hb h1=>?_;obtain⟨h1,h2⟩:=h1;rw[CV h hN (p'.mem_iff.mp ha),CV h hN (p'.mem_iff.mp hb),zg]at h1;rw[jT];simp at h1;lia
 rw[e]
abbrev Jy:aV:=inClass (top 2) 1
theorem Jz:bu ["self","flight"] ["self"] (bb Jy):=bC
def cA(fa:Nat->af)(l:List aw):List (Key×V):=l.map λf=>(ay (f.num:Int),V.ref (fa f.num))
inductive tQ(A:Ad)(vs:List V)(H:Hp)(Q:VK)(E:XK):Prop|mk h now df dt dp ls fa fe l (z:vs=[.ref h]) (z:fq A H h now df dt dp ls) (z:H df=some (.dK (cA fa l))) (z:fF A H fa fe l) (z:(l.map λf=>f.num).Nodup) (z:l.length<=100) (z:∀H' p,aC H H'->H p=none->H' p=some (.lst ((aN l).map λf=>V.ref (fa f.num)))->Q (.ref p) H')
theorem ae4(F:bh K "flying" "House.flying" Jy f fd)(T:Txt K mg A)(tR:Glob P w K mg base "order" 1 ["flight"] (Jd A)):aX P w K mg base bc 4 f fd ["self"] (tQ A):=by
 obtain⟨fo,fdo,ae5,ae6,ake,ae7⟩:=tR.ex;refine F.bH Jz λH vs Q E hr hu h=>?_;obtain⟨h,now,df,dt,dp,ls,fa,fe,l,rfl,hH,hD,hF,hN,hL,k⟩:=h;refine⟨_,(az (aK (jR [("flight",1)] Jz.nd (fV (Cj rfl (by rfl) T.sorted (aM (adw (au K (pv 0))) mE) (yp (mQ ae6) yo) (ady (E:=E0) ae5 (hr.mono (by decide)) ae7 (λ_ _ _ _ _ h=>h)))) (c7 1 Jz.nd) (o_ (gY (dj (au K (pv 1))))) (pv 1)))),_,rfl,ek T hH ⟨df,_,rfl,.inl hD,λr nr=>?_⟩⟩;have s1:aC H (upd H r (yI r df)):=bL nr;refine⟨r,fo,(l.map λf=>V.ref (fa f.num)),keyOf fa l,rfl,rfl,.inr ⟨df,_,ao,.inl (s1 _ _ hD),by unfold cA;rw[dv];rfl⟩,λv hv H' s2=>?_,λys D H' p1 p2 s2 nD CW=>?_⟩
 ·obtain⟨f,hf,rfl⟩:=aB.mp hv
  refine⟨rfl,fa f.num,f,fe f.num,rfl,((hF f hf).same s1).same s2,λt nt=>⟨bL nt,t,rfl,?_,?_⟩⟩
  ·rw[CV hF hN hf]
   exact ao
  ·rw[CV hF hN hf]
   exact λz=>nomatch z
 ·rw[ae3 hF hN p1 p2]at CW
  have s3:aC H H':=s1.trans s2;have pK:H D=none:=s1.free nD;refine⟨D,rfl,⟨_,aE.of CW⟩,λD2 mV=>?_⟩;have n2:H D2=none:=s3.free mV;have TR:D≠D2:=ba CW mV
  refine i7 fX (λi H1=>aC H H1/\H1 D=some (.lst ((ordered l).map λf=>V.ref (fa f.num)))/\H1 D2=some (.lst ((((ordered l).take i).filter λf=> !f.cancelled).map λf=>V.ref (fa f.num)))) ⟨s3.bW n2,by rw[ak TR];exact CW,ao⟩ (λi H1 _ h=>aE.of h.2.1) ?_ ?_
  ·rintro i x H1 H2 hi ⟨s4,e1,e2⟩ ⟨rfl,hx⟩
   obtain⟨f,hf,rfl⟩:=el hx;have hm:f∈l:=(pJ l).mem_iff.mp (du hf);have hO:=(hF f hm).same s4;refine⟨rfl,_,rfl,vI T hO ⟨_,rfl,?_⟩⟩;cases hc:f.cancelled with
   |true=>refine bp ⟨s4,e1,?_⟩;rw[take_snoc hf,fy,bX,ah (by rw[hc];decide),gL,je];exact e2|false=>
    refine aY ⟨_,rfl,_,e2,?_,s4.bW n2,by rw[ak TR];exact e1,?_⟩
    ·rw[aD]
     refine k7 (aZ (e_ _ _) (aZ (k5 _ _) (aZ (uN (pJ l).length_eq) hL))) (by decide)
    ·rw[ao,take_snoc hf,fy,bX,aj (by rw[hc];decide),gL,bS]
     rfl
  ·rintro H1 ⟨s4,e1,e2⟩
   rw[aD,dQ]at e2;exact k H1 D2 s4 n2 e2
abbrev JA:aV:=top 29
theorem CY:bu ["flying","tails","now","before","stands","flight"] ["flying","tails","now"] (bb JA):=bC
def lR(kt:List (Key×V))(fs:List aw):Prop:=∀f,f∈fs->bZ kt (ay (f.num:Int))=some (.int f.tail)
def lS(H:Hp)(fe:Nat->af)(fs:List aw):Prop:=∀f,f∈fs->∃kf,H (fe f.num)=some (.dK kf)/\i9 H kf f.feeds
theorem lS.same(h:lS H fe fs)(s:aC H H'):lS H' fe fs:=λf hf=>let⟨kf,h1,h2⟩:=h f hf;⟨kf,s _ _ h1,h2.keep λ_ _ q=>s _ _ q⟩
def zh(fs:List aw):Prop:=∀f,f∈fs->q_ f/\f.feeds.length<=8
def TU(now:Nat)(l:List aw)(c:Nat->Option Nat):Prop:=∀i f,(aN l)[i]? =some f->c f.num=cause l (cG now l i) f
inductive JB(A:Ad)(K:aG)(vs:List V)(H:Hp)(Q:VK)(E:XK):Prop|mk fl dt kt fa fe (l:List aw) (now:Nat) (z:vs=[.ref fl,.ref dt,.int now]) (z:aE K H fl ((aN l).map λf=>V.ref (fa f.num))) (z:fF A H fa fe (aN l)) (z:lS H fe (aN l)) (z:zh (aN l)) (z:Rd H dt (.dK kt)) (z:lR kt (aN l)) (z:(l.map λf=>f.num).Nodup) (z:l.length<=100) (z:∀H' p kvs sa c,aC H H'->H p=none->H' p=some (.dK kvs)->gq A H' kvs sa (times now l) c->TU now l c->Q (.ref p) H')
theorem JC(h:jS fs i t=some g):g∈fs.take i:=(ck.mp (Ff h)).1
theorem ae8(F:bh K "stands_of" "stands_of" JA f fd)(T:Txt K mg A)(pL:Glob P w K mg base "flown_before" 1 ["flying","tails"] (CM A K))(JD:Glob P w K mg base "stand_of" 5 ["flight","earlier","stands","now"] (TC A K)):aX P w K mg base bc 6 f fd ["flying","tails","now"] (JB A K):=by
 refine F.bH CY λH vs Q E hr hu h=>?_;obtain⟨fl,dt,kt,fa,fe,l,now,rfl,hS,hF,JE,hG,hD,hT,hN,hL,k⟩:=h;have JF:=rm hN;have tS:(aN l).length<=100:=aZ (g9 l) hL
 refine⟨_,(aq (bf 3 CY.nd (bK pL hr (aM (pv 0) (ax (pv 1))))) (aq (bf 4 CY.nd ku)
   (aq (gn (fV (pv 0)) (c7 5 CY.nd) (az (iK hu (pv 4) (au K (pv 5)) (bK JD hr (aM (pv 5) (aM (cC hu (pv 3) (au K (pv 5))) (aM (pv 4) (ax (pv 2)))))))))
   (az (aK (pv 4)))))),?_⟩
 refine⟨_,rfl,_,rfl,fl,dt,kt,fa,fe,aN l,rfl,hS,hF,hD,hT,JF,tS,λH1 pb kb s1 vS vT hB=>?_⟩;intro p np;have mW:H p=none:=s1.free np;have TV:pb≠p:=ba vT np;have s2:aC H (upd H1 p (.dK [])):=s1.bW mW
 refine⟨_,rfl,fl,rfl,⟨_,s2.seq hS⟩,gp fX (λi σ H'=>∃v5 sa c,σ=[some (.ref fl),some (.ref dt),some (.int now),some (.ref pb),some (.ref p),v5]/\aC H H'/\H' pb=some (.dK kb)/\(∃kvs,H' p=some (.dK kvs)/\gq A H' kvs sa (cG now l i) c)/\∀j f,j<i->(aN l)[j]? =some f->c f.num=cause l (cG now l j) f)
  ⟨none,λ_=>0,λ_=>none,rfl,s2,by rw[ak TV];exact vT,⟨[],ao,rfl,λt ht=>absurd ht (by show t∉[];simp)⟩,λj f hj=>absurd hj (uM _)⟩ (λi σ H' _⟨_,_,_,_,s5,_⟩=>s5.seq hS) ?_ ?_⟩
 ·rintro i x σ H2 H2' hi ⟨v5,sa,c,rfl,s3,e1,⟨kvs,e2,e3⟩,e4⟩ ⟨rfl,hx⟩
  rw[aD]at hi;obtain⟨f,hf,rfl⟩:=el hx;have hm:f∈aN l:=du hf;have hO:=(hF f hm).same s3;obtain⟨kf,lT,hK⟩:=JE f hm;have ae9:=s3 _ _ lT;have hK2:=hK.keep λt zs q=>s3 _ _ q;have hPr:=CU hN hf;have zi:fe f.num≠p:=ba lT mW;refine⟨_,rfl,_,rfl,_,rfl,dn T hO ⟨pb,_,rfl,bq (.inl e1) (hB i f hf),_,rfl,_,rfl,fa f.num,f,fe f.num,kf,prior l f,vN fa (jS (aN l) i f.tail),p,kvs,sa,cG now l i,c,now,l,rfl,hO,ae9,hK2,(hG f hm).1,(hG f hm).2,rfl,?_,e2,zi,e3,λH3 q s4 nq hq=>?_⟩⟩
  ·rw[hPr]
   cases hb:jS (aN l) i f.tail with
   |none=>rfl|some g=>have hg:=JC hb;refine⟨fa g.num,fe g.num,rfl,(hF g (Fg hg)).same s3,?_⟩;rw[tN,mU];exact aB.mpr ⟨g,hg,rfl⟩
  ·have zj:H q=none:=s3.free nq
   have pM:=s4 _ _ e2;have tT:bZ kvs (ay (f.num:Int))=none:=by
    rw[e3.eq,iu,oh.mpr]
    ·rfl
    ·rw[mU]
     intro z;obtain⟨g,hg,e⟩:=aB.mp z;obtain⟨j,hj,rfl⟩:=h_ hg;rw[jd]at hj;have jn:(aN l)[j]? =some ((aN l).take i)[j]:=by rw[oK];exact dY (by lia)
     have:=vM JF jn hf e;lia
   have hlen:kvs.length<aS:=by rw[e3.eq,aD];have h5:=eW k6 (mU now l i);rw[aD,aD]at h5;rw[h5];exact k7 (aZ (k5 _ _) tS) (by decide)
   refine⟨_,rfl,_,rfl,dn T (hO.same s4) ⟨p,_,rfl,iL pM hlen,_,λn=>if n=f.num then q else sa n,λn=>if n=f.num then cause l (cG now l i) f else c n,rfl,(s3.trans s4).bW mW,?_,?_,?_⟩⟩
   ·rw[ak TV]
    exact s4 _ _ e1
   ·refine⟨_,ao,?_,?_⟩
    ·rw[qO _ tT,e3.eq,vR hf,bS]
     congr 1
     ·refine dE λt ht=>?_
      rw[ah];intro e;rw[e3.eq,iu]at tT;have:=oh.mp (Fz.mp tT);exact this (aB.mpr ⟨t,ht,e⟩)
     ·show[(ay (f.num:Int),V.ref q)]=[((ay (f.num:Int):Key),V.ref (if f.num=f.num then q else sa f.num))]
      rw[aj rfl]
    ·intro t ht
     rw[vR hf]at ht;have CZ:∀a C dx fs,H3 a=some (.ins C dx fs)->(upd H3 p (.dK (putK kvs (ay (f.num:Int)) (.ref q)))) a=some (.ins C dx fs):=λa C dx fs z=>by rw[ak (cZ z pM (by intro y;cases y))];exact z
     rcases cu.mp ht with ht|ht
     ·have cD:t.num≠f.num:=λe=>by rw[e3.eq,iu]at tT;have:=oh.mp (Fz.mp tT);exact this (aB.mpr ⟨t,ht,e⟩)
      rw[ah cD,ah cD];obtain⟨dx,z⟩:=e3.at_ t ht;exact⟨dx,CZ _ _ _ _ (s4 _ _ z)⟩
     ·obtain rfl:=cj.mp ht
      show kI A _ (if f.num=f.num then q else _) _ _ (if f.num=f.num then _ else _);rw[aj rfl,aj rfl];obtain⟨dx,z⟩:=hq;exact⟨dx,CZ _ _ _ _ z⟩
   ·intro j g hj hg
    by_cases e:j=i
    ·subst e
     rw[hf]at hg;cases hg;exact aj rfl
    ·have cD:g.num≠f.num:=λz=>e (vM JF hg hf z)
     show(if g.num=f.num then _ else _)=_;rw[ah cD];exact e4 j g (by lia) hg
 ·rintro σ H2 ⟨v5,sa,c,rfl,s3,e1,⟨kvs,e2,e3⟩,e4⟩
  rw[aD]at e3 e4;rw[Jw]at e3;exact⟨_,rfl,k H2 p kvs sa c s3 mW e2 e3 λi f hf=>e4 i f (eo.mp hf).1 hf⟩
end WD
namespace L2
theorem tU{σ:L2.St}{A B:Hp->Prop}(h:A H):Hr σ H λb H3=>if b=true then A H3 else B H3:=by unfold Hr;exact aY h
end L2
namespace WD
open PySem PySem.Spec PyProof.Rows L2 Vbahaj
variable{P:bR}{w:bI}{K:aG}{mg:ai->Option ag}{base:bg}{A:Ad}{f:af}{fd:eB}
def dI(l:List aw):List (Key×V):=l.map λf=>(ay (f.num:Int),V.int (f.tail:Nat))
theorem pN{α:Type}{k:α->Nat}{g:α->V}(n:Nat):∀l:List α,bZ (l.map λx=>((ay (k x:Int):Key),g x)) (ay (n:Int))=(l.find? λx=>k x==n).map g
 |[]=>rfl|x::l=>by
  rw[cV];by_cases e:k x=n
  ·rw[jm (by rw[<-e]),xj (by rw[e];exact oH _)]
   rfl
  ·rw[iF (i8 e),AF (by intro z;exact e (eq_of_beq z))]
   exact pN n l
theorem gu{l:List aw}{n:Nat}{f:aw}(h:eM l n=some f):f∈l/\f.num=n:=⟨iA h,by unfold eM at h;have:=gU h;simpa using this⟩
theorem jV{l:List aw}(hN:(l.map λf=>f.num).Nodup){f:aw}(hf:f∈l):eM l f.num=some f:=by cases h:eM l f.num with
 |none=>
  have:=iR.mp h f hf
  simp at this|some g=>rw[ja hN (gu h).1 hf (gu h).2]
theorem rp{l:List aw}(hN:(l.map λf=>f.num).Nodup):lR (dI l) l:=λf hf=>by unfold dI;rw[pN (k:=λf:aw=>f.num) (g:=λf:aw=>V.int (f.tail:Nat)) f.num l,show(l.find? λx=>x.num==f.num)=some f from jV hN hf];rfl
theorem lR.sub(h:lR kt l)(s:∀f,f∈m->f∈l):lR kt m:=λf hf=>h f (s f hf)
theorem fF.sub(h:fF A H fa fe l)(s:∀f,f∈m->f∈l):fF A H fa fe m:=λf hf=>h f (s f hf)
theorem lS.sub(h:lS H fe l)(s:∀f,f∈m->f∈l):lS H fe m:=λf hf=>h f (s f hf)
theorem zh.sub(h:zh l)(s:∀f,f∈m->f∈l):zh m:=λf hf=>h f (s f hf)
theorem cq:∀f,f∈aN l->f∈l:=λf hf=>(i_.mp hf).1
structure kM(l:List aw):Prop where
 nd:(l.map λf=>f.num).Nodup
 len:l.length<=24
 good:zh l
structure vU(A:Ad)(H:Hp)(df dt:af)(fa fe:Nat->af)(l:List aw):Prop where
 fl:H df=some (.dK (cA fa l))
 tl:H dt=some (.dK (dI l))
 bB:fF A H fa fe l
 feeds:lS H fe l
theorem fq.same(h:fq A H a now df dt dp ls)(s:aC H H'):fq A H' a now df dt dp ls:=let⟨dx,e⟩:=h;⟨dx,s _ _ e⟩
def rq(ts:List Time)(f:aw):Nat:=((bG ts f.num).map λt=>t.arrive).getD 0-f.arr
theorem JG:∀(l:List Nat)(z:Nat),l.foldl (·+·) z=z+l.foldl (·+·) 0|[],z=>rfl|a::l,z=>by show l.foldl (·+·) (z+a)=z+l.foldl (·+·) (0+a);rw[JG l (z+a),JG l (0+a)];lia
theorem TX:∀l:List Nat,(l.map λn:Nat=>(n:Int)).sum=((l.foldl (·+·) 0:Nat):Int)|[]=>rfl|a::l=>by rw[cV,qr,TX l];show _=((l.foldl (·+·) (0+a):Nat):Int);rw[JG l (0+a)];lia
theorem oj(hN:(ts.map λt=>t.num).Nodup)(ht:t∈ts):bG ts t.num=some t:=by cases h:bG ts t.num with|none=>have:=iR.mp h t ht;simp at this|some u=>obtain⟨h1,h2⟩:=kL h;obtain⟨i,hi,rfl⟩:=h_ ht;obtain⟨j,hj,rfl⟩:=h_ h1;have:=vw hN (i:=j) (j:=i) (x:=(ts[i]).num) (by rw[fz,dY hj];exact eW some h2) (by rw[fz,dY hi];rfl);subst this;rfl
theorem afa{l:List aw}(hN:(l.map λf=>f.num).Nodup)(now:Nat):fS now l=((aN l).map λf=>rq (times now l) f).foldl (·+·) 0:=by
 unfold fS;congr 1;have hn:((times now l).map λt=>t.num).Nodup:=by rw[iN];exact rm hN
 have e:∀(ts:List Time)(fs:List aw),(∀t,t∈ts->t∈times now l)->(∀f,f∈fs->f∈aN l)->ts.map (λt=>t.num)=fs.map (λf=>f.num)->(ts.map λt=>match eM l t.num with|some f=>t.arrive-f.arr|none=>0)=fs.map λf=>rq (times now l) f:=by
  intro ts;induction ts with
  |nil=>intro fs _ _ h;cases fs with
   |nil=>rfl|cons f fs=>cases h
  |cons t ts ih=>intro fs h1 h2 h;cases fs with
   |nil=>cases h|cons f fs=>
    rw[cV,cV]at h;injection h with h3 h4
    rw[cV,cV,ih fs (λt ht=>h1 t (b8 _ ht)) (λf hf=>h2 f (b8 _ hf)) h4];congr 1;have hf:f∈l:=cq f (h2 f cK);unfold rq;rw[h3,jV hN hf,<-h3,oj hn (h1 t cK)];rfl
 exact e _ _ (λt h=>h) (λf h=>h) (iN now l)
abbrev JH:aV:=top 30
theorem afb:bu ["house"] ["house"] (bb JH):=bC
inductive om(A:Ad)(vs:List V)(H:Hp)(Q:VK)(E:XK):Prop|mk h now df dt dp ls fa fe l (z:vs=[.ref h]) (z:fq A H h now df dt dp ls) (z:vU A H df dt fa fe l) (z:kM l) (z:∀H' p kvs sa c,aC H H'->H p=none->H' p=some (.dK kvs)->gq A H' kvs sa (times now l) c->TU now l c->Q (.ref p) H')
theorem afc(F:bh K "house_stands" "house_stands" JH f fd)(T:Txt K mg A)(vV:Glob P w K mg base "stands_of" 6 ["flying","tails","now"] (JB A K))(iw:dm P w K mg base A.CH "flying" 4 ["self"] (tQ A)):aX P w K mg base bc 7 f fd ["house"] (om A):=by
 refine F.bH afb λH vs Q E hr hu h=>?_;obtain⟨h,now,df,dt,dp,ls,fa,fe,l,rfl,hH,hF,hG,k⟩:=h;refine⟨_,(az (aK (bK vV hr (aM (fk (pv 0) T.cH iw hr) (aM (au K (pv 0)) (ax (au K (pv 0)))))))),?_⟩;obtain⟨dx,hx⟩:=id hH;refine⟨_,rfl,h,dx,_,rfl,hx,rfl,h,now,df,dt,dp,ls,fa,fe,l,rfl,hH,hF.fl,hF.bB,hG.nd,aZ hG.len (by decide),λH1 p s1 np hp=>?_⟩;have bP:=hH.same s1;exact⟨_,rfl,lN T bP ⟨_,rfl,n_ T bP ⟨p,dt,_,fa,fe,l,now,rfl,aE.of hp,(hF.bB.same s1).sub cq,(hF.feeds.same s1).sub cq,hG.good.sub cq,.inl (s1 _ _ hF.tl),(rp hG.nd).sub cq,hG.nd,aZ hG.len (by decide),λH2 q kvs sa c s2 nq hq hs hc=>k H2 q kvs sa c (s1.trans s2) (s1.free nq) hq hs hc⟩⟩⟩
abbrev JI:aV:=top 32
theorem afd:bu ["flight","stand","now"] ["flight","stand","now"] (bb JI):=bC
inductive C0(A:Ad)(vs:List V)(H:Hp)(Q:VK)(E:XK):Prop|mk a f d b l r c (now:Nat) (z:vs=[.ref a,.ref b,.int now]) (z:b_ A H a f d) (z:kI A H b l r c) (z:Q (.bl (f.left.isSome&&decide (r<=now))) H)
theorem afe(F:bh K "has_arrived" "has_arrived" JI f fd)(T:Txt K mg A):aX P w K mg base bc 1 f fd ["flight","stand","now"] (C0 A):=by refine F.bH afd λH vs Q E hr hu h=>?_;obtain⟨a,f,d,b,l,r,c,now,rfl,hF,hS,k⟩:=h;refine⟨_,(az (aK (qH (qG (o3 (au K (pv 0)))) (nS (n8 jK (au K (pv 1)) (pv 2)))))),_,rfl,pH T hF ?_⟩;cases hl:f.left with
 |none=>rw[hl]at k;exact⟨_,rfl,lH rfl k⟩|some n=>
  rw[hl]at k;refine⟨_,rfl,lO nofun ⟨_,rfl,oa T hS ⟨_,rfl,_,_,rfl,rfl,?_⟩⟩⟩;have e:decide ((r:Int)<=now)=decide (r<=now):=by
   by_cases h:r<=now
   ·rw[dX h,dX (by lia)]
   ·rw[c9 h,c9 (by lia)]
  show Q (V.bl (decide ((r:Int)<=now))) H;rw[e];exact k
abbrev JJ:aV:=top 31
theorem C1:bu ["flying","tails","now","stands","flight"] ["flying","tails","now"] (bb JJ):=bC
inductive JK(A:Ad)(K:aG)(vs:List V)(H:Hp)(Q:VK)(E:XK):Prop|mk fl dt kt fa fe (l:List aw) (now:Nat) (z:vs=[.ref fl,.ref dt,.int now]) (z:aE K H fl ((aN l).map λf=>V.ref (fa f.num))) (z:fF A H fa fe (aN l)) (z:lS H fe (aN l)) (z:Rd H dt (.dK kt)) (z:lR kt (aN l)) (z:kM l) (z:∀H',aC H H'->Q (.int (fS now l:Nat)) H')
theorem aff(F:bh K "lateness" "lateness" JJ f fd)(T:Txt K mg A)(vV:Glob P w K mg base "stands_of" 6 ["flying","tails","now"] (JB A K)):aX P w K mg base bc 7 f fd ["flying","tails","now"] (JK A K):=by
 refine F.bH C1 λH vs Q E hr hu h=>?_;obtain⟨fl,dt,kt,fa,fe,l,now,rfl,hS,hF,JE,hD,hT,hG,k⟩:=h;have TY:l.length<=100:=aZ hG.len (by decide)
 refine⟨_,(aq (bf 3 C1.nd (bK vV hr (aM (pv 0) (aM (pv 1) (ax (pv 2)))))) (az (aK (lA (adU rfl) (by rfl) T.sum boot_sum (ax (jR [("flight",4)] C1.nd (fV (pv 0)) (c7 4 C1.nd) s_ (lA (GX rfl) (by rfl) T.max FQ (aM (fg vf (au K (cC hu (pv 3) (au K (pv 4)))) (au K (pv 4))) (ax aJ))))))))),?_⟩
 refine⟨_,rfl,_,rfl,_,rfl,fl,dt,kt,fa,fe,l,now,rfl,hS,hF,JE,hG.good.sub cq,hD,hT,hG.nd,TY,λH1 p kvs sa c s1 np hp hs hc=>⟨_,rfl,fl,rfl,⟨_,s1.seq hS⟩,λD nD=>?_⟩⟩;have pK:H D=none:=s1.free nD;have vW:p≠D:=ba hp nD
 refine i7 fX (λi H2=>aC H H2/\H2 p=some (.dK kvs)/\gq A H2 kvs sa (times now l) c/\H2 D=some (.lst ((((aN l).take i).map λf=>rq (times now l) f).map λn:Nat=>V.int n))) ⟨s1.bW pK,by rw[ak vW];exact hp,hs.keep λa C dx fs q=>by rw[ak (ba q nD)];exact q,ao⟩ (λi H2 _ h=>h.1.seq hS) ?_ ?_
 ·rintro i x H2 H3 hi ⟨s2,e1,e2,e3⟩ ⟨rfl,hx⟩
  obtain⟨f,hf,rfl⟩:=el hx;have hm:f∈aN l:=du hf;have hO:=(hF f hm).same s2;obtain⟨t,ht⟩:∃t,bG (times now l) f.num=some t:=nA.mp (by rw[tN,iN];exact aB.mpr ⟨f,hm,rfl⟩);have lQ:=e2.at_ t (kL ht).1;refine⟨rfl,tU ⟨_,rfl,_,rfl,dn T hO ⟨p,_,rfl,bq (.inl e1) (by rw[e2.eq,iu,ht];rfl),oa T lQ ⟨_,rfl,tJ T hO ⟨_,_,rfl,rfl,_,_,rfl,_,e3,?_,s2.bW pK,by rw[ak vW];exact e1,e2.keep λa C dx fs q=>by rw[ak (cZ q e3 nofun)];exact q,?_⟩⟩⟩⟩⟩
  ·rw[aD,aD]
   exact k7 (aZ (k5 _ _) (aZ (g9 l) TY)) (by decide)
  ·rw[ao,take_snoc hf,bS,bS]
   congr 2;show _++[_]=_++[_];congr 2;have e:rq (times now l) f=t.arrive-f.arr:=by unfold rq;rw[ht];rfl
   show V.int _=V.int ((rq (times now l) f:Nat):Int);rw[e];congr 1;split<;>lia
 ·rintro H2 ⟨s2,e1,e2,e3⟩
  rw[aD,dQ]at e3;refine⟨D,((aN l).map λf=>rq (times now l) f).map λn:Nat=>(n:Int),rfl,aE.of (by rw[dv];exact e3),?_⟩;rw[TX,<-afa hG.nd];exact k H2 s2
theorem JL{l:List aw}(hN:(l.map λf=>f.num).Nodup){f:aw}(hf:f∈aN l):bU l f=((aN l).filter λg=>g.tail==f.tail).filter λg=> !before g f:=by
 unfold bU;rw[xo];refine uK λg hg=>?_;by_cases e:g.num=f.num
 ·have:=ja hN (cq g hg) (cq f hf) e
  subst this;have:before g g=false:=by cases h:before g g;rfl;exact absurd h (Js g)
  simp[this]
 ·have e2:(g.num==f.num)=false:=by simpa using e
  rcases Jt e with h|h
  ·have h2:before f g=false:=by cases h3:before f g;rfl;exact absurd h3 (ze h)
   simp[e2,h,h2]
  ·have h2:before g f=false:=by cases h3:before g f;rfl;exact absurd h3 (ze h)
   simp[e2,h,h2,E6]
theorem pO{α:Type}{p:α->Bool}{l:List α}{i n:Nat}(h:l.length<=n)(hn:n<aS):((l.take i).filter p).length<aS:=k7 (aZ (e_ _ _) (aZ (k5 _ _) h)) hn
abbrev JM:aV:=top 6
theorem JN:bu ["flying","tails","tail","flight"] ["flying","tails","tail"] (bb JM):=bC
inductive JO(A:Ad)(K:aG)(vs:List V)(H:Hp)(Q:VK)(E:XK):Prop|mk fl dt kt fa fe (fs:List aw) (t:Nat) (z:vs=[.ref fl,.ref dt,.int t]) (z:aE K H fl (fs.map λf=>V.ref (fa f.num))) (z:fF A H fa fe fs) (z:Rd H dt (.dK kt)) (z:lR kt fs) (z:fs.length<=100) (z:∀H' p,aC H H'->H p=none->H' p=some (.lst ((fs.filter λg=>g.tail==t).map λf=>V.ref (fa f.num)))->Q (.ref p) H')
theorem afg(F:bh K "flown_by" "flown_by" JM f fd)(T:Txt K mg A):aX P w K mg base bc 1 f fd ["flying","tails","tail"] (JO A K):=by
 refine F.bH JN λH vs Q E hr hu h=>?_;obtain⟨fl,dt,kt,fa,fe,fs,t,rfl,hS,hF,hD,hT,hL,k⟩:=h;refine⟨_,(az (aK (jR [("flight",3)] JN.nd (fV (pv 0)) (c7 3 JN.nd) (o_ (dS mB (cC hu (pv 1) (au K (pv 3))) (pv 2))) (pv 3)))),_,rfl,fl,rfl,⟨_,hS⟩,λD nD=>i7 fX (λi H1=>aC H H1/\H1 D=some (.lst (((fs.take i).filter λg=>g.tail==t).map λf=>V.ref (fa f.num)))) ⟨bL nD,ao⟩ (λi H1 _ h=>h.1.seq hS) ?_ ?_⟩
 ·rintro i x H1 H2 hi ⟨s1,e1⟩ ⟨rfl,hx⟩
  obtain⟨f,hf,rfl⟩:=el hx;have hm:f∈fs:=du hf;have hO:=(hF f hm).same s1;refine⟨rfl,_,rfl,_,rfl,dn T hO ⟨dt,_,rfl,bq (mT hD λo e=>s1 _ o e) (hT f hm),_,rfl,rfl,_,rfl,dO (λh=>?_) λh=>?_⟩⟩
  ·have h:f.tail=t:=by have:=V.int.inj h;lia
   refine⟨_,rfl,_,e1,?_,s1.bW nD,?_⟩
   ·rw[aD]
    exact pO hL (by decide)
   ·rw[ao,take_snoc hf,fy,bX,aj (by rw[h];exact oH _),gL,bS]
    rfl
  ·refine⟨s1,?_⟩
   rw[take_snoc hf,fy,bX,ah (by intro z;exact h (by rw[eq_of_beq z])),gL,je];exact e1
 ·rintro H1 ⟨s1,e1⟩
  rw[aD,dQ]at e1;exact k H1 D s1 nD e1
abbrev JP:aV:=top 7
theorem C2:bu ["flying","tails","first","same","flight"] ["flying","tails","first"] (bb JP):=bC
inductive JQ(A:Ad)(K:aG)(vs:List V)(H:Hp)(Q:VK)(E:XK):Prop|mk fl dt kt fa fe fs f0 (z:vs=[.ref fl,.ref dt,.ref (fa f0.num)]) (z:aE K H fl (fs.map λf:aw=>V.ref (fa f.num))) (z:fF A H fa fe fs) (z:f0∈fs) (z:Rd H dt (.dK kt)) (z:lR kt fs) (z:fs.length<=100) (z:∀H' p,aC H H'->H p=none->H' p=some (.lst (((fs.filter λg=>g.tail==f0.tail).filter λg=> !before g f0).map λf=>V.ref (fa f.num)))->Q (.ref p) H')
theorem afh(F:bh K "flown_from" "flown_from" JP f fd)(T:Txt K mg A)(vX:Glob P w K mg base "flown_by" 1 ["flying","tails","tail"] (JO A K))(tR:Glob P w K mg base "order" 1 ["flight"] (Jd A)):aX P w K mg base bc 2 f fd ["flying","tails","first"] (JQ A K):=by
 refine F.bH C2 λH vs Q E hr hu h=>?_;obtain⟨fl,dt,kt,fa,fe,fs,f0,rfl,hS,hF,h0,hD,hT,hL,k⟩:=h
 refine⟨_,(aq (bf 3 C2.nd (bK vX hr (aM (pv 0) (aM (pv 1) (ax (cC hu (pv 1) (au K (pv 2)))))))) (az (aK (jR [("flight",4)] C2.nd (fV (pv 3)) (c7 4 C2.nd) (o_ (dS (aeo (K:=K) hr.abG rfl) (bK tR hr (ax (pv 4))) (bK tR hr (ax (pv 2))))) (pv 4))))),?_⟩
 refine⟨_,rfl,_,rfl,_,rfl,_,rfl,dn T (hF f0 h0) ⟨dt,_,rfl,bq hD (hT f0 h0),fl,dt,kt,fa,fe,fs,f0.tail,rfl,hS,hF,hD,hT,hL,λH1 p s1 np hp=>?_⟩⟩;generalize kE:(fs.filter λg=>g.tail==f0.tail)=gs at hp k;have gh:∀g,g∈gs->g∈fs:=λg hg=>by rw[<-kE]at hg;exact(ck.mp hg).1
 have hLg:gs.length<=100:=by rw[<-kE];exact aZ (e_ _ _) hL
 refine⟨_,rfl,p,rfl,⟨_,aE.of hp⟩,λD nD=>?_⟩;have pK:=s1.free nD;have vW:p≠D:=ba hp nD;refine i7 fX (λi H2=>aC H H2/\H2 p=some (.lst (gs.map λf=>V.ref (fa f.num)))/\H2 D=some (.lst (((gs.take i).filter λg=> !before g f0).map λf=>V.ref (fa f.num)))) ⟨s1.bW pK,by rw[ak vW];exact hp,ao⟩ (λi H2 _ h=>aE.of h.2.1) ?_ ?_
 ·rintro i x H2 H3 hi ⟨s2,e1,e2⟩ ⟨rfl,hx⟩
  obtain⟨f,hf,rfl⟩:=el hx;have hm:f∈fs:=gh f (du hf);have hO:=(hF f hm).same s2;have hO0:=(hF f0 h0).same s2;refine⟨rfl,_,rfl,fa f.num,f,fe f.num,rfl,hO,λt1 rA=>⟨_,rfl,fa f0.num,f0,fe f0.num,rfl,hO0.same (bL rA),λt2 TZ=>?_⟩⟩;have n12:t1≠t2:=ba ao TZ;have s3:aC H3 (upd (upd H3 t1 (.tup [.int f.dep,.int f.num])) t2 (.tup [.int f0.dep,.int f0.num])):=(bL rA).bW ((bL rA).free TZ);refine⟨t1,t2,[(f.dep:Int),(f.num:Int)],[(f0.dep:Int),(f0.num:Int)],rfl,rfl,cW.of (by rw[ak n12,ao];rfl),cW.of ao,_,rfl,?_⟩;have e:(!HT.lexLt [(f.dep:Int),(f.num:Int)] [(f0.dep:Int),(f0.num:Int)])= !before f f0:=by rw[zg];congr 1;rw[xg,jT];simp;lia
  rw[e];generalize upd (upd H3 t1 (.tup [.int f.dep,.int f.num])) t2 (.tup [.int f0.dep,.int f0.num])=H4 at s3;cases hb:before f f0 with
  |true=>refine bp ⟨s2.trans s3,s3 _ _ e1,?_⟩;rw[take_snoc hf,fy,bX,ah (by rw[hb];decide),gL,je];exact s3 _ _ e2|false=>
   refine aY ⟨_,rfl,_,s3 _ _ e2,?_,(s2.trans s3).bW pK,by rw[ak vW];exact s3 _ _ e1,?_⟩
   ·rw[aD]
    exact pO hLg (by decide)
   ·rw[ao,take_snoc hf,fy,bX,aj (by rw[hb];decide),gL,bS]
    rfl
 ·rintro H2 ⟨s2,e1,e2⟩
  rw[aD,dQ]at e2;exact k H2 D s2 pK e2
abbrev JR:aV:=top 8
theorem afi:bu ["earlier","flight"] ["earlier","flight"] (bb JR):=bC
inductive T3(A:Ad)(vs:List V)(H:Hp)(Q:VK)(E:XK):Prop|mk (fa fe:Nat->af) (e:Option aw) a f d (z:vs=[vN fa e,.ref a]) (z:(∀g,e=some g->b_ A H (fa g.num) g (fe g.num))) (z:b_ A H a f d) (z:Q (.bl (xZ e f)) H)
theorem afj(F:bh K "can_come" "can_come" JR f fd)(T:Txt K mg A):aX P w K mg base bc 1 f fd ["earlier","flight"] (T3 A):=by refine F.bH afi λH vs Q E hr hu h=>?_;obtain⟨fa,fe,e,a,f,d,rfl,hE,hF,k⟩:=h;refine⟨_,(az (aK (Qz (qG (yf (pv 0))) (nS (n8 jK (au K (pv 0)) (au K (pv 1))))))),?_⟩;cases e with
 |none=>exact⟨_,rfl,_,rfl,aY k⟩|some g=>
  have hG:=hE g rfl;refine⟨_,rfl,_,rfl,bp ⟨_,rfl,tJ T hG ⟨_,rfl,qY T hF ⟨_,_,rfl,rfl,?_⟩⟩⟩⟩;have e:decide ((g.arr:Int)<=f.dep)=decide (g.arr<=f.dep):=by
   by_cases h:g.arr<=f.dep
   ·rw[dX h,dX (by lia)]
   ·rw[c9 h,c9 (by lia)]
  show Q (V.bl (decide ((g.arr:Int)<=f.dep))) H;rw[e];exact k
abbrev JS:aV:=top 9
theorem afk:bu ["tails","before","one","other"] ["tails","before","one","other"] (bb JS):=bC
def T4(fa:Nat->af)(kb:List (Key×V))(l:List aw):Prop:=∀f,f∈aN l->bZ kb (ay (f.num:Int))=some (vN fa (prior l f))
theorem T5{l:List aw}{f g:aw}(h:prior l f=some g):g∈aN l:=(ck.mp (Ff h)).1
inductive JT(A:Ad)(vs:List V)(H:Hp)(Q:VK)(E:XK):Prop|mk dt db kt kb fa fe (l:List aw) (f g:aw) (z:vs=[.ref dt,.ref db,.ref (fa f.num),.ref (fa g.num)]) (z:fF A H fa fe (aN l)) (z:Rd H dt (.dK kt)) (z:lR kt (aN l)) (z:Rd H db (.dK kb)) (z:T4 fa kb l) (z:f∈aN l) (z:g∈aN l) (z:Q (.bl (kh l f g)) H)
theorem afl(F:bh K "can_exchange" "can_exchange" JS f fd)(T:Txt K mg A)(C3:Glob P w K mg base "can_come" 1 ["earlier","flight"] (T3 A)):aX P w K mg base bc 2 f fd ["tails","before","one","other"] (JT A):=by
 refine F.bH afk λH vs Q E hr hu h=>?_;obtain⟨dt,db,kt,kb,fa,fe,l,f,g,rfl,hF,hD,hT,hB,hK,hf,hg,k⟩:=h;have pP:=hF f hf;have fM:=hF g hg;have T6:kh l f g=(f.tail !=g.tail&&(f.src==g.src&&(xZ (prior l f) g&&xZ (prior l g) f))):=rfl
 refine⟨_,(aq (bo (PW.pt (jj (dS mB (cC hu (pv 0) (au K (pv 2))) (cC hu (pv 0) (au K (pv 3)))) (ji (dS vg (au K (pv 2)) (au K (pv 3)))))) (az (aK ik)) bt) (az (aK (qH (bK C3 hr (aM (cC hu (pv 1) (au K (pv 2))) (ax (pv 3)))) (nS (bK C3 hr (aM (cC hu (pv 1) (au K (pv 3))) (ax (pv 2))))))))),?_⟩
 refine⟨_,rfl,_,rfl,dn T pP ⟨dt,_,rfl,bq hD (hT f hf),_,rfl,_,rfl,dn T fM ⟨dt,_,rfl,bq hD (hT g hg),rfl,_,rfl,dO (λh=>?_) λh=>?_⟩⟩⟩
 ·refine aY ?_
  have h:f.tail=g.tail:=by have:=V.int.inj h;lia
  rw[T6,show(f.tail !=g.tail)=false by simp[h]]at k;exact k
 ·have h:f.tail≠g.tail:=λz=>h (by rw[z])
  rw[T6,show(f.tail !=g.tail)=true by simp[h]]at k;refine⟨_,rfl,qX T pP ⟨_,rfl,qX T fM ⟨rfl,_,rfl,?_⟩⟩⟩;by_cases h2:f.src=g.src
  ·refine lH (by rw[h2]) ?_
   rw[show(f.src==g.src)=true by simp[h2]]at k;refine⟨_,rfl,_,rfl,dn T pP ⟨db,_,rfl,bq hB (hK f hf),_,rfl,fa,fe,prior l f,fa g.num,g,fe g.num,rfl,λx hx=>hF x (T5 hx),fM,_,rfl,?_⟩⟩;cases h3:xZ (prior l f) g with
   |false=>rw[h3]at k;exact bp k|true=>rw[h3]at k;exact aY ⟨_,rfl,_,rfl,dn T fM ⟨db,_,rfl,bq hB (hK g hg),_,rfl,fa,fe,prior l g,fa f.num,f,fe f.num,rfl,λx hx=>hF x (T5 hx),pP,k⟩⟩
  ·refine lO (λz=>h2 (by have:=V.int.inj z;lia)) ?_
   rw[show(f.src==g.src)=false by simp[h2]]at k;exact k
def mX(l:List aw)(τ:aw->Nat):List (Key×V):=l.map λx=>(ay (x.num:Int),V.int (τ x:Nat))
theorem T7{τ:aw->Nat}{n v:Nat}(h:n∈l.map λf=>f.num):putK (mX l τ) (ay (n:Int)) (V.int (v:Nat))=mX l λx=>if x.num=n then v else τ x:=by
 unfold putK mX;rw[aj]
 ·rw[dv]
  refine dE λx _=>?_;show(if(ay (x.num:Int):Key)=ay (n:Int)then _ else _)=((ay (x.num:Int):Key),V.int ((if x.num=n then v else τ x:Nat):Int));by_cases e:x.num=n
  ·rw[aj (by rw[e]),aj e]
  ·rw[ah (i8 e),ah e]
 ·obtain⟨x,hx,e⟩:=aB.mp h
  rw[OD,Fn];exact⟨x,hx,dX (by show(ay (x.num:Int):Key)=ay (n:Int);rw[e])⟩
theorem T8{τ σ:aw->Nat}(h:∀x,x∈l->τ x=σ x):mX l τ=mX l σ:=dE λx hx=>by rw[h x hx]
theorem zk{l:List aw}{f x:aw}(h:x∈bU l f):x∈aN l/\x.tail=f.tail:=by obtain⟨h1,h2⟩:=ck.mp h;rw[cJ]at h2;exact⟨h1,eq_of_beq h2.1⟩
theorem afm{l:List aw}(hN:(l.map λf=>f.num).Nodup){f g:aw}(cD:f.tail≠g.tail):dI (gB l f g)=mX l λx=>if((bU l g).map λy=>y.num).contains x.num=true then f.tail else if((bU l f).map λy=>y.num).contains x.num=true then g.tail else x.tail:=by
 unfold dI gB mX;rw[dv];refine dE λx hx=>?_;show((ay (((if _ then _ else _:aw).num:Nat):Int):Key),V.int (((if _ then _ else _:aw).tail:Nat):Int))=((ay (x.num:Int):Key),V.int ((if((bU l g).map λy=>y.num).contains x.num=true then f.tail else if((bU l f).map λy=>y.num).contains x.num=true then g.tail else x.tail:Nat):Int));by_cases ha:((bU l f).map λy=>y.num).contains x.num=true
 ·have hb:¬((bU l g).map λy=>y.num).contains x.num=true:=λhb=>by rw[fD]at ha hb;obtain⟨y,hy,ey⟩:=aB.mp ha;obtain⟨z,hz,ez⟩:=aB.mp hb;obtain⟨y1,y2⟩:=zk hy;obtain⟨z1,z2⟩:=zk hz;have:=ja hN (cq y y1) (cq z z1) (ey.trans ez.symm);subst this;exact cD (y2.symm.trans z2)
  rw[aj ha,ah hb,aj ha]
 ·rw[ah ha,ah ha]
  by_cases hb:((bU l g).map λy=>y.num).contains x.num=true
  ·rw[aj hb,aj hb]
  ·rw[ah hb,ah hb]
abbrev JU:aV:=top 10
theorem C4:bu ["flying","tails","one","other","changed","flight"] ["flying","tails","one","other"] (bb JU):=bC
inductive JV(A:Ad)(K:aG)(vs:List V)(H:Hp)(Q:VK)(E:XK):Prop|mk fl dt fa fe (l:List aw) (f g:aw) (z:vs=[.ref fl,.ref dt,.ref (fa f.num),.ref (fa g.num)]) (z:aE K H fl ((aN l).map λf=>V.ref (fa f.num))) (z:fF A H fa fe (aN l)) (z:Rd H dt (.dK (dI l))) (z:kM l) (z:f∈aN l) (z:g∈aN l) (z:f.tail≠g.tail) (z:∀H' p,aC H H'->H p=none->H' p=some (.dK (dI (gB l f g)))->Q (.ref p) H')
theorem afn(F:bh K "exchanged" "exchanged" JU f fd)(T:Txt K mg A)(tV:Glob P w K mg base "flown_from" 2 ["flying","tails","first"] (JQ A K)):aX P w K mg base bc 3 f fd ["flying","tails","one","other"] (JV A K):=by
 refine F.bH C4 λH vs Q E hr hu h=>?_;obtain⟨fl,dt,fa,fe,l,f,g,rfl,hS,hF,hD,hG,hf,hg,cD,k⟩:=h;have hT:lR (dI l) (aN l):=(rp hG.nd).sub cq;have hL:(aN l).length<=100:=aZ (g9 l) (aZ hG.len (by decide));have pz:∀τ,(mX l τ).length<aS:=λτ=>by unfold mX;rw[aD];exact k7 hG.len (by decide)
 have JW:=hT f hf;have htg:=hT g hg;have cont:∀(o:List aw)(i:Nat)(y x:aw),o[i]? =some y->(((o.take (i+1)).map λy=>y.num).contains x.num=true↔x.num=y.num∨((o.take i).map λy=>y.num).contains x.num=true):=λo i y x h=>by rw[take_snoc h,bS,fD,fD,cu];simp;exact FE
 refine⟨_,(aq (bf 4 C4.nd (Q3 adV (by rfl) T.dict boot_dict (ax (pv 1)))) (aq (gn (fV (bK tV hr (aM (pv 0) (aM (pv 1) (ax (pv 2)))))) (c7 5 C4.nd) (az (iK hu (pv 4) (au K (pv 5)) (cC hu (pv 1) (au K (pv 3))))))
   (aq (gn (fV (bK tV hr (aM (pv 0) (aM (pv 1) (ax (pv 3)))))) (c7 5 C4.nd) (az (iK hu (pv 4) (au K (pv 5)) (cC hu (pv 1) (au K (pv 2))))))
   (az (aK (pv 4)))))),?_⟩
 refine⟨_,rfl,dt,_,rfl,hD,λp np=>?_⟩;have s0:aC H (upd H p (.dK (dI l))):=bL np;refine⟨_,rfl,_,rfl,_,rfl,?_⟩;refine⟨fl,dt,_,fa,fe,aN l,f,rfl,s0.seq hS,hF.same s0,hf,mT hD (λo e=>s0 _ o e),hT,hL,λH1 q1 s1 nq1 pQ=>?_⟩;rw[<-JL hG.nd hf]at pQ;have JX:=s1 _ _ (show(upd H p (.dK (dI l))) p=_ from ao);have tW:p≠q1:=ba ao nq1
 refine⟨q1,rfl,⟨_,aE.of pQ⟩,gp fX (λi σ H'=>∃v5,σ=[some (.ref fl),some (.ref dt),some (.ref (fa f.num)),some (.ref (fa g.num)),some (.ref p),v5]/\aC H H'/\H' q1=some (.lst ((bU l f).map λf=>V.ref (fa f.num)))/\H' p=some (.dK (mX l λx=>if(((bU l f).take i).map λy=>y.num).contains x.num=true then g.tail else x.tail)))
  ⟨none,rfl,s0.trans s1,pQ,by rw[JX];rfl⟩ (λi σ H' _⟨_,_,_,h,_⟩=>aE.of h) ?_ ?_⟩
 ·rintro i x σ H2 H3 hi ⟨v5,rfl,s2,e1,e2⟩ ⟨rfl,hx⟩
  obtain⟨y,hy,rfl⟩:=el hx;have hm:y∈aN l:=(zk (du hy)).1;have hO:=(hF y hm).same s2;have fM:=(hF g hg).same s2;refine⟨_,rfl,?_⟩;refine⟨_,rfl,?_⟩;apply dn T fM;refine⟨dt,_,rfl,bq (mT hD λo e=>s2 _ o e) htg,_,rfl,?_⟩;refine⟨_,rfl,?_⟩;apply dn T hO;refine⟨p,_,rfl,iL e2 (pz _),_,rfl,s2.bW np,by rw[ak tW.symm];exact e1,?_⟩;rw[ao,T7 (aB.mpr ⟨y,cq y hm,rfl⟩)];congr 2;refine T8 λx hx=>?_;by_cases e:x.num=y.num
  ·rw[aj e,aj ((cont _ i y x hy).mpr (.inl e))]
  ·rw[ah e]
   by_cases e2:(((bU l f).take i).map λy=>y.num).contains x.num=true
   ·rw[aj e2,aj ((cont _ i y x hy).mpr (.inr e2))]
   ·rw[ah e2,ah (λz=>((cont _ i y x hy).mp z).elim e e2)]
 ·rintro σ H2 ⟨v5,rfl,s2,e1,e2⟩
  rw[aD,dQ]at e2;refine⟨_,rfl,_,rfl,_,rfl,?_⟩;refine⟨fl,dt,_,fa,fe,aN l,g,rfl,s2.seq hS,hF.same s2,hg,mT hD (λo e=>s2 _ o e),hT,hL,λH3 q2 s3 nq2 rh=>?_⟩;rw[<-JL hG.nd hg]at rh;have afo:p≠q2:=ba e2 nq2
  refine⟨q2,rfl,⟨_,aE.of rh⟩,gp fX (λi σ H'=>∃v5,σ=[some (.ref fl),some (.ref dt),some (.ref (fa f.num)),some (.ref (fa g.num)),some (.ref p),v5]/\aC H H'/\H' q2=some (.lst ((bU l g).map λf=>V.ref (fa f.num)))/\H' p=some (.dK (mX l λx=>if(((bU l g).take i).map λy=>y.num).contains x.num=true then f.tail else if((bU l f).map λy=>y.num).contains x.num=true then g.tail else x.tail)))
   ⟨v5,rfl,s2.trans s3,rh,s3 _ _ e2⟩ (λi σ H' _⟨_,_,_,h,_⟩=>aE.of h) ?_ ?_⟩
  ·rintro i x σ H4 H5 hi ⟨v5,rfl,s4,e3,e4⟩ ⟨rfl,hx⟩
   obtain⟨y,hy,rfl⟩:=el hx;have hm:y∈aN l:=(zk (du hy)).1;have hO:=(hF y hm).same s4;have pP:=(hF f hf).same s4;refine⟨_,rfl,?_⟩;refine⟨_,rfl,?_⟩;apply dn T pP;refine⟨dt,_,rfl,bq (mT hD λo e=>s4 _ o e) JW,_,rfl,?_⟩;refine⟨_,rfl,?_⟩;apply dn T hO;refine⟨p,_,rfl,iL e4 (pz _),_,rfl,s4.bW np,by rw[ak afo.symm];exact e3,?_⟩;rw[ao,T7 (aB.mpr ⟨y,cq y hm,rfl⟩)];congr 2;refine T8 λx hx=>?_;by_cases e:x.num=y.num
   ·rw[aj e,aj ((cont _ i y x hy).mpr (.inl e))]
   ·rw[ah e]
    by_cases e2:(((bU l g).take i).map λy=>y.num).contains x.num=true
    ·rw[aj e2,aj ((cont _ i y x hy).mpr (.inr e2))]
    ·rw[ah e2,ah (λz=>((cont _ i y x hy).mp z).elim e e2)]
  ·rintro σ H4 ⟨v5,rfl,s4,e3,e4⟩
   rw[aD,dQ]at e4;exact⟨_,rfl,k H4 p s4 np (by rw[e4,afm hG.nd cD])⟩
def q1:ai:="by_rank.<locals>.<lambda>"
def q2:ai:="wishes_of.<locals>.<lambda>"
def q3:ai:="find_best.<locals>.<lambda>"
def q4:ai:="move_clock.<locals>.<lambda>"
def dW(A:Ad)(H:Hp):Prop:=TabAt H A.P1 q1/\TabAt H A.P2 q2/\TabAt H A.P3 q3/\TabAt H A.P4 q4
theorem C5{H H':Hp}{P:af}{q:ai}(h:TabAt H P q)(k1:∀b ps,H b=some (.c_ ps)->H' b=some (.c_ ps))(k2:∀b φ,H b=some (.ext φ)->H' b=some (.ext φ)):TabAt H' P q:=let⟨ps,e,t⟩:=h;⟨ps,k1 _ _ e,t.mono λc e=>k2 _ _ e⟩
theorem dW.keep{A:Ad}{H H':Hp}(h:dW A H)(k1:∀b ps,H b=some (.c_ ps)->H' b=some (.c_ ps))(k2:∀b φ,H b=some (.ext φ)->H' b=some (.ext φ)):dW A H':=⟨C5 h.1 k1 k2,C5 h.2.1 k1 k2,C5 h.2.2.1 k1 k2,C5 h.2.2.2 k1 k2⟩
theorem dW.same(h:dW A H)(s:aC H H'):dW A H':=h.keep (λ_ _ e=>s _ _ e) λ_ _ e=>s _ _ e
theorem dW.upd(h:dW A H)(e:H a=some o)(n1:∀ps,HO.c_ ps≠o)(n2:∀φ,HO.ext φ≠o):dW A (upd H a o'):=h.keep (λb ps z=>by rw[ak (cZ z e (n1 ps))];exact z) λb φ z=>by rw[ak (cZ z e (n2 φ))];exact z
structure Gr(A:Ad)(H H':Hp):Prop where
 same:∀b o,H b=some o->(∀ps,o≠.c_ ps)->H' b=some o
 tabs:dW A H->dW A H'
 free:∀b,H' b=none->H b=none
theorem Gr.refl:Gr A H H:=⟨λ_ _ e _=>e,id,λ_ e=>e⟩
theorem Gr.of(s:aC H H'):Gr A H H':=⟨λb o e _=>s b o e,λt=>t.same s,λb e=>s.free e⟩
theorem Gr.trans(a:Gr A H H1)(b:Gr A H1 H2):Gr A H H2:=⟨λc o e n=>b.same c o (a.same c o e n) n,λt=>b.tabs (a.tabs t),λc e=>a.free c (b.free c e)⟩
theorem Gr.bW(s:Gr A H H')(h:H a=none)(e:H' a=some o)(n1:∀ps,HO.c_ ps≠o)(n2:∀φ,HO.ext φ≠o):Gr A H (upd H' a o'):=⟨λb q e n=>by rw[ak (ba e h)];exact s.same b q e n,λt=>(s.tabs t).upd e n1 n2,λb z=>by
  by_cases hb:b=a
  ·rw[hb];exact h
  ·rw[ak hb]at z;exact s.free b z⟩
theorem Gr.new(s:Gr A H H')(h:H' a=none):Gr A H (upd H' a o):=s.trans (.of (bL h))
inductive DS where|df|dt|dp|fe (n:Nat)|un (x:Nat)
 deriving DecidableEq
structure Lay where
 h:af
 ls:af
 D:DS->af
 fa:Nat->af
 pa:Nat->af
abbrev Lay.fe(L:Lay)(n:Nat):af:=L.D (.fe n)
abbrev Lay.un(L:Lay)(n:Nat):af:=L.D (.un n)
def d7(s:State):DS->Prop|.fe n=>n∈s.flights.map λf=>f.num|.un x=>x∈s.pax.map λq=>q.x|_=>True
def d8(fa:Nat->af)(n:Nat):V:=if n=0 then .non else .ref (fa n)
def bT(pa:Nat->af)(l:List bj):List (Key×V):=l.map λq=>(ay (q.x:Int),V.ref (pa q.x))
def eU(l:List Nat):List (Key×V):=l.map λn:Nat=>(ay (n:Int),V.bl true)
structure pR(H:Hp)(vs:List V)(l:List (Nat×Nat)):Prop where
 len:vs.length=l.length
 at_:∀(i:Nat)(p:Nat×Nat),l[i]? =some p->∃t,vs[i]? =some (.ref t)/\H t=some (.tup [.int p.1,.int p.2])
theorem pR.keep(h:pR H vs l)(k:∀t zs,H t=some (.tup zs)->H' t=some (.tup zs)):pR H' vs l:=⟨h.len,λi x e=>let⟨t,h1,h2⟩:=h.at_ i x e;⟨t,h1,k _ _ h2⟩⟩
structure C6(A:Ad)(H:Hp)(dp:af)(pa un fa:Nat->af)(l:List bj):Prop where
 pd:H dp=some (.dK (bT pa l))
 px:∀q,q∈l->dH A H (pa q.x) q (un q.x) (d8 fa q.on)
 un:∀q,q∈l->H (un q.x)=some (.dK (eU q.refuses))
structure b0(A:Ad)(H:Hp)(L:Lay)(s:State):Prop where
 ho:fq A H L.h s.now (L.D .df) (L.D .dt) (L.D .dp) L.ls
 fl:vU A H (L.D .df) (L.D .dt) L.fa L.fe s.flights
 px:C6 A H (L.D .dp) L.pa L.un L.fa s.pax
 st:∃vs,H L.ls=some (.lst vs)/\pR H vs s.steps
 inj:∀a b,d7 s a->d7 s b->L.D a=L.D b->a=b
theorem vU.gr(h:vU A H df dt fa fe l)(s:∀b o,H b=some o->(∀ps,o≠.c_ ps)->H' b=some o):vU A H' df dt fa fe l:=⟨s _ _ h.fl nofun,s _ _ h.tl nofun,λf hf=>let⟨dx,e⟩:=h.bB f hf;⟨dx,s _ _ e nofun⟩,λf hf=>let⟨kf,h1,h2⟩:=h.feeds f hf;⟨kf,s _ _ h1 nofun,h2.keep λ_ _ q=>s _ _ q nofun⟩⟩
theorem C6.gr{pa un fa:Nat->af}(h:C6 A H dp pa un fa l)(s:∀b o,H b=some o->(∀ps,o≠.c_ ps)->H' b=some o):C6 A H' dp pa un fa l:=⟨s _ _ h.pd nofun,λq hq=>let⟨dx,e⟩:=h.px q hq;⟨dx,s _ _ e nofun⟩,λq hq=>s _ _ (h.un q hq) nofun⟩
theorem fq.gr(h:fq A H a now df dt dp ls)(s:∀b o,H b=some o->(∀ps,o≠.c_ ps)->H' b=some o):fq A H' a now df dt dp ls:=let⟨dx,e⟩:=h;⟨dx,s _ _ e nofun⟩
theorem b0.T9(h:b0 A H L s)(g:∀b o,H b=some o->(∀ps,o≠.c_ ps)->H' b=some o):b0 A H' L s:=⟨h.ho.gr g,h.fl.gr g,h.px.gr g,let⟨vs,h1,h2⟩:=h.st;⟨vs,g _ _ h1 nofun,h2.keep λ_ _ q=>g _ _ q nofun⟩,h.inj⟩
theorem b0.gr(h:b0 A H L s)(g:Gr A H H'):b0 A H' L s:=h.T9 g.same
theorem b0.same(h:b0 A H L s)(g:aC H H'):b0 A H' L s:=h.T9 λb o e _=>g b o e
def Own(L:Lay)(s:State)(b:af):Prop:=b=L.h∨b=L.ls∨(∃d,d7 s d/\b=L.D d)∨(∃n,n∈(s.flights.map λf=>f.num)/\b=L.fa n)∨∃x,x∈(s.pax.map λq=>q.x)/\b=L.pa x
theorem b0.there(h:b0 A H L s)(o:Own L s b):∃u,H b=some u:=by
 rcases o with rfl|rfl|⟨d,hd,rfl⟩|⟨n,hn,rfl⟩|⟨x,hx,rfl⟩
 ·obtain⟨dx,e⟩:=h.ho;exact⟨_,e⟩
 ·obtain⟨vs,e,_⟩:=h.st;exact⟨_,e⟩
 ·cases d with
  |df=>exact⟨_,h.fl.fl⟩|dt=>exact⟨_,h.fl.tl⟩|dp=>exact⟨_,h.px.pd⟩|fe n=>obtain⟨f,hf,rfl⟩:=aB.mp hd;obtain⟨kf,e,_⟩:=h.fl.feeds f hf;exact⟨_,e⟩|un x=>obtain⟨q,hq,rfl⟩:=aB.mp hd;exact⟨_,h.px.un q hq⟩
 ·obtain⟨f,hf,rfl⟩:=aB.mp hn
  obtain⟨dx,e⟩:=h.fl.bB f hf;exact⟨_,e⟩
 ·obtain⟨q,hq,rfl⟩:=aB.mp hx
  obtain⟨dx,e⟩:=h.px.px q hq;exact⟨_,e⟩
structure After(A:Ad)(H H':Hp)(L L':Lay)(s s':State):Prop where
 at_:b0 A H' L' s'
 h:L'.h=L.h
 fr:∀b o,H b=some o->(∀ps,o≠.c_ ps)->¬Own L s b->H' b=some o
 own:∀b,Own L' s' b->Own L s b∨H b=none
 tabs:dW A H->dW A H'
 free:∀b,H' b=none->H b=none
theorem After.of(h:b0 A H L s)(g:Gr A H H'):After A H H' L L s s:=⟨h.gr g,rfl,λb o e n _=>g.same b o e n,λb o=>.inl o,g.tabs,g.free⟩
theorem After.gr(a:After A H H1 L L' s s')(g:Gr A H1 H2):After A H H2 L L' s s':=⟨a.at_.gr g,a.h,λb o e n m=>g.same b o (a.fr b o e n m) n,a.own,λt=>g.tabs (a.tabs t),λb e=>a.free b (g.free b e)⟩
theorem After.trans(a:After A H H1 L L1 s s1)(b:After A H1 H2 L1 L2 s1 s2):After A H H2 L L2 s s2:=⟨b.at_,b.h.trans a.h,λc o e n m=>b.fr c o (a.fr c o e n m) n λw=>(a.own c w).elim m λz=>(by rw[z]at e;cases e),λc w=>(b.own c w).elim (a.own c) λz=>.inr (a.free c z),λt=>b.tabs (a.tabs t),λc e=>a.free c (b.free c e)⟩
structure afp(s:State)(q:bj):Prop where
 pos:1<=q.x
 on:(q.on=0/\q.flown=false)∨∃f,f∈s.flights/\f.num=q.on/\f.cancelled=false/\q.flown=f.left.isSome
 rn:q.refuses.Nodup
 rl:q.refuses.length<=8
structure Good(s:State):Prop where
 fl:kM s.flights
 pos:∀f,f∈s.flights->1<=f.num
 oth:∀f,f∈s.flights->f.others<=f.cap
 feeds:∀f,f∈s.flights->(f.feeds.map λx=>x.g).Nodup/\∀x,x∈f.feeds->∃g,g∈s.flights/\g.num=x.g/\g.arr<=f.dep
 pn:(s.pax.map λq=>q.x).Nodup
 pl:s.pax.length<=60
 px:∀q,q∈s.pax->afp s q
 room:∀f,f∈s.flights->(s.pax.filter λq=>q.on==f.num).length<=f.cap-f.others
 line:∀f g,f∈aN s.flights->g∈aN s.flights->f.tail=g.tail->before f g=true->f.left=none->g.left=none
 T_:s.steps.length<=8
end WD
namespace WD
open L2 Vbahaj
theorem vY(h:f∈aN l):∃i:Nat,(aN l)[i]? =some f:=by obtain⟨i,hi,e⟩:=h_ h;exact⟨i,by rw[dY hi,e]⟩
theorem Ua(hN:(l.map λf=>f.num).Nodup){i j:Nat}(hf:(aN l)[i]? =some f)(hg:(aN l)[j]? =some g)(h:before g f=true):j<i:=by
 rcases Nat.lt_or_ge j i with h1|h1
 ·exact h1
 ·rcases Nat.lt_or_eq_of_le h1 with h2|h2
  ·obtain⟨hi,ei⟩:=eo.mp hf
   obtain⟨hj,ej⟩:=eo.mp hg;have:=(E8.mp (CT hN)) i j hi hj h2;rw[ei,ej]at this;exact absurd h (ze this)
  ·subst h2
   rw[hf]at hg;cases hg;exact absurd h (Js f)
theorem JY(hi:i<=(aN l).length)(h:n∈((aN l).take i).map λf=>f.num):bG (times now l) n=bG (cG now l i) n:=by obtain⟨us,e⟩:=TQ hi;rw[e,ae2];rw[mU];exact h
theorem afq{now:Nat}(G:Good s){i:Nat}(hf:(aN s.flights)[i]? =some f)(hx:x∈f.feeds):bG (times now s.flights) x.g=bG (cG now s.flights i) x.g:=by
 have hi:=jz (eo.mp hf).1;by_cases h:x.g∈((aN s.flights).take i).map λf=>f.num
 ·exact JY hi h
 ·rw[(oh (ts:=cG now s.flights i)).mpr (by rw[mU];exact h),oh]
  rw[iN];intro hm;obtain⟨g,hg,eg⟩:=aB.mp hm;obtain⟨g',jW,e',ha⟩:=(G.feeds f (cq f (du hf))).2 x hx;have:=ja G.fl.nd jW (cq g hg) (e'.trans eg.symm);subst this;obtain⟨j,hj⟩:=vY hg;have hb:before g' f=true:=by rw[jT];have:=(G.fl.good g' jW).1.1;lia
  have dN:=Ua G.fl.nd hf hj hb;refine h (aB.mpr ⟨g',?_,e'⟩);rw[Oi];exact⟨j,by rw[Of dN];exact hj⟩
theorem JZ(G:Good s)(hf:(aN s.flights)[i]? =some f):ready s.flights (cG now s.flights i) f=ready s.flights (times now s.flights) f:=by have hi:=jz (eo.mp hf).1;unfold ready;cases hp:prior s.flights f with|none=>rfl|some g=>have d_:=hp;rw[CU G.fl.nd hf]at d_;simp only;rw[JY hi (aB.mpr ⟨g,JC d_,rfl⟩)]
theorem Ub(G:Good s)(hf:(aN s.flights)[i]? =some f)(b:Nat)(hx:x∈f.feeds):waited b (cG now s.flights i) x=waited b (times now s.flights) x:=by unfold waited;rw[afq G hf hx]
theorem C7{α β:Type}{f g:α->Option β}:∀{l:List α},(∀x,x∈l->f x=g x)->l.filterMap f=l.filterMap g|[],_=>rfl|a::l,h=>by rw[qk,qk,h a cK,C7 λx hx=>h x (b8 _ hx)]
theorem Uc{α:Type}{f g:α->Bool}:∀{l:List α},(∀x,x∈l->f x=g x)->l.find? f=l.find? g|[],_=>rfl|a::l,h=>by rw[oM,oM,h a cK,Uc λx hx=>h x (b8 _ hx)]
theorem Ud{now:Nat}(G:Good s){i:Nat}(hf:(aN s.flights)[i]? =some f):cause s.flights (cG now s.flights i) f=cause s.flights (times now s.flights) f:=by
 have hb:mi s.flights (cG now s.flights i) f=mi s.flights (times now s.flights) f:=by unfold mi;rw[JZ G hf]
 have hh:held s.flights (cG now s.flights i) f=held s.flights (times now s.flights) f:=by unfold held;rw[hb,C7 λx hx=>Ub G hf _ hx]
 unfold cause;rw[hb,hh,JZ G hf,Uc λx hx=>by rw[Ub G hf _ hx]]
theorem afr(G:Good s)(hf:(aN s.flights)[i]? =some f)(h:cause s.flights (cG now s.flights i) f=some n):∃(j:Nat)(g:aw),j<i/\(aN s.flights)[j]? =some g/\g.num=n:=by
 have hn:n∈((aN s.flights).take i).map λf=>f.num:=by
  unfold cause at h;split at h
  ·cases h
  ·split at h
   ·obtain⟨x,hx,rfl⟩:=oP.mp h
    have h2:=gU hx;have h3:=eq_of_beq h2;unfold waited at h3;cases ht:bG (cG now s.flights i) x.g with
    |none=>rw[ht]at h3;cases h3|some t=>obtain⟨h4,h5⟩:=kL ht;rw[<-mU now,<-h5];exact aB.mpr ⟨t,h4,rfl⟩
   ·split at h
    ·obtain⟨g,hg,rfl⟩:=oP.mp h
     rw[CU G.fl.nd hf]at hg;exact aB.mpr ⟨g,JC hg,rfl⟩
    ·cases h
 obtain⟨g,hg,e⟩:=aB.mp hn;obtain⟨j,hj,ej⟩:=h_ hg;rw[jd]at hj;refine⟨j,g,by lia,?_,e⟩;rw[<-ej,oK];exact dY (by lia)
end WD
namespace WD
open PySem PySem.Spec PyProof.Rows L2 Vbahaj
variable{P:bR}{w:bI}{K:aG}{mg:ai->Option ag}{base:bg}{A:Ad}{f:af}{fd:eB}
def tX(A:Ad)(H:Hp)(L:Lay)(s:State)(c:oX)(Q:VK):Prop:=∀H' L' p,After A H H' L L' s (step s c).1->H p=none->H' p=some (.lst ((step s c).2.map V.int))->Q (.ref p) H'
theorem tX.fin(k:tX A H L s c Q)(he:step s c=(s',ans))(a:After A H H' L L' s s')(np:H p=none)(hp:H' p=some (.lst (ans.map V.int))):Q (.ref p) H':=k H' L' p (by rw[he];exact a) np (by rw[he];exact hp)
theorem tX.pure(k:tX A H L s c Q)(hH:b0 A H L s)(he:step s c=(s,ans))(g:Gr A H H')(np:H p=none)(hp:H' p=some (.lst (ans.map V.int))):Q (.ref p) H':=k.fin he (.of hH g) np hp
theorem tX.ret(k:tX A H L s c Q)(hH:b0 A H L s)(he:step s c=(s,ans))(g:Gr A H H')(p:af)(np:H' p=none):Q (.ref p) (upd H' p (.lst (ans.map V.int))):=k.pure hH he (g.new np) (g.free p np) ao
inductive fN(A:Ad)(K:aG)(R:List Int->oX->Prop)(vs:List V)(H:Hp)(Q:VK)(E:XK):Prop|mk (L:Lay) (s:State) (r:af) (ns:List Int) (c:oX) (e:vs=[.ref (Lay.h L),.ref r]) (h1:b0 A H L s) (h2:Good s) (h3:dW A H) (h4:aE K H r (ns.map V.int)) (h5:R ns c) (h6:tX A H L s c Q)
theorem eZ(l:List aw)(n:Nat):bZ (cA fa l) (ay (n:Int))=(eM l n).map λf=>V.ref (fa f.num):=pN (k:=λf:aw=>f.num) (g:=λf:aw=>V.ref (fa f.num)) n l
theorem oo(h:bG (times s.now s.flights) n=some t):timeIn s n=t:=by unfold timeIn timesOf;rw[h];rfl
theorem tY{s:State}{f:aw}(hf:f∈s.flights)(hc:f.cancelled=false):∃t,bG (times s.now s.flights) f.num=some t:=nA.mp (by rw[tN,iN];exact aB.mpr ⟨f,i_.mpr ⟨hf,hc⟩,rfl⟩)
abbrev J0:aV:=top 45
theorem vZ:bu ["house","row","flight","stand","state"] ["house","row"] (bb J0):=bC
theorem afs(F:bh K "tell_times" "tell_times" J0 f fd)(T:Txt K mg A)(ft:Glob P w K mg base "house_stands" 7 ["house"] (om A))(pS:Glob P w K mg base "has_arrived" 1 ["flight","stand","now"] (C0 A)):aX P w K mg base bc 8 f fd ["house","row"] (fN A K λns c=>∃n:Nat,ns=[(n:Int)]/\c=.times n):=by
 refine F.bH vZ λH vs Q E hr hu h=>?_;obtain⟨L,s,r,ns,c,rfl,hH,hG,hB,hR,⟨n,rfl,rfl⟩,k⟩:=h
 refine⟨_,(aq (bo (dB (f9 hu (bz K (pv 1) aJ) (au K (pv 0)))) (az (aK (bw (ax (cn (T.kH)))))) bt) (aq (bf 2 vZ.nd (cC hu (au K (pv 0)) (bz K (pv 1) aJ)))
   (aq (bo (dj (au K (pv 2))) (az (aK (bw (ax (cn (T.ir)))))) bt)
   (aq (bf 3 vZ.nd (cC hu (bK ft hr (ax (pv 0))) (au K (pv 2))))
   (aq (bf 4 vZ.nd aJ)
   (aq (bo (dj (bK pS hr (aM (pv 2) (aM (pv 3) (ax (au K (pv 0))))))) (az (bf 4 vZ.nd aJ)) (az (bo (dB (o3 (au K (pv 2)))) (az (bf 4 vZ.nd aJ)) bt)))
   (az (aK (bw (aM aJ (aM (au K (pv 3)) (aM (au K (pv 3)) (ax (pv 4)))))))))))))),?_⟩
 refine⟨_,rfl,_,_,_,_,rfl,rfl,hR,rfl,_,rfl,ek T hH.ho ⟨_,_,rfl,bq (.inl hH.fl.fl) (eZ _ n),_,rfl,?_⟩⟩;cases hf:eM s.flights n with
 |none=>refine aY ⟨by decide,λp np=>?_⟩;exact k.ret hH (ans:=[-3]) (by show bQ s n _=_;unfold bQ flight;rw[hf]) .refl p np|some f=>obtain⟨hm,en⟩:=gu hf;have hO:=hH.fl.bB f hm;refine bp ?_;refine⟨_,rfl,ek T hH.ho ⟨_,rfl,_,_,_,_,rfl,rfl,hR,rfl,_,_,rfl,bq (.inl hH.fl.fl) (by rw[eZ,hf];rfl),_,rfl,vI T hO ⟨_,rfl,?_⟩⟩⟩;cases hc:f.cancelled with
  |true=>refine aY ⟨by decide,λp np=>?_⟩;exact k.ret hH (ans:=[-7]) (by show bQ s n _=_;unfold bQ flight;rw[hf];simp[hc]) .refl p np|false=>
   refine bp ?_;obtain⟨t,ht⟩:=tY hm hc;refine⟨_,rfl,L.h,s.now,_,_,_,_,L.fa,L.fe,s.flights,rfl,hH.ho,hH.fl,hG.fl,λH1 p kvs sa c s1 np hp hs jX=>?_⟩;have rB:=hO.same s1;have hh1:=hH.ho.same s1;have gv:=hs.at_ t (kL ht).1;refine⟨_,rfl,dn T rB ⟨p,_,rfl,bq (.inl hp) (by rw[hs.eq,iu,ht];rfl),?_⟩⟩;refine Jf (i:=4) ?_;refine Jg (λσ' H'=>σ'=[some (.ref L.h),some (.ref r),some (.ref (L.fa f.num)),some (.ref (sa t.num)),some (.int (if jh s f=true then 2 else if f.left.isSome=true then 1 else 0))]/\H'=H1) (λnx hn=>?_) ?_
   ·have zl:jh s f=(f.left.isSome&&decide (t.arrive<=s.now)):=by unfold jh;rw[oo ht]
    refine⟨_,rfl,_,rfl,_,rfl,n_ T hh1 ⟨_,f,_,_,_,_,_,s.now,rfl,rB,gv,_,rfl,?_⟩⟩;rw[<-zl];cases ha:jh s f with
    |true=>exact aY (hn _ _ ⟨by rw[ha];rfl,rfl⟩)|false=>refine bp ?_;refine⟨_,rfl,pH T rB ?_⟩;cases hl:f.left with
     |none=>exact⟨_,rfl,lH rfl (hn _ _ ⟨by rw[ha,hl];rfl,rfl⟩)⟩|some m=>exact⟨_,rfl,lO nofun (hn _ _ ⟨by rw[ha,hl];rfl,rfl⟩)⟩
   ·rintro σ' H' ⟨rfl,rfl⟩
    refine⟨_,rfl,vK T gv ⟨_,rfl,oa T gv ⟨_,rfl,by show 4<=aS;decide,λq nq=>?_⟩⟩⟩;refine k.ret hH (ans:=[0,(t.leave:Int),(t.arrive:Int),if jh s f=true then 2 else if f.left.isSome=true then 1 else 0]) ?_ (.of s1) q nq;show bQ s n _=_;unfold bQ flight;rw[hf];simp only[hc,<-en,oo ht];rfl
abbrev J1:aV:=top 47
theorem C8:bu ["house","row","answer","number","stand"] ["house","row"] (bb J1):=bC
theorem aft(F:bh K "tell_table" "tell_table" J1 f fd)(T:Txt K mg A)(ft:Glob P w K mg base "house_stands" 7 ["house"] (om A)):aX P w K mg base bc 8 f fd ["house","row"] (fN A K λns c=>ns=[]/\c=.table):=by
 refine F.bH C8 λH vs Q E hr hu h=>?_;obtain⟨L,s,r,ns,c,rfl,hH,hG,hB,hR,⟨rfl,rfl⟩,k⟩:=h
 refine⟨_,(aq (bf 2 C8.nd (bw (ax aJ))) (aq (gn (RJ (aer (bK ft hr (ax (pv 0))))) (w_g2 K (c7 3 C8.nd) (c7 4 C8.nd)) (az (jk (yt xR Bh Bi BR (pv 2) (ax (bw (aM (pv 3) (aM (au K (pv 4)) (ax (au K (pv 4)))))))))))
   (az (aK (pv 2))))),?_⟩
 refine⟨by show 1<=aS;decide,λq nq=>?_⟩;have s0:aC H (upd H q (.lst [.int 0])):=bL nq;have jb:=hH.same s0;refine⟨_,rfl,L.h,s.now,_,_,_,_,L.fa,L.fe,s.flights,rfl,jb.ho,jb.fl,hG.fl,λH1 p kvs sa c s1 np hp hs jX=>?_⟩;have pQ:=s1 _ _ (show(upd H q (.lst [.int 0])) q=_ from ao);have tW:q≠p:=ba ao np;have mW:H p=none:=s0.free np;have hlen:(times s.now s.flights).length<=24:=by have h1:=eW k6 (iN s.now s.flights);rw[aD,aD]at h1;rw[h1];exact aZ (g9 _) hG.fl.len
 refine⟨p,_,hp,bJ,λod=>?_⟩;have lU:gq A (upd H1 p (.aQ od (.dK kvs))) kvs sa (times s.now s.flights) c:=hs.keep λa C dx fs z=>by rw[ak (cZ z hp (by intro y;cases y))];exact z
 have sd:aC H (upd H1 p (.aQ od (.dK kvs))):=(s0.trans s1).bW mW;have Ue:(upd H1 p (.aQ od (.dK kvs))) q=some (.lst [.int 0]):=by rw[ak tW];exact pQ
 have J2:(upd H1 p (.aQ od (.dK kvs))) p=some (.aQ od (.dK kvs)):=ao;generalize upd H1 p (.aQ od (.dK kvs))=Hd at lU sd Ue J2
 refine⟨p,od,kvs,rfl,J2,gp SX (λi σ H'=>∃v3 v4,σ=[some (.ref L.h),some (.ref r),some (.ref q),v3,v4]/\aC H H'/\H' p=some (.aQ od (.dK kvs))/\gq A H' kvs sa (times s.now s.flights) c/\H' q=some (.lst ((0::((times s.now s.flights).take i).flatMap λt=>[(t.num:Int),(t.leave:Int),(t.arrive:Int)]).map V.int)))
  ⟨none,none,rfl,sd,J2,lU,Ue⟩ (λi σ H' _ h=>let⟨_,_,_,_,h,_⟩:=h;h) ?_ ?_⟩
 ·rintro i x σ H2 H3 hi ⟨v3,v4,rfl,s2,e1,e2,e3⟩ ⟨T1,k1,v1,gG,rfl,nT,rfl⟩
  rw[hs.eq]at gG;rw[fz]at gG;obtain⟨t,ht,ekv⟩:=oP.mp gG;cases ekv;have hm:t∈times s.now s.flights:=du ht;have s3:aC H2 (upd H2 T1 (.tup [kV (ay (t.num:Int)),V.ref (sa t.num)])):=bL nT;refine⟨T1,_,rfl,cW.of ao,rfl,_,_,rfl,_,_,rfl,rfl,?_⟩;generalize upd H2 T1 (.tup [kV (ay (t.num:Int)),V.ref (sa t.num)])=H3 at s3;have pM:gq A H3 kvs sa (times s.now s.flights) c:=e2.keep λa C dx fs z=>s3 _ _ z;have hS:=pM.at_ t hm;refine⟨_,rfl,.inl ⟨rfl,_,aE.of (s3 _ _ e3)⟩,_,rfl,_,rfl,vK T hS ⟨_,rfl,oa T hS ⟨by show 3<=aS;decide,λz nz=>?_⟩⟩⟩;have nzq:q≠z:=ba (s3 _ _ e3) nz;refine⟨q,z,_,_,rfl,rfl,by rw[ak nzq];exact s3 _ _ e3,ao,?_,?_⟩
  ·rw[aD]
   have bA:∀ts:List Time,(ts.flatMap λt=>[(t.num:Int),(t.leave:Int),(t.arrive:Int)]).length=3*ts.length:=by intro ts;induction ts with
    |nil=>rfl|cons t ts ih=>rw[uL,eL,ih];show 3+3*ts.length=3*(ts.length+1);lia
   show(_+1)+3<=aS;rw[bA,jd];have:aS≥1000:=by decide
   lia
  ·refine⟨_,_,rfl,?_,?_,?_,?_⟩
   ·exact(s2.trans (s3.trans (bL nz))).bW nq
   ·rw[ak tW.symm,ak (ba (s3 _ _ e1) nz)]
    exact s3 _ _ e1
   ·refine pM.keep λa C dx fs y=>?_
    rw[ak (cZ y (s3 _ _ e3) (by intro y;cases y)),ak (ba y nz)];exact y
   ·rw[ao,take_snoc ht,AH]
    simp;rfl
 ·rintro σ H2 ⟨v3,v4,rfl,s2,e1,e2,e3⟩
  rw[hs.eq,aD,dQ]at e3;exact⟨_,rfl,k.pure hH (ans:=0::(times s.now s.flights).flatMap λt=>[(t.num:Int),(t.leave:Int),(t.arrive:Int)]) rfl (.of s2) nq e3⟩
theorem aT(e:H a=some o)(h:H b=some u)(n:u≠o):upd H a o' b=some u:=by rw[ak (cZ h e n)];exact h
theorem C9{C C' dx rC:af}{now:Nat}{a b c d:af}{f:aw}{e:af}:HO.ins C dx (bA now a b c d)≠HO.ins C' rC (d5 f e):=by
 intro z;injection z with _ _ z
 unfold bA d5 at z;injection z with z _
 injection z with z _
 exact absurd z (by decide)
theorem C_:HO.ins C dx (bA now a b c d)≠HO.ins C' rC (eY q e v):=by
 intro z;injection z with _ _ z
 unfold bA eY at z;injection z with z _
 injection z with z _
 exact absurd z (by decide)
theorem Ug{C C' dx rC:af}{q:bj}{u:af}{v:V}{f:aw}{e:af}:HO.ins C dx (eY q u v)≠HO.ins C' rC (d5 f e):=by
 intro z;injection z with _ _ z
 unfold eY d5 at z;injection z with _ z
 injection z with z _
 injection z with z _
 exact absurd z (by decide)
theorem afu{C C' dx rC:af}{f g:aw}{d e:af}(h:f.num≠g.num):HO.ins C dx (d5 f d)≠HO.ins C' rC (d5 g e):=by
 intro z;injection z with _ _ z
 unfold d5 at z;injection z with z _
 injection z with _ z
 injection z with z
 exact h (by lia)
theorem Uh{C C' dx rC:af}{q r:bj}{u w:af}{v v':V}(h:q.x≠r.x):HO.ins C dx (eY q u v)≠HO.ins C' rC (eY r w v'):=by
 intro z;injection z with _ _ z
 unfold eY at z;injection z with z _
 injection z with _ z
 injection z with z
 exact h (by lia)
theorem zm{l:List aw}{f':aw}:(l.map λg=>if g.num=f'.num then f' else g).map (λf=>f.num)=l.map λf=>f.num:=by
 rw[dv];refine dE λg _=>?_;show(if g.num=f'.num then f' else g).num=g.num;by_cases h:g.num=f'.num
 ·rw[aj h];exact h.symm
 ·rw[ah h]
theorem zo{l:List aw}{f f' g:aw}(hN:(l.map λf=>f.num).Nodup)(hf:f∈l)(hn:f'.num=f.num)(h:g∈l.map λg=>if g.num=f'.num then f' else g):g=f'∨(g∈l/\g.num≠f.num):=by
 obtain⟨x,hx,e⟩:=aB.mp h;by_cases h2:x.num=f'.num
 ·rw[aj h2]at e
  exact .inl e.symm
 ·rw[ah h2]at e
  subst e;exact .inr ⟨hx,by rw[<-hn];exact h2⟩
theorem Ui:cA fa (l.map λg=>if g.num=f'.num then f' else g)=cA fa l:=by
 unfold cA;rw[dv];refine dE λg _=>?_;show((ay (((if g.num=f'.num then f' else g).num:Nat):Int):Key),V.ref (fa (if g.num=f'.num then f' else g).num))=_;by_cases h:g.num=f'.num
 ·rw[aj h,h]
 ·rw[ah h]
theorem Uj{l:List aw}{f f':aw}(hN:(l.map λf=>f.num).Nodup)(hf:f∈l)(hn:f'.num=f.num)(ht:f'.tail=f.tail):dI (l.map λg=>if g.num=f'.num then f' else g)=dI l:=by
 unfold dI;rw[dv];refine dE λg hg=>?_;show((ay (((if g.num=f'.num then f' else g).num:Nat):Int):Key),V.int (((if g.num=f'.num then f' else g).tail:Nat):Int))=_;by_cases h:g.num=f'.num
 ·have:=ja hN hg hf (h.trans hn)
  subst this;rw[aj h,h,ht]
 ·rw[ah h]
theorem d7.set{d:DS}:d7 (cT s f') d↔d7 s d:=by cases d with|fe n=>show n∈(_:List aw).map _↔n∈_;unfold cT;simp only[zm]|un x=>exact iQ|df=>exact iQ|dt=>exact iQ|dp=>exact iQ
theorem Own.set{L:Lay}{s:State}{f':aw}{b:af}(h:Own L (cT s f') b):Own L s b:=by
 rcases h with h|h|⟨d,hd,h⟩|⟨n,hn,h⟩|h
 ·exact .inl h
 ·exact .inr (.inl h)
 ·exact .inr (.inr (.inl ⟨d,d7.set.mp hd,h⟩))
 ·refine .inr (.inr (.inr (.inl ⟨n,?_,h⟩)))
  unfold cT at hn;simp only[zm]at hn;exact hn
 ·exact .inr (.inr (.inr (.inr h)))
section
variable{A:Ad}{H:Hp}{L:Lay}{s:State}
theorem After.upd(hH:b0 A (upd H a o') L s')(ha:Own L s a)(e:H a=some o)(n1:∀ps,HO.c_ ps≠o)(n2:∀φ,HO.ext φ≠o)(ho:∀b,Own L s' b->Own L s b):After A H (upd H a o') L L s s':=⟨hH,rfl,λb u eb _ nb=>by rw[ak (λz=>nb (by rw[z];exact ha))];exact eb,λb h=>.inl (ho b h),λt=>t.upd e n1 n2,λb z=>by
  by_cases hb:b=a
  ·rw[hb,ao]at z;cases z
  ·rw[ak hb]at z;exact z⟩
theorem b0.v_(h:b0 A H L s)(hN:(s.flights.map λf=>f.num).Nodup){f f':aw}(hf:f∈s.flights)(hn:f'.num=f.num)(ht:f'.tail=f.tail)(kN:f'.feeds=f.feeds){dx:af}(e:H (L.fa f.num)=some (.ins A.CF dx (d5 f (L.fe f.num)))):b0 A (upd H (L.fa f.num) (.ins A.CF dx (d5 f' (L.fe f.num)))) L (cT s f'):=by
 refine⟨?_,⟨?_,?_,λg hg=>?_,λg hg=>?_⟩,⟨?_,λq hq=>?_,λq hq=>?_⟩,?_,λa b ha hb=>h.inj a b (d7.set.mp ha) (d7.set.mp hb)⟩
 ·obtain⟨dy,z⟩:=h.ho
  exact⟨dy,aT e z C9⟩
 ·show _=some (HO.dK (cA L.fa (s.flights.map λg=>if g.num=f'.num then f' else g)))
  rw[Ui];exact aT e h.fl.fl nofun
 ·show _=some (HO.dK (dI (s.flights.map λg=>if g.num=f'.num then f' else g)))
  rw[Uj hN hf hn ht];exact aT e h.fl.tl nofun
 ·rcases zo hN hf hn hg with rfl|⟨hg,cD⟩
  ·rw[hn]
   exact⟨dx,ao⟩
  ·obtain⟨dy,z⟩:=h.fl.bB g hg
   exact⟨dy,aT e z (afu cD)⟩
 ·rcases zo hN hf hn hg with rfl|⟨hg,cD⟩
  ·obtain⟨kf,z1,z2⟩:=h.fl.feeds f hf
   rw[hn,kN];exact⟨kf,aT e z1 nofun,z2.keep λt zs z=>aT e z nofun⟩
  ·obtain⟨kf,z1,z2⟩:=h.fl.feeds g hg
   exact⟨kf,aT e z1 nofun,z2.keep λt zs z=>aT e z nofun⟩
 ·exact aT e h.px.pd nofun
 ·obtain⟨dy,z⟩:=h.px.px q hq
  exact⟨dy,aT e z Ug⟩
 ·exact aT e (h.px.un q hq) nofun
 ·obtain⟨vs,z1,z2⟩:=h.st
  exact⟨vs,aT e z1 nofun,z2.keep λt zs z=>aT e z nofun⟩
theorem Uk{f:aw}(hf:f∈s.flights):Own L s (L.fa f.num):=.inr (.inr (.inr (.inl ⟨f.num,aB.mpr ⟨f,hf,rfl⟩,rfl⟩)))
theorem afv{f:aw}(hf:f∈s.flights):Own L s (L.fe f.num):=.inr (.inr (.inl ⟨.fe f.num,aB.mpr ⟨f,hf,rfl⟩,rfl⟩))
theorem mY(hd:d7 s d):Own L s (L.D d):=.inr (.inr (.inl ⟨d,hd,rfl⟩))
theorem J3(hq:q∈s.pax):Own L s (L.pa q.x):=.inr (.inr (.inr (.inr ⟨q.x,aB.mpr ⟨q,hq,rfl⟩,rfl⟩)))
theorem After.v_(h:b0 A H L s)(hN:(s.flights.map λf=>f.num).Nodup){f f':aw}(hf:f∈s.flights)(hn:f'.num=f.num)(ht:f'.tail=f.tail)(kN:f'.feeds=f.feeds){dx:af}(e:H (L.fa f.num)=some (.ins A.CF dx (d5 f (L.fe f.num)))):After A H (L2.upd H (L.fa f.num) (.ins A.CF dx (d5 f' (L.fe f.num)))) L L s (cT s f'):=
 .upd (h.v_ hN hf hn ht kN e) (Uk hf) e nofun nofun λb=>Own.set
theorem b0.gP(h:b0 A H L s)(ha:d7 s a)(hb:d7 s b)(n:a≠b):L.D a≠L.D b:=λz=>n (h.inj a b ha hb z)
theorem wb{f:aw}(hf:f∈s.flights):d7 s (.fe f.num):=aB.mpr ⟨f,hf,rfl⟩
theorem tZ(hq:q∈s.pax):d7 s (.un q.x):=aB.mpr ⟨q,hq,rfl⟩
theorem b0.Dc(h:b0 A H L s)(hN:(s.flights.map λf=>f.num).Nodup){f:aw}(hf:f∈s.flights){kf pT:List (Key×V)}{xs:List nM}(e:H (L.fe f.num)=some (.dK kf))(hk:i9 (upd H (L.fe f.num) (.dK pT)) pT xs):b0 A (upd H (L.fe f.num) (.dK pT)) L (cT s {f with feeds:=xs}):=by
 have lf:=wb hf;refine⟨?_,⟨?_,?_,λg hg=>?_,λg hg=>?_⟩,⟨?_,λq hq=>?_,λq hq=>?_⟩,?_,λa b ha hb=>h.inj a b (d7.set.mp ha) (d7.set.mp hb)⟩
 ·obtain⟨dy,z⟩:=h.ho
  exact⟨dy,aT e z nofun⟩
 ·show _=some (HO.dK (cA L.fa (s.flights.map λg=>if g.num=f.num then{f with feeds:=xs}else g)))
  rw[Ui (f':={f with feeds:=xs})];rw[ak (h.gP (a:=.df) bJ lf nofun)];exact h.fl.fl
 ·show _=some (HO.dK (dI (s.flights.map λg=>if g.num=f.num then{f with feeds:=xs}else g)))
  rw[Uj (f':={f with feeds:=xs}) hN hf rfl rfl];rw[ak (h.gP (a:=.dt) bJ lf nofun)];exact h.fl.tl
 ·rcases zo (f':={f with feeds:=xs}) hN hf rfl hg with rfl|⟨hg,cD⟩
  ·obtain⟨dy,z⟩:=h.fl.bB f hf
   exact⟨dy,aT e z nofun⟩
  ·obtain⟨dy,z⟩:=h.fl.bB g hg
   exact⟨dy,aT e z nofun⟩
 ·rcases zo (f':={f with feeds:=xs}) hN hf rfl hg with rfl|⟨hg,cD⟩
  ·exact⟨pT,ao,hk⟩
  ·obtain⟨kf,z1,z2⟩:=h.fl.feeds g hg
   refine⟨kf,?_,z2.keep λt zs z=>aT e z nofun⟩;rw[ak (h.gP (wb hg) lf (by intro z;injection z with z;exact cD z))];exact z1
 ·rw[ak (h.gP (a:=.dp) bJ lf nofun)]
  exact h.px.pd
 ·obtain⟨dy,z⟩:=h.px.px q hq
  exact⟨dy,aT e z nofun⟩
 ·show upd H (L.D (.fe f.num)) _ (L.D (.un q.x))=_
  rw[ak (h.gP (tZ hq) lf nofun)];exact h.px.un q hq
 ·obtain⟨vs,z1,z2⟩:=h.st
  exact⟨vs,aT e z1 nofun,z2.keep λt zs z=>aT e z nofun⟩
theorem After.Dc(h:b0 A H L s)(hN:(s.flights.map λf=>f.num).Nodup){f:aw}(hf:f∈s.flights){kf pT:List (Key×V)}{xs:List nM}(e:H (L.fe f.num)=some (.dK kf))(hk:i9 (L2.upd H (L.fe f.num) (.dK pT)) pT xs):After A H (L2.upd H (L.fe f.num) (.dK pT)) L L s (cT s {f with feeds:=xs}):=
 .upd (h.Dc hN hf e hk) (afv hf) e nofun nofun λb=>Own.set
end
theorem zp{l:List aw}{f f':aw}(hf:f∈l)(hn:f'.num=f.num):f'∈l.map λg=>if g.num=f'.num then f' else g:=aB.mpr ⟨f,hf,aj hn.symm⟩
theorem kM.set{l:List aw}(h:kM l){f f':aw}(hf:f∈l)(hn:f'.num=f.num)(hg:q_ f'/\f'.feeds.length<=8):kM (l.map λg=>if g.num=f'.num then f' else g):=by
 refine⟨by rw[zm];exact h.nd,by rw[aD];exact h.len,λg jW=>?_⟩;rcases zo h.nd hf hn jW with rfl|⟨h1,_⟩
 ·exact hg
 ·exact h.good g h1
theorem Dd{now:Nat}{l:List aw}(hN:(l.map λf=>f.num).Nodup){i:Nat}{f:aw}(hf:(aN l)[i]? =some f):bG (times now l) f.num=some (jU now l (cG now l i) f):=by
 have hi:=(eo.mp hf).1;rw[JY (i:=i+1) hi (by rw[take_snoc hf];simp),vR hf];have hn:f.num∉(cG now l i).map λt=>t.num:=by
  rw[mU];intro z;obtain⟨g,hg,e⟩:=aB.mp z;obtain⟨j,hj,rfl⟩:=h_ hg;rw[jd]at hj;have jn:(aN l)[j]? =some ((aN l).take i)[j]:=by rw[oK];exact dY (by lia)
  have:=vM (rm hN) jn hf e;lia
 have h2:=oh.mpr hn;unfold bG at h2⊢;rw[qm,h2];rw[OP,xj];show(f.num==f.num)=true;exact oH _
theorem afw{now:Nat}{l:List aw}(hN:(l.map λf=>f.num).Nodup){f:aw}(hf:f∈aN l){m:Nat}(hl:f.left=some m):bG (times now l) f.num=some {num:=f.num,leave:=m,arrive:=qC f m}:=by obtain⟨i,hi⟩:=vY hf;rw[Dd hN hi];unfold jU mn;rw[hl]
abbrev J4:aV:=top 39
theorem afx:bu ["house","flight"] ["house","flight"] (bb J4):=bC
inductive De(A:Ad)(vs:List V)(H:Hp)(Q:VK)(E:XK):Prop|mk L s f t (z:vs=[.ref (Lay.h L),.ref (L.fa (Flight.num f))]) (z:b0 A H L s) (z:kM s.flights) (z:f∈s.flights) (z:bG (times s.now s.flights) f.num=some t) (z:∀H' p,aC H H'->H p=none->H' p=some (.lst [.int 0,.int t.leave])->Q (.ref p) H')
theorem afy(F:bh K "answer_leaves" "answer_leaves" J4 f fd)(T:Txt K mg A)(ft:Glob P w K mg base "house_stands" 7 ["house"] (om A)):aX P w K mg base bc 8 f fd ["house","flight"] (De A):=by refine F.bH afx λH vs Q E hr hu h=>?_;obtain⟨L,s,f,t,rfl,hH,hG,hf,ht,k⟩:=h;refine⟨_,(az (aK (bw (aM aJ (ax (au K (cC hu (bK ft hr (ax (pv 0))) (au K (pv 1))))))))),?_⟩;refine⟨_,rfl,L.h,s.now,_,_,_,_,L.fa,L.fe,s.flights,rfl,hH.ho,hH.fl,hG,λH1 p kvs sa c s1 np hp hs jX=>?_⟩;refine⟨_,rfl,?_⟩;apply dn T ((hH.fl.bB f hf).same s1);refine⟨p,_,rfl,bq (.inl hp) (by rw[hs.eq,iu,ht];rfl),?_⟩;have hS:=hs.at_ t (kL ht).1;apply vK T hS;refine⟨by show 2<=aS;decide,λq nq=>?_⟩;exact k _ q (s1.bW (s1.free nq)) (s1.free nq) ao
abbrev J5:aV:=top 40
theorem Ul:bu ["house","row","flight"] ["house","row"] (bb J5):=bC
theorem afz(F:bh K "set_wait" "set_wait" J5 f fd)(T:Txt K mg A)(fu:dm P w K mg base A.CF "is_open" 1 ["self"] (og A))(pU:Glob P w K mg base "answer_leaves" 8 ["house","flight"] (De A)):aX P w K mg base bc 9 f fd ["house","row"] (fN A K λns c=>∃n v:Nat,ns=[(n:Int),(v:Int)]/\c=.late n v):=by
 refine F.bH Ul λH vs Q E hr hu h=>?_;obtain⟨L,s,r,ns,c,rfl,hH,hG,hB,hR,⟨n,v,rfl,rfl⟩,k⟩:=h
 refine⟨_,(aq (bo (dB (f9 hu (bz K (pv 1) aJ) (au K (pv 0)))) (az (aK (bw (ax (cn (T.kH)))))) bt) (aq (bf 2 Ul.nd (cC hu (au K (pv 0)) (bz K (pv 1) aJ)))
   (aq (bo (gY (dj (fk (pv 2) T.cF fu hr))) (az (aK (bw (ax (cn (T.ir)))))) bt)
   (aq (c8 (pv 2) (bz K (pv 1) aJ))
   (az (aK (bK pU hr (aM (pv 0) (ax (pv 2)))))))))),?_⟩
 refine⟨_,rfl,_,_,_,_,rfl,rfl,hR,rfl,_,rfl,ek T hH.ho ⟨_,_,rfl,bq (.inl hH.fl.fl) (eZ _ n),_,rfl,?_⟩⟩;cases hf:eM s.flights n with
 |none=>refine aY ⟨by decide,λp np=>?_⟩;exact k.ret hH (ans:=[-3]) (by show bQ s n _=_;unfold bQ flight;rw[hf]) .refl p np|some f=>obtain⟨hm,en⟩:=gu hf;have hO:=hH.fl.bB f hm;obtain⟨dx,hx⟩:=id hO;refine bp ?_;refine⟨_,rfl,ek T hH.ho ⟨_,rfl,_,_,_,_,rfl,rfl,hR,rfl,_,_,rfl,bq (.inl hH.fl.fl) (by rw[eZ,hf];rfl),_,rfl,_,dx,_,rfl,hx,rfl,_,f,_,rfl,hO,_,rfl,?_⟩⟩;cases ho:bV f with
  |false=>refine aY ⟨by decide,λp np=>?_⟩;exact k.ret hH (ans:=[-7]) (by show bQ s n _=_;unfold bQ flight;rw[hf];simp[ho]) .refl p np|true=>
   have hc:f.cancelled=false:=by unfold bV at ho;simp at ho;exact ho.1
   refine bp ?_;refine⟨_,rfl,_,_,_,_,rfl,rfl,hR,rfl,_,rfl,_,_,dx,_,rfl,hx,T.cF,T.IJ,(by show 13<1000;decide),?_⟩;have a1:After A H (upd H (L.fa f.num) (.ins A.CF dx (bO "wait" (V.int (v:Nat)) (d5 f (L.fe f.num))))) L L s (cT s {f with wait:=v}):=After.v_ hH hG.fl.nd hm (f':={f with wait:=v}) rfl rfl rfl hx;generalize upd H (L.fa f.num) (.ins A.CF dx (bO "wait" (V.int (v:Nat)) (d5 f (L.fe f.num))))=H1 at a1;have iO:{f with wait:=v}∈(cT s {f with wait:=v}).flights:=zp (f':={f with wait:=v}) hm rfl;obtain⟨t,ht⟩:=tY (s:=cT s {f with wait:=v}) iO hc;refine⟨_,rfl,_,rfl,L,cT s {f with wait:=v},{f with wait:=v},t,rfl,a1.at_,hG.fl.set (f':={f with wait:=v}) hm rfl (hG.fl.good f hm),iO,ht,λH2 q s2 nq hq=>?_⟩;refine k.fin (ans:=[0,(t.leave:Int)]) ?_ (a1.gr (.of s2)) (a1.free q nq) hq;show bQ s n _=_;unfold bQ flight;rw[hf];have kO:bG (times (cT s {f with wait:=v}).now (cT s {f with wait:=v}).flights) n=some t:=by rw[<-en];exact ht
   simp only[ho,oo kO];rfl
abbrev J6:aV:=top 44
theorem Um:bu ["house","row","flight"] ["house","row"] (bb J6):=bC
theorem Uo:∀{kf:List (Key×V)}{xs:List nM}(m:Nat),i9 H kf xs->i9 H (il kf (ay (m:Int))) (xs.filter λx=>x.g !=m)
 |[],[],m,_=>⟨rfl,λi x h=>by simp at h⟩|[],x::xs,m,h=>absurd h.len (by simp)|p::kf,[],m,h=>absurd h.len (by simp)|p::kf,x::xs,m,h=>by
  obtain⟨t,e1,e2⟩:=h.at_ 0 x rfl;have e1:p=(ay (x.g:Int),V.ref t):=cM.inj e1;have ih:=Uo (kf:=kf) (xs:=xs) m ⟨by have:=h.len;simpa using this,λi y hy=>h.at_ (i+1) y hy⟩;subst e1;by_cases e:x.g=m
  ·rw[B5 (by rw[e]),bX,ah (by simp[e])]
   exact ih
  ·rw[B6 (i8 e),bX,aj (by simp[e])]
   refine⟨by simp[ih.len],λi y hy=>?_⟩;cases i with
   |zero=>cases hy;exact⟨t,rfl,e2⟩|succ i=>exact ih.at_ i y hy
theorem J7:∀{kf:List (Key×V)}{xs:List nM}(m:Nat),i9 H kf xs->(bZ kf (ay (m:Int))).isSome=xs.any λx=>x.g==m
 |[],[],m,_=>rfl|[],x::xs,m,h=>absurd h.len (by simp)|p::kf,[],m,h=>absurd h.len (by simp)|p::kf,x::xs,m,h=>by
  obtain⟨t,e1,e2⟩:=h.at_ 0 x rfl;have e1:p=(ay (x.g:Int),V.ref t):=cM.inj e1;have ih:=J7 (kf:=kf) (xs:=xs) m ⟨by have:=h.len;simpa using this,λi y hy=>h.at_ (i+1) y hy⟩;subst e1;rw[AL];by_cases e:x.g=m
  ·rw[jm (by rw[e])]
   simp[e]
  ·rw[iF (i8 e),ih]
   simp[e]
theorem afA(F:bh K "remove_feed" "remove_feed" J6 f fd)(T:Txt K mg A)(fu:dm P w K mg base A.CF "is_open" 1 ["self"] (og A))(pU:Glob P w K mg base "answer_leaves" 8 ["house","flight"] (De A)):aX P w K mg base bc 9 f fd ["house","row"] (fN A K λns c=>∃n m:Nat,ns=[(n:Int),(m:Int)]/\c=.unfeed n m):=by
 refine F.bH Um λH vs Q E hr hu h=>?_;obtain⟨L,s,r,ns,c,rfl,hH,hG,hB,hR,⟨n,m,rfl,rfl⟩,k⟩:=h
 refine⟨_,(aq (bo (dB (f9 hu (bz K (pv 1) aJ) (au K (pv 0)))) (az (aK (bw (ax (cn (T.kH)))))) bt) (aq (bf 2 Um.nd (cC hu (au K (pv 0)) (bz K (pv 1) aJ)))
   (aq (bo (gY (dj (fk (pv 2) T.cF fu hr))) (az (aK (bw (ax (cn (T.ir)))))) bt)
   (aq (bo (dB (f9 hu (bz K (pv 1) aJ) (au K (pv 2)))) (az (aK (bw (ax (cn (T.n9)))))) bt)
   (aq (jk (CJ (au K (pv 2)) (bz K (pv 1) aJ)))
   (az (aK (bK pU hr (aM (pv 0) (ax (pv 2))))))))))),?_⟩
 refine⟨_,rfl,_,_,_,_,rfl,rfl,hR,rfl,_,rfl,ek T hH.ho ⟨_,_,rfl,bq (.inl hH.fl.fl) (eZ _ n),_,rfl,?_⟩⟩;cases hf:eM s.flights n with
 |none=>refine aY ⟨by decide,λp np=>?_⟩;exact k.ret hH (ans:=[-3]) (by show bQ s n _=_;unfold bQ flight;rw[hf]) .refl p np|some f=>obtain⟨hm,en⟩:=gu hf;have hO:=hH.fl.bB f hm;obtain⟨dx,hx⟩:=id hO;refine bp ?_;refine⟨_,rfl,ek T hH.ho ⟨_,rfl,_,_,_,_,rfl,rfl,hR,rfl,_,_,rfl,bq (.inl hH.fl.fl) (by rw[eZ,hf];rfl),_,rfl,_,dx,_,rfl,hx,rfl,_,f,_,rfl,hO,_,rfl,?_⟩⟩;cases ho:bV f with
  |false=>refine aY ⟨by decide,λp np=>?_⟩;exact k.ret hH (ans:=[-7]) (by show bQ s n _=_;unfold bQ flight;rw[hf];simp[ho]) .refl p np|true=>
   have hc:f.cancelled=false:=by unfold bV at ho;simp at ho;exact ho.1
   obtain⟨kf,lT,hK⟩:=hH.fl.feeds f hm;have hv:=J7 m hK;refine bp ?_;refine⟨_,rfl,_,_,_,_,rfl,rfl,hR,rfl,_,rfl,vH T hO ⟨_,_,rfl,bq (.inl lT) rfl,_,rfl,?_⟩⟩;rw[hv];cases ha:f.feeds.any λx=>x.g==m with
   |false=>refine aY ⟨by decide,λp np=>?_⟩;exact k.ret hH (ans:=[-8]) (by show bQ s n _=_;unfold bQ flight;rw[hf];simp[ho,ha]) .refl p np|true=>
    rw[ha]at hv;obtain⟨vv,J8⟩:=nA.mp hv;refine bp ?_;refine⟨_,rfl,vH T hO ⟨_,rfl,.inl ⟨_,.inl lT⟩,_,rfl,_,_,_,_,rfl,rfl,hR,rfl,_,ay (m:Int),vv,lT,rfl,J8,?_⟩⟩;have a1:=After.Dc hH hG.fl.nd hm lT (pT:=il kf (ay (m:Int))) ((Uo m hK).keep λt zs z=>aT lT z nofun);generalize upd H (L.fe f.num) (.dK (il kf (ay (m:Int))))=H1 at a1;have iO:{f with feeds:=f.feeds.filter λx=>x.g !=m}∈(cT s {f with feeds:=f.feeds.filter λx=>x.g !=m}).flights:=zp (f':={f with feeds:=f.feeds.filter λx=>x.g !=m}) hm rfl;obtain⟨t,ht⟩:=tY (s:=cT s {f with feeds:=f.feeds.filter λx=>x.g !=m}) iO hc;refine⟨_,rfl,_,rfl,L,cT s {f with feeds:=f.feeds.filter λx=>x.g !=m},{f with feeds:=f.feeds.filter λx=>x.g !=m},t,rfl,a1.at_,hG.fl.set (f':={f with feeds:=f.feeds.filter λx=>x.g !=m}) hm rfl ⟨(hG.fl.good f hm).1,aZ (e_ _ _) (hG.fl.good f hm).2⟩,iO,ht,λH2 q s2 nq hq=>?_⟩;refine k.fin (ans:=[0,(t.leave:Int)]) ?_ (a1.gr (.of s2)) (a1.free q nq) hq;show bQ s n _=_;unfold bQ flight;rw[hf];have kO:bG (times (cT s {f with feeds:=f.feeds.filter λx=>x.g !=m}).now (cT s {f with feeds:=f.feeds.filter λx=>x.g !=m}).flights) n=some t:=by rw[<-en];exact ht
    simp only[ho,ha,oo kO];rfl
abbrev J9:aV:=top 41
theorem Up:bu ["house","flight","air","minutes"] ["house","flight","air"] (bb J9):=bC
def rD(now:Nat)(f:aw)(e:Int):Bool:= !decide ((f.arr:Int)-f.dep+e<1)&&(match f.left with|none=>true|some m=>decide ((now:Int)<m+((f.arr:Int)-f.dep+e)))
inductive Uq(A:Ad)(vs:List V)(H:Hp)(Q:VK)(E:XK):Prop|mk h now df dt dp ls a f d (e:Int) (z:vs=[.ref h,.ref a,.int e]) (z:fq A H h now df dt dp ls) (z:b_ A H a f d) (z:Q (.bl (rD now f e)) H)
theorem afB(F:bh K "air_fits" "air_fits" J9 f fd)(T:Txt K mg A)(vO:dm P w K mg base A.CF "planned_minutes" 1 ["self"] (Jb A)):aX P w K mg base bc 2 f fd ["house","flight","air"] (Uq A):=by
 refine F.bH Up λH vs Q E hr hu h=>?_;obtain⟨h,now,df,dt,dp,ls,a,f,d,e,rfl,hH,hF,k⟩:=h;obtain⟨dx,hx⟩:=id hF
 refine⟨_,(aq (bf 3 Up.nd (fg iC (fk (pv 1) T.cF vO hr) (pv 2))) (aq (bo (dS qL (pv 3) aJ) (az (aK ik)) bt)
   (az (aK (Qz (qG (yf (au K (pv 1)))) (nS (n8 BK (fg iC (au K (pv 1)) (pv 3)) (au K (pv 0))))))))),?_⟩
 refine⟨_,rfl,a,dx,_,rfl,hx,rfl,a,f,d,rfl,hF,_,rfl,_,_,rfl,rfl,_,rfl,_,_,rfl,rfl,_,rfl,dO (λh1=>?_) λh1=>?_⟩
 ·have:rD now f e=false:=by unfold rD;rw[dX h1];rfl
  rw[this]at k;exact k
 ·have e1:rD now f e=(match f.left with|none=>true|some m=>decide ((now:Int)<m+((f.arr:Int)-f.dep+e))):=by unfold rD;rw[c9 h1];rfl
  refine⟨_,rfl,pH T hF ?_⟩;cases hl:f.left with
  |none=>rw[e1,hl]at k;exact⟨_,rfl,aY k⟩|some m=>rw[e1,hl]at k;refine⟨_,rfl,bp ⟨_,rfl,pH T hF ?_⟩⟩;rw[hl];exact⟨_,rfl,_,_,rfl,rfl,_,rfl,n_ T hH ⟨_,_,rfl,rfl,k⟩⟩
abbrev J_:aV:=top 42
theorem Ur:bu ["house","row","flight"] ["house","row"] (bb J_):=bC
theorem afC(F:bh K "set_air" "set_air" J_ f fd)(T:Txt K mg A)(ft:Glob P w K mg base "house_stands" 7 ["house"] (om A))(pS:Glob P w K mg base "has_arrived" 1 ["flight","stand","now"] (C0 A))(Ka:Glob P w K mg base "air_fits" 2 ["house","flight","air"] (Uq A)):aX P w K mg base bc 8 f fd ["house","row"] (fN A K λns c=>∃(n:Nat)(e:Int),ns=[(n:Int),e]/\c=.air n e):=by
 refine F.bH Ur λH vs Q E hr hu h=>?_;obtain⟨L,s,r,ns,c,rfl,hH,hG,hB,hR,⟨n,e,rfl,rfl⟩,k⟩:=h
 refine⟨_,(aq (bo (dB (f9 hu (bz K (pv 1) aJ) (au K (pv 0)))) (az (aK (bw (ax (cn (T.kH)))))) bt) (aq (bf 2 Ur.nd (cC hu (au K (pv 0)) (bz K (pv 1) aJ)))
   (aq (bo (PW.pt (jj (dj (au K (pv 2))) (ji (dj (bK pS hr (aM (pv 2) (aM (cC hu (bK ft hr (ax (pv 0))) (au K (pv 2))) (ax (au K (pv 0)))))))))) (az (aK (bw (ax (cn (T.ir)))))) bt)
   (aq (bo (gY (dj (bK Ka hr (aM (pv 0) (aM (pv 2) (ax (bz K (pv 1) aJ))))))) (az (aK (bw (ax (cn (T.n9)))))) bt)
   (aq (c8 (pv 2) (bz K (pv 1) aJ))
   (az (aK (bw (aM aJ (ax (au K (cC hu (bK ft hr (ax (pv 0))) (au K (pv 2)))))))))))))),?_⟩
 refine⟨_,rfl,_,_,_,_,rfl,rfl,hR,rfl,_,rfl,ek T hH.ho ⟨_,_,rfl,bq (.inl hH.fl.fl) (eZ _ n),_,rfl,?_⟩⟩;cases hf:eM s.flights n with
 |none=>exact aY ⟨by decide,λp np=>k.ret hH (ans:=[-3]) (by show bQ s n _=_;unfold bQ flight;rw[hf]) .refl p np⟩|some f=>obtain⟨hm,en⟩:=gu hf;have hO:=hH.fl.bB f hm;refine bp ⟨_,rfl,ek T hH.ho ⟨_,rfl,_,_,_,_,rfl,rfl,hR,rfl,_,_,rfl,bq (.inl hH.fl.fl) (by rw[eZ,hf];rfl),_,rfl,vI T hO ⟨_,rfl,?_⟩⟩⟩;cases hc:f.cancelled with
  |true=>exact aY (aY ⟨by decide,λp np=>k.ret hH (ans:=[-7]) (by show bQ s n _=_;unfold bQ flight;rw[hf];simp[hc]) .refl p np⟩)|false=>
   refine bp ?_;obtain⟨t,ht⟩:=tY hm hc;have zl:jh s f=(f.left.isSome&&decide (t.arrive<=s.now)):=by unfold jh;rw[oo ht]
   refine⟨_,rfl,_,rfl,L.h,s.now,_,_,_,_,L.fa,L.fe,s.flights,rfl,hH.ho,hH.fl,hG.fl,λH1 p kvs sa c s1 np hp hs jX=>?_⟩;have rB:=hO.same s1;have bP:=hH.same s1;have jY:=s1.seq hR;refine⟨_,rfl,dn T rB ⟨p,_,rfl,bq (.inl hp) (by rw[hs.eq,iu,ht];rfl),_,rfl,n_ T bP.ho ⟨_,f,_,_,_,_,_,s.now,rfl,rB,hs.at_ t (kL ht).1,_,rfl,?_⟩⟩⟩;rw[<-zl];cases ha:jh s f with
   |true=>exact aY ⟨by decide,λp np=>k.ret hH (ans:=[-7]) (by show bQ s n _=_;unfold bQ flight;rw[hf];simp[hc,ha]) (.of s1) p np⟩|false=>
    refine bp ⟨_,rfl,_,rfl,_,rfl,_,_,_,_,rfl,rfl,jY,rfl,L.h,s.now,_,_,_,_,_,f,_,e,rfl,bP.ho,rB,_,rfl,?_⟩;obtain⟨g1,g2⟩:=(hG.fl.good f hm).1;obtain⟨f',ef⟩:∃f',f'=({f with air:=e}:aw):=⟨_,rfl⟩;have wc:f'.num=f.num:=by rw[ef]
    have el':f'.left=f.left:=by rw[ef]
    have Us:f'.cancelled=false:=by rw[ef];exact hc
    have Kb:(f'.arr:Int)-f'.dep=(f.arr:Int)-f.dep:=by rw[ef]
    have t4:f'.air=e:=by rw[ef]
    have Ut:f'.dep<f'.arr:=by rw[ef];exact g1
    have st:step s (.air n e)=(if f.cancelled=true∨jh s f=true then(s,[-7])else if((f.arr-f.dep:Nat):Int)+e<1∨(f.left.isSome=true/\(timeIn (cT s f') n).arrive<=s.now)then(s,[-8])else(cT s f',[0,((timeIn (cT s f') n).arrive:Int)])):=by show bQ s n _=_;unfold bQ flight;rw[hf,ef]
    rw[ah (by rw[hc,ha];simp)]at st;have iO:f'∈(cT s f').flights:=zp hm wc;have zq:((cT s f').flights.map λf=>f.num).Nodup:=by unfold cT;show((s.flights.map λg=>if g.num=f'.num then f' else g).map λf=>f.num).Nodup;rw[zm];exact hG.fl.nd
    have cond:(((f.arr-f.dep:Nat):Int)+e<1∨(f.left.isSome=true/\(timeIn (cT s f') n).arrive<=s.now))↔rD s.now f e=false:=by
     have e0:((f.arr-f.dep:Nat):Int)=(f.arr:Int)-f.dep:=by lia
     rw[e0];unfold rD;by_cases h1:(f.arr:Int)-f.dep+e<1
     ·rw[dX h1]
      exact⟨λ_=>rfl,λ_=>.inl h1⟩
     ·rw[c9 h1]
      cases hl:f.left with
      |none=>
       refine⟨λz=>?_,λz=>?_⟩
       ·rcases z with z|z
        ·exact absurd z h1
        ·exact absurd z.1 (by simp)
       ·exact absurd z (by simp)|some m=>
       have kO:=afw (now:=s.now) zq (i_.mpr ⟨iO,Us⟩) (el'.trans hl);have ht3:timeIn (cT s f') n={num:=f'.num,leave:=m,arrive:=qC f' m}:=oo (s:=cT s f') (by rw[<-en,<-wc];exact kO);have ha2:=Jj (f:=f') ⟨Ut,by rw[Kb,t4];lia⟩ m;rw[Kb,t4]at ha2;rw[ht3];show(_∨(true=true/\qC f' m<=s.now))↔decide ((s.now:Int)<m+((f.arr:Int)-f.dep+e))=false;rw[EZ];constructor
       ·rintro(z|⟨_,z⟩)
        ·exact absurd z h1
        ·lia
       ·intro z
        exact .inr ⟨rfl,by lia⟩
    cases hA:rD s.now f e with
    |false=>exact aY ⟨by decide,λp np=>k.ret hH (ans:=[-8]) (by rw[st,aj (cond.mpr hA)]) (.of s1) p np⟩|true=>
     refine bp ?_;obtain⟨dx,hx⟩:=id rB;refine⟨_,rfl,_,_,_,_,rfl,rfl,jY,rfl,_,rfl,_,_,dx,_,rfl,hx,T.cF,T.IK,(by show 13<1000;decide),?_⟩;have a0:After A H H1 L L s s:=.of hH (.of s1);have a1:After A H1 (upd H1 (L.fa f.num) (.ins A.CF dx (bO "air" (V.int e) (d5 f (L.fe f.num))))) L L s (cT s f'):=by
      have:=After.v_ bP hG.fl.nd hm (f':=f') wc (by rw[ef]) (by rw[ef]) hx;have e2:d5 f' (L.fe f.num)=bO "air" (V.int e) (d5 f (L.fe f.num)):=by rw[ef];rfl
      rw[e2]at this;exact this
     generalize upd H1 (L.fa f.num) (.ins A.CF dx (bO "air" (V.int e) (d5 f (L.fe f.num))))=H2 at a1;obtain⟨t2,kO⟩:=tY (s:=cT s f') iO Us;have mJ:1<=(f.arr:Int)-f.dep+e:=by have:=mt cond.mp (by rw[hA];decide);lia
     have hG2:kM (cT s f').flights:=hG.fl.set hm wc ⟨⟨Ut,by rw[Kb,t4];exact mJ⟩,by rw[ef];exact(hG.fl.good f hm).2⟩;refine⟨_,rfl,L.h,s.now,_,_,_,_,L.fa,L.fe,(cT s f').flights,rfl,a1.at_.ho,a1.at_.fl,hG2,λH3 p3 akf sa3 c3 s3 Kc t5 tj akg=>?_⟩;have pP:=(a1.at_.fl.bB _ iO).same s3;rw[wc]at pP;refine⟨_,rfl,dn T pP ?_⟩;have Uu:bG (times s.now (cT s f').flights) f'.num=some t2:=kO;refine⟨p3,_,rfl,bq (.inl t5) (by rw[tj.eq,iu,Uu];rfl),oa T (tj.at_ t2 (kL Uu).1) ⟨by show 2<=aS;decide,λq nq=>?_⟩⟩;have a2:=(a0.trans a1).gr (.of (s3.trans (bL (o:=.lst [.int 0,.int t2.arrive]) nq)));refine k.fin (ans:=[0,(t2.arrive:Int)]) ?_ a2 ((a0.trans a1).free q (s3.free nq)) ao;rw[st,ah (λz=>by have:=cond.mp z;rw[hA]at this;cases this),oo (s:=cT s f') (by rw[<-en,<-wc];exact kO)]
abbrev Kd:aV:=top 43
theorem Ke:bu ["house","row","flight","fed"] ["house","row"] (bb Kd):=bC
theorem afD(h:i9 H kf xs)(ht:H t=some (.tup [.int x.need,.int x.most])):i9 H (kf++[(ay (x.g:Int),.ref t)]) (xs++[x]):=by
 refine⟨by simp[h.len],λi y hy=>?_⟩;by_cases hi:i<xs.length
 ·rw[nv hi]at hy
  obtain⟨t',h1,h2⟩:=h.at_ i y hy;exact⟨t',by rw[nv (by rw[h.len];exact hi)];exact h1,h2⟩
 ·rw[oI (by lia)]at hy
  have e:i-xs.length=0:=by have:=(eo.mp hy).1;simp at this;lia
  rw[e]at hy;cases hy;exact⟨t,by rw[oI (by rw[h.len];lia),h.len,e];rfl,ht⟩
theorem afE(F:bh K "add_feed" "add_feed" Kd f fd)(T:Txt K mg A)(fu:dm P w K mg base A.CF "is_open" 1 ["self"] (og A))(pU:Glob P w K mg base "answer_leaves" 8 ["house","flight"] (De A)):aX P w K mg base bc 9 f fd ["house","row"] (fN A K λns c=>∃n m a b:Nat,ns=[(n:Int),(m:Int),(a:Int),(b:Int)]/\c=.feed n m a b):=by
 refine F.bH Ke λH vs Q E hr hu h=>?_;obtain⟨L,s,r,ns,c,rfl,hH,hG,hB,hR,⟨n,m,na,nb,rfl,rfl⟩,k⟩:=h
 refine⟨_,(aq (bo (PW.pt (jj (dB (f9 hu (bz K (pv 1) aJ) (au K (pv 0)))) (ji (dB (f9 hu (bz K (pv 1) aJ) (au K (pv 0))))))) (az (aK (bw (ax (cn (T.kH)))))) bt) (aq (bf 2 Ke.nd (cC hu (au K (pv 0)) (bz K (pv 1) aJ)))
   (aq (bf 3 Ke.nd (cC hu (au K (pv 0)) (bz K (pv 1) aJ)))
   (aq (bo (PW.pt (jj (gY (dj (fk (pv 2) T.cF fu hr))) (ji (dj (au K (pv 3)))))) (az (aK (bw (ax (cn (T.ir)))))) bt)
   (aq (bo (PW.pt (jj (dS vg (au K (pv 3)) (au K (pv 2))) (ji (dS BK (fg iC (au K (pv 3)) (bz K (pv 1) aJ)) (au K (pv 2)))))) (az (aK (bw (ax (cn (T.n9)))))) bt)
   (aq (bo (dB (qQ hu (au K (pv 3)) (au K (pv 2)))) (az (aK (bw (ax (cn (T.yY)))))) bt)
   (aq (bo (dS ym (lA B4 (by rfl) T.len uR (ax (au K (pv 2)))) (cn (T.IW))) (az (aK (bw (ax (cn (T.vF)))))) bt)
   (aq (iK hu (au K (pv 2)) (au K (pv 3)) (vh (aM (bz K (pv 1) aJ) (ax (bz K (pv 1) aJ)))))
   (az (aK (bK pU hr (aM (pv 0) (ax (pv 2)))))))))))))),?_⟩
 refine⟨_,rfl,_,_,_,_,rfl,rfl,hR,rfl,_,rfl,ek T hH.ho ⟨_,_,rfl,bq (.inl hH.fl.fl) (eZ _ n),_,rfl,?_⟩⟩;cases hf:eM s.flights n with
 |none=>exact aY (aY ⟨by decide,λp np=>k.ret hH (ans:=[-3]) (by show bQ s n _=_;unfold bQ flight;rw[hf]) .refl p np⟩)|some f=>refine bp ⟨_,rfl,_,_,_,_,rfl,rfl,hR,rfl,_,rfl,ek T hH.ho ⟨_,_,rfl,bq (.inl hH.fl.fl) (eZ _ m),_,rfl,?_⟩⟩;cases hg:eM s.flights m with
  |none=>exact aY ⟨by decide,λp np=>k.ret hH (ans:=[-3]) (by show bQ s n _=_;unfold bQ flight;rw[hf];simp only[hg]) .refl p np⟩|some g=>
   obtain⟨hm,en⟩:=gu hf;obtain⟨qV,eg⟩:=gu hg;have hO:=hH.fl.bB f hm;have fM:=hH.fl.bB g qV;obtain⟨dx,hx⟩:=id hO;refine bp ⟨_,rfl,ek T hH.ho ⟨_,rfl,_,_,_,_,rfl,rfl,hR,rfl,_,_,rfl,bq (.inl hH.fl.fl) (by rw[eZ,hf];rfl),_,rfl,ek T hH.ho ⟨_,rfl,_,_,_,_,rfl,rfl,hR,rfl,_,_,rfl,bq (.inl hH.fl.fl) (by rw[eZ,hg];rfl),?_⟩⟩⟩
   have st:step s (.feed n m na nb)=(if bV f=false∨g.cancelled=true then(s,[-7])else if g.dst≠f.src∨f.dep<g.arr+na then(s,[-8])else if(f.feeds.any λx=>x.g==m)=true then(s,[-5])else if MOSTFEEDS<=f.feeds.length then(s,[-6])else(cT s {f with feeds:=f.feeds++[{g:=m,need:=na,most:=nb}]},[0,((timeIn (cT s {f with feeds:=f.feeds++[{g:=m,need:=na,most:=nb}]}) n).leave:Int)])):=by
    show bQ s n _=_;unfold bQ flight;rw[hf];simp only[hg]
   refine⟨_,rfl,_,dx,_,rfl,hx,rfl,_,f,_,rfl,hO,_,rfl,?_⟩;cases ho:bV f with
   |false=>exact aY (aY ⟨by decide,λp np=>k.ret hH (ans:=[-7]) (by rw[st,aj (.inl ho)]) .refl p np⟩)|true=>
    have hc:f.cancelled=false:=by unfold bV at ho;simp at ho;exact ho.1
    refine bp ⟨_,rfl,vI T fM ⟨_,rfl,?_⟩⟩;cases Kf:g.cancelled with
    |true=>exact aY ⟨by decide,λp np=>k.ret hH (ans:=[-7]) (by rw[st,aj (.inr Kf)]) .refl p np⟩|false=>
     refine bp ?_;rw[ah (by rw[ho,Kf];simp)]at st;refine⟨_,rfl,vG T fM ⟨_,rfl,qX T hO ⟨rfl,_,rfl,?_⟩⟩⟩;by_cases hd:g.dst=f.src
     ·refine lH (by rw[hd]) ?_
      refine⟨_,rfl,tJ T fM ⟨_,rfl,_,_,_,_,rfl,rfl,hR,rfl,_,_,rfl,rfl,_,rfl,qY T hO ⟨_,_,rfl,rfl,_,rfl,dO (λh1=>?_) λh1=>?_⟩⟩⟩
      ·refine⟨by decide,λp np=>?_⟩
       have h1:f.dep<g.arr+na:=by have h1:(f.dep:Int)<(g.arr:Int)+na:=h1;lia
       exact k.ret hH (ans:=[-8]) (by rw[st,aj (.inr h1)]) .refl p np
      ·have h1:¬f.dep<g.arr+na:=by have h1:¬(f.dep:Int)<(g.arr:Int)+na:=h1;lia
       rw[ah (λz=>z.elim (λz=>z hd) h1)]at st;obtain⟨kf,lT,hK⟩:=hH.fl.feeds f hm;have hv:=J7 m hK;refine⟨_,rfl,dn T fM ⟨_,rfl,vH T hO ⟨_,_,rfl,bq (.inl lT) rfl,_,rfl,?_⟩⟩⟩;rw[eg,hv];cases ha:f.feeds.any λx=>x.g==m with
       |true=>exact aY ⟨by decide,λp np=>k.ret hH (ans:=[-5]) (by rw[st,aj ha]) .refl p np⟩|false=>
        rw[ha]at hv;have tT:bZ kf (ay (m:Int))=none:=by cases h:bZ kf (ay (m:Int))with|none=>rfl|some v=>rw[h]at hv;cases hv
        rw[ah (by rw[ha];decide)]at st;refine bp ⟨_,rfl,vH T hO ⟨_,_,rfl,lT,_,_,rfl,rfl,_,rfl,dO (λh2=>?_) λh2=>?_⟩⟩
        ·refine⟨by decide,λp np=>?_⟩
         have h2:(8:Int)<=(kf.length:Nat):=h2;exact k.ret hH (ans:=[-6]) (by rw[st,aj (by show 8<=f.feeds.length;have:=hK.len;lia)]) .refl p np
        ·have h2:¬(8:Int)<=(kf.length:Nat):=h2
         have h3:¬MOSTFEEDS<=f.feeds.length:=by show¬8<=f.feeds.length;have:=hK.len;lia
         rw[ah h3]at st;refine⟨_,rfl,_,_,_,_,rfl,rfl,hR,rfl,_,rfl,_,_,_,_,rfl,rfl,hR,rfl,by show 2<=aS;decide,λt nt=>?_⟩;have s1:aC H (upd H t (.tup [.int na,.int nb])):=bL nt;have bP:=hH.same s1;have Df:=s1 _ _ lT;refine⟨_,rfl,vH T (hO.same s1) ⟨_,rfl,dn T (fM.same s1) ⟨_,_,rfl,iL Df (fI (by lia:kf.length<8) (by decide)),?_⟩⟩⟩;rw[eg,qO _ tT]
         have hKn:i9 (upd (upd H t (.tup [.int na,.int nb])) (L.fe f.num) (.dK (kf++[(ay (m:Int),.ref t)]))) (kf++[(ay (m:Int),.ref t)]) (f.feeds++[{g:=m,need:=na,most:=nb}]):=afD (x:={g:=m,need:=na,most:=nb}) (hK.keep λt' zs z=>aT Df (s1 _ _ z) nofun) (aT Df ao nofun)
         have a0:After A H _ L L s s:=.of hH (.of s1);have a1:=a0.trans (After.Dc bP hG.fl.nd hm Df hKn);generalize upd (upd H t (.tup [.int na,.int nb])) (L.fe f.num) (.dK (kf++[(ay (m:Int),.ref t)]))=H2 at a1;have iO:{f with feeds:=f.feeds++[{g:=m,need:=na,most:=nb}]}∈(cT s {f with feeds:=f.feeds++[{g:=m,need:=na,most:=nb}]}).flights:=zp (f':={f with feeds:=f.feeds++[{g:=m,need:=na,most:=nb}]}) hm rfl;obtain⟨tt,ht⟩:=tY (s:=cT s {f with feeds:=f.feeds++[{g:=m,need:=na,most:=nb}]}) iO hc;refine⟨_,rfl,_,rfl,L,_,{f with feeds:=f.feeds++[{g:=m,need:=na,most:=nb}]},tt,rfl,a1.at_,hG.fl.set (f':={f with feeds:=f.feeds++[{g:=m,need:=na,most:=nb}]}) hm rfl ⟨(hG.fl.good f hm).1,by show(f.feeds++[_]).length<=8;rw[eL];show f.feeds.length+1<=8;have h3:¬8<=f.feeds.length:=h3;lia⟩,iO,ht,λH3 q s3 nq hq=>k.fin (ans:=[0,(tt.leave:Int)]) ?_ (a1.gr (.of s3)) (a1.free q nq) hq⟩;rw[st,oo (s:=cT s {f with feeds:=f.feeds++[{g:=m,need:=na,most:=nb}]}) (by rw[<-en];exact ht)]
     ·refine lO (λz=>hd (by have:=V.int.inj z;lia)) (aY ⟨by decide,λp np=>?_⟩)
      exact k.ret hH (ans:=[-8]) (by rw[st,aj (.inl hd)]) .refl p np
end WD
namespace L2
open PySem PySem.Spec PyProof.Rows
theorem bh.Dg{P:bR}{w:bI}{K:aG}{mg:ai->Option ag}{base:bg}{x qual:ai}{st:aV}{f:af}{fd:eB}{N ps:List ai}{k:Nat}{sp:Sp}(F:bh K x qual st f fd)(S:bu N ps (bb st))(len:∀vs H Q E,sp vs H Q E->vs.length=ps.length) (mF:∀(dc:ag)(A:dF)(outer:List d9)(s:aA)(H:Hp)(vs:List V)(Q:VK)(E:XK),fd.code=dc->c6 k (A.deeper (j9 qual (bb st) s.heap.objs.size f dc))->sp vs H Q E->∃t,iX (nU bc P w K mg base N qual (bb st) f dc A outer s H E).my (iG st) t/\t {nx:=λ_ H'=>Q .non H',rt:=Q} (start N vs) H):aX P w K mg base bc (k+1) f fd ps sp:=by
 obtain⟨oc,od,kV,doc,pm,an,dc,ct,fL,rfl,lk,fT⟩:=F.ex;refine Q2 lk fT S len λA outer s H vs Q E hr ly=>?_;obtain⟨t,h,q⟩:=mF dc A outer s H vs Q E rfl hr ly;exact⟨t,h.my,q⟩
end L2
namespace WD
open PySem PySem.Spec PyProof.Rows L2 Vbahaj
variable{P:bR}{w:bI}{K:aG}{mg:ai->Option ag}{base:bg}{A:Ad}{f:af}{fd:eB}
theorem Dh:earlier a b=true↔a.rank<b.rank∨(a.rank=b.rank/\a.x<b.x):=by unfold earlier;simp
theorem Kg(f:bj):∀l:List bj,(putPax f l).Perm (f::l)
 |[]=>.refl _|g::l=>by
  unfold putPax;split
  ·exact .refl _
  ·exact((Kg f l).cons g).trans (.swap f g l)
theorem jZ:∀l:List bj,(iW l).Perm l|[]=>.refl _|f::l=>(Kg f (iW l)).trans ((jZ l).cons f)
theorem Uv{f:bj}:∀{l:List bj},l.Pairwise (λa b=>earlier a b=true)->(∀g,g∈l->g.x≠f.x)->(putPax f l).Pairwise (λa b=>earlier a b=true)
 |[],_,_=>ny _ _|g::l,h,hn=>by
  unfold putPax;have⟨h1,h2⟩:=jy.mp h;split
  ·rename_i hb
   refine jy.mpr ⟨λx hx=>?_,h⟩;rcases b9.mp hx with rfl|hx
   ·exact hb
   ·have:=h1 x hx
    rw[Dh]at *;lia
  ·rename_i hb
   refine jy.mpr ⟨λx hx=>?_,Uv h2 λy hy=>hn y (b8 _ hy)⟩;rcases b9.mp ((Kg f l).mem_iff.mp hx)with rfl|hx
   ·have:=hn g cK
    rw[Dh]at *;lia
   ·exact h1 x hx
theorem Uw:∀{l:List bj},(l.map λq=>q.x).Nodup->(iW l).Pairwise (λa b=>earlier a b=true)|[],_=>AN|f::l,h=>by obtain⟨h1,h2⟩:=gS.mp h;exact Uv (Uw h2) λg hg e=>h1 (aB.mpr ⟨g,(jZ l).mem_iff.mp hg,e⟩)
def zr(A:Ad)(H:Hp)(pa:Nat->af)(l:List bj):Prop:=∀q,q∈l->∃u v,dH A H (pa q.x) q u v
theorem afF{A:Ad}{H:Hp}{pa:Nat->af}{l:List bj}(h:zr A H pa l){f g:bj}(hf:f∈l)(hg:g∈l)(e:pa f.x=pa g.x):f.x=g.x:=by
 obtain⟨u1,v1,d1,e1⟩:=h f hf;obtain⟨u2,v2,d2,e2⟩:=h g hg;rw[e,e2]at e1;have e3:=cM.inj e1;by_cases hx:f.x=g.x
 ·exact hx
 ·exact absurd e3 (Uh (Ne.symm hx))
theorem Di{fs:List bj}(hN:(fs.map λf=>f.x).Nodup){i j:Nat}{f g:bj}(hi:fs[i]? =some f)(hj:fs[j]? =some g)(e:f.x=g.x):i=j:=vw hN (x:=f.x) (by rw[fz,hi];rfl) (by rw[fz,hj,e];rfl)
theorem rE{l:List bj}(hN:(l.map λf=>f.x).Nodup){f g:bj}(hf:f∈l)(hg:g∈l)(e:f.x=g.x):f=g:=by
 obtain⟨i,hi,rfl⟩:=h_ hf
 obtain⟨j,hj,rfl⟩:=h_ hg
 have:=Di hN (dY hi) (dY hj) e
 subst this
 rfl
def t6(pa:Nat->af)(l:List bj)(v:V):List Int:=match l.find? λf=>decide (V.ref (pa f.x)=v)with|some f=>[(f.rank:Int),(f.x:Int)]|none=>[]
theorem Dj{A:Ad}{H:Hp}{pa:Nat->af}{l:List bj}(h:zr A H pa l)(hN:(l.map λf=>f.x).Nodup){f:bj}(hf:f∈l):t6 pa l (V.ref (pa f.x))=[(f.rank:Int),(f.x:Int)]:=by unfold t6;cases e:l.find? λg=>decide (V.ref (pa g.x)=V.ref (pa f.x))with|none=>have:=iR.mp e f hf;simp at this|some g=>have h1:=iA e;have h2:=gU e;have h3:V.ref (pa g.x)=V.ref (pa f.x):=nj h2;have h4:=rE hN h1 hf (afF h h1 hf (V.ref.inj h3));subst h4;rfl
theorem afG(h:zr A H pa l)(hN:(l.map λf=>f.x).Nodup)(p:ys.Perm (l.map λf=>V.ref (pa f.x)))(hp:ys.Pairwise λa b=>HT.lexLt (t6 pa l b) (t6 pa l a)=false):ys=(iW l).map λf=>V.ref (pa f.x):=by
 obtain⟨l',p',rfl⟩:=zf p rfl;have tO:(l'.map λf=>f.x).Nodup:=(p'.map _).nodup_iff.mpr hN;have e:l'=iW l:=by
  refine vQ (R:=λa b=>earlier a b=true) (λa b h1 h2=>by rw[Dh]at *;lia) (p'.trans (jZ l).symm) ?_ (Uw hN);rw[j6]at hp;have d_:l'.Pairwise λa b=>HT.lexLt (t6 pa l (V.ref (pa b.x))) (t6 pa l (V.ref (pa a.x)))=false/\a.x≠b.x:=by refine hp.and ?_;have:(l'.map λf=>f.x).Pairwise (·≠·):=tO;rw[j6]at this;exact this
  refine d_.imp_of_mem λ{a b}ha hb h1=>?_;obtain⟨h1,h2⟩:=h1;rw[Dj h hN (p'.mem_iff.mp ha),Dj h hN (p'.mem_iff.mp hb),zg]at h1;rw[Dh];simp at h1;lia
 rw[e]
abbrev Dk:aV:=top 13
theorem afH:bu ["passengers"] ["passengers"] (bb Dk):=bC
def Dm:a_->kc×a_×dZ|.Lambda a b s _=>(a,b,s)|_=>({posonlyargs:=[],args:=[],vararg:=none,kwonlyargs:=[],kw_defaults:=[],kwarg:=none,defaults:=[]},.Constant .none 0 ⟨0,0,0,0⟩,{kind:=.function,names:=[],isGenerator:=false,isCoroutine:=false})
def Dn:a_->a_|.Call _ _ [⟨_,e,_⟩] _=>e|e=>e
def Kh:aV->a_|.Return (some e) _=>e|_=>.Constant .none 0 ⟨0,0,0,0⟩
def Dp:kc×a_×dZ:=Dm (Dn (Kh ((iG Dk).getD 0 (.Pass ⟨0,0,0,0⟩))))
theorem afI:bu ["passenger"] ["passenger"] Dp.2.2:=⟨rfl,rfl,rfl,by decide +kernel,rfl,by decide +kernel,by decide +kernel⟩
inductive Ki(A:Ad)(K:aG)(vs:List V)(H:Hp)(Q:VK)(E:XK):Prop|mk l pa ps (z:vs=[.ref l]) (z:aE K H l (ps.map λq:bj=>V.ref (pa q.x))) (z:zr A H pa ps) (z:(ps.map λq=>q.x).Nodup) (z:dW A H) (z:∀H' p,Gr A H H'->H p=none->H' p=some (.lst ((iW ps).map λq=>V.ref (pa q.x)))->Q (.ref p) H')
theorem zt(h:aE K H a xs)(g:Gr A H H'):aE K H' a xs:=by
 rcases h with(h|⟨o,h⟩)|h
 ·exact .inl (.inl (g.same _ _ h nofun))
 ·exact .inl (.inr ⟨o,g.same _ _ h nofun⟩)
 ·exact .inr h
theorem lV{H H':Hp}{P P':af}{q:ai}{ps:Array ag}(h:TabAt H P' q)(hP:H P=some (.c_ ps))(n:P'≠P)(k:∀b o,H b=some o->b≠P->H' b=some o):TabAt H' P' q:=let⟨rF,e,t⟩:=h;⟨rF,k _ _ e n,t.mono λc e=>k _ _ e (cZ e hP nofun)⟩
theorem Dq{A:Ad}{H H':Hp}{P:af}{ps rF:Array ag}(hP:H P=some (.c_ ps))(iH:H' P=some (.c_ rF))(k:∀b o,H b=some o->b≠P->H' b=some o)(t:dW A H->dW A H'):Gr A H H':=⟨λb o e n=>k b o e λz=>by rw[z,hP]at e;cases e;exact n _ rfl,t,λb e=>by cases h:H b with
  |none=>rfl|some o=>
   by_cases hb:b=P
   ·rw[hb,iH]at e;cases e
   ·rw[k b o h hb]at e;cases e⟩
theorem afJ(F:bh K "by_rank" "by_rank" Dk f fd)(T:Txt K mg A)(B:lK mg base)(hC:∃c,fd.code=.ref c/\jD base c A.P1):aX P w K mg base bc 5 f fd ["passengers"] (Ki A K):=by
 obtain⟨cc,lp,t7⟩:=hC;refine F.Dg afH (λvs H Q E h=>?_) (λdc A0 outer s0 H vs Q E fT hr h=>?_)
 ·obtain⟨l,pa,ps,rfl,_⟩:=h
  rfl
 ·obtain⟨l,pa,ps,rfl,hS,hP,hN,hT,k⟩:=h
  rw[lp]at fT
  refine⟨_,(az (aK (Cj (run:=λf _=>Ck ["passenger"] q1 Dp.1 Dp.2.1 Dp.2.2 (BM (mD (o6 K (nR 0) "rank") (mD (o6 K (nR 0) "number") lu))) f) rfl (by rfl) T.sorted (aM (pv 0) mE) (yp (Ib (q:=q1) B fT.symm t7 (by rfl)) yo) (λf σ=>Ii (x:="passenger") (k:=0) afI (hr.mono (by decide)) (λ_ _ _ _=>rfl) (λf c A outer s H hr=>vh (aM (au K (pv 0)) (aM (au K (pv 0)) mE))) f σ)))),?_⟩
  refine⟨_,rfl,?_⟩;obtain⟨tp,g_,Kj⟩:=hT.1;refine⟨hT.1,λH1 q c kp oq nq hq hc=>?_⟩;obtain⟨t8,mZ,t9⟩:=oq;have g1:Gr A H H1:=Dq g_ mZ kp λt=>⟨⟨t8,mZ,t9⟩,lV t.2.1 g_ T.pn.1.symm kp,lV t.2.2.1 g_ T.pn.2.1.symm kp,lV t.2.2.2 g_ T.pn.2.2.1.symm kp⟩
  have hP2:zr A H1 pa ps:=λx hx=>let⟨u,v,dx,e⟩:=hP x hx;⟨u,v,dx,g1.same _ _ e nofun⟩;refine⟨l,q,_,t6 pa ps,rfl,rfl,.inl (zt hS g1),λv hv H2 s2=>?_,λys D H2 p1 p2 s2 nD hD=>?_⟩
  ·obtain⟨x,hx,rfl⟩:=aB.mp hv
   obtain⟨u,v,hO⟩:=hP2 x hx;have zu:dH A H2 (pa x.x) x u v:=let⟨dx,e⟩:=hO;⟨dx,s2 _ _ e⟩
   refine⟨⟨c,s2 _ _ hq,s2 _ _ hc⟩,_,rfl,aez T zu ⟨_,rfl,tK T zu ⟨by show 2<=aS;decide,λt nt=>⟨bL nt,t,rfl,?_,?_⟩⟩⟩⟩
   ·rw[Dj hP hN hx]
    exact ao
   ·rw[Dj hP hN hx]
    exact λz=>nomatch z
  ·rw[afG hP hN p1 p2]at hD
   exact k H2 D (g1.trans (.of s2)) (g1.free D nD) hD
theorem dH.gr(h:dH A H a q u v)(s:∀b o,H b=some o->(∀ps,o≠.c_ ps)->H' b=some o):dH A H' a q u v:=let⟨dx,e⟩:=h;⟨dx,s _ _ e nofun⟩
theorem b_.gr{A:Ad}{H H':Hp}{a d:af}{f:aw}(h:b_ A H a f d)(s:∀b o,H b=some o->(∀ps,o≠.c_ ps)->H' b=some o):b_ A H' a f d:=let⟨dx,e⟩:=h;⟨dx,s _ _ e nofun⟩
def rG(A:Ad)(H:Hp)(fa:Nat->af)(n:Nat)(b:Bool):Prop:=(n=0/\b=false)∨(n≠0/\∃f d,b_ A H (fa n) f d/\f.num=n/\b=f.left.isSome)
theorem rG.gr(h:rG A H fa n b)(s:∀b o,H b=some o->(∀ps,o≠.c_ ps)->H' b=some o):rG A H' fa n b:=h.imp id λ⟨h1,f,d,h2,h3⟩=>⟨h1,f,d,h2.gr s,h3⟩
abbrev Kk:aV:=inClass (top 12) 1
theorem afK:bu ["self"] ["self"] (bb Kk):=bC
inductive zw(A:Ad)(vs:List V)(H:Hp)(Q:VK)(E:XK):Prop|mk a q u fa n (z:vs=[.ref a]) (z:dH A H a q u (d8 fa n)) (z:Q (.bl (n==0)) H)
theorem afL:decide (d8 fa n=V.non)=(n==0):=by
 unfold d8;by_cases h:n=0
 ·rw[aj h,h];rfl
 ·rw[ah h]
  have:(n==0)=false:=by simpa using h
  rw[this];exact c9 nofun
theorem afM(F:bh K "is_stranded" "Passenger.is_stranded" Kk f fd)(T:Txt K mg A):aX P w K mg base bc 1 f fd ["self"] (zw A):=by refine F.bH afK λH vs Q E hr hu h=>?_;obtain⟨a,q,u,fa,n,rfl,hP,k⟩:=h;refine⟨_,(az (aK (qG (yf (au K (pv 0)))))),_,rfl,mS T hP ?_⟩;show Q (V.bl (decide (d8 fa n=V.non))) H;rw[afL];exact k
abbrev Kl:aV:=inClass (top 12) 2
theorem afN:bu ["self","flight"] ["self","flight"] (bb Kl):=bC
inductive Ux(A:Ad)(vs:List V)(H:Hp)(Q:VK)(E:XK):Prop|mk a q u fa n b g d c (z:vs=[.ref a,.ref b]) (z:dH A H a q u (d8 fa n)) (z:rG A H fa n c) (z:b_ A H b g d) (z:1<=g.num) (z:Q (.bl (n==g.num)) H)
theorem afO(F:bh K "is_on" "Passenger.is_on" Kl f fd)(T:Txt K mg A):aX P w K mg base bc 1 f fd ["self","flight"] (Ux A):=by
 refine F.bH afN λH vs Q E hr hu h=>?_;obtain⟨a,q,u,fa,n,b,g,d,c,rfl,hP,hO,hG,h1,k⟩:=h;refine⟨_,(az (aK (qH (qG (o3 (au K (pv 0)))) (nS (n8 mB (au K (au K (pv 0))) (au K (pv 1))))))),?_⟩;rcases hO with⟨h0,_⟩|⟨h0,f,d',hF,en,_⟩
 ·subst h0
  have e:((0:Nat)==g.num)=false:=by simp;lia
  rw[e]at k;exact⟨_,rfl,mS T hP ⟨_,rfl,lH rfl k⟩⟩
 ·have iH:dH A H a q u (.ref (fa n)):=by have e:d8 fa n=V.ref (fa n):=ah h0;rw[e]at hP;exact hP
  refine⟨_,rfl,mS T iH ⟨_,rfl,lO nofun ⟨_,rfl,mS T iH (dn T hF ⟨_,rfl,dn T hG ⟨rfl,?_⟩⟩)⟩⟩⟩;have e:decide (V.int (f.num:Int)=V.int (g.num:Int))=(n==g.num):=by
   rw[en];by_cases h:n=g.num
   ·rw[h];simp
   ·have:(n==g.num)=false:=by simpa using h
    rw[this];exact c9 λz=>h (by have:=V.int.inj z;lia)
  show Q (V.bl (decide (V.int (f.num:Int)=V.int (g.num:Int)))) H;rw[e];exact k
abbrev Km:aV:=inClass (top 12) 3
theorem afP:bu ["self"] ["self"] (bb Km):=bC
inductive t_(A:Ad)(vs:List V)(H:Hp)(Q:VK)(E:XK):Prop|mk a q u fa n c (z:vs=[.ref a]) (z:dH A H a q u (d8 fa n)) (z:rG A H fa n c) (z:Q (.bl c) H)
theorem afQ(F:bh K "has_flown" "Passenger.has_flown" Km f fd)(T:Txt K mg A):aX P w K mg base bc 1 f fd ["self"] (t_ A):=by
 refine F.bH afP λH vs Q E hr hu h=>?_;obtain⟨a,q,u,fa,n,c,rfl,hP,hO,k⟩:=h;refine⟨_,(az (aK (qH (qG (o3 (au K (pv 0)))) (nS (qG (o3 (au K (au K (pv 0))))))))),?_⟩;rcases hO with⟨h0,hc⟩|⟨h0,f,d',hF,en,hc⟩
 ·subst h0 hc
  exact⟨_,rfl,mS T hP ⟨_,rfl,lH rfl k⟩⟩
 ·have iH:dH A H a q u (.ref (fa n)):=by have e:d8 fa n=V.ref (fa n):=ah h0;rw[e]at hP;exact hP
  refine⟨_,rfl,mS T iH ⟨_,rfl,lO nofun ⟨_,rfl,mS T iH (pH T hF ?_)⟩⟩⟩;subst hc;cases hl:f.left with
  |none=>rw[hl]at k;exact k|some m=>rw[hl]at k;exact k
abbrev Kn:aV:=top 14
theorem Ko:bu ["house","flight","passenger"] ["house","flight"] (bb Kn):=bC
structure pV(A:Ad)(H:Hp)(dp:af)(pa un fa:Nat->af)(l:List bj):Prop where
 pd:Rd H dp (.dK (bT pa l))
 px:∀q,q∈l->dH A H (pa q.x) q (un q.x) (d8 fa q.on)/\∃c,rG A H fa q.on c
 nd:(l.map λq=>q.x).Nodup
 len:l.length<=100
theorem pV.gr(h:pV A H dp pa un fa l)(s:∀b o,H b=some o->(∀ps,o≠.c_ ps)->H' b=some o):pV A H' dp pa un fa l:=⟨by
  rcases h.pd with e|⟨o,e⟩
  ·exact .inl (s _ _ e nofun)
  ·exact .inr ⟨o,s _ _ e nofun⟩,λq hq=>⟨(h.px q hq).1.gr s,let⟨c,hc⟩:=(h.px q hq).2;⟨c,hc.gr s⟩⟩,h.nd,h.len⟩
inductive Dr(A:Ad)(vs:List V)(H:Hp)(Q:VK)(E:XK):Prop|mk h now df dt dp ls pa un fa l a g d (z:vs=[.ref h,.ref a]) (z:fq A H h now df dt dp ls) (z:pV A H dp pa un fa l) (z:H dp=some (.dK (bT pa l))) (z:b_ A H a g d) (z:1<=g.num) (z:dW A H) (z:∀H' p,Gr A H H'->H p=none->H' p=some (.lst ((iW (l.filter λq=>q.on==g.num)).map λq=>V.ref (pa q.x)))->Q (.ref p) H')
theorem afR(F:bh K "passengers_on" "passengers_on" Kn f fd)(T:Txt K mg A)(we:Glob P w K mg base "by_rank" 5 ["passengers"] (Ki A K))(Kp:dm P w K mg base A.CP "is_on" 1 ["self","flight"] (Ux A)):aX P w K mg base bc 6 f fd ["house","flight"] (Dr A):=by
 refine F.bH Ko λH vs Q E hr hu h=>?_;obtain⟨h,now,df,dt,dp,ls,pa,un,fa,l,a,g,d,rfl,hH,hP,hD,hF,rH,hT,k⟩:=h;refine⟨_,(az (aK (bK we hr (ax (Hy (jR [("passenger",2)] Ko.nd (HH (au K (pv 0))) (c7 2 Ko.nd) (o_ (dj (mR (pv 2) T.cP Kp hr (ax (pv 1))))) (pv 2))))))),dp,_,hD,bJ,λod=>?_⟩
 have kd:∀b o,H b=some o->(∀kvs,o≠.dK kvs)->(upd H dp (.aQ od (.dK (bT pa l)))) b=some o:=λb o e n=>by rw[ak (cZ e hD (n _))];exact e
 have pI:fq A (upd H dp (.aQ od (.dK (bT pa l)))) h now df dt dp ls:=let⟨dx,e⟩:=hH;⟨dx,kd _ _ e (by intro _ z;cases z)⟩
 have rb:b_ A (upd H dp (.aQ od (.dK (bT pa l)))) a g d:=let⟨dx,e⟩:=hF;⟨dx,kd _ _ e (by intro _ z;cases z)⟩
 have zx:∀q,q∈l->dH A (upd H dp (.aQ od (.dK (bT pa l)))) (pa q.x) q (un q.x) (d8 fa q.on)/\∃c,rG A (upd H dp (.aQ od (.dK (bT pa l)))) fa q.on c:=λq hq=>by obtain⟨⟨dx,e⟩,c,hc⟩:=hP.px q hq;refine⟨⟨dx,kd _ _ e (by intro _ z;cases z)⟩,c,hc.imp id λ⟨h1,f,d,⟨dy,e2⟩,h3⟩=>⟨h1,f,d,⟨dy,kd _ _ e2 (by intro _ z;cases z)⟩,h3⟩⟩
 have iM:(upd H dp (.aQ od (.dK (bT pa l)))) dp=some (.aQ od (.dK (bT pa l))):=ao;have zy:∀H',aC (upd H dp (.aQ od (.dK (bT pa l)))) H'->aC H (upd H' dp (.dK (bT pa l))):=λH' s b o e=>by
  by_cases hb:b=dp
  ·rw[hb]at e⊢
   rw[hD]at e;cases e;exact ao
  ·rw[ak hb]
   exact s b o (by rw[ak hb];exact e)
 have kn:∀b,(upd H dp (.aQ od (.dK (bT pa l)))) b=none->H b=none:=λb e=>by
  by_cases hb:b=dp
  ·rw[hb,ao]at e;cases e
  ·rw[ak hb]at e;exact e
 generalize upd H dp (.aQ od (.dK (bT pa l)))=Hd at pI rb zx iM zy kn;refine⟨_,rfl,gI T pI ⟨dp,od,_,rfl,iM,λD nD=>i7 II (λi H1=>aC Hd H1/\H1 D=some (.lst (((l.take i).filter λq=>q.on==g.num).map λq=>V.ref (pa q.x)))) ⟨bL nD,ao⟩ (λi H1 _ h=>h.1 _ _ iM) ?_ ?_⟩⟩
 ·rintro i x H1 H2 hi ⟨s1,e1⟩ ⟨rfl,kk,hx⟩
  unfold bT at hx;rw[fz]at hx;obtain⟨q,hq,ex⟩:=oP.mp hx;cases ex;have hm:q∈l:=du hq;obtain⟨⟨dx,e2⟩,c,hc⟩:=zx q hm;have Kq:dH A H2 (pa q.x) q (un q.x) (d8 fa q.on):=⟨dx,s1 _ _ e2⟩;refine⟨rfl,_,rfl,_,dx,_,rfl,s1 _ _ e2,rfl,_,rfl,_,q,_,fa,q.on,a,g,d,c,rfl,Kq,hc.gr (λb o e _=>s1 b o e),rb.same s1,rH,_,rfl,?_⟩;cases iI:q.on==g.num with
  |true=>
   refine aY ⟨_,rfl,_,e1,?_,s1.bW nD,?_⟩
   ·rw[aD]
    exact pO hP.len (by decide)
   ·rw[ao,take_snoc hq,fy,bX,aj iI,gL,bS]
    rfl|false=>refine bp ⟨s1,?_⟩;rw[take_snoc hq,fy,bX,ah (by rw[iI];decide),gL,je];exact e1
 ·rintro H1 ⟨s1,e1⟩
  rw[show(bT pa l).length=l.length from aD ..,dQ]at e1;refine⟨s1 _ _ iM,?_⟩;have s2:=zy H1 s1;have pK:=kn D nD;have e2:(upd H1 dp (.dK (bT pa l))) D=some (.lst ((l.filter λq=>q.on==g.num).map λq=>V.ref (pa q.x))):=aT (s1 _ _ iM) e1 nofun;generalize upd H1 dp (.dK (bT pa l))=H2 at s2 e2;refine⟨D,pa,l.filter λq=>q.on==g.num,rfl,aE.of e2,λq hq=>⟨_,_,((hP.px q (ck.mp hq).1).1).gr λb o e _=>s2 b o e⟩,?_,hT.same s2,λH3 p g3 np hp=>?_⟩
  ·exact hP.nd.sublist (ia _ gd)
  ·exact k H3 p ((Gr.of s2).trans g3) (s2.free np) hp
abbrev Kr:aV:=top 15
theorem afS:bu ["house","flight"] ["house","flight"] (bb Kr):=bC
def pW(l:List bj)(g:aw):Int:=(g.cap:Int)-g.others-((l.filter λq=>q.on==g.num).length:Nat)
inductive Ds(A:Ad)(vs:List V)(H:Hp)(Q:VK)(E:XK):Prop|mk h now df dt dp ls pa un fa l a g d (z:vs=[.ref h,.ref a]) (z:fq A H h now df dt dp ls) (z:pV A H dp pa un fa l) (z:H dp=some (.dK (bT pa l))) (z:b_ A H a g d) (z:1<=g.num) (z:dW A H) (z:∀H',Gr A H H'->Q (.int (pW l g)) H')
theorem afT(F:bh K "room_of" "room_of" Kr f fd)(T:Txt K mg A)(pX:Glob P w K mg base "passengers_on" 6 ["house","flight"] (Dr A)):aX P w K mg base bc 7 f fd ["house","flight"] (Ds A):=by
 refine F.bH afS λH vs Q E hr hu h=>?_;obtain⟨h,now,df,dt,dp,ls,pa,un,fa,l,a,g,d,rfl,hH,hP,hD,hF,rH,hT,k⟩:=h;refine⟨_,(az (aK (fg vf (fg vf (au K (pv 1)) (au K (pv 1))) (iJ K T.len (bK pX hr (aM (pv 0) (ax (pv 1)))))))),_,rfl,Tt T hF ⟨_,rfl,Tu T hF ⟨_,_,rfl,rfl,_,rfl,_,rfl,h,now,df,dt,dp,ls,pa,un,fa,l,a,g,d,rfl,hH,hP,hD,hF,rH,hT,λH1 p g1 np hp=>⟨p,_,rfl,.inl (aE.of hp),_,_,rfl,rfl,?_⟩⟩⟩⟩;have e:((iW (l.filter λq=>q.on==g.num)).map λq=>V.ref (pa q.x)).length=(l.filter λq=>q.on==g.num).length:=by rw[aD,(jZ _).length_eq]
 show Q (.int ((g.cap:Int)-g.others-(((iW (l.filter λq=>q.on==g.num)).map λq=>V.ref (pa q.x)).length:Nat))) H1;rw[e];exact k H1 g1
abbrev Ks:aV:=top 16
theorem afU:bu ["passenger","flight","stand"] ["passenger","flight","stand"] (bb Ks):=bC
def wg(q:bj)(f:aw)(l r:Nat):Bool:=bV f&&(f.src==q.src&&(f.dst==q.dst&&(decide (q.ready<=l)&&(decide (r<=q.latest)&& !q.refuses.contains f.num))))
theorem wj:∀(l:List Nat)(n:Nat),(bZ (eU l) (ay (n:Int))).isSome=l.contains n
 |[],n=>rfl|a::l,n=>by
  unfold eU;rw[cV,Ou];by_cases e:a=n
  ·rw[jm (by rw[e]),e]
   simp
  ·rw[iF (i8 e)]
   have e2:(n==a)=false:=by simp;exact λz=>e z.symm
   rw[e2,E5];exact wj l n
inductive Uy(A:Ad)(vs:List V)(H:Hp)(Q:VK)(E:XK):Prop|mk a q u v b f d c (l r:Nat) cc (z:vs=[.ref a,.ref b,.ref c]) (z:dH A H a q u v) (z:H u=some (.dK (eU q.refuses))) (z:b_ A H b f d) (z:kI A H c l r cc) (z:Q (.bl (wg q f l r)) H)
theorem afV(F:bh K "is_wish" "is_wish" Ks f fd)(T:Txt K mg A)(fu:dm P w K mg base A.CF "is_open" 1 ["self"] (og A)):aX P w K mg base bc 2 f fd ["passenger","flight","stand"] (Uy A):=by
 refine F.bH afU λH vs Q E hr hu h=>?_;obtain⟨a,q,u,v,b,f,d,c,l,r,cc,rfl,hP,hU,hF,hS,k⟩:=h;obtain⟨dx,hx⟩:=id hF
 refine⟨_,(aq (bo (PW.pt (jj (gY (dj (fk (pv 1) T.cF fu hr))) (ji (dB (qQ hu (au K (pv 1)) (au K (pv 0))))))) (az (aK ik)) bt) (aq (bo (PW.pt (jj (dS vg (au K (pv 1)) (au K (pv 0))) (ji (dS vg (au K (pv 1)) (au K (pv 0)))))) (az (aK ik)) bt)
   (az (aK (qH (n8 ym (au K (pv 2)) (au K (pv 0))) (nS (n8 jK (au K (pv 2)) (au K (pv 0))))))))),?_⟩
 refine⟨_,rfl,b,dx,_,rfl,hx,rfl,b,f,d,rfl,hF,_,rfl,?_⟩;unfold wg at k;cases ho:bV f with
 |false=>rw[ho]at k;exact aY (aY k)|true=>rw[ho]at k;refine bp ⟨_,rfl,dn T hF ⟨_,rfl,vJ T hP ⟨u,_,rfl,bq (.inl hU) rfl,_,rfl,?_⟩⟩⟩;rw[wj];cases hc:q.refuses.contains f.num with
  |true=>refine aY ?_;rw[hc]at k;simp at k;exact k|false=>
   rw[hc]at k;refine bp ⟨_,rfl,qX T hF ⟨_,rfl,aeA T hP ⟨rfl,_,rfl,?_⟩⟩⟩;by_cases h1:f.src=q.src
   ·refine lH (by rw[h1]) ?_
    rw[show(f.src==q.src)=true by simp[h1]]at k;refine⟨_,rfl,vG T hF ⟨_,rfl,aeB T hP ⟨rfl,_,rfl,?_⟩⟩⟩;by_cases h2:f.dst=q.dst
    ·refine lH (by rw[h2]) ?_
     rw[show(f.dst==q.dst)=true by simp[h2]]at k;refine⟨_,rfl,vK T hS ⟨_,rfl,aeD T hP ⟨_,_,rfl,rfl,_,rfl,dO (λh3=>?_) λh3=>?_⟩⟩⟩
     ·have h3:q.ready<=l:=by have h3:(q.ready:Int)<=l:=h3;lia
      rw[dX h3]at k;refine⟨_,rfl,oa T hS ⟨_,rfl,aeE T hP ⟨_,_,rfl,rfl,?_⟩⟩⟩;have e:decide ((r:Int)<=q.latest)=decide (r<=q.latest):=by
       by_cases h:r<=q.latest
       ·rw[dX h,dX (by lia)]
       ·rw[c9 h,c9 (by lia)]
      show Q (V.bl (decide ((r:Int)<=q.latest))) H;rw[e];simp at k;exact k
     ·have h3:¬q.ready<=l:=by have h3:¬(q.ready:Int)<=l:=h3;lia
      rw[c9 h3]at k;exact k
    ·refine lO (λz=>h2 (by have:=V.int.inj z;lia)) ?_
     rw[show(f.dst==q.dst)=false by simp[h2]]at k;exact k
   ·refine lO (λz=>h1 (by have:=V.int.inj z;lia)) (aY ?_)
    rw[show(f.src==q.src)=false by simp[h1]]at k;exact k
theorem zz:sooner a b=true↔a.arrive<b.arrive∨(a.arrive=b.arrive/\a.num<b.num):=by unfold sooner;simp
theorem zA:mj a b=true↔a.leave<b.leave∨(a.leave=b.leave/\a.num<b.num):=by unfold mj;simp
theorem Kt(less:Time->Time->Bool)(f:Time):∀l:List Time,(putTime less f l).Perm (f::l)
 |[]=>.refl _|g::l=>by
  unfold putTime;split
  ·exact .refl _
  ·exact((Kt less f l).cons g).trans (.swap f g l)
theorem ju(less:Time->Time->Bool):∀l:List Time,(lg less l).Perm l|[]=>.refl _|f::l=>(Kt less f (lg less l)).trans ((ju less l).cons f)
theorem Uz{less:Time->Time->Bool}(tr:∀a b c,less a b=true->less b c=true->less a c=true)(zB:∀a b:Time,a.num≠b.num->less a b=true∨less b a=true){f:Time}:∀{l:List Time},l.Pairwise (λa b=>less a b=true)->(∀g,g∈l->g.num≠f.num)->(putTime less f l).Pairwise (λa b=>less a b=true)
 |[],_,_=>ny _ _|g::l,h,hn=>by
  unfold putTime;have⟨h1,h2⟩:=jy.mp h;split
  ·rename_i hb
   refine jy.mpr ⟨λx hx=>?_,h⟩;rcases b9.mp hx with rfl|hx
   ·exact hb
   ·exact tr _ _ _ hb (h1 x hx)
  ·rename_i hb
   refine jy.mpr ⟨λx hx=>?_,Uz tr zB h2 λy hy=>hn y (b8 _ hy)⟩;rcases b9.mp ((Kt less f l).mem_iff.mp hx)with rfl|hx
   ·rcases zB g x (hn g cK)with z|z
    ·exact z
    ·exact absurd z hb
   ·exact h1 x hx
theorem Ku(tr:∀a b c,less a b=true->less b c=true->less a c=true)(zB:∀a b:Time,a.num≠b.num->less a b=true∨less b a=true):∀{l:List Time},(l.map λf=>f.num).Nodup->(lg less l).Pairwise (λa b=>less a b=true)|[],_=>AN|f::l,h=>by obtain⟨h1,h2⟩:=gS.mp h;exact Uz tr zB (Ku tr zB h2) λg hg e=>h1 (aB.mpr ⟨g,(ju less l).mem_iff.mp hg,e⟩)
theorem Dt(hN:(l.map λf=>f.num).Nodup):((times now l).map λt=>t.num).Nodup:=by rw[iN];exact rm hN
def wm(ts:List Time)(v:V):List Int:=match v with|.int z=>(match bG ts z.toNat with|some t=>[(t.arrive:Int),z]|none=>[])|_=>[]
theorem Du(hN:(ts.map λt=>t.num).Nodup)(ht:t∈ts):wm ts (V.int (t.num:Int))=[(t.arrive:Int),(t.num:Int)]:=by show(match bG ts ((t.num:Int)).toNat with|some t'=>[(t'.arrive:Int),(t.num:Int)]|none=>[])=_;rw[show((t.num:Int)).toNat=t.num from xh _,oj hN ht]
theorem afW(hN:(ts.map λt=>t.num).Nodup)(hs:fs.Sublist ts)(p:ys.Perm (fs.map λt=>V.int (t.num:Int)))(hp:ys.Pairwise λa b=>HT.lexLt (wm ts b) (wm ts a)=false):ys=(lg sooner fs).map λt=>V.int (t.num:Int):=by
 obtain⟨l',p',rfl⟩:=zf p rfl;have UA:(fs.map λt=>t.num).Nodup:=hN.sublist (hs.map _);have tO:(l'.map λf=>f.num).Nodup:=(p'.map _).nodup_iff.mpr UA;have e:l'=lg sooner fs:=by
  refine vQ (R:=λa b=>sooner a b=true) (λa b h1 h2=>by rw[zz]at *;lia) (p'.trans (ju _ fs).symm) ?_ (Ku (λa b c h1 h2=>by rw[zz]at *;lia) (λa b h=>by rw[zz,zz];lia) UA);rw[j6]at hp;have d_:l'.Pairwise λa b=>HT.lexLt (wm ts (V.int (b.num:Int))) (wm ts (V.int (a.num:Int)))=false/\a.num≠b.num:=by refine hp.and ?_;have:(l'.map λf=>f.num).Pairwise (·≠·):=tO;rw[j6]at this;exact this
  refine d_.imp_of_mem λ{a b}ha hb h1=>?_;obtain⟨h1,h2⟩:=h1;rw[Du hN (hs.subset (p'.mem_iff.mp ha)),Du hN (hs.subset (p'.mem_iff.mp hb)),zg]at h1;rw[zz];simp at h1;lia
 rw[e]
def m3(l:List aw)(q:bj)(t:Time):Bool:=match eM l t.num with|none=>false|some f=>wg q f t.leave t.arrive
theorem Dv(s:State)(q:bj):wishes s q=(lg sooner ((times s.now s.flights).filter (m3 s.flights q))).map λt=>t.num:=rfl
abbrev Dx:aV:=top 17
theorem Kv:bu ["house","stands","passenger","found","number"] ["house","stands","passenger"] (bb Dx):=bC
def Kw:kc×a_×dZ:=Dm (Dn (Kh ((iG Dx).getD 1 (.Pass ⟨0,0,0,0⟩))))
inductive Kx(A:Ad)(vs:List V)(H:Hp)(Q:VK)(E:XK):Prop|mk h now df dt dp ls fa fe l ds kvs sa ts c a q u v (z:vs=[.ref h,.ref ds,.ref a]) (z:fq A H h now df dt dp ls) (z:H df=some (.dK (cA fa l))) (z:fF A H fa fe l) (z:(l.map λf=>f.num).Nodup) (z:H ds=some (.dK kvs)) (z:gq A H kvs sa ts c) (z:(ts.map λt=>t.num).Nodup) (z:ts.length<=100) (z:(∀t,t∈ts->∃f,f∈l/\f.num=t.num)) (z:dH A H a q u v) (z:H u=some (.dK (eU q.refuses))) (z:df≠ds) (z:u≠ds) (z:dW A H) (z:∀H' p,Gr A H H'->H p=none->H' p=some (.lst (((lg sooner (ts.filter (m3 l q))).map λt=>t.num).map λn:Nat=>V.int n))->Q (.ref p) H')
theorem afX(F:bh K "wishes_of" "wishes_of" Dx f fd)(T:Txt K mg A)(B:lK mg base)(hC:∃c,fd.code=.ref c/\jD base c A.P2)(Ky:Glob P w K mg base "is_wish" 2 ["passenger","flight","stand"] (Uy A)):aX P w K mg base bc 6 f fd ["house","stands","passenger"] (Kx A):=by
 obtain⟨cc,lp,t7⟩:=hC;refine F.Dg Kv (λvs H Q E h=>?_) (λdc A0 outer s0 H vs Q E fT hr h=>?_)
 ·obtain⟨h,now,df,dt,dp,ls,fa,fe,l,ds,kvs,sa,ts,c,a,q,u,v,rfl,_⟩:=h
  rfl
 ·obtain⟨h,now,df,dt,dp,ls,fa,fe,l,ds,kvs,sa,ts,c,a,q,u,v,rfl,hH,hD,hF,hN,hS,hK,pY,hLt,hIn,hP,hU,nd1,rJ,hT,k⟩:=h
  rw[lp]at fT;have hu:=vL hr
  refine⟨_,aq (yE (SW 3 [("number",4)] Kv.nd (B2 (pv 1)) (c7 4 Kv.nd) (o_ (dj (bK Ky hr (aM (pv 2) (aM (cC hu (au K (pv 0)) (pv 4)) (ax (cC hu (pv 1) (pv 4)))))))) (pv 4))) (az (aK (Cj (run:=Sx "number" "stands" 1 q2 Kw.1 Kw.2.1 Kw.2.2 _ (BM (mD (o6 K (Hw (nR 1) (nR 0)) "arrives") (mD (nR 0) lu)))) rfl (by rfl) T.sorted (ax (pv 3)) (yp (adZ (q:=q2) B fT.symm t7 (by rfl) (by rfl)) yo) (λf σ=>ad0 (x:="number") (z:="stands") (i:=1) (k:=0) rfl rfl rfl rfl (by decide) (by decide +kernel) (by decide +kernel) rfl rfl rfl rfl (hr.mono (by decide)) (λ_ _ _ _=>rfl) (λf c A outer s H jo=>vh (aM (au K (cC (vL jo) (pv 1) (pv 0))) (ax (pv 0)))) f σ)))),?_⟩
  refine⟨ds,_,hS,bJ,λod=>?_⟩;have kd:∀b o,H b=some o->b≠ds->(upd H ds (.aQ od (.dK kvs))) b=some o:=λb o e n=>by rw[ak n];exact e
  have ki:∀b C dx fs,H b=some (.ins C dx fs)->(upd H ds (.aQ od (.dK kvs))) b=some (.ins C dx fs):=λb C dx fs e=>kd _ _ e (cZ e hS nofun);have pI:fq A (upd H ds (.aQ od (.dK kvs))) h now df dt dp ls:=let⟨dx,e⟩:=hH;⟨dx,ki _ _ _ _ e⟩
  have rb:fF A (upd H ds (.aQ od (.dK kvs))) fa fe l:=λf hf=>let⟨dx,e⟩:=hF f hf;⟨dx,ki _ _ _ _ e⟩;have zx:dH A (upd H ds (.aQ od (.dK kvs))) a q u v:=let⟨dx,e⟩:=hP;⟨dx,ki _ _ _ _ e⟩
  have zd:gq A (upd H ds (.aQ od (.dK kvs))) kvs sa ts c:=hK.keep ki;have zC:=kd _ _ hD nd1;have UB:=kd _ _ hU rJ;have iM:(upd H ds (.aQ od (.dK kvs))) ds=some (.aQ od (.dK kvs)):=ao;have zy:∀H',aC (upd H ds (.aQ od (.dK kvs))) H'->aC H (upd H' ds (.dK kvs)):=λH' s b o e=>by
   by_cases hb:b=ds
   ·rw[hb]at e⊢
    rw[hS]at e;cases e;exact ao
   ·rw[ak hb]
    exact s b o (by rw[ak hb];exact e)
  have kn:∀b,(upd H ds (.aQ od (.dK kvs))) b=none->H b=none:=λb e=>by
   by_cases hb:b=ds
   ·rw[hb,ao]at e;cases e
   ·rw[ak hb]at e;exact e
  generalize upd H ds (.aQ od (.dK kvs))=Hd at pI rb zx zd zC UB iM zy kn;refine⟨_,rfl,ds,od,rfl,.inl ⟨_,iM,λD nD=>i7 CK (λi H1=>aC Hd H1/\H1 D=some (.lst (((ts.take i).filter (m3 l q)).map λt=>V.int (t.num:Int)))) ⟨bL nD,ao⟩ (λi H1 _ h=>h.1 _ _ iM) ?_ ?_⟩⟩
  ·rintro i x H1 H2 hi ⟨s1,e1⟩ ⟨rfl,kk,vv,hx,rfl⟩
   rw[hK.eq,fz]at hx;obtain⟨t,ht,ex⟩:=oP.mp hx;cases ex;have hm:t∈ts:=du ht;obtain⟨f,hf,en⟩:=hIn t hm;have ef:eM l t.num=some f:=by rw[<-en];exact jV hN hf
   have hO:=(rb f hf).same s1;have lQ:kI A H2 (sa t.num) t.leave t.arrive (c t.num):=let⟨dx,e⟩:=zd.at_ t hm;⟨dx,s1 _ _ e⟩
   have hHh:=pI.same s1;refine⟨rfl,_,rfl,_,rfl,ek T hHh ⟨_,rfl,df,_,rfl,bq (.inl (s1 _ _ zC)) (by rw[eZ,ef];rfl),_,rfl,_,rfl,ds,_,rfl,bq (.inr ⟨od,s1 _ _ iM⟩) (by rw[hK.eq,iu,oj pY hm];rfl),a,q,u,v,_,f,_,_,t.leave,t.arrive,_,rfl,let⟨dx,e⟩:=zx;⟨dx,s1 _ _ e⟩,s1 _ _ UB,hO,lQ,_,rfl,?_⟩⟩;have ew:m3 l q t=wg q f t.leave t.arrive:=by unfold m3;rw[ef]
   rw[<-ew];cases hw:m3 l q t with
   |true=>
    refine aY ⟨_,rfl,_,e1,?_,s1.bW nD,?_⟩
    ·rw[aD]
     exact pO hLt (by decide)
    ·rw[ao,take_snoc ht,fy,bX,aj hw,gL,bS]
     rfl|false=>refine bp ⟨s1,?_⟩;rw[take_snoc ht,fy,bX,ah (by rw[hw];decide),gL,je];exact e1
  ·rintro H1 ⟨s1,e1⟩
   have ua:kvs.length=ts.length:=by rw[hK.eq,aD]
   rw[ua,dQ]at e1;refine⟨s1 _ _ iM,?_⟩;have s2:=zy H1 s1;have pK:=kn D nD;have e2:(upd H1 ds (.dK kvs)) D=some (.lst ((ts.filter (m3 l q)).map λt=>V.int (t.num:Int))):=aT (s1 _ _ iM) e1 nofun;generalize upd H1 ds (.dK kvs)=H2 at s2 e2;refine⟨_,rfl,?_⟩;have lG:=hT.same s2;obtain⟨tp,g_,Kj⟩:=lG.2.1;refine⟨lG.2.1,λH3 q3 c3 kp oq nq hq hc=>?_⟩;obtain⟨t8,mZ,t9⟩:=oq;have g1:Gr A H2 H3:=Dq g_ mZ kp λt=>⟨lV t.1 g_ T.pn.1 kp,⟨t8,mZ,t9⟩,lV t.2.2.1 g_ T.pn.2.2.2.1.symm kp,lV t.2.2.2 g_ T.pn.2.2.2.2.1.symm kp⟩
   have f_:H3 ds=some (.dK kvs):=g1.same _ _ (s2 _ _ hS) nofun;have hK3:gq A H3 kvs sa ts c:=(hK.keep λb C dx fs e=>s2 _ _ e).keep λb C dx fs e=>g1.same _ _ e nofun;refine⟨D,q3,(ts.filter (m3 l q)).map λt=>V.int (t.num:Int),wm ts,rfl,rfl,.inl (zt (aE.of e2) g1),λvv hv H4 s4=>?_,λys D4 H4 p1 p2 s4 nD4 UC=>?_⟩
   ·obtain⟨t,ht,rfl⟩:=aB.mp hv
    have hm:t∈ts:=(ck.mp ht).1;have lQ:kI A H4 (sa t.num) t.leave t.arrive (c t.num):=let⟨dx,e⟩:=hK3.at_ t hm;⟨dx,s4 _ _ e⟩
    refine⟨⟨c3,s4 _ _ hq,s4 _ _ hc⟩,_,rfl,_,rfl,_,rfl,ds,_,rfl,bq (.inl (s4 _ _ f_)) (by rw[hK.eq,iu,oj pY hm];rfl),oa T lQ ⟨_,rfl,by show 2<=aS;decide,λtt nt=>⟨bL nt,tt,rfl,?_,?_⟩⟩⟩
    ·rw[Du pY hm]
     exact ao
    ·rw[Du pY hm]
     exact λz=>nomatch z
   ·rw[afW pY gd p1 p2]at UC
    refine k H4 D4 ((Gr.of s2).trans (g1.trans (.of s4))) (s2.free (g1.free D4 nD4)) ?_;rw[UC,dv];rfl
theorem iy(l:List bj)(n:Nat):bZ (bT pa l) (ay (n:Int))=(l.find? λq=>q.x==n).map λq=>V.ref (pa q.x):=pN (k:=λq:bj=>q.x) (g:=λq:bj=>V.ref (pa q.x)) n l
theorem jc(h:eO s n=some q):q∈s.pax/\q.x=n:=⟨iA h,by unfold eO at h;have:=gU h;simpa using this⟩
theorem UD(hN:(s.pax.map λq=>q.x).Nodup)(hq:q∈s.pax):eO s q.x=some q:=by cases h:eO s q.x with|none=>have:=iR.mp h q hq;simp at this|some g=>rw[rE hN (jc h).1 hq (jc h).2]
theorem rK(h:b0 A H L s)(G:Good s)(hq:q∈s.pax):rG A H L.fa q.on q.flown:=by
 rcases(G.px q hq).on with⟨h0,h1⟩|⟨f,hf,e,hc,bA⟩
 ·exact .inl ⟨h0,h1⟩
 ·refine .inr ⟨by have:=G.pos f hf;lia,f,L.fe f.num,?_,e,bA⟩
  rw[<-e];exact h.fl.bB f hf
theorem Dy(h:b0 A H L s)(G:Good s):pV A H (L.D .dp) L.pa L.un L.fa s.pax:=⟨.inl h.px.pd,λq hq=>⟨h.px.px q hq,_,rK h G hq⟩,G.pn,aZ G.pl (by decide)⟩
theorem Kz{l:List bj}{q':bj}:(l.map λr=>if r.x=q'.x then q' else r).map (λr=>r.x)=l.map λr=>r.x:=by
 rw[dv];refine dE λg _=>?_;show(if g.x=q'.x then q' else g).x=g.x;by_cases h:g.x=q'.x
 ·rw[aj h];exact h.symm
 ·rw[ah h]
theorem Dz{l:List bj}{q q' r:bj}(hn:q'.x=q.x)(h:r∈l.map λr=>if r.x=q'.x then q' else r):r=q'∨(r∈l/\r.x≠q.x):=by
 obtain⟨x,hx,e⟩:=aB.mp h;by_cases h2:x.x=q'.x
 ·rw[aj h2]at e
  exact .inl e.symm
 ·rw[ah h2]at e
  subst e;exact .inr ⟨hx,by rw[<-hn];exact h2⟩
theorem UE:bT pa (l.map λr=>if r.x=q'.x then q' else r)=bT pa l:=by
 unfold bT;rw[dv];refine dE λg _=>?_;show((ay (((if g.x=q'.x then q' else g).x:Nat):Int):Key),V.ref (pa (if g.x=q'.x then q' else g).x))=_;by_cases h:g.x=q'.x
 ·rw[aj h,h]
 ·rw[ah h]
theorem zD.set{d:DS}:d7 (gW s q') d↔d7 s d:=by cases d with|un n=>show n∈(_:List bj).map _↔n∈_;unfold gW;simp only[Kz]|fe x=>exact iQ|df=>exact iQ|dt=>exact iQ|dp=>exact iQ
theorem UG.set{L:Lay}{s:State}{q':bj}{b:af}(h:Own L (gW s q') b):Own L s b:=by
 rcases h with h|h|⟨d,hd,h⟩|h|⟨n,hn,h⟩
 ·exact .inl h
 ·exact .inr (.inl h)
 ·exact .inr (.inr (.inl ⟨d,zD.set.mp hd,h⟩))
 ·exact .inr (.inr (.inr (.inl h)))
 ·refine .inr (.inr (.inr (.inr ⟨n,?_,h⟩)))
  unfold gW at hn;simp only[Kz]at hn;exact hn
section
variable{A:Ad}{H:Hp}{L:Lay}{s:State}
theorem After.KA(h:b0 A H L s){q q':bj}(hq:q∈s.pax)(hx:q'.x=q.x)(hr:q'.refuses=q.refuses){dx:af}(e:H (L.pa q.x)=some (.ins A.CP dx (eY q (L.un q.x) (d8 L.fa q.on))))(hp:eY q' (L.un q.x) (d8 L.fa q'.on)=eY q (L.un q.x) (d8 L.fa q'.on)):After A H (L2.upd H (L.pa q.x) (.ins A.CP dx (eY q (L.un q.x) (d8 L.fa q'.on)))) L L s (gW s q'):=by
 refine .upd ⟨?_,⟨?_,?_,λg hg=>?_,λg hg=>?_⟩,⟨?_,λr fO=>?_,λr fO=>?_⟩,?_,λa b ha hb=>h.inj a b (zD.set.mp ha) (zD.set.mp hb)⟩ (J3 hq) e nofun nofun λb=>UG.set
 ·obtain⟨dy,z⟩:=h.ho
  exact⟨dy,aT e z C_⟩
 ·exact aT e h.fl.fl nofun
 ·exact aT e h.fl.tl nofun
 ·obtain⟨dy,z⟩:=h.fl.bB g hg
  exact⟨dy,aT e z (Ne.symm Ug)⟩
 ·obtain⟨kf,z1,z2⟩:=h.fl.feeds g hg
  exact⟨kf,aT e z1 nofun,z2.keep λt zs z=>aT e z nofun⟩
 ·show _=some (HO.dK (bT L.pa (s.pax.map λr=>if r.x=q'.x then q' else r)))
  rw[UE];exact aT e h.px.pd nofun
 ·rcases Dz hx fO with rfl|⟨fO,cD⟩
  ·rw[hx]
   refine⟨dx,?_⟩;rw[hp];exact ao
  ·obtain⟨dy,z⟩:=h.px.px r fO
   exact⟨dy,aT e z (Uh cD)⟩
 ·rcases Dz hx fO with rfl|⟨fO,cD⟩
  ·rw[hx,hr]
   exact aT e (h.px.un q hq) nofun
  ·exact aT e (h.px.un r fO) nofun
 ·obtain⟨vs,z1,z2⟩:=h.st
  exact⟨vs,aT e z1 nofun,z2.keep λt zs z=>aT e z nofun⟩
theorem After.UH(h:b0 A H L s)(hq:q∈s.pax)(hx:q'.x=q.x){xs:List Nat}(hr:q'.refuses=xs)(hp:∀u v,eY q' u v=eY q u v)(iI:q'.on=q.on):After A H (L2.upd H (L.un q.x) (.dK (eU xs))) L L s (gW s q'):=by
 have e:=h.px.un q hq;have lq:=tZ hq;refine .upd ⟨?_,⟨?_,?_,λg hg=>?_,λg hg=>?_⟩,⟨?_,λr fO=>?_,λr fO=>?_⟩,?_,λa b ha hb=>h.inj a b (zD.set.mp ha) (zD.set.mp hb)⟩ (mY lq) e nofun nofun λb=>UG.set
 ·obtain⟨dy,z⟩:=h.ho
  exact⟨dy,aT e z nofun⟩
 ·rw[ak (h.gP (a:=.df) bJ lq nofun)]
  exact h.fl.fl
 ·rw[ak (h.gP (a:=.dt) bJ lq nofun)]
  exact h.fl.tl
 ·obtain⟨dy,z⟩:=h.fl.bB g hg
  exact⟨dy,aT e z nofun⟩
 ·obtain⟨kf,z1,z2⟩:=h.fl.feeds g hg
  refine⟨kf,?_,z2.keep λt zs z=>aT e z nofun⟩;rw[ak (h.gP (wb hg) lq nofun)];exact z1
 ·show _=some (HO.dK (bT L.pa (s.pax.map λr=>if r.x=q'.x then q' else r)))
  rw[UE,ak (h.gP (a:=.dp) bJ lq nofun)];exact h.px.pd
 ·rcases Dz hx fO with rfl|⟨fO,cD⟩
  ·obtain⟨dy,z⟩:=h.px.px q hq
   rw[hx,iI];refine⟨dy,?_⟩;rw[hp];exact aT e z nofun
  ·obtain⟨dy,z⟩:=h.px.px r fO
   exact⟨dy,aT e z nofun⟩
 ·rcases Dz hx fO with rfl|⟨fO,cD⟩
  ·rw[hx,hr]
   exact ao
  ·show L2.upd H (L.D (.un q.x)) _ (L.D (.un r.x))=_
   rw[ak (h.gP (tZ fO) lq (by intro z;injection z with z;exact cD z))];exact h.px.un r fO
 ·obtain⟨vs,z1,z2⟩:=h.st
  exact⟨vs,aT e z1 nofun,z2.keep λt zs z=>aT e z nofun⟩
theorem KC{pa:Nat->af}{x:Nat}:∀l:List bj,il (bT pa l) (ay (x:Int))=bT pa (l.filter λr=>r.x !=x)
 |[]=>rfl|q::l=>by
  unfold bT;rw[cV];by_cases e:q.x=x
  ·rw[B5 (by rw[e]),bX,ah (by simp[e])]
   exact KC l
  ·rw[B6 (i8 e),bX,aj (by simp[e]),cV]
   congr 1;exact KC l
theorem After.afY(h:b0 A H L s)(x:Nat):After A H (L2.upd H (L.D .dp) (.dK (bT L.pa (s.pax.filter λr=>r.x !=x)))) L L s {s with pax:=s.pax.filter λr=>r.x !=x}:=by
 have e:=h.px.pd;have hs:∀r,r∈(s.pax.filter λr=>r.x !=x)->r∈s.pax:=λr hr=>(ck.mp hr).1;have lv:∀d,d7 {s with pax:=s.pax.filter λr=>r.x !=x} d->d7 s d:=λd hd=>by cases d with
  |un n=>obtain⟨r,hr,rfl⟩:=aB.mp (show n∈(s.pax.filter λr=>r.x !=x).map _ from hd);exact tZ (hs r hr)|fe n=>exact hd|df=>exact hd|dt=>exact hd|dp=>exact hd
 refine .upd ⟨?_,⟨?_,?_,λg hg=>?_,λg hg=>?_⟩,⟨ao,λr fO=>?_,λr fO=>?_⟩,?_,λa b ha hb=>h.inj a b (lv a ha) (lv b hb)⟩ (mY (d:=.dp) bJ) e nofun nofun λb hb=>?_
 ·obtain⟨dy,z⟩:=h.ho
  exact⟨dy,aT e z nofun⟩
 ·rw[ak (h.gP (a:=.df) (b:=.dp) bJ bJ nofun)]
  exact h.fl.fl
 ·rw[ak (h.gP (a:=.dt) (b:=.dp) bJ bJ nofun)]
  exact h.fl.tl
 ·obtain⟨dy,z⟩:=h.fl.bB g hg
  exact⟨dy,aT e z nofun⟩
 ·obtain⟨kf,z1,z2⟩:=h.fl.feeds g hg
  refine⟨kf,?_,z2.keep λt zs z=>aT e z nofun⟩;rw[ak (h.gP (wb hg) (b:=.dp) bJ nofun)];exact z1
 ·obtain⟨dy,z⟩:=h.px.px r (hs r fO)
  exact⟨dy,aT e z nofun⟩
 ·rw[ak (h.gP (tZ (hs r fO)) (b:=.dp) bJ nofun)]
  exact h.px.un r (hs r fO)
 ·obtain⟨vs,z1,z2⟩:=h.st
  exact⟨vs,aT e z1 nofun,z2.keep λt zs z=>aT e z nofun⟩
 ·rcases hb with h|h|⟨d,hd,h⟩|h|⟨n,hn,h⟩
  ·exact .inl h
  ·exact .inr (.inl h)
  ·exact .inr (.inr (.inl ⟨d,lv d hd,h⟩))
  ·exact .inr (.inr (.inr (.inl h)))
  ·obtain⟨r,hr,rfl⟩:=aB.mp hn
   rw[h];exact J3 (hs r hr)
theorem After.afZ(h:b0 A H L s)(e:H L.h=some (.ins A.CH dx (bA s.now (L.D .df) (L.D .dt) (L.D .dp) L.ls)))(hp:H p=some (.lst vs))(hs:pR H vs l)(np:¬Own L s p)(h0:H0 p=none)(g:Gr A H0 H)(jb:b0 A H0 L s):After A H0 (L2.upd H L.h (.ins A.CH dx (bA s.now (L.D .df) (L.D .dt) (L.D .dp) p))) L {L with ls:=p} s {s with steps:=l}:=by
 have ho:b0 A (L2.upd H L.h (.ins A.CH dx (bA s.now (L.D .df) (L.D .dt) (L.D .dp) p))) {L with ls:=p} {s with steps:=l}:=by
  refine⟨⟨dx,ao⟩,⟨?_,?_,λg hg=>?_,λg hg=>?_⟩,⟨?_,λr hr=>?_,λr hr=>?_⟩,⟨vs,aT e hp nofun,hs.keep λt zs z=>aT e z nofun⟩,h.inj⟩
  ·exact aT e h.fl.fl nofun
  ·exact aT e h.fl.tl nofun
  ·obtain⟨dy,z⟩:=h.fl.bB g hg
   exact⟨dy,aT e z (Ne.symm C9)⟩
  ·obtain⟨kf,z1,z2⟩:=h.fl.feeds g hg
   exact⟨kf,aT e z1 nofun,z2.keep λt zs z=>aT e z nofun⟩
  ·exact aT e h.px.pd nofun
  ·obtain⟨dy,z⟩:=h.px.px r hr
   exact⟨dy,aT e z (Ne.symm C_)⟩
  ·exact aT e (h.px.un r hr) nofun
 refine⟨ho,rfl,λb o eb n nb=>?_,λb hb=>?_,λt=>(g.tabs t).upd e nofun nofun,λb z=>?_⟩
 ·rw[ak (λz=>nb (.inl z))]
  exact g.same b o eb n
 ·rcases hb with hb|hb|hb|hb|hb
  ·exact .inl (.inl hb)
  ·exact .inr (by rw[show b=p from hb];exact h0)
  ·exact .inl (.inr (.inr (.inl hb)))
  ·exact .inl (.inr (.inr (.inr (.inl hb))))
  ·exact .inl (.inr (.inr (.inr (.inr hb))))
 ·by_cases hb:b=L.h
  ·rw[hb,ao]at z;cases z
  ·rw[ak hb]at z
   exact g.free b z
end
theorem UI(G:Good s)(hq:q∈s.pax)(h:q.flown=true):q.on≠0:=by
 rcases(G.px q hq).on with⟨_,h1⟩|⟨f,hf,e,_⟩
 ·rw[h1]at h;cases h
 ·have:=G.pos f hf;lia
abbrev KD:aV:=top 70
theorem af0:bu ["house","row"] ["house","row"] (bb KD):=bC
theorem af1(F:bh K "drop_passenger" "drop_passenger" KD f fd)(T:Txt K mg A)(iz:dm P w K mg base A.CP "has_flown" 1 ["self"] (t_ A)):aX P w K mg base bc 2 f fd ["house","row"] (fN A K λns c=>∃x:Nat,ns=[(x:Int)]/\c=.drop x):=by
 refine F.bH af0 λH vs Q E hr hu h=>?_;obtain⟨L,s,r,ns,c,rfl,hH,hG,hB,hR,⟨x,rfl,rfl⟩,k⟩:=h
 refine⟨_,(aq (bo (dB (f9 hu (bz K (pv 1) aJ) (au K (pv 0)))) (az (aK (bw (ax (cn (T.pG)))))) bt) (aq (bo (dj (fk (cC hu (au K (pv 0)) (bz K (pv 1) aJ)) T.cP iz hr)) (az (aK (bw (ax (cn (T.ir)))))) bt)
   (aq (jk (CJ (au K (pv 0)) (bz K (pv 1) aJ)))
   (az (aK (bw (ax aJ))))))),?_⟩
 refine⟨_,rfl,_,_,_,_,rfl,rfl,hR,rfl,_,rfl,gI T hH.ho ⟨_,_,rfl,bq (.inl hH.px.pd) (iy _ x),_,rfl,?_⟩⟩;cases hf:eO s x with|none=>rw[show(s.pax.find? λq=>q.x==x)=none from hf];exact aY ⟨by decide,λp np=>k.ret hH (ans:=[-4]) (by show cY s x _=_;unfold cY;rw[hf]) .refl p np⟩|some q=>rw[show(s.pax.find? λq=>q.x==x)=some q from hf];obtain⟨hm,en⟩:=jc hf;have hO:=hH.px.px q hm;obtain⟨dx,hx⟩:=id hO;refine bp ⟨_,rfl,gI T hH.ho ⟨_,rfl,_,_,_,_,rfl,rfl,hR,rfl,_,_,rfl,bq (.inl hH.px.pd) (by rw[iy,show(s.pax.find? λq=>q.x==x)=some q from hf];rfl),_,dx,_,rfl,hx,rfl,_,q,_,L.fa,q.on,q.flown,rfl,hO,rK hH hG hm,_,rfl,?_⟩⟩;cases bA:q.flown with|true=>exact aY ⟨by decide,λp np=>k.ret hH (ans:=[-7]) (by show cY s x _=_;unfold cY;rw[hf];simp[bA]) .refl p np⟩|false=>refine bp ⟨_,rfl,gI T hH.ho ⟨_,rfl,.inl ⟨_,.inl hH.px.pd⟩,_,rfl,_,_,_,_,rfl,rfl,hR,rfl,_,ay (x:Int),_,hH.px.pd,rfl,by rw[iy,show(s.pax.find? λq=>q.x==x)=some q from hf];rfl,?_⟩⟩;rw[KC];have a1:=After.afY hH x;generalize upd H (L.D .dp) (.dK (bT L.pa (s.pax.filter λr=>r.x !=x)))=H1 at a1;exact⟨by decide,λp np=>k.fin (ans:=[0]) (by show cY s x _=_;unfold cY;rw[hf];simp[bA]) (a1.gr (.of (bL np))) (a1.free p np) ao⟩
abbrev KG:aV:=top 71
theorem UJ:bu ["house","row","passenger"] ["house","row"] (bb KG):=bC
theorem af2(F:bh K "miss_flight" "miss_flight" KG f fd)(T:Txt K mg A)(iz:dm P w K mg base A.CP "has_flown" 1 ["self"] (t_ A))(lW:dm P w K mg base A.CP "is_stranded" 1 ["self"] (zw A)):aX P w K mg base bc 2 f fd ["house","row"] (fN A K λns c=>∃x:Nat,ns=[(x:Int)]/\c=.miss x):=by
 refine F.bH UJ λH vs Q E hr hu h=>?_;obtain⟨L,s,r,ns,c,rfl,hH,hG,hB,hR,⟨x,rfl,rfl⟩,k⟩:=h
 refine⟨_,(aq (bo (dB (f9 hu (bz K (pv 1) aJ) (au K (pv 0)))) (az (aK (bw (ax (cn (T.pG)))))) bt) (aq (bf 2 UJ.nd (cC hu (au K (pv 0)) (bz K (pv 1) aJ)))
   (aq (bo (PW.pt (jj (dj (fk (pv 2) T.cP iz hr)) (ji (dj (fk (pv 2) T.cP lW hr))))) (az (aK (bw (ax (cn (T.ir)))))) bt)
   (aq (c8 (pv 2) u_)
   (az (aK (bw (ax aJ)))))))),?_⟩
 refine⟨_,rfl,_,_,_,_,rfl,rfl,hR,rfl,_,rfl,gI T hH.ho ⟨_,_,rfl,bq (.inl hH.px.pd) (iy _ x),_,rfl,?_⟩⟩;cases hf:eO s x with
 |none=>rw[show(s.pax.find? λq=>q.x==x)=none from hf];exact aY ⟨by decide,λp np=>k.ret hH (ans:=[-4]) (by show cY s x _=_;unfold cY;rw[hf]) .refl p np⟩|some q=>rw[show(s.pax.find? λq=>q.x==x)=some q from hf];obtain⟨hm,en⟩:=jc hf;have hO:=hH.px.px q hm;obtain⟨dx,hx⟩:=id hO;refine bp ⟨_,rfl,gI T hH.ho ⟨_,rfl,_,_,_,_,rfl,rfl,hR,rfl,_,_,rfl,bq (.inl hH.px.pd) (by rw[iy,show(s.pax.find? λq=>q.x==x)=some q from hf];rfl),_,rfl,_,dx,_,rfl,hx,rfl,_,q,_,L.fa,q.on,q.flown,rfl,hO,rK hH hG hm,_,rfl,?_⟩⟩;cases bA:q.flown with
  |true=>exact aY (aY ⟨by decide,λp np=>k.ret hH (ans:=[-7]) (by show cY s x _=_;unfold cY;rw[hf];simp[bA]) .refl p np⟩)|false=>refine bp ⟨_,rfl,_,dx,_,rfl,hx,rfl,_,q,_,L.fa,q.on,rfl,hO,_,rfl,?_⟩;cases ho:q.on==0 with
   |true=>exact aY ⟨by decide,λp np=>k.ret hH (ans:=[-7]) (by show cY s x _=_;unfold cY;rw[hf];simp[bA,eq_of_beq ho]) .refl p np⟩|false=>
    refine bp ?_;have mO:q.on≠0:=by intro z;rw[z]at ho;cases ho
    refine⟨_,rfl,_,_,dx,_,rfl,hx,T.cP,T.yX,(by show 9<1000;decide),?_⟩;have a1:After A H (upd H (L.pa q.x) (.ins A.CP dx (bO "flight" V.non (eY q (L.un q.x) (d8 L.fa q.on))))) L L s (gW s {q with on:=0}):=After.KA hH hm (q':={q with on:=0}) rfl rfl hx rfl;generalize upd H (L.pa q.x) (.ins A.CP dx (bO "flight" V.non (eY q (L.un q.x) (d8 L.fa q.on))))=H1 at a1;exact⟨by decide,λp np=>k.fin (ans:=[0]) (by show cY s x _=_;unfold cY;rw[hf];simp[bA,mO]) (a1.gr (.of (bL np))) (a1.free p np) ao⟩
abbrev KH:aV:=top 74
theorem UK:bu ["house","row","passenger"] ["house","row"] (bb KH):=bC
theorem af3(F:bh K "tell_where" "tell_where" KH f fd)(T:Txt K mg A)(iz:dm P w K mg base A.CP "has_flown" 1 ["self"] (t_ A))(lW:dm P w K mg base A.CP "is_stranded" 1 ["self"] (zw A)):aX P w K mg base bc 2 f fd ["house","row"] (fN A K λns c=>∃x:Nat,ns=[(x:Int)]/\c=.whereIs x):=by
 refine F.bH UK λH vs Q E hr hu h=>?_;obtain⟨L,s,r,ns,c,rfl,hH,hG,hB,hR,⟨x,rfl,rfl⟩,k⟩:=h
 refine⟨_,(aq (bo (dB (f9 hu (bz K (pv 1) aJ) (au K (pv 0)))) (az (aK (bw (ax (cn (T.pG)))))) bt) (aq (bf 2 UK.nd (cC hu (au K (pv 0)) (bz K (pv 1) aJ)))
   (aq (bo (dj (fk (pv 2) T.cP lW hr)) (az (aK (bw (aM aJ (aM aJ (ax aJ)))))) bt)
   (az (aK (bw (aM aJ (aM (QA (dj (fk (pv 2) T.cP iz hr)) aJ aJ) (ax (au K (au K (pv 2)))))))))))),?_⟩
 refine⟨_,rfl,_,_,_,_,rfl,rfl,hR,rfl,_,rfl,gI T hH.ho ⟨_,_,rfl,bq (.inl hH.px.pd) (iy _ x),_,rfl,?_⟩⟩;cases hf:eO s x with
 |none=>rw[show(s.pax.find? λq=>q.x==x)=none from hf];exact aY ⟨by decide,λp np=>k.ret hH (ans:=[-4]) (by show cY s x _=_;unfold cY;rw[hf]) .refl p np⟩|some q=>rw[show(s.pax.find? λq=>q.x==x)=some q from hf];obtain⟨hm,en⟩:=jc hf;have hO:=hH.px.px q hm;obtain⟨dx,hx⟩:=id hO;refine bp ⟨_,rfl,gI T hH.ho ⟨_,rfl,_,_,_,_,rfl,rfl,hR,rfl,_,_,rfl,bq (.inl hH.px.pd) (by rw[iy,show(s.pax.find? λq=>q.x==x)=some q from hf];rfl),_,rfl,_,dx,_,rfl,hx,rfl,_,q,_,L.fa,q.on,rfl,hO,_,rfl,?_⟩⟩;cases ho:q.on==0 with
  |true=>
   have hz:=eq_of_beq ho;have bA:q.flown=false:=by cases h:q.flown with
    |false=>rfl|true=>exact absurd hz (UI hG hm h)
   exact aY ⟨by decide,λp np=>k.ret hH (ans:=[0,0,0]) (by show cY s x _=_;unfold cY;rw[hf];simp[bA,hz]) .refl p np⟩|false=>
   have mO:q.on≠0:=by intro z;rw[z]at ho;cases ho
   refine bp ⟨_,rfl,_,dx,_,rfl,hx,rfl,_,q,_,L.fa,q.on,q.flown,rfl,hO,rK hH hG hm,_,rfl,?_⟩;have iH:dH A H (L.pa q.x) q (L.un q.x) (.ref (L.fa q.on)):=by have e:d8 L.fa q.on=V.ref (L.fa q.on):=ah mO;rw[e]at hO;exact hO
   obtain⟨g,hg,eg,_⟩:=((hG.px q hm).on).resolve_left (λz=>mO z.1);have fM:b_ A H (L.fa q.on) g (L.fe g.num):=by rw[<-eg];exact hH.fl.bB g hg
   cases bA:q.flown with
   |true=>refine aY ⟨_,rfl,mS T iH (dn T fM ⟨by show 3<=aS;decide,λp np=>k.ret hH (ans:=[0,2,(g.num:Int)]) ?_ .refl p np⟩)⟩;show cY s x _=_;unfold cY;rw[hf,eg];simp[bA]|false=>refine bp ⟨_,rfl,mS T iH (dn T fM ⟨by show 3<=aS;decide,λp np=>k.ret hH (ans:=[0,1,(g.num:Int)]) ?_ .refl p np⟩)⟩;show cY s x _=_;unfold cY;rw[hf,eg];simp[bA,mO]
abbrev KI:aV:=top 75
theorem UL:bu ["house","row","passenger"] ["house","row"] (bb KI):=bC
theorem af4(F:bh K "tell_wishes" "tell_wishes" KI f fd)(T:Txt K mg A)(iz:dm P w K mg base A.CP "has_flown" 1 ["self"] (t_ A))(ft:Glob P w K mg base "house_stands" 7 ["house"] (om A))(wo:Glob P w K mg base "wishes_of" 6 ["house","stands","passenger"] (Kx A)):aX P w K mg base bc 8 f fd ["house","row"] (fN A K λns c=>∃x:Nat,ns=[(x:Int)]/\c=.wishes x):=by
 refine F.bH UL λH vs Q E hr hu h=>?_;obtain⟨L,s,r,ns,c,rfl,hH,hG,hB,hR,⟨x,rfl,rfl⟩,k⟩:=h
 refine⟨_,(aq (bo (dB (f9 hu (bz K (pv 1) aJ) (au K (pv 0)))) (az (aK (bw (ax (cn (T.pG)))))) bt) (aq (bf 2 UL.nd (cC hu (au K (pv 0)) (bz K (pv 1) aJ)))
   (aq (bo (dj (fk (pv 2) T.cP iz hr)) (az (aK (bw (ax (cn (T.ir)))))) bt)
   (az (aK (fg Hg (bw (ax aJ)) (bK wo hr (aM (pv 0) (aM (bK ft hr (ax (pv 0))) (ax (pv 2))))))))))),?_⟩
 refine⟨_,rfl,_,_,_,_,rfl,rfl,hR,rfl,_,rfl,gI T hH.ho ⟨_,_,rfl,bq (.inl hH.px.pd) (iy _ x),_,rfl,?_⟩⟩;cases hf:eO s x with
 |none=>rw[show(s.pax.find? λq=>q.x==x)=none from hf];exact aY ⟨by decide,λp np=>k.ret hH (ans:=[-4]) (by show cY s x _=_;unfold cY;rw[hf]) .refl p np⟩|some q=>rw[show(s.pax.find? λq=>q.x==x)=some q from hf];obtain⟨hm,en⟩:=jc hf;have hO:=hH.px.px q hm;obtain⟨dx,hx⟩:=id hO;refine bp ⟨_,rfl,gI T hH.ho ⟨_,rfl,_,_,_,_,rfl,rfl,hR,rfl,_,_,rfl,bq (.inl hH.px.pd) (by rw[iy,show(s.pax.find? λq=>q.x==x)=some q from hf];rfl),_,rfl,_,dx,_,rfl,hx,rfl,_,q,_,L.fa,q.on,q.flown,rfl,hO,rK hH hG hm,_,rfl,?_⟩⟩;cases bA:q.flown with
  |true=>exact aY ⟨by decide,λp np=>k.ret hH (ans:=[-7]) (by show cY s x _=_;unfold cY;rw[hf];simp[bA]) .refl p np⟩|false=>
   refine bp ⟨by show 1<=aS;decide,λz nz=>?_⟩;have s0:aC H (upd H z (.lst [.int 0])):=bL nz;have wq:(upd H z (.lst [.int 0])) z=some (.lst [.int 0]):=ao;have jb:=hH.same s0;have UM:=hB.same s0;generalize upd H z (.lst [.int 0])=H0 at s0 wq jb UM;refine⟨_,rfl,_,rfl,L.h,s.now,_,_,_,_,L.fa,L.fe,s.flights,rfl,jb.ho,jb.fl,hG.fl,λH1 p kvs sa c s1 np hp hs jX=>?_⟩;have bP:=jb.same s1;have mW:=s0.free np;refine⟨_,rfl,L.h,s.now,_,_,_,_,L.fa,L.fe,s.flights,p,kvs,sa,_,c,_,q,_,_,rfl,bP.ho,bP.fl.fl,bP.fl.bB,hG.fl.nd,hp,hs,Dt hG.fl.nd,?_,λt ht=>?_,bP.px.px q hm,bP.px.un q hm,?_,?_,UM.same s1,λH2 p2 g2 wt d_=>?_⟩
   ·have h1:=eW k6 (iN s.now s.flights)
    rw[aD,aD]at h1;rw[h1];exact aZ (g9 _) (aZ hG.fl.len (by decide))
   ·have:t.num∈(times s.now s.flights).map λt=>t.num:=aB.mpr ⟨t,ht,rfl⟩
    rw[iN]at this;obtain⟨g,hg,e⟩:=aB.mp this;exact⟨g,cq g hg,e⟩
   ·exact ba jb.fl.fl np
   ·exact ba (jb.px.un q hm) np
   ·have ub:=g2.same _ _ (s1 _ _ wq) nofun
    refine⟨z,p2,_,_,rfl,rfl,ub,d_,?_,λp3 Kc=>?_⟩
    ·rw[aD,aD,(ju _ _).length_eq]
     have h1:=eW k6 (iN s.now s.flights);rw[aD,aD]at h1;have h2:=e_ (m3 s.flights q) (times s.now s.flights);have h3:=g9 s.flights;have h4:=hG.fl.len;have:1000<=aS:=by decide
     show 1+_<=aS;lia
    ·have g3:Gr A H H2:=(Gr.of s0).trans ((Gr.of s1).trans g2)
     refine k.pure hH (ans:=0::Vbahaj.ints (wishes s q)) (by show cY s x _=_;unfold cY;rw[hf];simp[bA]) (g3.new Kc) (g3.free p3 Kc) ?_;rw[ao,Dv];unfold Vbahaj.ints;simp
abbrev KJ:aV:=top 83
theorem DA:bu ["house","row","flight","passenger"] ["house","row"] (bb KJ):=bC
theorem DB{s:State}(G:Good s){f:aw}(hf:f∈s.flights):pW s.pax f=(room s f:Nat):=by unfold pW room;have h1:=G.oth f hf;have h2:=G.room f hf;lia
theorem af5(F:bh K "tell_load" "tell_load" KJ f fd)(T:Txt K mg A)(ou:Glob P w K mg base "room_of" 7 ["house","flight"] (Ds A))(pX:Glob P w K mg base "passengers_on" 6 ["house","flight"] (Dr A)):aX P w K mg base bc 8 f fd ["house","row"] (fN A K λns c=>∃n:Nat,ns=[(n:Int)]/\c=.load n):=by
 refine F.bH DA λH vs Q E hr hu h=>?_;obtain⟨L,s,r,ns,c,rfl,hH,hG,hB,hR,⟨n,rfl,rfl⟩,k⟩:=h
 refine⟨_,(aq (bo (dB (f9 hu (bz K (pv 1) aJ) (au K (pv 0)))) (az (aK (bw (ax (cn (T.kH)))))) bt) (aq (bf 2 DA.nd (cC hu (au K (pv 0)) (bz K (pv 1) aJ)))
   (az (aK (fg Hg (bw (aM aJ (ax (bK ou hr (aM (pv 0) (ax (pv 2))))))) (jR [("passenger",3)] DA.nd (fV (bK pX hr (aM (pv 0) (ax (pv 2))))) (c7 3 DA.nd) s_ (au K (pv 3)))))))),?_⟩
 refine⟨_,rfl,_,_,_,_,rfl,rfl,hR,rfl,_,rfl,ek T hH.ho ⟨_,_,rfl,bq (.inl hH.fl.fl) (eZ _ n),_,rfl,?_⟩⟩;cases hf:eM s.flights n with
 |none=>exact aY ⟨by decide,λp np=>k.ret hH (ans:=[-3]) (by show bQ s n _=_;unfold bQ flight;rw[hf]) .refl p np⟩|some f=>
  obtain⟨hm,en⟩:=gu hf;have hO:=hH.fl.bB f hm;refine bp ⟨_,rfl,ek T hH.ho ⟨_,rfl,_,_,_,_,rfl,rfl,hR,rfl,_,_,rfl,bq (.inl hH.fl.fl) (by rw[eZ,hf];rfl),_,rfl,_,rfl,L.h,s.now,_,_,_,_,L.pa,L.un,L.fa,s.pax,_,f,_,rfl,hH.ho,Dy hH hG,hH.px.pd,hO,hG.pos f hm,hB,λH1 g1=>?_⟩⟩;have bP:=hH.gr g1;refine⟨by show 2<=aS;decide,λz nz=>?_⟩;have s0:aC H1 (upd H1 z (.lst [.int 0,.int (pW s.pax f)])):=bL nz;have wq:(upd H1 z (.lst [.int 0,.int (pW s.pax f)])) z=some (.lst [.int 0,.int (pW s.pax f)]):=ao;generalize upd H1 z (.lst [.int 0,.int (pW s.pax f)])=H2 at s0 wq;have dP:=bP.same s0;have g2:Gr A H H2:=g1.trans (.of s0);refine⟨_,rfl,_,rfl,L.h,s.now,_,_,_,_,L.pa,L.un,L.fa,s.pax,_,f,_,rfl,dP.ho,Dy dP hG,dP.px.pd,dP.fl.bB f hm,hG.pos f hm,g2.tabs hB,λH3 p g3 np hp=>?_⟩;have zE:=g3.same _ _ wq nofun;have npz:z≠p:=ba wq np
  refine⟨p,rfl,⟨_,aE.of hp⟩,λD nD=>?_⟩;have hP3:=(Dy dP hG).gr g3.same;have vW:p≠D:=ba hp nD;have nzD:z≠D:=ba zE nD;refine i7 fX (λi H4=>aC H3 H4/\H4 D=some (.lst (((iW (s.pax.filter λq=>q.on==f.num)).take i).map λq=>V.int (q.x:Int)))) ⟨bL nD,ao⟩ (λi H4 _ h=>aE.of (h.1 _ _ hp)) ?_ ?_
  ·rintro i v H4 H5 hi ⟨s4,e4⟩ ⟨rfl,hv⟩
   obtain⟨q,hq,rfl⟩:=el hv;have hJ:q∈s.pax:=(ck.mp ((jZ _).mem_iff.mp (du hq))).1;have Kq:dH A H5 (L.pa q.x) q (L.un q.x) (d8 L.fa q.on):=(hP3.px q hJ).1.gr λb o e _=>s4 b o e;refine⟨rfl,tU ⟨_,rfl,tK T Kq ⟨_,e4,?_,s4.bW nD,?_⟩⟩⟩
   ·rw[aD]
    have h1:=(jZ (s.pax.filter λq=>q.on==f.num)).length_eq;have h2:=e_ (λq:bj=>q.on==f.num) s.pax;have h3:=hG.pl;have h4:=k5 i (iW (s.pax.filter λq=>q.on==f.num));have:1000<=aS:=by decide
    lia
   ·rw[ao,take_snoc hq,bS]
    rfl
  ·rintro H4 ⟨s4,e4⟩
   rw[aD,dQ]at e4;refine⟨z,D,_,_,rfl,rfl,s4 _ _ zE,e4,?_,λp5 zF=>?_⟩
   ·rw[aD,(jZ _).length_eq]
    have h2:=e_ (λq:bj=>q.on==f.num) s.pax;have h3:=hG.pl;have:1000<=aS:=by decide
    show 2+_<=aS;lia
   ·have g5:Gr A H H4:=g2.trans (g3.trans (.of s4))
    refine k.pure hH (ans:=0::(room s f:Int)::Vbahaj.ints ((iW (s.pax.filter λq=>q.on==n)).map λq=>q.x)) (by show bQ s n _=_;unfold bQ flight;rw[hf]) (g5.new zF) (g5.free p5 zF) ?_;rw[ao,DB hG hm,en];unfold Vbahaj.ints;simp
theorem UN(hN:(s.pax.map λq=>q.x).Nodup)(hq:q∈s.pax):gW s q=s:=by
 unfold gW;have:(s.pax.map λr=>if r.x=q.x then q else r)=s.pax:=by
  conv=>rhs;rw[<-xt s.pax]
  refine dE λr hr=>?_;by_cases e:r.x=q.x
  ·rw[aj e];exact rE hN hq hr e.symm
  ·rw[ah e];rfl
 rw[this]
theorem af6{l:List Nat}{n:Nat}(h:l.contains n=false):putK (eU l) (ay (n:Int)) (V.bl true)=eU (l++[n]):=by have hv:=wj l n;rw[h]at hv;rw[qO _ (by cases e:bZ (eU l) (ay (n:Int))with|none=>rfl|some v=>rw[e]at hv;cases hv)];unfold eU;rw[bS];rfl
theorem KL{n:Nat}:∀l:List Nat,il (eU l) (ay (n:Int))=eU (l.filter λf=>f !=n)
 |[]=>rfl|a::l=>by
  unfold eU;rw[cV];by_cases e:a=n
  ·rw[B5 (by rw[e]),bX,ah (by simp[e])]
   exact KL l
  ·rw[B6 (i8 e),bX,aj (by simp[e]),cV]
   congr 1;exact KL l
theorem KN:∀l:List (Nat×Nat),rising l=true↔∀(i:Nat)(a b:Nat×Nat),l[i]? =some a->l[i+1]? =some b->a.1<b.1/\a.2<=b.2
 |[]=>⟨λ_ i a b h=>by simp at h,λ_=>rfl⟩|[p]=>⟨λ_ i a b _ h=>by simp at h,λ_=>rfl⟩|p::q::r=>by
  have ih:=KN (q::r);unfold rising;rw[cJ,cJ,AD,AD,ih];constructor
  ·rintro⟨h1,h2,h3⟩ i a b ha hb
   cases i with
   |zero=>cases ha;cases hb;exact⟨h1,h2⟩|succ i=>exact h3 i a b ha hb
  ·intro h
   exact⟨(h 0 p q rfl rfl).1,(h 0 p q rfl rfl).2,λi a b ha hb=>h (i+1) a b ha hb⟩
theorem UO:amount (l++[p]) m=if p.1<=m then p.2 else amount l m:=by
 unfold amount;rw[fy];by_cases h:p.1<=m
 ·rw[aj h,bX,aj (dX h)]
  simp
 ·rw[ah h,bX,ah (by simp;lia)]
  simp
abbrev KO:aV:=top 72
theorem af7:bu ["passenger","number"] ["passenger","number"] (bb KO):=bC
inductive UP(A:Ad)(vs:List V)(H:Hp)(Q:VK)(E:XK):Prop|mk L s q (n:Nat) (z:vs=[.ref (Lay.pa L (Pax.x q)),.int n]) (z:b0 A H L s) (z:Good s) (z:q∈s.pax) (z:(q.refuses.contains n=true->∀p,H p=none->Q (.ref p) (upd H p (.lst [.int 0])))) (z:(q.refuses.contains n=false->8<=q.refuses.length->∀p,H p=none->Q (.ref p) (upd H p (.lst [.int (-6)])))) (z:(q.refuses.contains n=false->¬8<=q.refuses.length->∀H' p,After A H H' L L s (gW s {q with refuses:=q.refuses++[n]})->H p=none->H' p=some (.lst [.int 0])->Q (.ref p) H'))
theorem af8(F:bh K "add_unwanted" "add_unwanted" KO f fd)(T:Txt K mg A):aX P w K mg base bc 1 f fd ["passenger","number"] (UP A):=by
 refine F.bH af7 λH vs Q E hr hu h=>?_;obtain⟨L,s,q,n,rfl,hH,hG,hq,k1,k2,k3⟩:=h;have hO:=hH.px.px q hq;have hU:=hH.px.un q hq
 refine⟨_,(aq (bo (dB (qQ hu (pv 1) (au K (pv 0)))) (az (aK (bw (ax aJ)))) bt) (aq (bo (dS ym (lA B4 (by rfl) T.len uR (ax (au K (pv 0)))) (cn (T.IY))) (az (aK (bw (ax (cn (T.vF)))))) bt)
   (aq (iK hu (au K (pv 0)) (pv 1) ik)
   (az (aK (bw (ax aJ))))))),?_⟩
 refine⟨_,rfl,_,rfl,vJ T hO ⟨_,_,rfl,bq (.inl hU) rfl,_,rfl,?_⟩⟩;rw[wj];cases hc:q.refuses.contains n with
 |true=>exact aY ⟨by decide,λp np=>k1 hc p np⟩|false=>
  refine bp ⟨_,rfl,vJ T hO ?_⟩;have hl:(eU q.refuses).length=q.refuses.length:=by unfold eU;rw[aD]
  refine⟨_,_,rfl,hU,_,_,rfl,rfl,_,rfl,dO (λh2=>?_) λh2=>?_⟩
  ·have h2:(8:Int)<=((eU q.refuses).length:Nat):=h2
   exact⟨by decide,λp np=>k2 hc (by lia) p np⟩
  ·have h2:¬(8:Int)<=((eU q.refuses).length:Nat):=h2
   refine⟨_,rfl,vJ T hO ⟨_,rfl,_,_,rfl,iL hU (fI (by lia:(eU q.refuses).length<8) (by decide)),?_⟩⟩;rw[af6 hc];have a1:=After.UH hH hq (q':={q with refuses:=q.refuses++[n]}) rfl rfl (λ_ _=>rfl) rfl;exact⟨by decide,λp np=>k3 hc (by lia) _ p (a1.gr (.of (bL np))) (a1.free p np) ao⟩
abbrev KP:aV:=top 73
theorem UQ:bu ["house","row","passenger"] ["house","row"] (bb KP):=bC
theorem af9(F:bh K "refuse_flight" "refuse_flight" KP f fd)(T:Txt K mg A)(iz:dm P w K mg base A.CP "has_flown" 1 ["self"] (t_ A))(KQ:Glob P w K mg base "add_unwanted" 1 ["passenger","number"] (UP A)):aX P w K mg base bc 2 f fd ["house","row"] (fN A K λns c=>∃x n fl:Nat,ns=[(x:Int),(n:Int),(fl:Int)]/\fl<=1/\c=.refuse x n fl):=by
 refine F.bH UQ λH vs Q E hr hu h=>?_;obtain⟨L,s,r,ns,c,rfl,hH,hG,hB,hR,⟨x,n,fl,rfl,bA,rfl⟩,k⟩:=h
 refine⟨_,(aq (bo (dB (f9 hu (bz K (pv 1) aJ) (au K (pv 0)))) (az (aK (bw (ax (cn (T.pG)))))) bt) (aq (bo (dB (f9 hu (bz K (pv 1) aJ) (au K (pv 0)))) (az (aK (bw (ax (cn (T.kH)))))) bt)
   (aq (bf 2 UQ.nd (cC hu (au K (pv 0)) (bz K (pv 1) aJ)))
   (aq (bo (dj (fk (pv 2) T.cP iz hr)) (az (aK (bw (ax (cn (T.ir)))))) bt)
   (aq (bo (dS mB (bz K (pv 1) aJ) aJ) (az (aK (bK KQ hr (aM (pv 2) (ax (bz K (pv 1) aJ)))))) bt)
   (aq (bo (dB (qQ hu (bz K (pv 1) aJ) (au K (pv 2)))) (az (jk (CJ (au K (pv 2)) (bz K (pv 1) aJ)))) bt)
   (az (aK (bw (ax aJ)))))))))),?_⟩
 refine⟨_,rfl,_,_,_,_,rfl,rfl,hR,rfl,_,rfl,gI T hH.ho ⟨_,_,rfl,bq (.inl hH.px.pd) (iy _ x),_,rfl,?_⟩⟩;cases hf:eO s x with
 |none=>rw[show(s.pax.find? λq=>q.x==x)=none from hf];refine aY ⟨by decide,λp np=>?_⟩;exact k.ret hH (ans:=[-4]) (by show cY s x _=_;unfold cY;rw[hf]) .refl p np|some q=>rw[show(s.pax.find? λq=>q.x==x)=some q from hf];obtain⟨hm,en⟩:=jc hf;have hO:=hH.px.px q hm;obtain⟨dx,hx⟩:=id hO;refine bp ?_;refine⟨_,rfl,_,_,_,_,rfl,rfl,hR,rfl,_,rfl,ek T hH.ho ⟨_,_,rfl,bq (.inl hH.fl.fl) (eZ _ n),_,rfl,?_⟩⟩;cases hg:eM s.flights n with
  |none=>refine aY ⟨by decide,λp np=>?_⟩;exact k.ret hH (ans:=[-3]) (by show cY s x _=_;unfold cY;rw[hf];show bQ s n _=_;unfold bQ flight;rw[hg]) .refl p np|some g=>
   have st:step s (.refuse x n fl)=(if q.flown=true then(s,[-7])else if fl=0 then(gW s {q with refuses:=q.refuses.filter λf=>f !=n},[0])else if q.refuses.contains n=true then(s,[0])else if Gv<=q.refuses.length then(s,[-6])else(gW s {q with refuses:=q.refuses++[n]},[0])):=by show cY s x _=_;unfold cY;rw[hf];show bQ s n _=_;unfold bQ flight;rw[hg]
   refine bp ?_;refine⟨_,rfl,gI T hH.ho ⟨_,rfl,_,_,_,_,rfl,rfl,hR,rfl,_,_,rfl,bq (.inl hH.px.pd) (by rw[iy,show(s.pax.find? λq=>q.x==x)=some q from hf];rfl),_,rfl,_,dx,_,rfl,hx,rfl,_,q,_,L.fa,q.on,q.flown,rfl,hO,rK hH hG hm,_,rfl,?_⟩⟩;cases u7:q.flown with
   |true=>refine aY ⟨by decide,λp np=>?_⟩;exact k.ret hH (ans:=[-7]) (by rw[st,aj u7]) .refl p np|false=>
    rw[ah (by rw[u7];decide)]at st;refine bp ?_;refine⟨_,rfl,_,_,_,_,rfl,rfl,hR,rfl,?_⟩;refine⟨rfl,_,rfl,dO (λh1=>?_) λh1=>?_⟩
    ·have h1:fl=1:=by have:=V.int.inj h1;lia
     rw[ah (by lia)]at st;refine⟨_,rfl,_,rfl,_,_,_,_,rfl,rfl,hR,rfl,?_⟩;refine⟨L,s,q,n,rfl,hH,hG,hm,λhc p np=>?_,λhc hl p np=>?_,λhc hl H1 p a1 np hp=>?_⟩
     ·exact k.ret hH (ans:=[0]) (by rw[st,aj hc]) .refl p np
     ·exact k.ret hH (ans:=[-6]) (by rw[st,ah (by rw[hc];decide),aj (show Gv<=_ from hl)]) .refl p np
     ·exact k.fin (ans:=[0]) (by rw[st,ah (by rw[hc];decide),ah (show¬Gv<=_ from hl)]) a1 np hp
    ·have h1:fl=0:=by have:fl≠1:=λz=>h1 (by rw[z];rfl);lia
     rw[aj h1]at st;have hU:=hH.px.un q hm;refine⟨_,rfl,_,_,_,_,rfl,rfl,hR,rfl,_,rfl,vJ T hO ⟨_,_,rfl,bq (.inl hU) rfl,_,rfl,?_⟩⟩;rw[wj];cases hc:q.refuses.contains n with
     |true=>refine aY ?_;refine⟨_,rfl,vJ T hO ⟨_,rfl,.inl ⟨_,.inl hU⟩,_,rfl,_,_,_,_,rfl,rfl,hR,rfl,?_⟩⟩;have hv:=wj q.refuses n;rw[hc]at hv;obtain⟨vv,J8⟩:=nA.mp hv;refine⟨_,ay (n:Int),vv,hU,rfl,J8,?_⟩;rw[KL];have a1:=After.UH hH hm (q':={q with refuses:=q.refuses.filter λf=>f !=n}) rfl rfl (λ_ _=>rfl) rfl;refine⟨by decide,λp np=>?_⟩;exact k.fin (ans:=[0]) st (a1.gr (.of (bL np))) (a1.free p np) ao|false=>
      refine bp ⟨by decide,λp np=>?_⟩;have e1:(q.refuses.filter λf=>f !=n)=q.refuses:=by
       rw[Oo];intro a ha;have:a≠n:=λz=>by rw[z]at ha;rw[fD.mpr ha]at hc;cases hc
       simpa using this
      have e2:gW s {q with refuses:=q.refuses.filter λf=>f !=n}=s:=by rw[e1];exact UN hG.pn hm
      exact k.ret hH (ans:=[0]) (by rw[st,e2]) .refl p np
abbrev KR:aV:=top 81
theorem DC:bu ["steps","minutes","amount","step"] ["steps","minutes"] (bb KR):=bC
inductive UR(K:aG)(vs:List V)(H:Hp)(Q:VK)(E:XK):Prop|mk ls l (ws:List V) (m:Nat) (z:vs=[.ref ls,.int m]) (z:H ls=some (.lst ws)) (z:pR H ws l) (z:Q (.int (amount l m:Nat)) H)
theorem aga(F:bh K "amount_owed" "amount_owed" KR f fd)(T:Txt K mg A):aX P w K mg base bc 1 f fd ["steps","minutes"] (UR K):=by
 refine F.bH DC λH vs Q E hr hu h=>?_;obtain⟨ls,l,ws,m,rfl,hL,hS,k⟩:=h
 refine⟨_,(aq (bf 2 DC.nd aJ) (aq (gn (fV (pv 0)) (c7 3 DC.nd) (az (bo (dS jK (jt K (pv 3) aJ) (pv 1)) (az (bf 2 DC.nd (jt K (pv 3) aJ))) bt)))
   (az (aK (pv 2))))),?_⟩
 refine Jf (i:=2) ⟨_,rfl,ls,rfl,⟨_,aE.of hL⟩,gp fX (λi σ H'=>∃v3,σ=[some (.ref ls),some (.int m),some (.int (amount (l.take i) m:Nat)),v3]/\H'=H) ⟨none,rfl,rfl⟩ (λi σ H' _⟨_,_,e⟩=>by rw[e];exact aE.of hL) ?_ ?_⟩
 ·rintro i x σ H1 H2 hi ⟨v3,rfl,rfl⟩ ⟨rfl,hx⟩
  rw[hS.len]at hi;have hp:l[i]? =some l[i]:=dY hi;generalize l[i]=p at hp;obtain⟨t,h1,h2⟩:=hS.at_ i p hp;rw[h1]at hx;cases hx;refine⟨_,rfl,t,_,_,_,rfl,rfl,cW.of h2,rfl,_,rfl,_,_,rfl,rfl,_,rfl,dO (λh3=>?_) λh3=>?_⟩
  ·have h3:p.1<=m:=by have h3:(p.1:Int)<=m:=h3;lia
   exact⟨_,rfl,t,_,_,_,rfl,rfl,cW.of h2,rfl,_,by rw[take_snoc hp,UO,aj h3];rfl,rfl⟩
  ·have h3:¬p.1<=m:=by have h3:¬(p.1:Int)<=m:=h3;lia
   exact⟨_,by rw[take_snoc hp,UO,ah h3];rfl,rfl⟩
 ·rintro σ H1 ⟨v3,rfl,rfl⟩
  rw[hS.len,dQ];exact⟨_,rfl,k⟩
abbrev KS:aV:=top 82
theorem DD:bu ["house","row","passenger","stand","minutes"] ["house","row"] (bb KS):=bC
theorem agb(F:bh K "tell_claim" "tell_claim" KS f fd)(T:Txt K mg A)(iz:dm P w K mg base A.CP "has_flown" 1 ["self"] (t_ A))(ft:Glob P w K mg base "house_stands" 7 ["house"] (om A))(pS:Glob P w K mg base "has_arrived" 1 ["flight","stand","now"] (C0 A))(KU:Glob P w K mg base "amount_owed" 1 ["steps","minutes"] (UR K)):aX P w K mg base bc 8 f fd ["house","row"] (fN A K λns c=>∃x:Nat,ns=[(x:Int)]/\c=.claim x):=by
 refine F.bH DD λH vs Q E hr hu h=>?_;obtain⟨L,s,r,ns,c,rfl,hH,hG,hB,hR,⟨x,rfl,rfl⟩,k⟩:=h
 refine⟨_,(aq (bo (dB (f9 hu (bz K (pv 1) aJ) (au K (pv 0)))) (az (aK (bw (ax (cn (T.pG)))))) bt) (aq (bf 2 DD.nd (cC hu (au K (pv 0)) (bz K (pv 1) aJ)))
   (aq (bo (gY (dj (fk (pv 2) T.cP iz hr))) (az (aK (bw (ax (cn (T.ir)))))) bt)
   (aq (bf 3 DD.nd (cC hu (bK ft hr (ax (pv 0))) (au K (au K (pv 2)))))
   (aq (bo (gY (dj (bK pS hr (aM (au K (pv 2)) (aM (pv 3) (ax (au K (pv 0)))))))) (az (aK (bw (ax (cn (T.ir)))))) bt)
   (aq (bf 4 DD.nd (lA (GX rfl) (by rfl) T.max FQ (aM (fg vf (au K (pv 3)) (au K (pv 2))) (ax aJ))))
   (az (aK (bw (aM aJ (aM (pv 4) (ax (bK KU hr (aM (au K (pv 0)) (ax (pv 4)))))))))))))))),?_⟩
 refine⟨_,rfl,_,_,_,_,rfl,rfl,hR,rfl,_,rfl,gI T hH.ho ⟨_,_,rfl,bq (.inl hH.px.pd) (iy _ x),_,rfl,?_⟩⟩;cases hf:eO s x with
 |none=>rw[show(s.pax.find? λq=>q.x==x)=none from hf];exact aY ⟨by decide,λp np=>k.ret hH (ans:=[-4]) (by show cY s x _=_;unfold cY;rw[hf]) .refl p np⟩|some q=>
  rw[show(s.pax.find? λq=>q.x==x)=some q from hf];obtain⟨hm,en⟩:=jc hf;have hO:=hH.px.px q hm;obtain⟨dx,hx⟩:=id hO;have stN:flight s q.on=none->step s (.claim x)=(s,[-7]):=λh=>by show cY s x _=_;unfold cY;rw[hf];simp only[h]
  have US:∀g,flight s q.on=some g->step s (.claim x)=(if jh s g=false then(s,[-7])else(s,[0,(((timeIn s g.num).arrive-q.due:Nat):Int),(amount s.steps ((timeIn s g.num).arrive-q.due):Int)])):=λg h=>by show cY s x _=_;unfold cY;rw[hf];simp only[h]
  refine bp ⟨_,rfl,gI T hH.ho ⟨_,rfl,_,_,_,_,rfl,rfl,hR,rfl,_,_,rfl,bq (.inl hH.px.pd) (by rw[iy,show(s.pax.find? λq=>q.x==x)=some q from hf];rfl),_,rfl,_,dx,_,rfl,hx,rfl,_,q,_,L.fa,q.on,q.flown,rfl,hO,rK hH hG hm,_,rfl,?_⟩⟩;cases bA:q.flown with
  |false=>
   refine aY ⟨by decide,λp np=>k.ret hH (ans:=[-7]) ?_ .refl p np⟩;rcases(hG.px q hm).on with⟨h0,_⟩|⟨g,hg,eg,hc,hl⟩
   ·have:flight s q.on=none:=by cases h:flight s q.on with
     |none=>rfl|some g=>obtain⟨h1,h2⟩:=gu h;have:=hG.pos g h1;lia
    exact stN this
   ·have:flight s q.on=some g:=by rw[<-eg];exact jV hG.fl.nd hg
    have ha:jh s g=false:=by unfold jh;rw[<-hl,bA];rfl
    rw[US g this,aj ha]|true=>
   obtain⟨g,hg,eg,hc,hl⟩:=((hG.px q hm).on).resolve_left (λz=>by rw[bA]at z;exact absurd z.2 (by decide));have mO:q.on≠0:=UI hG hm bA;have g8:flight s q.on=some g:=by rw[<-eg];exact jV hG.fl.nd hg
   obtain⟨t,ht⟩:=tY hg hc;have zl:jh s g=(g.left.isSome&&decide (t.arrive<=s.now)):=by unfold jh;rw[oo ht]
   have st:=US g g8;refine bp ⟨_,rfl,L.h,s.now,_,_,_,_,L.fa,L.fe,s.flights,rfl,hH.ho,hH.fl,hG.fl,λH1 p kvs sa c s1 np hp hs jX=>?_⟩;have bP:=hH.same s1;have iH:dH A H1 (L.pa q.x) q (L.un q.x) (.ref (L.fa q.on)):=by have e:d8 L.fa q.on=V.ref (L.fa q.on):=ah mO;have:=bP.px.px q hm;rw[e]at this;exact this
   have fM:b_ A H1 (L.fa q.on) g (L.fe g.num):=by rw[<-eg];exact bP.fl.bB g hg
   refine⟨_,rfl,mS T iH (dn T fM ⟨p,_,rfl,bq (.inl hp) (by rw[hs.eq,iu,ht];rfl),?_⟩)⟩;have lQ:=hs.at_ t (kL ht).1;refine⟨_,rfl,mS T iH ⟨_,rfl,_,rfl,n_ T bP.ho ⟨_,g,_,_,_,_,_,s.now,rfl,fM,lQ,_,rfl,?_⟩⟩⟩;rw[<-zl];cases ha:jh s g with
   |false=>exact aY ⟨by decide,λp np=>k.ret hH (ans:=[-7]) (by rw[st,aj ha]) (.of s1) p np⟩|true=>
    refine bp ⟨_,rfl,oa T lQ ⟨_,rfl,aeC T iH ⟨_,_,rfl,rfl,_,_,rfl,?_⟩⟩⟩;have em:(if(0:Int)>(t.arrive:Int)-q.due then 0 else(t.arrive:Int)-q.due)=((t.arrive-q.due:Nat):Int):=by split<;>lia
    rw[em];refine⟨_,rfl,_,rfl,aey T bP.ho ⟨_,rfl,?_⟩⟩;obtain⟨ws,hls,eQ⟩:=bP.st;exact⟨L.ls,s.steps,ws,t.arrive-q.due,rfl,hls,eQ,by show 3<=aS;decide,λp2 wt=>k.ret hH (ans:=[0,((t.arrive-q.due:Nat):Int),(amount s.steps (t.arrive-q.due):Int)]) (by rw[st,ah (by rw[ha];decide),oo ht]) (.of s1) p2 wt⟩
def pZ(l:List (Nat×Nat)):List Int:=l.flatMap λp=>[(p.1:Int),(p.2:Int)]
theorem UT:∀l:List (Nat×Nat),(pZ l).length=2*l.length|[]=>rfl|p::l=>by have:=UT l;show((pZ l).length+1)+1=2*(l.length+1);lia
theorem UU:∀{l:List (Nat×Nat)}{i:Nat}{p:Nat×Nat},l[i]? =some p->(pZ l)[2*i]? =some (p.1:Int)/\(pZ l)[2*i+1]? =some (p.2:Int)|[],i,p,h=>by simp at h|q::l,0,p,h=>by cases h;exact⟨rfl,rfl⟩|q::l,i+1,p,h=>by obtain⟨h1,h2⟩:=UU (l:=l) (i:=i) (p:=p) h;exact⟨h1,h2⟩
theorem rg2:∀n:Nat,n<=8->RC 0 ((2*n:Nat):Int) 2 n|0,_=>⟨by decide,by decide,by decide,by decide⟩|1,_=>⟨by decide,by decide,by decide,by decide⟩|2,_=>⟨by decide,by decide,by decide,by decide⟩|3,_=>⟨by decide,by decide,by decide,by decide⟩|4,_=>⟨by decide,by decide,by decide,by decide⟩|5,_=>⟨by decide,by decide,by decide,by decide⟩|6,_=>⟨by decide,by decide,by decide,by decide⟩|7,_=>⟨by decide,by decide,by decide,by decide⟩|8,_=>⟨by decide,by decide,by decide,by decide⟩|n+9,h=>absurd h (by lia)
theorem agc(xs:List V):mG xs (some 1) none=xs.drop 1:=by unfold mG HT.gO;cases xs with|nil=>rfl|cons a xs=>simp
abbrev KW:aV:=top 80
theorem zG:bu ["house","row","steps","earlier","later","at"] ["house","row"] (bb KW):=bC
theorem agd(F:bh K "set_steps" "set_steps" KW f fd)(T:Txt K mg A):aX P w K mg base bc 1 f fd ["house","row"] (fN A K λns c=>∃l:List (Nat×Nat),ns=pZ l/\l.length<=8/\c=.steps l):=by
 refine F.bH zG λH vs Q E hr hu h=>?_;obtain⟨L,s,r,ns,c,rfl,hH,hG,hB,hR,⟨l,rfl,hl,rfl⟩,k⟩:=h
 refine⟨_,(aq (SW 2 [("at",5)] zG.nd (acL (by rfl) T.range (aM aJ (aM (iJ K T.len (pv 1)) (ax aJ)))) (c7 5 zG.nd) s_ (vh (aM (bz K (pv 1) (pv 5)) (ax (bz K (pv 1) (fg iC (pv 5) aJ)))))) (aq (gn (ac1 (by rfl) T.zip (aM (pv 2) (ax (G8 Hc (pv 2) (BQ aJ) Q6)))) (w_g2 K (c7 3 zG.nd) (c7 4 zG.nd)) (az (bo (PW.pt (jj (dS jK (jt K (pv 4) aJ) (jt K (pv 3) aJ)) (ji (dS qL (jt K (pv 4) aJ) (jt K (pv 3) aJ))))) (az (aK (bw (ax (cn (T.n9)))))) bt)))
   (aq (c8 (pv 0) (pv 2))
   (az (aK (bw (ax aJ))))))),?_⟩
 have hlen:((pZ l).map V.int).length=2*l.length:=by rw[aD,UT]
 refine⟨_,rfl,r,_,rfl,.inl hR,0,((2*l.length:Nat):Int),2,l.length,by rw[hlen],rg2 _ hl,λD nD=>i7 aev (λi H1=>aC H H1/\∃ws,H1 D=some (.lst ws)/\pR H1 ws (l.take i)) ⟨bL nD,[],ao,rfl,λj p h=>by simp at h⟩ (λi H1 _ _=>bJ) ?_ ?_⟩
 ·rintro i x H1 H2 hi ⟨s1,ws,e1,e2⟩ ⟨rfl,rfl⟩
  have hp:l[i]? =some l[i]:=dY hi;generalize l[i]=p at hp;obtain⟨h1,h2⟩:=UU hp;have jY:=s1.seq hR;refine⟨rfl,tU ⟨_,rfl,_,rfl,r,_,_,_,rfl,rfl,jY,at_of (j:=2*i) (v:=.int p.1) (by lia) (by rw[fz,h1];rfl),?_⟩⟩;refine⟨_,rfl,_,rfl,_,_,rfl,rfl,r,_,_,_,rfl,rfl,jY,at_of (j:=2*i+1) (v:=.int p.2) (by lia) (by rw[fz,h2];rfl),?_⟩;refine⟨by show 2<=aS;decide,λt nt=>?_⟩;have s2:aC H2 (upd H2 t (.tup [.int p.1,.int p.2])):=bL nt;have ntD:t≠D:=Ne.symm (ba e1 nt);refine⟨ws,s2 _ _ e1,?_,(s1.trans s2).bW nD,ws++[.ref t],ao,?_⟩
  ·have h3:=e2.len
   rw[h3];have:=k5 i l;have:1000<=aS:=by decide
   lia
  ·have e3:pR (upd (upd H2 t (.tup [.int p.1,.int p.2])) D (.lst (ws++[.ref t]))) ws (l.take i):=e2.keep λt' zs z=>by rw[ak (cZ (s2 _ _ z) (s2 _ _ e1) (by intro y;cases y))];exact s2 _ _ z
   rw[take_snoc hp];refine⟨by simp[e3.len],λj q hq=>?_⟩;by_cases hj:j<(l.take i).length
   ·rw[nv hj]at hq
    obtain⟨t',z1,z2⟩:=e3.at_ j q hq;exact⟨t',by rw[nv (by rw[e3.len];exact hj)];exact z1,z2⟩
   ·rw[oI (by lia)]at hq
    have e:j-(l.take i).length=0:=by have:=(eo.mp hq).1;simp at this⊢;lia
    rw[e]at hq;cases hq;exact⟨t,by rw[oI (by rw[e3.len];lia),e3.len,e];rfl,by rw[ak ntD,ao]⟩
 ·rintro H1 ⟨s1,ws,e1,e2⟩
  rw[dQ]at e2
  refine⟨_,rfl,_,rfl,_,rfl,D,_,rfl,aE.of e1,λD2 mV=>?_⟩;rw[agc];have s2:aC H1 (upd H1 D2 (.lst (ws.drop 1))):=bL mV;have KY:(upd H1 D2 (.lst (ws.drop 1))) D2=some (.lst (ws.drop 1)):=ao;generalize upd H1 D2 (.lst (ws.drop 1))=H2 at s2 KY;have KZ:=s2 _ _ e1;have pM:pR H2 ws l:=e2.keep λt zs z=>s2 _ _ z;have akh:H D2=none:=s1.free mV
  refine⟨D,D2,ws,ws.drop 1,rfl,aE.of KZ,aE.of KY,gp (aeu (by rw[qo];lia)) (λi σ H3=>∃v3 v4,σ=[some (.ref L.h),some (.ref r),some (.ref D),v3,v4,none]/\aC H2 H3/\∀(j:Nat)(a b:Nat×Nat),j<i->l[j]? =some a->l[j+1]? =some b->a.1<b.1/\a.2<=b.2) ⟨none,none,rfl,aC.refl _,λj a b hj=>absurd hj (uM _)⟩ (λi σ H3 _⟨_,_,_,s3,_⟩=>⟨aE.of (s3 _ _ KZ),aE.of (s3 _ _ KY)⟩) ?_ ?_⟩
  ·rintro i x σ H3 H4 hi ⟨v3,v4,rfl,s3,inv⟩ ⟨T1,va,vb,rfl,nT,rfl,wu,DE⟩
   rw[qo,e2.len]at hi;have ha:l[i]? =some l[i]:=dY (by lia);have hb:l[i+1]? =some l[i+1]:=dY (by lia);generalize l[i]=a at ha;generalize l[i+1]=b at hb;obtain⟨ta,a1,a2⟩:=pM.at_ i a ha;obtain⟨tb,b1,b2⟩:=pM.at_ (i+1) b hb;rw[a1]at wu;cases wu;rw[Fj,Nat.add_comm 1 i,b1]at DE;cases DE;have s4:aC H2 (upd H3 T1 (.tup [V.ref ta,V.ref tb])):=s3.bW (s3.free nT);refine⟨T1,_,rfl,cW.of ao,rfl,_,_,rfl,_,_,rfl,rfl,?_⟩;generalize upd H3 T1 (.tup [V.ref ta,V.ref tb])=H4 at s4;have qa:cW K H4 ta [.int a.1,.int a.2]:=cW.of (s4 _ _ a2);have qb:cW K H4 tb [.int b.1,.int b.2]:=cW.of (s4 _ _ b2);have bad:¬(a.1<b.1/\a.2<=b.2)->step s (.steps l)=(s,[-8]):=λh=>by show(if rising l=true then _ else _)=_;rw[ah λz=>h ((KN l).mp z i a b ha hb)]
   have g4:Gr A H H4:=(Gr.of s1).trans ((Gr.of s2).trans (.of s4));refine⟨_,rfl,tb,_,_,_,rfl,rfl,qb,rfl,_,rfl,ta,_,_,_,rfl,rfl,qa,rfl,_,_,rfl,rfl,_,rfl,dO (λh1=>?_) λh1=>?_⟩
   ·refine aY ⟨by decide,λp np=>?_⟩
    have h1:(b.1:Int)<=a.1:=h1;exact k.ret hH (ans:=[-8]) (bad λz=>by lia) g4 p np
   ·have h1:¬(b.1:Int)<=a.1:=h1
    refine⟨_,rfl,tb,_,_,_,rfl,rfl,qb,rfl,_,rfl,ta,_,_,_,rfl,rfl,qa,rfl,_,_,rfl,rfl,_,rfl,dO (λh2=>?_) λh2=>?_⟩
    ·refine⟨by decide,λp np=>?_⟩
     have h2:(b.2:Int)<a.2:=h2;exact k.ret hH (ans:=[-8]) (bad λz=>by lia) g4 p np
    ·have h2:¬(b.2:Int)<a.2:=h2
     refine⟨_,_,rfl,s4,λj a' b' hj K0 jN=>?_⟩;by_cases e:j=i
     ·subst e
      rw[ha]at K0;rw[hb]at jN;cases K0;cases jN;exact⟨by lia,by lia⟩
     ·exact inv j a' b' (by lia) K0 jN
  ·rintro σ H3 ⟨v3,v4,rfl,s3,inv⟩
   rw[qo,e2.len]at inv;have age:rising l=true:=(KN l).mpr λi a b ha hb=>inv i a b (by have:=(eo.mp hb).1;lia) ha hb;have kP:aC H H3:=s1.trans (s2.trans s3);have d4:=hH.same kP;obtain⟨dx,hx⟩:=d4.ho;refine⟨_,rfl,_,rfl,L.h,_,dx,_,rfl,hx,T.cH,T.IS,(by show 5<1000;decide),?_⟩
   have a1:After A H (upd H3 L.h (.ins A.CH dx (bO "steps" (V.ref D) (bA s.now (L.D .df) (L.D .dt) (L.D .dp) L.ls)))) L {L with ls:=D} s {s with steps:=l}:=After.afZ d4 hx (s3 _ _ KZ) (pM.keep λt zs z=>s3 _ _ z) (λz=>by obtain⟨u,hu⟩:=hH.there z;rw[nD]at hu;cases hu) nD (.of kP) hH
   generalize upd H3 L.h (.ins A.CH dx (bO "steps" (V.ref D) (bA s.now (L.D .df) (L.D .dt) (L.D .dp) L.ls)))=H4 at a1;exact⟨by decide,λp np=>k.fin (ans:=[0]) (by show(if rising l=true then _ else _)=_;rw[aj age]) (a1.gr (.of (bL np))) (a1.free p np) ao⟩
theorem ow(h:a≠b):upd (upd H a x) b y=upd (upd H b y) a x:=by
 funext c;unfold upd;by_cases h1:c=a
 ·rw[ah (by rw[h1];exact h),aj h1,aj h1]
 ·by_cases h2:c=b
  ·rw[aj h2,ah h1,aj h2]
  ·rw[ah h2,ah h1,ah h1,ah h2]
theorem p0(h:aE K H r xs)(e:H p=some (.ins C dx fs)):aE K (upd H p o) r xs:=by
 rcases h with(h|⟨q,h⟩)|h
 ·exact .inl (.inl (aT e h nofun))
 ·exact .inl (.inr ⟨q,aT e h nofun⟩)
 ·exact .inr h
def gw(f tl sr ds dp ar tu ca ot:Nat):aw:={num:=f,tail:=tl,src:=sr,dst:=ds,dep:=dp,arr:=ar,turn:=tu,cap:=ca,others:=ot,wait:=0,air:=0,feeds:=[],cancelled:=false,left:=none}
abbrev K1:aV:=inClass (top 1) 0
theorem agf:bu ["self","row"] ["self","row"] (bb K1):=bC
inductive UW(A:Ad)(K:aG)(vs:List V)(H:Hp)(Q:VK)(E:XK):Prop|mk p dx r (f tl sr ds dp ar tu ca ot:Nat) (z:vs=[.ref p,.ref r]) (z:H p=some (.ins A.CF dx [])) (z:aE K H r ([(f:Int),(tl:Int),(sr:Int),(ds:Int),(dp:Int),(ar:Int),(tu:Int),(ca:Int),(ot:Int)].map V.int)) (z:∀d,H d=none->Q .non (upd (upd H d (.dK [])) p (.ins A.CF dx (d5 (gw f tl sr ds dp ar tu ca ot) d))))
theorem agg(F:bh K "__init__" "Flight.__init__" K1 f fd)(T:Txt K mg A):aX P w K mg base bc 1 f fd ["self","row"] (UW A K):=by
 refine F.bH agf λH vs Q E hr hu h=>?_;obtain⟨p,dx,r,f,tl,sr,ds,dp,ar,tu,ca,ot,rfl,hp,hR,k⟩:=h
 refine⟨_,(aq (c8 (pv 0) (bz K (pv 1) aJ)) (aq (c8 (pv 0) (bz K (pv 1) aJ))
   (aq (c8 (pv 0) (bz K (pv 1) aJ))
   (aq (c8 (pv 0) (bz K (pv 1) aJ))
   (aq (c8 (pv 0) (bz K (pv 1) aJ))
   (aq (c8 (pv 0) (bz K (pv 1) aJ))
   (aq (c8 (pv 0) (bz K (pv 1) aJ))
   (aq (c8 (pv 0) (bz K (pv 1) aJ))
   (aq (c8 (pv 0) aJ)
   (aq (c8 (pv 0) aJ)
   (aq (c8 (pv 0) ku)
   (aq (c8 (pv 0) ik)
   (az (c8 (pv 0) u_)))))))))))))),?_⟩
 refine⟨_,rfl,_,_,_,_,rfl,rfl,hR,rfl,_,rfl,p,_,dx,_,rfl,hp,T.cF,T.S0,(by show 0<1000;decide),?_⟩;have hR:=p0 (o:=.ins A.CF dx (bO "number" (.int (f:Int)) [])) hR hp;refine⟨_,rfl,_,_,_,_,rfl,rfl,hR,rfl,_,rfl,p,_,dx,_,rfl,ao,T.cF,T.S1,(by show 1<1000;decide),?_⟩;rw[di];have hR:=p0 (o:=.ins A.CF dx (bO "src" (.int (sr:Int)) (bO "number" (.int (f:Int)) []))) hR ao;rw[di]at hR;refine⟨_,rfl,_,_,_,_,rfl,rfl,hR,rfl,_,rfl,p,_,dx,_,rfl,ao,T.cF,T.S2,(by show 2<1000;decide),?_⟩;rw[di];have hR:=p0 (o:=.ins A.CF dx (bO "dst" (.int (ds:Int)) (bO "src" (.int (sr:Int)) (bO "number" (.int (f:Int)) [])))) hR ao;rw[di]at hR;refine⟨_,rfl,_,_,_,_,rfl,rfl,hR,rfl,_,rfl,p,_,dx,_,rfl,ao,T.cF,T.S3,(by show 3<1000;decide),?_⟩;rw[di];have hR:=p0 (o:=.ins A.CF dx (bO "dep" (.int (dp:Int)) (bO "dst" (.int (ds:Int)) (bO "src" (.int (sr:Int)) (bO "number" (.int (f:Int)) []))))) hR ao;rw[di]at hR;refine⟨_,rfl,_,_,_,_,rfl,rfl,hR,rfl,_,rfl,p,_,dx,_,rfl,ao,T.cF,T.S4,(by show 4<1000;decide),?_⟩;rw[di];have hR:=p0 (o:=.ins A.CF dx (bO "arr" (.int (ar:Int)) (bO "dep" (.int (dp:Int)) (bO "dst" (.int (ds:Int)) (bO "src" (.int (sr:Int)) (bO "number" (.int (f:Int)) [])))))) hR ao;rw[di]at hR;refine⟨_,rfl,_,_,_,_,rfl,rfl,hR,rfl,_,rfl,p,_,dx,_,rfl,ao,T.cF,T.S5,(by show 5<1000;decide),?_⟩;rw[di];have hR:=p0 (o:=.ins A.CF dx (bO "turn" (.int (tu:Int)) (bO "arr" (.int (ar:Int)) (bO "dep" (.int (dp:Int)) (bO "dst" (.int (ds:Int)) (bO "src" (.int (sr:Int)) (bO "number" (.int (f:Int)) []))))))) hR ao;rw[di]at hR;refine⟨_,rfl,_,_,_,_,rfl,rfl,hR,rfl,_,rfl,p,_,dx,_,rfl,ao,T.cF,T.S6,(by show 6<1000;decide),?_⟩;rw[di];have hR:=p0 (o:=.ins A.CF dx (bO "cap" (.int (ca:Int)) (bO "turn" (.int (tu:Int)) (bO "arr" (.int (ar:Int)) (bO "dep" (.int (dp:Int)) (bO "dst" (.int (ds:Int)) (bO "src" (.int (sr:Int)) (bO "number" (.int (f:Int)) [])))))))) hR ao;rw[di]at hR;refine⟨_,rfl,_,_,_,_,rfl,rfl,hR,rfl,_,rfl,p,_,dx,_,rfl,ao,T.cF,T.S7,(by show 7<1000;decide),?_⟩;rw[di];refine⟨_,rfl,p,_,dx,_,rfl,ao,T.cF,T.IJ,(by show 8<1000;decide),?_⟩;rw[di];refine⟨_,rfl,p,_,dx,_,rfl,ao,T.cF,T.IK,(by show 9<1000;decide),?_⟩;rw[di];intro d nd;have zi:p≠d:=λz=>by rw[<-z,ao]at nd;cases nd
 have DF:H d=none:=by rw[ak zi.symm]at nd;exact nd
 refine⟨_,rfl,p,_,dx,_,rfl,by rw[ak zi,ao],T.cF,T.S8,(by show 10<1000;decide),_,rfl,p,_,dx,_,rfl,ao,T.cF,T.IL,(by show 11<1000;decide),_,rfl,p,_,dx,_,rfl,ao,T.cF,T.IM,(by show 12<1000;decide),?_⟩;rw[di,di,ow zi,di];exact k d DF
abbrev K2:aV:=top 37
theorem agh:bu ["house","flight"] ["house","flight"] (bb K2):=bC
def zH(now:Nat)(f:aw):Bool:= !(decide (f.src=f.dst)||decide (f.arr<=f.dep))&&(decide (f.others<=f.cap)&&decide (now<f.dep))
inductive UX(A:Ad)(vs:List V)(H:Hp)(Q:VK)(E:XK):Prop|mk h now df dt dp ls a f d (z:vs=[.ref h,.ref a]) (z:fq A H h now df dt dp ls) (z:b_ A H a f d) (z:Q (.bl (zH now f)) H)
theorem agi{a b:Nat}:decide ((a:Int)<=b)=decide (a<=b):=by
 by_cases h:a<=b
 ·rw[dX h,dX (by lia)]
 ·rw[c9 h,c9 (by lia)]
theorem dec_lt{a b:Nat}:decide ((a:Int)<b)=decide (a<b):=by
 by_cases h:a<b
 ·rw[dX h,dX (by lia)]
 ·rw[c9 h,c9 (by lia)]
theorem agj(F:bh K "plan_fits" "plan_fits" K2 f fd)(T:Txt K mg A):aX P w K mg base bc 1 f fd ["house","flight"] (UX A):=by
 refine F.bH agh λH vs Q E hr hu h=>?_;obtain⟨h,now,df,dt,dp,ls,a,f,d,rfl,hH,hF,k⟩:=h
 refine⟨_,(aq (bo (PW.pt (jj (dS mB (au K (pv 1)) (au K (pv 1))) (ji (dS jK (au K (pv 1)) (au K (pv 1)))))) (az (aK ik)) bt) (az (aK (qH (n8 jK (au K (pv 1)) (au K (pv 1))) (nS (n8 BK (au K (pv 1)) (au K (pv 0)))))))),?_⟩
 unfold zH at k;refine⟨_,rfl,qX T hF ⟨_,rfl,vG T hF ?_⟩⟩;refine⟨rfl,_,rfl,dO (λh1=>?_) λh1=>?_⟩
 ·have h1:f.src=f.dst:=by have:=V.int.inj h1;lia
  rw[dX h1]at k;exact aY k
 ·have h1:¬f.src=f.dst:=λz=>h1 (by rw[z])
  rw[c9 h1]at k;refine⟨_,rfl,tJ T hF ⟨_,rfl,qY T hF ?_⟩⟩;refine⟨_,_,rfl,rfl,_,rfl,dO (λh2=>?_) λh2=>?_⟩
  ·have h2:f.arr<=f.dep:=by have h2:(f.arr:Int)<=f.dep:=h2;lia
   rw[dX h2]at k;exact k
  ·have h2:¬f.arr<=f.dep:=by have h2:¬(f.arr:Int)<=f.dep:=h2;lia
   rw[c9 h2]at k;refine⟨_,rfl,Tu T hF ⟨_,rfl,Tt T hF ⟨_,_,rfl,rfl,?_⟩⟩⟩;refine⟨_,rfl,dO (λh3=>?_) λh3=>?_⟩
   ·have h3:f.others<=f.cap:=by have h3:(f.others:Int)<=f.cap:=h3;lia
    rw[dX h3]at k;refine⟨_,rfl,qY T hF ⟨_,rfl,n_ T hH ⟨_,_,rfl,rfl,?_⟩⟩⟩;show Q (V.bl (decide ((now:Int)<f.dep))) H;rw[dec_lt];exact k
   ·have h3:¬f.others<=f.cap:=by have h3:¬(f.others:Int)<=f.cap:=h3;lia
    rw[c9 h3]at k;exact k
abbrev K3:aV:=top 36
theorem UY:bu ["house","flight","tail","flown"] ["house","flight","tail"] (bb K3):=bC
def m4(l:List aw)(t:Nat)(f:aw):Bool:=match((aN l).filter λg=>g.tail==t).getLast? with|none=>true|some g=>g.dst==f.src&&decide (g.arr+g.turn<=f.dep)
theorem agk{α:Type}{l:List α}{v:α}(h:l.getLast? =some v):nV l (-1)=some v:=by
 have hl:l≠[]:=λz=>by rw[z]at h;cases h
 have agl:0<l.length:=List.length_pos_iff.mpr hl;have e:qN l.length (-1)=some (l.length-1):=by unfold qN;rw[ah (by lia),aj (by lia)];congr 1;lia
 unfold nV;rw[e];show l[l.length-1]? =some v;rw[<-List.getLast?_eq_getElem?];exact h
inductive UZ(A:Ad)(vs:List V)(H:Hp)(Q:VK)(E:XK):Prop|mk h now df dt dp ls fa fe l a f d (t:Nat) (z:vs=[.ref h,.ref a,.int t]) (z:fq A H h now df dt dp ls) (z:vU A H df dt fa fe l) (z:kM l) (z:b_ A H a f d) (z:∀H',aC H H'->Q (.bl (m4 l t f)) H')
theorem agm(F:bh K "aircraft_can_come" "aircraft_can_come" K3 f fd)(T:Txt K mg A)(vX:Glob P w K mg base "flown_by" 1 ["flying","tails","tail"] (JO A K))(iw:dm P w K mg base A.CH "flying" 4 ["self"] (tQ A)):aX P w K mg base bc 5 f fd ["house","flight","tail"] (UZ A):=by
 refine F.bH UY λH vs Q E hr hu h=>?_
 obtain⟨h,now,df,dt,dp,ls,fa,fe,l,a,f,d,t,rfl,hH,hF,hG,hO,k⟩:=h
 obtain⟨dx,hx⟩:=id hH
 refine⟨_,(aq (bf 3 UY.nd (bK vX hr (aM (fk (pv 0) T.cH iw hr) (aM (au K (pv 0)) (ax (pv 2)))))) (aq (bo (dS mB (iJ K T.len (pv 3)) aJ) (az (aK ik)) bt)
   (az (aK (qH (n8 mB (au K (bz K (pv 3) (GS GU aJ))) (au K (pv 1))) (nS (n8 jK (fg iC (au K (bz K (pv 3) (GS GU aJ))) (au K (bz K (pv 3) (GS GU aJ)))) (au K (pv 1))))))))),?_⟩
 refine⟨_,rfl,h,dx,_,rfl,hx,rfl,h,now,df,dt,dp,ls,fa,fe,l,rfl,hH,hF.fl,hF.bB,hG.nd,aZ hG.len (by decide),λH1 p s1 np hp=>?_⟩
 refine⟨_,rfl,?_⟩
 apply lN T (hH.same s1)
 refine⟨_,rfl,?_⟩
 refine⟨p,dt,_,fa,fe,aN l,t,rfl,aE.of hp,(hF.bB.same s1).sub cq,.inl (s1 _ _ hF.tl),(rp hG.nd).sub cq,aZ (g9 l) (aZ hG.len (by decide)),λH2 q s2 nq hq=>?_⟩
 have gJ:=s1.trans s2
 refine⟨_,rfl,q,_,rfl,.inl (aE.of hq),rfl,_,rfl,dO (λh1=>?_) λh1=>?_⟩
 ·have h1:=V.int.inj h1
  have h2:((aN l).filter λg=>g.tail==t)=[]:=by
   rw[aD]at h1
   exact uJ.mp (by lia)
  have h3:m4 l t f=true:=by unfold m4;rw[h2];rfl
  rw[<-h3]
  exact k H2 gJ
 ·have cD:((aN l).filter λg=>g.tail==t)≠[]:=λz=>h1 (by rw[z];rfl)
  obtain⟨g,hg⟩:∃g,((aN l).filter λg=>g.tail==t).getLast? =some g:=nA.mp (by rw[List.getLast?_isSome];exact cD)
  have j0:g∈l:=cq g (ck.mp (Ff hg)).1
  have fM:=(hF.bB g j0).same gJ
  have zu:=hO.same gJ
  have nX:nV (((aN l).filter λg=>g.tail==t).map λf=>V.ref (fa f.num)) (-1)=some (V.ref (fa g.num)):=agk (by rw[List.getLast?_map,hg];rfl)
  have ec:m4 l t f=(g.dst==f.src&&decide (g.arr+g.turn<=f.dep)):=by unfold m4;rw[hg]
  refine⟨_,rfl,_,rfl,q,_,_,_,rfl,rfl,aE.of hq,nX,?_⟩
  apply vG T fM
  refine⟨_,rfl,?_⟩
  apply qX T zu
  refine⟨rfl,_,rfl,dO (λh2=>?_) λh2=>?_⟩
  ·have h2:g.dst=f.src:=by have:=V.int.inj h2;lia
   refine⟨_,rfl,_,rfl,q,_,_,_,rfl,rfl,aE.of hq,nX,?_⟩
   apply tJ T fM
   refine⟨_,rfl,_,rfl,q,_,_,_,rfl,rfl,aE.of hq,nX,?_⟩
   apply Ts T fM
   refine⟨_,_,rfl,rfl,?_⟩
   refine⟨_,rfl,?_⟩
   apply qY T zu
   refine⟨_,_,rfl,rfl,?_⟩
   have e:decide (((g.arr:Int)+g.turn)<=f.dep)=m4 l t f:=by
    rw[ec,show(g.dst==f.src)=true by simp[h2],Oc]
    exact agi (a:=g.arr+g.turn) (b:=f.dep)
   show Q (V.bl (decide (((g.arr:Int)+g.turn)<=f.dep))) H2
   rw[e]
   exact k H2 gJ
  ·have h2:¬g.dst=f.src:=λz=>h2 (by rw[z])
   have e:m4 l t f=false:=by rw[ec,show(g.dst==f.src)=false by simp[h2]];rfl
   have:=k H2 gJ
   rw[e]at this
   exact this
theorem agn(h:aE K H r xs)(e:H p=some (.dK kvs)):aE K (upd H p o) r xs:=by
 rcases h with(h|⟨q,h⟩)|h
 ·exact .inl (.inl (aT e h nofun))
 ·exact .inl (.inr ⟨q,aT e h nofun⟩)
 ·exact .inr h
def Lay.rL(L:Lay)(n:Nat)(x d:af):Lay:={L with fa:=λm=>if m=n then x else L.fa m,D:=λk=>if k=.fe n then d else L.D k}
def Lay.kQ(L:Lay)(n:Nat)(x d:af):Lay:={L with pa:=λm=>if m=n then x else L.pa m,D:=λk=>if k=.un n then d else L.D k}
section
variable{A:Ad}{H0 H:Hp}{L:Lay}{s:State}
theorem p4(h0:b0 A H0 L s)(nd:H0 d=none)(hk:d7 s k):L.D k≠d:=λz=>by obtain⟨u,hu⟩:=h0.there (mY (L:=L) hk);rw[z,nd]at hu;cases hu
theorem After.rL(h0:b0 A H0 L s)(g:Gr A H0 H)(iI:∀q,q∈s.pax->q.on=0∨q.on∈s.flights.map λf=>f.num){x d:af}{f:aw}(hN:f.num∉s.flights.map λf=>f.num)(hx:b_ A H x f d)(hd:H d=some (.dK []))(nx:H0 x=none)(nd:H0 d=none)(kN:f.feeds=[]):After A H0 (L2.upd (L2.upd H (L.D .df) (.dK (cA L.fa s.flights++[(ay (f.num:Int),.ref x)]))) (L.D .dt) (.dK (dI s.flights++[(ay (f.num:Int),.int (f.tail:Nat))]))) L (L.rL f.num x d) s {s with flights:=s.flights++[f]}:=by
 have h:=h0.gr g;have DG:L.D .df≠L.D .dt:=h.gP bJ bJ nofun;have zI:∀y,y∈s.flights->y.num≠f.num:=λy hy e=>hN (aB.mpr ⟨y,hy,e⟩);have p6:∀y,y∈s.flights->(L.rL f.num x d).fa y.num=L.fa y.num:=λy hy=>ah (zI y hy);have zJ:∀y,y∈s.flights->(L.rL f.num x d).fe y.num=L.fe y.num:=λy hy=>ah (by intro z;injection z with z;exact zI y hy z);have eD:∀k,(∀n,k≠.fe n)->(L.rL f.num x d).D k=L.D k:=λk hk=>ah (hk _)
 have kp:∀b u,H b=some u->b≠L.D .df->b≠L.D .dt->(L2.upd (L2.upd H (L.D .df) (.dK (cA L.fa s.flights++[(ay (f.num:Int),.ref x)]))) (L.D .dt) (.dK (dI s.flights++[(ay (f.num:Int),.int (f.tail:Nat))]))) b=some u:=λb u e n1 n2=>by rw[ak n2,ak n1];exact e
 have kk:∀b u,H b=some u->(∀kvs,u≠.dK kvs)->(L2.upd (L2.upd H (L.D .df) (.dK (cA L.fa s.flights++[(ay (f.num:Int),.ref x)]))) (L.D .dt) (.dK (dI s.flights++[(ay (f.num:Int),.int (f.tail:Nat))]))) b=some u:=λb u e n=>kp b u e (cZ e h.fl.fl (n _)) (cZ e h.fl.tl (n _));have e1:(L2.upd (L2.upd H (L.D .df) (.dK (cA L.fa s.flights++[(ay (f.num:Int),.ref x)]))) (L.D .dt) (.dK (dI s.flights++[(ay (f.num:Int),.int (f.tail:Nat))]))) (L.D .df)=some (.dK (cA L.fa s.flights++[(ay (f.num:Int),.ref x)])):=by rw[ak DG,ao]
 have e2:(L2.upd (L2.upd H (L.D .df) (.dK (cA L.fa s.flights++[(ay (f.num:Int),.ref x)]))) (L.D .dt) (.dK (dI s.flights++[(ay (f.num:Int),.int (f.tail:Nat))]))) (L.D .dt)=some (.dK (dI s.flights++[(ay (f.num:Int),.int (f.tail:Nat))])):=ao;have fr:∀b u,H0 b=some u->(∀ps,u≠.c_ ps)->¬Own L s b->(L2.upd (L2.upd H (L.D .df) (.dK (cA L.fa s.flights++[(ay (f.num:Int),.ref x)]))) (L.D .dt) (.dK (dI s.flights++[(ay (f.num:Int),.int (f.tail:Nat))]))) b=some u:=λb u e n no=>kp b u (g.same b u e n) (λz=>no (by rw[z];exact mY (d:=.df) bJ)) (λz=>no (by rw[z];exact mY (d:=.dt) bJ));have tb:dW A H0->dW A (L2.upd (L2.upd H (L.D .df) (.dK (cA L.fa s.flights++[(ay (f.num:Int),.ref x)]))) (L.D .dt) (.dK (dI s.flights++[(ay (f.num:Int),.int (f.tail:Nat))]))):=λt=>(((g.tabs t).upd h.fl.fl nofun nofun).upd (o:=.dK (dI s.flights)) (by rw[ak DG.symm];exact h.fl.tl) nofun nofun)
 have fe:∀b,(L2.upd (L2.upd H (L.D .df) (.dK (cA L.fa s.flights++[(ay (f.num:Int),.ref x)]))) (L.D .dt) (.dK (dI s.flights++[(ay (f.num:Int),.int (f.tail:Nat))]))) b=none->H0 b=none:=λb z=>by
  by_cases h1:b=L.D .dt
  ·rw[h1,e2]at z;cases z
  ·rw[ak h1]at z
   by_cases h2:b=L.D .df
   ·rw[h2,ao]at z;cases z
   ·rw[ak h2]at z;exact g.free b z
 have kd:(L2.upd (L2.upd H (L.D .df) (.dK (cA L.fa s.flights++[(ay (f.num:Int),.ref x)]))) (L.D .dt) (.dK (dI s.flights++[(ay (f.num:Int),.int (f.tail:Nat))]))) d=some (.dK []):=kp d _ hd (p4 h0 nd (k:=.df) bJ).symm (p4 h0 nd (k:=.dt) bJ).symm;have kD:∀k,d7 s k->k≠.df->k≠.dt->∀u,H (L.D k)=some u->(L2.upd (L2.upd H (L.D .df) (.dK (cA L.fa s.flights++[(ay (f.num:Int),.ref x)]))) (L.D .dt) (.dK (dI s.flights++[(ay (f.num:Int),.int (f.tail:Nat))]))) (L.D k)=some u:=λk hk n1 n2 u e=>kp _ u e (h.gP hk bJ n1) (h.gP hk bJ n2);generalize L2.upd (L2.upd H (L.D .df) (.dK (cA L.fa s.flights++[(ay (f.num:Int),.ref x)]))) (L.D .dt) (.dK (dI s.flights++[(ay (f.num:Int),.int (f.tail:Nat))]))=H2 at kp kk e1 e2 fr tb fe kd kD;have lv:∀k,d7 {s with flights:=s.flights++[f]} k->k=.fe f.num∨d7 s k:=λk hk=>by cases k with
  |fe n=>
   have hk:n∈(s.flights++[f]).map λf=>f.num:=hk;rw[bS,cu]at hk;rcases hk with hk|hk
   ·exact .inr hk
   ·rw[cj.mp hk];exact .inl rfl|un n=>exact .inr hk|df=>exact .inr hk|dt=>exact .inr hk|dp=>exact .inr hk
 have lD:∀k,d7 s k->k≠.fe f.num->(L.rL f.num x d).D k=L.D k:=λk _ n=>ah n;have K4:∀k,d7 s k->k≠.fe f.num:=λk hk z=>by rw[z]at hk;exact hN hk
 refine⟨⟨?_,⟨?_,?_,λy hy=>?_,λy hy=>?_⟩,⟨?_,λq hq=>?_,λq hq=>?_⟩,?_,λa b ha hb e=>?_⟩,rfl,fr,λb hb=>?_,tb,fe⟩
 ·obtain⟨dy,z⟩:=h.ho
  exact⟨dy,kk _ _ z (by intro kvs y;cases y)⟩
 ·show H2 (L.D .df)=some (.dK (cA _ (s.flights++[f])))
  rw[e1];unfold cA;rw[bS];congr 2;congr 1
  ·refine dE λy hy=>?_
   rw[p6 y hy]
  ·show[((ay (f.num:Int):Key),V.ref x)]=[((ay (f.num:Int):Key),V.ref (if f.num=f.num then x else L.fa f.num))]
   rw[aj rfl]
 ·show H2 (L.D .dt)=some (.dK (dI (s.flights++[f])))
  rw[e2];unfold dI;rw[bS];rfl
 ·have hy:y∈s.flights++[f]:=hy
  rcases cu.mp hy with hy|hy
  ·rw[p6 y hy,zJ y hy]
   obtain⟨dy,z⟩:=h.fl.bB y hy;exact⟨dy,kk _ _ z (by intro kvs y;cases y)⟩
  ·rw[cj.mp hy]
   show b_ A H2 (if f.num=f.num then x else L.fa f.num) f (if DS.fe f.num=DS.fe f.num then d else L.D (.fe f.num));rw[aj rfl,aj rfl];obtain⟨dy,z⟩:=hx;exact⟨dy,kk _ _ z (by intro kvs y;cases y)⟩
 ·have hy:y∈s.flights++[f]:=hy
  rcases cu.mp hy with hy|hy
  ·rw[zJ y hy]
   obtain⟨kf,z1,z2⟩:=h.fl.feeds y hy;exact⟨kf,kD (.fe y.num) (wb hy) nofun nofun _ z1,z2.keep λt zs z=>kk _ _ z (by intro kvs y;cases y)⟩
  ·rw[cj.mp hy]
   show∃kf,H2 (if DS.fe f.num=DS.fe f.num then d else L.D (.fe f.num))=some (.dK kf)/\i9 H2 kf f.feeds;rw[aj rfl,kN];exact⟨[],kd,rfl,λi x h=>by simp at h⟩
 ·exact kD .dp bJ nofun nofun _ h.px.pd
 ·obtain⟨dy,z⟩:=h.px.px q hq
  have e3:d8 (L.rL f.num x d).fa q.on=d8 L.fa q.on:=by
   unfold d8;rcases iI q hq with h1|h1
   ·rw[aj h1,aj h1]
   ·by_cases h2:q.on=0
    ·rw[aj h2,aj h2]
    ·rw[ah h2,ah h2]
     show V.ref (if q.on=f.num then x else L.fa q.on)=_;rw[ah λz=>hN (by rw[<-z];exact h1)]
  rw[e3];exact⟨dy,kk _ _ z (by intro kvs y;cases y)⟩
 ·exact kD (.un q.x) (tZ hq) nofun nofun _ (h.px.un q hq)
 ·obtain⟨vs,z1,z2⟩:=h.st
  exact⟨vs,kk _ _ z1 (by intro kvs y;cases y),z2.keep λt zs z=>kk _ _ z (by intro kvs y;cases y)⟩
 ·have e:(if a=DS.fe f.num then d else L.D a)=(if b=DS.fe f.num then d else L.D b):=e
  by_cases h1:a=DS.fe f.num
  ·by_cases h2:b=DS.fe f.num
   ·rw[h1,h2]
   ·rw[aj h1,ah h2]at e
    exact absurd e.symm (p4 h0 nd ((lv b hb).resolve_left h2))
  ·by_cases h2:b=DS.fe f.num
   ·rw[ah h1,aj h2]at e
    exact absurd e (p4 h0 nd ((lv a ha).resolve_left h1))
   ·rw[ah h1,ah h2]at e
    exact h.inj a b ((lv a ha).resolve_left h1) ((lv b hb).resolve_left h2) e
 ·rcases hb with hb|hb|⟨k,hk,hb⟩|⟨n,hn,hb⟩|hb
  ·exact .inl (.inl hb)
  ·exact .inl (.inr (.inl hb))
  ·rcases lv k hk with rfl|hk
   ·have:b=d:=by rw[hb];exact aj rfl
    exact .inr (by rw[this];exact nd)
   ·have:b=L.D k:=by rw[hb];exact ah (K4 k hk)
    rw[this];exact .inl (mY hk)
  ·have hn:n∈(s.flights++[f]).map λf=>f.num:=hn
   rw[bS,cu]at hn;rcases hn with hn|hn
   ·obtain⟨y,hy,rfl⟩:=aB.mp hn
    rw[hb,p6 y hy];exact .inl (Uk hy)
   ·have hn:=cj.mp hn
    have:b=x:=by rw[hb,hn];exact aj rfl
    exact .inr (by rw[this];exact nx)
  ·exact .inl (.inr (.inr (.inr (.inr hb))))
end
theorem ago(s:State)(f:aw):follows s f=m4 s.flights f.tail f:=by unfold follows lastOf m4;cases((aN s.flights).filter λg=>g.tail==f.tail).getLast? <;>rfl
theorem agp{fa:Nat->af}{n:Nat}(h:n∉l.map λf=>f.num):putK (cA fa l) (ay (n:Int)) (V.ref x)=cA fa l++[(ay (n:Int),V.ref x)]:=by rw[qO];rw[eZ];cases e:eM l n with|none=>rfl|some f=>exact absurd (aB.mpr ⟨f,(gu e).1,(gu e).2⟩) h
theorem agq{n:Nat}(h:n∉l.map λf=>f.num):putK (dI l) (ay (n:Int)) x=dI l++[(ay (n:Int),x)]:=by rw[qO];unfold dI;rw[pN (k:=λf:aw=>f.num) (g:=λf:aw=>V.int (f.tail:Nat)) n l];cases e:eM l n with|none=>rw[show(l.find? λx=>x.num==n)=none from e];rfl|some f=>exact absurd (aB.mpr ⟨f,(gu e).1,(gu e).2⟩) h
abbrev K5:aV:=top 38
theorem U0:bu ["house","row","flight"] ["house","row"] (bb K5):=bC
theorem agr(F:bh K "make_flight" "make_flight" K5 f fd)(T:Txt K mg A)(K6:pF P w K mg base A.CF "Flight" 1 ["self","row"] (UW A K))(K7:Glob P w K mg base "plan_fits" 1 ["house","flight"] (UX A))(K8:Glob P w K mg base "aircraft_can_come" 5 ["house","flight","tail"] (UZ A)):aX P w K mg base bc 6 f fd ["house","row"] (fN A K λns c=>∃f tl sr ds dp ar tu ca ot:Nat,ns=[(f:Int),(tl:Int),(sr:Int),(ds:Int),(dp:Int),(ar:Int),(tu:Int),(ca:Int),(ot:Int)]/\c=.flight (gw f tl sr ds dp ar tu ca ot)):=by
 refine F.bH U0 λH vs Q E hr hu h=>?_;obtain⟨L,s,r,ns,c,rfl,hH,hG,hB,hR,⟨n,tl,sr,ds,dp,ar,tu,ca,ot,rfl,rfl⟩,k⟩:=h;have enum:(gw n tl sr ds dp ar tu ca ot).num=n:=rfl;have K9:(gw n tl sr ds dp ar tu ca ot).tail=tl:=rfl
 have st:step s (.flight (gw n tl sr ds dp ar tu ca ot))=(if(flight s n).isSome=true then(s,[-5])else if xX<=s.flights.length then(s,[-6])else if(gw n tl sr ds dp ar tu ca ot).src=(gw n tl sr ds dp ar tu ca ot).dst∨(gw n tl sr ds dp ar tu ca ot).arr<=(gw n tl sr ds dp ar tu ca ot).dep∨(gw n tl sr ds dp ar tu ca ot).cap<(gw n tl sr ds dp ar tu ca ot).others∨(gw n tl sr ds dp ar tu ca ot).dep<=s.now∨follows s (gw n tl sr ds dp ar tu ca ot)=false then(s,[-8])
   else({s with flights:=s.flights++[gw n tl sr ds dp ar tu ca ot]},[0])):=rfl
 refine⟨_,(aq (bo (dB (qQ hu (bz K (pv 1) aJ) (au K (pv 0)))) (az (aK (bw (ax (cn (T.yY)))))) bt) (aq (bo (dS ym (lA B4 (by rfl) T.len uR (ax (au K (pv 0)))) (cn (T.IV))) (az (aK (bw (ax (cn (T.vF)))))) bt)
   (aq (bf 2 U0.nd (vE K6 hr (ax (pv 1))))
   (aq (bo (PW.pt (jj (gY (dj (bK K7 hr (aM (pv 0) (ax (pv 2)))))) (ji (gY (dj (bK K8 hr (aM (pv 0) (aM (pv 2) (ax (bz K (pv 1) aJ)))))))))) (az (aK (bw (ax (cn (T.n9)))))) bt)
   (aq (iK hu (au K (pv 0)) (au K (pv 2)) (pv 2))
   (aq (iK hu (au K (pv 0)) (au K (pv 2)) (bz K (pv 1) aJ))
   (az (aK (bw (ax aJ)))))))))),?_⟩
 refine⟨_,rfl,_,_,_,_,rfl,rfl,hR,rfl,_,rfl,ek T hH.ho ⟨_,_,rfl,bq (.inl hH.fl.fl) (eZ _ n),_,rfl,?_⟩⟩;cases hf:eM s.flights n with
 |some g=>refine aY ⟨by decide,λp np=>?_⟩;exact k.ret hH (ans:=[-5]) (by rw[st,aj (by unfold flight;rw[hf];rfl)]) .refl p np|none=>
  rw[ah (by unfold flight;rw[hf];decide)]at st;have K_:n∉s.flights.map λf=>f.num:=λz=>by obtain⟨g,hg,e⟩:=aB.mp z;have:=jV hG.fl.nd hg;rw[e,hf]at this;cases this
  refine bp ?_;refine⟨_,rfl,ek T hH.ho ?_⟩;have hl:(cA L.fa s.flights).length=s.flights.length:=by unfold cA;rw[aD]
  refine⟨_,_,rfl,hH.fl.fl,_,_,rfl,rfl,_,rfl,dO (λh2=>?_) λh2=>?_⟩
  ·have h2:(24:Int)<=((cA L.fa s.flights).length:Nat):=h2
   refine⟨by decide,λp np=>?_⟩;exact k.ret hH (ans:=[-6]) (by rw[st,aj (show xX<=s.flights.length by show 24<=s.flights.length;lia)]) .refl p np
  ·have h2:¬(24:Int)<=((cA L.fa s.flights).length:Nat):=h2
   rw[ah (show¬xX<=s.flights.length by show¬24<=s.flights.length;lia)]at st;refine⟨_,rfl,?_⟩;intro x dx nx vP TF;have sm:aC H (upd (upd H dx (.own x)) x (.ins A.CF dx [])):=λb o e=>by rw[ak (ba e nx),ak (ba e vP)];exact e
   refine⟨x,dx,r,n,tl,sr,ds,dp,ar,tu,ca,ot,rfl,ao,sm.seq hR,λd nd=>⟨rfl,?_⟩⟩;have DF:H d=none:=sm.free nd;have ags:d≠x:=λz=>by rw[z,ao]at nd;cases nd
   have s1:aC H (upd (upd (upd (upd H dx (.own x)) x (.ins A.CF dx [])) d (.dK [])) x (.ins A.CF dx (d5 (gw n tl sr ds dp ar tu ca ot) d))):=(sm.bW DF).bW nx;have zK:b_ A (upd (upd (upd (upd H dx (.own x)) x (.ins A.CF dx [])) d (.dK [])) x (.ins A.CF dx (d5 (gw n tl sr ds dp ar tu ca ot) d))) x (gw n tl sr ds dp ar tu ca ot) d:=⟨dx,ao⟩;have zC:(upd (upd (upd (upd H dx (.own x)) x (.ins A.CF dx [])) d (.dK [])) x (.ins A.CF dx (d5 (gw n tl sr ds dp ar tu ca ot) d))) d=some (.dK []):=by rw[ak ags,ao]
   generalize upd (upd (upd (upd H dx (.own x)) x (.ins A.CF dx [])) d (.dK [])) x (.ins A.CF dx (d5 (gw n tl sr ds dp ar tu ca ot) d))=H1 at s1 zK zC;have bP:=hH.same s1;have jY:=s1.seq hR;generalize bA:gw n tl sr ds dp ar tu ca ot=f at zK st enum K9 k;have kN:f.feeds=[]:=by rw[<-bA];rfl
   refine⟨_,rfl,_,rfl,L.h,s.now,_,_,_,_,x,f,d,rfl,bP.ho,zK,_,rfl,?_⟩;cases hp:zH s.now f with
   |false=>
    refine aY (aY ⟨by decide,λp np=>?_⟩);refine k.ret hH (ans:=[-8]) ?_ (.of s1) p np;rw[st,aj];unfold zH at hp;by_cases e1:f.src=f.dst
    ·exact .inl e1
    ·by_cases e2:f.arr<=f.dep
     ·exact .inr (.inl e2)
     ·by_cases e3:f.others<=f.cap
      ·rw[c9 e1,c9 e2,dX e3]at hp
       have:¬s.now<f.dep:=N4 hp;exact .inr (.inr (.inr (.inl (by lia))))
      ·exact .inr (.inr (.inl (by lia)))|true=>
    have d_:¬f.src=f.dst/\¬f.arr<=f.dep/\¬f.cap<f.others/\¬f.dep<=s.now:=by unfold zH at hp;simp at hp;lia
    refine bp ?_;refine⟨_,rfl,_,rfl,_,rfl,_,_,_,_,rfl,rfl,jY,rfl,L.h,s.now,_,_,_,_,L.fa,L.fe,s.flights,x,f,d,tl,rfl,bP.ho,bP.fl,hG.fl,zK,λH2 s2=>?_⟩;have gJ:=s1.trans s2;have U1:follows s f=m4 s.flights tl f:=by rw[ago,K9]
    refine⟨_,rfl,?_⟩;cases hc:m4 s.flights tl f with
    |false=>refine aY ⟨by decide,λp np=>?_⟩;exact k.ret hH (ans:=[-8]) (by rw[st,aj (.inr (.inr (.inr (.inr (U1.trans hc)))))]) (.of gJ) p np|true=>
     refine bp ?_;have dP:=hH.same gJ;have La:=zK.same s2;have Lb:=gJ.seq hR;have a1:=After.rL hH (.of gJ) (λq hq=>((hG.px q hq).on).imp (λz=>z.1) λ⟨g,hg,e,_⟩=>aB.mpr ⟨g,hg,e⟩) (by rw[enum];exact K_) La (s2 _ _ zC) nx DF kN;rw[enum,K9]at a1;refine⟨_,rfl,_,rfl,ek T dP.ho ⟨_,rfl,dn T La ?_⟩⟩;rw[enum];refine⟨_,_,rfl,iL dP.fl.fl (by rw[hl];exact k7 hG.fl.len (by decide)),?_⟩;rw[agp K_];have DG:L.D .df≠L.D .dt:=dP.gP bJ bJ nofun;have hho:fq A (upd H2 (L.D .df) (.dK (cA L.fa s.flights++[(ay (n:Int),V.ref x)]))) L.h s.now (L.D .df) (L.D .dt) (L.D .dp) L.ls:=let⟨dy,e⟩:=dP.ho;⟨dy,aT dP.fl.fl e nofun⟩
     have agt:b_ A (upd H2 (L.D .df) (.dK (cA L.fa s.flights++[(ay (n:Int),V.ref x)]))) x f d:=let⟨dy,e⟩:=La;⟨dy,aT dP.fl.fl e nofun⟩
     have hR3:=agn (o:=.dK (cA L.fa s.flights++[(ay (n:Int),V.ref x)])) Lb dP.fl.fl;have zL:(upd H2 (L.D .df) (.dK (cA L.fa s.flights++[(ay (n:Int),V.ref x)]))) (L.D .dt)=some (.dK (dI s.flights)):=by rw[ak DG.symm];exact dP.fl.tl
     refine⟨_,rfl,_,_,_,_,rfl,rfl,hR3,rfl,_,rfl,lN T hho ⟨_,rfl,dn T agt ?_⟩⟩;rw[enum];refine⟨_,_,rfl,iL zL (by unfold dI;rw[aD];exact k7 hG.fl.len (by decide)),?_⟩;rw[agq K_];refine⟨by decide,λp np=>?_⟩;refine k.fin (ans:=[0]) ?_ (a1.gr (.of (bL np))) (a1.free p np) ao;rw[st,ah (by rw[U1,hc];simp;lia)]
def kR(x rank:Nat)(f:aw)(n ready latest:Nat):bj:={x:=x,rank:=rank,due:=f.arr,src:=f.src,dst:=f.dst,ready:=ready,latest:=latest,refuses:=[],on:=n,flown:=false}
section
variable{A:Ad}{H0 H:Hp}{L:Lay}{s:State}
theorem After.kQ(h0:b0 A H0 L s)(g:Gr A H0 H)(hN:q.x∉s.pax.map λq=>q.x)(hx:dH A H p q u (d8 L.fa q.on))(hd:H u=some (.dK []))(nx:H0 p=none)(nd:H0 u=none)(kN:q.refuses=[]):After A H0 (L2.upd H (L.D .dp) (.dK (bT L.pa s.pax++[(ay (q.x:Int),.ref p)]))) L (L.kQ q.x p u) s {s with pax:=s.pax++[q]}:=by
 have h:=h0.gr g;have zI:∀y,y∈s.pax->y.x≠q.x:=λy hy e=>hN (aB.mpr ⟨y,hy,e⟩);have p6:∀y,y∈s.pax->(L.kQ q.x p u).pa y.x=L.pa y.x:=λy hy=>ah (zI y hy);have zJ:∀y,y∈s.pax->(L.kQ q.x p u).un y.x=L.un y.x:=λy hy=>ah (by intro z;injection z with z;exact zI y hy z);have g8:∀n,(L.kQ q.x p u).fe n=L.fe n:=λn=>by show(if DS.fe n=DS.un q.x then u else L.D (.fe n))=L.D (.fe n);rw[ah nofun]
 have kp:∀b o,H b=some o->b≠L.D .dp->(L2.upd H (L.D .dp) (.dK (bT L.pa s.pax++[(ay (q.x:Int),.ref p)]))) b=some o:=λb o e n=>by rw[ak n];exact e
 have kk:∀b o,H b=some o->(∀kvs,o≠.dK kvs)->(L2.upd H (L.D .dp) (.dK (bT L.pa s.pax++[(ay (q.x:Int),.ref p)]))) b=some o:=λb o e n=>kp b o e (cZ e h.px.pd (n _));have e1:(L2.upd H (L.D .dp) (.dK (bT L.pa s.pax++[(ay (q.x:Int),.ref p)]))) (L.D .dp)=some (.dK (bT L.pa s.pax++[(ay (q.x:Int),.ref p)])):=ao;have fr:∀b o,H0 b=some o->(∀ps,o≠.c_ ps)->¬Own L s b->(L2.upd H (L.D .dp) (.dK (bT L.pa s.pax++[(ay (q.x:Int),.ref p)]))) b=some o:=λb o e n no=>kp b o (g.same b o e n) (λz=>no (by rw[z];exact mY (d:=.dp) bJ));have tb:dW A H0->dW A (L2.upd H (L.D .dp) (.dK (bT L.pa s.pax++[(ay (q.x:Int),.ref p)]))):=λt=>(g.tabs t).upd h.px.pd nofun nofun;have fe:∀b,(L2.upd H (L.D .dp) (.dK (bT L.pa s.pax++[(ay (q.x:Int),.ref p)]))) b=none->H0 b=none:=λb z=>by
  by_cases h1:b=L.D .dp
  ·rw[h1,e1]at z;cases z
  ·rw[ak h1]at z;exact g.free b z
 have kd:(L2.upd H (L.D .dp) (.dK (bT L.pa s.pax++[(ay (q.x:Int),.ref p)]))) u=some (.dK []):=kp u _ hd (p4 h0 nd (k:=.dp) bJ).symm;have kD:∀k,d7 s k->k≠.dp->∀o,H (L.D k)=some o->(L2.upd H (L.D .dp) (.dK (bT L.pa s.pax++[(ay (q.x:Int),.ref p)]))) (L.D k)=some o:=λk hk n1 o e=>kp _ o e (h.gP hk bJ n1);generalize L2.upd H (L.D .dp) (.dK (bT L.pa s.pax++[(ay (q.x:Int),.ref p)]))=H2 at kp kk e1 fr tb fe kd kD;have lv:∀k,d7 {s with pax:=s.pax++[q]} k->k=.un q.x∨d7 s k:=λk hk=>by cases k with
  |un n=>
   have hk:n∈(s.pax++[q]).map λf=>f.x:=hk;rw[bS,cu]at hk;rcases hk with hk|hk
   ·exact .inr hk
   ·rw[cj.mp hk];exact .inl rfl|fe n=>exact .inr hk|df=>exact .inr hk|dt=>exact .inr hk|dp=>exact .inr hk
 have K4:∀k,d7 s k->k≠.un q.x:=λk hk z=>by rw[z]at hk;exact hN hk
 refine⟨⟨?_,⟨?_,?_,λy hy=>?_,λy hy=>?_⟩,⟨?_,λy hy=>?_,λy hy=>?_⟩,?_,λa b ha hb e=>?_⟩,rfl,fr,λb hb=>?_,tb,fe⟩
 ·obtain⟨dy,z⟩:=h.ho
  exact⟨dy,kk _ _ z (by intro kvs y;cases y)⟩
 ·exact kD .df bJ nofun _ h.fl.fl
 ·exact kD .dt bJ nofun _ h.fl.tl
 ·obtain⟨dy,z⟩:=h.fl.bB y hy
  rw[g8];exact⟨dy,kk _ _ z (by intro kvs y;cases y)⟩
 ·obtain⟨kf,z1,z2⟩:=h.fl.feeds y hy
  rw[g8];exact⟨kf,kD (.fe y.num) (wb hy) nofun _ z1,z2.keep λt zs z=>kk _ _ z (by intro kvs y;cases y)⟩
 ·show H2 (L.D .dp)=some (.dK (bT _ (s.pax++[q])))
  rw[e1];unfold bT;rw[bS];congr 2;congr 1
  ·refine dE λy hy=>?_
   rw[p6 y hy]
  ·show[((ay (q.x:Int):Key),V.ref p)]=[((ay (q.x:Int):Key),V.ref (if q.x=q.x then p else L.pa q.x))]
   rw[aj rfl]
 ·have hy:y∈s.pax++[q]:=hy
  rcases cu.mp hy with hy|hy
  ·rw[p6 y hy,zJ y hy]
   obtain⟨dy,z⟩:=h.px.px y hy;exact⟨dy,kk _ _ z (by intro kvs y;cases y)⟩
  ·rw[cj.mp hy]
   show dH A H2 (if q.x=q.x then p else L.pa q.x) q (if DS.un q.x=DS.un q.x then u else L.D (.un q.x)) (d8 L.fa q.on);rw[aj rfl,aj rfl];obtain⟨dy,z⟩:=hx;exact⟨dy,kk _ _ z (by intro kvs y;cases y)⟩
 ·have hy:y∈s.pax++[q]:=hy
  rcases cu.mp hy with hy|hy
  ·rw[zJ y hy]
   exact kD (.un y.x) (tZ hy) nofun _ (h.px.un y hy)
  ·rw[cj.mp hy]
   show H2 (if DS.un q.x=DS.un q.x then u else L.D (.un q.x))=_;rw[aj rfl,kN];exact kd
 ·obtain⟨vs,z1,z2⟩:=h.st
  exact⟨vs,kk _ _ z1 (by intro kvs y;cases y),z2.keep λt zs z=>kk _ _ z (by intro kvs y;cases y)⟩
 ·have e:(if a=DS.un q.x then u else L.D a)=(if b=DS.un q.x then u else L.D b):=e
  by_cases h1:a=DS.un q.x
  ·by_cases h2:b=DS.un q.x
   ·rw[h1,h2]
   ·rw[aj h1,ah h2]at e
    exact absurd e.symm (p4 h0 nd ((lv b hb).resolve_left h2))
  ·by_cases h2:b=DS.un q.x
   ·rw[ah h1,aj h2]at e
    exact absurd e (p4 h0 nd ((lv a ha).resolve_left h1))
   ·rw[ah h1,ah h2]at e
    exact h.inj a b ((lv a ha).resolve_left h1) ((lv b hb).resolve_left h2) e
 ·rcases hb with hb|hb|⟨k,hk,hb⟩|hb|⟨n,hn,hb⟩
  ·exact .inl (.inl hb)
  ·exact .inl (.inr (.inl hb))
  ·rcases lv k hk with rfl|hk
   ·have:b=u:=by rw[hb];exact aj rfl
    exact .inr (by rw[this];exact nd)
   ·have:b=L.D k:=by rw[hb];exact ah (K4 k hk)
    rw[this];exact .inl (mY hk)
  ·exact .inl (.inr (.inr (.inr (.inl hb))))
  ·have hn:n∈(s.pax++[q]).map λf=>f.x:=hn
   rw[bS,cu]at hn;rcases hn with hn|hn
   ·obtain⟨y,hy,rfl⟩:=aB.mp hn
    rw[hb,p6 y hy];exact .inl (J3 hy)
   ·have hn:=cj.mp hn
    have:b=p:=by rw[hb,hn];exact aj rfl
    exact .inr (by rw[this];exact nx)
end
theorem agu{pa:Nat->af}{s:State}{n:Nat}{x:af}(h:n∉s.pax.map λf=>f.x):putK (bT pa s.pax) (ay (n:Int)) (V.ref x)=bT pa s.pax++[(ay (n:Int),V.ref x)]:=by rw[qO];rw[iy];cases e:eO s n with|none=>rw[show(s.pax.find? λq=>q.x==n)=none from e];rfl|some f=>exact absurd (aB.mpr ⟨f,(jc e).1,(jc e).2⟩) h
abbrev Lc:aV:=inClass (top 12) 0
theorem agv:bu ["self","row","flight"] ["self","row","flight"] (bb Lc):=bC
inductive U2(A:Ad)(K:aG)(vs:List V)(H:Hp)(Q:VK)(E:XK):Prop|mk p dx r a f d (x rank n ready latest:Nat) (z:vs=[.ref p,.ref r,.ref a]) (z:H p=some (.ins A.CP dx [])) (z:aE K H r ([(x:Int),(rank:Int),(n:Int),(ready:Int),(latest:Int)].map V.int)) (z:b_ A H a f d) (z:∀u,H u=none->Q .non (upd (upd H u (.dK [])) p (.ins A.CP dx (eY (kR x rank f n ready latest) u (.ref a)))))
theorem agw(F:bh K "__init__" "Passenger.__init__" Lc f fd)(T:Txt K mg A):aX P w K mg base bc 1 f fd ["self","row","flight"] (U2 A K):=by
 refine F.bH agv λH vs Q E hr hu h=>?_;obtain⟨p,dx,r,a,f,d,x,rank,n,ready,latest,rfl,hp,hR,hF,k⟩:=h;obtain⟨dy,hy⟩:=hF;have Jm:a≠p:=cZ hy hp (by intro z;injection z with _ _ z;cases z);have hF:∀o,b_ A (upd H p o) a f d:=λo=>⟨dy,by rw[ak Jm];exact hy⟩
 have Ld:∀o,aE K (upd H p o) r _:=λo=>p0 (o:=o) hR hp
 refine⟨_,(aq (c8 (pv 0) (bz K (pv 1) aJ)) (aq (c8 (pv 0) (bz K (pv 1) aJ))
   (aq (c8 (pv 0) (au K (pv 2)))
   (aq (c8 (pv 0) (au K (pv 2)))
   (aq (c8 (pv 0) (au K (pv 2)))
   (aq (c8 (pv 0) (bz K (pv 1) aJ))
   (aq (c8 (pv 0) (bz K (pv 1) aJ))
   (aq (c8 (pv 0) ku)
   (az (c8 (pv 0) (pv 2))))))))))),?_⟩
 refine⟨_,rfl,_,_,_,_,rfl,rfl,hR,rfl,_,rfl,p,_,dx,_,rfl,hp,T.cP,T.Ta,(by show 0<1000;decide),_,rfl,_,_,_,_,rfl,rfl,Ld _,rfl,_,rfl,p,_,dx,_,rfl,ao,T.cP,T.Tb,(by show 1<1000;decide),?_⟩;rw[di];refine⟨_,rfl,qX T (hF _) ⟨_,rfl,p,_,dx,_,rfl,ao,T.cP,T.Tc,(by show 2<1000;decide),?_⟩⟩;rw[di];refine⟨_,rfl,vG T (hF _) ⟨_,rfl,p,_,dx,_,rfl,ao,T.cP,T.Td,(by show 3<1000;decide),?_⟩⟩;rw[di];refine⟨_,rfl,tJ T (hF _) ⟨_,rfl,p,_,dx,_,rfl,ao,T.cP,T.Te,(by show 4<1000;decide),?_⟩⟩;rw[di];refine⟨_,rfl,_,_,_,_,rfl,rfl,Ld _,rfl,_,rfl,p,_,dx,_,rfl,ao,T.cP,T.Tf,(by show 5<1000;decide),?_⟩;rw[di];refine⟨_,rfl,_,_,_,_,rfl,rfl,Ld _,rfl,_,rfl,p,_,dx,_,rfl,ao,T.cP,T.Tg,(by show 6<1000;decide),?_⟩;rw[di];intro u nu;have zM:p≠u:=λz=>by rw[<-z,ao]at nu;cases nu
 have nu0:H u=none:=by rw[ak zM.symm]at nu;exact nu
 refine⟨_,rfl,p,_,dx,_,rfl,by rw[ak zM,ao],T.cP,T.Th,(by show 7<1000;decide),_,rfl,_,rfl,p,_,dx,_,rfl,ao,T.cP,T.yX,(by show 8<1000;decide),?_⟩;rw[di,ow zM,di];exact k u nu0
abbrev Le:aV:=top 69
theorem U3:bu ["house","row","flight"] ["house","row"] (bb Le):=bC
theorem agx(F:bh K "book_passenger" "book_passenger" Le f fd)(T:Txt K mg A)(Lf:pF P w K mg base A.CP "Passenger" 1 ["self","row","flight"] (U2 A K))(fu:dm P w K mg base A.CF "is_open" 1 ["self"] (og A))(ou:Glob P w K mg base "room_of" 7 ["house","flight"] (Ds A)):aX P w K mg base bc 8 f fd ["house","row"] (fN A K λns c=>∃x rank n ready latest:Nat,ns=[(x:Int),(rank:Int),(n:Int),(ready:Int),(latest:Int)]/\c=.book x rank n ready latest):=by
 refine F.bH U3 λH vs Q E hr hu h=>?_;obtain⟨L,s,r,ns,c,rfl,hH,hG,hB,hR,⟨x,rank,n,ready,latest,rfl,rfl⟩,k⟩:=h
 refine⟨_,(aq (bo (dB (f9 hu (bz K (pv 1) aJ) (au K (pv 0)))) (az (aK (bw (ax (cn (T.kH)))))) bt) (aq (bf 2 U3.nd (cC hu (au K (pv 0)) (bz K (pv 1) aJ)))
   (aq (bo (gY (dj (fk (pv 2) T.cF fu hr))) (az (aK (bw (ax (cn (T.ir)))))) bt)
   (aq (bo (dB (qQ hu (bz K (pv 1) aJ) (au K (pv 0)))) (az (aK (bw (ax (cn (T.yY)))))) bt)
   (aq (bo (dS ym (lA B4 (by rfl) T.len uR (ax (au K (pv 0)))) (cn (T.IX))) (az (aK (bw (ax (cn (T.vF)))))) bt)
   (aq (bo (dS mB (bK ou hr (aM (pv 0) (ax (pv 2)))) aJ) (az (aK (bw (ax (cn (T.IU)))))) bt)
   (aq (iK hu (au K (pv 0)) (bz K (pv 1) aJ) (vE Lf hr (aM (pv 1) (ax (pv 2)))))
   (az (aK (bw (aM aJ (ax (bK ou hr (aM (pv 0) (ax (pv 2)))))))))))))))),?_⟩
 refine⟨_,rfl,_,_,_,_,rfl,rfl,hR,rfl,_,rfl,ek T hH.ho ⟨_,_,rfl,bq (.inl hH.fl.fl) (eZ _ n),_,rfl,?_⟩⟩;cases hf:eM s.flights n with
 |none=>exact aY ⟨by decide,λp np=>k.ret hH (ans:=[-3]) (by show bQ s n _=_;unfold bQ flight;rw[hf]) .refl p np⟩|some f=>
  obtain⟨hm,en⟩:=gu hf;have hO:=hH.fl.bB f hm;obtain⟨dx,hx⟩:=id hO
  have st:step s (.book x rank n ready latest)=(if bV f=false then(s,[-7])else if(eO s x).isSome=true then(s,[-5])else if Gw<=s.pax.length then(s,[-6])else if room s f=0 then(s,[-9])else({s with pax:=s.pax++[kR x rank f n ready latest]},[0,((room s f-1:Nat):Int)])):=by
   show bQ s n _=_;unfold bQ flight;rw[hf];rfl
  refine bp ⟨_,rfl,ek T hH.ho ⟨_,rfl,_,_,_,_,rfl,rfl,hR,rfl,_,_,rfl,bq (.inl hH.fl.fl) (by rw[eZ,hf];rfl),_,rfl,_,dx,_,rfl,hx,rfl,_,f,_,rfl,hO,_,rfl,?_⟩⟩;cases ho:bV f with
  |false=>exact aY ⟨by decide,λp np=>k.ret hH (ans:=[-7]) (by rw[st,aj ho]) .refl p np⟩|true=>
   have hc:f.cancelled=false/\f.left=none:=by unfold bV at ho;simp at ho;exact ho
   rw[ah (by rw[ho];decide)]at st;refine bp ⟨_,rfl,_,_,_,_,rfl,rfl,hR,rfl,_,rfl,gI T hH.ho ⟨_,_,rfl,bq (.inl hH.px.pd) (iy _ x),_,rfl,?_⟩⟩;cases hp:eO s x with
   |some q=>rw[show(s.pax.find? λq=>q.x==x)=some q from hp];exact aY ⟨by decide,λp np=>k.ret hH (ans:=[-5]) (by rw[st,aj (by rw[hp];rfl)]) .refl p np⟩|none=>
    rw[show(s.pax.find? λq=>q.x==x)=none from hp];rw[ah (by rw[hp];decide)]at st;have yy:x∉s.pax.map λq=>q.x:=λz=>by obtain⟨q,hq,e⟩:=aB.mp z;have:=UD hG.pn hq;rw[e,hp]at this;cases this
    refine bp ⟨_,rfl,gI T hH.ho ?_⟩;have hl:(bT L.pa s.pax).length=s.pax.length:=by unfold bT;rw[aD]
    refine⟨_,_,rfl,hH.px.pd,_,_,rfl,rfl,_,rfl,dO (λh2=>?_) λh2=>?_⟩
    ·have h2:(60:Int)<=((bT L.pa s.pax).length:Nat):=h2
     exact⟨by decide,λp np=>k.ret hH (ans:=[-6]) (by rw[st,aj (show Gw<=s.pax.length by show 60<=s.pax.length;lia)]) .refl p np⟩
    ·have h2:¬(60:Int)<=((bT L.pa s.pax).length:Nat):=h2
     rw[ah (show¬Gw<=s.pax.length by show¬60<=s.pax.length;lia)]at st;refine⟨_,rfl,_,rfl,L.h,s.now,_,_,_,_,L.pa,L.un,L.fa,s.pax,_,f,_,rfl,hH.ho,Dy hH hG,hH.px.pd,hO,hG.pos f hm,hB,λH1 g1=>?_⟩;have bP:=hH.gr g1;have jY:=zt hR g1;refine⟨rfl,_,rfl,?_⟩;rw[DB hG hm];refine dO (λh3=>?_) λh3=>?_
     ·have h3:room s f=0:=by have:=V.int.inj h3;lia
      exact⟨by decide,λp np=>k.ret hH (ans:=[-9]) (by rw[st,aj h3]) g1 p np⟩
     ·have h3:¬room s f=0:=λz=>h3 (by rw[z];rfl)
      rw[ah h3]at st;refine⟨_,rfl,_,rfl,?_⟩;intro p dx nx vP TF;have sm:aC H1 (upd (upd H1 dx (.own p)) p (.ins A.CP dx [])):=λb o e=>by rw[ak (ba e nx),ak (ba e vP)];exact e
      refine⟨p,dx,r,_,f,_,x,rank,n,ready,latest,rfl,ao,sm.seq jY,(bP.fl.bB f hm).same sm,λu nu=>⟨rfl,?_⟩⟩;have U4:H1 u=none:=sm.free nu;have zM:u≠p:=λz=>by rw[z,ao]at nu;cases nu
      have s1:aC H1 (upd (upd (upd (upd H1 dx (.own p)) p (.ins A.CP dx [])) u (.dK [])) p (.ins A.CP dx (eY (kR x rank f n ready latest) u (.ref (L.fa f.num))))):=(sm.bW U4).bW nx;have hP:dH A (upd (upd (upd (upd H1 dx (.own p)) p (.ins A.CP dx [])) u (.dK [])) p (.ins A.CP dx (eY (kR x rank f n ready latest) u (.ref (L.fa f.num))))) p (kR x rank f n ready latest) u (.ref (L.fa f.num)):=⟨dx,ao⟩;have hU:(upd (upd (upd (upd H1 dx (.own p)) p (.ins A.CP dx [])) u (.dK [])) p (.ins A.CP dx (eY (kR x rank f n ready latest) u (.ref (L.fa f.num))))) u=some (.dK []):=by rw[ak zM,ao]
      generalize upd (upd (upd (upd H1 dx (.own p)) p (.ins A.CP dx [])) u (.dK [])) p (.ins A.CP dx (eY (kR x rank f n ready latest) u (.ref (L.fa f.num))))=H2 at s1 hP hU;have g2:Gr A H H2:=g1.trans (.of s1);have dP:=hH.gr g2;have Lg:d8 L.fa (kR x rank f n ready latest).on=V.ref (L.fa f.num):=by show d8 L.fa n=_;unfold d8;rw[ah (by have:=hG.pos f hm;lia),en]
      have a1:=After.kQ hH g2 (q:=kR x rank f n ready latest) yy (by rw[Lg];exact hP) hU (g1.free p nx) (g1.free u U4) rfl;refine⟨_,rfl,gI T dP.ho ⟨_,rfl,_,_,_,_,rfl,rfl,zt hR g2,rfl,_,_,rfl,iL dP.px.pd (by rw[hl];exact k7 hG.pl (by decide)),?_⟩⟩;rw[agu yy];have a1:After A H (upd H2 (L.D .dp) (.dK (bT L.pa s.pax++[(ay (x:Int),.ref p)]))) L (L.kQ x p u) s {s with pax:=s.pax++[kR x rank f n ready latest]}:=a1;generalize upd H2 (L.D .dp) (.dK (bT L.pa s.pax++[(ay (x:Int),.ref p)]))=H3 at a1;have d4:=a1.at_;have hpr:pV A H3 ((L.kQ x p u).D .dp) (L.kQ x p u).pa (L.kQ x p u).un (L.kQ x p u).fa (s.pax++[kR x rank f n ready latest]):=by
       refine⟨.inl d4.px.pd,λq hq=>⟨d4.px.px q hq,?_⟩,?_,by rw[eL];show s.pax.length+1<=100;have:=hG.pl;lia⟩
       ·rcases cu.mp hq with hq|hq
        ·rcases(hG.px q hq).on with⟨h0,h1⟩|⟨g,hg,e,Kf,bA⟩
         ·exact⟨false,.inl ⟨h0,rfl⟩⟩
         ·refine⟨_,.inr ⟨by have:=hG.pos g hg;lia,g,(L.kQ x p u).fe g.num,?_,e,rfl⟩⟩
          rw[<-e];exact d4.fl.bB g hg
        ·rw[cj.mp hq]
         refine⟨_,.inr ⟨by show n≠0;have:=hG.pos f hm;lia,f,(L.kQ x p u).fe f.num,?_,en,rfl⟩⟩;show b_ A H3 (L.fa n) f _;rw[<-en];exact d4.fl.bB f hm
       ·rw[bS]
        refine gf.mpr ⟨hG.pn,ny _ _,λa ha b hb=>?_⟩;have hb:=cj.mp hb;intro e;rw[e,hb]at ha;exact yy ha
      refine⟨_,rfl,_,rfl,L.h,s.now,_,_,_,_,_,_,_,s.pax++[kR x rank f n ready latest],_,f,_,rfl,d4.ho,hpr,d4.px.pd,d4.fl.bB f hm,hG.pos f hm,a1.tabs hB,λH4 g4=>⟨by show 2<=aS;decide,λz nz=>?_⟩⟩;have er:pW (s.pax++[kR x rank f n ready latest]) f=((room s f-1:Nat):Int):=by have h5:=DB hG hm;unfold pW at h5⊢;rw[fy,bX,aj (by show(n==f.num)=true;rw[en];exact oH _),gL,eL];show(f.cap:Int)-f.others-((_+1:Nat):Int)=_;lia
      rw[er];refine k.fin (ans:=[0,((room s f-1:Nat):Int)]) st ((a1.gr g4).gr (.of (bL nz))) (a1.free z (g4.free z nz)) ao
def DH(l:List aw)(ts:List Time)(k:Nat):Option Nat->List Nat|none=>[]|some x=>why l ts k x
abbrev Lh:aV:=top 46
theorem zN:bu ["house","row","stands","answer","number"] ["house","row"] (bb Lh):=bC
theorem agy(F:bh K "tell_why" "tell_why" Lh f fd)(T:Txt K mg A)(ft:Glob P w K mg base "house_stands" 7 ["house"] (om A)):aX P w K mg base bc 8 f fd ["house","row"] (fN A K λns c=>∃n:Nat,ns=[(n:Int)]/\c=.why n):=by
 refine F.bH zN λH vs Q E hr hu h=>?_;obtain⟨L,s,r,ns,c,rfl,hH,hG,hB,hR,⟨n,rfl,rfl⟩,k⟩:=h
 refine⟨_,(aq (bo (dB (f9 hu (bz K (pv 1) aJ) (au K (pv 0)))) (az (aK (bw (ax (cn (T.kH)))))) bt) (aq (bo (dj (au K (cC hu (au K (pv 0)) (bz K (pv 1) aJ)))) (az (aK (bw (ax (cn (T.ir)))))) bt)
   (aq (bf 2 zN.nd (bK ft hr (ax (pv 0))))
   (aq (bf 3 zN.nd (bw (ax aJ)))
   (aq (bf 4 zN.nd (bz K (pv 1) aJ))
   (aq (BE xS (dB (o3 (pv 4))) (aq (jk (yW (pv 3) (pv 4)))
   (az (bf 4 zN.nd (au K (cC hu (pv 2) (pv 4)))))))
   (az (aK (pv 3))))))))),?_⟩
 refine⟨_,rfl,_,_,_,_,rfl,rfl,hR,rfl,_,rfl,ek T hH.ho ⟨_,_,rfl,bq (.inl hH.fl.fl) (eZ _ n),_,rfl,?_⟩⟩;cases hf:eM s.flights n with
 |none=>exact aY ⟨by decide,λp np=>k.ret hH (ans:=[-3]) (by show bQ s n _=_;unfold bQ flight;rw[hf]) .refl p np⟩|some f0=>obtain⟨hm,en⟩:=gu hf;have hO:=hH.fl.bB f0 hm;refine bp ⟨_,rfl,ek T hH.ho ⟨_,rfl,_,_,_,_,rfl,rfl,hR,rfl,_,_,rfl,bq (.inl hH.fl.fl) (by rw[eZ,hf];rfl),vI T hO ⟨_,rfl,?_⟩⟩⟩;cases hc:f0.cancelled with
  |true=>exact aY ⟨by decide,λp np=>k.ret hH (ans:=[-7]) (by show bQ s n _=_;unfold bQ flight;rw[hf];simp[hc]) .refl p np⟩|false=>
   refine bp ⟨_,rfl,L.h,s.now,_,_,_,_,L.fa,L.fe,s.flights,rfl,hH.ho,hH.fl,hG.fl,λH1 p kvs sa c s1 np hp hs jX=>⟨by show 1<=aS;decide,λq nq=>?_⟩⟩;have zj:H q=none:=s1.free nq;have tW:p≠q:=ba hp nq;have Lb:=(s1.bW (o:=.lst [.int 0]) zj).seq hR;refine⟨_,rfl,_,_,_,_,rfl,rfl,Lb,rfl,?_⟩;have hlen:(aN s.flights).length<=24:=aZ (g9 _) hG.fl.len;obtain⟨i0,U5⟩:=vY (i_.mpr ⟨hm,hc⟩);have aki:=(eo.mp U5).1
   refine⟨λm σ H'=>∃(o:Option Nat)(done:List Nat)(kk:Nat),σ=[some (.ref L.h),some (.ref r),some (.ref p),some (.ref q),some (optN o)]/\aC H H'/\H' p=some (.dK kvs)/\gq A H' kvs sa (times s.now s.flights) c/\H' q=some (.lst ((0::Vbahaj.ints done).map V.int))/\why s.flights (times s.now s.flights) (s.flights.length+1) n=done++DH s.flights (times s.now s.flights) kk o/\done.length+m<=24/\(∀x,o=some x->∃i g,(aN s.flights)[i]? =some g/\g.num=x/\i<kk/\m=i+1),
    ⟨i0+1,some n,[],s.flights.length+1,rfl,s1.bW zj,by rw[ak tW];exact hp,hs.keep λa C dx fs z=>by rw[ak (ba z nq)];exact z,ao,rfl,by show 0+_<=24;lia,λx hx=>⟨i0,f0,U5,by cases hx;exact en,by have:=g9 s.flights;lia,rfl⟩⟩,?_⟩
   rintro m σ H2 ⟨o,done,kk,rfl,s2,e1,e2,e3,e4,e5,e6⟩;refine⟨_,rfl,_,rfl,?_⟩;cases o with
   |none=>
    refine lH rfl ⟨_,rfl,?_⟩;have e4:why s.flights (times s.now s.flights) (s.flights.length+1) n=done:=by rw[e4];exact je _
    refine k.pure hH (ans:=0::Vbahaj.ints done) ?_ (.of s2) zj e3;show bQ s n _=_;unfold bQ flight;rw[hf];simp only[hc];show(s,0::Vbahaj.ints (why s.flights (timesOf s) (s.flights.length+1) n))=_;unfold timesOf;rw[e4]|some x=>
    obtain⟨i,g,hg,eg,hik,rfl⟩:=e6 x rfl;refine lO nofun ?_;have j0:g∈aN s.flights:=du hg;have hgf:eM s.flights x=some g:=by rw[<-eg];exact jV hG.fl.nd (cq g j0)
    have uc:=Dd (now:=s.now) hG.fl.nd hg;have wx:=(kL uc).1;have hS:=e2.at_ _ wx;have U6:cause s.flights (times s.now s.flights) g=c x:=by rw[<-Ud hG hg,<-jX i g hg,eg]
    obtain⟨k2,rfl⟩:∃k2,kk=k2+1:=⟨kk-1,by lia⟩;have U7:DH s.flights (times s.now s.flights) (k2+1) (some x)=x::DH s.flights (times s.now s.flights) k2 (c x):=by show why s.flights (times s.now s.flights) (k2+1) x=_;unfold why;rw[hgf];simp only[U6];cases c x<;>rfl
    refine⟨λσ' H'=>∃zO,σ'=[some (.ref L.h),some (.ref r),some (.ref p),some (.ref q),some (optN (c x))]/\aC H H'/\H' p=some (.dK kvs)/\gq A H' kvs sa (times s.now s.flights) c/\H' q=some (.lst ((0::Vbahaj.ints zO).map V.int))/\zO=done++[x],λσ' H'⟨zO,h1,h2,h3,h4,h5,h6⟩=>?_,?_⟩
    ·cases zP:c x with
     |none=>exact⟨0,by lia,none,zO,0,by rw[h1,zP],h2,h3,h4,h5,by rw[e4,U7,zP,h6];simp[DH],by rw[h6,eL];show done.length+1+0<=24;lia,λy hy=>by cases hy⟩|some y=>obtain⟨j,g',hj,jW,eg'⟩:=afr (now:=s.now) hG hg (n:=y) (by rw[Ud hG hg,U6,zP]);exact⟨j+1,by lia,some y,zO,k2,by rw[h1,zP],h2,h3,h4,h5,by rw[e4,U7,zP,h6,l_];rfl,by rw[h6,eL];show done.length+1+(j+1)<=24;lia,λz hz=>⟨j,g',jW,by cases hz;exact eg',by lia,rfl⟩⟩
    ·refine⟨_,rfl,.inl ⟨rfl,_,aE.of e3⟩,_,rfl,q,_,_,rfl,rfl,e3,?_,?_⟩
     ·rw[aD]
      show(Vbahaj.ints done).length+1<aS;unfold Vbahaj.ints;rw[aD];have:1000<=aS:=by decide
      lia
     ·have s3:aC H (upd H2 q (.lst ((0::Vbahaj.ints done).map V.int++[optN (some x)]))):=s2.bW zj
      have f1:(upd H2 q (.lst ((0::Vbahaj.ints done).map V.int++[optN (some x)]))) p=some (.dK kvs):=by rw[ak tW];exact e1
      have f2:gq A (upd H2 q (.lst ((0::Vbahaj.ints done).map V.int++[optN (some x)]))) kvs sa (times s.now s.flights) c:=e2.keep λa C dx fs z=>aT e3 z (by intro y;cases y);have f3:(upd H2 q (.lst ((0::Vbahaj.ints done).map V.int++[optN (some x)]))) q=some (.lst ((0::Vbahaj.ints (done++[x])).map V.int)):=by rw[ao];unfold Vbahaj.ints;simp[optN]
      generalize upd H2 q (.lst ((0::Vbahaj.ints done).map V.int++[optN (some x)]))=H3 at s3 f1 f2 f3;have f_:=f2.at_ _ wx;exact⟨_,rfl,_,rfl,p,_,rfl,bq (.inl f1) (by rw[hs.eq,iu,<-eg,uc];rfl),aeF T f_ ⟨_,by show List.set _ _ (some (optN (c g.num)))=_;rw[eg];rfl,s3,f1,f2,f3,rfl⟩⟩
def ret(t:aw->Nat)(x:aw):aw:={x with tail:=t x}
theorem U8{φ:aw->aw}(h:∀a b,before (φ a) (φ b)=before a b)(f:aw):∀l:List aw,qB (φ f) (l.map φ)=(qB f l).map φ
 |[]=>rfl|g::l=>by
  rw[cV];unfold qB;rw[h];split
  ·rfl
  ·rw[cV,U8 h f l]
theorem U9{φ:aw->aw}(h:∀a b,before (φ a) (φ b)=before a b):∀l:List aw,ordered (l.map φ)=(ordered l).map φ|[]=>rfl|f::l=>by show qB (φ f) (ordered (l.map φ))=_;rw[U9 h l,U8 h];rfl
theorem agz{φ:aw->aw}(h:∀a b,before (φ a) (φ b)=before a b)(hc:∀a,(φ a).cancelled=a.cancelled)(l:List aw):aN (l.map φ)=(aN l).map φ:=by unfold aN;rw[U9 h,OB];congr 1;refine uK λx _=>?_;show(!(φ x).cancelled)=_;rw[hc]
def kT(l:List aw)(f g x:aw):Nat:=if((bU l f).map λy=>y.num).contains x.num=true then g.tail else if((bU l g).map λy=>y.num).contains x.num=true then f.tail else x.tail
theorem zQ(l:List aw)(f g:aw):gB l f g=l.map (ret (kT l f g)):=by
 unfold gB;refine dE λx _=>?_;show(if _ then _ else _)=ret (kT l f g) x;unfold ret kT;by_cases h1:((bU l f).map λy=>y.num).contains x.num=true
 ·rw[aj h1,aj h1]
 ·rw[ah h1,ah h1]
  by_cases h2:((bU l g).map λy=>y.num).contains x.num=true
  ·rw[aj h2,aj h2]
  ·rw[ah h2,ah h2]
theorem Li(t:aw->Nat)(l:List aw):(l.map (ret t)).map (λf=>f.num)=l.map λf=>f.num:=by rw[dv];rfl
theorem U_(t:aw->Nat)(l:List aw):aN (l.map (ret t))=(aN l).map (ret t):=agz (φ:=ret t) (λ_ _=>rfl) (λ_=>rfl) l
theorem kM.ret(h:kM l)(t:aw->Nat):kM (l.map (WD.ret t)):=⟨by rw[Li];exact h.nd,by rw[aD];exact h.len,λf hf=>by obtain⟨x,hx,rfl⟩:=aB.mp hf;exact h.good x hx⟩
theorem agA(t:aw->Nat)(l:List aw):cA fa (l.map (ret t))=cA fa l:=by unfold cA;rw[dv];rfl
theorem fF.ret(h:fF A H fa fe l)(t:aw->Nat):fF A H fa fe (l.map (WD.ret t)):=λf hf=>by obtain⟨x,hx,rfl⟩:=aB.mp hf;exact h x hx
theorem lS.ret(h:lS H fe l)(t:aw->Nat):lS H fe (l.map (WD.ret t)):=λf hf=>by obtain⟨x,hx,rfl⟩:=aB.mp hf;exact h x hx
theorem Va{fa:Nat->af}(t:aw->Nat)(l:List aw):((l.map (ret t)).map λf=>V.ref (fa f.num))=l.map λf=>V.ref (fa f.num):=by rw[dv];rfl
section
variable{A:Ad}{H0 H:Hp}{L:Lay}{s:State}
def Lay.ox(L:Lay)(p:af):Lay:={L with D:=λk=>if k=.dt then p else L.D k}
theorem After.agB(h0:b0 A H0 L s)(g:Gr A H0 H)(e:H L.h=some (.ins A.CH dx (bA s.now (L.D .df) (L.D .dt) (L.D .dp) L.ls)))(hp:H p=some (.dK (dI (s.flights.map (ret t)))))(np:H0 p=none):After A H0 (L2.upd H L.h (.ins A.CH dx (bA s.now (L.D .df) p (L.D .dp) L.ls))) L (L.ox p) s {s with flights:=s.flights.map (ret t)}:=by
 have h:=h0.gr g;have kD:∀k,k≠.dt->(L.ox p).D k=L.D k:=λk n=>ah n;have kt:(L.ox p).D .dt=p:=by show(if DS.dt=DS.dt then p else L.D .dt)=p;rw[aj rfl]
 have lv:∀k,d7 {s with flights:=s.flights.map (ret t)} k↔d7 s k:=λk=>by cases k with
  |fe n=>show n∈(s.flights.map (ret t)).map (λf=>f.num)↔_;rw[Li];exact iQ|un n=>exact iQ|df=>exact iQ|dt=>exact iQ|dp=>exact iQ
 have ho:b0 A (L2.upd H L.h (.ins A.CH dx (bA s.now (L.D .df) p (L.D .dp) L.ls))) (L.ox p) {s with flights:=s.flights.map (ret t)}:=by
  refine⟨⟨dx,?_⟩,⟨?_,?_,λy hy=>?_,λy hy=>?_⟩,⟨?_,λr hr=>?_,λr hr=>?_⟩,?_,λa b ha hb kU=>?_⟩
  ·rw[kD .df nofun,kt,kD .dp nofun]
   exact ao
  ·show _=some (HO.dK (cA L.fa (s.flights.map (ret t))))
   rw[agA,kD .df nofun];exact aT e h.fl.fl nofun
  ·rw[kt]
   exact aT e hp nofun
  ·obtain⟨x,hx,rfl⟩:=aB.mp (show y∈s.flights.map (ret t)from hy)
   obtain⟨dy,z⟩:=h.fl.bB x hx;show b_ A _ (L.fa x.num) (ret t x) ((L.ox p).D (.fe x.num));rw[kD (.fe x.num) nofun];exact⟨dy,aT e z (Ne.symm C9)⟩
  ·obtain⟨x,hx,rfl⟩:=aB.mp (show y∈s.flights.map (ret t)from hy)
   obtain⟨kf,z1,z2⟩:=h.fl.feeds x hx;show∃kf,(L2.upd H L.h (.ins A.CH dx (bA s.now (L.D .df) p (L.D .dp) L.ls))) ((L.ox p).D (.fe x.num))=some (HO.dK kf)/\i9 _ kf x.feeds;rw[kD (.fe x.num) nofun];exact⟨kf,aT e z1 nofun,z2.keep λt zs z=>aT e z nofun⟩
  ·rw[kD .dp nofun]
   exact aT e h.px.pd nofun
  ·obtain⟨dy,z⟩:=h.px.px r hr
   show dH A _ (L.pa r.x) r ((L.ox p).D (.un r.x)) _;rw[kD (.un r.x) nofun];exact⟨dy,aT e z (Ne.symm C_)⟩
  ·show(L2.upd H L.h (.ins A.CH dx (bA s.now (L.D .df) p (L.D .dp) L.ls))) ((L.ox p).D (.un r.x))=_
   rw[kD (.un r.x) nofun];exact aT e (h.px.un r hr) nofun
  ·obtain⟨vs,z1,z2⟩:=h.st
   exact⟨vs,aT e z1 nofun,z2.keep λt zs z=>aT e z nofun⟩
  ·have kU:(if a=DS.dt then p else L.D a)=(if b=DS.dt then p else L.D b):=kU
   by_cases h1:a=DS.dt
   ·by_cases h2:b=DS.dt
    ·rw[h1,h2]
    ·rw[aj h1,ah h2]at kU
     exact absurd kU.symm (p4 h0 np ((lv b).mp hb))
   ·by_cases h2:b=DS.dt
    ·rw[ah h1,aj h2]at kU
     exact absurd kU (p4 h0 np ((lv a).mp ha))
    ·rw[ah h1,ah h2]at kU
     exact h.inj a b ((lv a).mp ha) ((lv b).mp hb) kU
 refine⟨ho,rfl,λb o eb n nb=>?_,λb hb=>?_,λt=>(g.tabs t).upd e nofun nofun,λb z=>?_⟩
 ·rw[ak (λz=>nb (.inl z))]
  exact g.same b o eb n
 ·rcases hb with hb|hb|⟨k,hk,hb⟩|⟨n,hn,hb⟩|hb
  ·exact .inl (.inl hb)
  ·exact .inl (.inr (.inl hb))
  ·by_cases h1:k=.dt
   ·rw[h1,kt]at hb
    exact .inr (by rw[hb];exact np)
   ·rw[kD k h1]at hb
    rw[hb];exact .inl (mY ((lv k).mp hk))
  ·have hn:n∈(s.flights.map (ret t)).map λf=>f.num:=hn
   rw[Li]at hn;exact .inl (.inr (.inr (.inr (.inl ⟨n,hn,hb⟩))))
  ·exact .inl (.inr (.inr (.inr (.inr hb))))
 ·by_cases hb:b=L.h
  ·rw[hb,ao]at z;cases z
  ·rw[ak hb]at z
   exact g.free b z
end
theorem Lj{s:State}{f:aw}(hf:f∈s.flights)(ho:bV f=true):f∈aN s.flights:=by unfold bV at ho;simp at ho;exact i_.mpr ⟨hf,ho.1⟩
theorem Vb(hN:(l.map λf=>f.num).Nodup)(h:∀i f,(aN l)[i]? =some f->bZ kb (ay (f.num:Int))=some (vN fa (jS (aN l) i f.tail))):T4 fa kb l:=λf hf=>by obtain⟨i,hi⟩:=vY hf;rw[h i f hi,CU hN hi]
abbrev Ll:aV:=top 50
theorem DJ:bu ["house","row","one","other","flying"] ["house","row"] (bb Ll):=bC
theorem agC(F:bh K "swap_aircraft" "swap_aircraft" Ll f fd)(T:Txt K mg A)(fu:dm P w K mg base A.CF "is_open" 1 ["self"] (og A))(iw:dm P w K mg base A.CH "flying" 4 ["self"] (tQ A))(pL:Glob P w K mg base "flown_before" 1 ["flying","tails"] (CM A K)) (wy:Glob P w K mg base "can_exchange" 2 ["tails","before","one","other"] (JT A))(wz:Glob P w K mg base "exchanged" 3 ["flying","tails","one","other"] (JV A K))(ud:Glob P w K mg base "lateness" 7 ["flying","tails","now"] (JK A K)):
  aX P w K mg base bc 8 f fd ["house","row"] (fN A K λns c=>∃n m:Nat,ns=[(n:Int),(m:Int)]/\c=.swap n m):=by
 refine F.bH DJ λH vs Q E hr hu h=>?_;obtain⟨L,s,r,ns,c,rfl,hH,hG,hB,hR,⟨n,m,rfl,rfl⟩,k⟩:=h
 refine⟨_,(aq (bo (PW.pt (jj (dB (f9 hu (bz K (pv 1) aJ) (au K (pv 0)))) (ji (dB (f9 hu (bz K (pv 1) aJ) (au K (pv 0))))))) (az (aK (bw (ax (cn (T.kH)))))) bt) (aq (bf 2 DJ.nd (cC hu (au K (pv 0)) (bz K (pv 1) aJ)))
   (aq (bf 3 DJ.nd (cC hu (au K (pv 0)) (bz K (pv 1) aJ)))
   (aq (bo (PW.pt (jj (gY (dj (fk (pv 2) T.cF fu hr))) (ji (gY (dj (fk (pv 3) T.cF fu hr)))))) (az (aK (bw (ax (cn (T.ir)))))) bt)
   (aq (bf 4 DJ.nd (fk (pv 0) T.cH iw hr))
   (aq (bo (gY (dj (bK wy hr (aM (au K (pv 0)) (aM (bK pL hr (aM (pv 4) (ax (au K (pv 0))))) (aM (pv 2) (ax (pv 3)))))))) (az (aK (bw (ax (cn (T.n9)))))) bt)
   (aq (c8 (pv 0) (bK wz hr (aM (pv 4) (aM (au K (pv 0)) (aM (pv 2) (ax (pv 3)))))))
   (az (aK (bw (aM aJ (ax (bK ud hr (aM (pv 4) (aM (au K (pv 0)) (ax (au K (pv 0)))))))))))))))))),?_⟩
 refine⟨_,rfl,_,_,_,_,rfl,rfl,hR,rfl,_,rfl,ek T hH.ho ⟨_,_,rfl,bq (.inl hH.fl.fl) (eZ _ n),_,rfl,?_⟩⟩;cases hf:eM s.flights n with
 |none=>refine aY (aY ⟨by decide,λp np=>?_⟩);exact k.ret hH (ans:=[-3]) (by show bQ s n _=_;unfold bQ flight;rw[hf]) .refl p np|some f=>refine bp ?_;refine⟨_,rfl,_,_,_,_,rfl,rfl,hR,rfl,_,rfl,ek T hH.ho ⟨_,_,rfl,bq (.inl hH.fl.fl) (eZ _ m),_,rfl,?_⟩⟩;cases hg:eM s.flights m with
  |none=>refine aY ⟨by decide,λp np=>?_⟩;exact k.ret hH (ans:=[-3]) (by show bQ s n _=_;unfold bQ flight;rw[hf];simp only[hg]) .refl p np|some g=>
   obtain⟨hm,en⟩:=gu hf;obtain⟨qV,eg⟩:=gu hg;have hO:=hH.fl.bB f hm;have fM:=hH.fl.bB g qV;obtain⟨dx,hx⟩:=id hO;obtain⟨dy,hy⟩:=id fM;have st:step s (.swap n m)=(if bV f=false∨bV g=false then(s,[-7])else if kh s.flights f g=false then(s,[-8])else({s with flights:=gB s.flights f g},[(0:Int),((fS s.now (gB s.flights f g):Nat):Int)])):=by show bQ s n _=_;unfold bQ flight;rw[hf];simp only[hg]
   refine bp ?_;refine⟨_,rfl,ek T hH.ho ⟨_,rfl,_,_,_,_,rfl,rfl,hR,rfl,_,_,rfl,bq (.inl hH.fl.fl) (by rw[eZ,hf];rfl),_,rfl,ek T hH.ho ⟨_,rfl,_,_,_,_,rfl,rfl,hR,rfl,_,_,rfl,bq (.inl hH.fl.fl) (by rw[eZ,hg];rfl),_,rfl,_,dx,_,rfl,hx,rfl,_,f,_,rfl,hO,_,rfl,?_⟩⟩⟩;cases ho:bV f with
   |false=>refine aY (aY ⟨by decide,λp np=>?_⟩);exact k.ret hH (ans:=[-7]) (by rw[st,aj (.inl ho)]) .refl p np|true=>refine bp ⟨_,rfl,_,dy,_,rfl,hy,rfl,_,g,_,rfl,fM,_,rfl,?_⟩;cases Lm:bV g with
    |false=>refine aY ⟨by decide,λp np=>?_⟩;exact k.ret hH (ans:=[-7]) (by rw[st,aj (.inr Lm)]) .refl p np|true=>rw[ah (by rw[ho,Lm];simp)]at st;have ue:=Lj hm ho;have Vc:=Lj qV Lm;obtain⟨dh,hh⟩:=id hH.ho;refine bp ⟨_,rfl,_,dh,_,rfl,hh,rfl,L.h,s.now,_,_,_,_,L.fa,L.fe,s.flights,rfl,hH.ho,hH.fl.fl,hH.fl.bB,hG.fl.nd,aZ hG.fl.len (by decide),λH1 p s1 np hp=>?_⟩;have bP:=hH.same s1;have wA:lR (dI s.flights) (aN s.flights):=(rp hG.fl.nd).sub cq;have tS:(aN s.flights).length<=100:=aZ (g9 _) (aZ hG.fl.len (by decide));refine⟨_,rfl,lN T bP.ho ⟨_,rfl,_,rfl,lN T bP.ho ⟨p,_,_,L.fa,L.fe,aN s.flights,rfl,aE.of hp,bP.fl.bB.sub cq,.inl bP.fl.tl,wA,rm hG.fl.nd,tS,λH2 pb kb s2 vS vT qU=>?_⟩⟩⟩;have dP:=bP.same s2;refine⟨_,rfl,_,rfl,_,pb,_,kb,L.fa,L.fe,s.flights,f,g,rfl,dP.fl.bB.sub cq,.inl dP.fl.tl,wA,.inl vT,Vb hG.fl.nd qU,ue,Vc,_,rfl,?_⟩;cases gF:kh s.flights f g with
     |false=>refine aY ⟨by decide,λp np=>?_⟩;exact k.ret hH (ans:=[-8]) (by rw[st,aj gF]) ((Gr.of s1).trans (.of s2)) p np|true=>
      rw[ah (by rw[gF];decide)]at st;have cD:f.tail≠g.tail:=by unfold kh at gF;simp at gF;exact gF.1
      refine bp ?_;refine⟨_,rfl,_,rfl,lN T dP.ho ⟨_,rfl,_,rfl,?_⟩⟩;have d_:=s2 _ _ hp;refine⟨p,_,L.fa,L.fe,s.flights,f,g,rfl,aE.of d_,dP.fl.bB.sub cq,.inl dP.fl.tl,hG.fl,ue,Vc,cD,λH3 pt s3 wB zR=>?_⟩;have kP:aC H H3:=s1.trans (s2.trans s3);have d4:=hH.same kP;obtain⟨dz,hz⟩:=id d4.ho;have agD:H pt=none:=(s1.trans s2).free wB;refine⟨_,rfl,L.h,_,dz,_,rfl,hz,T.cH,T.IQ,(by show 5<1000;decide),?_⟩;rw[zQ]at zR;have a1:After A H (upd H3 L.h (.ins A.CH dz (bO "tails" (V.ref pt) (bA s.now (L.D .df) (L.D .dt) (L.D .dp) L.ls)))) L (L.ox pt) s {s with flights:=s.flights.map (ret (kT s.flights f g))}:=After.agB hH (.of kP) hz zR agD;have Vd:(upd H3 L.h (.ins A.CH dz (bO "tails" (V.ref pt) (bA s.now (L.D .df) (L.D .dt) (L.D .dp) L.ls)))) p=some (.lst ((aN s.flights).map λf=>V.ref (L.fa f.num))):=aT hz (s3 _ _ d_) nofun;generalize upd H3 L.h (.ins A.CH dz (bO "tails" (V.ref pt) (bA s.now (L.D .df) (L.D .dt) (L.D .dp) L.ls)))=H4 at a1 Vd;have iP:=a1.at_;refine⟨_,rfl,_,rfl,lN T iP.ho ⟨_,rfl,n_ T iP.ho ?_⟩⟩;have zS:=hG.fl.ret (kT s.flights f g);refine⟨p,_,_,L.fa,(L.ox pt).fe,s.flights.map (ret (kT s.flights f g)),s.now,rfl,?_,iP.fl.bB.sub cq,iP.fl.feeds.sub cq,.inl iP.fl.tl,(rp zS.nd).sub cq,zS,λH5 s5=>?_⟩
      ·rw[U_,Va]
       exact aE.of Vd
      ·refine⟨by show 2<=aS;decide,λq nq=>?_⟩
       refine k.fin (ans:=[(0:Int),((fS s.now (s.flights.map (ret (kT s.flights f g))):Nat):Int)]) (by rw[st,zQ]) ((a1.gr (.of s5)).gr (.of (bL nq))) (a1.free q (s5.free nq)) ao
theorem After.uf(a:After A H H2 L L s s')(hH:b0 A H L s)(nq:H q=none)(e:H2 q=some (.lst xs)):After A H (L2.upd H2 q (.lst ys)) L L s s':=by
 have Ln:q≠L.ls:=λz=>by obtain⟨vs,e1,_⟩:=hH.st;rw[<-z,nq]at e1;cases e1
 have h:=a.at_;refine⟨⟨?_,⟨?_,?_,λy hy=>?_,λy hy=>?_⟩,⟨?_,λr hr=>?_,λr hr=>?_⟩,?_,h.inj⟩,rfl,λb o eb n nb=>?_,a.own,λt=>(a.tabs t).upd e nofun nofun,λb z=>?_⟩
 ·obtain⟨dy,z⟩:=h.ho
  exact⟨dy,aT e z nofun⟩
 ·exact aT e h.fl.fl nofun
 ·exact aT e h.fl.tl nofun
 ·obtain⟨dy,z⟩:=h.fl.bB y hy
  exact⟨dy,aT e z nofun⟩
 ·obtain⟨kf,z1,z2⟩:=h.fl.feeds y hy
  exact⟨kf,aT e z1 nofun,z2.keep λt zs z=>aT e z nofun⟩
 ·exact aT e h.px.pd nofun
 ·obtain⟨dy,z⟩:=h.px.px r hr
  exact⟨dy,aT e z nofun⟩
 ·exact aT e (h.px.un r hr) nofun
 ·obtain⟨vs,z1,z2⟩:=h.st
  exact⟨vs,by rw[ak Ln.symm];exact z1,z2.keep λt zs z=>aT e z nofun⟩
 ·rw[ak (ba eb nq)]
  exact a.fr b o eb n nb
 ·by_cases hb:b=q
  ·rw[hb];exact nq
  ·rw[ak hb]at z;exact a.free b z
def fw(s:State)(ns:List Nat):State:={s with flights:=s.flights.map (λg=>if ns.contains g.num=true then{g with cancelled:=true}else g),pax:=s.pax.map λq=>if ns.contains q.on=true then{q with on:=0}else q}
theorem agE(s:State):fw s []=s:=by unfold fw;simp
theorem wC(s:State)(ns:List Nat):((fw s ns).flights.map λf=>f.num)=s.flights.map λf=>f.num:=by unfold fw;rw[dv];refine dE λg _=>?_;show(if _ then _ else _:aw).num=_;split<;>rfl
theorem zT(s:State)(ns:List Nat):((fw s ns).pax.map λq=>q.x)=s.pax.map λq=>q.x:=by unfold fw;rw[dv];refine dE λg _=>?_;show(if _ then _ else _:bj).x=_;split<;>rfl
theorem agF(hn:1<=n):fw (fw s ns) [n]=fw s (ns++[n]):=by
 unfold fw;congr 1
 ·rw[dv]
  refine dE λg _=>?_;show(if [n].contains (if ns.contains g.num=true then{g with cancelled:=true}else g:aw).num=true then{(if ns.contains g.num=true then{g with cancelled:=true}else g:aw)with cancelled:=true}else(if ns.contains g.num=true then{g with cancelled:=true}else g:aw))=if(ns++[n]).contains g.num=true then{g with cancelled:=true}else g;by_cases h1:ns.contains g.num=true
  ·rw[aj h1,aj (show(ns++[n]).contains g.num=true by simp at h1⊢;exact .inl h1)]
   split<;>rfl
  ·rw[ah h1]
   by_cases h2:g.num=n
   ·rw[aj (by simp[h2]),aj (by simp[h2])]
   ·rw[ah (by simp[h2]),ah (by simp at h1⊢;exact⟨h1,h2⟩)]
 ·rw[dv]
  refine dE λq _=>?_;show(if [n].contains (if ns.contains q.on=true then{q with on:=0}else q:bj).on=true then{(if ns.contains q.on=true then{q with on:=0}else q:bj)with on:=0}else(if ns.contains q.on=true then{q with on:=0}else q:bj))=if(ns++[n]).contains q.on=true then{q with on:=0}else q;by_cases h1:ns.contains q.on=true
  ·rw[aj h1,aj (show(ns++[n]).contains q.on=true by simp at h1⊢;exact .inl h1),ah]
   show¬[n].contains 0=true;simp;lia
  ·rw[ah h1]
   by_cases h2:q.on=n
   ·rw[aj (by simp[h2]),aj (by simp[h2])]
   ·rw[ah (by simp[h2]),ah (by simp at h1⊢;exact⟨h1,h2⟩)]
structure ug(s:State):Prop where
 fn:(s.flights.map λf=>f.num).Nodup
 pn:(s.pax.map λq=>q.x).Nodup
 pl:s.pax.length<=60
 on:∀q,q∈s.pax->q.on=0∨q.on∈s.flights.map λf=>f.num
theorem Good.agG(G:Good s):ug s:=⟨G.fl.nd,G.pn,G.pl,λq hq=>((G.px q hq).on).imp (λz=>z.1) λ⟨g,hg,e,_⟩=>aB.mpr ⟨g,hg,e⟩⟩
theorem ug.cm(h:ug s)(ns:List Nat):ug (fw s ns):=by
 refine⟨by rw[wC];exact h.fn,by rw[zT];exact h.pn,by unfold fw;rw[aD];exact h.pl,λq hq=>?_⟩;rw[wC];obtain⟨r,hr,e⟩:=aB.mp (show q∈s.pax.map _ from hq);by_cases h1:ns.contains r.on=true
 ·rw[aj h1]at e;rw[<-e];exact .inl rfl
 ·rw[ah h1]at e;rw[<-e];exact h.on r hr
theorem agH(h:b0 A H L s)(G:ug s):pV A H (L.D .dp) L.pa L.un L.fa s.pax:=⟨.inl h.px.pd,λq hq=>⟨h.px.px q hq,by
  rcases G.on q hq with h0|h0
  ·exact⟨false,.inl ⟨h0,rfl⟩⟩
  ·obtain⟨f,hf,e⟩:=aB.mp h0
   by_cases hz:q.on=0
   ·exact⟨false,.inl ⟨hz,rfl⟩⟩
   ·exact⟨_,.inr ⟨hz,f,L.fe f.num,by rw[<-e];exact h.fl.bB f hf,e,rfl⟩⟩⟩,G.pn,aZ G.pl (by decide)⟩
abbrev Lo:aV:=top 48
theorem Ve:bu ["house","flight","passenger"] ["house","flight"] (bb Lo):=bC
inductive Vf(A:Ad)(vs:List V)(H:Hp)(Q:VK)(E:XK):Prop|mk L s f (z:vs=[.ref (Lay.h L),.ref (L.fa (Flight.num f))]) (z:b0 A H L s) (z:dW A H) (z:ug s) (z:f∈s.flights) (z:1<=f.num) (z:∀H',After A H H' L L s (fw s [f.num])->Q .non H')
theorem agI(F:bh K "cancel_one" "cancel_one" Lo f fd)(T:Txt K mg A)(pX:Glob P w K mg base "passengers_on" 6 ["house","flight"] (Dr A)):aX P w K mg base bc 7 f fd ["house","flight"] (Vf A):=by
 refine F.bH Ve λH vs Q E hr hu h=>?_;obtain⟨L,s,f,rfl,hH,hB,hG,hm,h1,k⟩:=h;obtain⟨dx,hx⟩:=hH.fl.bB f hm
 refine⟨_,(aq (c8 (pv 1) ik) (az (gn (fV (bK pX hr (aM (pv 0) (ax (pv 1))))) (c7 2 Ve.nd) (az (c8 (pv 2) u_))))),?_⟩
 refine⟨_,rfl,_,_,dx,_,rfl,hx,T.cF,T.IL,(by show 13<1000;decide),?_⟩;have a1:After A H (upd H (L.fa f.num) (.ins A.CF dx (bO "cancelled" (V.bl true) (d5 f (L.fe f.num))))) L L s (cT s {f with cancelled:=true}):=After.v_ hH hG.fn hm (f':={f with cancelled:=true}) rfl rfl rfl hx;generalize upd H (L.fa f.num) (.ins A.CF dx (bO "cancelled" (V.bl true) (d5 f (L.fe f.num))))=H1 at a1;generalize DK:cT s {f with cancelled:=true}=s1 at a1;have DL:s1.pax=s.pax:=by rw[<-DK];rfl
 have Lp:{f with cancelled:=true}∈s1.flights:=by rw[<-DK];exact zp (f':={f with cancelled:=true}) hm rfl
 have DM:ug s1:=by
  have en:(s1.flights.map λf=>f.num)=s.flights.map λf=>f.num:=by rw[<-DK];exact zm
  exact⟨by rw[en];exact hG.fn,by rw[DL];exact hG.pn,by rw[DL];exact hG.pl,λq hq=>by rw[en];exact hG.on q (by rw[<-DL];exact hq)⟩
 have bP:=a1.at_;refine⟨_,rfl,_,rfl,L.h,_,_,_,_,_,L.pa,L.un,L.fa,s1.pax,_,{f with cancelled:=true},_,rfl,bP.ho,agH bP DM,bP.px.pd,bP.fl.bB _ Lp,h1,a1.tabs hB,λH2 p g2 np hp=>?_⟩;have a2:=a1.gr g2;have mW:H p=none:=a1.free p np;have wD:∀q,q∈iW (s1.pax.filter λq=>q.on==f.num)->q∈s1.pax/\q.on=f.num:=λq hq=>by obtain⟨z1,z2⟩:=ck.mp ((jZ _).mem_iff.mp hq);exact⟨z1,eq_of_beq z2⟩
 have lX:((iW (s1.pax.filter λq=>q.on==f.num)).map λq=>q.x).Nodup:=((jZ _).map _).nodup_iff.mpr (DM.pn.sublist (ia _ gd));have Lq:H2 p=some (.lst ((iW (s1.pax.filter λq=>q.on==f.num)).map λq=>V.ref (L.pa q.x))):=hp;generalize agJ:iW (s1.pax.filter λq=>q.on==f.num)=ps at Lq wD lX
 refine⟨p,rfl,⟨_,aE.of Lq⟩,gp fX (λi σ H'=>∃v2,σ=[some (.ref L.h),some (.ref (L.fa f.num)),v2]/\H' p=some (.lst (ps.map λq=>V.ref (L.pa q.x)))/\After A H H' L L s {s1 with pax:=s1.pax.map λq=>if((ps.take i).map λq=>q.x).contains q.x=true then{q with on:=0}else q}) ⟨none,rfl,Lq,by simp;exact a2⟩ (λi σ H' _⟨_,_,h,_⟩=>aE.of h) ?_ ?_⟩
 ·rintro i v σ H3 H4 hi ⟨v2,rfl,e1,a3⟩ ⟨rfl,hv⟩
  obtain⟨q,hq,rfl⟩:=el hv;obtain⟨hJ,Vg⟩:=wD q (du hq);have oy:((ps.take i).map λq=>q.x).contains q.x=false:=by cases hc:((ps.take i).map λq=>q.x).contains q.x with
   |false=>rfl|true=>
    rw[fD]at hc;obtain⟨r,hr,er⟩:=aB.mp hc;obtain⟨j,hj,ej⟩:=h_ hr;rw[jd]at hj;have jn:ps[j]? =some r:=by rw[<-ej,oK];exact dY (by lia)
    have:=Di lX jn hq er;lia
  have d4:=a3.at_;have Vh:q∈(s1.pax.map λq=>if((ps.take i).map λq=>q.x).contains q.x=true then{q with on:=0}else q):=aB.mpr ⟨q,hJ,by rw[ah (by rw[oy];decide)]⟩;obtain⟨dq,p7⟩:=d4.px.px q Vh;refine⟨_,rfl,_,_,dq,_,rfl,p7,T.cP,T.yX,(by show 9<1000;decide),?_⟩;have a4:=After.KA d4 Vh (q':={q with on:=0}) rfl rfl p7 rfl;refine⟨_,rfl,?_,?_⟩
  ·rw[ak (cZ e1 p7 nofun)]
   exact e1
  ·have a5:=a3.trans a4
   have es:gW {s1 with pax:=s1.pax.map λq=>if((ps.take i).map λq=>q.x).contains q.x=true then{q with on:=0}else q} {q with on:=0}={s1 with pax:=s1.pax.map λq=>if((ps.take (i+1)).map λq=>q.x).contains q.x=true then{q with on:=0}else q}:=by
    unfold gW;congr 1;show(s1.pax.map _).map _=_;rw[dv];refine dE λr hr=>?_;show(if(if((ps.take i).map λq=>q.x).contains r.x=true then{r with on:=0}else r:bj).x=q.x then{q with on:=0}else(if((ps.take i).map λq=>q.x).contains r.x=true then{r with on:=0}else r:bj))=if((ps.take (i+1)).map λq=>q.x).contains r.x=true then{r with on:=0}else r;have ex:(if((ps.take i).map λq=>q.x).contains r.x=true then{r with on:=0}else r:bj).x=r.x:=by split<;>rfl
    rw[ex];have hc:((ps.take (i+1)).map λq=>q.x).contains r.x=true↔r.x=q.x∨((ps.take i).map λq=>q.x).contains r.x=true:=by rw[take_snoc hq,bS,fD,fD,cu];simp;exact FE
    by_cases h2:r.x=q.x
    ·rw[aj h2,aj (hc.mpr (.inl h2)),rE DM.pn hr hJ h2]
    ·rw[ah h2]
     by_cases h3:((ps.take i).map λq=>q.x).contains r.x=true
     ·rw[aj h3,aj (hc.mpr (.inr h3))]
     ·rw[ah h3,ah (λz=>(hc.mp z).elim h2 h3)]
   rw[es]at a5;exact a5
 ·rintro σ H3 ⟨v2,rfl,e1,a3⟩
  rw[aD,dQ]at a3;have es:({s1 with pax:=s1.pax.map λq=>if(ps.map λq=>q.x).contains q.x=true then{q with on:=0}else q}:State)=fw s [f.num]:=by
   unfold fw;rw[<-DK];unfold cT;congr 1
   ·refine dE λg hg=>?_
    by_cases h2:g.num=f.num
    ·rw[aj h2,aj (by simp[h2]),ja hG.fn hg hm h2]
    ·rw[ah h2,ah (by simp[h2])]
   ·show s.pax.map _=_
    refine dE λr hr=>?_;have rM:r∈s1.pax:=by rw[DL];exact hr
    have hc:(ps.map λq=>q.x).contains r.x=true↔[f.num].contains r.on=true:=by
     rw[fD];constructor
     ·intro z
      obtain⟨q,hq,e⟩:=aB.mp z;obtain⟨h2,h3⟩:=wD q hq;rw[rE DM.pn h2 rM e]at h3;simp[h3]
     ·intro z
      simp at z;refine aB.mpr ⟨r,?_,rfl⟩;rw[<-agJ,(jZ _).mem_iff,ck];exact⟨rM,by rw[z];exact oH _⟩
    by_cases h2:(ps.map λq=>q.x).contains r.x=true
    ·rw[aj h2,aj (hc.mp h2)]
    ·rw[ah h2,ah (λz=>h2 (hc.mpr z))]
  rw[es]at a3;exact k H3 a3
theorem Vi:∀{l:List aw}{i:Nat}{g:aw},l[i]? =some g->g.dst=DN->(∀j x,j<i->l[j]? =some x->x.dst≠DN)->through DN l=l.take (i+1)|[],i,g,h,_,_=>by simp at h|a::l,0,g,h,hd,_=>by cases h;unfold through;rw[aj hd];rfl|a::l,i+1,g,h,hd,hn=>by unfold through;rw[ah (hn 0 a (by lia) rfl),Vi (l:=l) (i:=i) (g:=g) h hd λj x hj hx=>hn (j+1) x (by lia) hx];rfl
theorem Vj:∀{l:List aw},(∀(j:Nat)x,l[j]? =some x->x.dst≠DN)->through DN l=l|[],_=>rfl|a::l,h=>by unfold through;rw[ah (h 0 a rfl),Vj λj x hx=>h (j+1) x hx]
theorem agK(hN:(l.map λf=>f.num).Nodup)(f:aw):((bU l f).map λg=>g.num).Nodup:=(rm hN).sublist (ia _ gd)
theorem Vk(l:List aw)(f:aw):(bU l f).length<=l.length:=aZ (e_ _ _) (g9 l)
abbrev Lr:aV:=top 49
theorem DO:bu ["house","row","first","answer","flight"] ["house","row"] (bb Lr):=bC
theorem agL(F:bh K "cancel_flights" "cancel_flights" Lr f fd)(T:Txt K mg A)(fu:dm P w K mg base A.CF "is_open" 1 ["self"] (og A))(iw:dm P w K mg base A.CH "flying" 4 ["self"] (tQ A))(tV:Glob P w K mg base "flown_from" 2 ["flying","tails","first"] (JQ A K)) (Ls:Glob P w K mg base "cancel_one" 7 ["house","flight"] (Vf A)):
  aX P w K mg base bc 8 f fd ["house","row"] (fN A K λns c=>∃n:Nat,ns=[(n:Int)]/\c=.cancel n):=by
 refine F.bH DO λH vs Q E hr hu h=>?_;obtain⟨L,s,r,ns,c,rfl,hH,hG,hB,hR,⟨n,rfl,rfl⟩,k⟩:=h
 refine⟨_,(aq (bo (dB (f9 hu (bz K (pv 1) aJ) (au K (pv 0)))) (az (aK (bw (ax (cn (T.kH)))))) bt) (aq (bf 2 DO.nd (cC hu (au K (pv 0)) (bz K (pv 1) aJ)))
   (aq (bo (gY (dj (fk (pv 2) T.cF fu hr))) (az (aK (bw (ax (cn (T.ir)))))) bt)
   (aq (bf 3 DO.nd (bw (ax aJ)))
   (aq (gn (fV (bK tV hr (aM (fk (pv 0) T.cH iw hr) (aM (au K (pv 0)) (ax (pv 2)))))) (c7 4 DO.nd) (aq (jk (bK Ls hr (aM (pv 0) (ax (pv 4)))))
   (aq (jk (yW (pv 3) (au K (pv 4))))
   (az (bo (dS mB (au K (pv 4)) (au K (pv 2))) (az aba) bt)))))
   (az (aK (pv 3)))))))),?_⟩
 refine⟨_,rfl,_,_,_,_,rfl,rfl,hR,rfl,_,rfl,ek T hH.ho ⟨_,_,rfl,bq (.inl hH.fl.fl) (eZ _ n),_,rfl,?_⟩⟩;cases hf:eM s.flights n with
 |none=>exact aY ⟨by decide,λp np=>k.ret hH (ans:=[-3]) (by show bQ s n _=_;unfold bQ flight;rw[hf]) .refl p np⟩|some f=>
  obtain⟨hm,en⟩:=gu hf;have hO:=hH.fl.bB f hm;obtain⟨dx,hx⟩:=id hO;have st:step s (.cancel n)=(if bV f=false then(s,[-7])else(fw s (eN s.flights f),0::Vbahaj.ints (eN s.flights f))):=by show bQ s n _=_;unfold bQ flight;rw[hf];rfl
  refine bp ⟨_,rfl,ek T hH.ho ⟨_,rfl,_,_,_,_,rfl,rfl,hR,rfl,_,_,rfl,bq (.inl hH.fl.fl) (by rw[eZ,hf];rfl),_,rfl,_,dx,_,rfl,hx,rfl,_,f,_,rfl,hO,_,rfl,?_⟩⟩;cases ho:bV f with
  |false=>exact aY ⟨by decide,λp np=>k.ret hH (ans:=[-7]) (by rw[st,aj ho]) .refl p np⟩|true=>
   rw[ah (by rw[ho];decide)]at st;have ue:=Lj hm ho;refine bp ⟨by show 1<=aS;decide,λq nq=>?_⟩;have s0:aC H (upd H q (.lst [.int 0])):=bL nq;have Lu:(upd H q (.lst [.int 0])) q=some (.lst [.int 0]):=ao;generalize upd H q (.lst [.int 0])=H0 at s0 Lu;have jb:=hH.same s0;obtain⟨dh,hh⟩:=id jb.ho;refine⟨_,rfl,_,dh,_,rfl,hh,rfl,L.h,s.now,_,_,_,_,L.fa,L.fe,s.flights,rfl,jb.ho,jb.fl.fl,jb.fl.bB,hG.fl.nd,aZ hG.fl.len (by decide),λH1 p s1 np hp=>?_⟩;have bP:=jb.same s1;refine⟨_,rfl,lN T bP.ho ⟨_,rfl,p,_,_,L.fa,L.fe,aN s.flights,f,rfl,aE.of hp,bP.fl.bB.sub cq,ue,.inl bP.fl.tl,(rp hG.fl.nd).sub cq,aZ (g9 _) (aZ hG.fl.len (by decide)),λH2 p2 s2 wt d_=>?_⟩⟩;rw[<-JL hG.fl.nd ue]at d_;have gJ:aC H H2:=s0.trans (s1.trans s2);have zU:H p2=none:=s0.free (s1.free wt);have rh:H2 q=some (.lst [.int 0]):=s2 _ _ (s1 _ _ Lu);have a0:After A H H2 L L s (fw s []):=by rw[agE];exact .of hH (.of gJ)
   have CZ:q≠p2:=ba (s1 _ _ Lu) wt;have iI:=agK hG.fl.nd f;have SA:(bU s.flights f).length<=24:=aZ (Vk _ _) hG.fl.len
   have fin:∀H' mN,After A H H' L L s (fw s mN)->H' q=some (.lst ((0::Vbahaj.ints mN).map V.int))->eN s.flights f=mN->Q (.ref q) H':=λH' mN a sW e=>k.fin (by rw[st,e]) a nq sW
   refine⟨p2,rfl,⟨_,aE.of d_⟩,gp fX (λi σ H'=>∃v4,σ=[some (.ref L.h),some (.ref r),some (.ref (L.fa f.num)),some (.ref q),v4]/\H' p2=some (.lst ((bU s.flights f).map λg=>V.ref (L.fa g.num)))/\H' q=some (.lst ((0::Vbahaj.ints (((bU s.flights f).take i).map λg=>g.num)).map V.int))/\After A H H' L L s (fw s (((bU s.flights f).take i).map λg=>g.num))/\∀(j:Nat)x,j<i->(bU s.flights f)[j]? =some x->x.dst≠f.src)
    ⟨none,rfl,d_,rh,a0,λj x hj=>absurd hj (uM _)⟩ (λi σ H' _⟨_,_,h,_⟩=>aE.of h) ?_ ?_⟩
   ·rintro i v σ H3 H4 hi ⟨v4,rfl,e1,e2,a3,e4⟩ ⟨rfl,hv⟩
    obtain⟨g,hg,rfl⟩:=el hv;have j0:g∈s.flights:=cq g (zk (du hg)).1;have oy:(((bU s.flights f).take i).map λg=>g.num).contains g.num=false:=by cases hc:(((bU s.flights f).take i).map λg=>g.num).contains g.num with
     |false=>rfl|true=>
      rw[fD]at hc;obtain⟨y,hy,ey⟩:=aB.mp hc;obtain⟨j,hj,ej⟩:=h_ hy;rw[jd]at hj;have jn:(bU s.flights f)[j]? =some y:=by rw[<-ej,oK];exact dY (by lia)
      have:=vM iI jn hg ey;lia
    have zV:g∈(fw s (((bU s.flights f).take i).map λg=>g.num)).flights:=aB.mpr ⟨g,j0,by rw[ah (by rw[oy];decide)]⟩;have d4:=a3.at_;refine⟨_,rfl,_,rfl,L,_,g,rfl,d4,a3.tabs hB,hG.agG.cm _,zV,hG.pos g j0,λH5 a4=>?_⟩;have a5:=a3.trans a4;rw[agF (hG.pos g j0)]at a5;have Vl:(((bU s.flights f).take i).map λg=>g.num)++[g.num]=((bU s.flights f).take (i+1)).map λg=>g.num:=by rw[take_snoc hg,bS];rfl
    rw[Vl]at a5;have nOq:¬Own L (fw s (((bU s.flights f).take i).map λg=>g.num)) q:=λz=>by
     obtain⟨u,hu⟩:=d4.there z;rcases z with z|z|⟨d,hd,z⟩|⟨m,m5,z⟩|⟨m,m5,z⟩
     ·obtain⟨dy,y⟩:=hH.ho;rw[<-z,nq]at y;cases y
     ·obtain⟨ws,y,_⟩:=hH.st;rw[<-z,nq]at y;cases y
     ·have sO:d7 s d:=by cases d with
       |fe m=>have hd:m∈(fw s _).flights.map _:=hd;rw[wC]at hd;exact hd|un m=>have hd:m∈(fw s _).pax.map _:=hd;rw[zT]at hd;exact hd|df=>exact hd|dt=>exact hd|dp=>exact hd
      obtain⟨u,y⟩:=hH.there (mY (L:=L) sO);rw[<-z,nq]at y;cases y
     ·rw[wC]at m5
      obtain⟨y,hy,ey⟩:=aB.mp m5;obtain⟨dy,y2⟩:=hH.fl.bB y hy;rw[ey,<-z,nq]at y2;cases y2
     ·rw[zT]at m5
      obtain⟨y,hy,ey⟩:=aB.mp m5;obtain⟨dy,y2⟩:=hH.px.px y hy;rw[ey,<-z,nq]at y2;cases y2
    have Lv:¬Own L (fw s (((bU s.flights f).take i).map λg=>g.num)) p2:=λz=>by
     rcases z with z|z|⟨d,hd,z⟩|⟨m,m5,z⟩|⟨m,m5,z⟩
     ·obtain⟨dy,y⟩:=hH.ho;rw[<-z,zU]at y;cases y
     ·obtain⟨ws,y,_⟩:=hH.st;rw[<-z,zU]at y;cases y
     ·have sO:d7 s d:=by cases d with
       |fe m=>have hd:m∈(fw s _).flights.map _:=hd;rw[wC]at hd;exact hd|un m=>have hd:m∈(fw s _).pax.map _:=hd;rw[zT]at hd;exact hd|df=>exact hd|dt=>exact hd|dp=>exact hd
      obtain⟨u,y⟩:=hH.there (mY (L:=L) sO);rw[<-z,zU]at y;cases y
     ·rw[wC]at m5
      obtain⟨y,hy,ey⟩:=aB.mp m5;obtain⟨dy,y2⟩:=hH.fl.bB y hy;rw[ey,<-z,zU]at y2;cases y2
     ·rw[zT]at m5
      obtain⟨y,hy,ey⟩:=aB.mp m5;obtain⟨dy,y2⟩:=hH.px.px y hy;rw[ey,<-z,zU]at y2;cases y2
    have rN:=a4.fr _ _ e2 nofun nOq;have DP:=a4.fr _ _ e1 nofun Lv;have rO:=a5.at_;have uh:g.num∈(((bU s.flights f).take (i+1)).map λg=>g.num):=by rw[take_snoc hg];simp
    have Vm:{g with cancelled:=true}∈(fw s (((bU s.flights f).take (i+1)).map λg=>g.num)).flights:=aB.mpr ⟨g,j0,by rw[aj (fD.mpr uh)]⟩;have hO5:=rO.fl.bB _ Vm;refine⟨_,rfl,.inl ⟨rfl,_,aE.of rN⟩,_,rfl,dn T hO5 ⟨q,_,_,rfl,rfl,rN,?_,?_⟩⟩
    ·rw[aD]
     show(Vbahaj.ints _).length+1<aS;unfold Vbahaj.ints;rw[aD,aD];have:=k5 i (bU s.flights f);have:1000<=aS:=by decide
     lia
    ·have a6:=a5.uf hH (ys:=(0::Vbahaj.ints (((bU s.flights f).take i).map λg=>g.num)).map V.int++[V.int (g.num:Nat)]) nq rN
     have Vn:(upd H5 q (.lst ((0::Vbahaj.ints (((bU s.flights f).take i).map λg=>g.num)).map V.int++[V.int (g.num:Nat)]))) p2=some (.lst ((bU s.flights f).map λg=>V.ref (L.fa g.num))):=by rw[ak CZ.symm];exact DP
     have Lw:(upd H5 q (.lst ((0::Vbahaj.ints (((bU s.flights f).take i).map λg=>g.num)).map V.int++[V.int (g.num:Nat)]))) q=some (.lst ((0::Vbahaj.ints (((bU s.flights f).take (i+1)).map λg=>g.num)).map V.int)):=by rw[ao,<-Vl];unfold Vbahaj.ints;simp
     have a6:After A H (upd H5 q (.lst ((0::Vbahaj.ints (((bU s.flights f).take i).map λg=>g.num)).map V.int++[V.int (g.num:Nat)]))) L L s _:=a6;generalize upd H5 q (.lst ((0::Vbahaj.ints (((bU s.flights f).take i).map λg=>g.num)).map V.int++[V.int (g.num:Nat)]))=H6 at a6 Vn Lw;have ui:=a6.at_;have hO6:=ui.fl.bB _ Vm
     obtain⟨f6,hf6,enf,esf⟩:∃f6,f6∈(fw s (((bU s.flights f).take (i+1)).map λg=>g.num)).flights/\f6.num=f.num/\f6.src=f.src:=by
      by_cases Ia:(((bU s.flights f).take (i+1)).map λg=>g.num).contains f.num=true
      ·exact⟨{f with cancelled:=true},aB.mpr ⟨f,hm,by rw[aj Ia]⟩,rfl,rfl⟩
      ·exact⟨f,aB.mpr ⟨f,hm,by rw[ah Ia]⟩,rfl,rfl⟩
     have Vo:=ui.fl.bB f6 hf6;rw[enf]at Vo;refine⟨_,rfl,vG T hO6 ⟨_,rfl,qX T Vo ⟨rfl,_,rfl,dO (λh1=>?_) λh1=>?_⟩⟩⟩
     ·have h1:g.dst=f.src:=by have h1:V.int (g.dst:Int)=V.int (f6.src:Int):=h1;have:=V.int.inj h1;lia
      refine⟨_,rfl,fin H6 _ a6 Lw ?_⟩;unfold eN;rw[Vi hg h1 e4]
     ·have h1:¬g.dst=f.src:=λz=>h1 (by show V.int (g.dst:Int)=V.int (f6.src:Int);rw[esf,z])
      refine⟨_,rfl,Vn,Lw,a6,λj x hj hx=>?_⟩;by_cases e:j=i
      ·subst e
       rw[hg]at hx;cases hx;exact h1
      ·exact e4 j x (by lia) hx
   ·rintro σ H3 ⟨v4,rfl,e1,e2,a3,e4⟩
    rw[aD]at e2 a3 e4;rw[dQ]at e2 a3;refine⟨_,rfl,fin H3 _ a3 e2 ?_⟩;unfold eN;rw[Vj λj x hx=>e4 j x (eo.mp hx).1 hx]
theorem agM(h0:aE K H r xs)(nq:H q=none)(h:aE K H' r xs):aE K (upd H' q o) r xs:=by
 rcases h0 with(e|⟨u,e⟩)|e
 ·exact Tz h λu z=>by rw[ak (ba e nq)];exact z
 ·exact Tz h λu z=>by rw[ak (ba e nq)];exact z
 ·exact .inr e
theorem Vp(now:Nat)(l:List aw)(hi:i<=(aN l).length):(cG now l i).length=i:=by have h:=eW k6 (mU now l i);rw[aD,aD,jd]at h;lia
theorem agN{now:Nat}{l:List aw}{i:Nat}{f:aw}(hf:(aN l)[i]? =some f):(times now l)[i]? =some (jU now l (cG now l i) f):=by have hi:=(eo.mp hf).1;obtain⟨us,e⟩:=TQ (now:=now) (l:=l) (i:=i+1) hi;rw[e,vR hf,l_,oI (by rw[Vp now l (jz hi)];exact bM _),Vp now l (jz hi),Fy];rfl
def cX(ts:List Time)(f:aw):aw:=match bG ts f.num with|some t=>{f with left:=some t.leave}|none=>f
theorem Lx(ts:List Time)(f:aw):(cX ts f).num=f.num:=by unfold cX;split<;>rfl
theorem Vq{ts:List Time}{f:aw}(h:f.num∉ts.map λt=>t.num):cX ts f=f:=by unfold cX;rw[oh.mpr h]
def eJ(s:State)(n:Nat)(t:Time):Bool:=decide (t.leave<=n)&&((flight s t.num).any bV)
theorem zW(s:State)(n:Nat):leaving s n=lg mj ((times s.now s.flights).filter (eJ s n)):=rfl
theorem agO(hN:(ts.map λt=>t.num).Nodup)(p:ts.Perm us)(n:Nat):bG ts n=bG us n:=by have zq:(us.map λt=>t.num).Nodup:=(p.map _).nodup_iff.mp hN;cases h:bG ts n with|none=>rw[oh]at h;symm;rw[oh];intro z;exact h ((p.map _).mem_iff.mpr z)|some t=>obtain⟨h1,h2⟩:=kL h;have:=oj zq (p.mem_iff.mp h1);rw[h2]at this;exact this.symm
def uj(fa:Nat->af)(ts:List Time)(v:V):List Int:=match ts.find? λt=>decide (V.ref (fa t.num)=v)with|some t=>[(t.leave:Int),(t.num:Int)]|none=>[]
theorem DQ(inj:∀t u,t∈ts->u∈ts->fa t.num=fa u.num->t=u)(ht:t∈ts):uj fa ts (V.ref (fa t.num))=[(t.leave:Int),(t.num:Int)]:=by unfold uj;cases e:ts.find? λu=>decide (V.ref (fa u.num)=V.ref (fa t.num))with|none=>have:=iR.mp e t ht;simp at this|some u=>have h1:=iA e;have h2:=gU e;have h3:V.ref (fa u.num)=V.ref (fa t.num):=nj h2;rw[inj u t h1 ht (V.ref.inj h3)]
theorem agP(hN:(ts.map λt=>t.num).Nodup)(inj:∀t u,t∈ts->u∈ts->fa t.num=fa u.num->t=u)(p:ys.Perm (ts.map λt=>V.ref (fa t.num)))(hp:ys.Pairwise λa b=>HT.lexLt (uj fa ts b) (uj fa ts a)=false):ys=(lg mj ts).map λt=>V.ref (fa t.num):=by
 obtain⟨l',p',rfl⟩:=zf p rfl;have tO:(l'.map λf=>f.num).Nodup:=(p'.map _).nodup_iff.mpr hN;have e:l'=lg mj ts:=by
  refine vQ (R:=λa b=>mj a b=true) (λa b h1 h2=>by rw[zA]at *;lia) (p'.trans (ju _ ts).symm) ?_ (Ku (λa b c h1 h2=>by rw[zA]at *;lia) (λa b h=>by rw[zA,zA];lia) hN);rw[j6]at hp;have d_:l'.Pairwise λa b=>HT.lexLt (uj fa ts (V.ref (fa b.num))) (uj fa ts (V.ref (fa a.num)))=false/\a.num≠b.num:=by refine hp.and ?_;have:(l'.map λf=>f.num).Pairwise (·≠·):=tO;rw[j6]at this;exact this
  refine d_.imp_of_mem λ{a b}ha hb h1=>?_;obtain⟨h1,h2⟩:=h1;rw[DQ inj (p'.mem_iff.mp ha),DQ inj (p'.mem_iff.mp hb),zg]at h1;rw[zA];simp at h1;lia
 rw[e]
section
variable{A:Ad}{H0 H:Hp}{L:Lay}{s:State}
theorem b0.Ly(h:b0 A H L s){φ:bj->bj}(h1:∀q,(φ q).x=q.x)(h2:∀q,(φ q).on=q.on)(h3:∀q,(φ q).refuses=q.refuses)(h4:∀q u v,eY (φ q) u v=eY q u v):b0 A H L {s with pax:=s.pax.map φ}:=by
 have ex:((s.pax.map φ).map λq=>q.x)=s.pax.map λq=>q.x:=by rw[dv];exact dE λq _=>h1 q
 refine⟨h.ho,h.fl,⟨?_,λq hq=>?_,λq hq=>?_⟩,h.st,λa b ha hb=>h.inj a b ?_ ?_⟩
 ·show H (L.D .dp)=some (.dK (bT L.pa (s.pax.map φ)))
  have:bT L.pa (s.pax.map φ)=bT L.pa s.pax:=by unfold bT;rw[dv];refine dE λq _=>?_;show((ay (((φ q).x:Nat):Int):Key),V.ref (L.pa (φ q).x))=_;rw[h1]
  rw[this];exact h.px.pd
 ·obtain⟨r,hr,rfl⟩:=aB.mp (show q∈s.pax.map φ from hq)
  obtain⟨dx,z⟩:=h.px.px r hr;refine⟨dx,?_⟩;rw[h1,h2,h4];exact z
 ·obtain⟨r,hr,rfl⟩:=aB.mp (show q∈s.pax.map φ from hq)
  rw[h1,h3];exact h.px.un r hr
 ·cases a with
  |un n=>have ha:n∈(s.pax.map φ).map _:=ha;rw[ex]at ha;exact ha|fe n=>exact ha|df=>exact ha|dt=>exact ha|dp=>exact ha
 ·cases b with
  |un n=>have hb:n∈(s.pax.map φ).map _:=hb;rw[ex]at hb;exact hb|fe n=>exact hb|df=>exact hb|dt=>exact hb|dp=>exact hb
theorem After.Ly(a:After A H0 H L L' s s'){φ:bj->bj}(h1:∀q,(φ q).x=q.x)(h2:∀q,(φ q).on=q.on)(h3:∀q,(φ q).refuses=q.refuses)(h4:∀q u v,eY (φ q) u v=eY q u v):After A H0 H L L' s {s' with pax:=s'.pax.map φ}:=by
 have ex:((s'.pax.map φ).map λq=>q.x)=s'.pax.map λq=>q.x:=by rw[dv];exact dE λq _=>h1 q
 refine⟨a.at_.Ly h1 h2 h3 h4,a.h,a.fr,λb hb=>a.own b ?_,a.tabs,a.free⟩;rcases hb with hb|hb|⟨k,hk,hb⟩|hb|⟨n,hn,hb⟩
 ·exact .inl hb
 ·exact .inr (.inl hb)
 ·refine .inr (.inr (.inl ⟨k,?_,hb⟩))
  cases k with
  |un n=>have hk:n∈(s'.pax.map φ).map _:=hk;rw[ex]at hk;exact hk|fe n=>exact hk|df=>exact hk|dt=>exact hk|dp=>exact hk
 ·exact .inr (.inr (.inr (.inl hb)))
 ·have hn:n∈(s'.pax.map φ).map _:=hn
  rw[ex]at hn;exact .inr (.inr (.inr (.inr ⟨n,hn,hb⟩)))
theorem After.agQ(h:b0 A H L s)(e:H L.h=some (.ins A.CH dx (bA s.now (L.D .df) (L.D .dt) (L.D .dp) L.ls))):After A H (L2.upd H L.h (.ins A.CH dx (bA n (L.D .df) (L.D .dt) (L.D .dp) L.ls))) L L s {s with now:=n}:=by
 refine .upd ⟨⟨dx,ao⟩,⟨?_,?_,λy hy=>?_,λy hy=>?_⟩,⟨?_,λr hr=>?_,λr hr=>?_⟩,?_,h.inj⟩ (.inl rfl) e nofun nofun λb hb=>hb
 ·exact aT e h.fl.fl nofun
 ·exact aT e h.fl.tl nofun
 ·obtain⟨dy,z⟩:=h.fl.bB y hy
  exact⟨dy,aT e z (Ne.symm C9)⟩
 ·obtain⟨kf,z1,z2⟩:=h.fl.feeds y hy
  exact⟨kf,aT e z1 nofun,z2.keep λt zs z=>aT e z nofun⟩
 ·exact aT e h.px.pd nofun
 ·obtain⟨dy,z⟩:=h.px.px r hr
  exact⟨dy,aT e z (Ne.symm C_)⟩
 ·exact aT e (h.px.un r hr) nofun
 ·obtain⟨vs,z1,z2⟩:=h.st
  exact⟨vs,aT e z1 nofun,z2.keep λt zs z=>aT e z nofun⟩
end
abbrev DR:aV:=top 52
theorem wF:bu ["house","row","stands","gone","flight"] ["house","row"] (bb DR):=bC
def agR:a_->a_|.BinOp _ _ b _=>b|e=>e
def agS:a_->a_|.ListComp _ [c] _ _=>c.iter|e=>e
def DT:kc×a_×dZ:=Dm (Dn (agS (agR (Kh ((iG DR).getD 5 (.Pass ⟨0,0,0,0⟩))))))
theorem agT:bu ["flight"] ["flight"] DT.2.2:=⟨rfl,rfl,rfl,by decide +kernel,rfl,by decide +kernel,by decide +kernel⟩
theorem agU(F:bh K "move_clock" "move_clock" DR f fd)(T:Txt K mg A)(B:lK mg base)(hC:∃c,fd.code=.ref c/\jD base c A.P4)(fu:dm P w K mg base A.CF "is_open" 1 ["self"] (og A))(iw:dm P w K mg base A.CH "flying" 4 ["self"] (tQ A))(ft:Glob P w K mg base "house_stands" 7 ["house"] (om A)):aX P w K mg base bc 8 f fd ["house","row"] (fN A K λns c=>∃n:Nat,ns=[(n:Int)]/\c=.clock n):=by
 obtain⟨cc,lp,t7⟩:=hC;refine F.Dg wF (λvs H Q E h=>?_) (λdc A0 outer s0 H vs Q E fT hr h=>?_)
 ·obtain⟨L,s,r,ns,c,rfl,_⟩:=h
  rfl
 ·obtain⟨L,s,r,ns,c,rfl,hH,hG,hB,hR,⟨n,rfl,rfl⟩,k⟩:=h
  rw[lp]at fT;have hu:=vL hr
  refine⟨_,(aq (bo (dS jK (bz K (pv 1) aJ) (au K (pv 0))) (az (aK (bw (ax (cn (T.n9)))))) bt) (aq (bf 2 wF.nd (bK ft hr (ax (pv 0))))
   (aq (bf 3 wF.nd (bw mE))
   (aq (gn (fV (fk (pv 0) T.cH iw hr)) (c7 4 wF.nd) (az (bo (PW.pt (aa2 (dj (fk (pv 4) T.cF fu hr)) (aa1 (dS jK (au K (cC hu (pv 2) (au K (pv 4)))) (bz K (pv 1) aJ))))) (aq (c8 (pv 4) (au K (cC hu (pv 2) (au K (pv 4)))))
   (az (jk (yW (pv 3) (pv 4))))) bt)))
   (aq (c8 (pv 0) (bz K (pv 1) aJ))
   (az (aK (fg Hg (bw (ax aJ)) (jR [("flight",4)] wF.nd (fV (Cj (run:=λf _=>Ck ["flight"] q4 DT.1 DT.2.1 DT.2.2 (BM (mD (o6 K (nR 0) "left") (mD (o6 K (nR 0) "number") lu))) f) rfl (by rfl) T.sorted (ax (pv 3)) (yp (Ib (q:=q4) B fT.symm t7 (by rfl)) yo) (λf σ=>Ii (x:="flight") (k:=0) agT (hr.mono (by decide)) (λ_ _ _ _=>rfl) (λf c A outer s H hr=>vh (aM (au K (pv 0)) (aM (au K (pv 0)) mE))) f σ))) (c7 4 wF.nd) s_ (au K (pv 4))))))))))),?_⟩
  have Lz:step s (.clock n)=(if n<=s.now then(s,[-8])else({s with now:=n,flights:=s.flights.map (cX (leaving s n)),pax:=s.pax.map λq=>if(bG (leaving s n) q.on).isSome=true then{q with flown:=true}else q},0::Vbahaj.ints ((leaving s n).map λt=>t.num))):=by show(if n<=s.now then _ else _)=_;congr 1
  refine⟨_,rfl,_,_,_,_,rfl,rfl,hR,rfl,_,rfl,n_ T hH.ho ⟨_,_,rfl,rfl,_,rfl,dO (λh1=>?_) λh1=>?_⟩⟩
  ·have h1:n<=s.now:=by have h1:(n:Int)<=s.now:=h1;lia
   exact⟨by decide,λp np=>k.ret hH (ans:=[-8]) (by rw[Lz,aj h1]) .refl p np⟩
  ·have h1:¬n<=s.now:=by have h1:¬(n:Int)<=s.now:=h1;lia
   rw[ah h1]at Lz;refine⟨_,rfl,L.h,s.now,_,_,_,_,L.fa,L.fe,s.flights,rfl,hH.ho,hH.fl,hG.fl,λH1 p kvs sa c s1 np hp hs jX=>⟨by show 0<=aS;decide,λq nq=>?_⟩⟩;have bP:=hH.same s1;have jY:=s1.seq hR;have pY:=Dt (now:=s.now) hG.fl.nd;have LA:aC H1 (upd H1 q (.lst [])):=bL nq;have pQ:(upd H1 q (.lst [])) q=some (.lst []):=ao;generalize upd H1 q (.lst [])=Hq at LA pQ;have DU:=bP.same LA;obtain⟨dh,hh⟩:=id DU.ho;refine⟨_,rfl,_,dh,_,rfl,hh,rfl,L.h,s.now,_,_,_,_,L.fa,L.fe,s.flights,rfl,DU.ho,DU.fl.fl,DU.fl.bB,hG.fl.nd,aZ hG.fl.len (by decide),λH2 pf s2 Vr uk=>?_⟩;have gJ:aC H1 H2:=LA.trans s2;have nqf:q≠pf:=ba pQ Vr;have Lv:∀{b:af},H b=none->¬Own L s b:=λ{b}hb z=>by obtain⟨u,hu⟩:=hH.there z;rw[hb]at hu;cases hu
   have npH:H p=none:=np
   have stk:∀H' s',After A H1 H' L L s s'->H' p=some (.dK kvs)/\gq A H' kvs sa (times s.now s.flights) c:=λH' s' a=>by
    refine⟨a.fr _ _ hp nofun (Lv npH),hs.eq,λt ht=>?_⟩;obtain⟨dx,e⟩:=hs.at_ t ht;refine⟨dx,a.fr _ _ e nofun λz=>?_⟩;rcases z with z|z|⟨d,hd,z⟩|⟨m,hm,z⟩|⟨m,hm,z⟩
    ·obtain⟨dy,y⟩:=bP.ho
     rw[<-z,e]at y;have:=cM.inj y;injection this with _ _ y2
     unfold qW bA at y2;injection y2 with y3 _
     injection y3 with y4 _
     exact absurd y4 (by decide)
    ·obtain⟨ws,y,_⟩:=bP.st;rw[<-z,e]at y;cases y
    ·cases d with
     |df=>have y:=bP.fl.fl;rw[<-z,e]at y;cases y|dt=>have y:=bP.fl.tl;rw[<-z,e]at y;cases y|dp=>have y:=bP.px.pd;rw[<-z,e]at y;cases y|fe m=>obtain⟨x,hx,ex⟩:=aB.mp hd;obtain⟨kf,y,_⟩:=bP.fl.feeds x hx;rw[ex]at y;have y:H1 (L.D (.fe m))=_:=y;rw[<-z,e]at y;cases y|un m=>obtain⟨x,hx,ex⟩:=aB.mp hd;have y:=bP.px.un x hx;rw[ex]at y;have y:H1 (L.D (.un m))=_:=y;rw[<-z,e]at y;cases y
    ·obtain⟨x,hx,ex⟩:=aB.mp hm
     obtain⟨dy,y⟩:=bP.fl.bB x hx;rw[ex,<-z,e]at y;have:=cM.inj y;injection this with _ _ y2
     unfold qW d5 at y2;injection y2 with y3 _
     injection y3 with y4 _
     exact absurd y4 (by decide)
    ·obtain⟨x,hx,ex⟩:=aB.mp hm
     obtain⟨dy,y⟩:=bP.px.px x hx;rw[ex,<-z,e]at y;have:=cM.inj y;injection this with _ _ y2
     unfold qW eY at y2;injection y2 with y3 _
     injection y3 with y4 _
     exact absurd y4 (by decide)
   have a0:After A H1 H2 L L s {s with flights:=s.flights.map (cX (((times s.now s.flights).take 0).filter (eJ s n)))}:=by
    have:s.flights.map (cX (((times s.now s.flights).take 0).filter (eJ s n)))=s.flights:=by
     conv=>rhs;rw[<-xt s.flights]
     exact dE λf _=>Vq (by simp)
    rw[this];exact .of bP (.of gJ)
   refine⟨pf,rfl,⟨_,aE.of uk⟩,gp fX (λi σ H'=>∃v4,σ=[some (.ref L.h),some (.ref r),some (.ref p),some (.ref q),v4]/\aE K H' r ([(n:Int)].map V.int)/\H' pf=some (.lst ((aN s.flights).map λf=>V.ref (L.fa f.num)))/\H' q=some (.lst ((((times s.now s.flights).take i).filter (eJ s n)).map λt=>V.ref (L.fa t.num)))/\After A H1 H' L L s {s with flights:=s.flights.map (cX (((times s.now s.flights).take i).filter (eJ s n)))})
    ⟨none,rfl,gJ.seq jY,uk,s2 _ _ pQ,a0⟩ (λi σ H' _⟨_,_,_,h,_⟩=>aE.of h) ?_ ?_⟩
   ·rintro i v σ H4 H3 hi ⟨v4,rfl,er,e1,e2,a3⟩ ⟨rfl,hv⟩
    obtain⟨f,hf,rfl⟩:=el hv;have gx:f∈s.flights:=cq f (du hf);have um:=agN (now:=s.now) hf;generalize JW:jU s.now s.flights (cG s.now s.flights i) f=t at um;have wG:t.num=f.num:=by rw[<-JW];rfl
    have uc:t∈times s.now s.flights:=du um;have wH:bG (times s.now s.flights) f.num=some t:=by rw[<-wG];exact oj pY uc
    have oy:f.num∉(((times s.now s.flights).take i).filter (eJ s n)).map λt=>t.num:=λz=>by
     obtain⟨u,hu,eu⟩:=aB.mp z;have hu:=(ck.mp hu).1;obtain⟨j,hj,ej⟩:=h_ hu;rw[jd]at hj;have jn:(times s.now s.flights)[j]? =some u:=by rw[<-ej,oK];exact dY (by lia)
     have:=vw pY (i:=j) (j:=i) (x:=f.num) (by rw[fz,jn,<-eu];rfl) (by rw[fz,um,<-wG];rfl);lia
    have DV:f∈s.flights.map (cX (((times s.now s.flights).take i).filter (eJ s n))):=aB.mpr ⟨f,gx,Vq oy⟩;have d4:=a3.at_;have hO:=d4.fl.bB f DV;obtain⟨dx,hx⟩:=id hO;obtain⟨t5,tj⟩:=stk _ _ a3;have f_:=tj.at_ t uc;have eg:eJ s n t=(bV f&&decide (t.leave<=n)):=by unfold eJ flight;rw[wG,jV hG.fl.nd gx,E6];rfl
    have stay:eJ s n t=false->∃v4,[some (V.ref L.h),some (.ref r),some (.ref p),some (.ref q),some (.ref (L.fa f.num))]=[some (.ref L.h),some (.ref r),some (.ref p),some (.ref q),v4]/\aE K H3 r ([(n:Int)].map V.int)/\H3 pf=some (.lst ((aN s.flights).map λf=>V.ref (L.fa f.num)))/\H3 q=some (.lst ((((times s.now s.flights).take (i+1)).filter (eJ s n)).map λt=>V.ref (L.fa t.num)))/\After A H1 H3 L L s {s with flights:=s.flights.map (cX (((times s.now s.flights).take (i+1)).filter (eJ s n)))}:=λhg=>by
     have e5:((times s.now s.flights).take (i+1)).filter (eJ s n)=((times s.now s.flights).take i).filter (eJ s n):=by rw[take_snoc um,fy,bX,ah (by rw[hg];decide),gL,je]
     rw[e5];exact⟨_,rfl,er,e1,e2,a3⟩
    refine⟨_,rfl,_,dx,_,rfl,hx,rfl,_,f,_,rfl,hO,_,rfl,?_⟩;cases ho:bV f with
    |false=>exact bp (bp (stay (by rw[eg,ho];rfl)))|true=>
     refine aY ⟨_,rfl,_,rfl,dn T hO ⟨p,_,rfl,bq (.inl t5) (by rw[hs.eq,iu,wH];rfl),vK T f_ ⟨_,rfl,_,_,_,_,rfl,rfl,er,rfl,_,_,rfl,rfl,_,rfl,dO (λh2=>?_) λh2=>?_⟩⟩⟩
     ·have h2:t.leave<=n:=by have h2:(t.leave:Int)<=n:=h2;lia
      have hg:eJ s n t=true:=by rw[eg,ho,dX h2];rfl
      refine⟨_,rfl,_,rfl,dn T hO ⟨p,_,rfl,bq (.inl t5) (by rw[hs.eq,iu,wH];rfl),vK T f_ ⟨_,rfl,_,_,dx,_,rfl,hx,T.cF,T.IM,(by show 13<1000;decide),?_⟩⟩⟩;have hN3:((s.flights.map (cX (((times s.now s.flights).take i).filter (eJ s n)))).map λf=>f.num).Nodup:=by rw[dv];have:(s.flights.map ((λf=>f.num)∘cX (((times s.now s.flights).take i).filter (eJ s n))))=s.flights.map λf=>f.num:=dE λx _=>Lx _ x;rw[this];exact hG.fl.nd
      have a4:After A H3 (upd H3 (L.fa f.num) (.ins A.CF dx (bO "left" (V.int (t.leave:Nat)) (d5 f (L.fe f.num))))) L L {s with flights:=s.flights.map (cX (((times s.now s.flights).take i).filter (eJ s n)))} (cT {s with flights:=s.flights.map (cX (((times s.now s.flights).take i).filter (eJ s n)))} {f with left:=some t.leave}):=After.v_ d4 hN3 DV (f':={f with left:=some t.leave}) rfl rfl rfl hx;have e5:((times s.now s.flights).take (i+1)).filter (eJ s n)=((times s.now s.flights).take i).filter (eJ s n)++[t]:=by rw[take_snoc um,fy,bX,aj hg,gL]
      have es:cT {s with flights:=s.flights.map (cX (((times s.now s.flights).take i).filter (eJ s n)))} {f with left:=some t.leave}={s with flights:=s.flights.map (cX (((times s.now s.flights).take (i+1)).filter (eJ s n)))}:=by
       unfold cT;congr 1;show(s.flights.map _).map _=_;rw[dv,e5];refine dE λx hx=>?_;show(if(cX _ x).num=f.num then({f with left:=some t.leave}:aw)else cX _ x)=cX (_++[t]) x;rw[Lx];by_cases h3:x.num=f.num
       ·rw[aj h3]
        have:=ja hG.fl.nd hx gx h3;subst this;unfold cX;have h4:bG (((times s.now s.flights).take i).filter (eJ s n)++[t]) x.num=some t:=by have h5:=oh.mpr oy;unfold bG at h5⊢;rw[qm,h5,OP,xj (by rw[wG];exact oH _)]
        rw[h4]
       ·rw[ah h3]
        unfold cX;have h4:bG (((times s.now s.flights).take i).filter (eJ s n)++[t]) x.num=bG (((times s.now s.flights).take i).filter (eJ s n)) x.num:=by unfold bG;rw[qm,AF (by rw[wG];intro z;exact h3 (eq_of_beq z).symm),List.find?_nil,Option.or_none]
        rw[h4]
      rw[es]at a4;have a5:=a3.trans a4;have Vs:aE K (upd H3 (L.fa f.num) (.ins A.CF dx (bO "left" (V.int (t.leave:Nat)) (d5 f (L.fe f.num))))) r ([(n:Int)].map V.int):=p0 er hx;have DP:(upd H3 (L.fa f.num) (.ins A.CF dx (bO "left" (V.int (t.leave:Nat)) (d5 f (L.fe f.num))))) pf=some (.lst ((aN s.flights).map λf=>V.ref (L.fa f.num))):=aT hx e1 nofun;have rN:(upd H3 (L.fa f.num) (.ins A.CF dx (bO "left" (V.int (t.leave:Nat)) (d5 f (L.fe f.num))))) q=some (.lst ((((times s.now s.flights).take i).filter (eJ s n)).map λt=>V.ref (L.fa t.num))):=aT hx e2 nofun;generalize upd H3 (L.fa f.num) (.ins A.CF dx (bO "left" (V.int (t.leave:Nat)) (d5 f (L.fe f.num))))=H5 at a5 Vs DP rN;refine⟨_,rfl,.inl ⟨rfl,_,aE.of rN⟩,_,rfl,q,_,_,rfl,rfl,rN,?_,?_⟩
      ·rw[aD]
       have h6:=eW k6 (iN s.now s.flights);rw[aD,aD]at h6;exact pO (n:=100) (by rw[h6];exact aZ (g9 _) (aZ hG.fl.len (by decide))) (by decide)
      ·refine⟨_,rfl,agM jY nq Vs,by rw[ak nqf.symm];exact DP,?_,a5.uf bP nq rN⟩
       rw[ao,e5,bS];show some (HO.lst (_++[V.ref (L.fa f.num)]))=some (HO.lst (_++[V.ref (L.fa t.num)]));rw[wG]
     ·have h2:¬t.leave<=n:=by have h2:¬(t.leave:Int)<=n:=h2;lia
      exact stay (by rw[eg,ho,c9 h2];rfl)
   ·rintro σ H3 ⟨v4,rfl,er,e1,e2,a3⟩
    have oz:(aN s.flights).length=(times s.now s.flights).length:=by have h6:=eW k6 (iN s.now s.flights);rw[aD,aD]at h6;exact h6.symm
    rw[aD,oz,dQ]at e2 a3;obtain⟨gT,uo⟩:∃gT,gT=(times s.now s.flights).filter (eJ s n):=⟨_,rfl⟩;rw[<-uo]at e2 a3;have uh:(gT.map λt=>t.num).Nodup:=by rw[uo];exact pY.sublist (ia _ gd)
    have d4:=a3.at_;obtain⟨DW,LB⟩:=id d4.ho;refine⟨_,rfl,_,_,_,_,rfl,rfl,er,rfl,_,rfl,L.h,_,DW,_,rfl,LB,T.cH,T.IP,(by show 5<1000;decide),?_⟩;have a4:After A H3 (upd H3 L.h (.ins A.CH DW (bO "now" (V.int (n:Int)) (bA s.now (L.D .df) (L.D .dt) (L.D .dp) L.ls)))) L L {s with flights:=s.flights.map (cX gT)} {s with flights:=s.flights.map (cX gT),now:=n}:=After.agQ d4 LB;have Vt:(upd H3 L.h (.ins A.CH DW (bO "now" (V.int (n:Int)) (bA s.now (L.D .df) (L.D .dt) (L.D .dp) L.ls)))) q=some (.lst (gT.map λt=>V.ref (L.fa t.num))):=aT LB e2 nofun;have a5:=a3.trans a4;generalize upd H3 L.h (.ins A.CH DW (bO "now" (V.int (n:Int)) (bA s.now (L.D .df) (L.D .dt) (L.D .dp) L.ls)))=H4 at a5 Vt;have a6:=((After.of hH (.of s1)).trans a5).Ly (φ:=λq=>if(bG (leaving s n) q.on).isSome=true then{q with flown:=true}else q) (λq=>by split<;>rfl) (λq=>by split<;>rfl) (λq=>by split<;>rfl) (λq u v=>by split<;>rfl);have es:({s with flights:=s.flights.map (cX gT),now:=n,pax:=s.pax.map λq=>if(bG (leaving s n) q.on).isSome=true then{q with flown:=true}else q}:State)={s with now:=n,flights:=s.flights.map (cX (leaving s n)),pax:=s.pax.map λq=>if(bG (leaving s n) q.on).isSome=true then{q with flown:=true}else q}:=by congr 1;refine dE λx _=>?_;unfold cX;rw[zW,<-uo,agO uh (ju mj gT).symm]
    have a6:After A H H4 L L s {s with flights:=s.flights.map (cX gT),now:=n,pax:=s.pax.map λq=>if(bG (leaving s n) q.on).isSome=true then{q with flown:=true}else q}:=a6;rw[es]at a6;have iP:=a5.at_
    have DX:∀t,t∈gT->∃f,f∈s.flights.map (cX gT)/\f.num=t.num/\f.left=some t.leave:=λt ht=>by have kO:=ht;rw[uo]at kO;have uc:=(ck.mp kO).1;have:t.num∈(times s.now s.flights).map λt=>t.num:=aB.mpr ⟨t,uc,rfl⟩;rw[iN]at this;obtain⟨x,hx,ex⟩:=aB.mp this;refine⟨cX gT x,aB.mpr ⟨x,cq x hx,rfl⟩,by rw[Lx];exact ex,?_⟩;unfold cX;rw[ex,oj uh ht]
    have inj:∀t u,t∈gT->u∈gT->L.fa t.num=L.fa u.num->t=u:=λt u ht hu e=>by obtain⟨f1,lL,rP,_⟩:=DX t ht;obtain⟨f2,tI,Vu,_⟩:=DX u hu;have:=Jx iP.fl.bB lL tI (by rw[rP,Vu];exact e);have h7:=oj uh ht;rw[<-rP,this,Vu,oj uh hu]at h7;exact(cM.inj h7).symm
    refine⟨by show 1<=aS;decide,λz nz=>?_⟩;have sz:aC H4 (upd H4 z (.lst [.int 0])):=bL nz;have hz:(upd H4 z (.lst [.int 0])) z=some (.lst [.int 0]):=ao;generalize upd H4 z (.lst [.int 0])=H5 at sz hz;have DY:dW A H5:=(a6.tabs hB).same sz;refine⟨_,rfl,?_⟩;obtain⟨tp,g_,Kj⟩:=DY.2.2.2;refine⟨DY.2.2.2,λH6 ql cl kp oq nql LC iE=>?_⟩;obtain⟨t8,mZ,t9⟩:=oq;have g6:Gr A H5 H6:=Dq g_ mZ kp λt=>⟨lV t.1 g_ T.pn.2.2.1 kp,lV t.2.1 g_ T.pn.2.2.2.2.1 kp,lV t.2.2.1 g_ T.pn.2.2.2.2.2 kp,⟨t8,mZ,t9⟩⟩
    have LD:Gr A H4 H6:=(Gr.of sz).trans g6;refine⟨q,ql,gT.map λt=>V.ref (L.fa t.num),uj L.fa gT,rfl,rfl,.inl (aE.of (LD.same _ _ Vt nofun)),λv hv H7 s7=>?_,λys D H7 p1 p2 s7 nD hD=>?_⟩
    ·obtain⟨t,ht,rfl⟩:=aB.mp hv
     obtain⟨f1,lL,rP,Vv⟩:=DX t ht;have Vw:b_ A H7 (L.fa t.num) f1 (L.fe f1.num):=by rw[<-rP];exact((iP.fl.bB f1 lL).gr LD.same).same s7
     refine⟨⟨cl,s7 _ _ LC,s7 _ _ iE⟩,_,rfl,pH T Vw ⟨_,rfl,dn T Vw ⟨by show 2<=aS;decide,λtt nt=>⟨bL nt,tt,rfl,?_,?_⟩⟩⟩⟩
     ·rw[DQ inj ht,ao,Vv,rP]
      rfl
     ·rw[DQ inj ht]
      exact λz=>nomatch z
    ·rw[agP uh inj p1 p2]at hD
     have Vx:Gr A H4 H7:=LD.trans (.of s7);have hz7:H7 z=some (.lst [.int 0]):=s7 _ _ (g6.same _ _ hz nofun);have nzD:z≠D:=ba (g6.same _ _ hz nofun) nD;refine⟨D,rfl,⟨_,aE.of hD⟩,λD2 mV=>i7 fX (λi H8=>aC H7 H8/\H8 D2=some (.lst (((lg mj gT).take i).map λt=>V.int (t.num:Int)))) ⟨bL mV,ao⟩ (λi H8 _ h=>aE.of (h.1 _ _ hD)) ?_ ?_⟩
     ·rintro i v H8 H9 hi ⟨s8,e8⟩ ⟨rfl,hv⟩
      obtain⟨t,ht,rfl⟩:=el hv;obtain⟨f1,lL,rP,Vv⟩:=DX t ((ju _ _).mem_iff.mp (du ht));have hO9:b_ A H9 (L.fa t.num) f1 (L.fe f1.num):=by rw[<-rP];exact((iP.fl.bB f1 lL).gr Vx.same).same s8
      refine⟨rfl,tU ⟨_,rfl,dn T hO9 ⟨_,e8,?_,s8.bW mV,?_⟩⟩⟩
      ·rw[aD]
       have h6:=(ju mj gT).length_eq;have h7:=k5 i (lg mj gT);have h8:gT.length<=24:=by rw[uo];exact aZ (e_ _ _) (by rw[<-oz];exact aZ (g9 _) hG.fl.len)
       have:1000<=aS:=by decide
       lia
      ·rw[ao,take_snoc ht,bS]
       show some (HO.lst (_++[V.int (f1.num:Int)]))=some (HO.lst (_++[V.int (t.num:Int)]));rw[rP]
     ·rintro H8 ⟨s8,e8⟩
      rw[aD,dQ]at e8;refine⟨z,D2,_,_,rfl,rfl,s8 _ _ hz7,e8,?_,λp5 zF=>?_⟩
      ·rw[aD,(ju mj gT).length_eq]
       have h8:gT.length<=24:=by rw[uo];exact aZ (e_ _ _) (by rw[<-oz];exact aZ (g9 _) hG.fl.len)
       have:1000<=aS:=by decide
       show 1+_<=aS;lia
      ·have Vy:Gr A H4 H8:=Vx.trans (.of s8)
       refine k.fin (ans:=0::Vbahaj.ints ((leaving s n).map λt=>t.num)) Lz ((a6.gr Vy).gr (.of (bL zF))) (a6.free p5 (Vy.free p5 zF)) ?_;rw[ao,zW,<-uo];unfold Vbahaj.ints;simp
end WD
namespace WD
open L2 Vbahaj
def m6{α:Type}(value:α->Nat)(m:Nat×Option α)(a:α):Nat×Option α:=if value a<m.1 then(value a,some a)else m
theorem Vz{α:Type}(value:α->Nat):∀(ps:List α)(m:Nat×Option α),ps.foldl (m6 value) m=match leastBy value ps with
  |none=>m|some (n,b)=>if n<m.1 then(n,some b)else m
 |[],m=>rfl|a::r,m=>by show r.foldl (m6 value) (m6 value m a)=_;have e:leastBy value (a::r)=(match leastBy value r with|none=>some (value a,a)|some (n,b)=>if value a<=n then some (value a,a)else some (n,b)):=rfl;rw[Vz value r,e];unfold m6;cases h:leastBy value r with
  |none=>rfl|some nb=>
   obtain⟨n,b⟩:=nb;simp only;by_cases h1:value a<m.1
   ·rw[aj h1]
    by_cases h2:value a<=n
    ·rw[aj h2]
     simp only;rw[ah (by lia),aj h1]
    ·rw[ah h2]
     simp only;rw[aj (by lia),aj (by lia)]
   ·rw[ah h1]
    by_cases h2:value a<=n
    ·rw[aj h2]
     simp only;rw[ah (by lia),ah h1]
    ·rw[ah h2]
def uq(n:Nat)(l:List Nat):List Nat:=(l.filter λm=>decide (m<n))++(n::l.filter λm=>decide (n<m))
theorem agV(h:n∉l):(uq n l).Perm (n::l):=by
 unfold uq;have h1:((l.filter λm=>decide (m<n))++(l.filter λm=>decide (n<m))).Perm l:=by
  have e:(l.filter λm=>decide (n<m))=l.filter λm=> !decide (m<n):=by
   refine uK λx hx=>?_;have:x≠n:=λz=>h (by rw[<-z];exact hx);by_cases h2:x<n
   ·rw[dX h2,c9 (by lia)];rfl
   ·rw[c9 h2,dX (by lia)];rfl
  rw[e];exact List.filter_append_perm _ _
 exact List.perm_middle.trans (h1.cons n)
theorem agW(hs:l.Pairwise (·<·)):(uq n l).Pairwise (·<·):=by
 unfold uq;refine Om.mpr ⟨hs.sublist gd,jy.mpr ⟨λx hx=>?_,hs.sublist gd⟩,λa ha b hb=>?_⟩
 ·exact nj (ck.mp hx).2
 ·have h1:=nj (ck.mp ha).2
  rcases b9.mp hb with rfl|hb
  ·exact h1
  ·have h2:=nj (ck.mp hb).2
   lia
theorem agX{l:List Nat}(hN:l.Nodup):(l.foldr uq []).Perm l/\(l.foldr uq []).Pairwise (·<·):=by induction l with|nil=>exact⟨.refl _,AN⟩|cons a l ih=>obtain⟨h1,h2⟩:=gS.mp hN;obtain⟨h3,h4⟩:=ih h2;exact⟨(agV (λz=>h1 (h3.mem_iff.mp z))).trans (h3.cons a),agW h4⟩
structure wI(s:State)(bs:List aw):Prop where
 perm:bs.Perm ((aN s.flights).filter bV)
 sorted:bs.Pairwise λa b=>a.num<b.num
theorem wI.mem(h:wI s bs)(hf:f∈bs):f∈s.flights/\f∈aN s.flights/\bV f=true:=by obtain⟨h1,h2⟩:=ck.mp (h.perm.mem_iff.mp hf);exact⟨cq f h1,h1,h2⟩
theorem agY{s:State}(hN:(s.flights.map λf=>f.num).Nodup){bs:List aw}(h:wI s bs):numbers s=bs.map λf=>f.num:=by
 have zq:((s.flights.filter bV).map λf=>f.num).Nodup:=hN.sublist (ia _ gd);obtain⟨h1,h2⟩:=agX zq;have e:numbers s=((s.flights.filter bV).map λf=>f.num).foldr uq []:=rfl;rw[e];refine vQ (λa b h1 h2=>by lia) (h1.trans ?_) h2 (j6.mpr h.sorted);refine List.Perm.map _ ?_;have hp:((aN s.flights).filter bV).Perm (s.flights.filter bV):=by
  unfold aN;rw[xo];have e2:((ordered s.flights).filter λa=>bV a&& !a.cancelled)=(ordered s.flights).filter bV:=by refine uK λx _=>?_;unfold bV;cases x.cancelled<;>simp
  rw[e2];exact(pJ s.flights).filter _
 exact(h.perm.trans hp).symm
def inner(l:List aw)(f g:aw):Option (aw×aw):=if kh l f g=true then some (f,g)else none
def p8(l:List aw)(bs:List aw)(i:Nat):List (aw×aw):=(bs.take i).flatMap λf=>bs.filterMap λg=>if f.num<g.num then inner l f g else none
theorem agZ{l bs:List aw}(hs:bs.Pairwise λa b=>a.num<b.num){i:Nat}{f:aw}(hf:bs[i]? =some f):(bs.filterMap λg=>if f.num<g.num then inner l f g else none)=(bs.drop (i+1)).filterMap (inner l f):=by
 obtain⟨hi,ef⟩:=eo.mp hf;have hp:=E8.mp hs
 conv=>lhs;rw[<-Oj (i+1) bs,xk]
 have e1:((bs.take (i+1)).filterMap λg=>if f.num<g.num then inner l f g else none)=[]:=by
  rw[List.filterMap_eq_nil_iff];intro x hx;obtain⟨j,hj,ej⟩:=h_ hx;rw[jd]at hj;rw[oK]at ej;refine ah ?_;rw[<-ej];by_cases h:j=i
  ·subst h;rw[ef];lia
  ·have:=hp j i (by lia) hi (by lia)
   rw[ef]at this;lia
 rw[e1,List.nil_append];refine C7 λx hx=>?_;obtain⟨j,hj,ej⟩:=h_ hx;rw[qo]at hj;rw[List.getElem_drop]at ej;have:=hp i (i+1+j) hi (by lia) (by lia);rw[ef,ej]at this;rw[aj this]
theorem ag0{l bs:List aw}(hs:bs.Pairwise λa b=>a.num<b.num){i:Nat}{f:aw}(hf:bs[i]? =some f):p8 l bs (i+1)=p8 l bs i++(bs.drop (i+1)).filterMap (inner l f):=by unfold p8;rw[take_snoc hf,AH];congr 1;rw[uL,List.flatMap_nil,je,agZ hs hf]
theorem ag1(hN:(s.flights.map λf=>f.num).Nodup)(h:wI s bs):swapsOf s=p8 s.flights bs bs.length:=by
 unfold swapsOf p8;rw[agY hN h,dQ,List.flatMap_map];have:∀f,f∈bs->((bs.map λf=>f.num).filterMap λb=>if f.num<b then(match flight s f.num,flight s b with
   |some f,some g=>if kh s.flights f g=true then some (f,g)else none|_,_=>none)else none)=bs.filterMap λg=>if f.num<g.num then inner s.flights f g else none:=λf hf=>by
  rw[List.filterMap_map];refine C7 λg hg=>?_;show(if f.num<g.num then(match flight s f.num,flight s g.num with
   |some f,some g=>if kh s.flights f g=true then some (f,g)else none|_,_=>none)else none)=_
  have e1:flight s f.num=some f:=jV hN (h.mem hf).1;have e2:flight s g.num=some g:=jV hN (h.mem hg).1;rw[e1,e2];rfl
 have fm:∀{β:Type}{F G:aw->List β}(l:List aw),(∀x,x∈l->F x=G x)->l.flatMap F=l.flatMap G:=by intro β F G l;induction l with
  |nil=>intro _;rfl|cons a l ih=>intro hh;rw[uL,uL,hh a cK,ih λx hx=>hh x (b8 _ hx)]
 exact fm bs this
def wJ(r:Nat×Option (aw×aw)):List Int:=match r.2 with|none=>[0]|some p=>[0,(p.1.num:Int),(p.2.num:Int),(r.1:Int)]
theorem ag2(hN:(s.flights.map λf=>f.num).Nodup)(h:wI s bs):step s .best=(s,wJ ((p8 s.flights bs bs.length).foldl (m6 λp=>fS s.now (gB s.flights p.1 p.2)) (fS s.now s.flights,none))):=by
 rw[Vz,<-ag1 hN h];show(s,match bestSwap s with|none=>_|some y=>_)=_;unfold bestSwap;cases h1:leastBy (λp:aw×aw=>fS s.now (gB s.flights p.1 p.2)) (swapsOf s)with
 |none=>rfl|some nb=>
  obtain⟨n,b⟩:=nb;simp only[Option.bind_some];by_cases h2:n<fS s.now s.flights
  ·rw[aj h2,aj h2]
   rfl
  ·rw[ah h2,ah h2]
   rfl
end WD
namespace WD
open PySem PySem.Spec PyProof.Rows L2 Vbahaj
variable{P:bR}{w:bI}{K:aG}{mg:ai->Option ag}{base:bg}{A:Ad}{f:af}{fd:eB}
def wL(fa:Nat->af)(l:List aw)(v:V):Int:=match l.find? λf=>decide (V.ref (fa f.num)=v)with|some f=>(f.num:Int)|none=>0
theorem LG{A:Ad}{H:Hp}{fa fe:Nat->af}{l:List aw}(h:fF A H fa fe l)(hN:(l.map λf=>f.num).Nodup){f:aw}(hf:f∈l):wL fa l (V.ref (fa f.num))=(f.num:Int):=by unfold wL;cases e:l.find? λg=>decide (V.ref (fa g.num)=V.ref (fa f.num))with|none=>have:=iR.mp e f hf;simp at this|some g=>have h1:=iA e;have h2:=gU e;have h3:V.ref (fa g.num)=V.ref (fa f.num):=nj h2;have h4:=Jx h h1 hf (V.ref.inj h3);show(g.num:Int)=f.num;rw[h4]
theorem ag3(xs:List V)(k:Nat):mG xs (some ((k:Int)+1)) none=xs.drop (k+1):=by
 unfold mG;have e1:HT.gO xs.length 0 (some ((k:Int)+1))=min (k+1) xs.length:=by unfold HT.gO;simp only;split<;>lia
 have e2:HT.gO xs.length xs.length none=xs.length:=rfl;rw[e1,e2];by_cases h:k+1<=xs.length
 ·rw[AS h,oJ (by rw[qo];exact bM _)]
 ·rw[Nat.min_eq_right (by lia),Oh (bM _),Oh (by lia)]
  exact List.take_nil
abbrev DZ:aV:=top 51
theorem j1:bu ["house","row","flying","before","by_number","least","answer","place","one","other","late","flight"] ["house","row"] (bb DZ):=bC
def ag4:aV->a_|.Assign _ e _=>e|_=>.Constant .none 0 ⟨0,0,0,0⟩
def D0:kc×a_×dZ:=Dm (Dn (ag4 ((iG DZ).getD 2 (.Pass ⟨0,0,0,0⟩))))
theorem ag5:bu ["flight"] ["flight"] D0.2.2:=⟨rfl,rfl,rfl,by decide +kernel,rfl,by decide +kernel,by decide +kernel⟩
theorem ag6(F:bh K "find_best" "find_best" DZ f fd)(T:Txt K mg A)(B:lK mg base)(hC:∃c,fd.code=.ref c/\jD base c A.P3)(fu:dm P w K mg base A.CF "is_open" 1 ["self"] (og A))(iw:dm P w K mg base A.CH "flying" 4 ["self"] (tQ A))(pL:Glob P w K mg base "flown_before" 1 ["flying","tails"] (CM A K)) (wy:Glob P w K mg base "can_exchange" 2 ["tails","before","one","other"] (JT A))(wz:Glob P w K mg base "exchanged" 3 ["flying","tails","one","other"] (JV A K))(ud:Glob P w K mg base "lateness" 7 ["flying","tails","now"] (JK A K)):
  aX P w K mg base bc 8 f fd ["house","row"] (fN A K λns c=>ns=[]/\c=.best):=by
 obtain⟨cc,lp,t7⟩:=hC;refine F.Dg j1 (λvs H Q E h=>?_) (λdc A0 outer s0 H vs Q E fT hr h=>?_)
 ·obtain⟨L,s,r,ns,c,rfl,_⟩:=h
  rfl
 ·obtain⟨L,s,r,ns,c,rfl,hH,hG,hB,hR,⟨rfl,rfl⟩,k⟩:=h
  rw[lp]at fT;have hu:=vL hr
  refine⟨_,(aq (bf 2 j1.nd (fk (pv 0) T.cH iw hr)) (aq (bf 3 j1.nd (bK pL hr (aM (pv 2) (ax (au K (pv 0))))))
   (aq (bf 4 j1.nd (adx (run:=λf _=>Ck ["flight"] q3 D0.1 D0.2.1 D0.2.2 (o6 K (nR 0) "number") f) rfl (by rfl) T.sorted (ax (jR [("flight",11)] j1.nd (fV (pv 2)) (c7 11 j1.nd) (o_ (dj (fk (pv 11) T.cF fu hr))) (pv 11))) (yp (Ib (q:=q3) B fT.symm t7 (by rfl)) yo) (λf σ=>Ii (x:="flight") (k:=0) ag5 (hr.mono (by decide)) (λ_ _ _ _=>rfl) (λf c A outer s H hr=>(au K (pv 0))) f σ)))
   (aq (bf 5 j1.nd (bK ud hr (aM (pv 2) (aM (au K (pv 0)) (ax (au K (pv 0)))))))
   (aq (bf 6 j1.nd (bw (ax aJ)))
   (aq (gn (RL (by rfl) T.enumerate (ax (pv 4))) (w_g2 K (c7 7 j1.nd) (c7 8 j1.nd)) (az (gn (fV (G8 Hc (pv 4) (BQ (fg iC (pv 7) aJ)) Q6)) (c7 9 j1.nd) (az (bo (dj (bK wy hr (aM (au K (pv 0)) (aM (pv 3) (aM (pv 8) (ax (pv 9))))))) (aq (bf 10 j1.nd (bK ud hr (aM (pv 2) (aM (bK wz hr (aM (pv 2) (aM (au K (pv 0)) (aM (pv 8) (ax (pv 9)))))) (ax (au K (pv 0)))))))
   (az (bo (dS qL (pv 10) (pv 5)) (aq (bf 5 j1.nd (pv 10))
   (az (bf 6 j1.nd (bw (aM aJ (aM (au K (pv 8)) (aM (au K (pv 9)) (ax (pv 10))))))))) bt))) bt)))))
   (az (aK (pv 6))))))))),?_⟩
  obtain⟨dh,hh⟩:=id hH.ho;refine⟨_,rfl,_,dh,_,rfl,hh,rfl,L.h,s.now,_,_,_,_,L.fa,L.fe,s.flights,rfl,hH.ho,hH.fl.fl,hH.fl.bB,hG.fl.nd,aZ hG.fl.len (by decide),λH1 pf s1 Vr uk=>?_⟩;have bP:=hH.same s1;have wA:lR (dI s.flights) (aN s.flights):=(rp hG.fl.nd).sub cq;have tS:(aN s.flights).length<=100:=aZ (g9 _) (aZ hG.fl.len (by decide));refine⟨_,rfl,_,rfl,lN T bP.ho ⟨pf,_,_,L.fa,L.fe,aN s.flights,rfl,aE.of uk,bP.fl.bB.sub cq,.inl bP.fl.tl,wA,rm hG.fl.nd,tS,λH2 pb kb s2 vS vT qU=>?_⟩⟩;have qU:=Vb hG.fl.nd qU;have dP:=bP.same s2;have D3:=s2 _ _ uk
  refine⟨_,rfl,pf,rfl,⟨_,aE.of D3⟩,λDl LH=>?_⟩;have ur:pf≠Dl:=ba D3 LH;refine i7 fX (λi H3=>aC H2 H3/\H3 Dl=some (.lst ((((aN s.flights).take i).filter bV).map λf=>V.ref (L.fa f.num)))) ⟨bL LH,ao⟩ (λi H3 _ h=>aE.of (h.1 _ _ D3)) ?_ ?_
  ·rintro i v H4 H3 hi ⟨s3,e3⟩ ⟨rfl,hv⟩
   obtain⟨f,hf,rfl⟩:=el hv;have hO:=(dP.fl.bB f (cq f (du hf))).same s3;obtain⟨dx,hx⟩:=id hO;refine⟨rfl,_,rfl,_,dx,_,rfl,hx,rfl,_,f,_,rfl,hO,_,rfl,?_⟩;cases ho:bV f with
   |true=>
    refine aY ⟨_,rfl,_,e3,?_,s3.bW LH,?_⟩
    ·rw[aD]
     exact pO tS (by decide)
    ·rw[ao,take_snoc hf,fy,bX,aj ho,gL,bS]
     rfl|false=>refine bp ⟨s3,?_⟩;rw[take_snoc hf,fy,bX,ah (by rw[ho];decide),gL,je];exact e3
  ·rintro H3 ⟨s3,e3⟩
   rw[aD,dQ]at e3;have VA:dW A H3:=hB.same (s1.trans (s2.trans s3));obtain⟨tp,g_,Kj⟩:=VA.2.2.1;refine⟨VA.2.2.1,λH4 ql cl kp oq nql LC iE=>?_⟩;obtain⟨t8,mZ,t9⟩:=oq;have g4:Gr A H3 H4:=Dq g_ mZ kp λt=>⟨lV t.1 g_ T.pn.2.1 kp,lV t.2.1 g_ T.pn.2.2.2.1 kp,⟨t8,mZ,t9⟩,lV t.2.2.2 g_ T.pn.2.2.2.2.2.symm kp⟩
   have oA:Gr A H H4:=(Gr.of (s1.trans (s2.trans s3))).trans g4;have iP:=hH.gr oA;have D5:fF A H4 L.fa L.fe ((aN s.flights).filter bV):=iP.fl.bB.sub λf hf=>cq f (ck.mp hf).1;have D6:(((aN s.flights).filter bV).map λf=>f.num).Nodup:=(rm hG.fl.nd).sublist (ia _ gd);refine⟨Dl,ql,((aN s.flights).filter bV).map λf=>V.ref (L.fa f.num),wL L.fa ((aN s.flights).filter bV),rfl,rfl,.inl (aE.of (g4.same _ _ e3 nofun)),λv hv H5 s5=>?_,λys D H5 p1 p2 s5 nD hD=>?_⟩
   ·obtain⟨f,hf,rfl⟩:=aB.mp hv
    have hO:=(D5 f hf).same s5;refine⟨⟨cl,s5 _ _ LC,s5 _ _ iE⟩,_,rfl,dn T hO ⟨aC.refl _,?_⟩⟩;show V.int (f.num:Int)=V.int (wL L.fa _ (V.ref (L.fa f.num)));rw[LG D5 D6 hf]
   ·obtain⟨bs,zX,rfl⟩:=zf p1 rfl
    have hbN:(bs.map λf=>f.num).Nodup:=(zX.map _).nodup_iff.mpr D6;have D7:wI s bs:=by
     refine⟨zX,?_⟩;rw[j6]at p2;have d_:bs.Pairwise λa b=>wL L.fa ((aN s.flights).filter bV) (V.ref (L.fa a.num))<=wL L.fa ((aN s.flights).filter bV) (V.ref (L.fa b.num))/\a.num≠b.num:=by refine p2.and ?_;have:(bs.map λf=>f.num).Pairwise (·≠·):=hbN;rw[j6]at this;exact this
     refine d_.imp_of_mem λ{a b}ha hb h1=>?_;obtain⟨h1,h2⟩:=h1;rw[LG D5 D6 (zX.mem_iff.mp ha),LG D5 D6 (zX.mem_iff.mp hb)]at h1;lia
    have hbl:bs.length<=24:=by rw[zX.length_eq];exact aZ (e_ _ _) (aZ (g9 _) hG.fl.len)
    have rQ:Gr A H H5:=oA.trans (.of s5);have rO:=hH.gr rQ;have VB:H5 pf=some (.lst ((aN s.flights).map λf=>V.ref (L.fa f.num))):=s5 _ _ (g4.same _ _ (s3 _ _ D3) nofun);have ag7:H5 pb=some (.dK kb):=s5 _ _ (g4.same _ _ (s3 _ _ vT) nofun)
    refine⟨_,rfl,_,rfl,lN T rO.ho ⟨_,rfl,n_ T rO.ho ⟨pf,_,_,L.fa,L.fe,s.flights,s.now,rfl,aE.of VB,rO.fl.bB.sub cq,rO.fl.feeds.sub cq,.inl rO.fl.tl,wA,hG.fl,λH6 s6=>⟨by show 1<=aS;decide,λaa VC=>?_⟩⟩⟩⟩;have wM:aC H5 (upd H6 aa (.lst [.int 0])):=s6.trans (bL VC);have D8:(upd H6 aa (.lst [.int 0])) D=some (.lst (bs.map λf=>V.ref (L.fa f.num))):=wM _ _ hD;have zY:(upd H6 aa (.lst [.int 0])) aa=some (.lst [.int 0]):=ao;have ag8:H aa=none:=rQ.free aa (s6.free VC);have LI:=wM _ _ VB;have VD:=wM _ _ ag7;have ui:=rO.same wM;have oB:Gr A H (upd H6 aa (.lst [.int 0])):=rQ.trans (.of wM);generalize upd H6 aa (.lst [.int 0])=Hb at wM D8 zY LI VD ui oB
    refine⟨_,rfl,D,_,rfl,aE.of D8,gp SY (λi σ H'=>∃lY v7 v8 v9 v10 rr,rr=(p8 s.flights bs i).foldl (m6 λp=>fS s.now (gB s.flights p.1 p.2)) (fS s.now s.flights,none)/\σ=[some (.ref L.h),some (.ref r),some (.ref pf),some (.ref pb),some (.ref D),some (.int (rr.1:Nat)),some (.ref lY),v7,v8,v9,v10,none]/\aC Hb H'/\H lY=none/\H' lY=some (.lst ((wJ rr).map V.int)))
     ⟨aa,none,none,none,none,_,rfl,rfl,aC.refl _,ag8,zY⟩ (λi σ H' _⟨_,_,_,_,_,_,_,_,s7,_⟩=>aE.of (s7 _ _ D8)) ?_ ?_⟩
    ·rintro i v σ H7 H8 hi ⟨lY,v7,v8,v9,v10,rr,D9,rfl,s7,LJ,t4⟩ ⟨T1,x1,rfl,VE,rfl,hx1⟩
     obtain⟨f,hf,rfl⟩:=el hx1;have gx:=D7.mem (du hf);have s8:aC Hb (upd H7 T1 (.tup [.int (i:Nat),V.ref (L.fa f.num)])):=s7.bW (s7.free VE);have VF:(upd H7 T1 (.tup [.int (i:Nat),V.ref (L.fa f.num)])) lY=some (.lst ((wJ rr).map V.int)):=bL VE _ _ t4;refine⟨T1,_,rfl,cW.of ao,rfl,_,_,rfl,_,_,rfl,rfl,?_⟩;generalize upd H7 T1 (.tup [.int (i:Nat),V.ref (L.fa f.num)])=H8 at s8 VF;refine⟨_,rfl,_,rfl,_,_,rfl,rfl,_,rfl,D,_,rfl,aE.of (s8 _ _ D8),λD2 mV=>?_⟩;rw[ag3];have s9:aC Hb (upd H8 D2 (.lst ((bs.map λf=>V.ref (L.fa f.num)).drop (i+1)))):=s8.bW (s8.free mV);have VG:(upd H8 D2 (.lst ((bs.map λf=>V.ref (L.fa f.num)).drop (i+1)))) lY=some (.lst ((wJ rr).map V.int)):=bL mV _ _ VF;have LK:(upd H8 D2 (.lst ((bs.map λf=>V.ref (L.fa f.num)).drop (i+1)))) D2=some (.lst ((bs.drop (i+1)).map λf=>V.ref (L.fa f.num))):=by rw[ao,OC]
     generalize upd H8 D2 (.lst ((bs.map λf=>V.ref (L.fa f.num)).drop (i+1)))=H9 at s9 VG LK
     refine⟨D2,rfl,⟨_,aE.of LK⟩,gp fX (λj σ H'=>∃lY v9 v10 rr,rr=(p8 s.flights bs i++((bs.drop (i+1)).take j).filterMap (inner s.flights f)).foldl (m6 λp=>fS s.now (gB s.flights p.1 p.2)) (fS s.now s.flights,none)/\σ=[some (.ref L.h),some (.ref r),some (.ref pf),some (.ref pb),some (.ref D),some (.int (rr.1:Nat)),some (.ref lY),some (.int (i:Nat)),some (.ref (L.fa f.num)),v9,v10,none]/\aC Hb H'/\H' D2=some (.lst ((bs.drop (i+1)).map λf=>V.ref (L.fa f.num)))/\H lY=none/\H' lY=some (.lst ((wJ rr).map V.int)))
      ⟨lY,v9,v10,rr,by rw[D9];simp,rfl,s9,LK,LJ,VG⟩ (λj σ H' _⟨_,_,_,_,_,_,_,h,_⟩=>aE.of h) ?_ ?_⟩
     ·rintro j v σ H11 yz hj ⟨ab,v9,v10,rj,zZ,rfl,ph,yA,kW,kU⟩ ⟨rfl,hv⟩
      obtain⟨g,hg,rfl⟩:=el hv;have j0:=D7.mem (List.mem_of_mem_drop (du hg));have uu:=ui.same ph;have VH:=take_snoc hg;refine⟨_,rfl,lN T uu.ho ⟨_,rfl,_,rfl,_,rfl,_,pb,_,kb,L.fa,L.fe,s.flights,f,g,rfl,uu.fl.bB.sub cq,.inl uu.fl.tl,wA,.inl (ph _ _ VD),qU,gx.2.1,j0.2.1,_,rfl,?_⟩⟩;cases gF:kh s.flights f g with
      |false=>
       refine bp ⟨ab,_,_,rj,?_,rfl,ph,yA,kW,kU⟩;rw[zZ,VH,xk];have:inner s.flights f g=none:=by unfold inner;rw[ah (by rw[gF];decide)]
       simp[this]|true=>
       have wx:inner s.flights f g=some (f,g):=by unfold inner;rw[aj gF]
       have cD:f.tail≠g.tail:=by unfold kh at gF;simp at gF;exact gF.1
       have LL:(p8 s.flights bs i++((bs.drop (i+1)).take (j+1)).filterMap (inner s.flights f)).foldl (m6 λp=>fS s.now (gB s.flights p.1 p.2)) (fS s.now s.flights,none)=m6 (λp=>fS s.now (gB s.flights p.1 p.2)) rj (f,g):=by rw[VH,xk,<-l_,Fm,<-zZ];simp[wx]
       refine aY ⟨_,rfl,_,rfl,_,rfl,lN T uu.ho ⟨_,rfl,_,rfl,pf,_,L.fa,L.fe,s.flights,f,g,rfl,aE.of (ph _ _ LI),uu.fl.bB.sub cq,.inl uu.fl.tl,hG.fl,gx.2.1,j0.2.1,cD,λH12 pt gJ wB zR=>?_⟩⟩;have LM:=uu.same gJ;have zS:=hG.fl.ret (kT s.flights f g);rw[zQ]at zR;refine⟨_,rfl,n_ T LM.ho ⟨pf,pt,_,L.fa,L.fe,s.flights.map (ret (kT s.flights f g)),s.now,rfl,?_,?_,?_,.inl zR,(rp zS.nd).sub cq,zS,λH13 kP=>?_⟩⟩
       ·rw[U_,Va]
        exact aE.of (gJ _ _ (ph _ _ LI))
       ·exact(LM.fl.bB.ret _).sub cq
       ·exact(LM.fl.feeds.ret _).sub cq
       ·rw[<-zQ]
        have z0:aC Hb H13:=ph.trans (gJ.trans kP);have LN:=kP _ _ (gJ _ _ yA);have ag9:=kP _ _ (gJ _ _ kU);refine⟨_,rfl,_,rfl,_,_,rfl,rfl,_,rfl,dO (λh1=>?_) λh1=>?_⟩
        ·have h1:fS s.now (gB s.flights f g)<rj.1:=by have h1:((fS s.now (gB s.flights f g):Nat):Int)<(rj.1:Nat):=h1;lia
         have er:m6 (λp=>fS s.now (gB s.flights p.1 p.2)) rj (f,g)=(fS s.now (gB s.flights f g),some (f,g)):=aj h1;refine⟨_,rfl,?_⟩;have VI:=ui.same z0;refine⟨_,rfl,dn T (VI.fl.bB f gx.1) ⟨_,rfl,dn T (VI.fl.bB g j0.1) ⟨_,rfl,by show 4<=aS;decide,λac lZ=>⟨ac,_,_,(fS s.now (gB s.flights f g),some (f,g)),by rw[LL,er],rfl,z0.bW (z0.free lZ),by rw[ak (ba LN lZ)];exact LN,oB.free ac (z0.free lZ),by rw[ao];rfl⟩⟩⟩⟩
        ·have h1:¬fS s.now (gB s.flights f g)<rj.1:=by have h1:¬((fS s.now (gB s.flights f g):Nat):Int)<(rj.1:Nat):=h1;lia
         have er:m6 (λp=>fS s.now (gB s.flights p.1 p.2)) rj (f,g)=rj:=ah h1;exact⟨ab,_,_,rj,by rw[LL,er],rfl,z0,LN,kW,ag9⟩
     ·rintro σ yz ⟨ab,v9,v10,rj,zZ,rfl,ph,yA,kW,kU⟩
      rw[aD,dQ,<-ag0 D7.sorted hf]at zZ;exact⟨ab,_,_,_,_,rj,zZ,rfl,ph,kW,kU⟩
    ·rintro σ H7 ⟨lY,v7,v8,v9,v10,rr,D9,rfl,s7,LJ,t4⟩
     rw[aD]at D9;exact⟨_,rfl,k.pure hH (ans:=wJ rr) (by rw[ag2 hG.fl.nd D7,D9]) (oB.trans (.of s7)) LJ t4⟩
end WD
namespace WD
open L2 Vbahaj cQ
def look(G:bD)(p:Nat):Option Nat:=(G.find? λq=>q.1==p).map λq=>q.2
def eh(G:bD)(p f:Nat):bD:=if(G.any λq=>q.1==p)=true then G.map λq=>if q.1=p then(p,f)else q else G++[(p,f)]
def hZ(G:bD)(p:Nat):bD:=G.filter λq=>q.1 !=p
def gK(G:bD):List (Key×V):=G.map λq=>(ay (q.1:Int),V.int (q.2:Nat))
theorem rR(p:Nat)(G:bD):bZ (gK G) (ay (p:Int))=(look G p).map λf:Nat=>V.int (f:Nat):=by unfold gK look;rw[pN p G,Option.map_map];rfl
theorem z_(G:bD):(gK G).length=G.length:=by unfold gK;rw[aD]
theorem D_(G:bD)(p f:Nat):putK (gK G) (ay (p:Int)) (V.int (f:Nat))=gK (eh G p f):=by
 unfold putK gK eh;have e:((G.map λq=>((ay (q.1:Int):Key),V.int (q.2:Nat))).any λkv=>decide (kv.1=ay (p:Int)))=G.any λq=>q.1==p:=by
  rw[OD];congr 1;funext q;show decide ((ay (q.1:Int):Key)=ay (p:Int))=(q.1==p);by_cases h:q.1=p
  ·rw[h];simp
  ·have:(q.1==p)=false:=by simpa using h
   rw[this];exact c9 (i8 h)
 rw[e];by_cases h:(G.any λq=>q.1==p)=true
 ·rw[aj h,aj h,dv,dv]
  refine dE λq _=>?_;show(if(ay (q.1:Int):Key)=ay (p:Int)then _ else _)=((ay (((if q.1=p then(p,f)else q).1:Nat):Int):Key),V.int ((if q.1=p then(p,f)else q).2:Nat));by_cases h2:q.1=p
  ·rw[aj (by rw[h2]),aj h2]
   show((ay (q.1:Int):Key),V.int (f:Nat))=((ay (p:Int):Key),V.int (f:Nat));rw[h2]
  ·rw[ah (i8 h2),ah h2]
 ·rw[ah h,ah h,bS]
  rfl
theorem LO(p:Nat):∀G:bD,il (gK G) (ay (p:Int))=gK (hZ G p)
 |[]=>rfl|q::G=>by
  unfold gK hZ;rw[cV];by_cases e:q.1=p
  ·rw[B5 (by rw[e]),bX,ah (by simp[e])]
   exact LO p G
  ·rw[B6 (i8 e),bX,aj (by simp[e]),cV]
   congr 1;exact LO p G
theorem jv(hN:(keys G).Nodup):look G p=some f↔(p,f)∈G:=by
 unfold look;constructor
 ·intro h
  obtain⟨q,h1,h2⟩:=oP.mp h;have h3:=gU h1;have h4:q.1=p:=by simpa using h3
  rw[<-h4,<-h2];exact iA h1
 ·intro h
  cases e:G.find? λq=>q.1==p with
  |none=>have:=iR.mp e _ h;simp at this|some q=>
   have h3:=gU e;have h4:q.1=p:=by simpa using h3
   have h5:(p,q.2)∈G:=by rw[<-h4];exact iA e
   show some q.2=some f;rw[uniq hN h5 h]
theorem oC:look G p=none↔p∉keys G:=by
 unfold look keys;rw[Fz,iR];constructor
 ·intro h z
  obtain⟨q,hq,e⟩:=aB.mp z;exact h q hq (by simp[e])
 ·intro h q hq z
  exact h (aB.mpr ⟨q,hq,by simpa using z⟩)
theorem any_keys:(G.any λq=>q.1==p)=true↔p∈keys G:=by
 unfold keys;rw[Fn,aB];constructor
 ·rintro⟨q,h1,h2⟩
  exact⟨q,h1,by simpa using h2⟩
 ·rintro⟨q,h1,h2⟩
  exact⟨q,h1,by simpa using h2⟩
theorem VJ:keys (eh G p f)=if p∈keys G then keys G else keys G++[p]:=by
 unfold eh;by_cases h:p∈keys G
 ·rw[aj (any_keys.mpr h),aj h]
  unfold keys;rw[dv];refine dE λq _=>?_;show(if q.1=p then(p,f)else q).1=q.1;by_cases h2:q.1=p
  ·rw[aj h2];exact h2.symm
  ·rw[ah h2]
 ·rw[ah (λz=>h (any_keys.mp z)),ah h]
  unfold keys;rw[bS];rfl
theorem wN(hN:(keys G).Nodup):(keys (eh G p f)).Nodup:=by
 rw[VJ];by_cases h:p∈keys G
 ·rw[aj h];exact hN
 ·rw[ah h]
  refine gf.mpr ⟨hN,ny _ _,λa ha b hb e=>?_⟩;rw[cj.mp hb]at e;rw[e]at ha;exact h ha
theorem wO:(q,h)∈eh G p f↔(q=p/\h=f)∨((q,h)∈G/\q≠p):=by
 unfold eh;by_cases hk:p∈keys G
 ·rw[aj (any_keys.mpr hk),aB]
  constructor
  ·rintro⟨y,hy,e⟩
   by_cases h2:y.1=p
   ·rw[aj h2]at e
    cases e;exact .inl ⟨rfl,rfl⟩
   ·rw[ah h2]at e
    rw[e]at hy h2;exact .inr ⟨hy,h2⟩
  ·rintro(⟨rfl,rfl⟩|⟨h1,h2⟩)
   ·obtain⟨y,hy,e⟩:=aB.mp hk
    exact⟨y,hy,aj e⟩
   ·exact⟨(q,h),h1,ah h2⟩
 ·rw[ah (λz=>hk (any_keys.mp z)),cu]
  constructor
  ·rintro(h1|h1)
   ·exact .inr ⟨h1,λz=>hk (mem_keys.mpr ⟨h,by rw[<-z];exact h1⟩)⟩
   ·have:=cj.mp h1
    cases this;exact .inl ⟨rfl,rfl⟩
  ·rintro(⟨rfl,rfl⟩|⟨h1,h2⟩)
   ·exact .inr (by simp)
   ·exact .inl h1
theorem VL:q∈keys (eh G p f)↔q=p∨q∈keys G:=by
 rw[VJ];by_cases h:p∈keys G
 ·rw[aj h]
  exact⟨.inr,λz=>z.elim (λe=>by rw[e];exact h) id⟩
 ·rw[ah h,cu]
  simp[or_comm]
theorem VM(hN:(keys G).Nodup):cnt (eh G p f) g<=cnt G g+(if f=g then 1 else 0):=by refine aZ (mP (b:=sM p f G) (wN hN) λq h=>?_) Cy;rw[kG];rw[wO]at h;exact h
theorem aha(hN:(keys G).Nodup)(h:f≠g):cnt (eh G p f) g<=cnt G g:=by have:=VM (p:=p) (f:=f) (g:=g) hN;rw[ah h]at this;exact this
theorem ahb(hN:(keys G).Nodup)(h:f≠g)(hp:(p,g)∈G):cnt (eh G p f) g+1<=cnt G g:=by
 refine IC (wN hN) (λq hq=>?_) hp;rcases wO.mp hq with⟨_,e⟩|h1
 ·exact absurd e.symm h
 ·exact h1
theorem m7:(q,h)∈hZ G p↔(q,h)∈G/\q≠p:=by unfold hZ;rw[ck];simp
theorem Ea(hN:(keys G).Nodup):(keys (hZ G p)).Nodup:=keys_filter hN
structure Chain(E:List bF)(G:bD)(x:Nat)(T:List (Nat×Nat)):Prop where
 nd:(T.map λt=>t.1).Nodup
 way:∀f m,(f,m)∈T->f∈cw E m
 back:∀(i:Nat)f m,T[i]? =some (f,m)->m=x∨∃(j:Nat)(g m':Nat),j<i/\T[j]? =some (g,m')/\(m,g)∈G
structure uv(R:cI)(E:List bF)(G:bD)(x:Nat)(T:List (Nat×Nat))(i:Nat)(G':bD):Prop where
 nd:(keys G').Nodup
 way:∀p f,(p,f)∈G'->f∈cw E p
 who:∀p,p∈keys G'↔p∈keys G
 room:∀f,cnt G' f<=cp R f
 free:∀f m,T[i]? =some (f,m)->cnt G' f<cp R f
 old:∀(j:Nat)g m p,j<i->T[j]? =some (g,m)->(p,g)∈G->(p,g)∈G'
theorem uv.step(C:Chain E G x T)(hx:x∉keys G)(S:uv R E G x T i G')(hf:T[i]? =some (f,m)):(m=x/\look G' m=none/\Ok R E (eh G' m f)/\∀p,p∈keys (eh G' m f)↔p=x∨p∈keys G)∨∃j g m',j<i/\T[j]? =some (g,m')/\look G' m=some g/\uv R E G x T j (eh G' m f):=by
 have ahc:=C.way f m (du hf);have kn:=S.free f m hf;have hr:∀h,cnt (eh G' m f) h<=cp R h:=λh=>by
  by_cases e:f=h
  ·subst e
   have:=VM (p:=m) (f:=f) (g:=f) S.nd;rw[aj rfl]at this;lia
  ·exact aZ (aha S.nd e) (S.room h)
 have hw:∀p h,(p,h)∈eh G' m f->h∈cw E p:=λp h hp=>by
  rcases wO.mp hp with⟨rfl,rfl⟩|⟨h1,_⟩
  ·exact ahc
  ·exact S.way p h h1
 rcases C.back i f m hf with rfl|⟨j,g,m',hj,hg,hm⟩
 ·refine .inl ⟨rfl,?_,⟨wN S.nd,hw,hr⟩,λp=>?_⟩
  ·rw[oC,S.who];exact hx
  ·rw[VL,S.who]
 ·have Eb:=S.old j g m' m hj hg hm
  have hfg:f≠g:=λe=>by have:=vw C.nd (i:=i) (j:=j) (x:=f) (by rw[fz,hf];rfl) (by rw[fz,hg,e];rfl);lia
  refine .inr ⟨j,g,m',hj,hg,(jv S.nd).mpr Eb,wN S.nd,hw,λp=>?_,hr,λg2 m2 h2=>?_,λj2 g2 m2 p h1 h2 h3=>?_⟩
  ·rw[VL]
   constructor
   ·rintro(rfl|h)
    ·exact(S.who p).mp (mem_keys.mpr ⟨g,Eb⟩)
    ·exact(S.who p).mp h
   ·intro h
    exact .inr ((S.who p).mpr h)
  ·rw[hg]at h2
   cases h2;have h4:=ahb S.nd hfg Eb;have h5:=S.room g;lia
  ·have h4:=S.old j2 g2 m2 p (by lia) h2 h3
   rw[wO];refine .inr ⟨h4,λe=>?_⟩;rw[e]at h4;have h5:=uniq S.nd h4 Eb;have:=vw C.nd (j:=j) (by rw[fz,h2];rfl) (by rw[fz,hg,h5];rfl);lia
theorem uv.start(ok:Ok R E G)(h:∀f m,T[i]? =some (f,m)->cnt G f<cp R f):uv R E G x T i G:=⟨ok.nd,ok.way,λ_=>iQ,ok.room,h,λ_ _ _ _ _ _ h=>h⟩
def rS(G:bD)(S:List Nat)(f:Nat):List Nat:=(dM G f).filter λp=> !S.contains p
def fG(G:bD)(S:List Nat)(x:Nat)(T:List (Nat×Nat)):List Nat:=x::T.flatMap λt=>rS G S t.1
theorem ahd(G:bD)(S:List Nat)(x:Nat)(T:List (Nat×Nat))(t:Nat×Nat):fG G S x (T++[t])=fG G S x T++rS G S t.1:=by unfold fG;rw[AH];simp
theorem VN(F:Nat->List Nat):∀T:List (Nat×Nat),(T.flatMap λt=>F t.1).length=(T.map λt=>(F t.1).length).sum|[]=>rfl|t::T=>by rw[uL,eL,VN F T,cV,qr]
theorem VO(hN:(T.map λt=>t.1).Nodup):(fG G S x T).length<=G.length+1:=by
 unfold fG;rw[dJ,VN];have h1:(T.map λt=>(rS G S t.1).length).sum<=((T.map λt=>t.1).map λf=>(G.filter λq=>q.2==f).length).sum:=by
  rw[dv];have:∀T:List (Nat×Nat),(T.map λt=>(rS G S t.1).length).sum<=(T.map ((λf=>(G.filter λq=>q.2==f).length)∘λt=>t.1)).sum:=by intro T;induction T with
   |nil=>exact bM _|cons t T ih=>
    rw[cV,cV,qr,qr];have:(rS G S t.1).length<=(G.filter λq=>q.2==t.1).length:=by unfold rS;refine aZ (e_ _ _) ?_;unfold dM;rw[aD];exact bM _
    show _<=(G.filter λq=>q.2==t.1).length+_;lia
  exact this T
 rw[<-CD G (λq:Nat×Nat=>q.2) _ hN]at h1;have h2:=e_ (λq:Nat×Nat=>(T.map λt=>t.1).contains q.2) G;lia
theorem VP(h:m∈fG G S x T):m=x∨∃(j:Nat)(g m':Nat),T[j]? =some (g,m')/\(m,g)∈G/\m∉S:=by
 rcases b9.mp h with h|h
 ·exact .inl h
 ·obtain⟨t,ht,hm⟩:=Oz.mp h
  obtain⟨j,hj,e⟩:=h_ ht;unfold rS at hm;obtain⟨h1,h2⟩:=ck.mp hm;refine .inr ⟨j,t.1,t.2,by rw[dY hj,e],js.mp h1,λz=>?_⟩;rw[fD.mpr z]at h2;cases h2
structure Search(R:cI)(E:List bF)(G:bD)(S:List Nat)(x:Nat)(T:List (Nat×Nat)):Prop where
 chain:Chain E G x T
 full:∀f m,(f,m)∈T->cp R f<=cnt G f
theorem Search.nil:Search R E G S x []:=⟨⟨oN,λf m h=>(by cases h),λi f m h=>(by simp at h)⟩,λf m h=>(by cases h)⟩
theorem Chain.snoc(C:Chain E G x T)(hm:m∈fG G S x T)(hf:f∈cw E m)(hn:f∉T.map λt=>t.1):Chain E G x (T++[(f,m)]):=by
 refine⟨?_,λg k h=>?_,λi g k h=>?_⟩
 ·rw[bS]
  refine gf.mpr ⟨C.nd,ny _ _,λa ha b hb e=>?_⟩;have hb:=cj.mp hb;rw[e,hb]at ha;exact hn ha
 ·rcases cu.mp h with h|h
  ·exact C.way g k h
  ·have:=cj.mp h
   cases this;exact hf
 ·by_cases hi:i<T.length
  ·rw[nv hi]at h
   rcases C.back i g k h with h1|⟨j,g',m',h1,h2,h3⟩
   ·exact .inl h1
   ·exact .inr ⟨j,g',m',h1,by rw[nv (by lia)];exact h2,h3⟩
  ·rw[oI (by lia)]at h
   have e:i-T.length=0:=by have:=(eo.mp h).1;simp at this;lia
   rw[e]at h;cases h;rcases VP hm with h1|⟨j,g',m',h1,h2,_⟩
   ·exact .inl h1
   ·have:=(eo.mp h1).1
    exact .inr ⟨j,g',m',by lia,by rw[nv this];exact h1,h2⟩
theorem Search.snoc(C:Search R E G S x T)(hm:m∈fG G S x T)(hf:f∈cw E m)(hn:f∉T.map λt=>t.1)(hr:cp R f<=cnt G f):Search R E G S x (T++[(f,m)]):=⟨C.chain.snoc hm hf hn,λg k h=>by
  rcases cu.mp h with h|h
  ·exact C.full g k h
  ·have:=cj.mp h
   cases this;exact hr⟩
theorem Search.lost(C:Search R E G S x T)(hE:∀p f,(p,f)∈G->p∈S->cw E p=[f])(gH:∀m,m∈fG G S x T->∀f,f∈cw E m->f∈T.map λt=>t.1):g7 R E [] G (T.map λt=>t.1):=by
 refine⟨λf h=>(by cases h),λf hf _=>?_,λf hf _ y hy g hg=>?_⟩
 ·obtain⟨t,ht,rfl⟩:=aB.mp hf
  exact C.full t.1 t.2 ht
 ·by_cases hs:y∈S
  ·rw[hE y f hy hs]at hg
   rw[cj.mp hg];exact hf
  ·refine gH y ?_ g hg
   unfold fG;obtain⟨t,ht,rfl⟩:=aB.mp hf;refine b8 _ (Oz.mpr ⟨t,ht,?_⟩);unfold rS;refine ck.mpr ⟨js.mpr hy,?_⟩;cases h:S.contains y with
   |false=>rfl|true=>exact absurd (fD.mp h) hs
end WD
namespace WD
open PySem PySem.Spec PyProof.Rows L2 Vbahaj cQ
variable{P:bR}{w:bI}{K:aG}{mg:ai->Option ag}{base:bg}{A:Ad}{f:af}{fd:eB}
structure Lk(H Hd:Hp)(d:af)(od:bx)(kvs:List (Key×V)):Prop where
 at_:Hd d=some (.aQ od (.dK kvs))
 keep:∀b o,H b=some o->(∀kvs,o≠.dK kvs)->Hd b=some o
 rd:∀b u,Rd H b u->Rd Hd b u
 back:∀H',aC Hd H'->aC H (upd H' d (.dK kvs))
 free:∀b,Hd b=none->H b=none
 ne:∀b o,H b=some o->b≠d->Hd b=some o
theorem Aa(hD:H d=some (.dK kvs)):Lk H (upd H d (.aQ od (.dK kvs))) d od kvs:=by
 refine⟨ao,λb o e n=>by rw[ak (cZ e hD (n _))];exact e,λb u h=>?_,λH' s b o e=>?_,λb e=>?_,λb o e n=>by rw[ak n];exact e⟩
 ·by_cases hb:b=d
  ·rcases h with h|⟨o,h⟩
   ·rw[hb]at h⊢
    rw[hD]at h;cases h;exact .inr ⟨od,ao⟩
   ·rw[hb,hD]at h;cases h
  ·exact mT h λo e=>by rw[ak hb];exact e
 ·by_cases hb:b=d
  ·rw[hb]at e⊢
   rw[hD]at e;cases e;exact ao
  ·rw[ak hb]
   exact s b o (by rw[ak hb];exact e)
 ·by_cases hb:b=d
  ·rw[hb,ao]at e;cases e
  ·rw[ak hb]at e;exact e
theorem VQ{G:bD}{i:Nat}{q:Nat×Nat}{f:Nat}(h:G[i]? =some q):dM (G.take (i+1)) f=dM (G.take i) f++(if q.2=f then [q.1]else []):=by
 unfold dM;rw[take_snoc h,fy,bS];by_cases e:q.2=f
 ·rw[aj e,bX,aj (by simpa using e)]
  rfl
 ·rw[ah e,bX,ah (by simpa using e)]
  rfl
theorem VR(p:Nat)(S:List Nat):bZ (eU S) (ay (p:Int))=if p∈S then some (V.bl true)else none:=by
 unfold eU;rw[pN (k:=λq:Nat=>q) (g:=λ_:Nat=>V.bl true) p S];by_cases h:p∈S
 ·rw[aj h]
  cases e:S.find? λq=>q==p with
  |none=>exact absurd (iR.mp e p h) (by simp)|some q=>rfl
 ·rw[ah h]
  cases e:S.find? λq=>q==p with
  |none=>rfl|some q=>
   have h1:=iA e;have h2:q=p:=by simpa using gU e
   rw[h2]at h1;exact absurd h1 h
abbrev LP:aV:=inClass (top 63) 0
theorem ahe:bu ["self","rooms","wishes"] ["self","rooms","wishes"] (bb LP):=bC
inductive LQ(A:Ad)(vs:List V)(H:Hp)(Q:VK)(E:XK):Prop|mk p dx a b (z:vs=[.ref p,.ref a,.ref b]) (z:H p=some (.ins A.CE dx [])) (z:∀g t,H g=none->H t=none->g≠t->Q .non (upd (upd (upd H g (.dK [])) t (.dK [])) p (.ins A.CE dx (g8 a b g t))))
theorem ahf(F:bh K "__init__" "Seating.__init__" LP f fd)(T:Txt K mg A):aX P w K mg base bc 1 f fd ["self","rooms","wishes"] (LQ A):=by
 refine F.bH ahe λH vs Q E hr hu h=>?_;obtain⟨p,dx,a,b,rfl,hp,k⟩:=h
 refine⟨_,(aq (c8 (pv 0) (pv 1)) (aq (c8 (pv 0) (pv 2))
   (aq (c8 (pv 0) ku)
   (az (c8 (pv 0) ku))))),?_⟩
 refine⟨_,rfl,_,rfl,p,_,dx,_,rfl,hp,T.cE,T.To,(by show 0<1000;decide),_,rfl,_,rfl,p,_,dx,_,rfl,ao,T.cE,T.Tp,(by show 1<1000;decide),?_⟩;rw[di];intro g ng;have LR:p≠g:=λz=>by rw[<-z,ao]at ng;cases ng
 have jw:H g=none:=by rw[ak LR.symm]at ng;exact ng
 refine⟨_,rfl,p,_,dx,_,rfl,by rw[ak LR,ao],T.cE,T.Tq,(by show 2<1000;decide),?_⟩;rw[ow LR,di];intro t nt;have wB:p≠t:=λz=>by rw[<-z,ao]at nt;cases nt
 have rA:(upd H g (.dK [])) t=none:=by rw[ak wB.symm]at nt;exact nt
 have p9:g≠t:=λz=>by rw[<-z,ao]at rA;cases rA
 have p_:H t=none:=by rw[ak p9.symm]at rA;exact rA
 refine⟨_,rfl,p,_,dx,_,rfl,by rw[ak wB,ao],T.cE,T.Tr,(by show 3<1000;decide),?_⟩;rw[ow wB,di];exact k g t jw p_ p9
abbrev LS:aV:=inClass (top 63) 1
theorem LU:bu ["self","flight","passenger"] ["self","flight"] (bb LS):=bC
inductive LV(A:Ad)(vs:List V)(H:Hp)(Q:VK)(E:XK):Prop|mk e r w g t G (n:Nat) (z:vs=[.ref e,.int (n:Int)]) (z:kJ A H e r w g t) (z:H g=some (.dK (gK G))) (z:(keys G).Nodup) (z:G.length<=100) (z:∀H' p,aC H H'->H p=none->H' p=some (.lst ((dM G n).map λq:Nat=>V.int (q:Int)))->Q (.ref p) H')
theorem ahg(F:bh K "seated_on" "Seating.seated_on" LS f fd)(T:Txt K mg A):aX P w K mg base bc 1 f fd ["self","flight"] (LV A):=by
 refine F.bH LU λH vs Q E hr hu h=>?_;obtain⟨e,r,w,g,t,G,n,rfl,⟨dx,hE⟩,hD,hN,hL,k⟩:=h;refine⟨_,(az (aK (Hy (jR [("passenger",2)] LU.nd (B2 (au K (pv 0))) (c7 2 LU.nd) (o_ (dS mB (cC hu (au K (pv 0)) (pv 2)) (pv 1))) (pv 2))))),g,_,hD,bJ,λod=>?_⟩;have lk:Lk H (upd H g (.aQ od (.dK (gK G)))) g od (gK G):=Aa hD;generalize upd H g (.aQ od (.dK (gK G)))=Hd at lk;have VS:kJ A Hd e r w g t:=⟨dx,lk.keep _ _ hE nofun⟩;refine⟨_,rfl,qZ T VS ⟨g,od,rfl,.inl ⟨_,lk.at_,λD nD=>i7 CK (λi H1=>aC Hd H1/\H1 D=some (.lst ((dM (G.take i) n).map λq:Nat=>V.int (q:Int)))) ⟨bL nD,ao⟩ (λi H1 _ h=>h.1 _ _ lk.at_) ?_ ?_⟩⟩⟩
 ·rintro i x H2 H1 hi ⟨s1,e1⟩ ⟨rfl,kk,vv,hx,rfl⟩
  obtain⟨q,hq,eq⟩:=el hx;cases eq;have LW:kJ A H1 e r w g t:=⟨_,s1 _ _ VS.choose_spec⟩;have hgv:bZ (gK G) (ay (q.1:Int))=some (.int (q.2:Nat)):=by rw[rR,(jv hN).mpr (du hq)];rfl
  refine⟨rfl,_,rfl,qZ T LW ⟨_,rfl,g,_,rfl,bq (.inr ⟨od,s1 _ _ lk.at_⟩) hgv,_,rfl,rfl,_,rfl,dO (λh1=>?_) λh1=>?_⟩⟩
  ·have h1:q.2=n:=by have h1:=V.int.inj h1;lia
   refine⟨_,rfl,_,e1,?_,s1.bW nD,?_⟩
   ·rw[aD]
    unfold dM;rw[aD];exact pO hL (by decide)
   ·rw[ao,VQ hq,aj h1,bS]
    rfl
  ·have h1:q.2≠n:=λz=>h1 (by rw[z])
   refine⟨s1,?_⟩;rw[VQ hq,ah h1,je];exact e1
 ·rintro H1 ⟨s1,e1⟩
  rw[z_,dQ]at e1;refine⟨s1 _ _ lk.at_,k _ D (lk.back _ s1) (lk.free D nD) ?_⟩;have ngD:D≠g:=λz=>by rw[z,s1 _ _ lk.at_]at e1;cases e1
  rw[ak ngD];exact e1
abbrev LX:aV:=inClass (top 63) 2
theorem LY:bu ["self","passengers","passenger"] ["self","passengers"] (bb LX):=bC
inductive LZ(A:Ad)(K:aG)(vs:List V)(H:Hp)(Q:VK)(E:XK):Prop|mk e r w g t l (S ps:List Nat) (z:vs=[.ref e,.ref l]) (z:kJ A H e r w g t) (z:H t=some (.dK (eU S))) (z:aE K H l (ps.map λq:Nat=>V.int (q:Int))) (z:ps.length<=100) (z:∀H' p,aC H H'->H p=none->H' p=some (.lst ((ps.filter λq=> !S.contains q).map λq:Nat=>V.int (q:Int)))->Q (.ref p) H')
theorem ahh(F:bh K "movable" "Seating.movable" LX f fd)(T:Txt K mg A):aX P w K mg base bc 1 f fd ["self","passengers"] (LZ A K):=by
 refine F.bH LY λH vs Q E hr hu h=>?_;obtain⟨e,r,w,g,t,l,S,ps,rfl,hE,hD,hS,hL,k⟩:=h;refine⟨_,(az (aK (jR [("passenger",2)] LY.nd (fV (pv 1)) (c7 2 LY.nd) (o_ (dB (f9 hu (pv 2) (au K (pv 0))))) (pv 2)))),_,rfl,l,rfl,⟨_,hS⟩,λD nD=>i7 fX (λi H1=>aC H H1/\H1 D=some (.lst (((ps.take i).filter λq=> !S.contains q).map λq:Nat=>V.int (q:Int)))) ⟨bL nD,ao⟩ (λi H1 _ h=>h.1.seq hS) ?_ ?_⟩
 ·rintro i x H2 H1 hi ⟨s1,e1⟩ ⟨rfl,hx⟩
  obtain⟨q,hq,rfl⟩:=el hx;have LW:kJ A H1 e r w g t:=⟨_,s1 _ _ hE.choose_spec⟩;refine⟨rfl,_,rfl,_,rfl,Tx T LW ⟨t,_,rfl,bq (.inl (s1 _ _ hD)) (VR q S),_,rfl,?_⟩⟩;by_cases h:q∈S
  ·rw[aj h]
   refine bp ⟨s1,?_⟩;rw[take_snoc hq,fy,bX,ah (by simp[h]),gL,je];exact e1
  ·rw[ah h]
   refine aY ⟨_,rfl,_,e1,?_,s1.bW nD,?_⟩
   ·rw[aD]
    exact pO hL (by decide)
   ·rw[ao,take_snoc hq,fy,bX,aj (by simp[h]),gL,bS]
    rfl
 ·rintro H1 ⟨s1,e1⟩
  rw[aD,dQ]at e1;exact k _ D s1 nD e1
abbrev iV(q:Nat):V:=V.int (q:Int)
structure dD(A:Ad)(H:Hp)(e r w g t:af)(R:cI)(W:List bF)(wa:Nat->af)(G:bD)(S:List Nat):Prop where
 ob:kJ A H e r w g t
 ro:∃kr,Rd H r (.dK kr)/\∀x f:Nat,f∈cw W x->bZ kr (ay (f:Int))=some (iV (cp R f))
 wi:∃kw,Rd H w (.dK kw)/\∀x:Nat,x∈(W.map λw=>w.x)->bZ kw (ay (x:Int))=some (.ref (wa x))/\H (wa x)=some (.lst ((cw W x).map iV))
 gi:H g=some (.dK (gK G))
 se:H t=some (.dK (eU S))
 ne:r≠g/\r≠t/\w≠g/\w≠t/\g≠t
theorem dD.keep{A:Ad}{H H':Hp}{e r w g t:af}{R:cI}{W:List bF}{wa:Nat->af}{G G':bD}{S S':List Nat}(h:dD A H e r w g t R W wa G S)(k:∀b o,H b=some o->b≠g->b≠t->H' b=some o)(hg:H' g=some (.dK (gK G')))(ht:H' t=some (.dK (eU S'))):dD A H' e r w g t R W wa G' S':=by
 obtain⟨n1,n2,n3,n4,n5⟩:=h.ne;refine⟨?_,?_,?_,hg,ht,h.ne⟩
 ·obtain⟨dx,z⟩:=h.ob
  exact⟨dx,k _ _ z (cZ z h.gi nofun) (cZ z h.se nofun)⟩
 ·obtain⟨kr,z1,z2⟩:=h.ro
  exact⟨kr,mT z1 λo z=>k _ _ z n1 n2,z2⟩
 ·obtain⟨kw,z1,z2⟩:=h.wi
  refine⟨kw,mT z1 λo z=>k _ _ z n3 n4,λx hx=>⟨(z2 x hx).1,?_⟩⟩;have z:=(z2 x hx).2;exact k _ _ z (cZ z h.gi nofun) (cZ z h.se nofun)
theorem dD.same{A:Ad}{H H':Hp}{e r w g t:af}{R:cI}{W:List bF}{wa:Nat->af}{G:bD}{S:List Nat}(h:dD A H e r w g t R W wa G S)(s:aC H H'):dD A H' e r w g t R W wa G S:=h.keep (λb o z _ _=>s _ _ z) (s _ _ h.gi) (s _ _ h.se)
structure Pre(R:cI)(W E:List bF)(G:bD)(S:List Nat)(x:Nat):Prop where
 ok:Ok R E G
 es:∀p f,(p,f)∈G->p∈S->cw E p=[f]
 ew:∀p,p∉S->cw E p=cw W p
 gk:∀p,p∈keys G->p∈W.map λw=>w.x
 xw:x∈W.map λw=>w.x
 xn:x∉keys G
 xs:x∉S
 wl:W.length<=60
 fl:∃FN:List Nat,FN.length<=100/\∀p f,f∈cw E p->f∈FN
theorem L3{G:bD}{W:List bF}(h1:(keys G).Nodup)(gk:∀p,p∈keys G->p∈W.map λw=>w.x)(wl:W.length<=60):G.length<=60:=by have h:=n6 h1 gk;rw[aD]at h;unfold keys at h;rw[aD]at h;lia
theorem Pre.len{S:List Nat}{x:Nat}(h:Pre R W E G S x):G.length<=60:=L3 h.ok.nd h.gk h.wl
theorem Chain.len{x:Nat}{T:List (Nat×Nat)}(C:Chain E G x T){FN:List Nat}(h1:FN.length<=100)(h2:∀p f,f∈cw E p->f∈FN):T.length<=100:=by
 have h:=n6 C.nd (m:=FN) λf hf=>by obtain⟨t,ht,rfl⟩:=aB.mp hf;exact h2 _ _ (C.way t.1 t.2 ht)
 rw[aD]at h;lia
theorem ahi(h:p∉keys G):eh G p f=G++[(p,f)]:=by unfold eh;rw[ah λz=>h (any_keys.mp z)]
def VT(H0:Hp)(e tk mv:af)(R:cI)(E:List bF)(G:bD)(S:List Nat)(x:Nat)(n:Nat)(σ:L2.St)(H':Hp):Prop:=∃T v5 v6 v7,σ=[some (.ref e),some (.int (x:Int)),some (.ref tk),some (.ref mv),some (.int (n:Nat)),v5,v6,v7]/\aC H0 H'/\H' tk=some (.dK (gK T))/\H' mv=some (.lst ((fG G S x T).map iV))/\Search R E G S x T/\n<=(fG G S x T).length/\∀p,p∈(fG G S x T).take n->∀f,f∈cw E p->f∈T.map λt=>t.1
abbrev L4:aV:=inClass (top 63) 3
theorem uw:bu ["self","newcomer","takers","movers","at","mover","flight","seated"] ["self","newcomer","takers"] (bb L4):=bC
inductive VU(A:Ad)(vs:List V)(H:Hp)(Q:VK)(Ex:XK):Prop|mk H0 e r w g t tk R W wa E G S (x:Nat) (z:vs=[.ref e,.int (x:Int),.ref tk]) (z:H=upd H0 tk (.dK [])) (z:H0 tk=none) (z:dD A H0 e r w g t R W wa G S) (z:Pre R W E G S x) (z:(∀H' T f m,∀i:Nat,aC H0 H'->H' tk=some (.dK (gK T))->Chain E G x T->T[i]? =some (f,m)->cnt G f<cp R f->Q (iV f) H')) (z:(∀H' l,aC H0 H'->g7 R E [] G l->(∀f,f∈cw E x->f∈l)->Q .non H'))
theorem ahj(F:bh K "find_free" "Seating.find_free" L4 f fd)(T:Txt K mg A)(wQ:dm P w K mg base A.CE "seated_on" 1 ["self","flight"] (LV A))(wR:dm P w K mg base A.CE "movable" 1 ["self","passengers"] (LZ A K)):aX P w K mg base bc 2 f fd ["self","newcomer","takers"] (VU A):=by
 refine F.bH uw λH vs Q E hr hu h=>?_;obtain⟨H0,e,r,w,g,t,tk,R,W,wa,E,G,S,x,rfl,rfl,rT,hS,hP,k1,k2⟩:=h;obtain⟨FN,tM,Ab⟩:=hP.fl
 refine⟨_,(aq (bf 3 uw.nd (bw (ax (pv 1)))) (aq (bf 4 uw.nd aJ)
   (aq (BE xS (dS qL (pv 4) (iJ K T.len (pv 3))) (aq (bf 5 uw.nd (bz K (pv 3) (pv 4)))
   (aq (bf 4 uw.nd (fg iC (pv 4) aJ))
   (az (gn (fV (cC hu (au K (pv 0)) (pv 5))) (c7 6 uw.nd) (az (bo (dB (f9 hu (pv 6) (pv 2))) (aq (iK hu (pv 2) (pv 6) (pv 5))
   (aq (bf 7 uw.nd (mR (pv 0) T.cE wQ hr (ax (pv 6))))
   (aq (bo (dS qL (iJ K T.len (pv 7)) (cC hu (au K (pv 0)) (pv 6))) (az (aK (pv 6))) bt)
   (az (jk (yt xR Bh Bi BR (pv 3) (ax (mR (pv 0) T.cE wR hr (ax (pv 7)))))))))) bt)))))))
   (az (aK u_))))),?_⟩
 refine⟨_,rfl,by show 1<=aS;decide,λmv L6=>?_⟩;have L7:tk≠mv:=ba (H:=upd H0 tk (.dK [])) ao L6;have ahk:H0 mv=none:=(bL rT).free L6;have sz:1000<=aS:=by decide
 refine⟨λm σ H'=>∃n,m=G.length+1-n/\VT H0 e tk mv R E G S x n σ H',⟨_,0,rfl,[],none,none,none,rfl,(bL rT).trans (bL L6),by rw[ak L7,ao];rfl,ao,Search.nil,fb _,λp h=>by simp at h⟩,?_⟩;rintro m σ H1 ⟨n,rfl,T1,v5,v6,v7,rfl,s1,e1,e2,hC,hn,hc⟩;have hml:=VO (G:=G) (S:=S) (x:=x) hC.chain.nd;have hGl:=hP.len;refine⟨_,rfl,_,rfl,mv,_,rfl,.inl (aE.of e2),_,_,rfl,rfl,_,rfl,dO (λh=>?_) λh=>?_⟩
 ·have h:n<(fG G S x T1).length:=by have h:(n:Int)<(((fG G S x T1).map iV).length:Nat):=h;rw[aD]at h;lia
  refine⟨VT H0 e tk mv R E G S x (n+1),λσ' H' hI=>⟨G.length+1-(n+1),by lia,n+1,rfl,hI⟩,?_⟩;have hm:(fG G S x T1)[n]? =some (fG G S x T1)[n]:=dY h;generalize(fG G S x T1)[n]=m0 at hm;refine⟨_,rfl,_,rfl,mv,_,_,_,rfl,rfl,aE.of e2,at_of (j:=n) (v:=iV m0) (by lia) (by rw[fz,hm];rfl),?_⟩;refine⟨_,rfl,_,_,rfl,rfl,?_⟩;have Lp:=du hm
  have iO:m0∉S/\m0∈W.map λw=>w.x:=by
   rcases VP Lp with rfl|⟨j,g',m',_,h2,h3⟩
   ·exact⟨hP.xs,hP.xw⟩
   ·exact⟨h3,hP.gk _ (mem_keys.mpr ⟨_,h2⟩)⟩
  have L8:=hP.ew m0 iO.1;have gv:=hS.same s1;obtain⟨kw,yV,lM⟩:=gv.wi;refine⟨_,rfl,Tw T gv.ob ⟨_,rfl,?_⟩⟩
  refine⟨w,_,rfl,bq yV (lM m0 iO.2).1,wa m0,rfl,⟨_,aE.of (lM m0 iO.2).2⟩,gp fX (λi σ H'=>∃T v6 v7,σ=[some (.ref e),some (.int (x:Int)),some (.ref tk),some (.ref mv),some (.int ((n+1:Nat):Int)),some (iV m0),v6,v7]/\aC H0 H'/\H' tk=some (.dK (gK T))/\H' mv=some (.lst ((fG G S x T).map iV))/\Search R E G S x T/\(fG G S x T)[n]? =some m0/\(∀p,p∈(fG G S x T).take n->∀f,f∈cw E p->f∈T.map λt=>t.1)/\∀f,f∈(cw E m0).take i->f∈T.map λt=>t.1)
   ⟨T1,v6,v7,rfl,s1,e1,e2,hC,hm,hc,λf hf=>by simp at hf⟩ (λi σ H' _⟨_,_,_,_,s2,_⟩=>aE.of (let⟨kw,_,lM⟩:=(hS.same s2).wi;(lM m0 iO.2).2)) ?_ ?_⟩
  ·rintro i v σ H3 H2 hi ⟨T2,v6,v7,rfl,s2,e1,e2,hC,hm,hc,hd⟩ ⟨rfl,hv⟩
   obtain⟨fl,bA,rfl⟩:=el hv;rw[<-L8]at bA;have gx:=du bA;refine⟨_,rfl,_,rfl,tk,_,rfl,bq (.inl e1) (rR fl T2),_,rfl,?_⟩;cases hl:look T2 fl with
   |some z=>
    refine bp ⟨T2,_,_,rfl,s2,e1,e2,hC,hm,hc,λf hf=>?_⟩;rw[take_snoc bA]at hf;rcases cu.mp hf with hf|hf
    ·exact hd f hf
    ·rw[cj.mp hf]
     exact mem_keys.mpr ⟨z,(jv hC.chain.nd).mp hl⟩|none=>
    have L9:=oC.mp hl;refine aY ⟨_,rfl,_,rfl,_,rfl,tk,_,rfl,iL e1 ?_,?_⟩
    ·rw[z_]
     have:=hC.chain.len tM Ab;lia
    ·have egp:putK (gK T2) (ay (fl:Int)) (iV m0)=gK (T2++[(fl,m0)]):=by rw[<-ahi L9];exact D_ T2 fl m0
     rw[egp];have s3:aC H0 (upd H2 tk (.dK (gK (T2++[(fl,m0)])))):=s2.bW rT;have e3:(upd H2 tk (.dK (gK (T2++[(fl,m0)])))) tk=some (.dK (gK (T2++[(fl,m0)]))):=ao;have e4:(upd H2 tk (.dK (gK (T2++[(fl,m0)])))) mv=some (.lst ((fG G S x T2).map iV)):=by rw[ak L7.symm];exact e2
     generalize upd H2 tk (.dK (gK (T2++[(fl,m0)])))=H3 at s3 e3 e4;have f_:=hS.same s3;obtain⟨dx,hx⟩:=id f_.ob;refine⟨_,rfl,e,dx,_,rfl,hx,rfl,_,rfl,e,r,w,g,t,G,fl,rfl,f_.ob,f_.gi,hP.ok.nd,by lia,λH4 sd s4 L_ lU=>?_⟩;have Ma:=s3.trans s4;have fQ:=hS.same Ma;obtain⟨kr,rM,jo⟩:=fQ.ro;refine⟨_,rfl,sd,_,rfl,.inl (aE.of lU),_,rfl,Tv T fQ.ob ⟨_,rfl,?_⟩⟩;have VV:=du hm;refine⟨r,_,rfl,bq rM (jo m0 fl (by rw[<-L8];exact gx)),_,_,rfl,rfl,_,rfl,dO (λh5=>?_) λh5=>?_⟩
     ·have h5:cnt G fl<cp R fl:=by have h5:((((dM G fl).map λq:Nat=>V.int (q:Int)).length:Nat):Int)<(cp R fl:Nat):=h5;rw[aD]at h5;unfold cQ.cnt;lia
      refine⟨_,rfl,k1 H4 (T2++[(fl,m0)]) fl m0 T2.length Ma (s4 _ _ e3) (hC.chain.snoc VV gx L9) ?_ h5⟩;rw[oI (bM _),Fy];rfl
     ·have h5:cp R fl<=cnt G fl:=by have h5:¬((((dM G fl).map λq:Nat=>V.int (q:Int)).length:Nat):Int)<(cp R fl:Nat):=h5;rw[aD]at h5;unfold cQ.cnt;lia
      have VW:=s4 _ _ e4;obtain⟨wU,wV⟩:=id fQ.ob;have iI:(dM G fl).length<=60:=by
       have h6:(dM G fl).length<=G.length:=by unfold dM;rw[aD];exact e_ _ _
       lia
      refine⟨_,rfl,.inl ⟨rfl,_,aE.of VW⟩,_,rfl,e,wU,_,rfl,wV,rfl,_,rfl,e,r,w,g,t,sd,S,dM G fl,rfl,fQ.ob,fQ.se,aE.of lU,by lia,λH5 md s5 nmd Mb=>?_⟩;have s05:=Ma.trans s5;have VX:=hC.snoc VV gx L9 h5;have akj:=VO (G:=G) (S:=S) (x:=x) VX.chain.nd;have Ec:=ahd G S x T2 (fl,m0);refine⟨mv,md,_,_,rfl,rfl,s5 _ _ VW,Mb,?_,T2++[(fl,m0)],_,_,rfl,s05.bW ahk,?_,?_,VX,?_,λp hp f hf=>?_,λf hf=>?_⟩
      ·rw[aD,aD]
       have h7:(fG G S x T2).length+((dM G fl).filter λq=> !S.contains q).length=(fG G S x (T2++[(fl,m0)])).length:=by rw[Ec,eL];rfl
       lia
      ·rw[ak L7]
       exact s5 _ _ (s4 _ _ e3)
      ·rw[ao,Ec,bS]
       rfl
      ·rw[Ec,nv (eo.mp hm).1]
       exact hm
      ·rw[Ec,List.take_append_of_le_length (jz (eo.mp hm).1)]at hp
       rw[bS];exact jx _ (hc p hp f hf)
      ·rw[take_snoc bA]at hf
       rw[bS];rcases cu.mp hf with hf|hf
       ·exact jx _ (hd f hf)
       ·rw[cj.mp hf]
        exact j5 _ (by simp)
  ·rintro σ H2 ⟨T2,v6,v7,rfl,s2,e1,e2,hC,hm,hc,hd⟩
   rw[aD,<-L8,dQ]at hd;refine⟨T2,_,_,_,rfl,s2,e1,e2,hC,(eo.mp hm).1,λp hp=>?_⟩;rw[take_snoc hm]at hp;rcases cu.mp hp with hp|hp
   ·exact hc p hp
   ·rw[cj.mp hp]
    exact hd
 ·have h:(fG G S x T1).length=n:=by have h:¬(n:Int)<(((fG G S x T1).map iV).length:Nat):=h;rw[aD]at h;lia
  rw[<-h,dQ]at hc;exact k2 H1 _ s1 (hC.lost hP.es hc) (hc x (cK ..))
structure eV(H H':Hp)(g:af):Prop where
 keep:∀b o,H b=some o->b≠g->H' b=some o
 free:∀b,H' b=none->H b=none
theorem eV.refl:eV H H g:=⟨λ_ _ e _=>e,λ_ e=>e⟩
theorem eV.of(s:aC H H'):eV H H' g:=⟨λb o e _=>s b o e,λ_ e=>s.free e⟩
theorem eV.trans(a:eV H H1 g)(b:eV H1 H2 g):eV H H2 g:=⟨λc o e n=>b.keep c o (a.keep c o e n) n,λc e=>a.free c (b.free c e)⟩
theorem eV.upd(a:eV H H' g)(hg:H' g=some o):eV H (upd H' g o') g:=⟨λb o e n=>by rw[ak n];exact a.keep b o e n,λb e=>by
  by_cases hb:b=g
  ·rw[hb,ao]at e;cases e
  ·rw[ak hb]at e;exact a.free b e⟩
theorem dD.setG{A:Ad}{H:Hp}{e r w g t:af}{R:cI}{W:List bF}{wa:Nat->af}{G:bD}{S:List Nat}(h:dD A H e r w g t R W wa G S)(G':bD):dD A (upd H g (.dK (gK G'))) e r w g t R W wa G' S:=h.keep (λb o z n _=>by rw[ak n];exact z) ao (by rw[ak h.ne.2.2.2.2.symm];exact h.se)
theorem dD.ahl{A:Ad}{H:Hp}{e r w g t:af}{R:cI}{W:List bF}{wa:Nat->af}{G:bD}{S:List Nat}(h:dD A H e r w g t R W wa G S)(S':List Nat):dD A (upd H t (.dK (eU S'))) e r w g t R W wa G S':=h.keep (λb o z _ n=>by rw[ak n];exact z) (by rw[ak h.ne.2.2.2.2];exact h.gi) ao
def VY(R:cI)(E:List bF)(G:bD)(x:Nat)(T:List (Nat×Nat))(G':bD)(m:Nat)(v:V):Prop:=(∃i f y,m=i+1/\v=iV f/\T[i]? =some (f,y)/\uv R E G x T i G')∨(m=0/\v=.non/\Ok R E G'/\∀p,p∈keys G'↔p=x∨p∈keys G)
abbrev Mc:aV:=inClass (top 63) 4
theorem wW:bu ["self","newcomer","takers","flight","taker","earlier"] ["self","newcomer"] (bb Mc):=bC
inductive Ed(A:Ad)(vs:List V)(H:Hp)(Q:VK)(Ex:XK):Prop|mk e r w g t R W wa E G S (x:Nat) (z:vs=[.ref e,.int (x:Int)]) (z:dD A H e r w g t R W wa G S) (z:Pre R W E G S x) (z:(∀H' G',eV H H' g->dD A H' e r w g t R W wa G' S->Ok R E G'->(∀p,p∈keys G'↔p=x∨p∈keys G)->Q (.bl true) H')) (z:(∀H' l,aC H H'->g7 R E [] G l->(∀f,f∈cw E x->f∈l)->Q (.bl false) H'))
theorem ahm(F:bh K "seat" "Seating.seat" Mc f fd)(T:Txt K mg A)(Md:dm P w K mg base A.CE "find_free" 2 ["self","newcomer","takers"] (VU A)):aX P w K mg base bc 3 f fd ["self","newcomer"] (Ed A):=by
 refine F.bH wW λH vs Q E hr hu h=>?_;obtain⟨e,r,w,g,t,R,W,wa,E,G,S,x,rfl,hS,hP,k1,k2⟩:=h
 refine⟨_,(aq (bf 2 wW.nd ku) (aq (bf 3 wW.nd (mR (pv 0) T.cE Md hr (aM (pv 1) (ax (pv 2)))))
   (aq (bo (dB (yf (pv 3))) (az (aK ik)) bt)
   (aq (BE xS (dB (o3 (pv 3))) (aq (bf 4 wW.nd (cC hu (pv 2) (pv 3)))
   (aq (bf 5 wW.nd (SV hu (au K (pv 0)) (pv 4)))
   (aq (iK hu (au K (pv 0)) (pv 4) (pv 3))
   (az (bf 3 wW.nd (pv 5)))))))
   (az (aK ik)))))),?_⟩
 intro tk rT;obtain⟨dx,hx⟩:=id (hS.same (bL (o:=.dK []) rT)).ob;refine⟨_,rfl,e,dx,_,rfl,hx,rfl,_,rfl,_,rfl,H,e,r,w,g,t,tk,R,W,wa,E,G,S,x,rfl,rfl,rT,hS,hP,λH1 T1 f1 m1 i1 s1 e1 C hi hc=>?_,λH1 l s1 hL hl=>?_⟩
 ·refine⟨_,rfl,_,rfl,bp ?_⟩
  refine⟨λm σ H'=>∃G' v v4 v5,σ=[some (.ref e),some (.int (x:Int)),some (.ref tk),some v,v4,v5]/\eV H H' g/\dD A H' e r w g t R W wa G' S/\H' tk=some (.dK (gK T1))/\VY R E G x T1 G' m v,⟨_,G,_,none,none,rfl,.of s1,hS.same s1,e1,.inl ⟨i1,f1,m1,rfl,rfl,hi,uv.start hP.ok λf m hf=>by rw[hi]at hf;cases hf;exact hc⟩⟩,?_⟩
  rintro m σ H2 ⟨G',v,v4,v5,rfl,b2,dC,e2,⟨i,f2,y,rfl,rfl,Cf,Me⟩|⟨rfl,rfl,hok,hk⟩⟩
  ·refine⟨_,rfl,_,rfl,aY ?_⟩
   refine⟨λσ H'=>∃m',m'<i+1/\∃G' v v4 v5,σ=[some (.ref e),some (.int (x:Int)),some (.ref tk),some v,v4,v5]/\eV H H' g/\dD A H' e r w g t R W wa G' S/\H' tk=some (.dK (gK T1))/\VY R E G x T1 G' m' v,λσ' H' h=>h,?_⟩;have ua:look T1 f2=some y:=(jv C.nd).mpr (du Cf);refine⟨_,rfl,_,rfl,tk,_,rfl,bq (.inl e2) (by rw[rR,ua];rfl),_,rfl,qZ T dC.ob ⟨g,rfl,.inl ⟨_,.inl dC.gi⟩,_,rfl,_,bq (.inl dC.gi) (rR y G'),_,rfl,_,rfl,qZ T dC.ob ⟨_,rfl,?_⟩⟩⟩;have hgl:G'.length<=60:=L3 Me.nd (λp hp=>hP.gk p ((Me.who p).mp hp)) hP.wl;refine⟨g,_,rfl,iL dC.gi (by rw[z_];have:1000<=aS:=(by decide);lia),?_⟩;have eg:putK (gK G') (ay (y:Int)) (iV f2)=gK (eh G' y f2):=D_ G' y f2;rw[eg];refine⟨_,rfl,?_⟩;have b3:eV H (upd H2 g (.dK (gK (eh G' y f2)))) g:=b2.upd dC.gi;have f_:=dC.setG (eh G' y f2);have Mf:tk≠g:=λz=>by rw[z,hS.gi]at rT;cases rT
   have e3:(upd H2 g (.dK (gK (eh G' y f2)))) tk=some (.dK (gK T1)):=by rw[ak Mf];exact e2
   rcases Me.step C hP.xn Cf with⟨h1,h2,h3,h4⟩|⟨j,g2,m2,h1,h2,h3,h4⟩
   ·exact⟨0,by lia,eh G' y f2,.non,_,_,by rw[h2];rfl,b3,f_,e3,.inr ⟨rfl,rfl,h3,h4⟩⟩
   ·exact⟨j+1,by lia,eh G' y f2,iV g2,_,_,by rw[h3];rfl,b3,f_,e3,.inl ⟨j,g2,m2,rfl,rfl,h2,h4⟩⟩
  ·exact⟨_,rfl,_,rfl,bp (k1 H2 G' b2 dC hok hk)⟩
 ·exact⟨_,rfl,_,rfl,aY (k2 H1 l s1 hL hl)⟩
end WD
namespace WD
open L2 Vbahaj cQ
def EF(Fx:bD):List bF:=Fx.map λq=>⟨q.1,[q.2]⟩
def less(R:cI)(Fx:bD):cI:=Fx.foldl (λR q=>kj R q.2) R
theorem VZ(R:cI)(Fx:bD)(x f:Nat):less R (Fx++[(x,f)])=kj (less R Fx) f:=by unfold less;rw[Fm];rfl
theorem V0(R:cI)(f h:Nat):cp (kj R f) h=if h=f then cp R h-1 else cp R h:=by
 unfold cp kj;rw[Fs];have e:((λr:Nat×Nat=>r.1==h)∘λr:Nat×Nat=>if r.1=f then(r.1,r.2-1)else r)=λr=>r.1==h:=by
  funext r;show((if r.1=f then(r.1,r.2-1)else r).1==h)=(r.1==h);by_cases z:r.1=f
  ·rw[aj z]
  ·rw[ah z]
 rw[e];cases e2:R.find? λr=>r.1==h with
 |none=>
  show 0=if h=f then 0-1 else 0;by_cases z:h=f
  ·rw[aj z]
  ·rw[ah z]|some r=>
  have h2:r.1=h:=by simpa using gU e2
  show(if r.1=f then(r.1,r.2-1)else r).2=if h=f then r.2-1 else r.2;by_cases z:h=f
  ·rw[aj z,aj (h2.trans z)]
  ·rw[ah z,ah (by rw[h2];exact z)]
theorem cnt_cons(q:Nat×Nat)(a:bD)(f:Nat):cQ.cnt (q::a) f=(if q.2=f then 1 else 0)+cQ.cnt a f:=by
 rw[pE,pE,bX];by_cases h:q.2=f
 ·rw[aj h,aj (by simpa using h),dJ];lia
 ·rw[ah h,ah (by simpa using h)];lia
theorem V1(a b:bD)(f:Nat):cQ.cnt (a++b) f=cQ.cnt a f+cQ.cnt b f:=by rw[pE,pE,pE,fy,eL]
theorem Ee:∀(Fx:bD)(R:cI)(h:Nat),cp (less R Fx) h=cp R h-cQ.cnt Fx h
 |[],R,h=>by rfl|q::Fx,R,h=>by
  show cp (less (kj R q.2) Fx) h=_;rw[Ee Fx,V0,cnt_cons];by_cases z:h=q.2
  ·rw[aj z,aj z.symm];lia
  ·rw[ah z,ah (λy=>z y.symm)];lia
theorem Ac(Fx:bD):(EF Fx).map (λw=>w.x)=keys Fx:=by unfold EF keys;rw[dv];rfl
theorem V2{g:Nat->Nat}(h:∀q,q∈Fx->g q.1=q.2)(f:Nat):((EF Fx).filter λw=>g w.x==f).length=cQ.cnt Fx f:=by unfold EF;rw[pE,OB,aD];congr 1;refine uK λq hq=>?_;show(g q.1==f)=(q.2==f);rw[h q hq]
theorem V3(hn:(keys Fx++ws.map λw=>w.x).Nodup):gj R (EF Fx++ws)↔(∀f,cQ.cnt Fx f<=cp R f)/\gj (less R Fx) ws:=by
 obtain⟨rV,sV,hn3⟩:=gf.mp hn;constructor
 ·rintro⟨g,h1,h2⟩
  have hg:∀q,q∈Fx->g q.1=q.2:=λq hq=>by have:=h1 ⟨q.1,[q.2]⟩ (jx _ (aB.mpr ⟨q,hq,rfl⟩));exact cj.mp this
  have h3:=λf=>by have:=h2 f;rw[fy,eL,V2 hg]at this;exact this
  refine⟨λf=>by have:=h3 f;lia,g,λw hw=>h1 w (j5 _ hw),λf=>?_⟩;rw[Ee];have:=h3 f;lia
 ·rintro⟨h0,g,h1,h2⟩
  have hg:∀q,q∈Fx->(look Fx q.1).getD (g q.1)=q.2:=λq hq=>by rw[(jv rV).mpr (show(q.1,q.2)∈Fx from hq)];rfl
  have hw:∀w,w∈ws->(look Fx w.x).getD (g w.x)=g w.x:=λw hw=>by rw[oC.mpr λz=>hn3 _ z _ (aB.mpr ⟨w,hw,rfl⟩) rfl];rfl
  refine⟨λp=>(look Fx p).getD (g p),λw hm=>?_,λf=>?_⟩
  ·rcases cu.mp hm with hm|hm
   ·obtain⟨q,hq,rfl⟩:=aB.mp hm
    show(look Fx q.1).getD (g q.1)∈[q.2];rw[hg q hq];exact cj.mpr rfl
   ·show(look Fx w.x).getD (g w.x)∈w.ways
    rw[hw w hm];exact h1 w hm
  ·have e1:=V2 (g:=λp=>(look Fx p).getD (g p)) hg f
   have e2:(ws.filter λw=>(λp=>(look Fx p).getD (g p)) w.x==f)=ws.filter λw=>g w.x==f:=uK λw hm=>by show((look Fx w.x).getD (g w.x)==f)=_;rw[hw w hm]
   rw[fy,eL,e1,e2];have h3:=h2 f;rw[Ee]at h3;have:=h0 f;lia
theorem ahn(p:l.Perm m)(h:gj R l):gj R m:=by obtain⟨g,h1,h2⟩:=h;refine⟨g,λw hw=>h1 w (p.mem_iff.mpr hw),λf=>?_⟩;rw[<-(p.filter _).length_eq];exact h2 f
theorem V4(hn:(keys Fx++x::ws.map λw=>w.x).Nodup)(hc:∀h,cQ.cnt Fx h<=cp R h):(decide (0<cp (less R Fx) f)&&fits (kj (less R Fx) f) ws)=true↔gj R (EF (Fx++[(x,f)])++ws):=by
 have hk:keys (Fx++[(x,f)])=keys Fx++[x]:=by unfold keys;rw[bS];rfl
 have gD:(keys (Fx++[(x,f)])++ws.map λw=>w.x).Nodup:=by rw[hk,l_];exact hn
 have hw:=(gf.mp gD).2.1;rw[V3 gD,VZ,cJ,h9,CI hw,Ee];constructor
 ·rintro⟨h1,h2⟩
  refine⟨λh=>?_,h2⟩;rw[V1,cnt_cons];have h3:=hc h;have e0:cQ.cnt [] h=0:=rfl;by_cases z:f=h
  ·rw[aj z,e0]
   rw[z]at h1;lia
  ·rw[ah z,e0];lia
 ·rintro⟨h1,h2⟩
  refine⟨?_,h2⟩;have:=h1 f;rw[V1,cnt_cons,aj rfl]at this;lia
theorem rW(p:Nat):cw (EF Fx++W) p=match look Fx p with|some f=>[f]|none=>cw W p:=by unfold cw look EF;rw[qm,Fs];have e:((λw:bF=>w.x==p)∘λq:Nat×Nat=>(⟨q.1,[q.2]⟩:bF))=λq=>q.1==p:=rfl;rw[e];cases Fx.find? λq=>q.1==p with|none=>rfl|some q=>rfl
theorem V5:∀{l:List bF},(l.map λw=>w.x).Nodup->wd∈l->l.Perm ((l.filter λv=>v.x !=wd.x)++[wd])
 |[],_,h=>by cases h|v::l,hn,h=>by
  have gD:=gS.mp hn;rcases b9.mp h with rfl|h
  ·have e:((wd::l).filter λv=>v.x !=wd.x)=l:=by rw[bX,ah (by simp)];refine Oo.mpr λu hu=>?_;have:=λz=>gD.1 (aB.mpr ⟨u,hu,z⟩);simpa using this
   rw[e];exact(List.perm_append_singleton wd l).symm
  ·have cD:v.x≠wd.x:=λz=>gD.1 (aB.mpr ⟨wd,h,z.symm⟩)
   rw[bX,aj (by simpa using cD)];exact(V5 gD.2 h).cons v
theorem aho(ok:Ok R W G)(hk:∀p,p∈keys G↔p∈done.map λw=>w.x)(hs:∀w,w∈done->w∈W)(hW:(W.map λw=>w.x).Nodup)(hd:(done.map λw=>w.x).Nodup):Ok R done G:=by refine⟨ok.nd,λp f h=>?_,ok.room⟩;obtain⟨w,hw,rfl⟩:=aB.mp ((hk p).mp (mem_keys.mpr ⟨f,h⟩));have:=ok.way w.x f h;rw[i6 hW (hs w hw)]at this;rw[i6 hd hw];exact this
structure fY(R:cI)(W:List bF)(Fx:bD)(ws:List bF)(G:bD):Prop where
 ok:Ok R W G
 fx:∀p f,(p,f)∈Fx->(p,f)∈G
 who:∀p,p∈keys G↔p∈keys Fx∨p∈ws.map λw=>w.x
 nd:(keys Fx++ws.map λw=>w.x).Nodup
 sub:∀w,w∈ws->w∈W
 wn:(W.map λw=>w.x).Nodup
 wl:W.length<=60
 fl:∃FN:List Nat,FN.length<=100/\∀p f,f∈cw W p->f∈FN
theorem fY.fn(h:fY R W Fx ws G):(keys Fx).Nodup:=(gf.mp h.nd).1
theorem fY.cnt(h:fY R W Fx ws G)(f:Nat):cQ.cnt Fx f<=cp R f:=aZ (mP h.fn λp hp=>h.fx p f hp) (h.ok.room f)
theorem oE(Fx:bD)(x f:Nat):keys (Fx++[(x,f)])=keys Fx++[x]:=by unfold keys;rw[bS];rfl
theorem fY.next(h:fY R W Fx (w::ws) G)(ok:Ok R (EF (Fx++[(w.x,f)])++W) G')(hf:f∈w.ways)(hk:∀p,p∈keys G'↔p∈keys G):fY R W (Fx++[(w.x,f)]) ws G':=by
 have hn:(keys (Fx++[(w.x,f)])++ws.map λw=>w.x).Nodup:=by rw[oE,l_];exact h.nd
 have rV:=(gf.mp hn).1;have hfx:∀p g,(p,g)∈Fx++[(w.x,f)]->(p,g)∈G':=λp g hp=>by
  have h1:p∈keys G:=by
   rw[h.who];rcases cu.mp hp with hp|hp
   ·exact .inl (mem_keys.mpr ⟨g,hp⟩)
   ·have:=cj.mp hp
    cases this;exact .inr (by simp)
  obtain⟨g',jW⟩:=mem_keys.mp ((hk p).mpr h1);have h2:=ok.way p g' jW;rw[rW,(jv rV).mpr hp]at h2;rw[cj.mp h2]at jW;exact jW
 refine⟨⟨ok.nd,λp g hp=>?_,ok.room⟩,hfx,λp=>?_,hn,λv hv=>h.sub v (b8 _ hv),h.wn,h.wl,h.fl⟩
 ·have h2:=ok.way p g hp
  rw[rW]at h2;cases e:look (Fx++[(w.x,f)]) p with
  |none=>rw[e]at h2;exact h2|some g'=>
   rw[e]at h2;have h3:=cj.mp h2;rw[<-h3]at e;rcases cu.mp ((jv rV).mp e)with h4|h4
   ·exact h.ok.way p g (h.fx p g h4)
   ·have:=cj.mp h4
    cases this;rw[i6 h.wn (h.sub w (by simp))];exact hf
 ·rw[hk,h.who,oE,cu]
  simp[or_assoc]
theorem fY.ahp(h:fY R W Fx ws G):gj R (EF Fx++ws):=by
 refine CG ?_ ⟨h.ok.nd,λp f hp=>?_,h.ok.room⟩ λp=>?_
 ·rw[bS,Ac];exact h.nd
 ·rw[rW]
  cases e:look Fx p with
  |some g=>have:=uniq h.ok.nd (h.fx p g ((jv h.fn).mp e)) hp;rw[this];exact cj.mpr rfl|none=>
   rcases(h.who p).mp (mem_keys.mpr ⟨f,hp⟩)with h1|h1
   ·exact absurd h1 (oC.mp e)
   ·obtain⟨w,hw,rfl⟩:=aB.mp h1
    have h2:=h.ok.way w.x f hp;rw[i6 h.wn (h.sub w hw)]at h2;rw[i6 (gf.mp h.nd).2.1 hw];exact h2
 ·rw[h.who,bS,Ac,cu]
structure fC(G:bD)(x f:Nat)(G1:bD):Prop where
 nd:(keys G1).Nodup
 mem:∀p h,(p,h)∈G1↔(p=x/\h=f)∨((p,h)∈G/\p≠x)
structure wX(G:bD)(x:Nat)(Gc:bD):Prop where
 nd:(keys Gc).Nodup
 mem:∀p h,p≠x->((p,h)∈Gc↔(p,h)∈G)
theorem wX.put(h:wX G x Gc)(f:Nat):fC G x f (eh Gc x f):=⟨wN h.nd,λp g=>by
  rw[wO];constructor
  ·rintro(z|⟨z1,z2⟩)
   ·exact .inl z
   ·exact .inr ⟨(h.mem p g z2).mp z1,z2⟩
  ·rintro(z|⟨z1,z2⟩)
   ·exact .inl z
   ·exact .inr ⟨(h.mem p g z2).mpr z1,z2⟩⟩
theorem fC.oth(h:fC G x f G1):wX G x G1:=⟨h.nd,λp g n=>by
  rw[h.mem];constructor
  ·rintro(z|z)
   ·exact absurd z.1 n
   ·exact z.1
  ·intro z
   exact .inr ⟨z,n⟩⟩
theorem fC.back(h:fC G x f G1)(hd:(d,f)∈G1):fC G x f (eh (hZ G1 d) d f):=⟨wN (Ea h.nd),λp g=>by
  rw[wO,m7,<-h.mem];constructor
  ·rintro(⟨rfl,rfl⟩|z)
   ·exact hd
   ·exact z.1.1
  ·intro z
   by_cases e:p=d
   ·subst e
    exact .inl ⟨rfl,uniq h.nd z hd⟩
   ·exact .inr ⟨⟨z,e⟩,e⟩⟩
section
variable{R:cI}{W:List bF}{Fx:bD}{w:bF}{ws:List bF}{G G1:bD}{f d:Nat}
theorem fY.rJ(h:fY R W Fx (w::ws) G)(f:Nat):(keys (Fx++[(w.x,f)])++ws.map λw=>w.x).Nodup:=by rw[oE,l_];exact h.nd
theorem fY.xG(h:fY R W Fx (w::ws) G):∃f0,(w.x,f0)∈G/\f0∈w.ways:=by obtain⟨f0,h0⟩:=mem_keys.mp ((h.who w.x).mpr (.inr (by simp)));have:=h.ok.way _ _ h0;rw[i6 h.wn (h.sub w (by simp))]at this;exact⟨f0,h0,this⟩
theorem fC.keys(h:fY R W Fx (w::ws) G)(o:fC G w.x f G1)(p:Nat):p∈cQ.keys G1↔p∈cQ.keys G:=by
 constructor
 ·intro z
  obtain⟨g,hg⟩:=mem_keys.mp z;rcases(o.mem p g).mp hg with⟨rfl,_⟩|⟨h1,_⟩
  ·exact(h.who _).mpr (.inr (by simp))
  ·exact mem_keys.mpr ⟨g,h1⟩
 ·intro z
  obtain⟨g,hg⟩:=mem_keys.mp z;by_cases e:p=w.x
  ·exact mem_keys.mpr ⟨f,(o.mem p f).mpr (.inl ⟨e,rfl⟩)⟩
  ·exact mem_keys.mpr ⟨g,(o.mem p g).mpr (.inr ⟨hg,e⟩)⟩
theorem fC.fix(h:fY R W Fx (w::ws) G)(o:fC G w.x f G1)(hp:(p,g)∈G1)(hl:look (Fx++[(w.x,f)]) p=some g'):g'=g:=by
 have h1:=(jv (gf.mp (h.rJ f)).1).mp hl;refine uniq o.nd ((o.mem p g').mpr ?_) hp;rcases cu.mp h1 with h2|h2
 ·refine .inr ⟨h.fx _ _ h2,λe=>?_⟩
  subst e;exact(gf.mp h.nd).2.2 _ (mem_keys.mpr ⟨_,h2⟩) _ (by simp) rfl
 ·have:=cj.mp h2
  cases this;exact .inl ⟨rfl,rfl⟩
theorem fC.way(h:fY R W Fx (w::ws) G)(o:fC G w.x f G1)(hp:(p,g)∈G1):g∈cw (EF (Fx++[(w.x,f)])++W) p:=by rw[rW];cases e:look (Fx++[(w.x,f)]) p with
 |some g'=>rw[o.fix h hp e];exact cj.mpr rfl|none=>
  rcases(o.mem p g).mp hp with⟨rfl,_⟩|⟨h1,_⟩
  ·exact absurd (by rw[oE];simp) (oC.mp e)
  ·exact h.ok.way p g h1
theorem fC.V6(o:fC G w.x f G1)(hg:g≠f):cQ.cnt G1 g<=cQ.cnt G g:=mP o.nd λp hp=>by
 rcases(o.mem p g).mp hp with⟨_,e⟩|⟨h1,_⟩
 ·exact absurd e hg
 ·exact h1
theorem fC.mP(o:fC G w.x f G1):cQ.cnt G1 f<=cQ.cnt G f+1:=by
 have h1:=cQ.mP o.nd λp hp=>by rw[kG];exact(o.mem p f).mp hp
 have h2:=Cy (x:=w.x) (f:=f) (g:=f) (a:=G);rw[aj rfl]at h2;lia
theorem fC.ok(h:fY R W Fx (w::ws) G)(o:fC G w.x f G1)(hc:cQ.cnt G1 f<=cp R f):Ok R (EF (Fx++[(w.x,f)])++W) G1:=⟨o.nd,λp g hp=>o.way h hp,λg=>by
  by_cases e:g=f
  ·rw[e];exact hc
  ·exact aZ (o.V6 e) (h.ok.room g)⟩
theorem fC.same(h:fY R W Fx (w::ws) G)(o:fC G w.x f G1)(h0:(w.x,f)∈G):cQ.cnt G1 f<=cp R f:=aZ (cQ.mP o.nd λp hp=>by
  rcases(o.mem p f).mp hp with⟨rfl,_⟩|⟨h1,_⟩
  ·exact h0
  ·exact h1) (h.ok.room f)
theorem fC.noRoom(h:fY R W Fx (w::ws) G)(o:fC G w.x f G1)(hc:cp R f<cQ.cnt G1 f)(hs:∀p,(p,f)∈G1->p∈cQ.keys Fx++[w.x]):¬gj R (EF (Fx++[(w.x,f)])++ws):=by
 intro z;have h1:=((V3 (h.rJ f)).mp z).1 f;have h2:cQ.cnt G1 f<=cQ.cnt (Fx++[(w.x,f)]) f:=cQ.mP o.nd λp hp=>by have h3:=hs p hp;rw[<-oE Fx w.x f]at h3;cases e:look (Fx++[(w.x,f)]) p with
  |none=>exact absurd h3 (oC.mp e)|some g=>have:=o.fix h hp e;subst this;exact(jv (gf.mp (h.rJ g)).1).mp e
 lia
theorem fC.pre(h:fY R W Fx (w::ws) G)(o:fC G w.x f G1)(hf:f∈w.ways)(hd:(d,f)∈G1)(hs:d∉cQ.keys Fx++[w.x]):Pre R W (EF (Fx++[(w.x,f)])++W) (hZ G1 d) (cQ.keys Fx++[w.x]) d:=by
 have hn:=(gf.mp (h.rJ f)).1;have hW:∀p,p∈cQ.keys G->p∈W.map λw=>w.x:=λp hp=>by obtain⟨g,hg⟩:=mem_keys.mp hp;exact Cz (h.ok.way p g hg)
 obtain⟨FN,tM,Ab⟩:=h.fl;refine⟨⟨Ea o.nd,λp g hp=>o.way h (m7.mp hp).1,λg=>?_⟩,λp g hp Mg=>?_,λp Mg=>?_,λp hp=>?_,?_,λz=>?_,hs,h.wl,FN,tM,λp g hg=>?_⟩
 ·by_cases e:g=f
  ·subst e
   have h1:=IC (Ea o.nd) (λp hp=>m7.mp hp) hd;have h2:=o.mP;have h3:=h.ok.room g;lia
  ·refine aZ (cQ.mP (Ea o.nd) λp hp=>(m7.mp hp).1) (aZ (o.V6 e) (h.ok.room g))
 ·rw[rW]
  cases e:look (Fx++[(w.x,f)]) p with
  |none=>exact absurd (by rw[oE];exact Mg) (oC.mp e)|some g'=>rw[o.fix h (m7.mp hp).1 e]
 ·rw[rW,oC.mpr (by rw[oE];exact Mg)]
 ·obtain⟨g,hg⟩:=mem_keys.mp hp
  exact hW p ((o.keys h p).mp (mem_keys.mpr ⟨g,(m7.mp hg).1⟩))
 ·exact hW d ((o.keys h d).mp (mem_keys.mpr ⟨f,hd⟩))
 ·obtain⟨g,hg⟩:=mem_keys.mp z
  exact(m7.mp hg).2 rfl
 ·rw[rW]at hg
  cases e:look (Fx++[(w.x,f)]) p with
  |none=>rw[e]at hg;exact Ab p g hg|some g'=>
   rw[e]at hg;have h1:=cj.mp hg;rw[<-h1]at e;rcases cu.mp ((jv hn).mp e)with h2|h2
   ·exact Ab p g (h.ok.way p g (h.fx p g h2))
   ·have:=cj.mp h2
    cases this;refine Ab w.x _ ?_;rw[i6 h.wn (h.sub w (by simp))];exact hf
theorem fC.lost(h:fY R W Fx (w::ws) G)(o:fC G w.x f G1)(hf:f∈w.ways)(hd:(d,f)∈G1)(hs:d∉cQ.keys Fx++[w.x])(L:g7 R (EF (Fx++[(w.x,f)])++W) [] (hZ G1 d) l)(hl:∀g,g∈cw (EF (Fx++[(w.x,f)])++W) d->g∈l):¬gj R (EF (Fx++[(w.x,f)])++ws):=by
 have P:=o.pre h hf hd hs;have hn:=(gf.mp (h.rJ f));have hx:∀v,v∈EF (Fx++[(w.x,f)])++ws->cw (EF (Fx++[(w.x,f)])++W) v.x=v.ways:=λv hv=>by
  rw[rW];rcases cu.mp hv with hv|hv
  ·obtain⟨q,hq,rfl⟩:=aB.mp hv
   rw[(jv hn.1).mpr (show(q.1,q.2)∈_ from hq)]
  ·rw[oC.mpr λz=>hn.2.2 _ z _ (aB.mpr ⟨v,hv,rfl⟩) rfl]
   exact i6 h.wn (h.sub v (b8 _ hv))
 have Mh:d∈ws.map λw=>w.x:=by
  have h1:=(h.who d).mp ((o.keys h d).mp (mem_keys.mpr ⟨f,hd⟩));rcases h1 with h1|h1
  ·exact absurd (jx _ h1) hs
  ·rcases b9.mp h1 with h1|h1
   ·exact absurd (j5 _ (by rw[h1];simp)) hs
   ·exact h1
 obtain⟨wd,Ae,rfl⟩:=aB.mp Mh;have V7:wd∈EF (Fx++[(w.x,f)])++ws:=j5 _ Ae;have rX:((EF (Fx++[(w.x,f)])++ws).map λw=>w.x).Nodup:=by rw[bS,Ac];exact h.rJ f
 have pm:=V5 rX V7;intro z;refine gH (w:=wd) P.ok (λp=>?_) (λv hv=>hx v (pm.mem_iff.mpr hv)) ((pm.map λw:bF=>w.x).nodup_iff.mp rX) L (λg hg=>hl g (by rw[hx wd V7];exact hg)) (ahn pm z);constructor
 ·intro hp
  obtain⟨g,hg⟩:=mem_keys.mp hp;obtain⟨h1,h2⟩:=m7.mp hg;have h3:=(h.who p).mp ((o.keys h p).mp (mem_keys.mpr ⟨g,h1⟩));have h4:p∈(EF (Fx++[(w.x,f)])++ws).map λw=>w.x:=by rw[bS,Ac,oE,l_,cu];exact h3
  obtain⟨v,hv,rfl⟩:=aB.mp h4;exact aB.mpr ⟨v,ck.mpr ⟨hv,by simpa using h2⟩,rfl⟩
 ·intro hp
  obtain⟨v,hv,rfl⟩:=aB.mp hp;obtain⟨h1,h2⟩:=ck.mp hv;have h4:v.x∈(EF (Fx++[(w.x,f)])++ws).map λw=>w.x:=aB.mpr ⟨v,h1,rfl⟩;rw[bS,Ac,oE,l_,cu]at h4;obtain⟨g,hg⟩:=mem_keys.mp ((o.keys h v.x).mpr ((h.who v.x).mpr h4));exact mem_keys.mpr ⟨g,m7.mpr ⟨hg,by simpa using h2⟩⟩
end
theorem V8:∀{l:List Nat}{i f:Nat},l[i]? =some f->(∀h,h∈l.take i->p h=false)->p f=true->l.find? p=some f|[],i,f,h,_,_=>by simp at h|a::l,0,f,h,_,hp=>by cases h;exact xj hp|a::l,i+1,f,h,hn,hp=>by rw[AF (by rw[hn a (by simp)];decide)];exact V8 h (λz hz=>hn z (by rw[Fh];exact b8 _ hz)) hp
end WD
namespace WD
open PySem PySem.Spec PyProof.Rows L2 Vbahaj cQ
variable{P:bR}{w:bI}{K:aG}{mg:ai->Option ag}{base:bg}{A:Ad}{f:af}{fd:eB}
structure m8(H H':Hp)(g t:af):Prop where
 keep:∀b o,H b=some o->b≠g->b≠t->H' b=some o
 free:∀b,H' b=none->H b=none
theorem m8.of(s:eV H H' g):m8 H H' g t:=⟨λb o e n _=>s.keep b o e n,s.free⟩
theorem m8.trans(a:m8 H H1 g t)(b:m8 H1 H2 g t):m8 H H2 g t:=⟨λc o e n m=>b.keep c o (a.keep c o e n m) n m,λc e=>a.free c (b.free c e)⟩
theorem m8.upd(hg:H t=some o):m8 H (upd H t o') g t:=⟨λb o e n m=>by rw[ak m];exact e,λb e=>by
  by_cases hb:b=t
  ·rw[hb,ao]at e;cases e
  ·rw[ak hb]at e;exact e⟩
theorem ahq{S:List Nat}{x:Nat}(h:x∉S):putK (eU S) (ay (x:Int)) (V.bl true)=eU (S++[x]):=by
 rw[qO]
 ·unfold eU
  rw[bS];rfl
 ·rw[VR,ah h]
abbrev Mi:aV:=inClass (top 63) 5
theorem V9:bu ["self","flight","passengers","displaced"] ["self","flight","passengers"] (bb Mi):=bC
inductive V_(A:Ad)(K:aG)(vs:List V)(H:Hp)(Q:VK)(Ex:XK):Prop|mk e r w g t R W wa E G S l (n:Nat) (ps:List Nat) (z:vs=[.ref e,.int (n:Int),.ref l]) (z:dD A H e r w g t R W wa G S) (z:aE K H l (ps.map iV)) (z:G.length<=100) (z:(ps=[]->Q (.bl false) H)) (z:∀d rF,ps=d::rF->(d,n)∈G/\(keys G).Nodup/\Pre R W E (hZ G d) S d/\(∀H' G',eV H H' g->dD A H' e r w g t R W wa G' S->Ok R E G'->(∀p,p∈keys G'↔p=d∨p∈keys (hZ G d))->Q (.bl true) H')/\(∀H' l,eV H H' g->dD A H' e r w g t R W wa (eh (hZ G d) d n) S->g7 R E [] (hZ G d) l->(∀f,f∈cw E d->f∈l)->Q (.bl false) H'))
theorem ahr(F:bh K "displace" "Seating.displace" Mi f fd)(T:Txt K mg A)(qc:dm P w K mg base A.CE "seat" 3 ["self","newcomer"] (Ed A)):aX P w K mg base bc 4 f fd ["self","flight","passengers"] (V_ A K):=by
 refine F.bH V9 λH vs Q E hr hu h=>?_;obtain⟨e,r,w,g,t,R,W,wa,E,G,S,l,n,ps,rfl,hS,hl,hGl,k1,k2⟩:=h
 refine⟨_,(aq (bo (dS mB (iJ K T.len (pv 2)) aJ) (az (aK ik)) bt) (aq (bf 3 V9.nd (bz K (pv 2) aJ))
   (aq (jk (CJ (au K (pv 0)) (pv 3)))
   (aq (bo (dj (mR (pv 0) T.cE qc hr (ax (pv 3)))) (az (aK ik)) bt)
   (aq (iK hu (au K (pv 0)) (pv 3) (pv 1))
   (az (aK ik))))))),?_⟩
 refine⟨_,rfl,l,_,rfl,.inl hl,?_⟩;cases ps with
 |nil=>exact⟨rfl,_,rfl,aY (k1 rfl)⟩|cons d rF=>
  obtain⟨hd,hN,hP,k3,k4⟩:=k2 d rF rfl;refine⟨rfl,_,rfl,dO (λz=>?_) λ_=>?_⟩
  ·have z:=V.int.inj z
   rw[aD,dJ]at z;lia
  refine⟨_,rfl,l,_,_,_,rfl,rfl,hl,at_of (j:=0) (v:=iV d) (by lia) rfl,_,rfl,qZ T hS.ob ?_⟩;have hv:bZ (gK G) (ay (d:Int))=some (iV n):=by rw[rR,(jv hN).mpr hd];rfl
  refine⟨g,rfl,.inl ⟨_,.inl hS.gi⟩,_,rfl,_,ay (d:Int),_,hS.gi,rfl,hv,?_⟩;rw[LO];have b1:eV H (upd H g (.dK (gK (hZ G d)))) g:=eV.refl.upd hS.gi;have gv:=hS.setG (hZ G d);generalize upd H g (.dK (gK (hZ G d)))=H1 at b1 gv;obtain⟨dx,hx⟩:=id gv.ob;refine⟨_,rfl,e,dx,_,rfl,hx,rfl,_,rfl,e,r,w,g,t,R,W,wa,E,hZ G d,S,d,rfl,gv,hP,λH2 G2 b2 dC ok2 pA=>?_,λH2 l2 s2 hL iZ=>?_⟩
  ·exact⟨_,rfl,aY (k3 H2 G2 (b1.trans b2) dC ok2 pA)⟩
  ·refine⟨_,rfl,bp ⟨_,rfl,?_⟩⟩
   have dC:=gv.same s2;refine⟨_,rfl,qZ T dC.ob ⟨_,rfl,g,_,rfl,iL dC.gi ?_,?_⟩⟩
   ·rw[z_]
    have h1:(hZ G d).length<=G.length:=e_ _ _;have:1000<=aS:=by decide
    lia
   ·have eg:putK (gK (hZ G d)) (ay (d:Int)) (iV n)=gK (eh (hZ G d) d n):=D_ _ d n
    rw[eg];exact k4 _ l2 ((b1.trans (.of s2)).upd dC.gi) (dC.setG _) hL iZ
abbrev Mj:aV:=inClass (top 63) 6
theorem Ml:bu ["self","passenger","flight","seated"] ["self","passenger"] (bb Mj):=bC
inductive Wa(A:Ad)(vs:List V)(H:Hp)(Q:VK)(E:XK):Prop|mk e r w g t R W wa Fx v ws G (z:vs=[.ref e,.int ((v:bF).x:Int)]) (z:dD A H e r w g t R W wa G (keys Fx)) (z:fY R W Fx (v::ws) G) (z:∀H' G' f,m8 H H' g t->dD A H' e r w g t R W wa G' (keys (Fx++[(v.x,f)]))->fY R W (Fx++[(v.x,f)]) ws G'->(v.ways.find? λf=>decide (0<cp (less R Fx) f)&&fits (kj (less R Fx) f) ws)=some f->Q .non H')
theorem ahs(F:bh K "settle" "Seating.settle" Mj f fd)(T:Txt K mg A)(wQ:dm P w K mg base A.CE "seated_on" 1 ["self","flight"] (LV A))(wR:dm P w K mg base A.CE "movable" 1 ["self","passengers"] (LZ A K))(Mm:dm P w K mg base A.CE "displace" 4 ["self","flight","passengers"] (V_ A K)):aX P w K mg base bc 5 f fd ["self","passenger"] (Wa A):=by
 refine F.bH Ml λH vs Q E hr hu h=>?_;obtain⟨e,r,w,g,t,R,W,wa,Fx,v,ws,G,rfl,hS,hT,k⟩:=h;have sz:1000<=aS:=by decide
 have hW:∀p,p∈keys G->p∈W.map λw=>w.x:=λp hp=>by obtain⟨g,hg⟩:=mem_keys.mp hp;exact Cz (hT.ok.way p g hg)
 have Wb:v∈W:=hT.sub v (by simp);have Ef:v.x∈W.map λw=>w.x:=aB.mpr ⟨v,Wb,rfl⟩;have Mn:cw W v.x=v.ways:=i6 hT.wn Wb;have hxF:v.x∉keys Fx:=λz=>(gf.mp hT.nd).2.2 _ z _ (by simp) rfl;have Wc:(keys Fx).length<=60:=by have h1:=n6 hT.fn (m:=W.map λw=>w.x) λp hp=>hW p ((hT.who p).mpr (.inl hp));rw[aD]at h1;exact aZ h1 hT.wl
 refine⟨_,(aq (iK hu (au K (pv 0)) (pv 1) ik) (az (gn (fV (cC hu (au K (pv 0)) (pv 1))) (c7 2 Ml.nd) (aq (iK hu (au K (pv 0)) (pv 1) (pv 2))
   (aq (bf 3 Ml.nd (mR (pv 0) T.cE wQ hr (ax (pv 2))))
   (az (bo (PW.pt (jj (dS jK (iJ K T.len (pv 3)) (cC hu (au K (pv 0)) (pv 2))) (ji (dj (mR (pv 0) T.cE Mm hr (aM (pv 2) (ax (mR (pv 0) T.cE wR hr (ax (pv 3)))))))))) (az abe) bt))))))),?_⟩
 refine⟨_,rfl,Tx T hS.ob ⟨_,rfl,t,_,rfl,iL hS.se (by unfold eU;rw[aD];lia),?_⟩⟩;rw[ahq hxF];have b1:m8 H (upd H t (.dK (eU (keys Fx++[v.x])))) g t:=m8.upd hS.se;have gv:=hS.ahl (keys Fx++[v.x]);generalize upd H t (.dK (eU (keys Fx++[v.x])))=H1 at b1 gv;obtain⟨kw,yV,lM⟩:=gv.wi;refine⟨_,rfl,Tw T gv.ob ⟨_,rfl,?_⟩⟩;have hlen:∀{Gc:bD},wX G v.x Gc->Gc.length<=60:=λ{Gc}o=>L3 o.nd (λp hp=>by
  by_cases z:p=v.x
  ·rw[z];exact Ef
  ·obtain⟨g,hg⟩:=mem_keys.mp hp
   exact hW p (mem_keys.mpr ⟨g,(o.mem p g z).mp hg⟩)) hT.wl
 obtain⟨f0,yU,aht⟩:=hT.xG
 refine⟨w,_,rfl,bq yV (lM v.x Ef).1,wa v.x,rfl,⟨_,aE.of (lM v.x Ef).2⟩,gp fX (λi σ H'=>∃Gc v2 v3,σ=[some (.ref e),some (.int (v.x:Int)),v2,v3]/\eV H1 H' g/\dD A H' e r w g t R W wa Gc (keys Fx++[v.x])/\wX G v.x Gc/\∀f,f∈v.ways.take i->f≠f0/\¬gj R (EF (Fx++[(v.x,f)])++ws))
  ⟨G,none,none,rfl,eV.refl,gv,⟨hT.ok.nd,λp h _=>iQ⟩,λf hf=>by simp at hf⟩ (λi σ H' _⟨_,_,_,_,_,dC,_⟩=>aE.of (let⟨kw,_,lM⟩:=dC.wi;(lM v.x Ef).2)) ?_ ?_⟩
 ·rintro i z σ H3 H2 hi ⟨Gc,v2,v3,rfl,b2,dC,hO,iq⟩ ⟨rfl,hv⟩
  obtain⟨fl,bA,rfl⟩:=el hv;rw[Mn]at bA;have gx:=du bA;have o1:=hO.put fl;refine⟨_,rfl,_,rfl,qZ T dC.ob ⟨_,rfl,g,_,rfl,iL dC.gi (by rw[z_];have:=hlen hO;lia),?_⟩⟩;have eg:putK (gK Gc) (ay (v.x:Int)) (iV fl)=gK (eh Gc v.x fl):=D_ _ v.x fl;rw[eg];have b3:eV H1 (upd H2 g (.dK (gK (eh Gc v.x fl)))) g:=b2.upd dC.gi;have f_:=dC.setG (eh Gc v.x fl);generalize upd H2 g (.dK (gK (eh Gc v.x fl)))=H3 at b3 f_;have ahu:=hlen o1.oth;generalize eh Gc v.x fl=G1 at o1 f_ ahu;obtain⟨dx,hx⟩:=id f_.ob;refine⟨_,rfl,e,dx,_,rfl,hx,rfl,_,rfl,e,r,w,g,t,G1,fl,rfl,f_.ob,f_.gi,o1.nd,by lia,λH4 sd s4 L_ lU=>?_⟩;have fQ:=f_.same s4;obtain⟨kr,rM,jo⟩:=fQ.ro;have hti:(decide (0<cp (less R Fx) fl)&&fits (kj (less R Fx) fl) ws)=true↔gj R (EF (Fx++[(v.x,fl)])++ws):=V4 hT.nd hT.cnt;have Wd:∀H' G',eV H4 H' g->dD A H' e r w g t R W wa G' (keys Fx++[v.x])->Ok R (EF (Fx++[(v.x,fl)])++W) G'->(∀p,p∈keys G'↔p∈keys G)->Q .non H':=λH' G' b' Mo ok' jL=>by have hN:=hT.next ok' gx jL;refine k H' G' fl (b1.trans (.of ((b3.trans (.of s4)).trans b'))) (by rw[oE];exact Mo) hN (V8 bA (λh hh=>?_) (hti.mpr hN.ahp));refine E3.mpr λy=>?_;exact(iq h hh).2 ((V4 hT.nd hT.cnt).mp y)
  have We:∀H' G',eV H4 H' g->dD A H' e r w g t R W wa G' (keys Fx++[v.x])->fC G v.x fl G'->fl≠f0->¬gj R (EF (Fx++[(v.x,fl)])++ws)->∃Gc v2 v3,[some (V.ref e),some (.int (v.x:Int)),some (iV fl),some (.ref sd)]=[some (.ref e),some (.int (v.x:Int)),v2,v3]/\eV H1 H' g/\dD A H' e r w g t R W wa Gc (keys Fx++[v.x])/\wX G v.x Gc/\∀f,f∈v.ways.take (i+1)->f≠f0/\¬gj R (EF (Fx++[(v.x,f)])++ws):=λH' G' b' Mo o' n0 nf=>by
   refine⟨G',_,_,rfl,(b3.trans (.of s4)).trans b',Mo,o'.oth,λf hf=>?_⟩;rw[take_snoc bA]at hf;rcases cu.mp hf with hf|hf
   ·exact iq f hf
   ·rw[cj.mp hf]
    exact⟨n0,nf⟩
  refine⟨_,rfl,sd,_,rfl,.inl (aE.of lU),_,rfl,Tv T fQ.ob ⟨_,rfl,?_⟩⟩;refine⟨r,_,rfl,bq rM (jo v.x fl (by rw[Mn];exact gx)),_,_,rfl,rfl,_,rfl,dO (λh5=>?_) λh5=>?_⟩
  ·have h5:cQ.cnt G1 fl<=cp R fl:=by have h5:((((dM G1 fl).map λq:Nat=>V.int (q:Int)).length:Nat):Int)<=(cp R fl:Nat):=h5;rw[aD]at h5;unfold cQ.cnt;lia
   exact aY (Wd H4 G1 eV.refl fQ (o1.ok hT h5) (o1.keys hT))
  ·have h5:cp R fl<cQ.cnt G1 fl:=by have h5:¬((((dM G1 fl).map λq:Nat=>V.int (q:Int)).length:Nat):Int)<=(cp R fl:Nat):=h5;rw[aD]at h5;unfold cQ.cnt;lia
   have mO:fl≠f0:=λz=>by rw[<-z]at yU;have:=o1.same hT yU;lia
   have iI:(dM G1 fl).length<=60:=by
    have h6:(dM G1 fl).length<=G1.length:=by unfold dM;rw[aD];exact e_ _ _
    lia
   obtain⟨wU,wV⟩:=id fQ.ob;refine⟨_,rfl,e,wU,_,rfl,wV,rfl,_,rfl,_,rfl,e,wU,_,rfl,wV,rfl,_,rfl,e,r,w,g,t,sd,keys Fx++[v.x],dM G1 fl,rfl,fQ.ob,fQ.se,aE.of lU,by lia,λH5 md s5 nmd Mb=>?_⟩;have Eg:=fQ.same s5;refine⟨e,r,w,g,t,R,W,wa,EF (Fx++[(v.x,fl)])++W,G1,keys Fx++[v.x],md,fl,(dM G1 fl).filter λq=> !(keys Fx++[v.x]).contains q,rfl,Eg,aE.of Mb,by lia,λhe=>?_,λd rF he=>?_⟩
   ·refine⟨_,rfl,bp (We H5 G1 (.of s5) Eg o1 mO (o1.noRoom hT h5 λp hp=>?_))⟩
    have h6:=AG.mp he p (js.mpr hp);rcases Classical.em (p∈keys Fx++[v.x])with z|z
    ·exact z
    ·exact absurd (by rw[show(keys Fx++[v.x]).contains p=false from by rw[<-Bool.not_eq_true,fD];exact z];rfl) h6
   ·have Mh:d∈(dM G1 fl).filter λq=> !(keys Fx++[v.x]).contains q:=by rw[he];exact cK ..
    obtain⟨tL,hd2⟩:=ck.mp Mh;have Af:(d,fl)∈G1:=js.mp tL;have Wf:d∉keys Fx++[v.x]:=λz=>by rw[fD.mpr z]at hd2;cases hd2
    refine⟨Af,o1.nd,o1.pre hT gx Af Wf,λH6 G6 b6 Mp ok6 hk6=>⟨_,rfl,aY (Wd H6 G6 ((eV.of s5).trans b6) Mp ok6 λp=>?_)⟩,λH6 l6 b6 Mp hL6 hl6=>⟨_,rfl,bp (We H6 _ ((eV.of s5).trans b6) Mp (o1.back Af) mO (o1.lost hT gx Af Wf hL6 hl6))⟩⟩;rw[hk6,<-o1.keys hT];constructor
    ·rintro(rfl|z)
     ·exact mem_keys.mpr ⟨_,Af⟩
     ·obtain⟨y,hy⟩:=mem_keys.mp z
      exact mem_keys.mpr ⟨y,(m7.mp hy).1⟩
    ·intro z
     obtain⟨y,hy⟩:=mem_keys.mp z;by_cases e:p=d
     ·exact .inl e
     ·exact .inr (mem_keys.mpr ⟨y,m7.mpr ⟨hy,e⟩⟩)
 ·rintro σ H2 ⟨Gc,v2,v3,rfl,b2,dC,hO,iq⟩
  rw[aD,Mn,dQ]at iq;exact absurd rfl (iq f0 aht).1
def wK(wa:Nat->af)(W:List bF):List (Key×V):=W.map λw=>(ay (w.x:Int),V.ref (wa w.x))
theorem ahv{wa:Nat->af}{x:Nat}(h:x∈W.map λw=>w.x):bZ (wK wa W) (ay (x:Int))=some (.ref (wa x)):=by unfold wK;rw[pN (k:=λw:bF=>w.x) (g:=λw:bF=>V.ref (wa w.x)) x W];obtain⟨w,hw,rfl⟩:=aB.mp h;cases e:W.find? λv=>v.x==w.x with
 |none=>exact absurd (iR.mp e w hw) (by simp)|some v=>
  have h2:v.x=w.x:=by simpa using gU e
  show some (V.ref (wa v.x))=_;rw[h2]
structure ux(H:Hp)(r w:af)(R:cI)(W:List bF)(wa:Nat->af):Prop where
 ro:∃kr,Rd H r (.dK kr)/\∀x f:Nat,f∈cw W x->bZ kr (ay (f:Int))=some (iV (cp R f))
 wi:H w=some (.dK (wK wa W))
 wl:∀x:Nat,x∈(W.map λw=>w.x)->H (wa x)=some (.lst ((cw W x).map iV))
 nd:(W.map λw=>w.x).Nodup
 len:W.length<=60
 fl:∃FN:List Nat,FN.length<=100/\∀p f,f∈cw W p->f∈FN
theorem ux.rn{H:Hp}{r w:af}{R:cI}{W:List bF}{wa:Nat->af}(h:ux H r w R W wa):∃u,H r=some u:=by
 obtain⟨kr,h1,_⟩:=h.ro;rcases h1 with h1|⟨o,h1⟩
 ·exact⟨_,h1⟩
 ·exact⟨_,h1⟩
theorem Wg{A:Ad}{H:Hp}{e dx r w g t:af}{R:cI}{W:List bF}{wa:Nat->af}(hI:ux H r w R W wa)(ne:H e=none)(nd:H dx=none)(cD:dx≠e)(ng:(upd (upd H dx (.own e)) e (.ins A.CE dx [])) g=none)(nt:(upd (upd H dx (.own e)) e (.ins A.CE dx [])) t=none)(p9:g≠t):aC H (upd (upd (upd (upd (upd H dx (.own e)) e (.ins A.CE dx [])) g (.dK [])) t (.dK [])) e (.ins A.CE dx (g8 r w g t)))/\H g=none/\H t=none/\
  dD A (upd (upd (upd (upd (upd H dx (.own e)) e (.ins A.CE dx [])) g (.dK [])) t (.dK [])) e (.ins A.CE dx (g8 r w g t))) e r w g t R W wa [] []:=by
 have neg:g≠e:=λz=>by rw[z,ao]at ng;cases ng
 have net:t≠e:=λz=>by rw[z,ao]at nt;cases nt
 have s0:aC H (upd (upd H dx (.own e)) e (.ins A.CE dx [])):=(bL nd).bW ne;have jw:=s0.free ng;have p_:=s0.free nt;have s1:aC H (upd (upd (upd (upd (upd H dx (.own e)) e (.ins A.CE dx [])) g (.dK [])) t (.dK [])) e (.ins A.CE dx (g8 r w g t))):=((s0.bW jw).bW p_).bW ne;have eg:(upd (upd (upd (upd (upd H dx (.own e)) e (.ins A.CE dx [])) g (.dK [])) t (.dK [])) e (.ins A.CE dx (g8 r w g t))) g=some (.dK []):=by rw[ak neg,ak p9,ao]
 have et:(upd (upd (upd (upd (upd H dx (.own e)) e (.ins A.CE dx [])) g (.dK [])) t (.dK [])) e (.ins A.CE dx (g8 r w g t))) t=some (.dK []):=by rw[ak net,ao]
 have ee:(upd (upd (upd (upd (upd H dx (.own e)) e (.ins A.CE dx [])) g (.dK [])) t (.dK [])) e (.ins A.CE dx (g8 r w g t))) e=some (.ins A.CE dx (g8 r w g t)):=ao;generalize upd (upd (upd (upd (upd H dx (.own e)) e (.ins A.CE dx [])) g (.dK [])) t (.dK [])) e (.ins A.CE dx (g8 r w g t))=H1 at s1 eg et ee;obtain⟨kr,h1,h2⟩:=hI.ro;obtain⟨u,hr⟩:=hI.rn;refine⟨s1,jw,p_,⟨dx,ee⟩,⟨kr,mT h1 λo z=>s1 _ _ z,h2⟩,⟨_,.inl (s1 _ _ hI.wi),λx hx=>⟨ahv hx,s1 _ _ (hI.wl x hx)⟩⟩,eg,et,ba hr jw,ba hr p_,ba hI.wi jw,ba hI.wi p_,p9⟩
theorem dD.lock{A:Ad}{H Hd:Hp}{e r w g t:af}{R:cI}{W:List bF}{wa:Nat->af}{G:bD}{S:List Nat}{od:bx}{kvs:List (Key×V)}(h:dD A H e r w g t R W wa G S)(lk:Lk H Hd w od kvs):dD A Hd e r w g t R W wa G S:=by obtain⟨dx,z⟩:=h.ob;obtain⟨kr,h1,h2⟩:=h.ro;obtain⟨kw,h3,h4⟩:=h.wi;exact⟨⟨dx,lk.keep _ _ z nofun⟩,⟨kr,lk.rd _ _ h1,h2⟩,⟨kw,lk.rd _ _ h3,λx hx=>⟨(h4 x hx).1,lk.keep _ _ (h4 x hx).2 nofun⟩⟩,lk.ne _ _ h.gi h.ne.2.2.1.symm,lk.ne _ _ h.se h.ne.2.2.2.1.symm,h.ne⟩
theorem Wh{H:Hp}{b w:af}{od:bx}{kvs k:List (Key×V)}(hw:H w=some (.aQ od (.dK kvs)))(h:Rd H b (.dK k)):Rd (upd H w (.dK kvs)) b (.dK k):=by
 by_cases e:b=w
 ·rw[e]at h⊢
  rcases h with h|⟨o,h⟩
  ·rw[hw]at h;cases h
  ·rw[hw]at h
   cases h;exact .inl ao
 ·exact mT h λo z=>by rw[ak e];exact z
theorem dD.unlock{A:Ad}{H:Hp}{e r w g t:af}{R:cI}{W:List bF}{wa:Nat->af}{G:bD}{S:List Nat}{od:bx}{kvs:List (Key×V)}(h:dD A H e r w g t R W wa G S)(hw:H w=some (.aQ od (.dK kvs))):dD A (upd H w (.dK kvs)) e r w g t R W wa G S:=by
 obtain⟨dx,z⟩:=h.ob;obtain⟨kr,h1,h2⟩:=h.ro;obtain⟨kw,h3,h4⟩:=h.wi;have kp:∀b o,H b=some o->o≠.aQ od (.dK kvs)->(upd H w (.dK kvs)) b=some o:=λb o e n=>by rw[ak (cZ e hw n)];exact e
 exact⟨⟨dx,kp _ _ z nofun⟩,⟨kr,Wh hw h1,h2⟩,⟨kw,Wh hw h3,λx hx=>⟨(h4 x hx).1,kp _ _ (h4 x hx).2 nofun⟩⟩,kp _ _ h.gi nofun,kp _ _ h.se nofun,h.ne⟩
theorem dD.uf{A:Ad}{H:Hp}{e r w g t tl:af}{R:cI}{W:List bF}{wa:Nat->af}{G:bD}{S:List Nat}{xs:List V}{o':HO}(h:dD A H e r w g t R W wa G S)(ht:H tl=some (.lst xs))(hn:∀x:Nat,x∈(W.map λw=>w.x)->wa x≠tl):dD A (upd H tl o') e r w g t R W wa G S:=by
 obtain⟨dx,z⟩:=h.ob;obtain⟨kr,h1,h2⟩:=h.ro;obtain⟨kw,h3,h4⟩:=h.wi;have kp:∀b o,H b=some o->o≠.lst xs->(upd H tl o') b=some o:=λb o e n=>by rw[ak (cZ e ht n)];exact e
 have Wi:∀b k,Rd H b (.dK k)->Rd (upd H tl o') b (.dK k):=λb k y=>by
  rcases y with y|⟨o,y⟩
  ·exact .inl (kp _ _ y nofun)
  ·exact .inr ⟨o,kp _ _ y nofun⟩
 exact⟨⟨dx,kp _ _ z nofun⟩,⟨kr,Wi _ _ h1,h2⟩,⟨kw,Wi _ _ h3,λx hx=>⟨(h4 x hx).1,by rw[ak (hn x hx)];exact(h4 x hx).2⟩⟩,kp _ _ h.gi nofun,kp _ _ h.se nofun,h.ne⟩
theorem Eh{H H1 H2:Hp}{w g:af}{kvs:List (Key×V)}(s:aC H (upd H1 w (.dK kvs)))(b:eV H1 H2 g)(ng:H g=none):aC H (upd H2 w (.dK kvs)):=λc o e=>by
 have h1:=s c o e;by_cases hc:c=w
 ·rw[hc,ao]at h1⊢;exact h1
 ·rw[ak hc]at h1⊢
  exact b.keep c o h1 (ba e ng)
theorem Wj{R:cI}{W done:List bF}{w:bF}{G:bD}{l:List Nat}(ok:Ok R W G)(hk:∀p,p∈keys G↔p∈done.map λw=>w.x)(hs:∀v,v∈done++[w]->v∈W)(hW:(W.map λw=>w.x).Nodup)(hd:((done++[w]).map λw=>w.x).Nodup)(L:g7 R W [] G l)(hl:∀f,f∈cw W w.x->f∈l):¬gj R (done++[w]):=gH ok hk (λv hv=>i6 hW (hs v hv)) hd L (λf hf=>hl f (by rw[i6 hW (hs w (by simp))];exact hf))
theorem ahw{R:cI}{W done:List bF}{w:bF}{G':bD}(ok:Ok R W G')(hk:∀p,p∈keys G'↔p∈(done++[w]).map λw=>w.x)(hs:∀v,v∈done++[w]->v∈W)(hW:(W.map λw=>w.x).Nodup)(hd:((done++[w]).map λw=>w.x).Nodup):gj R (done++[w]):=CG hd (aho ok hk hs hW hd) hk
theorem Wl{G G':bD}{done:List bF}{w:bF}(hk:∀p,p∈keys G↔p∈done.map λw=>w.x)(h:∀p,p∈keys G'↔p=w.x∨p∈keys G)(p:Nat):p∈keys G'↔p∈(done++[w]).map λw=>w.x:=by rw[h,hk,bS,cu];simp[or_comm]
theorem Wm{H:Hp}{r w:af}{R:cI}{W done:List bF}{wa:Nat->af}{v:bF}{G:bD}(hI:ux H r w R W wa)(ok:Ok R W G)(hk:∀p,p∈keys G↔p∈done.map λw=>w.x)(hs:∀u,u∈done++[v]->u∈W)(hd:((done++[v]).map λw=>w.x).Nodup):Pre R W W G [] v.x:=by
 refine⟨ok,λp f _ h=>(by cases h),λp _=>rfl,λp hp=>?_,aB.mpr ⟨v,hs v (by simp),rfl⟩,λz=>?_,λz=>(by cases z),hI.len,hI.fl⟩
 ·obtain⟨u,hu,e⟩:=aB.mp ((hk p).mp hp)
  exact aB.mpr ⟨u,hs u (jx _ hu),e⟩
 ·rw[bS]at hd
  exact(gf.mp hd).2.2 _ ((hk _).mp z) _ (by simp) rfl
abbrev Mq:aV:=top 64
theorem Mr:bu ["rooms","wishes","seating","passenger"] ["rooms","wishes"] (bb Mq):=bC
inductive Wn(A:Ad)(vs:List V)(H:Hp)(Q:VK)(E:XK):Prop|mk r w R W wa (z:vs=[.ref r,.ref w]) (z:ux H r w R W wa) (z:∀H' b,aC H H'->(b=true↔gj R W)->Q (.bl b) H')
theorem ahx(F:bh K "can_be_seated" "can_be_seated" Mq f fd)(T:Txt K mg A)(wY:pF P w K mg base A.CE "Seating" 1 ["self","rooms","wishes"] (LQ A))(qc:dm P w K mg base A.CE "seat" 3 ["self","newcomer"] (Ed A)):aX P w K mg base bc 4 f fd ["rooms","wishes"] (Wn A):=by
 refine F.bH Mr λH vs Q E hr hu h=>?_;obtain⟨r,w,R,W,wa,rfl,hI,k⟩:=h
 refine⟨_,(aq (bf 2 Mr.nd (vE wY hr (aM (pv 0) (ax (pv 1))))) (aq (yE (gn (B2 (pv 1)) (c7 3 Mr.nd) (az (bo (gY (dj (mR (pv 2) T.cE qc hr (ax (pv 3))))) (az (aK ik)) bt))))
   (az (aK ik)))),?_⟩
 refine⟨_,rfl,_,rfl,?_⟩;intro e dx ne nd cD;refine⟨e,dx,r,w,rfl,ao,λg t ng nt p9=>⟨rfl,?_⟩⟩;obtain⟨s1,jw,p_,gv⟩:=Wg hI ne nd cD ng nt p9;generalize upd (upd (upd (upd (upd H dx (.own e)) e (.ins A.CE dx [])) g (.dK [])) t (.dK [])) e (.ins A.CE dx (g8 r w g t))=H1 at s1 gv;refine⟨w,_,s1 _ _ hI.wi,bJ,λod=>?_⟩;have lk:Lk H1 (upd H1 w (.aQ od (.dK (wK wa W)))) w od (wK wa W):=Aa (s1 _ _ hI.wi);have rf:=gv.lock lk;generalize upd H1 w (.aQ od (.dK (wK wa W)))=Hd at lk rf;have sd:aC H (upd Hd w (.dK (wK wa W))):=s1.trans (lk.back Hd (aC.refl _))
 refine⟨_,rfl,w,od,rfl,.inl ⟨_,lk.at_,gp CK (λi σ H'=>∃G v3,σ=[some (.ref r),some (.ref w),some (.ref e),v3]/\aC H (upd H' w (.dK (wK wa W)))/\H' w=some (.aQ od (.dK (wK wa W)))/\dD A H' e r w g t R W wa G []/\Ok R W G/\∀p,p∈keys G↔p∈(W.take i).map λw=>w.x) ⟨[],none,rfl,sd,lk.at_,rf,⟨oN,λ_ _ h=>(by cases h),λf=>fb _⟩,λp=>by simp[keys]⟩ (λi σ H' _⟨_,_,_,_,h,_⟩=>h) ?_ ?_⟩⟩
 ·rintro i z σ H3 H2 hi ⟨G,v3,rfl,s2,e2,dC,ok,hk⟩ ⟨rfl,kk,vv,hx,rfl⟩
  obtain⟨v,hv,eq⟩:=el hx;cases eq;have et:=take_snoc hv;have hW:W=(W.take i++[v])++W.drop (i+1):=by rw[<-et,Oj]
  have gh:∀u,u∈W.take i++[v]->u∈W:=λu hu=>by rw[<-et]at hu;exact Fg hu
  have gy:((W.take i++[v]).map λw=>w.x).Nodup:=by rw[<-et];exact hI.nd.sublist (ia _ (Fl _ _))
  obtain⟨Ms,Mt⟩:=id dC.ob;refine⟨_,rfl,e,Ms,_,rfl,Mt,rfl,_,rfl,e,r,w,g,t,R,W,wa,W,G,[],v.x,rfl,dC,Wm hI ok hk gh gy,λH4 G4 b4 fQ Ei Mu=>?_,λH4 l4 s4 Mv Mw=>?_⟩
  ·refine⟨_,rfl,bp ⟨G4,_,rfl,Eh s2 b4 jw,b4.keep _ _ e2 dC.ne.2.2.1,fQ,Ei,?_⟩⟩
   rw[et];exact Wl hk Mu
  ·refine⟨_,rfl,aY ⟨s4 _ _ e2,k _ false (Eh s2 (.of s4) jw) ⟨λz=>(by cases z),λz=>?_⟩⟩⟩
   rw[hW]at z;exact absurd z.mono (Wj ok hk gh hI.nd gy Mv Mw)
 ·rintro σ H2 ⟨G,v3,rfl,s2,e2,dC,ok,hk⟩
  have jr:(wK wa W).length=W.length:=by unfold wK;rw[aD]
  rw[jr,dQ]at hk;exact⟨e2,k _ true s2 ⟨λ_=>CG hI.nd ok hk,λ_=>rfl⟩⟩
abbrev Mx:aV:=top 65
theorem Ag:bu ["rooms","wishes","seating","taken","passenger"] ["rooms","wishes"] (bb Mx):=bC
inductive Wo(A:Ad)(vs:List V)(H:Hp)(Q:VK)(E:XK):Prop|mk r w R W wa (z:vs=[.ref r,.ref w]) (z:ux H r w R W wa) (z:∀H' g G,aC H H'->H g=none->H' g=some (.dK (gK G))->(∀p,look G p=look (ml R W) p)->Q (.ref g) H')
theorem ahy(F:bh K "best_seating" "best_seating" Mx f fd)(T:Txt K mg A)(wY:pF P w K mg base A.CE "Seating" 1 ["self","rooms","wishes"] (LQ A))(qc:dm P w K mg base A.CE "seat" 3 ["self","newcomer"] (Ed A))(My:dm P w K mg base A.CE "settle" 5 ["self","passenger"] (Wa A)):aX P w K mg base bc 6 f fd ["rooms","wishes"] (Wo A):=by
 refine F.bH Ag λH vs Q E hr hu h=>?_;obtain⟨r,w,R,W,wa,rfl,hI,k⟩:=h;have sz:1000<=aS:=by decide
 refine⟨_,(aq (bf 2 Ag.nd (vE wY hr (aM (pv 0) (ax (pv 1))))) (aq (bf 3 Ag.nd (bw mE))
   (aq (yE (gn (B2 (pv 1)) (c7 4 Ag.nd) (az (bo (dj (mR (pv 2) T.cE qc hr (ax (pv 4)))) (az (jk (yW (pv 3) (pv 4)))) bt))))
   (aq (gn (fV (pv 3)) (c7 4 Ag.nd) (az (jk (mR (pv 2) T.cE My hr (ax (pv 4))))))
   (az (aK (au K (pv 2)))))))),?_⟩
 refine⟨_,rfl,_,rfl,?_⟩;intro e dx ne nd cD;refine⟨e,dx,r,w,rfl,ao,λg t ng nt p9=>⟨rfl,?_⟩⟩;obtain⟨s1,jw,p_,gv⟩:=Wg hI ne nd cD ng nt p9;generalize upd (upd (upd (upd (upd H dx (.own e)) e (.ins A.CE dx [])) g (.dK [])) t (.dK [])) e (.ins A.CE dx (g8 r w g t))=H1 at s1 gv;refine⟨by show 0<=aS;decide,λtl Wq=>?_⟩;have Mz:=s1.free Wq;have Ej:aC H (upd H1 tl (.lst [])):=s1.bW Mz;have zL:(upd H1 tl (.lst [])) tl=some (.lst []):=ao;have Wr:=gv.same (bL (o:=.lst []) Wq);generalize upd H1 tl (.lst [])=CN at Ej zL Wr;refine⟨w,_,Ej _ _ hI.wi,bJ,λod=>?_⟩;have lk:Lk CN (upd CN w (.aQ od (.dK (wK wa W)))) w od (wK wa W):=Aa (Ej _ _ hI.wi);have rf:=Wr.lock lk;generalize upd CN w (.aQ od (.dK (wK wa W)))=Hd at lk rf;have sd:aC H (upd Hd w (.dK (wK wa W))):=Ej.trans (lk.back Hd (aC.refl _));have htd:Hd tl=some (.lst []):=lk.keep _ _ zL nofun
 refine⟨_,rfl,w,od,rfl,.inl ⟨_,lk.at_,gp CK (λi σ H'=>∃done G v4,σ=[some (.ref r),some (.ref w),some (.ref e),some (.ref tl),v4]/\aC H (upd H' w (.dK (wK wa W)))/\H' w=some (.aQ od (.dK (wK wa W)))/\dD A H' e r w g t R W wa G []/\Ok R W G/\(∀p,p∈keys G↔p∈(done:List bF).map λw=>w.x)/\H' tl=some (.lst (done.map λv=>iV v.x))/\done.Sublist (W.take i)/\taken R [] W=taken R done (W.drop i))
  ⟨[],[],none,rfl,sd,lk.at_,rf,⟨oN,λ_ _ h=>(by cases h),λf=>fb _⟩,λp=>by simp[keys],htd,OF _,rfl⟩ (λi σ H' _⟨_,_,_,_,_,h,_⟩=>h) ?_ ?_⟩⟩
 ·rintro i z σ H3 H2 hi ⟨done,G,v4,rfl,s2,e2,dC,ok,hk,e3,qd,uy⟩ ⟨rfl,kk,vv,hx,rfl⟩
  obtain⟨v,hv,eq⟩:=el hx;cases eq;have et:=take_snoc hv;have Ws:(done++[v]).Sublist (W.take (i+1)):=by rw[et];exact qd.append (OF _)
  have MA:(done++[v]).Sublist W:=Ws.trans (Fl _ _);have gh:∀u,u∈done++[v]->u∈W:=λu hu=>MA.subset hu;have gy:((done++[v]).map λw=>w.x).Nodup:=hI.nd.sublist (ia _ MA);have vC:done.length<=60:=by have:=MA.length_le;rw[eL]at this;have:=hI.len;lia
  have Ek:W.drop i=v::W.drop (i+1):=by obtain⟨h1,h2⟩:=eo.mp hv;rw[Oe h1,h2]
  obtain⟨Ms,Mt⟩:=id dC.ob;refine⟨_,rfl,e,Ms,_,rfl,Mt,rfl,_,rfl,e,r,w,g,t,R,W,wa,W,G,[],v.x,rfl,dC,Wm hI ok hk gh gy,λH4 G4 b4 fQ Ei Mu=>?_,λH4 l4 s4 Mv Mw=>?_⟩
  ·have Mf:tl≠g:=cZ e3 dC.gi nofun
   have rY:=b4.keep _ _ e3 Mf;have El:w≠tl:=cZ e2 e3 nofun;have jL:∀p,p∈keys G4↔p∈(done++[v]).map λw=>w.x:=Wl hk Mu;refine⟨_,rfl,aY ⟨_,rfl,.inl ⟨rfl,_,aE.of rY⟩,_,rfl,tl,_,_,rfl,rfl,rY,by rw[aD];lia,done++[v],G4,_,rfl,?_,?_,?_,Ei,jL,?_,Ws,?_⟩⟩
   ·have s4:=Eh s2 b4 jw
    rw[ow El.symm];exact s4.bW Mz
   ·rw[ak El]
    exact b4.keep _ _ e2 dC.ne.2.2.1
   ·exact fQ.uf rY λx hx=>ba (hI.wl x hx) Mz
   ·rw[ao,bS]
    rfl
   ·rw[uy,Ek]
    show(if fits R (done++[v])=true then _ else _)=_;rw[aj ((CI gy).mpr (ahw Ei jL gh hI.nd gy))]
  ·refine⟨_,rfl,bp ⟨done,G,_,rfl,Eh s2 (.of s4) jw,s4 _ _ e2,dC.same s4,ok,hk,s4 _ _ e3,?_,?_⟩⟩
   ·rw[et]
    exact qd.trans (List.sublist_append_left _ _)
   ·rw[uy,Ek]
    show(if fits R (done++[v])=true then _ else _)=_;rw[ah λz=>Wj ok hk gh hI.nd gy Mv Mw ((CI gy).mp z)]
 ·rintro σ H2 ⟨done,G,v4,rfl,s2,e2,dC,ok,hk,e3,qd,uy⟩
  have jr:(wK wa W).length=W.length:=by unfold wK;rw[aD]
  rw[jr,dQ]at qd;rw[jr,Fo]at uy;have uy:taken R [] W=done:=uy;have El:tl≠w:=cZ e3 e2 nofun;refine⟨e2,?_⟩;have f_:=dC.unlock e2;have wZ:(upd H2 w (.dK (wK wa W))) tl=some (.lst (done.map λv=>iV v.x)):=by rw[ak El];exact e3
  generalize upd H2 w (.dK (wK wa W))=H3 at s2 f_ wZ;have gy:(done.map λw=>w.x).Nodup:=hI.nd.sublist (ia _ qd)
  refine⟨_,rfl,tl,rfl,⟨_,aE.of wZ⟩,gp fX (λj σ H'=>∃Fx G v4,σ=[some (.ref r),some (.ref w),some (.ref e),some (.ref tl),v4]/\aC H H'/\H' tl=some (.lst (done.map λv=>iV v.x))/\dD A H' e r w g t R W wa G (keys Fx)/\fY R W Fx (done.drop j) G/\seats R done=Fx++seats (less R Fx) (done.drop j)) ⟨[],G,_,rfl,s2,wZ,f_,⟨ok,λp f h=>(by cases h),λp=>?_,?_,λv hv=>qd.subset hv,hI.nd,hI.len,hI.fl⟩,rfl⟩ (λj σ H' _⟨_,_,_,_,_,h,_⟩=>aE.of h) ?_ ?_⟩
  ·rw[hk]
   exact⟨.inr,λz=>z.elim (λz=>by cases z) id⟩
  ·exact gy
  ·rintro j z σ H5 H4 hj ⟨Fx,G4,v4,rfl,s4,e4,fQ,rZ,r6⟩ ⟨rfl,hv⟩
   obtain⟨v,hv2,rfl⟩:=el hv;have Ek:done.drop j=v::done.drop (j+1):=by obtain⟨h1,h2⟩:=eo.mp hv2;rw[Oe h1,h2]
   rw[Ek]at rZ r6;obtain⟨wU,wV⟩:=id fQ.ob;refine⟨_,rfl,e,wU,_,rfl,wV,rfl,_,rfl,e,r,w,g,t,R,W,wa,Fx,v,done.drop (j+1),G4,rfl,fQ,rZ,λH5 G5 f5 b5 Eg DY hf5=>⟨_,G5,_,rfl,?_,b5.keep _ _ e4 (cZ e4 fQ.gi nofun) (cZ e4 fQ.se nofun),Eg,DY,?_⟩⟩
   ·exact λb o z=>b5.keep b o (s4 b o z) (ba z jw) (ba z p_)
   ·rw[r6,VZ,l_]
    congr 1;show(match v.ways.find? λf=>decide (0<cp (less R Fx) f)&&fits (kj (less R Fx) f) (done.drop (j+1))with|some f=>(v.x,f)::seats (kj (less R Fx) f) (done.drop (j+1))|none=>seats (less R Fx) (done.drop (j+1)))=_;rw[hf5];rfl
  ·rintro σ H4 ⟨Fx,G4,v4,rfl,s4,e4,fQ,rZ,r6⟩
   rw[aD,Fo]at rZ r6;have r6:seats R done=Fx++[]:=r6;rw[je]at r6;refine⟨_,rfl,qZ T fQ.ob (k H4 g G4 s4 jw fQ.gi λp=>?_)⟩;unfold ml;rw[uy,r6];cases h1:look Fx p with
   |some y=>exact(jv rZ.ok.nd).mpr (rZ.fx p y ((jv rZ.fn).mp h1))|none=>
    rw[oC]at h1⊢;intro z;rcases(rZ.who p).mp z with z|z
    ·exact h1 z
    ·cases z
theorem ahz(h:H d=some u):upd (upd H d v) d u=H:=by
 rw[di];funext b;by_cases e:b=d
 ·rw[e,ao,h]
 ·rw[ak e]
theorem Wt(h:H d=some (.aQ od (.dK kvs))):Lk (upd H d (.dK kvs)) H d od kvs:=by have:=Aa (H:=upd H d (.dK kvs)) (od:=od) (kvs:=kvs) (d:=d) ao;rw[ahz h]at this;exact this
theorem Wu(h:H d=some (.aQ od (.dK kvs)))(t:dW A (upd H d (.dK kvs))):dW A H:=by have lk:=Wt h;exact t.keep (λb ps e=>lk.keep _ _ e nofun) λb φ e=>lk.keep _ _ e nofun
theorem ahA(h:H1 d=some (.aQ od (.dK kvs)))(g:Gr A H1 H2):Gr A (upd H1 d (.dK kvs)) (upd H2 d (.dK kvs)):=by
 have h2:=g.same _ _ h nofun;refine⟨λb o e n=>?_,λt=>(g.tabs (Wu h t)).upd h2 nofun nofun,λb e=>?_⟩
 ·by_cases hb:b=d
  ·rw[hb,ao]at e⊢;exact e
  ·rw[ak hb]at e⊢;exact g.same b o e n
 ·by_cases hb:b=d
  ·rw[hb,ao]at e;cases e
  ·rw[ak hb]at e⊢;exact g.free b e
abbrev MB:aV:=top 76
theorem MC:bu ["house","rooms","flight"] ["house"] (bb MB):=bC
inductive MD(A:Ad)(vs:List V)(H:Hp)(Q:VK)(E:XK):Prop|mk L s (z:vs=[.ref (Lay.h L)]) (z:b0 A H L s) (z:Good s) (z:dW A H) (z:∀H' p kr,Gr A H H'->H p=none->H' p=some (.dK kr)->(∀f,f∈s.flights->bZ kr (ay (f.num:Int))=some (iV (room s f)))->Q (.ref p) H')
theorem ahB(F:bh K "rooms_by_flight" "rooms_by_flight" MB f fd)(T:Txt K mg A)(ou:Glob P w K mg base "room_of" 7 ["house","flight"] (Ds A)):aX P w K mg base bc 8 f fd ["house"] (MD A):=by
 refine F.bH MC λH vs Q E hr hu h=>?_;obtain⟨L,s,rfl,hH,hG,hB,k⟩:=h;have sz:1000<=aS:=by decide
 refine⟨_,(aq (bf 1 MC.nd ku) (aq (yE (gn (HH (au K (pv 0))) (c7 2 MC.nd) (az (iK hu (pv 1) (au K (pv 2)) (bK ou hr (aM (pv 0) (ax (pv 2))))))))
   (az (aK (pv 1))))),?_⟩
 intro p np;have Iu:=bL (o:=.dK []) np _ _ hH.fl.fl;refine⟨L.D .df,_,Iu,bJ,λod=>?_⟩;have Ah:p≠L.D .df:=Ne.symm (ba hH.fl.fl np);have e1:(upd (upd H p (.dK [])) (L.D .df) (.aQ od (.dK (cA L.fa s.flights)))) p=some (.dK []):=by rw[ak Ah,ao]
 have e2:(upd (upd H p (.dK [])) (L.D .df) (.aQ od (.dK (cA L.fa s.flights)))) (L.D .df)=some (.aQ od (.dK (cA L.fa s.flights))):=ao;have e3:upd (upd (upd H p (.dK [])) (L.D .df) (.aQ od (.dK (cA L.fa s.flights)))) (L.D .df) (.dK (cA L.fa s.flights))=upd H p (.dK []):=by
  rw[di];funext b;by_cases e:b=L.D .df
  ·rw[e,ao,Iu]
  ·rw[ak e]
 have g1:Gr A H (upd (upd (upd H p (.dK [])) (L.D .df) (.aQ od (.dK (cA L.fa s.flights)))) (L.D .df) (.dK (cA L.fa s.flights))):=by rw[e3];exact .of (bL np)
 generalize upd (upd H p (.dK [])) (L.D .df) (.aQ od (.dK (cA L.fa s.flights)))=Hd at e1 e2 g1
 have Wv:∀H1,H1 (L.D .df)=some (.aQ od (.dK (cA L.fa s.flights)))->Gr A H (upd H1 (L.D .df) (.dK (cA L.fa s.flights)))->fq A H1 L.h s.now (L.D .df) (L.D .dt) (L.D .dp) L.ls/\pV A H1 (L.D .dp) L.pa L.un L.fa s.pax/\H1 (L.D .dp)=some (.dK (bT L.pa s.pax))/\fF A H1 L.fa L.fe s.flights/\dW A H1:=λH1 h1 g=>by
  have lk:=Wt h1;have hX:=hH.gr g;refine⟨?_,⟨lk.rd _ _ (.inl hX.px.pd),λq hq=>?_,hG.pn,aZ hG.pl (by decide)⟩,lk.ne _ _ hX.px.pd (hX.gP (a:=.dp) (b:=.df) bJ bJ nofun),λf hf=>?_,Wu h1 (g.tabs hB)⟩
  ·obtain⟨dx,z⟩:=hX.ho
   exact⟨dx,lk.keep _ _ z nofun⟩
  ·obtain⟨dx,z⟩:=hX.px.px q hq
   refine⟨⟨dx,lk.keep _ _ z nofun⟩,_,(rK hX hG hq).imp id λ⟨h1,f,d,⟨dy,e2⟩,h3⟩=>⟨h1,f,d,⟨dy,lk.keep _ _ e2 nofun⟩,h3⟩⟩
  ·obtain⟨dx,z⟩:=hX.fl.bB f hf
   exact⟨dx,lk.keep _ _ z nofun⟩
 refine⟨_,rfl,ek T (Wv Hd e2 g1).1 ?_⟩
 refine⟨_,od,_,rfl,e2,gp II (λi σ H1=>∃kr v2,σ=[some (.ref L.h),some (.ref p),v2]/\H1 (L.D .df)=some (.aQ od (.dK (cA L.fa s.flights)))/\Gr A H (upd H1 (L.D .df) (.dK (cA L.fa s.flights)))/\H1 p=some (.dK kr)/\kr.length<=i/\∀f,f∈s.flights.take i->bZ kr (ay (f.num:Int))=some (iV (room s f)))
  ⟨[],none,rfl,e2,g1,e1,bM _,λf hf=>by simp at hf⟩ (λi σ H1 _⟨_,_,_,h,_⟩=>h) ?_ ?_⟩
 ·rintro i v σ H2 H1 hi ⟨kr,v2,rfl,h1,g2,hp,hl,hk⟩ ⟨rfl,kk,hx⟩
  obtain⟨f,hf,ex⟩:=el hx;cases ex;have gx:=du hf;obtain⟨hHo,hPx,hdp,Wc,hTb⟩:=Wv H1 h1 g2;have hO:=Wc f gx;refine⟨_,rfl,_,rfl,L.h,s.now,_,_,_,_,L.pa,L.un,L.fa,s.pax,_,f,_,rfl,hHo,hPx,hdp,hO,hG.pos f gx,hTb,λH3 g3=>?_⟩;rw[DB hG gx];have h3:=g3.same _ _ h1 nofun;have t5:=g3.same _ _ hp nofun;have g4:Gr A H (upd H3 (L.D .df) (.dK (cA L.fa s.flights))):=g2.trans (ahA h1 g3);refine⟨_,rfl,_,rfl,dn T (hO.gr g3.same) ?_⟩;have hle:i<24:=by have h5:=(eo.mp hf).1;have h6:=hG.fl.len;lia
  refine⟨p,_,rfl,iL t5 (by lia),_,_,rfl,by rw[ak Ah.symm];exact h3,?_,ao,?_,λg hg=>?_⟩
  ·rw[ow Ah]
   refine g4.bW np (o:=.dK kr) ?_ nofun nofun;rw[ak Ah];exact t5
  ·have:=yC kr (ay (f.num:Int)) (V.int ((room s f:Nat):Int))
   lia
  ·rw[take_snoc hf]at hg
   rw[Ht];by_cases e:g.num=f.num
   ·rw[aj (by rw[e])]
    have j0:g∈s.flights:=by
     rcases cu.mp hg with hg|hg
     ·exact Fg hg
     ·rw[cj.mp hg];exact gx
    rw[ja hG.fl.nd j0 gx e]
   ·rw[ah (i8 e)]
    rcases cu.mp hg with hg|hg
    ·exact hk g hg
    ·exact absurd (by rw[cj.mp hg]) e
 ·rintro σ H1 ⟨kr,v2,rfl,h1,g2,hp,hl,hk⟩
  have e5:(cA L.fa s.flights).length=s.flights.length:=by unfold cA;rw[aD]
  rw[e5,dQ]at hk;refine⟨h1,_,rfl,k _ p kr g2 np ?_ hk⟩;rw[ak Ah];exact hp
abbrev ME:aV:=top 77
theorem Em:bu ["house","passengers","stands","wishes","passenger"] ["house","passengers"] (bb ME):=bC
inductive MG(A:Ad)(K:aG)(vs:List V)(H:Hp)(Q:VK)(E:XK):Prop|mk L s l (ps:List bj) (z:vs=[.ref (Lay.h L),.ref l]) (z:b0 A H L s) (z:Good s) (z:dW A H) (z:aE K H l (ps.map λq:bj=>V.ref (L.pa q.x))) (z:(∀q,q∈ps->q∈s.pax)) (z:(ps.map λq=>q.x).Nodup) (z:ps.length<=60) (z:∀H' p wa,Gr A H H'->H p=none->H' p=some (.dK (wK wa (ps.map (fA s))))->(∀q,q∈ps->H' (wa q.x)=some (.lst ((wishes s q).map iV)))->Q (.ref p) H')
theorem ahC(F:bh K "wishes_by_passenger" "wishes_by_passenger" ME f fd)(T:Txt K mg A)(ft:Glob P w K mg base "house_stands" 7 ["house"] (om A))(wo:Glob P w K mg base "wishes_of" 6 ["house","stands","passenger"] (Kx A)):aX P w K mg base bc 8 f fd ["house","passengers"] (MG A K):=by
 refine F.bH Em λH vs Q E hr hu h=>?_;obtain⟨L,s,l,ps,rfl,hH,hG,hB,hl,gh,gy,hlen,k⟩:=h;have sz:1000<=aS:=by decide
 refine⟨_,(aq (bf 2 Em.nd (bK ft hr (ax (pv 0)))) (aq (bf 3 Em.nd ku)
   (aq (gn (fV (pv 1)) (c7 4 Em.nd) (az (iK hu (pv 3) (au K (pv 4)) (bK wo hr (aM (pv 0) (aM (pv 2) (ax (pv 4))))))))
   (az (aK (pv 3)))))),?_⟩
 refine⟨_,rfl,L.h,s.now,_,_,_,_,L.fa,L.fe,s.flights,rfl,hH.ho,hH.fl,hG.fl,λH1 ds kvs sa c s1 CQ Ww hs jX=>?_⟩;intro p np;have mW:=s1.free np;have Wx:ds≠p:=ba Ww np;have BL:gq A (upd H1 p (.dK [])) kvs sa (times s.now s.flights) c:=hs.keep λa C dx fs e=>bL np _ _ e
 refine⟨_,rfl,l,rfl,⟨_,(s1.trans (bL np)).seq hl⟩,gp fX (λi σ H'=>∃wa v,σ=[some (.ref L.h),some (.ref l),some (.ref ds),some (.ref p),v]/\Gr A H H'/\H' ds=some (.dK kvs)/\gq A H' kvs sa (times s.now s.flights) c/\H' p=some (.dK (wK wa ((ps.take i).map (fA s))))/\∀q,q∈ps.take i->H' (wa q.x)=some (.lst ((wishes s q).map iV))) ⟨λ_=>ds,none,rfl,.of (s1.trans (bL np)),by rw[ak Wx];exact Ww,BL,ao,λq hq=>by simp at hq⟩ (λi σ H' _⟨_,_,_,g,_⟩=>zt hl g) ?_ ?_⟩
 ·rintro i v σ H3 H2 hi ⟨wa,v4,rfl,g2,e1,e2,e3,e4⟩ ⟨rfl,hv⟩
  obtain⟨q,hq,rfl⟩:=el hv;have hJ:=gh q (du hq);have dP:=hH.gr g2;refine⟨_,rfl,_,rfl,_,rfl,L.h,s.now,_,_,_,_,L.fa,L.fe,s.flights,ds,kvs,sa,_,c,_,q,_,_,rfl,dP.ho,dP.fl.fl,dP.fl.bB,hG.fl.nd,e1,e2,Dt hG.fl.nd,?_,λt ht=>?_,dP.px.px q hJ,dP.px.un q hJ,?_,?_,g2.tabs hB,λH4 p2 g4 wt d_=>?_⟩
  ·have h1:=eW k6 (iN s.now s.flights)
   rw[aD,aD]at h1;rw[h1];exact aZ (g9 _) (aZ hG.fl.len (by decide))
  ·have:t.num∈(times s.now s.flights).map λt=>t.num:=aB.mpr ⟨t,ht,rfl⟩
   rw[iN]at this;obtain⟨g,hg,e⟩:=aB.mp this;exact⟨g,cq g hg,e⟩
  ·exact ba hH.fl.fl CQ
  ·exact ba (hH.px.un q hJ) CQ
  ·have iP:=dP.gr g4
   have rY:=g4.same _ _ e3 nofun;refine⟨_,rfl,_,rfl,tK T (iP.px.px q hJ) ?_⟩;have oy:∀r,r∈ps.take i->r.x≠q.x:=λr hr e=>by
    obtain⟨j,hj,ej⟩:=h_ hr;rw[jd]at hj;have jn:ps[j]? =some r:=by rw[<-ej,oK];exact dY (by lia)
    have:=Di gy jn hq e;lia
   have jr:(wK wa ((ps.take i).map (fA s))).length<=60:=by unfold wK;rw[aD,aD];exact aZ (k5 _ _) hlen
   refine⟨p,_,rfl,iL rY (by lia),?_⟩;have epw:putK (wK wa ((ps.take i).map (fA s))) (ay (q.x:Int)) (.ref p2)=wK (λy=>if y=q.x then p2 else wa y) ((ps.take (i+1)).map (fA s)):=by
    rw[qO]
    ·rw[take_snoc hq,bS]
     unfold wK;rw[bS];congr 1
     ·refine dE λu hu=>?_
      obtain⟨r,hr,rfl⟩:=aB.mp hu;show _=((ay (r.x:Int):Key),V.ref (if r.x=q.x then p2 else wa r.x));rw[ah (oy r hr)];rfl
     ·show _=[((ay (q.x:Int):Key),V.ref (if q.x=q.x then p2 else wa q.x))]
      rw[aj rfl]
    ·unfold wK
     rw[pN (k:=λw:bF=>w.x) (g:=λw:bF=>V.ref (wa w.x)) q.x];rw[iR.mpr]
     ·rfl
     ·intro u hu
      obtain⟨r,hr,rfl⟩:=aB.mp hu;exact λz=>oy r hr (eq_of_beq z)
   rw[epw];have ur:∀b xs,H4 b=some (.lst xs)->b≠p:=λb xs e=>cZ e rY nofun;refine⟨_,_,rfl,(g2.trans g4).bW mW rY nofun nofun,?_,?_,ao,λr hr=>?_⟩
   ·rw[ak Wx]
    exact g4.same _ _ e1 nofun
   ·exact e2.keep λa C dx fs e=>by rw[ak (cZ (g4.same _ _ e nofun) rY nofun)];exact g4.same _ _ e nofun
   ·rw[take_snoc hq]at hr
    show upd H4 p _ (if r.x=q.x then p2 else wa r.x)=_;rcases cu.mp hr with hr|hr
    ·rw[ah (oy r hr)]
     have h5:=g4.same _ _ (e4 r hr) nofun;rw[ak (ur _ _ h5)];exact h5
    ·rw[cj.mp hr,aj rfl,ak (ur _ _ d_),d_,Dv]
 ·rintro σ H2 ⟨wa,v4,rfl,g2,e1,e2,e3,e4⟩
  rw[aD,dQ]at e3 e4;exact⟨_,rfl,k H2 p wa g2 mW e3 e4⟩
theorem Wy{s:State}(hN:(s.flights.map λf=>f.num).Nodup){f:aw}(hf:f∈s.flights)(ho:bV f=true):cp (rooms s) f.num=room s f:=by unfold cp rooms;rw[Fs];have e:((λr:Nat×Nat=>r.1==f.num)∘λf:aw=>(f.num,room s f))=λg=>g.num==f.num:=rfl;rw[e];have h:=jV (l:=s.flights.filter bV) (hN.sublist (ia _ gd)) (ck.mpr ⟨hf,ho⟩);unfold eM at h;rw[h];rfl
theorem MH(h:n∈wishes s q):∃f,f∈s.flights/\f.num=n/\bV f=true:=by rw[Dv]at h;obtain⟨t,ht,rfl⟩:=aB.mp h;have h2:=(ck.mp ((ju _ _).mem_iff.mp ht)).2;unfold m3 at h2;cases e:eM s.flights t.num with|none=>rw[e]at h2;cases h2|some f=>rw[e]at h2;obtain⟨h3,h4⟩:=gu e;refine⟨f,h3,h4,?_⟩;have h2:wg q f t.leave t.arrive=true:=h2;unfold wg at h2;exact(cJ _ _▸h2).1
theorem Ai(s:State)(ps:List bj):(ps.map (fA s)).map (λw=>w.x)=ps.map λq=>q.x:=by rw[dv];rfl
theorem Wz{s:State}{ps:List bj}(hn:(ps.map λq=>q.x).Nodup){q:bj}(hq:q∈ps):cw (ps.map (fA s)) q.x=wishes s q:=i6 (w:=fA s q) (by rw[Ai];exact hn) (aB.mpr ⟨q,hq,rfl⟩)
theorem WA{H:Hp}{r w:af}{s:State}{ps:List bj}{wa:Nat->af}{kr:List (Key×V)}(hG:Good s)(hn:(ps.map λq=>q.x).Nodup)(hl:ps.length<=60)(h1:H r=some (.dK kr))(h2:∀f,f∈s.flights->bZ kr (ay (f.num:Int))=some (iV (room s f)))(h3:H w=some (.dK (wK wa (ps.map (fA s)))))(h4:∀q,q∈ps->H (wa q.x)=some (.lst ((wishes s q).map iV))):ux H r w (rooms s) (ps.map (fA s)) wa:=by
 have hw:∀x f:Nat,f∈cw (ps.map (fA s)) x->∃q,q∈ps/\q.x=x/\f∈wishes s q:=λx f hf=>by have h5:=Cz hf;rw[Ai]at h5;obtain⟨q,hq,rfl⟩:=aB.mp h5;rw[Wz hn hq]at hf;exact⟨q,hq,rfl,hf⟩
 refine⟨⟨kr,.inl h1,λx f hf=>?_⟩,h3,λx hx=>?_,by rw[Ai];exact hn,by rw[aD];exact hl,s.flights.map (λf=>f.num),?_,λp f hf=>?_⟩
 ·obtain⟨q,_,_,h5⟩:=hw x f hf
  obtain⟨g,hg,rfl,ho⟩:=MH h5;rw[h2 g hg,Wy hG.fl.nd hg ho]
 ·rw[Ai]at hx
  obtain⟨q,hq,rfl⟩:=aB.mp hx;rw[Wz hn hq];exact h4 q hq
 ·rw[aD]
  exact aZ hG.fl.len (by decide)
 ·obtain⟨q,_,_,h5⟩:=hw p f hf
  obtain⟨g,hg,rfl,ho⟩:=MH h5;exact aB.mpr ⟨g,hg,rfl⟩
theorem MI:∀{ws:List bF}{R:cI}{x f:Nat},(x,f)∈seats R ws->∃w,w∈ws/\w.x=x/\f∈w.ways
 |[],R,x,f,h=>by cases h|w::ws,R,x,f,h=>by unfold seats at h;cases e:w.ways.find? λf=>decide (0<cp R f)&&fits (kj R f) ws with
  |none=>rw[e]at h;obtain⟨v,hv,h2⟩:=MI h;exact⟨v,b8 _ hv,h2⟩|some g=>
   rw[e]at h;rcases b9.mp h with h|h
   ·cases h
    exact⟨w,cK ..,rfl,iA e⟩
   ·obtain⟨v,hv,h2⟩:=MI h
    exact⟨v,b8 _ hv,h2⟩
theorem MJ:∀{ws done:List bF}{R:cI}{w:bF},w∈taken R done ws->w∈done∨w∈ws
 |[],done,R,w,h=>.inl h|v::ws,done,R,w,h=>by
  unfold taken at h;split at h
  ·rcases MJ h with h|h
   ·rcases cu.mp h with h|h
    ·exact .inl h
    ·exact .inr (by rw[cj.mp h];exact cK ..)
   ·exact .inr (b8 _ h)
  ·rcases MJ h with h|h
   ·exact .inl h
   ·exact .inr (b8 _ h)
theorem WB(h:look G p=some f):(p,f)∈G:=by
 unfold look at h;obtain⟨q,h1,h2⟩:=oP.mp h;have h3:q.1=p:=by simpa using gU h1
 rw[<-h3,<-h2];exact iA h1
def cU(s:State)(x:Nat):Nat:=(look (ml (rooms s) ((dA s).map (fA s))) x).getD 0
theorem MK(s:State):step s .rebook=({s with pax:=s.pax.map λq=>if q.on=0 then{q with on:=cU s q.x}else q},0::(dA s).flatMap λq=>[(q.x:Int),(cU s q.x:Int)]):=rfl
theorem Aj:q∈dA s↔q∈s.pax/\q.on=0:=by unfold dA;rw[(jZ _).mem_iff,ck];simp
theorem ML(hG:Good s):((dA s).map λq=>q.x).Nodup:=((jZ _).map _).nodup_iff.mpr (hG.pn.sublist (ia _ gd))
theorem str_len(hG:Good s):(dA s).length<=60:=by unfold dA;rw[(jZ _).length_eq];exact aZ (e_ _ _) hG.pl
theorem WC(hG:Good s)(hq:q∈dA s)(h:look (ml (rooms s) ((dA s).map (fA s))) q.x=some f):∃g,g∈s.flights/\g.num=f/\bV g=true:=by
 obtain⟨w,hw,ex,hf⟩:=MI (WB h);rcases MJ hw with hw|hw
 ·cases hw
 ·obtain⟨r,hr,rfl⟩:=aB.mp hw
  exact MH hf
def gQ(s:State)(xs:List bj):State:={s with pax:=s.pax.map λq=>if(xs.map λq=>q.x).contains q.x=true then{q with on:=cU s q.x}else q}
theorem ahD{ps:List bj}(gy:(ps.map λq=>q.x).Nodup){i:Nat}{q:bj}(hq:ps[i]? =some q){r:bj}(hr:r∈ps.take i):r.x≠q.x:=λe=>by
 obtain⟨j,hj,ej⟩:=h_ hr;rw[jd]at hj;have jn:ps[j]? =some r:=by rw[<-ej,oK];exact dY (by lia)
 have:=Di gy jn hq e;lia
theorem WE{s:State}(hN:(s.pax.map λq=>q.x).Nodup){ps:List bj}{i:Nat}{q:bj}(hq:ps[i]? =some q)(hJ:q∈s.pax):gW (gQ s (ps.take i)) {q with on:=cU s q.x}=gQ s (ps.take (i+1)):=by
 unfold gW gQ;congr 1;show(s.pax.map _).map _=_;rw[dv];refine dE λr hr=>?_;show(if(if((ps.take i).map λq=>q.x).contains r.x=true then{r with on:=cU s r.x}else r:bj).x=q.x then{q with on:=cU s q.x}else(if((ps.take i).map λq=>q.x).contains r.x=true then{r with on:=cU s r.x}else r:bj))=if((ps.take (i+1)).map λq=>q.x).contains r.x=true then{r with on:=cU s r.x}else r;have ex:(if((ps.take i).map λq=>q.x).contains r.x=true then{r with on:=cU s r.x}else r:bj).x=r.x:=by split<;>rfl
 rw[ex];have hc:((ps.take (i+1)).map λq=>q.x).contains r.x=true↔r.x=q.x∨((ps.take i).map λq=>q.x).contains r.x=true:=by rw[take_snoc hq,bS,fD,fD,cu];simp;exact FE
 by_cases h2:r.x=q.x
 ·rw[aj h2,aj (hc.mpr (.inl h2)),rE hN hr hJ h2]
 ·rw[ah h2]
  by_cases h3:((ps.take i).map λq=>q.x).contains r.x=true
  ·rw[aj h3,aj (hc.mpr (.inr h3))]
  ·rw[ah h3,ah (λz=>(hc.mp z).elim h2 h3)]
theorem ahE(s:State)(xs:List bj):(gQ s xs).pax.map (λq=>q.x)=s.pax.map λq=>q.x:=by unfold gQ;rw[dv];refine dE λr _=>?_;show(if(xs.map λq=>q.x).contains r.x=true then{r with on:=cU s r.x}else r:bj).x=r.x;split<;>rfl
theorem ahF(hq:q∈s.pax)(hn:∀r,r∈xs->r.x≠q.x):q∈(gQ s xs).pax:=by unfold gQ;refine aB.mpr ⟨q,hq,?_⟩;rw[ah];intro z;rw[fD]at z;obtain⟨r,hr,e⟩:=aB.mp z;exact hn r hr e
abbrev MM:aV:=top 78
theorem uA:bu ["house","row","stranded","given","answer","passenger"] ["house","row"] (bb MM):=bC
theorem ahG(F:bh K "rebook_stranded" "rebook_stranded" MM f fd)(T:Txt K mg A)(we:Glob P w K mg base "by_rank" 5 ["passengers"] (Ki A K))(lW:dm P w K mg base A.CP "is_stranded" 1 ["self"] (zw A))(MN:Glob P w K mg base "best_seating" 6 ["rooms","wishes"] (Wo A))(w4:Glob P w K mg base "rooms_by_flight" 8 ["house"] (MD A))(w6:Glob P w K mg base "wishes_by_passenger" 8 ["house","passengers"] (MG A K)):aX P w K mg base bc 9 f fd ["house","row"] (fN A K λns c=>ns=[]/\c=.rebook):=by
 refine F.bH uA λH vs Q E hr hu h=>?_;obtain⟨L,s,r,ns,c,rfl,hH,hG,hB,hR,⟨rfl,rfl⟩,k⟩:=h;have sz:1000<=aS:=by decide
 refine⟨_,(aq (bf 2 uA.nd (bK we hr (ax (Hy (jR [("passenger",5)] uA.nd (HH (au K (pv 0))) (c7 5 uA.nd) (o_ (dj (fk (pv 5) T.cP lW hr))) (pv 5)))))) (aq (bf 3 uA.nd (bK MN hr (aM (bK w4 hr (ax (pv 0))) (ax (bK w6 hr (aM (pv 0) (ax (pv 2))))))))
   (aq (bf 4 uA.nd (bw (ax aJ)))
   (aq (gn (fV (pv 2)) (c7 5 uA.nd) (aq (bo (dB (qQ hu (au K (pv 5)) (pv 3))) (az (c8 (pv 5) (cC hu (au K (pv 0)) (cC hu (pv 3) (au K (pv 5)))))) bt)
   (az (jk (yt xR Bh Bi BR (pv 4) (ax (bw (aM (au K (pv 5)) (ax (aet hu (pv 3) (au K (pv 5)) aJ))))))))))
   (az (aK (pv 4))))))),?_⟩
 refine⟨L.D .dp,_,hH.px.pd,bJ,λod=>?_⟩;have lk:Lk H (upd H (L.D .dp) (.aQ od (.dK (bT L.pa s.pax)))) (L.D .dp) od (bT L.pa s.pax):=Aa hH.px.pd;generalize upd H (L.D .dp) (.aQ od (.dK (bT L.pa s.pax)))=Hd at lk;have pI:fq A Hd L.h s.now (L.D .df) (L.D .dt) (L.D .dp) L.ls:=let⟨dx,e⟩:=hH.ho;⟨dx,lk.keep _ _ e (by intro _ z;cases z)⟩
 refine⟨_,rfl,gI T pI ⟨_,od,_,rfl,lk.at_,λD nD=>i7 II (λi H1=>aC Hd H1/\H1 D=some (.lst (((s.pax.take i).filter λq=>q.on==0).map λq=>V.ref (L.pa q.x)))) ⟨bL nD,ao⟩ (λi H1 _ h=>h.1 _ _ lk.at_) ?_ ?_⟩⟩
 ·rintro i x H1 H2 hi ⟨s1,e1⟩ ⟨rfl,kk,hx⟩
  obtain⟨q,hq,ex⟩:=el hx;cases ex;have hJ:=du hq;have hO:dH A H2 (L.pa q.x) q (L.un q.x) (d8 L.fa q.on):=let⟨dx,e⟩:=hH.px.px q hJ;⟨dx,s1 _ _ (lk.keep _ _ e (by intro _ z;cases z))⟩
  obtain⟨dx,hx⟩:=id hO;refine⟨rfl,_,rfl,_,dx,_,rfl,hx,rfl,_,q,_,L.fa,q.on,rfl,hO,_,rfl,?_⟩;cases ho:(q.on==0)with
  |true=>
   refine aY ⟨_,rfl,_,e1,?_,s1.bW nD,?_⟩
   ·rw[aD]
    exact pO (n:=60) hG.pl (by decide)
   ·rw[ao,take_snoc hq,fy,bX,aj ho,gL,bS]
    rfl|false=>refine bp ⟨s1,?_⟩;rw[take_snoc hq,fy,bX,ah (by rw[ho];decide),gL,je];exact e1
 ·rintro H1 ⟨s1,e1⟩
  have epl:(bT L.pa s.pax).length=s.pax.length:=by unfold bT;rw[aD]
  rw[epl,dQ]at e1;refine⟨s1 _ _ lk.at_,?_⟩;have s2:=lk.back _ s1;have e2:(upd H1 (L.D .dp) (.dK (bT L.pa s.pax))) D=some (.lst ((s.pax.filter λq=>q.on==0).map λq=>V.ref (L.pa q.x))):=aT (s1 _ _ lk.at_) e1 nofun;generalize upd H1 (L.D .dp) (.dK (bT L.pa s.pax))=H2 at s2 e2;have dP:=hH.same s2;refine⟨D,L.pa,s.pax.filter λq=>q.on==0,rfl,aE.of e2,λq hq=>⟨_,_,dP.px.px q (ck.mp hq).1⟩,hG.pn.sublist (ia _ gd),hB.same s2,λH3 sd g3 L_ lU=>?_⟩;have MO:Gr A H H3:=(Gr.of s2).trans g3;have akk:H sd=none:=s2.free L_;have lU:H3 sd=some (.lst ((dA s).map λq=>V.ref (L.pa q.x))):=lU;have d4:=hH.gr MO
  refine⟨_,rfl,L,s,rfl,d4,hG,MO.tabs hB,λH4 ra kr g4 nra MP MQ=>?_⟩;have oA:=MO.trans g4;have iP:=hH.gr oA;have WG:=g4.same _ _ lU nofun;refine⟨_,rfl,_,rfl,L,s,sd,dA s,rfl,iP,hG,oA.tabs hB,aE.of WG,λq hq=>(Aj.mp hq).1,ML hG,str_len hG,λH5 wd wa g5 nwd Ae jr=>?_⟩;have rQ:=oA.trans g5;refine⟨ra,wd,rooms s,(dA s).map (fA s),wa,rfl,WA hG (ML hG) (str_len hG) (g5.same _ _ MP nofun) MQ Ae jr,λH6 g G s6 ng hg ua=>?_⟩;have oB:=rQ.trans (.of s6);have ui:=hH.gr oB;have MR:=s6 _ _ (g5.same _ _ WG nofun);have jw:H g=none:=rQ.free g ng;refine⟨by show 1<=aS;decide,λa na=>?_⟩;have uB:H a=none:=oB.free a na;have s7:aC H6 (upd H6 a (.lst [.int 0])):=bL na;have WH:(upd H6 a (.lst [.int 0])) a=some (.lst [.int 0]):=ao;generalize upd H6 a (.lst [.int 0])=H7 at s7 WH;have nas:a≠sd:=Ne.symm (ba MR na);have nag:a≠g:=Ne.symm (ba hg na);have a7:After A H H7 L L s (gQ s ((dA s).take 0)):=by
   have e:gQ s ((dA s).take 0)=s:=by
    unfold gQ;have:(s.pax.map λq=>if(((dA s).take 0).map λq=>q.x).contains q.x=true then{q with on:=cU s q.x}else q)=s.pax:=by
     conv=>rhs;rw[<-xt s.pax]
     exact dE λq _=>rfl
    rw[this]
   rw[e];exact .of hH (oB.trans (.of s7))
  refine⟨_,rfl,sd,rfl,⟨_,aE.of (s7 _ _ MR)⟩,gp fX (λi σ H'=>∃v5,σ=[some (.ref L.h),some (.ref r),some (.ref sd),some (.ref g),some (.ref a),v5]/\H' sd=some (.lst ((dA s).map λq=>V.ref (L.pa q.x)))/\H' g=some (.dK (gK G))/\H' a=some (.lst ((0::((dA s).take i).flatMap λq=>[(q.x:Int),(cU s q.x:Int)]).map V.int))/\After A H H' L L s (gQ s ((dA s).take i))) ⟨none,rfl,s7 _ _ MR,s7 _ _ hg,WH,a7⟩ (λi σ H' _⟨_,_,h,_⟩=>aE.of h) ?_ ?_⟩
  ·rintro i v σ H8 H9 hi ⟨v5,rfl,e1,e2,e3,a8⟩ ⟨rfl,hv⟩
   obtain⟨q,hq,rfl⟩:=el hv;have WI:=du hq;obtain⟨hJ,Vg⟩:=Aj.mp WI;have En:=a8.at_;have MS:=ahF (xs:=(dA s).take i) hJ λr hr=>ahD (ML hG) hq hr;have MT:=En.px.px q MS;have hN8:((gQ s ((dA s).take i)).pax.map λq=>q.x).Nodup:=by rw[ahE];exact hG.pn
   refine aeO (λσ H'=>σ=[some (.ref L.h),some (.ref r),some (.ref sd),some (.ref g),some (.ref a),some (.ref (L.pa q.x))]/\H' sd=some (.lst ((dA s).map λq=>V.ref (L.pa q.x)))/\H' g=some (.dK (gK G))/\H' a=some (.lst ((0::((dA s).take i).flatMap λq=>[(q.x:Int),(cU s q.x:Int)]).map V.int))/\After A H H' L L s (gQ s ((dA s).take (i+1)))) (λnx rX=>?_) ?_
   ·skip
    refine⟨_,rfl,tK T MT ⟨_,rfl,g,_,rfl,bq (.inl e2) (rR q.x G),_,rfl,?_⟩⟩;rw[ua q.x];cases hl:look (ml (rooms s) ((dA s).map (fA s))) q.x with
    |none=>
     refine bp (rX _ _ ⟨rfl,e1,e2,e3,?_⟩);have e5:cU s q.x=0:=by unfold cU;rw[hl];rfl
     rw[<-WE hG.pn hq hJ,e5];have e6:({q with on:=0}:bj)=q:=by rw[<-Vg]
     rw[e6,UN hN8 MS];exact a8|some fn=>
     obtain⟨fl,bA,WJ,MU⟩:=WC hG WI hl;have e5:cU s q.x=fn:=by unfold cU;rw[hl];rfl
     refine aY ⟨_,rfl,ek T En.ho ⟨_,rfl,_,rfl,tK T MT ?_⟩⟩;obtain⟨dq,p7⟩:=id MT;have hff:eM (gQ s ((dA s).take i)).flights fn=some fl:=by rw[<-WJ];exact jV hG.fl.nd bA
     refine⟨g,_,rfl,bq (.inl e2) (by rw[rR,ua q.x,hl];rfl),_,_,rfl,bq (.inl En.fl.fl) (by rw[eZ,hff];rfl),_,rfl,_,_,dq,_,rfl,p7,T.cP,T.yX,(by show 9<1000;decide),rX _ _ ?_⟩;have a9:=After.KA En MS (q':={q with on:=cU s q.x}) rfl rfl p7 rfl;have Lg:d8 L.fa (cU s q.x)=.ref (L.fa fl.num):=by unfold d8;rw[e5,WJ,ah];have:=hG.pos fl bA;lia
     have a9:After A H9 (upd H9 (L.pa q.x) (.ins A.CP dq (eY q (L.un q.x) (d8 L.fa (cU s q.x))))) L L (gQ s ((dA s).take i)) (gW (gQ s ((dA s).take i)) {q with on:=cU s q.x}):=a9;rw[WE hG.pn hq hJ,Lg]at a9;exact⟨rfl,aT p7 e1 nofun,aT p7 e2 nofun,aT p7 e3 nofun,a8.trans a9⟩
   ·rintro σ yz ⟨rfl,e1,e2,e3,WK⟩
    have ahH:({q with on:=cU s q.x}:bj)∈(gQ s ((dA s).take (i+1))).pax:=by unfold gQ;refine aB.mpr ⟨q,hJ,?_⟩;rw[aj];rw[take_snoc hq,bS,fD];simp
    have WL:dH A yz (L.pa q.x) {q with on:=cU s q.x} (L.un q.x) (d8 L.fa (cU s q.x)):=WK.at_.px.px _ ahH;refine⟨_,rfl,.inl ⟨rfl,_,aE.of e3⟩,_,rfl,tK T WL ⟨_,rfl,g,rfl,.inl ⟨_,.inl e2⟩,_,rfl,tK T WL ⟨_,bq (.inl e2) (rR q.x G),by show 2<=aS;decide,λz nz=>?_⟩⟩⟩;have ez:(Option.map (λf:Nat=>V.int (f:Int)) (look G q.x)).getD (V.int 0)=V.int (cU s q.x:Int):=by rw[ua q.x];unfold cU;cases look (ml (rooms s) ((dA s).map (fA s))) q.x with
     |none=>rfl|some y=>rfl
    rw[ez];have nza:a≠z:=ba e3 nz;have wZ:(upd yz z (.lst [.int (q.x:Int),.int (cU s q.x:Int)])) a=some (.lst ((0::((dA s).take i).flatMap λq=>[(q.x:Int),(cU s q.x:Int)]).map V.int)):=by rw[ak nza];exact e3
    refine⟨a,z,_,_,rfl,rfl,wZ,ao,?_,_,rfl,?_,?_,?_,?_⟩
    ·rw[aD,dJ,List.length_flatMap]
     have h5:∀l:List bj,(l.map λq=>[(q.x:Int),(cU s q.x:Int)].length).sum=2*l.length:=λl=>by induction l with
      |nil=>rfl|cons a l ih=>rw[cV,qr,ih,dJ];show 2+2*l.length=2*(l.length+1);lia
     rw[h5];have h6:=k5 i (dA s);have h7:=str_len hG;show _+2<=aS;lia
    ·rw[ak nas.symm,ak (ba e1 nz)]
     exact e1
    ·rw[ak nag.symm,ak (ba e2 nz)]
     exact e2
    ·rw[ao,take_snoc hq,AH]
     simp
    ·exact(WK.gr (.of (bL nz))).uf hH uB wZ
  ·rintro σ H8 ⟨v5,rfl,e1,e2,e3,a8⟩
   rw[aD,dQ]at e3 a8;refine⟨_,rfl,k.fin (L':=L) (ans:=0::(dA s).flatMap λq=>[(q.x:Int),(cU s q.x:Int)]) (MK s) ?_ uB e3⟩;have es:gQ s (dA s)={s with pax:=s.pax.map λq=>if q.on=0 then{q with on:=cU s q.x}else q}:=by
    unfold gQ;congr 1;refine dE λq hq=>?_;by_cases h:q.on=0
    ·rw[aj h,aj]
     rw[fD];exact aB.mpr ⟨q,Aj.mpr ⟨hq,h⟩,rfl⟩
    ·rw[ah h,ah]
     intro z;rw[fD]at z;obtain⟨y,hy,ey⟩:=aB.mp z;obtain⟨hy1,WM⟩:=Aj.mp hy;rw[rE hG.pn hy1 hq ey]at WM;exact h WM
   rw[es]at a8;exact a8
theorem WN:∀(ns σ:List Int),(ns.foldl step_dedup σ).length<=σ.length+ns.length/\((ns.foldl step_dedup σ).length=σ.length+ns.length↔ns.Nodup/\∀v,v∈ns->σ.any (·==v)=false)
 |[],σ=>by simp|v::r,σ=>by obtain⟨h1,h2⟩:=WN r (step_dedup σ v);have hl:=step_length σ v;rw[AI,dJ];cases e:σ.any (·==v)with
  |true=>rw[e,aj rfl]at hl;refine⟨by lia,λz=>by lia,λz=>?_⟩;have:=z.2 v (cK ..);rw[e]at this;cases this|false=>
   rw[e]at hl;have hl:(step_dedup σ v).length=σ.length+1:=hl;refine⟨by lia,?_⟩;have h3:(OE step_dedup (step_dedup σ v) r).length=σ.length+(r.length+1)↔(OE step_dedup (step_dedup σ v) r).length=(step_dedup σ v).length+r.length:=by lia
   rw[h3,h2,gS];constructor
   ·rintro⟨z1,z2⟩
    refine⟨⟨λz=>?_,z1⟩,λu hu=>?_⟩
    ·have:=z2 v z
     rw[FR]at this;simp at this
    ·rcases b9.mp hu with rfl|hu
     ·exact e
     ·have:=z2 u hu
      rw[FR,N8]at this;exact this.1
   ·rintro⟨⟨z1,z2⟩,z3⟩
    refine⟨z2,λu hu=>?_⟩;rw[FR,z3 u (b8 _ hu),E5];exact c9 λz=>z1 (by rw[<-z];exact hu)
theorem MV:∀xs:List Nat,distinct xs=true↔xs.Nodup|[]=>by simp[distinct]|x::r=>by unfold distinct;rw[gS,cJ,MV r];simp
theorem ahI{xs:List Nat}:(xs.map λn:Nat=>(n:Int)).Nodup↔xs.Nodup:=by
 unfold List.Nodup;rw[j6];constructor
 ·intro h
  exact h.imp λn e=>n (by rw[e])
 ·intro h
  exact h.imp λn e=>n (by lia)
def cR(s:State)(x:Nat):Option Int:=match eO s x with|none=>some (-4)|some q=>if q.on=0 then none else some (-7)
theorem Eo(s:State)(xs:List Nat):oW s xs=match xs.findSome? (cR s)with|some e=>some e|none=>if distinct xs=true then none else some (-8):=rfl
theorem MW{α β:Type}{g:α->Option β}:∀{l:List α}{i:Nat}{x:α}{b:β},l[i]? =some x->(∀y,y∈l.take i->g y=none)->g x=some b->l.findSome? g=some b|[],i,x,b,h,_,_=>by simp at h|a::l,0,x,b,h,_,hp=>by cases h;rw[Oq,hp]|a::l,i+1,x,b,h,hn,hp=>by rw[Oq,hn a (by simp)];exact MW (l:=l) (i:=i) h (λz hz=>hn z (by rw[Fh];exact b8 _ hz)) hp
abbrev MX:aV:=top 79
theorem Ak:bu ["house","row","number","wishes"] ["house","row"] (bb MX):=bC
theorem ahJ(F:bh K "tell_could" "tell_could" MX f fd)(T:Txt K mg A)(lW:dm P w K mg base A.CP "is_stranded" 1 ["self"] (zw A))(MY:Glob P w K mg base "can_be_seated" 4 ["rooms","wishes"] (Wn A))(w4:Glob P w K mg base "rooms_by_flight" 8 ["house"] (MD A))(w6:Glob P w K mg base "wishes_by_passenger" 8 ["house","passengers"] (MG A K)):aX P w K mg base bc 9 f fd ["house","row"] (fN A K λns c=>∃xs:List Nat,ns=(xs.map λn:Nat=>(n:Int))/\xs.length<=60/\c=.could xs):=by
 refine F.bH Ak λH vs Q E hr hu h=>?_;obtain⟨L,s,r,ns,c,rfl,hH,hG,hB,hR,⟨xs,rfl,vB,rfl⟩,k⟩:=h;have sz:1000<=aS:=by decide
 have Ep:aE K H r (xs.map λn:Nat=>V.int (n:Int)):=by
  have e:(xs.map λn:Nat=>(n:Int)).map V.int=xs.map λn:Nat=>V.int (n:Int):=by rw[dv];rfl
  rw[<-e];exact hR
 have MZ:∀e:Int,oW s xs=some e->step s (.could xs)=(s,[e]):=λe he=>by show(match oW s xs with|some e=>(s,[e])|none=>_)=_;rw[he]
 refine⟨_,(aq (gn (fV (pv 1)) (c7 2 Ak.nd) (aq (bo (dB (f9 hu (pv 2) (au K (pv 0)))) (az (aK (bw (ax (cn (T.pG)))))) bt) (az (bo (gY (dj (fk (cC hu (au K (pv 0)) (pv 2)) T.cP lW hr))) (az (aK (bw (ax (cn (T.ir)))))) bt))))
   (aq (bo (dS vg (lA adX (by rfl) T.len uR (ax (Q3 (adW rfl) (by rfl) T.set boot_set (ax (pv 1))))) (iJ K T.len (pv 1))) (az (aK (bw (ax (cn (T.n9)))))) bt)
   (aq (bf 3 Ak.nd (bK w6 hr (aM (pv 0) (ax (jR [("number",2)] Ak.nd (fV (pv 1)) (c7 2 Ak.nd) s_ (cC hu (au K (pv 0)) (pv 2)))))))
   (az (aK (bw (aM aJ (ax (QA (dj (bK MY hr (aM (bK w4 hr (ax (pv 0))) (ax (pv 3))))) aJ aJ))))))))),?_⟩
 refine⟨_,rfl,r,rfl,⟨_,Ep⟩,gp fX (λi σ H'=>∃v2,σ=[some (.ref L.h),some (.ref r),v2,none]/\H'=H/\∀x,x∈xs.take i->cR s x=none) ⟨none,rfl,rfl,λx hx=>by simp at hx⟩ (λi σ H' _⟨_,_,h,_⟩=>by rw[h];exact Ep) ?_ ?_⟩
 ·rintro i v σ H2 H1 hi ⟨v2,rfl,rfl,iq⟩ ⟨rfl,hv⟩
  obtain⟨x,hx,rfl⟩:=el hv;refine⟨_,rfl,_,rfl,gI T hH.ho ⟨_,_,rfl,bq (.inl hH.px.pd) (iy _ x),_,rfl,?_⟩⟩;cases hf:eO s x with
  |none=>
   rw[show(s.pax.find? λq=>q.x==x)=none from hf];refine aY ⟨by decide,λp np=>?_⟩;have hc:cR s x=some (-4):=by unfold cR;rw[hf]
   exact k.ret hH (ans:=[-4]) (MZ _ (by rw[Eo,MW hx iq hc])) .refl p np|some q=>rw[show(s.pax.find? λq=>q.x==x)=some q from hf];obtain⟨hm,en⟩:=jc hf;have hO:=hH.px.px q hm;obtain⟨dx,hdx⟩:=id hO;refine bp ?_;refine⟨_,rfl,gI T hH.ho ⟨_,rfl,_,_,rfl,bq (.inl hH.px.pd) (by rw[iy,show(s.pax.find? λq=>q.x==x)=some q from hf];rfl),_,dx,_,rfl,hdx,rfl,_,q,_,L.fa,q.on,rfl,hO,_,rfl,?_⟩⟩;cases ho:(q.on==0)with
   |true=>
    refine bp ⟨_,rfl,rfl,λy hy=>?_⟩;rw[take_snoc hx]at hy;rcases cu.mp hy with hy|hy
    ·exact iq y hy
    ·rw[cj.mp hy]
     unfold cR;rw[hf];exact aj (eq_of_beq ho)|false=>
    refine aY ⟨by decide,λp np=>?_⟩;have hc:cR s x=some (-7):=by unfold cR;rw[hf];refine ah λz=>?_;rw[z]at ho;cases ho
    exact k.ret hH (ans:=[-7]) (MZ _ (by rw[Eo,MW hx iq hc])) .refl p np
 ·rintro σ H1 ⟨v2,rfl,rfl,iq⟩
  rw[aD,dQ]at iq;have vD:xs.findSome? (cR s)=none:=List.findSome?_eq_none_iff.mpr iq;refine⟨_,rfl,r,xs.map λn:Nat=>(n:Int),rfl,hR,by rw[aD];lia,λsq S nsq=>?_⟩;have s2:aC H1 (upd H1 sq (.set S ((xs.map λn:Nat=>(n:Int)).foldl step_dedup []).length)):=bL nsq;have WO:(upd H1 sq (.set S ((xs.map λn:Nat=>(n:Int)).foldl step_dedup []).length)) sq=some (.set S ((xs.map λn:Nat=>(n:Int)).foldl step_dedup []).length):=ao;generalize upd H1 sq (.set S ((xs.map λn:Nat=>(n:Int)).foldl step_dedup []).length)=H2 at s2 WO;refine⟨sq,S,_,rfl,WO,_,rfl,r,_,rfl,.inl (s2.seq hR),?_⟩;have vC:=(WN (xs.map λn:Nat=>(n:Int)) []).2;rw[aD,xp,Fw,ahI]at vC;have dP:=hH.same s2;by_cases gy:xs.Nodup
  ·have tL:distinct xs=true:=(MV xs).mpr gy
   have hlen:((xs.map λn:Nat=>(n:Int)).foldl step_dedup []).length=xs.length:=vC.mpr ⟨gy,λv _=>rfl⟩;refine⟨rfl,_,rfl,?_⟩;refine lH ?_ ?_
   ·rw[hlen,aD,aD]
   ·have wD:∀x,x∈xs->∃q,eO s x=some q/\q∈s.pax/\q.x=x:=λx hx=>by have:=iq x hx;unfold cR at this;cases hf:eO s x with
     |none=>rw[hf]at this;cases this|some q=>exact⟨q,rfl,(jc hf).1,(jc hf).2⟩
    have Al:∀l:List Nat,(∀x,x∈l->x∈xs)->(l.filterMap (eO s)).map (λq=>q.x)=l:=λl=>by induction l with
     |nil=>intro _;rfl|cons a l ih=>intro hl;obtain⟨q,h1,_,h3⟩:=wD a (hl a (by simp));rw[qk,h1];show q.x::_=_;rw[h3,ih λx hx=>hl x (b8 _ hx)]
    refine⟨_,rfl,_,rfl,r,rfl,⟨_,s2.seq Ep⟩,λD nD=>?_⟩;refine i7 fX (λi H3=>aC H2 H3/\H3 D=some (.lst ((xs.take i).map λx:Nat=>V.ref (L.pa x)))) ⟨bL nD,ao⟩ (λi H3 _ h=>h.1.seq (s2.seq Ep)) ?_ ?_
    ·rintro i v H4 H3 hi ⟨s3,e3⟩ ⟨rfl,hv⟩
     obtain⟨x,hx,rfl⟩:=el hv;obtain⟨q,hf,hJ,eqx⟩:=wD x (du hx);have d4:=dP.same s3;refine⟨rfl,tU ⟨_,rfl,gI T d4.ho ⟨_,rfl,_,_,rfl,bq (.inl d4.px.pd) (by rw[iy,show(s.pax.find? λq=>q.x==x)=some q from hf];rfl),?_⟩⟩⟩;refine⟨_,e3,?_,s3.bW nD,?_⟩
     ·rw[aD]
      have:=k5 i xs;lia
     ·rw[ao,take_snoc hx,bS]
      show some (HO.lst (_++[V.ref (L.pa q.x)]))=some (HO.lst (_++[V.ref (L.pa x)]));rw[eqx]
    ·rintro H3 ⟨s3,e3⟩
     rw[aD,dQ]at e3;have kP:=s2.trans s3;have d4:=hH.same kP;have WQ:=Al xs λx h=>h;have e3':H3 D=some (.lst ((xs.filterMap (eO s)).map λq=>V.ref (L.pa q.x))):=by
      have:(xs.map λx:Nat=>V.ref (L.pa x))=(xs.filterMap (eO s)).map λq=>V.ref (L.pa q.x):=by
       conv=>lhs;rw[<-WQ]
       rw[dv];rfl
      rw[<-this];exact e3
     have lX:((xs.filterMap (eO s)).map λq=>q.x).Nodup:=by rw[WQ];exact gy
     have dk:(xs.filterMap (eO s)).length<=60:=aZ (List.length_filterMap_le _ _) vB;refine⟨L,s,D,xs.filterMap (eO s),rfl,d4,hG,hB.same kP,aE.of e3',λq hq=>?_,lX,dk,λH4 wd wa g4 nwd Ae jr=>?_⟩
     ·obtain⟨x,_,h2⟩:=xm.mp hq
      exact(jc h2).1
     ·have oA:Gr A H1 H4:=(Gr.of kP).trans g4
      have iP:=hH.gr oA;refine⟨_,rfl,L,s,rfl,iP,hG,oA.tabs hB,λH5 ra kr g5 nra MP MQ=>?_⟩;have rQ:=oA.trans g5;refine⟨_,rfl,ra,wd,rooms s,(xs.filterMap (eO s)).map (fA s),wa,rfl,WA hG lX dk MP MQ (g5.same _ _ Ae nofun) λq hq=>g5.same _ _ (jr q hq) nofun,λH6 b s6 hb=>?_⟩;have oB:=rQ.trans (.of s6);have qe:fits (rooms s) ((xs.filterMap (eO s)).map (fA s))=b:=by have h1:=CI (rooms:=rooms s) (wants:=(xs.filterMap (eO s)).map (fA s)) (by rw[Ai];exact lX);rw[<-hb]at h1;cases b with
       |true=>exact h1.mpr rfl|false=>exact E3.mpr λz=>(by cases h1.mp z)
      have hcr:oW s xs=none:=by rw[Eo,vD,tL];rfl
      have eQ:step s (.could xs)=(s,[0,if b=true then 1 else 0]):=by show(match oW s xs with|some e=>(s,[e])|none=>(s,[0,if fits (rooms s) ((xs.filterMap (eO s)).map (fA s))=true then 1 else 0]))=_;rw[hcr,qe]
      refine⟨_,rfl,?_⟩;cases b with
      |true=>refine aY ⟨by show 2<=aS;decide,λp np=>?_⟩;exact k.ret hH (ans:=[0,1]) eQ oB p np|false=>refine bp ⟨by show 2<=aS;decide,λp np=>?_⟩;exact k.ret hH (ans:=[0,0]) eQ oB p np
  ·have tL:¬distinct xs=true:=λz=>gy ((MV xs).mp z)
   have hlen:((xs.map λn:Nat=>(n:Int)).foldl step_dedup []).length≠xs.length:=λz=>gy (vC.mp z).1;refine⟨rfl,_,rfl,?_⟩;refine lO ?_ ⟨by decide,λp np=>?_⟩
   ·intro z
    have z:=V.int.inj z;rw[aD,aD]at z;exact hlen (by lia)
   ·refine k.ret hH (ans:=[-8]) (MZ _ ?_) (.of s2) p np
    rw[Eo,vD];show(if distinct xs=true then none else some (-8))=_;rw[ah tL]
end WD
namespace L2
open PySem PySem.Spec PyProof.Rows
theorem ahK{K:aG}{a b:af}{xs ys:List V}(hl:xs.length<=ys.length):Wk (Iz K a b) xs.length (λH=>aE K H a xs/\cW K H b ys) (λi H v H'=>∃T x y,v=.ref T/\H T=none/\H'=upd H T (.tup [x,y])/\xs[i]? =some x/\ys[i]? =some y):=⟨λi H h hi=>⟨xs,ys,xs[i],ys[i]'(fI hi hl),h.1,h.2,by simp[hi],by simp[fI hi hl]⟩,λH h=>⟨xs,ys,h.1,h.2,bM _⟩,λi H v H' h _⟨T,x,y,e,n,e2,z1,z2⟩=>⟨T,x,y,e,n,e2,z1 xs h.1,z2 ys h.2⟩⟩
end L2
namespace WD
open PySem PySem.Spec PyProof.Rows L2 Vbahaj
variable{P:bR}{w:bI}{K:aG}{mg:ai->Option ag}{base:bg}{A:Ad}{f:af}{fd:eB}
def Am(K:aG)(a:af)(b:Int×Int):Prop:=∀H,cW K H a [.int b.1,.int b.2]
def An(K:aG)(a:af)(bs:List (Int×Int)):Prop:=∃as:List af,(∀H,cW K H a (as.map V.ref))/\as.length=bs.length/\∀(i:Nat)b,bs[i]? =some b->∃x,as[i]? =some x/\Am K x b
def WR(K:aG)(a:af)(t:List (List (Int×Int))):Prop:=∃as:List af,(∀H,cW K H a (as.map V.ref))/\as.length=t.length/\∀(i:Nat)bs,t[i]? =some bs->∃x,as[i]? =some x/\An K x bs
def RG:List (List (Int×Int)):=[[(1,9999),(0,999),(0,17575),(0,17575),(0,52595999),(0,52595999),(0,600),(0,999),(0,999)],
 [(1,9999),(0,2880)],[(1,9999),(-1440,1440)],[(1,9999),(1,9999),(0,600),(0,600)],[(1,9999),(1,9999)],[(1,9999)],[(1,9999)],[],[(1,9999)],[(1,9999),(1,9999)],[],[(0,52595999)],
 [(1,999999),(0,999),(1,9999),(0,52595999),(0,99999999)],[(1,999999)],[(1,999999)],[(1,999999),(1,9999),(0,1)],[(1,999999)],[(1,999999)],[],[],[],[(1,999999)],[(1,9999)]]
def l3(p:Nat):Int×Int:=if p=19 then(1,60)else(0,16)
def qf(p:Nat):List (Int×Int):=if p=19 then [(1,999999)]else [(0,100000),(0,1000000000)]
structure Dat(P:bR)(w:bI)(K:aG)(A:Ad):Prop where
 rg:WR K A.aR RG
 rl:∃x y,GD P w K A.aL [(ay 19,V.ref x),(ay 20,V.ref y)]/\Am K x (1,60)/\Am K y (0,16)
 rr:∃x y,GD P w K A.aW [(ay 19,V.ref x),(ay 20,V.ref y)]/\An K x [(1,999999)]/\An K y [(0,100000),(0,1000000000)]
theorem Dat.ahL(D:Dat P w K A){p:Nat}(hp:p=19∨p=20):∃kvs x,GD P w K A.aL kvs/\bZ kvs (ay (p:Int))=some (.ref x)/\Am K x (l3 p):=by
 obtain⟨x,y,h1,h2,h3⟩:=D.rl;rcases hp with rfl|rfl
 ·exact⟨_,x,h1,rfl,h2⟩
 ·exact⟨_,y,h1,rfl,h3⟩
theorem Dat.ahM(D:Dat P w K A){p:Nat}(hp:p=19∨p=20):∃kvs x,GD P w K A.aW kvs/\bZ kvs (ay (p:Int))=some (.ref x)/\An K x (qf p):=by
 obtain⟨x,y,h1,h2,h3⟩:=D.rr;rcases hp with rfl|rfl
 ·exact⟨_,x,h1,rfl,h2⟩
 ·exact⟨_,y,h1,rfl,h3⟩
theorem Dat.WS(D:Dat P w K A)(p:Nat):∃kvs,GD P w K A.aL kvs/\(bZ kvs (ay (p:Int))).isSome=decide (p=19∨p=20):=by
 obtain⟨x,y,h1,_,_⟩:=D.rl;refine⟨_,h1,?_⟩;by_cases h:p=19
 ·subst h;rfl
 ·by_cases h':p=20
  ·subst h';rfl
  ·rw[c9 (by lia),iF (show¬(ay (19:Int):Key)=ay (p:Int)from i8 (a:=19) (λz=>h z.symm)),iF (show¬(ay (20:Int):Key)=ay (p:Int)from i8 (a:=20) (λz=>h' z.symm))]
   rfl
def j3(ns:List Int)(bs:List (Int×Int)):Bool:=(AM (λn b=>bY n b.1 b.2) ns bs).all id
def kX(lo hi:Int)(bs:List (Int×Int))(ns:List Int):Bool:=(bY (ns.length:Nat) lo hi&&decide (ns.length%bs.length=0))&&(j8 ns.length).all λi=>bY (ns.getD i 0) (bs.getD (i%bs.length) (0,0)).1 (bs.getD (i%bs.length) (0,0)).2
abbrev M0:aV:=top 58
theorem ahN:bu ["number","bounds"] ["number","bounds"] (bb M0):=bC
inductive M3(K:aG)(vs:List V)(H:Hp)(Q:VK)(E:XK):Prop|mk (n lo hi:Int) (b:af) (z:vs=[.int n,.ref b]) (z:cW K H b [.int lo,.int hi]) (z:Q (.bl (bY n lo hi)) H)
theorem ahO(F:bh K "within" "within" M0 f fd)(T:Txt K mg A):aX P w K mg base bc 1 f fd ["number","bounds"] (M3 K):=by
 refine F.bH ahN λH vs Q E hr hu h=>?_;obtain⟨n,lo,hi,b,rfl,hb,k⟩:=h;refine⟨_,(az (aK (abr jK jK (jt K (pv 1) aJ) (pv 0) (jt K (pv 1) aJ)))),_,rfl,b,_,_,_,rfl,rfl,hb,rfl,_,rfl,_,_,rfl,rfl,_,rfl,dO (λh1=>?_) λh1=>?_⟩
 ·have h1:lo<=n:=h1
  refine⟨_,rfl,b,_,_,_,rfl,rfl,hb,rfl,_,_,rfl,rfl,?_⟩;have e:bY n lo hi=decide (n<=hi):=by unfold bY;rw[dX h1];rfl
  rw[e]at k;exact k
 ·have h1:¬lo<=n:=h1
  have e:bY n lo hi=false:=by unfold bY;rw[c9 h1];rfl
  rw[e]at k;exact k
abbrev M4:aV:=top 59
theorem Er:bu ["place","arguments","number","bounds"] ["place","arguments"] (bb M4):=bC
inductive WT(K:aG)(vs:List V)(H:Hp)(Q:VK)(E:XK):Prop|mk (p:Nat) (l:af) (ns:List Int) (bs:List (Int×Int)) (z:vs=[.int (p:Int),.ref l]) (z:RG[p]? =some bs) (z:ns.length=bs.length) (z:ns.length<=100) (z:aE K H l (ns.map V.int)) (z:∀H',aC H H'->Q (.bl (j3 ns bs)) H')
theorem ahP(F:bh K "arguments_fit" "arguments_fit" M4 f fd)(T:Txt K mg A)(D:Dat P w K A)(uC:Glob P w K mg base "within" 1 ["number","bounds"] (M3 K)):aX P w K mg base bc 2 f fd ["place","arguments"] (WT K):=by
 refine F.bH Er λH vs Q E hr hu h=>?_;obtain⟨p,l,ns,bs,rfl,hb,hl,hn,hS,k⟩:=h;obtain⟨as,ha,oz,nX⟩:=D.rg;obtain⟨x,hx,xs,WU,vB,hxt⟩:=nX p bs hb;refine⟨_,(az (aK (lA (Sv rfl) (by rfl) T.all boot_all (ax (jR [("number",2),("bounds",3)] Er.nd (aeb (by rfl) T.zip (aM (pv 1) (ax (jt K (mQ T.CL) (pv 0))))) (w_g2 K (c7 2 Er.nd) (c7 3 Er.nd)) s_ (bK uC hr (aM (pv 2) (ax (pv 3))))))))),?_⟩;refine⟨_,rfl,_,rfl,A.aR,_,_,_,rfl,rfl,ha H,at_of (j:=p) (v:=.ref x) (by lia) (by rw[fz,hx];rfl),?_⟩;refine⟨l,x,_,_,rfl,hS,WU H,λD1 nD=>?_⟩;refine i7 (ahK (by rw[aD,aD,hl,vB];exact bM _)) (λi H1=>aC H H1/\H1 D1=some (.lst (((AM (λn b=>bY n b.1 b.2) ns bs).take i).map V.bl))) ⟨bL nD,ao⟩ (λi H1 _ h=>⟨h.1.seq hS,WU H1⟩) ?_ ?_
 ·rintro i v H1 H2 hi ⟨s1,e1⟩ ⟨T1,va,vb,rfl,nT,rfl,wu,DE⟩
  obtain⟨n,rV,rfl⟩:=el wu;obtain⟨y,hy,rfl⟩:=el DE;rw[aD]at hi;have w8:bs[i]? =some bs[i]:=dY (by lia);generalize bs[i]=b at w8;obtain⟨y',Cw,hB⟩:=hxt i b w8;rw[hy]at Cw;cases Cw;have hz:(AM (λn b=>bY n b.1 b.2) ns bs)[i]? =some (bY n b.1 b.2):=by rw[List.getElem?_zipWith,rV,w8]
  have s2:aC H1 (upd H1 T1 (.tup [.int n,.ref y])):=bL nT;have M5:D1≠T1:=ba e1 nT;refine⟨T1,_,rfl,cW.of ao,rfl,_,_,rfl,_,_,rfl,rfl,rfl,tU ⟨_,rfl,_,rfl,n,b.1,b.2,y,rfl,hB _,?_⟩⟩;refine⟨_,by rw[ak M5];exact e1,?_,(s1.trans s2).bW nD,?_⟩
  ·rw[aD]
   have h1:=k5 i (AM (λn b=>bY n b.1 b.2) ns bs);rw[Ot]at h1;have:1000<=aS:=by decide
   lia
  ·rw[ao,take_snoc hz,bS]
   rfl
 ·rintro H1 ⟨s1,e1⟩
  rw[aD,oJ (by rw[Ot];lia)]at e1;exact⟨D1,_,rfl,aE.of e1,k H1 s1⟩
abbrev M6:aV:=top 60
theorem Ao:bu ["place","row","ranges","at","number"] ["place","row"] (bb M6):=bC
inductive WV(K:aG)(vs:List V)(H:Hp)(Q:VK)(E:XK):Prop|mk (p:Nat) (l:af) (ns:List Int) (z:vs=[.int (p:Int),.ref l]) (z:(p=19∨p=20)) (z:ns.length<=100) (z:aE K H l (ns.map V.int)) (z:∀H',aC H H'->Q (.bl (kX (l3 p).1 (l3 p).2 (qf p) ns)) H')
theorem ahQ(p:Nat):0<(qf p).length:=by unfold qf;split<;>decide
theorem ahR(F:bh K "row_fits" "row_fits" M6 f fd)(T:Txt K mg A)(D:Dat P w K A)(uC:Glob P w K mg base "within" 1 ["number","bounds"] (M3 K)):aX P w K mg base bc 2 f fd ["place","row"] (WV K):=by
 refine F.bH Ao λH vs Q E hr hu h=>?_;obtain⟨p,l,ns,rfl,hp,hn,hS,k⟩:=h;obtain⟨kl,xl,kF,iZ,uD⟩:=D.ahL hp;obtain⟨kr,xr,rM,jo,as,has,oz,nX⟩:=D.ahM hp;have WW:=ahQ p;generalize qf p=bs at k oz nX WW;generalize(l3 p)=lh at k uD;have bA:((ns.map V.int).length:Nat)=ns.length:=aD ..
 refine⟨_,(aq (bf 2 Ao.nd (SG (mQ T.IZ) (pv 0) (λ_ _=>rfl))) (aq (bo (PW.pt (jj (gY (dj (bK uC hr (aM (iJ K T.len (pv 1)) (ax (SG (mQ T.yZ) (pv 0) (λ_ _=>rfl))))))) (ji (dS vg (fg QH (iJ K T.len (pv 1)) (iJ K T.len (pv 2))) aJ)))) (az (aK ik)) bt)
   (az (aK (lA (Sv rfl) (by rfl) T.all boot_all (ax (jR [("at",3),("number",4)] Ao.nd (RL (by rfl) T.enumerate (ax (pv 1))) (w_g2 K (c7 3 Ao.nd) (c7 4 Ao.nd)) s_ (bK uC hr (aM (pv 4) (ax (jt K (pv 2) (fg QH (pv 3) (iJ K T.len (pv 2)))))))))))))),?_⟩
 refine⟨_,rfl,A.aW,kr,ay (p:Int),_,rfl,rM,rfl,jo,_,rfl,l,_,rfl,.inl hS,_,rfl,A.aL,kl,ay (p:Int),_,rfl,kF,rfl,iZ,_,lh.1,lh.2,xl,rfl,uD _,_,rfl,?_⟩;rw[bA];cases hw:bY (ns.length:Nat) lh.1 lh.2 with
 |false=>
  refine aY (aY ?_);have e:kX lh.1 lh.2 bs ns=false:=by unfold kX;rw[hw];rfl
  have:=k H (aC.refl _);rw[e]at this;exact this|true=>
  refine bp ?_;refine⟨_,rfl,l,_,rfl,.inl hS,_,rfl,xr,_,rfl,.inr (has _),_,_,rfl,rfl,?_,rfl,_,rfl,?_⟩
  ·show(0:Int)<((as.map V.ref).length:Nat)
   rw[aD,oz];lia
  rw[bA,aD,oz];by_cases hm:ns.length%bs.length=0
  ·refine lH ?_ ?_
   ·show V.int (((ns.length:Nat):Int)%((bs.length:Nat):Int))=V.int 0
    rw[<-E7,hm];rfl
   refine⟨_,rfl,l,_,rfl,hS,λD1 nD=>?_⟩;refine i7 SY (λi H1=>aC H H1/\H1 D1=some (.lst (((j8 i).map λi=>bY (ns.getD i 0) (bs.getD (i%bs.length) (0,0)).1 (bs.getD (i%bs.length) (0,0)).2).map V.bl))) ⟨bL nD,ao⟩ (λi H1 _ h=>h.1.seq hS) ?_ ?_
   ·rintro i v H1 H2 hi ⟨s1,e1⟩ ⟨T1,va,rfl,nT,rfl,wu⟩
    obtain⟨n,rV,rfl⟩:=el wu;rw[aD]at hi;obtain⟨b,w8⟩:∃b,bs[i%bs.length]? =some b:=⟨_,dY (Nat.mod_lt _ WW)⟩;obtain⟨y,hy,hB⟩:=nX _ _ w8;have eb:bs.getD (i%bs.length) (0,0)=b:=by rw[xi,w8];rfl
    have en:ns.getD i 0=n:=by rw[xi,rV];rfl
    rw[<-eb]at hB;have s2:aC H1 (upd H1 T1 (.tup [.int (i:Nat),.int n])):=bL nT;have M5:D1≠T1:=ba e1 nT;refine⟨T1,_,rfl,cW.of ao,rfl,_,_,rfl,_,_,rfl,rfl,rfl,tU ?_⟩;refine⟨_,rfl,_,rfl,_,rfl,_,rfl,xr,_,rfl,.inr (has _),_,_,rfl,rfl,?_,xr,_,_,_,rfl,rfl,has _,at_of (j:=i%bs.length) (v:=.ref y) ?_ (by rw[fz,hy];rfl),?_⟩
    ·show(0:Int)<((as.map V.ref).length:Nat)
     rw[aD,oz];lia
    ·rw[aD,oz]
     exact(E7 _ _).symm
    refine⟨n,_,_,y,rfl,hB _,?_⟩;refine⟨_,by rw[ak M5];exact e1,?_,(s1.trans s2).bW nD,?_⟩
    ·rw[aD,aD,List.length_range]
     have:1000<=aS:=by decide
     lia
    ·rw[ao,List.range_succ,bS,bS]
     show some (HO.lst (_++[V.bl (bY n (bs.getD (i%bs.length) (0,0)).1 (bs.getD (i%bs.length) (0,0)).2)]))=some (HO.lst (_++[V.bl (bY (ns.getD i 0) (bs.getD (i%bs.length) (0,0)).1 (bs.getD (i%bs.length) (0,0)).2)]));rw[en]
   ·rintro H1 ⟨s1,e1⟩
    rw[aD]at e1;refine⟨D1,_,rfl,aE.of e1,?_⟩;have e:kX lh.1 lh.2 bs ns=((j8 ns.length).map λi=>bY (ns.getD i 0) (bs.getD (i%bs.length) (0,0)).1 (bs.getD (i%bs.length) (0,0)).2).all id:=by unfold kX;rw[hw,dX hm,Ft];rfl
    have:=k H1 s1;rw[e]at this;exact this
  ·refine lO ?_ ?_
   ·intro z
    have z:=V.int.inj z;rw[<-E7]at z;lia
   have e:kX lh.1 lh.2 bs ns=false:=by unfold kX;rw[c9 hm,Oa,E4]
   have:=k H (aC.refl _);rw[e]at this;exact this
abbrev M7:aV:=top 61
theorem ahS:bu ["place","numbers"] ["place","numbers"] (bb M7):=bC
def gR(p:Nat)(ns:List Int):Bool:=if p=19∨p=20 then kX (l3 p).1 (l3 p).2 (qf p) ns else j3 ns (RG.getD p [])
def Es(p:Nat)(ns:List Int):Prop:=p<23/\ns.length<=100/\(¬(p=19∨p=20)->ns.length=(RG.getD p []).length)
inductive WX(K:aG)(vs:List V)(H:Hp)(Q:VK)(E:XK):Prop|mk (p:Nat) (l:af) (ns:List Int) (z:vs=[.int (p:Int),.ref l]) (z:Es p ns) (z:aE K H l (ns.map V.int)) (z:∀H',aC H H'->Q (.bl (gR p ns)) H')
theorem ahT(F:bh K "numbers_fit" "numbers_fit" M7 f fd)(T:Txt K mg A)(D:Dat P w K A)(M8:Glob P w K mg base "row_fits" 2 ["place","row"] (WV K))(M9:Glob P w K mg base "arguments_fit" 2 ["place","arguments"] (WT K)):aX P w K mg base bc 3 f fd ["place","numbers"] (WX K):=by
 refine F.bH ahS λH vs Q E hr hu h=>?_;obtain⟨p,l,ns,rfl,hN,hS,k⟩:=h;obtain⟨kvs,pD,pA⟩:=D.WS p
 refine⟨_,(aq (bo (dB (SH (pv 0) (mQ T.yZ))) (az (aK (bK M8 hr (aM (pv 0) (ax (pv 1)))))) bt) (az (aK (bK M9 hr (aM (pv 0) (ax (pv 1))))))),?_⟩
 refine⟨_,rfl,A.aL,kvs,ay (p:Int),rfl,pD,rfl,_,rfl,?_⟩;rw[pA];refine dO (λh=>?_) λh=>?_
 ·refine⟨_,rfl,_,rfl,p,l,ns,rfl,h,hN.2.1,hS,λH' s=>?_⟩
  have:=k H' s;unfold gR at this;rw[aj h]at this;exact this
 ·have hb:RG[p]? =some (RG.getD p []):=by have h1:p<RG.length:=hN.1;rw[xi,dY h1];rfl
  refine⟨_,rfl,_,rfl,p,l,ns,RG.getD p [],rfl,hb,hN.2.2 h,hN.2.1,hS,λH' s=>?_⟩;have:=k H' s;unfold gR at this;rw[ah h]at this;exact this
end WD
namespace WD
open L2 Vbahaj
def rowsOf(p:Nat)(ns:List Int):List (List Int):=if p=19∨p=20 then [[(p:Int)],ns]else [(p:Int)::ns]
theorem m9:bY z lo hi=true↔lo<=z/\z<=hi:=by unfold bY;rw[cJ,h9,h9]
theorem e9(h:bY z lo hi=true)(h0:0<=lo):z=((z.toNat:Nat):Int):=by have:=m9.mp h;lia
theorem WY:∀{l:List Int},(∀z,z∈l->0<=z)->l=(nats l).map λn:Nat=>(n:Int)
 |[],_=>rfl|z::l,h=>by
  have h1:=h z (cK ..);show z::l=((z.toNat:Nat):Int)::(nats l).map λn:Nat=>(n:Int)
  rw[<-WY λy hy=>h y (b8 _ hy)];congr 1;lia
theorem WZ:∀{l:List Int},(∀z,z∈l->0<=z)->l.length%2=0->l=pZ (pairs (nats l))
 |[],_,_=>rfl|[z],_,h=>by simp at h|a::b::l,h,hl=>by
  have h1:=h a (by simp);have h2:=h b (by simp);have ih:=WZ (l:=l) (λz hz=>h z (by simp[hz])) (by simp at hl;lia);show a::b::l=((a.toNat:Nat):Int)::((b.toNat:Nat):Int)::pZ (pairs (nats l));rw[<-ih];congr 1
  ·lia
  ·congr 1;lia
theorem pairs_len:∀(l:List Nat),l.length%2=0->2*(pairs l).length=l.length|[],_=>rfl|[z],h=>by simp at h|a::b::l,h=>by have ih:=pairs_len l (by simp at h;lia);show 2*((pairs l).length+1)=l.length+1+1;lia
theorem M_(l:List Int):(nats l).length=l.length:=aD ..
theorem Na:∀(l:List Int),l.length%2=0->(((j8 l.length).all λi=>bY (l.getD i 0) (([(0,100000),(0,1000000000)]:List (Int×Int)).getD (i%2) (0,0)).1 (([(0,100000),(0,1000000000)]:List (Int×Int)).getD (i%2) (0,0)).2)=true↔(l.all λz=>bY z 0 1000000000)=true/\((pairs (nats l)).all λp=>decide (p.1<=100000))=true)
 |[],_=>by simp[pairs,nats]|[z],h=>by simp at h|a::b::l,h=>by
  have ih:=Na l (by simp at h;lia);have e:(j8 (a::b::l).length)=0::1::(j8 l.length).map (·+2):=by show j8 (l.length+2)=_;rw[Fb,Fb];simp[dv]
  rw[e,sj,sj,Ft];have e2:((λi=>bY ((a::b::l).getD i 0) (([(0,100000),(0,1000000000)]:List (Int×Int)).getD (i%2) (0,0)).1 (([(0,100000),(0,1000000000)]:List (Int×Int)).getD (i%2) (0,0)).2)∘(·+2))=λi=>bY (l.getD i 0) (([(0,100000),(0,1000000000)]:List (Int×Int)).getD (i%2) (0,0)).1 (([(0,100000),(0,1000000000)]:List (Int×Int)).getD (i%2) (0,0)).2:=by funext i;show bY ((a::b::l).getD (i+2) 0) (([(0,100000),(0,1000000000)]:List (Int×Int)).getD ((i+2)%2) (0,0)).1 (([(0,100000),(0,1000000000)]:List (Int×Int)).getD ((i+2)%2) (0,0)).2=_;rw[Nat.add_mod_right];rfl
  rw[e2,cJ,cJ,ih];show bY a 0 100000=true/\bY b 0 1000000000=true/\_↔(a::b::l).all _=true/\((a.toNat,b.toNat)::pairs (nats l)).all _=true;rw[sj,sj,sj,cJ,cJ,cJ,m9,m9,m9,h9];constructor
  ·rintro⟨h1,h2,h3,h4⟩
   exact⟨⟨by lia,h2,h3⟩,by lia,h4⟩
  ·rintro⟨⟨h1,h2,h3⟩,h4,h5⟩
   have h4:=h4;exact⟨by lia,h2,h3,h5⟩
theorem range_all(l:List Int)(f:Int->Bool):((j8 l.length).all λi=>f (l.getD i 0))=l.all f:=by induction l with|nil=>rfl|cons a l ih=>show(j8 (l.length+1)).all _=_;rw[Fb,sj,Ft,sj];congr 1
theorem ahU(ns:List Int):kX (l3 19).1 (l3 19).2 (qf 19) ns=isXs ns:=by
 unfold kX isXs;show((bY (ns.length:Nat) 1 60&&decide (ns.length%1=0))&&(j8 ns.length).all λi=>bY (ns.getD i 0) (([(1,999999)]:List (Int×Int)).getD (i%1) (0,0)).1 (([(1,999999)]:List (Int×Int)).getD (i%1) (0,0)).2)=_;have e:(λi=>bY (ns.getD i 0) (([(1,999999)]:List (Int×Int)).getD (i%1) (0,0)).1 (([(1,999999)]:List (Int×Int)).getD (i%1) (0,0)).2)=λi=>isPax (ns.getD i 0):=by funext i;rw[OL];rfl
 rw[e,range_all ns isPax,dX (OL _),Ob,<-Bool.and_assoc];congr 1;unfold bY;congr 1
 ·exact decide_eq_decide.mpr (by lia)
 ·exact decide_eq_decide.mpr (by lia)
theorem ahV(ns:List Int):kX (l3 20).1 (l3 20).2 (qf 20) ns=isSteps ns:=by
 have h1:kX (l3 20).1 (l3 20).2 (qf 20) ns=true↔isSteps ns=true:=by
  unfold kX isSteps;rw[cJ,cJ,cJ,cJ,cJ,h9,h9];show(bY (ns.length:Nat) 0 16=true/\ns.length%2=0)/\_↔_;rw[m9];constructor
  ·rintro⟨⟨z1,z2⟩,z3⟩
   have z4:=(Na ns z2).mp z3;exact⟨by lia,by rw[z2];rfl,z4⟩
  ·rintro⟨z1,z2,z3⟩
   have z2:ns.length%2=0:=by simpa using z2
   exact⟨⟨by lia,z2⟩,(Na ns z2).mpr z3⟩
 cases h2:isSteps ns with
 |true=>exact h1.mpr h2|false=>exact E3.mpr λz=>(by rw[h1.mp z]at h2;cases h2)
def Ap:oX->Prop|.flight f=>1<=f.num/\f.air=0/\f.feeds=[]/\f.cancelled=false/\f.left=none|.book x _ _ _ _=>1<=x|.steps l=>l.length<=8|_=>True
def Rc:Nat->List Int->oX->Prop|0,ns,c=>∃f tl sr ds dp ar tu ca ot:Nat,ns=[(f:Int),(tl:Int),(sr:Int),(ds:Int),(dp:Int),(ar:Int),(tu:Int),(ca:Int),(ot:Int)]/\c=.flight (gw f tl sr ds dp ar tu ca ot)|1,ns,c=>∃n v:Nat,ns=[(n:Int),(v:Int)]/\c=.late n v|2,ns,c=>∃(n:Nat)(e:Int),ns=[(n:Int),e]/\c=.air n e|3,ns,c=>∃n m a b:Nat,ns=[(n:Int),(m:Int),(a:Int),(b:Int)]/\c=.feed n m a b|4,ns,c=>∃n m:Nat,ns=[(n:Int),(m:Int)]/\c=.unfeed n m|5,ns,c=>∃n:Nat,ns=[(n:Int)]/\c=.times n|6,ns,c=>∃n:Nat,ns=[(n:Int)]/\c=.why n|7,ns,c=>ns=[]/\c=.table|8,ns,c=>∃n:Nat,ns=[(n:Int)]/\c=.cancel n|9,ns,c=>∃n m:Nat,ns=[(n:Int),(m:Int)]/\c=.swap n m|10,ns,c=>ns=[]/\c=.best|11,ns,c=>∃n:Nat,ns=[(n:Int)]/\c=.clock n|12,ns,c=>∃x rank n ready latest:Nat,ns=[(x:Int),(rank:Int),(n:Int),(ready:Int),(latest:Int)]/\c=.book x rank n ready latest|13,ns,c=>∃x:Nat,ns=[(x:Int)]/\c=.drop x|14,ns,c=>∃x:Nat,ns=[(x:Int)]/\c=.miss x|15,ns,c=>∃x n fl:Nat,ns=[(x:Int),(n:Int),(fl:Int)]/\fl<=1/\c=.refuse x n fl|16,ns,c=>∃x:Nat,ns=[(x:Int)]/\c=.whereIs x|17,ns,c=>∃x:Nat,ns=[(x:Int)]/\c=.wishes x|18,ns,c=>ns=[]/\c=.rebook|19,ns,c=>∃xs:List Nat,ns=(xs.map λn:Nat=>(n:Int))/\xs.length<=60/\c=.could xs|20,ns,c=>∃l:List (Nat×Nat),ns=pZ l/\l.length<=8/\c=.steps l|21,ns,c=>∃x:Nat,ns=[(x:Int)]/\c=.claim x|22,ns,c=>∃n:Nat,ns=[(n:Int)]/\c=.load n|_,_,_=>False
structure Read(p:Nat)(ns:List Int)(c0:oX):Prop where
 dec:decode (rowsOf p ns)=ranged (gR p ns) c0
 rc:gR p ns=true->Rc p ns c0/\Ap c0
theorem oF:j3 [a] [x]=bY a x.1 x.2:=by unfold j3;simp
theorem Et:j3 [a,b] [x,y]=(bY a x.1 x.2&&bY b y.1 y.2):=by unfold j3;simp
theorem ahW:j3 [a,b,c] [x,y,z]=(bY a x.1 x.2&&(bY b y.1 y.2&&bY c z.1 z.2)):=by unfold j3;simp
theorem ahX:j3 [a,b,c,d] [x,y,z,u]=(bY a x.1 x.2&&(bY b y.1 y.2&&(bY c z.1 z.2&&bY d u.1 u.2))):=by unfold j3;simp
theorem ahY:j3 [a,b,c,d,e] [x,y,z,u,v]=(bY a x.1 x.2&&(bY b y.1 y.2&&(bY c z.1 z.2&&(bY d u.1 u.2&&bY e v.1 v.2)))):=by unfold j3;simp
theorem ahZ:j3 [a,b,c,d,e,f,g,h,i] [x1,x2,x3,x4,x5,x6,x7,x8,x9]=(bY a x1.1 x1.2&&(bY b x2.1 x2.2&&(bY c x3.1 x3.2&&(bY d x4.1 x4.2&&(bY e x5.1 x5.2&&(bY f x6.1 x6.2&&(bY g x7.1 x7.2&&(bY h x8.1 x8.2&&bY i x9.1 x9.2)))))))):=by unfold j3;simp
theorem oG{p:Nat}{ns:List Int}{c:Nat->oX}{lo hi:Int}(h0:0<=lo)(hl:ns.length=1)(hr:∀a,decode (rowsOf p [a])=ranged (bY a lo hi) (c a.toNat))(hf:∀a,gR p [a]=bY a lo hi)(hR:∀n:Nat,Rc p [(n:Int)] (c n))(hc:∀n:Nat,lo<=n->Ap (c n)):∃c0,Read p ns c0:=by match ns,hl with|[a],_=>refine⟨c a.toNat,by rw[hr,hf],λh=>?_⟩;rw[hf]at h;have e:=e9 h h0;have h1:=m9.mp h;refine⟨?_,hc _ (by lia)⟩;have:=hR a.toNat;rw[<-e]at this;exact this
theorem W0{p:Nat}{ns:List Int}(h:Es p ns):∃c0,Read p ns c0:=by
 obtain⟨hp,hn,hl⟩:=h
 match p,hp with
 |0,_=>
  have hl:ns.length=9:=hl (by lia)
  match ns,hl with
  |[a,b,c,d,e,f,g,h,i],_=>
   have hf:gR 0 [a,b,c,d,e,f,g,h,i]=_:=(ah (by lia)).trans ahZ;refine⟨.flight (gw a.toNat b.toNat c.toNat d.toNat e.toNat f.toNat g.toNat h.toNat i.toNat),by rw[hf];rfl,λz=>?_⟩;rw[hf]at z;simp only[cJ]at z;obtain⟨z1,z2,z3,z4,z5,z6,z7,z8,z9⟩:=z;refine⟨⟨_,_,_,_,_,_,_,_,_,?_,rfl⟩,?_,rfl,rfl,rfl,rfl⟩
   ·rw[<-e9 z1 (by decide),<-e9 z2 (by decide),<-e9 z3 (by decide),<-e9 z4 (by decide),<-e9 z5 (by decide),<-e9 z6 (by decide),<-e9 z7 (by decide),<-e9 z8 (by decide),<-e9 z9 (by decide)]
   ·have:=m9.mp z1
    show 1<=a.toNat;have:(1:Int)<=a:=this.1;lia
 |1,_=>
  have hl:ns.length=2:=hl (by lia)
  match ns,hl with
  |[a,b],_=>have hf:gR 1 [a,b]=_:=(ah (by lia)).trans Et;refine⟨.late a.toNat b.toNat,by rw[hf];rfl,λz=>?_⟩;rw[hf]at z;simp only[cJ]at z;exact⟨⟨_,_,by rw[<-e9 z.1 (by decide),<-e9 z.2 (by decide)],rfl⟩,bJ⟩
 |2,_=>
  have hl:ns.length=2:=hl (by lia)
  match ns,hl with
  |[a,b],_=>have hf:gR 2 [a,b]=_:=(ah (by lia)).trans Et;refine⟨.air a.toNat b,by rw[hf];rfl,λz=>?_⟩;rw[hf]at z;simp only[cJ]at z;exact⟨⟨_,_,by rw[<-e9 z.1 (by decide)],rfl⟩,bJ⟩
 |3,_=>
  have hl:ns.length=4:=hl (by lia)
  match ns,hl with
  |[a,b,c,d],_=>have hf:gR 3 [a,b,c,d]=_:=(ah (by lia)).trans ahX;refine⟨.feed a.toNat b.toNat c.toNat d.toNat,by rw[hf];rfl,λz=>?_⟩;rw[hf]at z;simp only[cJ]at z;exact⟨⟨_,_,_,_,by rw[<-e9 z.1 (by decide),<-e9 z.2.1 (by decide),<-e9 z.2.2.1 (by decide),<-e9 z.2.2.2 (by decide)],rfl⟩,bJ⟩
 |4,_=>
  have hl:ns.length=2:=hl (by lia)
  match ns,hl with
  |[a,b],_=>have hf:gR 4 [a,b]=_:=(ah (by lia)).trans Et;refine⟨.unfeed a.toNat b.toNat,by rw[hf];rfl,λz=>?_⟩;rw[hf]at z;simp only[cJ]at z;exact⟨⟨_,_,by rw[<-e9 z.1 (by decide),<-e9 z.2 (by decide)],rfl⟩,bJ⟩
 |5,_=>exact oG (c:=.times) (lo:=1) (hi:=9999) (by decide) (hl (by lia)) (λa=>rfl) (λa=>(ah (by lia)).trans oF) (λn=>⟨n,rfl,rfl⟩) λn _=>bJ|6,_=>exact oG (c:=.why) (lo:=1) (hi:=9999) (by decide) (hl (by lia)) (λa=>rfl) (λa=>(ah (by lia)).trans oF) (λn=>⟨n,rfl,rfl⟩) λn _=>bJ|7,_=>have hl:ns.length=0:=hl (by lia);rw[uJ.mp hl];exact⟨.table,rfl,λ_=>⟨⟨rfl,rfl⟩,bJ⟩⟩|8,_=>exact oG (c:=.cancel) (lo:=1) (hi:=9999) (by decide) (hl (by lia)) (λa=>rfl) (λa=>(ah (by lia)).trans oF) (λn=>⟨n,rfl,rfl⟩) λn _=>bJ|9,_=>
  have hl:ns.length=2:=hl (by lia)
  match ns,hl with
  |[a,b],_=>have hf:gR 9 [a,b]=_:=(ah (by lia)).trans Et;refine⟨.swap a.toNat b.toNat,by rw[hf];rfl,λz=>?_⟩;rw[hf]at z;simp only[cJ]at z;exact⟨⟨_,_,by rw[<-e9 z.1 (by decide),<-e9 z.2 (by decide)],rfl⟩,bJ⟩
 |10,_=>have hl:ns.length=0:=hl (by lia);rw[uJ.mp hl];exact⟨.best,rfl,λ_=>⟨⟨rfl,rfl⟩,bJ⟩⟩|11,_=>exact oG (c:=.clock) (lo:=0) (hi:=52595999) (by decide) (hl (by lia)) (λa=>rfl) (λa=>(ah (by lia)).trans oF) (λn=>⟨n,rfl,rfl⟩) λn _=>bJ|12,_=>
  have hl:ns.length=5:=hl (by lia)
  match ns,hl with
  |[a,b,c,d,e],_=>have hf:gR 12 [a,b,c,d,e]=_:=(ah (by lia)).trans ahY;refine⟨.book a.toNat b.toNat c.toNat d.toNat e.toNat,by rw[hf];rfl,λz=>?_⟩;rw[hf]at z;simp only[cJ]at z;refine⟨⟨_,_,_,_,_,by rw[<-e9 z.1 (by decide),<-e9 z.2.1 (by decide),<-e9 z.2.2.1 (by decide),<-e9 z.2.2.2.1 (by decide),<-e9 z.2.2.2.2 (by decide)],rfl⟩,?_⟩;have:=m9.mp z.1;show 1<=a.toNat;have:(1:Int)<=a:=this.1;lia
 |13,_=>exact oG (c:=.drop) (lo:=1) (hi:=999999) (by decide) (hl (by lia)) (λa=>rfl) (λa=>(ah (by lia)).trans oF) (λn=>⟨n,rfl,rfl⟩) λn _=>bJ|14,_=>exact oG (c:=.miss) (lo:=1) (hi:=999999) (by decide) (hl (by lia)) (λa=>rfl) (λa=>(ah (by lia)).trans oF) (λn=>⟨n,rfl,rfl⟩) λn _=>bJ|15,_=>
  have hl:ns.length=3:=hl (by lia)
  match ns,hl with
  |[a,b,c],_=>have hf:gR 15 [a,b,c]=_:=(ah (by lia)).trans ahW;refine⟨.refuse a.toNat b.toNat c.toNat,by rw[hf];rfl,λz=>?_⟩;rw[hf]at z;simp only[cJ]at z;refine⟨⟨_,_,_,by rw[<-e9 z.1 (by decide),<-e9 z.2.1 (by decide),<-e9 z.2.2 (by decide)],?_,rfl⟩,bJ⟩;have:=m9.mp z.2.2;have:c<=(1:Int):=this.2;lia
 |16,_=>exact oG (c:=.whereIs) (lo:=1) (hi:=999999) (by decide) (hl (by lia)) (λa=>rfl) (λa=>(ah (by lia)).trans oF) (λn=>⟨n,rfl,rfl⟩) λn _=>bJ|17,_=>exact oG (c:=.wishes) (lo:=1) (hi:=999999) (by decide) (hl (by lia)) (λa=>rfl) (λa=>(ah (by lia)).trans oF) (λn=>⟨n,rfl,rfl⟩) λn _=>bJ|18,_=>have hl:ns.length=0:=hl (by lia);rw[uJ.mp hl];exact⟨.rebook,rfl,λ_=>⟨⟨rfl,rfl⟩,bJ⟩⟩|19,_=>have hf:gR 19 ns=isXs ns:=(aj (.inl rfl)).trans (ahU ns);refine⟨.could (nats ns),by rw[hf];rfl,λz=>?_⟩;rw[hf]at z;unfold isXs at z;simp only[cJ,h9]at z;refine⟨⟨nats ns,WY λy hy=>?_,by rw[M_];exact z.2.1,rfl⟩,bJ⟩;have:=m9.mp (qp.mp z.2.2 y hy);lia|20,_=>
  have hf:gR 20 ns=isSteps ns:=(aj (.inr rfl)).trans (ahV ns);refine⟨.steps (pairs (nats ns)),by rw[hf];rfl,λz=>?_⟩;rw[hf]at z;unfold isSteps at z;simp only[cJ,h9]at z;obtain⟨z1,z2,z3,z4⟩:=z;have z2:ns.length%2=0:=by simpa using z2
  have W2:(pairs (nats ns)).length<=8:=by have:=pairs_len (nats ns) (by rw[M_];exact z2);rw[M_]at this;lia
  refine⟨⟨pairs (nats ns),WZ (λy hy=>?_) z2,W2,rfl⟩,W2⟩;have:=m9.mp (qp.mp z3 y hy);lia|21,_=>exact oG (c:=.claim) (lo:=1) (hi:=999999) (by decide) (hl (by lia)) (λa=>rfl) (λa=>(ah (by lia)).trans oF) (λn=>⟨n,rfl,rfl⟩) λn _=>bJ|22,_=>exact oG (c:=.load) (lo:=1) (hi:=9999) (by decide) (hl (by lia)) (λa=>rfl) (λa=>(ah (by lia)).trans oF) (λn=>⟨n,rfl,rfl⟩) λn _=>bJ|n+23,h=>exact absurd h (by lia)
end WD
namespace WD
open PySem PySem.Spec PyProof.Rows L2 Vbahaj
variable{P:bR}{w:bI}{K:aG}{mg:ai->Option ag}{base:bg}{A:Ad}{f:af}{fd:eB}
def W3(P:bR)(w:bI)(K:aG)(mg:ai->Option ag)(base:bg)(A:Ad)(p:Nat)(f:af):Prop:=∃fd ps,aX P w K mg base bc 9 f fd ps (fN A K (Rc p))/\jf K (.ref f)=true/\Binds K fd ps []
structure W4(P:bR)(w:bI)(K:aG)(mg:ai->Option ag)(base:bg)(A:Ad):Prop where
 fc:∃fs:List af,(∀H,cW K H A.aF (fs.map V.ref))/\fs.length=12/\∀(p:Nat)f,fs[p]? =some f->W3 P w K mg base A p f
 pc:∃fs:List af,(∀H,cW K H A.aP (fs.map V.ref))/\fs.length=11/\∀(p:Nat)f,fs[p]? =some f->W3 P w K mg base A (12+p) f
def ah0(A:Ad)(H:Hp)(L:Lay)(s:State)(r:List (List Int))(Q:VK):Prop:=∀H' L' p,After A H H' L L' s (iU s r).1->H p=none->H' p=some (.lst ((iU s r).2.map V.int))->Q (.ref p) H'
theorem W5(R:Read p ns c)(h:gR p ns=true)(s:State):iU s (rowsOf p ns)=step s c:=by unfold iU;rw[R.dec,h];rfl
theorem W6(R:Read p ns c)(h:gR p ns=false)(s:State):iU s (rowsOf p ns)=(s,[-2]):=by unfold iU;rw[R.dec,h];rfl
abbrev Nb:aV:=top 86
theorem ah1:bu ["house","place","numbers"] ["house","place","numbers"] (bb Nb):=bC
inductive W7(A:Ad)(K:aG)(vs:List V)(H:Hp)(Q:VK)(E:XK):Prop|mk L s r ns (p:Nat) (z:vs=[.ref (Lay.h L),.int (p:Int),.ref r]) (z:b0 A H L s) (z:Good s) (z:dW A H) (z:aE K H r (ns.map V.int)) (z:Es p ns) (z:ah0 A H L s (rowsOf p ns) Q)
theorem ah2(F:bh K "answer_call" "answer_call" Nb f fd)(T:Txt K mg A)(D:Dat P w K A)(C:W4 P w K mg base A)(Nc:Glob P w K mg base "numbers_fit" 3 ["place","numbers"] (WX K)):aX P w K mg base bc 10 f fd ["house","place","numbers"] (W7 A K):=by
 refine F.bH ah1 λH vs Q E hr hu h=>?_;obtain⟨L,s,r,ns,p,rfl,hH,hG,hB,hR,hN,k⟩:=h;obtain⟨c0,uE⟩:=W0 hN;obtain⟨fs,lL,tI,DV⟩:=C.fc;obtain⟨gs,rH,W8,zV⟩:=C.pc
 refine⟨_,(aq (bo (gY (dj (bK Nc hr (aM (pv 1) (ax (pv 2)))))) (az (aK (bw (ax (cn (T.IT)))))) bt) (aq (bo (dS qL (pv 1) (iJ K T.len (mQ T.y_))) (az (aK (Ss (jt K (mQ T.y_) (pv 1)) (aM (pv 0) (ax (pv 2)))))) bt)
   (az (aK (Ss (jt K (mQ T.I0) (fg vf (pv 1) (iJ K T.len (mQ T.y_)))) (aM (pv 0) (ax (pv 2)))))))),?_⟩
 refine⟨_,rfl,_,rfl,p,r,ns,rfl,hN,hR,λH1 s1=>⟨_,rfl,?_⟩⟩;have bP:=hH.same s1;have hB1:=hB.same s1;have jY:=s1.seq hR;cases qe:gR p ns with
 |false=>
  refine aY ⟨by decide,λq nq=>?_⟩;have e:=W6 uE qe s;refine k _ L q ?_ (s1.free nq) ?_
  ·rw[e]
   exact .of hH ((Gr.of s1).new nq)
  ·rw[e,ao]
   rfl|true=>
  refine bp ?_;have e:=W5 uE qe s;obtain⟨hrc,_⟩:=uE.rc qe;have run:∀(sp:List V->Hp->VK->Prop),(∀vs H Q,fN A K (Rc p) (vs++[]) H Q E0->sp vs H Q)->sp [.ref L.h,.ref r] H1 Q:=λsp ly=>ly _ _ _ ⟨L,s,r,ns,c0,rfl,bP,hG,hB1,jY,hrc,λH2 L2 q a2 nq hq=>k H2 L2 q (by rw[e];exact(After.of hH (.of s1)).trans a2) (s1.free nq) (by rw[e];exact hq)⟩;refine⟨_,rfl,A.aF,_,rfl,.inr (lL _),_,_,rfl,rfl,_,rfl,dO (λh1=>?_) λh1=>?_⟩
  ·have h1:p<12:=by have h1:(p:Int)<((fs.map V.ref).length:Nat):=h1;rw[aD,tI]at h1;lia
   obtain⟨fp,lB⟩:∃fp,fs[p]? =some fp:=⟨_,dY (by lia)⟩;obtain⟨fd,ps,FO,hk,hb⟩:=DV p fp lB;refine⟨_,rfl,A.aF,_,_,_,rfl,rfl,lL _,at_of (j:=p) (v:=.ref fp) (by lia) (by rw[fz,lB];rfl),?_⟩;exact⟨fp,_,rfl,Sr (E:=E0) FO (hr.mono (by decide)) hk hb .nil tw,_,rfl,_,rfl,run _ λvs H Q z=>z⟩
  ·have h1:12<=p:=by have h1:¬(p:Int)<((fs.map V.ref).length:Nat):=h1;rw[aD,tI]at h1;lia
   have hp:=hN.1;obtain⟨fp,lB⟩:∃fp,gs[p-12]? =some fp:=⟨_,dY (by lia)⟩;obtain⟨fd,ps,FO,hk,hb⟩:=zV (p-12) fp lB;have ep:12+(p-12)=p:=by lia
   rw[ep]at FO;refine⟨_,rfl,A.aF,_,rfl,.inr (lL _),_,_,rfl,rfl,A.aP,_,_,_,rfl,rfl,rH _,at_of (j:=p-12) (v:=.ref fp) ?_ (by rw[fz,lB];rfl),?_⟩
   ·rw[aD,tI]
    lia
   exact⟨fp,_,rfl,Sr (E:=E0) FO (hr.mono (by decide)) hk hb .nil tw,_,rfl,_,rfl,run _ λvs H Q z=>z⟩
abbrev Nd:aV:=inClass (top 2) 0
theorem ah3:bu ["self"] ["self"] (bb Nd):=bC
def W9(A:Ad):Sp:=λvs H Q _=>∃p dx,vs=[.ref p]/\H p=some (.ins A.CH dx [])/\∀a b c l,H a=none->H b=none->H c=none->H l=none->a≠b->a≠c->b≠c->l≠a->l≠b->l≠c->Q .non (upd (upd (upd (upd (upd H a (.dK [])) b (.dK [])) c (.dK [])) l (.lst [])) p (.ins A.CH dx (bA 0 a b c l)))
theorem ah4(F:bh K "__init__" "House.__init__" Nd f fd)(T:Txt K mg A):aX P w K mg base bc 1 f fd ["self"] (W9 A):=by
 refine F.bH ah3 λH vs Q E hr hu h=>?_;obtain⟨p,dx,rfl,hp,k⟩:=h
 refine⟨_,(aq (c8 (pv 0) aJ) (aq (c8 (pv 0) ku)
   (aq (c8 (pv 0) ku)
   (aq (c8 (pv 0) ku)
   (az (c8 (pv 0) (bw mE))))))),?_⟩
 refine⟨_,rfl,p,_,dx,_,rfl,hp,T.cH,T.IP,(by show 0<1000;decide),?_⟩;intro a na;have Nf:p≠a:=λz=>by rw[<-z,ao]at na;cases na
 have uB:H a=none:=by rw[ak Nf.symm]at na;exact na
 refine⟨_,rfl,p,_,dx,_,rfl,by rw[ak Nf,ao],T.cH,T.S9,(by show 1<1000;decide),?_⟩;rw[ow Nf,di];intro b nb;have vS:p≠b:=λz=>by rw[<-z,ao]at nb;cases nb
 have Eu:(upd H a (.dK [])) b=none:=by rw[ak vS.symm]at nb;exact nb
 have kW:a≠b:=λz=>by rw[<-z,ao]at Eu;cases Eu
 have Ew:H b=none:=by rw[ak kW.symm]at Eu;exact Eu
 refine⟨_,rfl,p,_,dx,_,rfl,by rw[ak vS,ao],T.cH,T.IQ,(by show 2<1000;decide),?_⟩;rw[ow vS,di];intro c nc;have Ng:p≠c:=λz=>by rw[<-z,ao]at nc;cases nc
 have Ey:(upd (upd H a (.dK [])) b (.dK [])) c=none:=by rw[ak Ng.symm]at nc;exact nc
 have r8:b≠c:=λz=>by rw[<-z,ao]at Ey;cases Ey
 have Ez:(upd H a (.dK [])) c=none:=by rw[ak r8.symm]at Ey;exact Ey
 have lZ:a≠c:=λz=>by rw[<-z,ao]at Ez;cases Ez
 have EA:H c=none:=by rw[ak lZ.symm]at Ez;exact Ez
 refine⟨_,rfl,p,_,dx,_,rfl,by rw[ak Ng,ao],T.cH,T.S_,(by show 3<1000;decide),?_⟩;rw[ow Ng,di];refine⟨by show 0<=aS;decide,λl nl=>?_⟩;have ur:p≠l:=λz=>by rw[<-z,ao]at nl;cases nl
 have EB:(upd (upd (upd H a (.dK [])) b (.dK [])) c (.dK [])) l=none:=by rw[ak ur.symm]at nl;exact nl
 have W_:c≠l:=λz=>by rw[<-z,ao]at EB;cases EB
 have EC:(upd (upd H a (.dK [])) b (.dK [])) l=none:=by rw[ak W_.symm]at EB;exact EB
 have Xa:b≠l:=λz=>by rw[<-z,ao]at EC;cases EC
 have ED:(upd H a (.dK [])) l=none:=by rw[ak Xa.symm]at EC;exact EC
 have Xb:a≠l:=λz=>by rw[<-z,ao]at ED;cases ED
 have EE:H l=none:=by rw[ak Xb.symm]at ED;exact ED
 refine⟨_,rfl,p,_,dx,_,rfl,by rw[ak ur,ao],T.cH,T.IS,(by show 4<1000;decide),?_⟩;rw[ow ur,di];exact k a b c l uB Ew EA EE kW lZ r8 Xb.symm Xa.symm W_.symm
def EG(k:Nat):Nat×Nat:=if k=19∨k=20 then(0,1)else((RG.getD k []).length,0)
theorem ah5:∀k:Nat,k<23->jg (k:Int)=some (EG k):=by decide
theorem ah6(h:jg p=some ab):∃k:Nat,p=k/\k<23/\ab=EG k:=by
 by_cases hp:0<=p/\p<23
 ·have e:p=(p.toNat:Nat):=by lia
  refine⟨p.toNat,e,by lia,?_⟩;rw[e,ah5 p.toNat (by lia)]at h;exact(cM.inj h).symm
 ·unfold jg at h
  iterate 23 rw[ah (by lia)]at h
  cases h
theorem call_of(h:xA jg l=some (c,t)):∃(k:Nat)(r:List Int),l=(k:Int)::r/\k<23/\((¬(k=19∨k=20)/\(RG.getD k []).length<=r.length/\c=rowsOf k (r.take (RG.getD k []).length)/\t=r.drop (RG.getD k []).length)∨((k=19∨k=20)/\∃(n:Nat)(r':List Int),r=(n:Int)::r'/\n<=r'.length/\c=rowsOf k (r'.take n)/\t=r'.drop n)):=by
 match l,h with
 |[],h=>cases h|p::r,h=>unfold xA at h;cases hs:jg p with
  |none=>simp only[hs]at h;cases h|some ab=>
   obtain⟨k,rfl,hk,rfl⟩:=ah6 hs;simp only[hs]at h;refine⟨k,r,rfl,hk,?_⟩;by_cases hr:k=19∨k=20
   ·have e:EG k=(0,1):=aj hr
    rw[e]at h;refine .inr ⟨hr,?_⟩;have h:(if r.length<0 then none else match AX 1 (r.drop 0)with|none=>none|some (xs,t)=>some (((k:Int)::r.take 0)::xs,t))=some (c,t):=h;rw[ah (uM _),List.drop_zero,Fq]at h
    match r,h with
    |[],h=>cases h|n::r',h=>
     unfold AX PyFlat.row at h;by_cases hn:0<=n/\n.toNat<=r'.length
     ·simp only[aj hn,AX]at h
      have h:=cM.inj h;refine⟨n.toNat,r',by congr 1;lia,hn.2,?_,?_⟩
      ·refine(eW Prod.fst h).symm.trans ?_
       unfold rowsOf;rw[aj hr]
      ·exact(eW Prod.snd h).symm
     ·simp only[ah hn]at h
      cases h
   ·have e:EG k=((RG.getD k []).length,0):=ah hr
    rw[e]at h;have h:(if r.length<(RG.getD k []).length then none else match AX 0 (r.drop (RG.getD k []).length)with|none=>none|some (xs,t)=>some (((k:Int)::r.take (RG.getD k []).length)::xs,t))=some (c,t):=h;by_cases hl:r.length<(RG.getD k []).length
    ·rw[aj hl]at h;cases h
    ·rw[ah hl]at h
     have h:=cM.inj h;refine .inl ⟨hr,by lia,?_,(eW Prod.snd h).symm⟩;refine(eW Prod.fst h).symm.trans ?_;unfold rowsOf;rw[ah hr]
theorem Nh(h:qt jg m l=some cs)(hl:l≠[]):∃m' c t w9,m=m'+1/\xA jg l=some (c,t)/\qt jg m' t=some w9/\cs=c::w9:=by match m,l,h with|_,[],_=>exact absurd rfl hl|0,p::r,h=>cases h|m'+1,p::r,h=>unfold qt at h;cases h1:xA jg (p::r)with|none=>simp only[h1]at h;cases h|some ct=>obtain⟨c,t⟩:=ct;simp only[h1]at h;cases h2:qt jg m' t with|none=>simp only[h2]at h;cases h|some w9=>simp only[h2]at h;exact⟨m',c,t,w9,rfl,rfl,h2,(cM.inj h).symm⟩
theorem Ni(h:qt jg m []=some cs):cs=[]:=by cases m<;>exact(cM.inj h).symm
theorem exS(h:r.length=n+1):∃a t,r=a::t/\t.length=n:=by cases r with|nil=>cases h|cons a t=>exact⟨a,t,rfl,OM.inj h⟩
theorem Xc(hk:k<23)(h:¬(k=19∨k=20)->r.length=(RG.getD k []).length):Bv (rowsOf k r)=rowsOf k r:=by
 have:k=0∨k=1∨k=2∨k=3∨k=4∨k=5∨k=6∨k=7∨k=8∨k=9∨k=10∨k=11∨k=12∨k=13∨k=14∨k=15∨k=16∨k=17∨k=18∨k=19∨k=20∨k=21∨k=22:=by lia
 rcases this with rfl|rfl|rfl|rfl|rfl|rfl|rfl|rfl|rfl|rfl|rfl|rfl|rfl|rfl|rfl|rfl|rfl|rfl|rfl|rfl|rfl|rfl|rfl
 all_goals first
  |rfl
  |(replace h:=h (by decide)
    repeat(obtain⟨a,t,e,z⟩:=exS h;clear h;subst e;have h:=z;clear z)
    cases uJ.mp h;rfl)
theorem ah7(h:xA jg l=some (c,t)):Bv c=c:=by
 obtain⟨k,r,rfl,hk,⟨_,h2,rfl,_⟩|⟨h1,n,r',rfl,_,rfl,_⟩⟩:=call_of h
 ·exact Xc hk λ_=>by rw[jd];exact AS h2
 ·exact Xc hk λz=>absurd h1 z
theorem ah8:∀{l:List Int}{cs:List (List (List Int))},qt jg m l=some cs->cs.map Bv=cs:=by induction m with
 |zero=>
  intro l cs h;by_cases hl:l=[]
  ·subst hl;rw[Ni h];rfl
  ·obtain⟨m',c,t,w9,e,_⟩:=Nh h hl
   cases e|succ m ih=>
  intro l cs h;by_cases hl:l=[]
  ·subst hl;rw[Ni h];rfl
  ·obtain⟨m',c,t,w9,e,h1,h2,rfl⟩:=Nh h hl
   cases e;rw[cV,ih h2,ah7 h1]
theorem ah9(hk:k=19∨k=20)(h:Qp (rowsOf k ns)=true):ns.length<=100:=by
 rcases hk with rfl|rfl
 ·have h:Bw ns=true:=h
  unfold Bw at h;rw[cJ,h9]at h;exact h.1
 ·have h:Bw ns=true:=h
  unfold Bw at h;rw[cJ,h9]at h;exact h.1
theorem aia:∀k,k<23->(RG.getD k []).length<=9:=by decide
theorem aib(xs:List V)(h1:a<=b)(h2:b<=xs.length):mG xs (some (a:Int)) (some (b:Int))=(xs.drop a).take (b-a):=by unfold mG;rw[HT.Q5,HT.Q5,AS h2,AS (aZ h1 h2)]
theorem b0.uf(h:b0 A H L s)(no:¬Own L s q)(e:H q=some (.lst xs)):b0 A (L2.upd H q o) L s:=by
 have Ln:q≠L.ls:=λz=>no (.inr (.inl z));refine⟨?_,⟨?_,?_,λy hy=>?_,λy hy=>?_⟩,⟨?_,λr hr=>?_,λr hr=>?_⟩,?_,h.inj⟩
 ·obtain⟨dy,z⟩:=h.ho
  exact⟨dy,aT e z nofun⟩
 ·exact aT e h.fl.fl nofun
 ·exact aT e h.fl.tl nofun
 ·obtain⟨dy,z⟩:=h.fl.bB y hy
  exact⟨dy,aT e z nofun⟩
 ·obtain⟨kf,z1,z2⟩:=h.fl.feeds y hy
  exact⟨kf,aT e z1 nofun,z2.keep λt zs z=>aT e z nofun⟩
 ·exact aT e h.px.pd nofun
 ·obtain⟨dy,z⟩:=h.px.px r hr
  exact⟨dy,aT e z nofun⟩
 ·exact aT e (h.px.un r hr) nofun
 ·obtain⟨vs,z1,z2⟩:=h.st
  exact⟨vs,by rw[ak Ln.symm];exact z1,z2.keep λt zs z=>aT e z nofun⟩
def lay0(h a b c l:af):Lay:=⟨h,l,λd=>match d with|.df=>a|.dt=>b|.dp=>c|_=>a,λ_=>h,λ_=>h⟩
theorem aic(e1:H h=some (.ins A.CH dx (bA 0 a b c l)))(e2:H a=some (.dK []))(e3:H b=some (.dK []))(e4:H c=some (.dK []))(e5:H l=some (.lst []))(kW:a≠b)(lZ:a≠c)(r8:b≠c):b0 A H (lay0 h a b c l) sL:=by refine⟨⟨dx,e1⟩,⟨e2,e3,λf hf=>(by cases hf),λf hf=>(by cases hf)⟩,⟨e4,λq hq=>(by cases hq),λq hq=>(by cases hq)⟩,⟨[],e5,rfl,λi p hp=>(by cases hp)⟩,λx y hx hy e=>?_⟩;cases x with
 |fe n=>cases hx|un n=>cases hx|df=>cases y with
  |fe n=>cases hy|un n=>cases hy|df=>rfl|dt=>exact absurd e kW|dp=>exact absurd e lZ
 |dt=>cases y with
  |fe n=>cases hy|un n=>cases hy|df=>exact absurd e.symm kW|dt=>rfl|dp=>exact absurd e r8
 |dp=>cases y with
  |fe n=>cases hy|un n=>cases hy|df=>exact absurd e.symm lZ|dt=>exact absurd e.symm r8|dp=>rfl
theorem aid(o:Own (lay0 h a b c l) sL x):x=h∨x=l∨x=a∨x=b∨x=c:=by
 rcases o with o|o|⟨d,hd,o⟩|⟨n,hn,_⟩|⟨n,hn,_⟩
 ·exact .inl o
 ·exact .inr (.inl o)
 ·cases d with
  |fe n=>cases hd|un n=>cases hd|df=>exact .inr (.inr (.inl o))|dt=>exact .inr (.inr (.inr (.inl o)))|dp=>exact .inr (.inr (.inr (.inr o)))
 ·cases hn
 ·cases hn
theorem good0:Good sL:=by refine⟨⟨oN,fb _,λf h=>(by cases h)⟩,λf h=>(by cases h),λf h=>(by cases h),λf h=>(by cases h),oN,fb _,λq h=>(by cases h),λf h=>(by cases h),λf g h=>(by cases h),fb _⟩
structure Turn(A:Ad)(EH:Hp)(l h a:af)(ns full:List Int)(n:Nat)(H:Hp)(rest:List (List (List Int))):Prop where
 ex:∃(L:Lay)(s:State)(pre:List Int),L.h=h/\b0 A H L s/\Good s/\dW A H/\(∀b,Own L s b->EH b=none)/\¬Own L s a/\H a=some (.lst (pre.map V.int))/\pre.length+300*rest.length<=300*400/\full=pre++xB (xy x_ s rest)
 fr:∀b o,EH b=some o->(∀ps,o≠.c_ ps)->H b=some o
 free:∀b,H b=none->EH b=none
 na:EH a=none
 cl:∃m,qt jg m (ns.drop n)=some rest
 as:∀c,c∈rest->Qp c=true
abbrev Nj:aV:=top 87
theorem m_:bu ["calls","house","answered","at","place","first","count","answer"] ["calls"] (bb Nj):=bC
inductive aie(A:Ad)(K:aG)(vs:List V)(H:Hp)(Q:VK)(E:XK):Prop|mk l ns (z:vs=[.ref l]) (z:aE K H l (ns.map V.int)) (z:dW A H) (z:Gs ns=true) (z:∀H' p,H' p=some (.lst ((Bu ns).map V.int))->Q (.ref p) H')
theorem aif(F:bh K "answers" "answers" Nj f fd)(T:Txt K mg A)(D:Dat P w K A)(aih:∀s c,Good s->Ap c->Good (step s c).1)(aii:∀s c,Good s->(step s c).2.length<=200)(Nk:pF P w K mg base A.CH "House" 1 ["self"] (W9 A))(Nl:Glob P w K mg base "answer_call" 10 ["house","place","numbers"] (W7 A K)):aX P w K mg base bc 11 f fd ["calls"] (aie A K):=by
 refine F.bH m_ λH vs Q E hr hu h=>?_;obtain⟨l,ns,rfl,hL,hB,qg,k⟩:=h;have sz:1000000<=aS:=by decide
 obtain⟨tas,hta,zL,htt⟩:=D.rg
 unfold Gs Gu at qg;have tG:Bu ns=match Gu ns with|none=>[]|some cs=>xB (xy x_ aaD cs):=rfl
 unfold Gu at tG;cases jX:qt jg ns.length ns with
 |none=>rw[jX]at qg;cases qg|some cs=>
  rw[jX]at qg tG;have ewh:cs.map Bv=cs:=ah8 jX;simp only[ewh]at qg tG;rw[cJ]at qg;obtain⟨akl,Nm⟩:=qg;unfold aaE at Nm;simp only[cJ,h9]at Nm;obtain⟨gH,qh,akm⟩:=Nm;generalize akn:Bu ns=full at tG k
  refine⟨_,(aq (bf 1 m_.nd (aes Nk hr)) (aq (bf 2 m_.nd (bw mE))
   (aq (bf 3 m_.nd aJ)
   (aq (BE xS (dS qL (pv 3) (iJ K T.len (pv 0))) (aq (bf 4 m_.nd (bz K (pv 0) (pv 3)))
   (aq (bf 5 m_.nd (fg iC (pv 3) aJ))
   (aq (bf 6 m_.nd (iJ K T.len (jt K (mQ T.CL) (pv 4))))
   (aq (bo (dB (SH (pv 4) (mQ T.yZ))) (aq (bf 6 m_.nd (bz K (pv 0) (pv 5)))
   (az (bf 5 m_.nd (fg iC (pv 5) aJ)))) bt)
   (aq (bf 3 m_.nd (fg iC (pv 5) (pv 6)))
   (aq (bf 7 m_.nd (bK Nl hr (aM (pv 1) (aM (pv 4) (ax (G8 Hc (pv 0) (BQ (pv 5)) (BQ (pv 3))))))))
   (aq (jk (yW (pv 2) (iJ K T.len (pv 7))))
   (az (jk (yt xR Bh Bi BR (pv 2) (ax (pv 7)))))))))))))
   (az (aK (pv 2))))))),?_⟩
  intro hd dx nh nd cD;refine⟨hd,dx,rfl,ao,λa b c ll na nb nc nl kW lZ r8 nla nlb nlc=>⟨rfl,?_⟩⟩;have Aq:aC H (upd (upd H dx (.own hd)) hd (.ins A.CH dx [])):=(bL nd).bW nh;have nah:a≠hd:=λz=>by rw[z,ao]at na;cases na
  have nbh:b≠hd:=λz=>by rw[z,ao]at nb;cases nb
  have sP:c≠hd:=λz=>by rw[z,ao]at nc;cases nc
  have nlh:ll≠hd:=λz=>by rw[z,ao]at nl;cases nl
  have uB:=Aq.free na;have Ew:=Aq.free nb;have EA:=Aq.free nc;have EE:=Aq.free nl;have s1:aC H (upd (upd (upd (upd (upd (upd (upd H dx (.own hd)) hd (.ins A.CH dx [])) a (.dK [])) b (.dK [])) c (.dK [])) ll (.lst [])) hd (.ins A.CH dx (bA 0 a b c ll))):=((((Aq.bW uB).bW Ew).bW EA).bW EE).bW nh;have bP:b0 A (upd (upd (upd (upd (upd (upd (upd H dx (.own hd)) hd (.ins A.CH dx [])) a (.dK [])) b (.dK [])) c (.dK [])) ll (.lst [])) hd (.ins A.CH dx (bA 0 a b c ll))) (lay0 hd a b c ll) sL:=by
   refine aic ao ?_ ?_ ?_ ?_ kW lZ r8
   ·rw[ak nah,ak nla.symm,ak lZ,ak kW,ao]
   ·rw[ak nbh,ak nlb.symm,ak r8,ao]
   ·rw[ak sP,ak nlc.symm,ao]
   ·rw[ak nlh,ao]
  generalize upd (upd (upd (upd (upd (upd (upd H dx (.own hd)) hd (.ins A.CH dx [])) a (.dK [])) b (.dK [])) c (.dK [])) ll (.lst [])) hd (.ins A.CH dx (bA 0 a b c ll))=H1 at s1 bP;refine⟨by show 0<=aS;decide,λad Nn=>?_⟩;have aij:=s1.free Nn;have Np:aC H1 (upd H1 ad (.lst [])):=bL Nn;have Xd:(upd H1 ad (.lst [])) ad=some (.lst []):=ao;generalize upd H1 ad (.lst [])=H2 at Np Xd;have s2:=s1.trans Np;have aik:∀b',Own (lay0 hd a b c ll) sL b'->H b'=none:=λb' o=>by
   rcases aid o with rfl|rfl|rfl|rfl|rfl
   ·exact nh
   ·exact EE
   ·exact uB
   ·exact Ew
   ·exact EA
  have Bx:¬Own (lay0 hd a b c ll) sL ad:=λo=>by obtain⟨u,hu⟩:=bP.there o;rw[Nn]at hu;cases hu
  have t0:Turn A H l hd ad ns full 0 H2 cs:=⟨⟨lay0 hd a b c ll,sL,[],rfl,bP.same Np,good0,hB.same s2,aik,Bx,Xd,by show 0+300*cs.length<=300*400;lia,tG⟩,λb o e _=>s2 b o e,λb e=>s2.free e,aij,⟨ns.length,jX⟩,λc hc=>qp.mp gH c hc⟩
  refine⟨λm σ H'=>∃n:Nat,∃rest v4 v5 v6 v7,m=ns.length-n/\n<=ns.length/\σ=[some (.ref l),some (.ref hd),some (.ref ad),some (.int (n:Nat)),v4,v5,v6,v7]/\Turn A H l hd ad ns full n H' rest,⟨_,0,cs,none,none,none,none,rfl,fb _,rfl,t0⟩,?_⟩
  rintro m σ H3 ⟨n,rest,v4,v5,v6,v7,rfl,hn,rfl,tn⟩;have uD:aE K H3 l (ns.map V.int):=by
   rcases hL with(e|⟨o,e⟩)|e
   ·exact .inl (.inl (tn.fr _ _ e nofun))
   ·exact .inl (.inr ⟨o,tn.fr _ _ e nofun⟩)
   ·exact .inr e
  obtain⟨L,s,pre,Xe,d4,hG,Xf,vq,Xg,EI,dk,Xh⟩:=tn.ex;refine⟨_,rfl,_,rfl,l,_,rfl,.inl uD,_,_,rfl,rfl,_,rfl,dO (λh1=>?_) λh1=>?_⟩
  ·have h1:n<ns.length:=by have h1:(n:Int)<((ns.map V.int).length:Nat):=h1;rw[aD]at h1;lia
   obtain⟨mm,EJ⟩:=tn.cl;obtain⟨m',cc,tt,r9,rfl,lp,hct,rfl⟩:=Nh EJ (by intro z;have:=eW k6 z;rw[qo]at this;simp at this;lia);obtain⟨p,r,yQ,hp,Xi⟩:=call_of lp;have hrl:ns.length=n+1+r.length:=by have:=eW k6 yQ;rw[qo,dJ]at this;lia
   have hp0:ns[n]? =some (p:Int):=by
    have:(ns.drop n)[0]? =some (p:Int):=by rw[yQ];rfl
    rw[Fj,OJ]at this;exact this
   have pC:ns.drop (n+1)=r:=by
    have:(ns.drop n).drop 1=r:=by rw[yQ];rfl
    rw[AK]at this;exact this
   obtain⟨tx,um,txs,ail,aim,_⟩:=htt p (RG.getD p []) (by have h2:p<RG.length:=hp;rw[xi,dY h2];rfl)
   obtain⟨kvs,pD,pA⟩:=D.WS p;refine⟨λσ' H'=>∃n':Nat,∃r9 v4 v5 v6 v7,n<n'/\n'<=ns.length/\σ'=[some (.ref l),some (.ref hd),some (.ref ad),some (.int (n':Nat)),v4,v5,v6,v7]/\Turn A H l hd ad ns full n' H' r9,λσ' H'⟨n',r9,v4,v5,v6,v7,z1,z2,z3,z4⟩=>⟨ns.length-n',by lia,n',r9,v4,v5,v6,v7,rfl,z2,z3,z4⟩,_,rfl,_,rfl,l,_,_,_,rfl,rfl,uD,at_of (j:=n) (v:=.int (p:Int)) (by lia) (by rw[fz,hp0];rfl),?_⟩;refine⟨_,rfl,_,_,rfl,rfl,_,rfl,A.aR,_,_,_,rfl,rfl,hta _,at_of (j:=p) (v:=.ref tx) (by lia) (by rw[fz,um];rfl),tx,_,rfl,.inr (ail _),?_⟩;refine Jg (λσ' H'=>∃(fi cnt:Nat),σ'=[some (.ref l),some (.ref hd),some (.ref ad),some (.int (n:Nat)),some (.int (p:Int)),some (.int (fi:Nat)),some (.int (cnt:Nat)),v7]/\H'=H3/\n<fi/\fi+cnt<=ns.length/\cc=rowsOf p ((ns.drop fi).take cnt)/\Es p ((ns.drop fi).take cnt)/\tt=ns.drop (fi+cnt)) (λnx rX=>?_) ?_
   ·refine⟨_,rfl,A.aL,kvs,ay (p:Int),rfl,pD,rfl,_,rfl,?_⟩
    rw[pA];refine dO (λhr=>?_) λhr=>?_
    ·rcases Xi with⟨z,_⟩|⟨_,cnt,r',fO,hcn,qh,Nq⟩
     ·exact absurd hr z
     ·have JX:ns[n+1]? =some (cnt:Int):=by
       have:(ns.drop (n+1))[0]? =some (cnt:Int):=by rw[pC,fO];rfl
       rw[Fj,OJ]at this;exact this
      have Nr:ns.drop (n+2)=r':=by
       have:(ns.drop (n+1)).drop 1=r':=by rw[pC,fO];rfl
       rw[AK]at this;exact this
      have ako:r.length=r'.length+1:=by rw[fO];rfl
      refine⟨_,rfl,_,rfl,l,_,_,_,rfl,rfl,uD,at_of (j:=n+1) (v:=.int (cnt:Int)) (by lia) (by rw[fz,JX];rfl),?_⟩;refine⟨_,rfl,_,_,rfl,rfl,rX _ _ ⟨n+2,cnt,rfl,rfl,by lia,by lia,by rw[Nr];exact qh,?_,?_⟩⟩
      ·rw[Nr]
       refine⟨hp,?_,λz=>absurd hr z⟩;refine ah9 hr ?_;rw[<-qh];exact tn.as cc (cK ..)
      ·rw[Nq,<-Nr,AK]
    ·rcases Xi with⟨_,hcn,qh,Nq⟩|⟨z,_⟩
     ·have hl9:=aia p hp
      refine rX _ _ ⟨n+1,(RG.getD p []).length,?_,rfl,by lia,by lia,by rw[pC];exact qh,?_,?_⟩
      ·rw[aD,aim]
       rfl
      ·rw[pC]
       have e:(r.take (RG.getD p []).length).length=(RG.getD p []).length:=by rw[jd];lia
       exact⟨hp,by rw[e];lia,λ_=>e⟩
      ·rw[Nq,<-pC,AK]
     ·exact absurd z hr
   ·rintro σ' H' ⟨fi,cnt,rfl,rfl,hfi,Xj,qh,Nt,ain⟩
    refine⟨_,rfl,_,rfl,_,_,rfl,rfl,_,rfl,_,rfl,_,rfl,_,rfl,_,rfl,_,rfl,_,rfl,l,_,rfl,uD,λsl nsl=>?_⟩;have aio:mG (ns.map V.int) (some (fi:Int)) (some ((fi:Int)+(cnt:Int)))=((ns.drop fi).take cnt).map V.int:=by
     have e1:(fi:Int)+(cnt:Int)=((fi+cnt:Nat):Int):=by lia
     rw[e1,aib _ (by lia) (by rw[aD];exact Xj),<-OC,<-List.map_take];congr 2;lia
    rw[aio];generalize hnn:(ns.drop fi).take cnt=nn at qh Nt;have s4:aC H' (upd H' sl (.lst (nn.map V.int))):=bL nsl;have qd:(upd H' sl (.lst (nn.map V.int))) sl=some (.lst (nn.map V.int)):=ao;generalize upd H' sl (.lst (nn.map V.int))=H4 at s4 qd;refine⟨L,s,sl,nn,p,by rw[Xe];rfl,d4.same s4,hG,Xf.same s4,aE.of qd,Nt,λH5 L5 q a5 nq hq=>?_⟩;rw[<-qh]at a5 hq;have LL:x_ s cc=iU s cc:=rfl;have eQ:(iU s cc).2.length<=200/\Good (iU s cc).1:=by obtain⟨c0,uE⟩:=W0 Nt;rw[qh];cases qe:gR p nn with
     |false=>rw[W6 uE qe];exact⟨by show 1<=200;decide,hG⟩|true=>rw[W5 uE qe];exact⟨aii s c0 hG,aih s c0 hG (uE.rc qe).2⟩
    obtain⟨Ar,Xk⟩:=eQ;have Xl:full=(pre++(((iU s cc).2.length:Nat):Int)::(iU s cc).2)++xB (xy x_ (iU s cc).1 r9):=by rw[Xh];show pre++((((iU s cc).2.length:Nat):Int)::(iU s cc).2++xB (xy x_ (iU s cc).1 r9))=_;simp
    generalize iU s cc=sa at a5 hq Ar Xk Xl;obtain⟨s',ans⟩:=sa;have EK:=a5.fr ad _ (s4 _ _ EI) nofun Xg;have Xm:¬Own L5 s' ad:=λo=>by
     rcases a5.own ad o with z|z
     ·exact Xg z
     ·rw[s4 _ _ EI]at z;cases z
    have hqa:ad≠q:=ba (s4 _ _ EI) nq;have akp:pre.length+300*(r9.length+1)<=300*400:=dk;refine⟨_,rfl,.inl ⟨rfl,_,aE.of EK⟩,_,rfl,q,_,rfl,.inl (aE.of hq),ad,_,_,rfl,rfl,EK,by rw[aD];lia,?_⟩;have zY:(upd H5 ad (.lst (pre.map V.int++[V.int (((ans.map V.int).length:Nat):Int)]))) ad=some (.lst (pre.map V.int++[V.int (((ans.map V.int).length:Nat):Int)])):=ao;have hq6:(upd H5 ad (.lst (pre.map V.int++[V.int (((ans.map V.int).length:Nat):Int)]))) q=some (.lst (ans.map V.int)):=by rw[ak hqa.symm];exact hq
    refine⟨_,rfl,.inl ⟨rfl,_,aE.of zY⟩,_,rfl,ad,q,_,_,rfl,rfl,zY,hq6,?_,?_⟩
    ·rw[eL,aD,aD]
     have Ar:ans.length<=200:=Ar;show pre.length+1+ans.length<=aS;lia
    rw[di];refine⟨fi+cnt,r9,_,_,_,_,by lia,Xj,rfl,⟨⟨L5,s',pre++((ans.length:Nat):Int)::ans,a5.h.trans Xe,a5.at_.uf Xm EK,Xk,(a5.tabs (Xf.same s4)).upd EK nofun nofun,λb o=>?_,Xm,?_,?_,Xl⟩,λb o e np=>?_,λb e=>?_,tn.na,⟨m',by rw[<-ain];exact hct⟩,λc hc=>tn.as c (b8 _ hc)⟩⟩
    ·rcases a5.own b o with z|z
     ·exact vq b z
     ·exact tn.free b (s4.free z)
    ·rw[ao,aD,bS,cV,l_]
     rfl
    ·have Ar:ans.length<=200:=Ar
     rw[eL,dJ];lia
    ·have cD:b≠ad:=ba e tn.na
     rw[ak cD];exact a5.fr b o (s4 _ _ (tn.fr b o e np)) np λz=>by rw[vq b z]at e;cases e
    ·by_cases hb:b=ad
     ·rw[hb,ao]at e;cases e
     ·rw[ak hb]at e
      exact tn.free b (s4.free (a5.free b e))
  ·have h1:n=ns.length:=by have h1:¬(n:Int)<((ns.map V.int).length:Nat):=h1;rw[aD]at h1;lia
   obtain⟨mm,EJ⟩:=tn.cl;rw[h1,Fo]at EJ;have hr0:=Ni EJ;subst hr0;refine⟨_,rfl,k H3 ad ?_⟩;rw[EI,Xh];simp[xy,xB]
end WD
namespace WD
open L2 Vbahaj
theorem As{α β:Type}{φ:α->β}{p:β->Bool}{q:α->Bool}:∀{l:List α},(∀x,x∈l->p (φ x)=true->q x=true)->((l.map φ).filter p).length<=(l.filter q).length
 |[],_=>bM _|a::l,h=>by
  have ih:=As λx hx=>h x (b8 _ hx);rw[cV,bX,bX];by_cases h1:p (φ a)=true
  ·rw[aj h1,aj (h a (cK ..) h1),dJ,dJ]
   lia
  ·rw[ah h1]
   split
   ·rw[dJ];lia
   ·exact ih
theorem aip{α:Type}{p q:α->Bool}{l:List α}(h:∀x,x∈l->p x=true->q x=true):(l.filter p).length<=(l.filter q).length:=by have:=As (φ:=id) h;rwa[xt]at this
section
variable{s:State}
theorem Good.ln(G:Good s)(hf:f∈s.flights)(hg:g∈s.flights)(cf:f.cancelled=false)(cg:g.cancelled=false)(ht:f.tail=g.tail)(hb:before f g=true)(hl:f.left=none):g.left=none:=G.line f g (i_.mpr ⟨hf,cf⟩) (i_.mpr ⟨hg,cg⟩) ht hb hl
theorem Au(G:Good s)(φ:aw->aw)(h:∀f,f∈s.flights->(φ f).num=f.num/\(φ f).dep=f.dep/\(φ f).arr=f.arr/\(φ f).cap=f.cap/\(φ f).others=f.others) (hg:∀f,f∈s.flights->q_ (φ f)/\(φ f).feeds.length<=8)(kN:∀f,f∈s.flights->((φ f).feeds.map λx=>x.g).Nodup/\∀x,x∈(φ f).feeds->∃g,g∈s.flights/\g.num=x.g/\g.arr<=f.dep)
  (hl:∀f g,f∈s.flights->g∈s.flights->(φ f).cancelled=false->(φ g).cancelled=false->(φ f).tail=(φ g).tail->before f g=true->(φ f).left=none->(φ g).left=none)
  (lX:(pax.map λq=>q.x).Nodup)(dk:pax.length<=60)(Al:∀q,q∈pax->1<=q.x/\((q.on=0/\q.flown=false)∨∃f,f∈s.flights/\f.num=q.on/\(φ f).cancelled=false/\q.flown=(φ f).left.isSome)/\q.refuses.Nodup/\q.refuses.length<=8)
  (hr:∀f,f∈s.flights->(pax.filter λq=>q.on==f.num).length<=f.cap-f.others):Good {s with flights:=s.flights.map φ,now:=now,pax:=pax}:=by
 have en:(s.flights.map φ).map (λf=>f.num)=s.flights.map λf=>f.num:=by rw[dv];exact dE λf hf=>(h f hf).1
 refine⟨⟨by rw[en];exact G.fl.nd,by rw[aD];exact G.fl.len,λf hf=>?_⟩,λf hf=>?_,λf hf=>?_,λf hf=>?_,lX,dk,λq hq=>?_,λf hf=>?_,λf g hf jW=>?_,G.T_⟩
 ·obtain⟨x,hx,rfl⟩:=aB.mp hf
  exact hg x hx
 ·obtain⟨x,hx,rfl⟩:=aB.mp hf
  rw[(h x hx).1];exact G.pos x hx
 ·obtain⟨x,hx,rfl⟩:=aB.mp hf
  obtain⟨_,_,_,h4,h5⟩:=h x hx;rw[h4,h5];exact G.oth x hx
 ·obtain⟨x,hx,rfl⟩:=aB.mp hf
  obtain⟨z1,z2⟩:=kN x hx;refine⟨z1,λy hy=>?_⟩;obtain⟨g,rH,W8,zV⟩:=z2 y hy;obtain⟨e1,e2,e3,_⟩:=h g rH;exact⟨φ g,aB.mpr ⟨g,rH,rfl⟩,by rw[e1];exact W8,by rw[e3,(h x hx).2.1];exact zV⟩
 ·obtain⟨z1,z2,z3,z4⟩:=Al q hq
  refine⟨z1,?_,z3,z4⟩;rcases z2 with z2|⟨f,hf,y1,y2,y3⟩
  ·exact .inl z2
  ·exact .inr ⟨φ f,aB.mpr ⟨f,hf,rfl⟩,by rw[(h f hf).1];exact y1,y2,y3⟩
 ·obtain⟨x,hx,rfl⟩:=aB.mp hf
  obtain⟨e1,_,_,e4,e5⟩:=h x hx;rw[e1,e4,e5];exact hr x hx
 ·obtain⟨hf,cf⟩:=i_.mp hf
  obtain⟨jW,cg⟩:=i_.mp jW;obtain⟨x,hx,rfl⟩:=aB.mp hf;obtain⟨y,hy,rfl⟩:=aB.mp jW;intro ht hb hlf;refine hl x y hx hy cf cg ht ?_ hlf;rw[jT]at hb⊢;obtain⟨e1,e2,_⟩:=h x hx;obtain⟨e3,e4,_⟩:=h y hy;rw[e1,e2,e3,e4]at hb;exact hb
theorem Good.ni(G:Good s)(hq:q∈s.pax):1<=q.x/\((q.on=0/\q.flown=false)∨∃f,f∈s.flights/\f.num=q.on/\f.cancelled=false/\q.flown=f.left.isSome)/\q.refuses.Nodup/\q.refuses.length<=8:=let h:=G.px q hq;⟨h.pos,h.on,h.rn,h.rl⟩
theorem EL(G:Good s)(lX:(pax.map λq=>q.x).Nodup)(dk:pax.length<=60)(Al:∀q,q∈pax->1<=q.x/\((q.on=0/\q.flown=false)∨∃f,f∈s.flights/\f.num=q.on/\f.cancelled=false/\q.flown=f.left.isSome)/\q.refuses.Nodup/\q.refuses.length<=8) (hr:∀f,f∈s.flights->(pax.filter λq=>q.on==f.num).length<=f.cap-f.others):Good {s with pax:=pax}:=by
 have:=Au G id (now:=s.now) (λf _=>⟨rfl,rfl,rfl,rfl,rfl⟩) (λf hf=>G.fl.good f hf) (λf hf=>G.feeds f hf) (λf g hf hg cf cg ht hb hl=>G.ln hf hg cf cg ht hb hl) lX dk Al hr;rw[xt]at this;exact this
theorem EM(G:Good s)(hf:f∈s.flights)(e1:f'.num=f.num)(e2:f'.tail=f.tail)(e3:f'.dep=f.dep)(e4:f'.arr=f.arr)(e5:f'.cap=f.cap)(e6:f'.others=f.others)(e7:f'.cancelled=f.cancelled)(e8:f'.left=f.left)(hg:q_ f'/\f'.feeds.length<=8) (kN:(f'.feeds.map λx=>x.g).Nodup/\∀x,x∈f'.feeds->∃g,g∈s.flights/\g.num=x.g/\g.arr<=f.dep):Good (cT s f'):=by
 have key:∀x,x∈s.flights->(x.num=f'.num/\x=f)∨¬x.num=f'.num:=λx hx=>by
  by_cases h:x.num=f'.num
  ·exact .inl ⟨h,ja G.fl.nd hx hf (h.trans e1)⟩
  ·exact .inr h
 have same:∀x,x∈s.flights->((if x.num=f'.num then f' else x).num=x.num/\(if x.num=f'.num then f' else x).dep=x.dep/\(if x.num=f'.num then f' else x).arr=x.arr/\(if x.num=f'.num then f' else x).cap=x.cap/\(if x.num=f'.num then f' else x).others=x.others)/\(if x.num=f'.num then f' else x).tail=x.tail/\(if x.num=f'.num then f' else x).cancelled=x.cancelled/\(if x.num=f'.num then f' else x).left=x.left:=λx hx=>by
  rcases key x hx with⟨h,rfl⟩|h
  ·rw[aj h];exact⟨⟨e1,e3,e4,e5,e6⟩,e2,e7,e8⟩
  ·rw[ah h];exact⟨⟨rfl,rfl,rfl,rfl,rfl⟩,rfl,rfl,rfl⟩
 refine Au G (λg=>if g.num=f'.num then f' else g) (now:=s.now) (pax:=s.pax) (λx hx=>(same x hx).1) (λx hx=>?_) (λx hx=>?_) (λx y hx hy cx cy ht hb hl=>?_) G.pn G.pl (λq hq=>?_) G.room
 ·rcases key x hx with⟨h,rfl⟩|h
  ·rw[aj h];exact hg
  ·rw[ah h];exact G.fl.good x hx
 ·rcases key x hx with⟨h,rfl⟩|h
  ·rw[aj h];exact kN
  ·rw[ah h];exact G.feeds x hx
 ·obtain⟨_,a1,a2,a3⟩:=same x hx
  obtain⟨_,b1,b2,b3⟩:=same y hy;have cx:(if x.num=f'.num then f' else x).cancelled=false:=cx;have cy:(if y.num=f'.num then f' else y).cancelled=false:=cy;have ht:=ht;have hl:(if x.num=f'.num then f' else x).left=none:=hl;show(if y.num=f'.num then f' else y).left=none;rw[a2]at cx;rw[b2]at cy;rw[a1,b1]at ht;rw[a3]at hl;rw[b3];exact G.ln hx hy cx cy ht hb hl
 ·obtain⟨z1,z2,z3⟩:=G.ni hq
  refine⟨z1,z2.imp id λ⟨g,hg,y1,y2,y3⟩=>⟨g,hg,y1,?_,?_⟩,z3⟩
  ·show(if g.num=f'.num then f' else g).cancelled=false
   rw[(same g hg).2.2.1];exact y2
  ·show q.flown=(if g.num=f'.num then f' else g).left.isSome
   rw[(same g hg).2.2.2];exact y3
theorem Xn{l:List aw}(h:l.Pairwise λa b=>before a b=true){x:aw}(hx:x∈l):∃z,l.getLast? =some z/\z∈l/\(x=z∨before x z=true):=by cases e:l.getLast? with
 |none=>rw[List.getLast?_eq_none_iff.mp e]at hx;cases hx|some z=>
  obtain⟨ys,rfl⟩:=List.getLast?_eq_some_iff.mp e;refine⟨z,rfl,by simp,?_⟩;rcases cu.mp hx with hx|hx
  ·exact .inr ((Om.mp h).2.2 x hx z (by simp))
  ·exact .inl (cj.mp hx)
theorem Xo(hN:(s.flights.map λf=>f.num).Nodup){x y:aw}(hx:x∈aN s.flights)(ht:x.tail=y.tail)(hb:before x y=true):∃z,prior s.flights y=some z/\z∈aN s.flights/\z.tail=y.tail/\before z y=true/\(x=z∨before x z=true):=by have hs:((aN s.flights).filter λg=>g.tail==y.tail&&before g y).Pairwise λa b=>before a b=true:=(CT hN).sublist gd;obtain⟨z,h1,h2,h3⟩:=Xn hs (ck.mpr ⟨hx,by rw[hb,ht];simp⟩);obtain⟨h4,h5⟩:=ck.mp h2;rw[cJ]at h5;exact⟨z,h1,h4,eq_of_beq h5.1,h5.2,h3⟩
theorem aiq(G:Good s)(now:Nat):∀(i:Nat){x y:aw},(aN s.flights)[i]? =some y->x∈aN s.flights->x.tail=y.tail->before x y=true->x.left=none->∃tx ty,bG (times now s.flights) x.num=some tx/\bG (times now s.flights) y.num=some ty/\tx.leave<ty.leave:=by intro i;induction i using Nat.strongRecOn with|_ i ih=>
  intro x y hy hx ht hb hl;have Av:=du hy;obtain⟨z,Nu,ub,zE,Xp,Aw⟩:=Xo G.fl.nd hx ht hb;obtain⟨j,hj⟩:=vY ub;have hji:=Ua G.fl.nd hy hj Xp;have vn:y.left=none:=G.line x y hx Av ht hb hl;have tz:=Dd (now:=now) G.fl.nd hj;have ty:=Dd (now:=now) G.fl.nd hy;have dN:(jU now s.flights (cG now s.flights j) z).leave<(jU now s.flights (cG now s.flights i) y).leave:=by
   have pC:ready s.flights (cG now s.flights i) y=(jU now s.flights (cG now s.flights j) z).arrive+z.turn:=by rw[JZ G hy];unfold ready;rw[Nu];simp only;rw[tz]
   have h1:((jU now s.flights (cG now s.flights j) z).arrive:Int)=(jU now s.flights (cG now s.flights j) z).leave+((z.arr:Int)-z.dep)+z.air:=Jj (G.fl.good z (cq z ub)).1 _;have h2:=(G.fl.good z (cq z ub)).1.2;have h3:base s.flights (cG now s.flights i) y<=held s.flights (cG now s.flights i) y:=(Jh _ _).1;have h4:ready s.flights (cG now s.flights i) y<=base s.flights (cG now s.flights i) y:=OG _ _;have h5:(jU now s.flights (cG now s.flights i) y).leave=max (held s.flights (cG now s.flights i) y+y.wait) (now+1):=by show mn now s.flights (cG now s.flights i) y=_;unfold mn;rw[vn]
   have h6:held s.flights (cG now s.flights i) y+y.wait<=(jU now s.flights (cG now s.flights i) y).leave:=by rw[h5];exact OI _ _
   lia
  rcases Aw with rfl|Aw
  ·exact⟨_,_,tz,ty,dN⟩
  ·obtain⟨tx,tz',h1,h2,h3⟩:=ih j hji hj hx (ht.trans zE.symm) Aw hl
   rw[tz]at h2;cases h2;exact⟨tx,_,h1,ty,by lia⟩
theorem Ax(G:Good s)(hf:f∈s.flights)(hc:f.cancelled=false)(hl:f.left=none)(hg:g∈bU s.flights f):g∈aN s.flights/\g.tail=f.tail/\(g=f∨before f g=true)/\g.left=none:=by
 obtain⟨h1,h2⟩:=ck.mp hg;rw[cJ,N_]at h2;obtain⟨h3,h4⟩:=h2;have h3:=eq_of_beq h3;rcases h4 with h4|h4
 ·have e:=ja G.fl.nd (cq g h1) hf (eq_of_beq h4)
  rw[e]at h1⊢;exact⟨h1,rfl,.inl rfl,hl⟩
 ·exact⟨h1,h3,.inr h4,G.line f g (i_.mpr ⟨hf,hc⟩) h1 h3.symm h4 hl⟩
theorem w_:bV f=true↔f.cancelled=false/\f.left=none:=by unfold bV;rw[cJ];cases f.cancelled<;>cases f.left<;>simp
theorem ais(G:Good s){f:aw}(hc:Ap (.flight f)):Good (step s (.flight f)).1:=by
 obtain⟨c1,c2,c3,c4,c5⟩:=hc;show Good (if(flight s f.num).isSome=true then(s,[-5])else if xX<=s.flights.length then(s,[-6])else if f.src=f.dst∨f.arr<=f.dep∨f.cap<f.others∨f.dep<=s.now∨follows s f=false then(s,[-8])else({s with flights:=s.flights++[f]},[0])).1;by_cases h1:(flight s f.num).isSome=true
 ·rw[aj h1];exact G
 rw[ah h1];by_cases h2:xX<=s.flights.length
 ·rw[aj h2];exact G
 rw[ah h2];by_cases h3:f.src=f.dst∨f.arr<=f.dep∨f.cap<f.others∨f.dep<=s.now∨follows s f=false
 ·rw[aj h3];exact G
 rw[ah h3];have h2:s.flights.length<24:=OH h2;have Xq:f.num∉s.flights.map λf=>f.num:=λz=>h1 (by obtain⟨g,hg,e⟩:=aB.mp z;unfold flight;rw[<-e,jV G.fl.nd hg];rfl)
 have hbf:∀x,x∈s.flights->x.cancelled=false->x.tail=f.tail->¬before f x=true:=λx hx cx ht hb=>by
  have hx':x∈(aN s.flights).filter λg=>g.tail==f.tail:=ck.mpr ⟨i_.mpr ⟨hx,cx⟩,by rw[ht];simp⟩;obtain⟨z,z1,z2,z3⟩:=Xn ((CT G.fl.nd).sublist gd) hx';have EN:follows s f=true:=by cases e:follows s f with
   |true=>rfl|false=>exact absurd (.inr (.inr (.inr (.inr e)))) h3
  unfold follows lastOf at EN;rw[z1]at EN;simp only[cJ,h9]at EN;have hz:=(G.fl.good z (cq z (ck.mp z2).1)).1.1;have akq:=EN.2;rw[jT]at hb;rcases z3 with rfl|z3
  ·lia
  ·rw[jT]at z3
   lia
 refine⟨⟨?_,?_,λg hg=>?_⟩,λg hg=>?_,λg hg=>?_,λg hg=>?_,G.pn,G.pl,λq hq=>?_,λg hg=>?_,λa b ha hb=>?_,G.T_⟩
 ·rw[bS];refine gf.mpr ⟨G.fl.nd,ny _ _,λa ha b hb e=>?_⟩;rw[cj.mp hb]at e;rw[e]at ha;exact Xq ha
 ·show(s.flights++[f]).length<=24
  rw[eL];show s.flights.length+1<=24;lia
 ·rcases cu.mp hg with hg|hg
  ·exact G.fl.good g hg
  ·rw[cj.mp hg]
   refine⟨⟨by lia,by rw[c2];lia⟩,by rw[c3];decide⟩
 ·rcases cu.mp hg with hg|hg
  ·exact G.pos g hg
  ·rw[cj.mp hg];exact c1
 ·rcases cu.mp hg with hg|hg
  ·exact G.oth g hg
  ·rw[cj.mp hg];lia
 ·rcases cu.mp hg with hg|hg
  ·obtain⟨z1,z2⟩:=G.feeds g hg
   exact⟨z1,λx hx=>let⟨y,y1,y2⟩:=z2 x hx;⟨y,jx _ y1,y2⟩⟩
  ·rw[cj.mp hg,c3]
   exact⟨oN,λx hx=>(by cases hx)⟩
 ·obtain⟨z1,z2,z3,z4⟩:=G.ni hq
  exact⟨z1,z2.imp id λ⟨y,y1,y2⟩=>⟨y,jx _ y1,y2⟩,z3,z4⟩
 ·rcases cu.mp hg with hg|hg
  ·exact G.room g hg
  ·rw[cj.mp hg]
   have:(s.pax.filter λq=>q.on==f.num)=[]:=AG.mpr λq hq z=>by
    have z:q.on=f.num:=eq_of_beq z;rcases(G.px q hq).on with⟨y,_⟩|⟨y,y1,y2,_⟩
    ·lia
    ·exact Xq (aB.mpr ⟨y,y1,y2.trans z⟩)
   rw[this];exact fb _
 ·obtain⟨ha,ca⟩:=i_.mp ha
  obtain⟨hb,cb⟩:=i_.mp hb;intro ht mq hl;rcases cu.mp hb with hb|hb
  ·rcases cu.mp ha with ha|ha
   ·exact G.ln ha hb ca cb ht mq hl
   ·rw[cj.mp ha]at ht mq
    exact absurd mq (hbf b hb cb ht.symm)
  ·rw[cj.mp hb];exact c5
theorem Xr{n:Nat}{k:aw->State×List Int}{p:State×List Int->Prop}(h0:p (s,[-3]))(h:∀f,f∈s.flights->f.num=n->p (k f)):p (bQ s n k):=by unfold bQ flight;cases e:eM s.flights n with|none=>exact h0|some f=>exact h f (gu e).1 (gu e).2
theorem Xs{x:Nat}{k:bj->State×List Int}{p:State×List Int->Prop}(h0:p (s,[-4]))(h:∀q,q∈s.pax->q.x=x->p (k q)):p (cY s x k):=by unfold cY;cases e:eO s x with|none=>exact h0|some q=>exact h q (jc e).1 (jc e).2
theorem EO{α:Type}{c:Prop}[Decidable c]{p:α->Prop}{a b:α}(h1:c->p a)(h2:¬c->p b):p (if c then a else b):=by
 by_cases h:c
 ·rw[aj h];exact h1 h
 ·rw[ah h];exact h2 h
theorem fH{c:Prop}[Decidable c]{a b:State×List Int}(h1:Good a.1)(h2:¬c->Good b.1):Good (if c then a else b).1:=EO (p:=λr:State×List Int=>Good r.1) (λ_=>h1) h2
theorem kY{n:Nat}{k:aw->State×List Int}(h0:Good s)(h:∀f,f∈s.flights->f.num=n->Good (k f).1):Good (bQ s n k).1:=Xr (p:=λr=>Good r.1) h0 h
theorem xa{n:Nat}{k:bj->State×List Int}(h0:Good s)(h:∀q,q∈s.pax->q.x=n->Good (k q).1):Good (cY s n k).1:=Xs (p:=λr=>Good r.1) h0 h
theorem one(s:State)(i:Int):((s,[i]):State×List Int).2.length<=200:=by show 1<=200;decide
theorem eK{c:Prop}[Decidable c]{a b:State×List Int}(h2:¬c->b.2.length<=200)(h1:a.2.length<=200:=by exact one _ _):(if c then a else b).2.length<=200:=EO (p:=λr:State×List Int=>r.2.length<=200) (λ_=>h1) h2
theorem kZ{n:Nat}{k:aw->State×List Int}(h:∀f,f∈s.flights->f.num=n->(k f).2.length<=200):(bQ s n k).2.length<=200:=Xr (p:=λr=>r.2.length<=200) (one _ _) h
theorem xb{n:Nat}{k:bj->State×List Int}(h:∀q,q∈s.pax->q.x=n->(k q).2.length<=200):(cY s n k).2.length<=200:=Xs (p:=λr=>r.2.length<=200) (one _ _) h
theorem ait(G:Good s)(n v:Nat):Good (step s (.late n v)).1:=kY G λf hf _=>fH G λ_=>EM G hf rfl rfl rfl rfl rfl rfl rfl rfl (G.fl.good f hf) (G.feeds f hf)
theorem aiu(G:Good s)(n:Nat)(e:Int):Good (step s (.air n e)).1:=kY G λf hf _=>fH G λ_=>fH G λh2=>by
  refine EM G hf rfl rfl rfl rfl rfl rfl rfl rfl ⟨⟨(G.fl.good f hf).1.1,?_⟩,(G.fl.good f hf).2⟩ (G.feeds f hf)
  have h1:=(G.fl.good f hf).1.1
  show 1<=(f.arr:Int)-f.dep+e
  lia
theorem aiv(G:Good s)(n m a b:Nat):Good (step s (.feed n m a b)).1:=kY G λf hf _=>kY G λg hg eg=>fH G λ_=>fH G λh2=>fH G λh3=>fH G λh4=>by
   obtain⟨z1,z2⟩:=G.feeds f hf
   have h4:¬8<=f.feeds.length:=h4
   refine EM G hf rfl rfl rfl rfl rfl rfl rfl rfl ⟨(G.fl.good f hf).1,?_⟩ ⟨?_,λx hx=>?_⟩
   ·rw[eL]
    show f.feeds.length+1<=8
    lia
   ·rw[bS]
    refine gf.mpr ⟨z1,ny _ _,λu hu v hv e=>?_⟩
    have hv:=cj.mp hv
    obtain⟨y,hy,ey⟩:=aB.mp hu
    exact h3 (Fn.mpr ⟨y,hy,by rw[ey,e,hv];simp⟩)
   ·rcases cu.mp hx with hx|hx
    ·exact z2 x hx
    ·rw[cj.mp hx]
     exact⟨g,hg,eg,by lia⟩
theorem aiw(G:Good s)(n m:Nat):Good (step s (.unfeed n m)).1:=kY G λf hf _=>fH G λ_=>fH G λ_=>by
  obtain⟨z1,z2⟩:=G.feeds f hf
  exact EM G hf rfl rfl rfl rfl rfl rfl rfl rfl ⟨(G.fl.good f hf).1,aZ (e_ _ _) (G.fl.good f hf).2⟩ ⟨z1.sublist (ia _ gd),λx hx=>z2 x (ck.mp hx).1⟩
theorem Xt:∀{l:List aw}{g:aw},g∈through h l->g∈l
 |[],g,z=>by cases z|a::l,g,z=>by
  unfold through at z;split at z
  ·rw[cj.mp z];exact cK ..
  ·rcases b9.mp z with rfl|z
   ·exact cK ..
   ·exact b8 _ (Xt z)
theorem aix(G:Good s)(n:Nat):Good (step s (.cancel n)).1:=kY G λf hf _=>fH G λho=>by
  have ho:bV f=true:=by cases e:bV f with|true=>rfl|false=>exact absurd e ho
  obtain⟨oc,ol⟩:=w_.mp ho;have wx:∀x,x∈s.flights->(eN s.flights f).contains x.num=true->x.left=none:=λx hx z=>by rw[fD]at z;obtain⟨y,hy,ey⟩:=aB.mp z;obtain⟨y1,_,_,y4⟩:=Ax G hf oc ol (Xt hy);rw[<-ja G.fl.nd (cq y y1) hx ey];exact y4
  have fld:∀x:aw,(if(eN s.flights f).contains x.num=true then{x with cancelled:=true}else x).num=x.num/\(if(eN s.flights f).contains x.num=true then{x with cancelled:=true}else x).dep=x.dep/\(if(eN s.flights f).contains x.num=true then{x with cancelled:=true}else x).arr=x.arr/\(if(eN s.flights f).contains x.num=true then{x with cancelled:=true}else x).cap=x.cap/\(if(eN s.flights f).contains x.num=true then{x with cancelled:=true}else x).others=x.others:=λx=>by split<;>exact⟨rfl,rfl,rfl,rfl,rfl⟩
  refine Au G (λg=>if(eN s.flights f).contains g.num=true then{g with cancelled:=true}else g) (now:=s.now) (pax:=s.pax.map λq=>if(eN s.flights f).contains q.on=true then{q with on:=0}else q) (λx _=>fld x) (λx hx=>?_) (λx hx=>?_) (λx y hx hy cx cy ht hb hl=>?_) ?_ (by rw[aD];exact G.pl) (λq hq=>?_) (λx hx=>?_)
  ·have:q_ (if(eN s.flights f).contains x.num=true then{x with cancelled:=true}else x)/\(if(eN s.flights f).contains x.num=true then{x with cancelled:=true}else x).feeds.length<=8:=by split<;>exact G.fl.good x hx
   exact this
  ·have:((if(eN s.flights f).contains x.num=true then{x with cancelled:=true}else x).feeds.map λx=>x.g).Nodup/\∀y,y∈(if(eN s.flights f).contains x.num=true then{x with cancelled:=true}else x).feeds->∃g,g∈s.flights/\g.num=y.g/\g.arr<=x.dep:=by split<;>exact G.feeds x hx
   exact this
  ·have sm:∀z:aw,(if(eN s.flights f).contains z.num=true then{z with cancelled:=true}else z).cancelled=false->(if(eN s.flights f).contains z.num=true then{z with cancelled:=true}else z)=z:=λz hz=>by
    by_cases h:(eN s.flights f).contains z.num=true
    ·rw[aj h]at hz;cases hz
    ·rw[ah h]
   have ex:=sm x cx;have ey:=sm y cy;have cx:(if(eN s.flights f).contains x.num=true then{x with cancelled:=true}else x).cancelled=false:=cx;have cy:(if(eN s.flights f).contains y.num=true then{y with cancelled:=true}else y).cancelled=false:=cy;have ht:=ht;have hl:(if(eN s.flights f).contains x.num=true then{x with cancelled:=true}else x).left=none:=hl;show(if(eN s.flights f).contains y.num=true then{y with cancelled:=true}else y).left=none;rw[ex]at cx ht hl;rw[ey]at cy ht;rw[ey];exact G.ln hx hy cx cy ht hb hl
  ·rw[dv]
   have:(s.pax.map ((λq=>q.x)∘λq:bj=>if(eN s.flights f).contains q.on=true then{q with on:=0}else q))=s.pax.map λq=>q.x:=dE λq _=>by show(if(eN s.flights f).contains q.on=true then{q with on:=0}else q).x=q.x;split<;>rfl
   rw[this];exact G.pn
  ·obtain⟨r,hr,rfl⟩:=aB.mp hq
   obtain⟨z1,z2,z3,z4⟩:=G.ni hr;by_cases h:(eN s.flights f).contains r.on=true
   ·rw[aj h]
    refine⟨z1,.inl ⟨rfl,?_⟩,z3,z4⟩;rcases z2 with⟨_,z⟩|⟨g,hg,e1,e2,e3⟩
    ·exact z
    ·show r.flown=false
     rw[e3,wx g hg (by rw[e1];exact h)];rfl
   ·rw[ah h]
    refine⟨z1,z2.imp id λ⟨g,hg,e1,e2,e3⟩=>⟨g,hg,e1,?_,?_⟩,z3,z4⟩
    ·rw[ah (by rw[e1];exact h)];exact e2
    ·rw[ah (by rw[e1];exact h)];exact e3
  ·refine aZ (As (q:=λq=>q.on==x.num) λr hr z=>?_) (G.room x hx)
   have hp:=G.pos x hx;by_cases h:(eN s.flights f).contains r.on=true
   ·rw[aj h]at z
    have z:(0==x.num)=true:=z;have:=eq_of_beq z;lia
   ·rw[ah h]at z
    exact z
theorem aiy(G:Good s)(n m:Nat):Good (step s (.swap n m)).1:=kY G λf hf _=>kY G λg hg _=>fH G λho=>fH G λgF=>by
  have of':bV f=true:=by cases e:bV f with|true=>rfl|false=>exact absurd (.inl e) ho
  have og':bV g=true:=by cases e:bV g with|true=>rfl|false=>exact absurd (.inr e) ho
  obtain⟨fc,fl⟩:=w_.mp of'
  obtain⟨gc,gl⟩:=w_.mp og'
  have gF:kh s.flights f g=true:=by cases e:kh s.flights f g with|true=>rfl|false=>exact absurd e gF
  unfold kh at gF
  simp only[cJ,bne_iff_ne]at gF
  obtain⟨cD,_,uk,hpg⟩:=gF
  rw[zQ]
  have yP:∀x,x∈s.flights->((bU s.flights f).map λy=>y.num).contains x.num=true->x∈bU s.flights f:=λx hx z=>by
   rw[fD]at z
   obtain⟨y,hy,ey⟩:=aB.mp z
   rw[<-ja G.fl.nd (cq y (ck.mp hy).1) hx ey]
   exact hy
  have Xu:∀x,x∈s.flights->((bU s.flights g).map λy=>y.num).contains x.num=true->x∈bU s.flights g:=λx hx z=>by
   rw[fD]at z
   obtain⟨y,hy,ey⟩:=aB.mp z
   rw[<-ja G.fl.nd (cq y (ck.mp hy).1) hx ey]
   exact hy
  have cut:∀(a b:aw),a∈s.flights->b∈s.flights->b.cancelled=false->xZ (prior s.flights b) a=true->∀x y,x∈s.flights->y∈s.flights->(x=a∨before a x=true)->y.cancelled=false->y.tail=b.tail->¬y∈bU s.flights b->before x y=true->False:=λa b ha hb cb hp x y hx hy hax cy yu iq hxy=>by
   have Av:y∈aN s.flights:=i_.mpr ⟨hy,cy⟩
   have aiz:y.num≠b.num:=λe=>iq (ck.mpr ⟨Av,by rw[yu,e];simp⟩)
   have hyb:before y b=true:=by
    rcases Jt aiz with h|h
    ·exact h
    ·exact absurd (ck.mpr ⟨Av,by rw[yu,h];simp⟩) iq
   obtain⟨z,Nu,ub,zE,Xp,Aw⟩:=Xo G.fl.nd Av yu hyb
   rw[Nu]at hp
   have hp:z.arr<=a.dep:=nj hp
   have hzg:=(G.fl.good z (cq z ub)).1.1
   have h1:y.dep<=z.dep:=by
    rcases Aw with rfl|h
    ·exact bM _
    ·rw[jT]at h;lia
   have h2:a.dep<=x.dep:=by
    rcases hax with rfl|h
    ·exact bM _
    ·rw[jT]at h;lia
   rw[jT]at hxy
   lia
  refine Au G (ret (kT s.flights f g)) (now:=s.now) (pax:=s.pax) (λx _=>⟨rfl,rfl,rfl,rfl,rfl⟩) (λx hx=>G.fl.good x hx) (λx hx=>G.feeds x hx) (λx y hx hy cx cy ht hb hl=>?_) G.pn G.pl (λq hq=>G.ni hq) G.room
  have cx:x.cancelled=false:=cx
  have cy:y.cancelled=false:=cy
  have hl:x.left=none:=hl
  have ht:kT s.flights f g x=kT s.flights f g y:=ht
  show y.left=none
  unfold kT at ht
  by_cases y1:((bU s.flights f).map λy=>y.num).contains y.num=true
  ·exact(Ax G hf fc fl (yP y hy y1)).2.2.2
  ·by_cases y2:((bU s.flights g).map λy=>y.num).contains y.num=true
   ·exact(Ax G hg gc gl (Xu y hy y2)).2.2.2
   ·rw[ah y1,ah y2]at ht
    have ny1:¬y∈bU s.flights f:=λz=>y1 (fD.mpr (aB.mpr ⟨y,z,rfl⟩))
    have ny2:¬y∈bU s.flights g:=λz=>y2 (fD.mpr (aB.mpr ⟨y,z,rfl⟩))
    by_cases x1:((bU s.flights f).map λy=>y.num).contains x.num=true
    ·rw[aj x1]at ht
     exact(cut f g hf hg gc hpg x y hx hy (Ax G hf fc fl (yP x hx x1)).2.2.1 cy ht.symm ny2 hb).elim
    ·rw[ah x1]at ht
     by_cases x2:((bU s.flights g).map λy=>y.num).contains x.num=true
     ·rw[aj x2]at ht
      exact(cut g f hg hf fc uk x y hx hy (Ax G hg gc gl (Xu x hx x2)).2.2.1 cy ht.symm ny1 hb).elim
     ·rw[ah x2]at ht
      exact G.ln hx hy cx cy ht hb hl
theorem Xv(G:Good s)(hf:f∈s.flights)(hc:f.cancelled=false)(ht:bG (times s.now s.flights) f.num=some t):(bG (leaving s n) f.num).isSome=true↔t.leave<=n/\bV f=true:=by
 rw[tN,zW];have ho:∀u:Time,u.num=f.num->eJ s n u=(decide (u.leave<=n)&&bV f):=λu hu=>by unfold eJ flight;rw[hu,jV G.fl.nd hf];rfl
 constructor
 ·intro z
  obtain⟨u,hu,eu⟩:=aB.mp z;obtain⟨vL,vt⟩:=ck.mp ((ju _ _).mem_iff.mp hu);have:bG (times s.now s.flights) f.num=some u:=by rw[<-eu];exact oj (Dt G.fl.nd) vL
  rw[ht]at this;cases this;rw[ho t eu,cJ,h9]at vt;exact vt
 ·rintro⟨z1,z2⟩
  obtain⟨m1,m2⟩:=kL ht;exact aB.mpr ⟨t,(ju _ _).mem_iff.mpr (ck.mpr ⟨m1,by rw[ho t m2,z2,dX z1];rfl⟩),m2⟩
theorem aiA(G:Good s)(n:Nat):Good (step s (.clock n)).1:=by
 refine fH G λ_=>?_
 have sm:∀x:aw,(cX (leaving s n) x).num=x.num/\(cX (leaving s n) x).dep=x.dep/\(cX (leaving s n) x).arr=x.arr/\(cX (leaving s n) x).cap=x.cap/\(cX (leaving s n) x).others=x.others:=λx=>by unfold cX;split<;>exact⟨rfl,rfl,rfl,rfl,rfl⟩
 have mL:∀x:aw,(cX (leaving s n) x).cancelled=x.cancelled/\(cX (leaving s n) x).tail=x.tail/\(cX (leaving s n) x).feeds=x.feeds/\(cX (leaving s n) x).air=x.air:=λx=>by unfold cX;split<;>exact⟨rfl,rfl,rfl,rfl⟩
 have lf:∀x:aw,(cX (leaving s n) x).left.isSome=((bG (leaving s n) x.num).isSome||x.left.isSome):=λx=>by
  unfold cX
  cases bG (leaving s n) x.num with
  |none=>rfl|some t=>rfl
 refine Au G (cX (leaving s n)) (λx _=>sm x) (λx hx=>?_) (λx hx=>?_) (λx y hx hy cx cy ht hb hl=>?_) ?_ (by rw[aD];exact G.pl) (λq hq=>?_) (λx hx=>?_)
 ·obtain⟨_,e2,e3,_⟩:=sm x
  obtain⟨_,_,e6,e7⟩:=mL x
  unfold q_
  rw[e2,e3,e6,e7]
  exact G.fl.good x hx
 ·rw[(mL x).2.2.1]
  exact G.feeds x hx
 ·rw[(mL x).1]at cx
  rw[(mL y).1]at cy
  rw[(mL x).2.1,(mL y).2.1]at ht
  have r_:=lf x
  rw[hl]at r_
  have r_:((bG (leaving s n) x.num).isSome||x.left.isSome)=false:=r_.symm
  rw[N8]at r_
  have xl:x.left=none:=by cases e:x.left with|none=>rfl|some z=>rw[e]at r_;cases r_.2
  have yl:=G.ln hx hy cx cy ht hb xl
  obtain⟨i,hi⟩:=vY (i_.mpr ⟨hy,cy⟩)
  obtain⟨tx,ty,h1,h2,h3⟩:=aiq G s.now i hi (i_.mpr ⟨hx,cx⟩) ht hb xl
  have hny:(bG (leaving s n) y.num).isSome=false:=by cases e:(bG (leaving s n) y.num).isSome with
   |false=>rfl|true=>
    have z:=(Xv G hy cy h2).mp e
    have z2:=(Xv (n:=n) G hx cx h1).mpr ⟨by lia,w_.mpr ⟨cx,xl⟩⟩
    rw[z2]at r_
    cases r_.1
  have Nv:=lf y
  rw[hny,yl]at Nv
  cases e:(cX (leaving s n) y).left with
  |none=>rfl|some z=>rw[e]at Nv;cases Nv
 ·rw[dv]
  have:(s.pax.map ((λq=>q.x)∘λq:bj=>if(bG (leaving s n) q.on).isSome=true then{q with flown:=true}else q))=s.pax.map λq=>q.x:=dE λq _=>by
   show(if(bG (leaving s n) q.on).isSome=true then{q with flown:=true}else q).x=q.x
   split<;>rfl
  rw[this]
  exact G.pn
 ·obtain⟨r,hr,rfl⟩:=aB.mp hq
  obtain⟨z1,z2,z3,z4⟩:=G.ni hr
  have ex:(if(bG (leaving s n) r.on).isSome=true then{r with flown:=true}else r).x=r.x/\(if(bG (leaving s n) r.on).isSome=true then{r with flown:=true}else r).on=r.on/\(if(bG (leaving s n) r.on).isSome=true then{r with flown:=true}else r).refuses=r.refuses/\(if(bG (leaving s n) r.on).isSome=true then{r with flown:=true}else r).flown=((bG (leaving s n) r.on).isSome||r.flown):=by cases(bG (leaving s n) r.on).isSome with
   |true=>exact⟨rfl,rfl,rfl,rfl⟩|false=>exact⟨rfl,rfl,rfl,rfl⟩
  obtain⟨x1,x2,x3,x4⟩:=ex
  rw[x1,x2,x3,x4]
  refine⟨z1,?_,z3,z4⟩
  rcases z2 with⟨y1,y2⟩|⟨f,hf,y1,y2,y3⟩
  ·refine .inl ⟨y1,?_⟩
   rw[y2,Bool.or_false]
   cases e:(bG (leaving s n) r.on).isSome with
   |false=>rfl|true=>
    rw[tN,zW]at e
    obtain⟨u,hu,eu⟩:=aB.mp e
    have hu:=(ck.mp ((ju _ _).mem_iff.mp hu)).1
    have:u.num∈(times s.now s.flights).map λt=>t.num:=aB.mpr ⟨u,hu,rfl⟩
    rw[iN]at this
    obtain⟨g,hg,eg⟩:=aB.mp this
    have:=G.pos g (cq g hg)
    lia
  ·refine .inr ⟨f,hf,y1,by rw[(mL f).1];exact y2,?_⟩
   rw[lf,y1,y3]
 ·refine aZ (As (q:=λq=>q.on==x.num) λr hr z=>?_) (G.room x hx)
  have:(if(bG (leaving s n) r.on).isSome=true then{r with flown:=true}else r).on=r.on:=by split<;>rfl
  rw[this]at z
  exact z
theorem aiB(G:Good s){x rank n ready latest:Nat}(hx:1<=x):Good (step s (.book x rank n ready latest)).1:=kY G λf hf ef=>fH G λho=>fH G λh1=>fH G λh2=>fH G λh3=>by
   have ho:bV f=true:=by cases e:bV f with|true=>rfl|false=>exact absurd e ho
   obtain⟨oc,ol⟩:=w_.mp ho;have h2:s.pax.length<60:=OH h2;refine EL G ?_ ?_ (λq hq=>?_) (λg hg=>?_)
   ·rw[bS]
    refine gf.mpr ⟨G.pn,ny _ _,λa ha b hb e=>?_⟩;have hb:b=x:=cj.mp hb;obtain⟨q,hq,eq⟩:=aB.mp ha;refine h1 ?_;rw[<-hb,<-e,<-eq,UD G.pn hq];rfl
   ·rw[eL]
    show s.pax.length+1<=60;lia
   ·rcases cu.mp hq with hq|hq
    ·exact G.ni hq
    ·rw[cj.mp hq]
     exact⟨hx,.inr ⟨f,hf,ef,oc,by rw[ol];rfl⟩,oN,fb _⟩
   ·rw[fy,eL]
    have hr:=G.room g hg;by_cases e:n=g.num
    ·have:=ja G.fl.nd hf hg (ef.trans e)
     subst this;unfold room at h3;have hl:(List.filter (λq:bj=>q.on==f.num) [{x:=x,rank:=rank,due:=f.arr,src:=f.src,dst:=f.dst,ready:=ready,latest:=latest,refuses:=[],on:=n,flown:=false}]).length<=1:=e_ _ _;lia
    ·rw[bX,ah (by intro z;exact e (eq_of_beq z))]
     exact hr
theorem aiC(G:Good s)(x:Nat):Good (step s (.drop x)).1:=xa G λq hq _=>fH G λ_=>by refine EL G (G.pn.sublist (ia _ gd)) (aZ (e_ _ _) G.pl) (λr hr=>G.ni (ck.mp hr).1) λf hf=>aZ ?_ (G.room f hf);rw[xo];exact aip λr _ z=>by rw[cJ]at z;exact z.1
theorem Nw(G:Good s){q q':bj}(hq:q∈s.pax)(ex:q'.x=q.x)(iI:(q'.on=0/\q'.flown=false)∨∃f,f∈s.flights/\f.num=q'.on/\f.cancelled=false/\q'.flown=f.left.isSome)(h1:q'.refuses.Nodup)(h2:q'.refuses.length<=8)(hle:q'.on=0∨q'.on=q.on):Good (gW s q'):=by
 have key:∀r,r∈s.pax->r.x=q'.x->r=q:=λr hr e=>rE G.pn hr hq (e.trans ex);refine EL G (by rw[Kz];exact G.pn) (by rw[aD];exact G.pl) (λr hr=>?_) λf hf=>?_
 ·obtain⟨y,hy,rfl⟩:=aB.mp hr
  by_cases h:y.x=q'.x
  ·rw[aj h]
   exact⟨by rw[ex];exact(G.px q hq).pos,iI,h1,h2⟩
  ·rw[ah h];exact G.ni hy
 ·refine aZ (As λr hr z=>?_) (G.room f hf)
  by_cases h:r.x=q'.x
  ·rw[aj h]at z
   have:=key r hr h;subst this;rcases hle with e|e
   ·rw[e]at z
    have:=eq_of_beq z;have:=G.pos f hf;lia
   ·rw[e]at z;exact z
  ·rw[ah h]at z;exact z
theorem aiD(G:Good s)(x:Nat):Good (step s (.miss x)).1:=xa G λq hq _=>fH G λh=>by
  obtain⟨_,_,z3,z4⟩:=G.ni hq
  refine Nw G hq rfl (.inl ⟨rfl,?_⟩) z3 z4 (.inl rfl)
  cases e:q.flown with
  |false=>rfl|true=>exact absurd (.inl e) h
theorem aiE(G:Good s)(x n fl:Nat):Good (step s (.refuse x n fl)).1:=xa G λq hq _=>kY G λ_ _ _=>fH G λh1=>by
  obtain⟨_,z2,z3,z4⟩:=G.ni hq
  refine EO (p:=λr:State×List Int=>Good r.1) (λ_=>?_) λh2=>fH G λh3=>fH G λh4=>?_
  ·exact Nw G hq rfl z2 (z3.sublist gd) (aZ (e_ _ _) z4) (.inr rfl)
  ·have h4:¬8<=q.refuses.length:=h4
   refine Nw G hq rfl z2 ?_ ?_ (.inr rfl)
   ·refine gf.mpr ⟨z3,ny _ _,λa ha b hb e=>?_⟩
    rw[cj.mp hb]at e
    rw[e]at ha
    exact h3 (fD.mpr ha)
   ·rw[eL]
    show q.refuses.length+1<=8
    lia
theorem Ny:∀(ws:List bF)(R:cQ.cI)(f:Nat),cQ.cnt (seats R ws) f<=cp R f
 |[],R,f=>fb _|w::ws,R,f=>by unfold seats;cases e:w.ways.find? λf=>decide (0<cp R f)&&fits (kj R f) ws with
  |none=>exact Ny ws R f|some g=>
   have h:=gU e;rw[cJ,h9]at h;have ih:=Ny ws (kj R g) f;rw[V0]at ih;rw[cnt_cons];have h1:=h.1;by_cases z:g=f
   ·subst z
    rw[aj rfl]at ih;rw[aj rfl];lia
   ·rw[ah (λy=>z y.symm)]at ih
    rw[ah z];lia
theorem aiF(G:Good s):Good (step s .rebook).1:=by
 rw[MK];have wH:∀q,q∈s.pax->q.on=0->cU s q.x=0∨∃g,g∈s.flights/\g.num=cU s q.x/\bV g=true/\(q.x,g.num)∈ml (rooms s) ((dA s).map (fA s)):=λq hq h0=>by unfold cU;cases e:look (ml (rooms s) ((dA s).map (fA s))) q.x with
  |none=>exact .inl rfl|some f=>obtain⟨g,g1,g2,g3⟩:=WC G (Aj.mpr ⟨hq,h0⟩) e;exact .inr ⟨g,g1,g2,g3,by rw[g2];exact WB e⟩
 refine EL G ?_ (by rw[aD];exact G.pl) (λq hq=>?_) (λf hf=>?_)
 ·rw[dv]
  have:(s.pax.map ((λq=>q.x)∘λq:bj=>if q.on=0 then{q with on:=cU s q.x}else q))=s.pax.map λq=>q.x:=dE λq _=>by show(if q.on=0 then{q with on:=cU s q.x}else q).x=q.x;split<;>rfl
  rw[this];exact G.pn
 ·obtain⟨r,hr,rfl⟩:=aB.mp hq
  obtain⟨z1,z2,z3,z4⟩:=G.ni hr;by_cases h:r.on=0
  ·rw[aj h]
   have bA:r.flown=false:=by
    rcases z2 with⟨_,y⟩|⟨f,hf,y1,_⟩
    ·exact y
    ·have:=G.pos f hf
     lia
   refine⟨z1,?_,z3,z4⟩;rcases wH r hr h with e|⟨g,g1,g2,g3,_⟩
   ·exact .inl ⟨e,bA⟩
   ·obtain⟨o1,o2⟩:=w_.mp g3
    exact .inr ⟨g,g1,g2,o1,by rw[o2];exact bA⟩
  ·rw[ah h]
   exact⟨z1,z2,z3,z4⟩
 ·have agl:=G.pos f hf
  have aiG:((s.pax.map λq=>if q.on=0 then{q with on:=cU s q.x}else q).filter λq=>q.on==f.num).length<=(s.pax.filter λq=>q.on==f.num).length+(s.pax.filter λq=>(q.on==0)&&(cU s q.x==f.num)).length:=by
   have:∀l:List bj,((l.map λq=>if q.on=0 then{q with on:=cU s q.x}else q).filter λq=>q.on==f.num).length<=(l.filter λq=>q.on==f.num).length+(l.filter λq=>(q.on==0)&&(cU s q.x==f.num)).length:=λl=>by induction l with
    |nil=>exact fb _|cons a l ih=>
     rw[cV,bX,bX,bX];by_cases h0:a.on=0
     ·rw[aj h0]
      have h1:(a.on==0)=true:=by rw[h0];rfl
      show(if(cU s a.x==f.num)=true then _ else _:List bj).length<=_;rw[h1,Oc];by_cases h2:(cU s a.x==f.num)=true
      ·rw[aj h2,aj h2,dJ,dJ]
       split
       ·rw[dJ];lia
       ·lia
      ·rw[ah h2,ah h2]
       split
       ·rw[dJ];lia
       ·exact ih
     ·rw[ah h0]
      have h1:(a.on==0)=false:=by simpa using h0
      rw[h1,E4];by_cases h2:(a.on==f.num)=true
      ·rw[aj h2,aj h2,dJ,dJ]
       show _<=_+1+(l.filter λq=>(q.on==0)&&(cU s q.x==f.num)).length;lia
      ·rw[ah h2,ah h2]
       exact ih
   exact this s.pax
  by_cases MU:bV f=true
  ·have hn:((s.pax.filter λq=>(q.on==0)&&(cU s q.x==f.num)).map λq=>q.x).Nodup:=G.pn.sublist (ia _ gd)
   have h1:=cQ.n6 hn (m:=dM (ml (rooms s) ((dA s).map (fA s))) f.num) λx hx=>by
    obtain⟨q,hq,rfl⟩:=aB.mp hx;obtain⟨q1,q2⟩:=ck.mp hq;rw[cJ]at q2;rcases wH q q1 (eq_of_beq q2.1)with e|⟨g,_,g2,_,g4⟩
    ·have:=eq_of_beq q2.2
     lia
    ·refine cQ.js.mpr ?_
     rw[g2,eq_of_beq q2.2]at g4;exact g4
   rw[aD]at h1;have h2:cQ.cnt (ml (rooms s) ((dA s).map (fA s))) f.num<=cp (rooms s) f.num:=Ny _ _ _;rw[Wy G.fl.nd hf MU]at h2;have h3:(dM (ml (rooms s) ((dA s).map (fA s))) f.num).length<=room s f:=h2;unfold room at h3;have h4:=G.room f hf;lia
  ·have h0:(s.pax.filter λq=>(q.on==0)&&(cU s q.x==f.num))=[]:=AG.mpr λq hq z=>by
    rw[cJ]at z;rcases wH q hq (eq_of_beq z.1)with e|⟨g,g1,g2,g3,_⟩
    ·have:=eq_of_beq z.2
     lia
    ·rw[eq_of_beq z.2]at g2
     rw[ja G.fl.nd g1 hf g2]at g3;exact MU g3
   rw[h0]at aiG;have h4:=G.room f hf;have:([]:List bj).length=0:=rfl;lia
theorem aiH(G:Good s){l:List (Nat×Nat)}(hl:l.length<=8):Good (step s (.steps l)).1:=by
 refine EO (p:=λr:State×List Int=>Good r.1) (λ_=>?_) λ_=>G
 exact⟨G.fl,G.pos,G.oth,G.feeds,G.pn,G.pl,λq hq=>⟨(G.px q hq).pos,(G.px q hq).on,(G.px q hq).rn,(G.px q hq).rl⟩,G.room,G.line,hl⟩
theorem aiI(s:State)(c:oX)(G:Good s)(hc:Ap c):Good (step s c).1:=by cases c with
 |flight f=>exact ais G hc|late n v=>exact ait G n v|air n e=>exact aiu G n e|feed n m a b=>exact aiv G n m a b|unfeed n m=>exact aiw G n m|times n=>exact kY G λf _ _=>fH G λ_=>G|why n=>exact kY G λf _ _=>fH G λ_=>G|table=>exact G|cancel n=>exact aix G n|swap n m=>exact aiy G n m|best=>exact G|clock n=>exact aiA G n|book x rank n ready latest=>exact aiB G hc|drop x=>exact aiC G x|miss x=>exact aiD G x|refuse x n fl=>exact aiE G x n fl|whereIs x=>exact xa G λq _ _=>G|wishes x=>exact xa G λq _ _=>fH G λ_=>G|rebook=>exact aiF G|could xs=>
  show Good (match oW s xs with|some e=>(s,[e])|none=>(s,[0,if fits (rooms s) ((xs.filterMap (eO s)).map (fA s))=true then 1 else 0])).1
  cases oW s xs with
  |none=>exact G|some e=>exact G
 |steps l=>exact aiH G hc|claim x=>
  refine xa G λq _ _=>?_
  cases flight s q.on with
  |none=>exact G|some f=>exact fH G λ_=>G
 |load n=>exact kY G λf _ _=>G
theorem Xw(l:List aw)(ts:List Time):∀(k n:Nat),(why l ts k n).length<=k|0,n=>fb _|k+1,n=>by unfold why;cases eM l n with|none=>exact fb _|some f=>simp only;cases cause l ts f with|none=>show 1<=k+1;lia|some g=>have:=Xw l ts k g;show(why l ts k g).length+1<=k+1;lia
theorem Xx(h:Nat):∀l:List aw,(through h l).length<=l.length
 |[]=>bM _|a::l=>by
  unfold through;split
  ·show 1<=l.length+1;lia
  ·have:=Xx h l
   show(through h l).length+1<=l.length+1;lia
theorem Ay(l:List Nat):(Vbahaj.ints l).length=l.length:=aD ..
theorem Nz(now:Nat)(l:List aw):(times now l).length<=l.length:=by have:=eW k6 (iN now l);rw[aD,aD]at this;rw[this];exact g9 l
theorem NA{α:Type}(g:α->List Int)(hg:∀a,(g a).length=k):∀l:List α,(l.flatMap g).length=k*l.length|[]=>by simp|a::l=>by rw[uL,eL,hg,NA g hg l,dJ,Nat.mul_succ];lia
theorem aiJ(s:State)(c:oX)(G:Good s):(step s c).2.length<=200:=by
 have hl:=G.fl.len
 have hp:=G.pl
 have one:∀(s:State)(e:Int),((s,[e]):State×List Int).2.length<=200:=λs e=>by show 1<=200;decide
 cases c with
 |flight f=>refine eK λ_=>eK λ_=>eK λ_=>one _ _|late n v=>exact kZ λf _ _=>eK λ_=>by show 2<=200;decide|air n e=>exact kZ λf _ _=>eK λ_=>eK λ_=>by show 2<=200;decide|feed n m a b=>exact kZ λf _ _=>kZ λg _ _=>eK λ_=>eK λ_=>eK λ_=>eK λ_=>by show 2<=200;decide|unfeed n m=>exact kZ λf _ _=>eK λ_=>eK λ_=>by show 2<=200;decide|times n=>exact kZ λf _ _=>eK λ_=>by show 4<=200;decide|why n=>
  exact kZ λf _ _=>eK λ_=>by
   show(Vbahaj.ints _).length+1<=200
   rw[Ay]
   have:=Xw s.flights (timesOf s) (s.flights.length+1) n
   lia|table=>
  show((timesOf s).flatMap λt=>[(t.num:Int),(t.leave:Int),(t.arrive:Int)]).length+1<=200
  rw[NA (k:=3) _ (λ_=>rfl)]
  have h:=Nz s.now s.flights
  have:(timesOf s).length=(times s.now s.flights).length:=rfl
  lia|cancel n=>
  exact kZ λf _ _=>eK λ_=>by
   show(Vbahaj.ints (eN s.flights f)).length+1<=200
   rw[Ay]
   unfold eN
   rw[aD]
   have h1:=Xx f.src (bU s.flights f)
   have h2:=Vk s.flights f
   lia|swap n m=>exact kZ λf _ _=>kZ λg _ _=>eK λ_=>eK λ_=>by show 2<=200;decide|best=>
  show(match bestSwap s with|none=>([0]:List Int)|some y=>[0,(y.2.1.num:Int),(y.2.2.num:Int),(y.1:Int)]).length<=200
  cases bestSwap s with
  |none=>show 1<=200;decide|some y=>show 4<=200;decide
 |clock n=>
  refine eK λ_=>?_
  show(Vbahaj.ints ((leaving s n).map λt=>t.num)).length+1<=200
  rw[Ay,aD,zW,(ju _ _).length_eq]
  have h1:=e_ (eJ s n) (times s.now s.flights)
  have h2:=Nz s.now s.flights
  lia|book x rank n ready latest=>exact kZ λf _ _=>eK λ_=>eK λ_=>eK λ_=>eK λ_=>by show 2<=200;decide|drop x=>exact xb λq _ _=>eK λ_=>one _ _|miss x=>exact xb λq _ _=>eK λ_=>one _ _|refuse x n fl=>exact xb λq _ _=>kZ λ_ _ _=>eK λ_=>eK λ_=>eK λ_=>eK λ_=>one _ _|whereIs x=>exact xb λq _ _=>by show 3<=200;decide|wishes x=>
  exact xb λq _ _=>eK λ_=>by
   show(Vbahaj.ints (wishes s q)).length+1<=200
   rw[Ay,Dv,aD,(ju _ _).length_eq]
   have h1:=e_ (m3 s.flights q) (times s.now s.flights)
   have h2:=Nz s.now s.flights
   lia|rebook=>
  rw[MK]
  show((dA s).flatMap λq=>[(q.x:Int),(cU s q.x:Int)]).length+1<=200
  rw[NA (k:=2) _ (λ_=>rfl)]
  have:=str_len G
  lia|could xs=>
  show(match oW s xs with|some e=>(s,[e])|none=>(s,[0,if fits (rooms s) ((xs.filterMap (eO s)).map (fA s))=true then 1 else 0])).2.length<=200
  cases oW s xs with
  |none=>show 2<=200;decide|some e=>exact one _ _
 |steps l=>
  show(if rising l=true then(({s with steps:=l}:State),([0]:List Int))else(s,[-8])).2.length<=200
  exact eK λ_=>one _ _|claim x=>
  refine xb λq _ _=>?_
  cases flight s q.on with
  |none=>exact one _ _|some f=>exact eK λ_=>by show 3<=200;decide
 |load n=>
  exact kZ λf _ _=>by
   show(Vbahaj.ints _).length+1+1<=200
   rw[Ay,aD,(jZ _).length_eq]
   have h1:=e_ (λq:bj=>q.on==n) s.pax
   lia
end
end WD
namespace WD
open PySem PySem.Spec PyProof.Rows L2 Vbahaj
variable{P:bR}{w:bI}{K:aG}{mg:ai->Option ag}{base:bg}{A:Ad}{f:af}{fd:eB}
def l5(K:aG)(a:af):Option (List ag):=match K.lookup a with|some o=>(match o.cls with|.type t=>if t="tuple" then(match o.data with|.seq its _=>some its.toList|_=>none)else none|_=>none)|none=>none
theorem Xy(h:l5 K a=some vs):∃(o:bx)(its:Array ag)(n:Nat),K.lookup a=some o/\o.cls=.type "tuple"/\o.data=.seq its n/\its.toList=vs:=by unfold l5 at h;cases e:K.lookup a with
 |none=>rw[e]at h;cases h|some o=>
  rw[e]at h;simp only at h;split at h
  ·rename_i t ht
   split at h
   ·rename_i kO
    split at h
    ·rename_i its n hd
     exact⟨o,its,n,rfl,by rw[ht,kO],hd,cM.inj h⟩
    ·cases h
   ·cases h
  ·cases h
def l7:List ag->Option (List af)|[]=>some []|.ref a::r=>(match l7 r with|some l=>some (a::l)|none=>none)|_=>none
theorem Xz:∀{vs:List ag}{as:List af},l7 vs=some as->Vals (as.map V.ref) vs
 |[],as,h=>by cases h;exact .nil|v::r,as,h=>by
  unfold l7 at h;split at h
  ·rename_i heq;cases heq
  ·rename_i a r' heq
   cases heq;split at h
   ·rename_i l hl
    cases h;exact .cons rfl (Xz hl)
   ·cases h
  ·cases h
theorem ER(h:(l5 K a).bind l7=some as)(hl:as.length<=1000)(H:Hp):cW K H a (as.map V.ref):=by
 obtain⟨vs,h1,h2⟩:=Option.bind_eq_some_iff.mp h;obtain⟨o,its,n,z1,z2,z3,z4⟩:=Xy h1;have hv:=Xz h2;refine .inr ⟨o,its,n,z1,z2,z3,?_,by rw[z4];exact hv⟩;have h3:=hv.length;rw[<-z4,aD]at h3;have:1000<=aS:=by decide
 have h4:its.toList.length=its.size:=sf;lia
def Az(K:aG)(a:af)(b:Int×Int):Bool:=match l5 K a with|some [.int x _,.int y _]=>decide (x=b.1)&&decide (y=b.2)|_=>false
theorem NB(h:Az K a b=true):Am K a b:=by
 unfold Az at h;split at h
 ·rename_i x t y u e
  rw[cJ,h9,h9]at h;obtain⟨o,its,n,z1,z2,z3,z4⟩:=Xy e;intro H;refine .inr ⟨o,its,n,z1,z2,z3,?_,?_⟩
  ·have h4:its.toList.length=its.size:=sf
   rw[z4]at h4;have h4:2=its.size:=h4;have:1000<=aS:=by decide
   lia
  ·rw[z4,<-h.1,<-h.2]
   exact .cons ⟨_,rfl⟩ (.cons ⟨_,rfl⟩ .nil)
 ·cases h
def AA(K:aG)(a:af)(bs:List (Int×Int)):Bool:=match(l5 K a).bind l7 with|some as=>decide (as.length=bs.length)&&(decide (as.length<=1000)&&(as.zip bs).all λp=>Az K p.1 p.2)|none=>false
theorem NC{α β:Type}:∀{as:List α}{bs:List β}{i:Nat}{b:β},as.length=bs.length->bs[i]? =some b->∃a,as[i]? =some a/\(a,b)∈as.zip bs|[],[],i,b,_,h=>by simp at h|[],_::_,i,b,h,_=>by cases h|_::_,[],i,b,h,_=>by cases h|a::as,c::bs,0,b,_,h=>by cases h;exact⟨a,rfl,cK ..⟩|a::as,c::bs,i+1,b,hl,h=>by obtain⟨x,h1,h2⟩:=NC (as:=as) (bs:=bs) (i:=i) (b:=b) (by simpa using hl) h;exact⟨x,h1,b8 _ h2⟩
theorem ND(h:AA K a bs=true):An K a bs:=by unfold AA at h;cases e:(l5 K a).bind l7 with|none=>rw[e]at h;cases h|some as=>rw[e]at h;simp only[cJ,h9]at h;refine⟨as,ER e h.2.1,h.1,λi b hb=>?_⟩;obtain⟨x,h1,h2⟩:=NC h.1 hb;exact⟨x,h1,NB (qp.mp h.2.2 _ h2)⟩
def NF(K:aG)(a:af)(t:List (List (Int×Int))):Bool:=match(l5 K a).bind l7 with|some as=>decide (as.length=t.length)&&(decide (as.length<=1000)&&(as.zip t).all λp=>AA K p.1 p.2)|none=>false
theorem aiK(h:NF K a t=true):WR K a t:=by unfold NF at h;cases e:(l5 K a).bind l7 with|none=>rw[e]at h;cases h|some as=>rw[e]at h;simp only[cJ,h9]at h;refine⟨as,ER e h.2.1,h.1,λi b hb=>?_⟩;obtain⟨x,h1,h2⟩:=NC h.1 hb;exact⟨x,h1,ND (qp.mp h.2.2 _ h2)⟩
abbrev XA(K:aG)(a x y:af):Prop:=∃(t1 t2:jB)(ep:Nat),K.lookup a=some ⟨.type "dict",none,.dict #[⟨19,.int 19 t1,.ref x⟩,⟨20,.int 20 t2,.ref y⟩] ep,#[]⟩
theorem XB(h:XA K a x y)(hs:(a==iB)=false):GD P w K a [(ay 19,V.ref x),(ay 20,V.ref y)]:=by
 obtain⟨t1,t2,ep,h⟩:=h;refine⟨hs,_,[(ay 19,.ref x),(ay 20,.ref y)],h,⟨_,ep,⟨rfl,rfl,rfl⟩,rfl,λe he=>?_,?_,by show([ay 19,ay 20]:List Key).Nodup;decide⟩,.cons ⟨rfl,rfl⟩ (.cons ⟨rfl,rfl⟩ .nil)⟩
 ·have he:e∈[(⟨19,.int 19 t1,.ref x⟩:nH),⟨20,.int 20 t2,.ref y⟩]:=by simpa using he
  rcases b9.mp he with rfl|he
  ·exact⟨ay 19,ya 19 t1,by show(19:Int)=hashInt 19;decide⟩
  ·rw[cj.mp he]
   exact⟨ay 20,ya 20 t2,by show(20:Int)=hashInt 20;decide⟩
 ·exact .cons (ya 19 t1) rfl (.cons (ya 20 t2) rfl .nil)
def ES(K:aG)(x:ai):af:=match qz K fJ x with|some (some (.ref f))=>f|_=>0
theorem gb(h:qz K fJ x=some (some (.ref f))):ES K x=f:=by unfold ES;rw[h]
def qi(K:aG)(x:ai):Option af:=(qy K x).map λq=>q.2
def ET(K:aG)(x:ai)(c:af):Bool:=match qy K x with|some q=>decide (q.1=c)|none=>false
def aiL(K:aG):Bool:=decide ((["by_rank","wishes_of","find_best","move_clock"]:List ai).map (qi K)).Nodup
theorem aiM(h:ET K x c=true):∃P,qy K x=some (c,P)/\qi K x=some P:=by unfold ET at h;cases e:qy K x with|none=>rw[e]at h;cases h|some q=>rw[e]at h;have h:q.1=c:=nj h;obtain⟨c',P⟩:=q;have h:c'=c:=h;subst h;exact⟨P,rfl,by unfold qi;rw[e];rfl⟩
abbrev uF(K:aG)(x:ai)(st:aV)(f c:af):Prop:=qz K fJ x=some (some (.ref f))/\(∃(oc:ag)(od:Option af)(kV doc pm:ag)(an:Option af)(ct:ag)(fL:Array (Option ag)),K.lookup f=some ⟨oc,od,.func (k_ x x (nW st) (iG st) (bb st) .none kV doc pm an (.ref c) ct),fL⟩)/\qx K (.ref c) x=true/\jf K (.ref f)=true
abbrev xc(K:aG)(C:af)(m q:ai)(st:aV)(f c:af):Prop:=k9 K (.ref C) m=some (some (.ref f))/\xV K (.ref f)=true/\(∃(oc:ag)(od:Option af)(kV doc pm:ag)(an:Option af)(ct:ag)(fL:Array (Option ag)),K.lookup f=some ⟨oc,od,.func (k_ m q (nW st) (iG st) (bb st) .none kV doc pm an (.ref c) ct),fL⟩)/\qx K (.ref c) q=true/\jf K (.ref f)=true
abbrev uG(K:aG)(x:ai)(C:af):Prop:=qz K fJ x=some (some (.ref C))/\xU K C P5=true/\Bp K C=true/\Gk K C=true/\k9 K (.ref C) "__setattr__"=some (some (.builtin "object.__setattr__"))/\Gn K C=true/\jf K (.ref C)=true
section
variable{P:bR}{w:bI}{K:aG}{mg:ai->Option ag}{base:bg}
theorem uF.fn{x:ai}{st:aV}{f c:af}(h:uF K x st f c):∃fd,bh K x x st f fd/\fd.code=.ref c:=by obtain⟨_,⟨oc,od,kV,doc,pm,an,ct,fL,l⟩,h3,h4⟩:=h;exact⟨_,RN l h3 h4,rfl⟩
theorem xc.fn{C:af}{m q:ai}{st:aV}{f c:af}(h:xc K C m q st f c):∃fd,bh K m q st f fd:=by obtain⟨_,_,⟨oc,od,kV,doc,pm,an,ct,fL,l⟩,h3,h4⟩:=h;exact⟨_,RN l h3 h4⟩
theorem aiN{x:ai}{st:aV}{f c:af}{fd:eB}{k:Nat}{ps:List ai}{sp:Sp}{h:bg}(g:uF K x st f c)(X:K.In h)(G:h.Ns fJ mg)(F:aX P w K mg base bc k f fd ps sp)(b:Binds K fd ps []):L2.Glob P w K mg base x k ps sp:=⟨f,fd,F,oV X G g.1,g.2.2.2,b⟩
theorem aiO{C:af}{m q:ai}{st:aV}{f c:af}{fd:eB}{k:Nat}{ps:List ai}{sp:Sp}(g:xc K C m q st f c)(F:aX P w K mg base bc k f fd ps sp)(b:Binds K fd ps []):dm P w K mg base C m k ps sp:=⟨f,fd,F,⟨g.1,g.2.1,g.2.2.2.2⟩,b⟩
theorem aiP{x:ai}{C:af}{q:ai}{st:aV}{f c:af}{fd:eB}{k:Nat}{ps:List ai}{sp:Sp}{h:bg}(gc:uG K x C)(g:xc K C "__init__" q st f c)(X:K.In h)(G:h.Ns fJ mg)(F:aX P w K mg base bc k f fd ps sp)(b:Binds K fd ps []):pF P w K mg base C x k ps sp:=⟨f,fd,F,⟨gc.2.2.2.2.2.1,g.1,g.2.1,gc.2.2.2.2.2.2⟩,oV X G gc.1,b⟩
end
abbrev GF(K:aG)(x:ai)(s:aV):Prop:=∃f c,uF K x s f c
abbrev MF(K:aG)(C:af)(m q:ai)(s:aV):Prop:=∃f c,xc K C m q s f c
abbrev LF(K:aG)(x:ai)(s:aV):Prop:=∃f c,uF K x s f c/\ET K x c=true
abbrev GN(K:aG)(x:ai)(v:Option ag):Prop:=qz K fJ x=some v
abbrev GI(K:aG)(x:ai)(v:Int):Prop:=∃t,GN K x (some (.int v t))
abbrev DI(K:aG)(a:af)(p q:af->Bool):Prop:=∃x y,XA K a x y/\p x=true/\q y=true
abbrev xf:List ai:=["by_rank","wishes_of","find_best","move_clock"]
abbrev XC:List ai:=["make_flight","set_wait","set_air","add_feed","remove_feed","tell_times","tell_why","tell_table","cancel_flights","swap_aircraft","find_best","move_clock"]
abbrev XD:List ai:=["book_passenger","drop_passenger","miss_flight","refuse_flight","tell_where","tell_wishes","rebook_stranded","tell_could","set_steps","tell_claim","tell_load"]
structure FC(K:aG)(CF CH CP CS CE:af):Prop where
 cF:uG K "Flight" CF
 cH:uG K "House" CH
 cP:uG K "Passenger" CP
 cS:uG K "Stand" CS
 cE:uG K "Seating" CE
structure FI(K:aG)(aR aL aW aF aP:af):Prop where
 aiQ:GN K "len" none
 aiR:GN K "max" none
 aiS:GN K "sum" none
 aiT:GN K "all" none
 aiU:GN K "dict" none
 aiV:GN K "set" none
 aiW:GN K "sorted" none
 aiX:GN K "enumerate" none
 aiY:GN K "zip" none
 aiZ:GN K "range" none
 CL:GN K "RANGES" (some (.ref aR))
 yZ:GN K "ROW_LENGTHS" (some (.ref aL))
 IZ:GN K "ROW_RANGES" (some (.ref aW))
 y_:GN K "FLIGHT_CALLS" (some (.ref aF))
 I0:GN K "PASSENGER_CALLS" (some (.ref aP))
structure FT(K:aG):Prop where
 IT:GI K "OUT_OF_RANGE" (-2)
 kH:GI K "NO_FLIGHT" (-3)
 pG:GI K "NO_PASSENGER" (-4)
 yY:GI K "THERE_ALREADY" (-5)
 vF:GI K "FULL" (-6)
 ir:GI K "NOT_AS_IT_MUST_BE" (-7)
 n9:GI K "DOES_NOT_FIT" (-8)
 IU:GI K "NO_ROOM" (-9)
 IV:GI K "MOST_FLIGHTS" 24
 IW:GI K "MOST_FEEDS" 8
 IX:GI K "MOST_PASSENGERS" 60
 IY:GI K "MOST_UNWANTED" 8
structure FM(K:aG)(CF CH CP CS CE:af):Prop where
 XE:MF K CF "is_open" "Flight.is_open" I_
 XF:MF K CF "planned_minutes" "Flight.planned_minutes" Ja
 XG:MF K CS "__init__" "Stand.__init__" Jk
 XH:MF K CH "flying" "House.flying" Jy
 XI:MF K CP "is_stranded" "Passenger.is_stranded" Kk
 XJ:MF K CP "is_on" "Passenger.is_on" Kl
 XM:MF K CP "has_flown" "Passenger.has_flown" Km
 XN:MF K CF "__init__" "Flight.__init__" K1
 XO:MF K CP "__init__" "Passenger.__init__" Lc
 XQ:MF K CE "__init__" "Seating.__init__" LP
 XR:MF K CE "seated_on" "Seating.seated_on" LS
 XS:MF K CE "movable" "Seating.movable" LX
 XT:MF K CE "find_free" "Seating.find_free" L4
 XU:MF K CE "seat" "Seating.seat" Mc
 XW:MF K CE "displace" "Seating.displace" Mi
 XX:MF K CE "settle" "Seating.settle" Mj
 XY:MF K CH "__init__" "House.__init__" Nd
structure FL(K:aG):Prop where
 XZ:LF K "by_rank" Dk
 X0:LF K "wishes_of" Dx
 NG:LF K "move_clock" DR
 NH:LF K "find_best" DZ
structure FG(K:aG):Prop where
 X1:GF K "order" Jc
 X2:GF K "flown_before" Je
 X3:GF K "stand_of" Jn
 X4:GF K "stands_of" JA
 X5:GF K "house_stands" JH
 X6:GF K "has_arrived" JI
 X7:GF K "lateness" JJ
 X8:GF K "flown_by" JM
 X9:GF K "flown_from" JP
 X_:GF K "can_come" JR
 Ya:GF K "can_exchange" JS
 Yb:GF K "exchanged" JU
 NI:GF K "tell_times" J0
 NJ:GF K "tell_table" J1
 Yc:GF K "answer_leaves" J4
 NK:GF K "set_wait" J5
 NL:GF K "remove_feed" J6
 Yd:GF K "air_fits" J9
 NM:GF K "set_air" J_
 NN:GF K "add_feed" Kd
 Ye:GF K "passengers_on" Kn
 Yf:GF K "room_of" Kr
 Yg:GF K "is_wish" Ks
 NO:GF K "drop_passenger" KD
 NP:GF K "miss_flight" KG
 NQ:GF K "tell_where" KH
 NR:GF K "tell_wishes" KI
 NS:GF K "tell_load" KJ
 Yh:GF K "add_unwanted" KO
 NT:GF K "refuse_flight" KP
 Yi:GF K "amount_owed" KR
 NU:GF K "tell_claim" KS
 NV:GF K "set_steps" KW
 Yj:GF K "plan_fits" K2
 Yk:GF K "aircraft_can_come" K3
 NW:GF K "make_flight" K5
 NX:GF K "book_passenger" Le
 NY:GF K "tell_why" Lh
 NZ:GF K "swap_aircraft" Ll
 Yl:GF K "cancel_one" Lo
 N0:GF K "cancel_flights" Lr
 Ym:GF K "can_be_seated" Mq
 Yn:GF K "best_seating" Mx
 Yo:GF K "rooms_by_flight" MB
 Yp:GF K "wishes_by_passenger" ME
 N1:GF K "rebook_stranded" MM
 N2:GF K "tell_could" MX
 Yq:GF K "within" M0
 Yr:GF K "arguments_fit" M4
 Ys:GF K "row_fits" M6
 Yt:GF K "numbers_fit" M7
 Yu:GF K "answer_call" Nb
 Yv:GF K "answers" Nj
structure FK(K:aG)(aR aL aW aF aP:af):Prop where
 tabs:aiL K=true
 rg:NF K aR RG=true
 sl:(aL==iB)=false
 sw:(aW==iB)=false
 tF:((l5 K aF).bind l7==some (XC.map (ES K)))=true
 tP:((l5 K aP).bind l7==some (XD.map (ES K)))=true
structure FD(K:aG)(aL aW:af):Prop where
 dl:DI K aL (λx=>Az K x (1,60)) λy=>Az K y (0,16)
 dw:DI K aW (λx=>AA K x [(1,999999)]) λy=>AA K y [(0,100000),(0,1000000000)]
structure Facts(K:aG)(CF CH CP CS CE aR aL aW aF aP:af):Prop extends FC K CF CH CP CS CE,TxN K CF CH CP CS CE,FI K aR aL aW aF aP,FT K,FM K CF CH CP CS CE,FL K,FG K,FK K aR aL aW aF aP,FD K aL aW
def N3(K:aG):List (af×af):=xf.filterMap (qy K)
def Yw(K:aG)(tabs:List (af×af)):Sp:=λvs H Q _=>∃l ns,vs=[.ref l]/\aE K H l (ns.map V.int)/\(∀q∈tabs,H q.2=some (.c_ #[]))/\Gs ns=true/\∀H' p,H' p=some (.lst ((Bu ns).map V.int))->Q (.ref p) H'
section
variable{P:bR}{w:bI}{K:aG}{h:bg}{mg:ai->Option ag}{x:ai}{st:aV}{f:af}{fd:eB}
theorem GF.a(h:GF K x st):∃f c fd,uF K x st f c/\bh K x x st f fd:=let⟨f,c,g⟩:=h;let⟨d,F,_⟩:=g.fn;⟨f,c,d,g,F⟩
theorem MF.a(h:MF K C m q st):∃f c fd,xc K C m q st f c/\bh K m q st f fd:=let⟨f,c,g⟩:=h;let⟨d,F⟩:=g.fn;⟨f,c,d,g,F⟩
theorem LF.a(h:LF K x st):∃f c fd P,uF K x st f c/\bh K x x st f fd/\fd.code=.ref c/\qy K x=some (c,P)/\qi K x=some P:=let⟨f,c,g,u⟩:=h;let⟨d,F,e⟩:=g.fn;let⟨P,t⟩:=aiM u;⟨f,c,d,P,g,F,e,t⟩
theorem GI.i(z:qz K fJ x=some (some (.int v t))):GI K x v:=⟨t,z⟩
theorem GF.i{c:af}{oc:ag}{od:Option af}{kV doc pm:ag}{an:Option af}{ct:ag}{fL:Array (Option ag)}(z1:qz K fJ x=some (some (.ref f)))(z2:K.lookup f=some ⟨oc,od,.func (k_ x x (nW st) (iG st) (bb st) .none kV doc pm an (.ref c) ct),fL⟩)(z3:qx K (.ref c) x=true)(z4:jf K (.ref f)=true):GF K x st:=⟨f,c,z1,⟨oc,od,kV,doc,pm,an,ct,fL,z2⟩,z3,z4⟩
theorem LF.i{c:af}{oc:ag}{od:Option af}{kV doc pm:ag}{an:Option af}{ct:ag}{fL:Array (Option ag)}(z1:qz K fJ x=some (some (.ref f)))(z2:K.lookup f=some ⟨oc,od,.func (k_ x x (nW st) (iG st) (bb st) .none kV doc pm an (.ref c) ct),fL⟩)(z3:qx K (.ref c) x=true)(z4:jf K (.ref f)=true)(z5:ET K x c=true):LF K x st:=⟨f,c,⟨z1,⟨oc,od,kV,doc,pm,an,ct,fL,z2⟩,z3,z4⟩,z5⟩
theorem MF.i{C c:af}{m q:ai}{oc:ag}{od:Option af}{kV doc pm:ag}{an:Option af}{ct:ag}{fL:Array (Option ag)}(z1:k9 K (.ref C) m=some (some (.ref f)))(z2:xV K (.ref f)=true)(z3:K.lookup f=some ⟨oc,od,.func (k_ m q (nW st) (iG st) (bb st) .none kV doc pm an (.ref c) ct),fL⟩)(z4:qx K (.ref c) q=true)(z5:jf K (.ref f)=true):MF K C m q st:=⟨f,c,z1,z2,⟨oc,od,kV,doc,pm,an,ct,fL,z3⟩,z4,z5⟩
theorem DI.i{a x y:af}{p q:af->Bool}{t1 t2:jB}{ep:Nat}(z1:K.lookup a=some ⟨.type "dict",none,.dict #[⟨19,.int 19 t1,.ref x⟩,⟨20,.int 20 t2,.ref y⟩] ep,#[]⟩)(z2:p x=true)(z3:q y=true):DI K a p q:=⟨x,y,⟨t1,t2,ep,z1⟩,z2,z3⟩
theorem l8(X:K.In h)(G:h.Ns fJ mg)(e:GI K x v):∃t,mg x=some (.int v t):=let⟨t,e⟩:=e;⟨t,oV X G e⟩
theorem AB(e:uG K x C):gN K C:=⟨e.2.1,e.2.2.1,e.2.2.2.1,e.2.2.2.2.1⟩
theorem EU(h:us.length=n+1):∃a t,us=a::t/\t.length=n:=by cases us with|nil=>cases h|cons a t=>exact⟨a,t,rfl,OM.inj h⟩
theorem Yx(h:us.length=1):∃a,us=[a]:=by obtain⟨a,t,rfl,z⟩:=EU h;exact⟨a,by rw[uJ.mp z]⟩
theorem Yy(h:us.length=2):∃a b,us=[a,b]:=by obtain⟨a,t,rfl,z⟩:=EU h;obtain⟨b,rfl⟩:=Yx z;exact⟨a,b,rfl⟩
theorem Yz(h:us.length=3):∃a b c,us=[a,b,c]:=by obtain⟨a,t,rfl,z⟩:=EU h;obtain⟨b,c,rfl⟩:=Yy z;exact⟨a,b,c,rfl⟩
theorem ai0(h:us.length=4):∃a b c d,us=[a,b,c,d]:=by obtain⟨a,t,rfl,z⟩:=EU h;obtain⟨b,c,d,rfl⟩:=Yz z;exact⟨a,b,c,d,rfl⟩
theorem bd(F:bh K x qual st f fd)(h:∀(kV doc pm:ag)(an:Option af)(dc ct:ag)(us:List ag),us.length=ps.length->xN (k_ x qual (nW st) (iG st) (bb st) .none kV doc pm an dc ct) ⟨us,[]⟩=pure (ps.zip us):=by
  intro _ _ _ _ _ _ us hl
  first|(obtain⟨a,rfl⟩:=Yx hl;rfl)|(obtain⟨a,b,rfl⟩:=Yy hl;rfl)|(obtain⟨a,b,c,rfl⟩:=Yz hl;rfl)|(obtain⟨a,b,c,d,rfl⟩:=ai0 hl;rfl)|(obtain⟨a,b,c,d,e,rfl⟩:=akr hl;rfl)):Binds K fd ps []:=F.binds h
def amL(P:bR)(w:bI)(K:aG)(mg:ai->Option ag)(fa:af):Prop:=∃(fd:eB)(tabs:List (af×af)),(∀c P,(c,P)∈tabs->∃x∈xf,qy K x=some (c,P))/\(∀(s:aA)(us:List ag),us.length=(["calls"]:List ai).length->xO s fd ⟨us,[]⟩ ((["calls"]:List ai).zip us))/\∀base:bg,K.In base->base.Ns fJ mg->lK mg base->(∀q∈tabs,jD base q.1 q.2)->aX P w K mg base bc 11 fa fd ["calls"] (Yw K tabs)
theorem all_mk{fa CF CH CP CS CE aR aL aW aF aP:af}(X:K.In h)(G:h.Ns fJ mg)(ue:mg "answers"=some (.ref fa))(Z:Facts K CF CH CP CS CE aR aL aW aF aP):amL P w K mg fa:=by
 obtain⟨XE,aks,akt,ai1,YA⟩:=Z.XE.a;obtain⟨XF,aku,akv,ai2,YB⟩:=Z.XF.a;obtain⟨X1,akw,akx,ai3,YC⟩:=Z.X1.a;obtain⟨X2,aky,akz,ai4,YD⟩:=Z.X2.a;obtain⟨XG,akA,akB,ai5,YE⟩:=Z.XG.a;obtain⟨X3,akC,akD,ai6,YF⟩:=Z.X3.a;obtain⟨XH,akE,akF,ai7,YG⟩:=Z.XH.a;obtain⟨X4,akG,akH,ai8,YH⟩:=Z.X4.a;obtain⟨X5,akI,akJ,ai9,YI⟩:=Z.X5.a;obtain⟨X6,akK,akL,aja,YJ⟩:=Z.X6.a;obtain⟨X7,akM,akN,ajb,YK⟩:=Z.X7.a;obtain⟨X8,akO,akP,ajc,YL⟩:=Z.X8.a;obtain⟨X9,akQ,akR,ajd,YM⟩:=Z.X9.a;obtain⟨X_,akS,akT,aje,YN⟩:=Z.X_.a;obtain⟨Ya,akU,akV,ajf,YO⟩:=Z.Ya.a;obtain⟨Yb,akW,akX,ajg,YQ⟩:=Z.Yb.a;obtain⟨NI,akY,akZ,YR,YS⟩:=Z.NI.a;obtain⟨NJ,ak0,ak1,YT,YU⟩:=Z.NJ.a;obtain⟨Yc,ak2,ak3,ajh,YV⟩:=Z.Yc.a;obtain⟨NK,ak4,ak5,YW,YX⟩:=Z.NK.a;obtain⟨NL,ak6,ak7,YY,YZ⟩:=Z.NL.a;obtain⟨Yd,ak8,ak9,aji,Y0⟩:=Z.Yd.a;obtain⟨NM,ala,alb,Y1,Y2⟩:=Z.NM.a;obtain⟨NN,alc,ald,Y3,Y4⟩:=Z.NN.a;obtain⟨XZ,EV,ajj,P1,ajk,Y5,ajl,ajm,ajn⟩:=Z.XZ.a;obtain⟨XI,ale,alf,ajo,Y6⟩:=Z.XI.a;obtain⟨XJ,alg,alh,ajp,Y7⟩:=Z.XJ.a;obtain⟨XM,ali,alj,ajq,Y8⟩:=Z.XM.a;obtain⟨Ye,alk,alm,ajr,Y9⟩:=Z.Ye.a;obtain⟨Yf,aln,alo,ajs,Y_⟩:=Z.Yf.a;obtain⟨Yg,alp,alq,ajt,Za⟩:=Z.Yg.a;obtain⟨X0,EW,aju,P2,ajv,Zb,ajw,ajx,ajy⟩:=Z.X0.a;obtain⟨NO,alr,als,Zc,Zd⟩:=Z.NO.a;obtain⟨NP,alu,alv,Ze,Zf⟩:=Z.NP.a;obtain⟨NQ,alw,alx,Zg,Zh⟩:=Z.NQ.a;obtain⟨NR,aly,alz,Zi,Zj⟩:=Z.NR.a;obtain⟨NS,alA,alB,Zk,Zl⟩:=Z.NS.a;obtain⟨Yh,alC,alD,ajz,Zm⟩:=Z.Yh.a;obtain⟨NT,alE,alF,Zn,Zo⟩:=Z.NT.a;obtain⟨Yi,alG,alH,ajA,Zp⟩:=Z.Yi.a;obtain⟨NU,alI,alJ,Zq,Zr⟩:=Z.NU.a;obtain⟨NV,alK,alL,Zs,Zt⟩:=Z.NV.a;obtain⟨XN,alM,alN,ajB,Zu⟩:=Z.XN.a;obtain⟨Yj,alO,alP,ajC,Zv⟩:=Z.Yj.a;obtain⟨Yk,alQ,alR,ajD,Zw⟩:=Z.Yk.a;obtain⟨NW,alS,alT,Zx,Zy⟩:=Z.NW.a;obtain⟨XO,alU,alV,ajE,Zz⟩:=Z.XO.a;obtain⟨NX,alW,alX,ZA,ZC⟩:=Z.NX.a;obtain⟨NY,alY,alZ,ZD,ZE⟩:=Z.NY.a;obtain⟨NZ,al0,al1,ZF,ZG⟩:=Z.NZ.a;obtain⟨Yl,al2,al3,ajF,ZH⟩:=Z.Yl.a;obtain⟨N0,al4,al5,ZI,ZJ⟩:=Z.N0.a;obtain⟨NG,EX,ajG,P4,ZK,ZL,ajH,ajI,ajJ⟩:=Z.NG.a;obtain⟨NH,EY,ajK,P3,ZM,ZN,ajL,ajM,ajN⟩:=Z.NH.a;obtain⟨XQ,al6,al7,ajO,ZO⟩:=Z.XQ.a;obtain⟨XR,al8,al9,ajP,ZP⟩:=Z.XR.a;obtain⟨XS,ama,amb,ajQ,ZQ⟩:=Z.XS.a;obtain⟨XT,amc,amd,ajR,ZR⟩:=Z.XT.a;obtain⟨XU,ame,amf,ajS,ZS⟩:=Z.XU.a;obtain⟨XW,amg,amh,ajT,ZT⟩:=Z.XW.a;obtain⟨XX,ami,amj,ajU,ZU⟩:=Z.XX.a;obtain⟨Ym,amk,aml,ajV,ZV⟩:=Z.Ym.a;obtain⟨Yn,amm,amn,ajW,ZW⟩:=Z.Yn.a;obtain⟨Yo,amo,amq,ajX,ZX⟩:=Z.Yo.a;obtain⟨Yp,amr,ams,ajY,ZY⟩:=Z.Yp.a;obtain⟨N1,amt,amu,ZZ,Z0⟩:=Z.N1.a;obtain⟨N2,amv,amw,Z1,Z2⟩:=Z.N2.a;obtain⟨Yq,amx,amy,ajZ,Z3⟩:=Z.Yq.a;obtain⟨Yr,amz,amA,aj0,Z4⟩:=Z.Yr.a;obtain⟨Ys,amB,amC,aj1,Z5⟩:=Z.Ys.a;obtain⟨Yt,amD,amE,aj2,Z6⟩:=Z.Yt.a;obtain⟨Yu,amF,amG,aj3,Z7⟩:=Z.Yu.a;obtain⟨XY,amH,amI,aj4,Z8⟩:=Z.XY.a;obtain⟨Yv,amJ,aj5,aj6,Z9⟩:=Z.Yv.a;have gy:([some P1,some P2,some P3,some P4]:List (Option af)).Nodup:=by have:=nj Z.tabs;rw[show xf.map (qi K)=[qi K "by_rank",qi K "wishes_of",qi K "find_best",qi K "move_clock"]from rfl,ajn,ajy,ajN,ajJ]at this;exact this
 have lX:P1≠P2/\P1≠P3/\P1≠P4/\P2≠P3/\P2≠P4/\P3≠P4:=by simpa[and_assoc]using gy
 have oq:N3 K=[(EV,P1),(EW,P2),(EY,P3),(EX,P4)]:=by unfold N3;simp only[xf,qk,Ov,ajm,ajx,ajM,ajI]
 let A:Ad:=⟨CF,CH,CP,CS,CE,P1,P2,P3,P4,aR,aL,aW,aF,aP⟩
 have T:Txt K mg A:=⟨Z.toTxN,AB Z.cF,AB Z.cH,AB Z.cP,AB Z.cS,AB Z.cE,nK X G Z.aiQ,nK X G Z.aiR,nK X G Z.aiS,nK X G Z.aiT,nK X G Z.aiU,nK X G Z.aiV,nK X G Z.aiW,nK X G Z.aiX,nK X G Z.aiY,nK X G Z.aiZ,l8 X G Z.IT,l8 X G Z.kH,l8 X G Z.pG,l8 X G Z.yY,l8 X G Z.vF,l8 X G Z.ir,l8 X G Z.n9,l8 X G Z.IU,l8 X G Z.IV,l8 X G Z.IW,l8 X G Z.IX,l8 X G Z.IY,oV X G Z.CL,oV X G Z.yZ,oV X G Z.IZ,oV X G Z.y_,oV X G Z.I0,lX⟩;have D:Dat P w K A:=⟨aiK Z.rg,let⟨x,y,h1,h2,h3⟩:=Z.dl;⟨x,y,XB h1 Z.sl,NB h2,NB h3⟩,let⟨x,y,h1,h2,h3⟩:=Z.dw;⟨x,y,XB h1 Z.sw,ND h2,ND h3⟩⟩;have p6:=ue.symm.trans (oV X G aj6.1);cases p6
 delta amL
 refine⟨aj5,N3 K,λc P hm=>?_,λs us hu=>?_,λbase hK yO hB hC=>?_⟩
 ·obtain⟨x,hx,e⟩:=xm.mp hm
  exact⟨x,hx,e⟩
 ·obtain⟨oc,od,kV,doc,pm,an,dc,ct,fL,rfl,lk,fT⟩:=Z9.ex
  exact match us,hu with|[_],_=>.of_eq rfl
 rw[oq]at hC;have gm:= @aiN P w K mg base;have mm:= @aiO P w K mg base;have nk:= @aiP P w K mg base;have hC1:∃c,ajj.code=.ref c/\jD base c A.P1:=⟨EV,ajl,hC (EV,P1) (by simp)⟩;have hC2:∃c,aju.code=.ref c/\jD base c A.P2:=⟨EW,ajw,hC (EW,P2) (by simp)⟩;have hC3:∃c,ajK.code=.ref c/\jD base c A.P3:=⟨EY,ajL,hC (EY,P3) (by simp)⟩;have hC4:∃c,ajG.code=.ref c/\jD base c A.P4:=⟨EX,ajH,hC (EX,P4) (by simp)⟩;have fu:=mm ai1 (aeI YA T) (bd YA);have vO:=mm ai2 (aeK YB T) (bd YB);have tR:=gm ai3 X G (aeM YC T) (bd YC);have pL:=gm ai4 X G (aeN YD T) (bd YD);have CO:=nk Z.cS ai5 X G (aeY YE T vO) (bd YE);have JD:=gm ai6 X G (aeZ YF T CO) (bd YF);have iw:=mm ai7 (ae4 YG T tR) (bd YG);have vV:=gm ai8 X G (ae8 YH T pL JD) (bd YH);have ft:=gm ai9 X G (afc YI T vV iw) (bd YI);have pS:=gm aja X G (afe YJ T) (bd YJ);have ud:=gm ajb X G (aff YK T vV) (bd YK);have vX:=gm ajc X G (afg YL T) (bd YL);have tV:=gm ajd X G (afh YM T vX tR) (bd YM);have C3:=gm aje X G (afj YN T) (bd YN);have wy:=gm ajf X G (afl YO T C3) (bd YO);have wz:=gm ajg X G (afn YQ T tV) (bd YQ);have pU:=gm ajh X G (afy YV T ft) (bd YV);have Ka:=gm aji X G (afB Y0 T vO) (bd Y0);have we:=gm ajk X G (afJ Y5 T hB hC1) (bd Y5);have lW:=mm ajo (afM Y6 T) (bd Y6);have Kp:=mm ajp (afO Y7 T) (bd Y7);have iz:=mm ajq (afQ Y8 T) (bd Y8);have pX:=gm ajr X G (afR Y9 T we Kp) (bd Y9);have ou:=gm ajs X G (afT Y_ T pX) (bd Y_);have Ky:=gm ajt X G (afV Za T fu) (bd Za);have wo:=gm ajv X G (afX Zb T hB hC2 Ky) (bd Zb);have KQ:=gm ajz X G (af8 Zm T) (bd Zm);have KU:=gm ajA X G (aga Zp T) (bd Zp);have K6:=nk Z.cF ajB X G (agg Zu T) (bd Zu);have K7:=gm ajC X G (agj Zv T) (bd Zv);have K8:=gm ajD X G (agm Zw T vX iw) (bd Zw);have Lf:=nk Z.cP ajE X G (agw Zz T) (bd Zz);have Ls:=gm ajF X G (agI ZH T pX) (bd ZH);have wY:=nk Z.cE ajO X G (ahf ZO T) (bd ZO);have wQ:=mm ajP (ahg ZP T) (bd ZP);have wR:=mm ajQ (ahh ZQ T) (bd ZQ);have Md:=mm ajR (ahj ZR T wQ wR) (bd ZR);have qc:=mm ajS (ahm ZS T Md) (bd ZS);have Mm:=mm ajT (ahr ZT T qc) (bd ZT);have My:=mm ajU (ahs ZU T wQ wR Mm) (bd ZU);have MY:=gm ajV X G (ahx ZV T wY qc) (bd ZV);have MN:=gm ajW X G (ahy ZW T wY qc My) (bd ZW);have w4:=gm ajX X G (ahB ZX T ou) (bd ZX);have w6:=gm ajY X G (ahC ZY T ft wo) (bd ZY);have uC:=gm ajZ X G (ahO Z3 T) (bd Z3);have M9:=gm aj0 X G (ahP Z4 T D uC) (bd Z4);have M8:=gm aj1 X G (ahR Z5 T D uC) (bd Z5);have Nc:=gm aj2 X G (ahT Z6 T D M8 M9) (bd Z6);have hF:(l5 K A.aF).bind l7=some [NW,NK,NM,NN,NL,NI,NY,NJ,N0,NZ,NH,NG]:=by rw[eq_of_beq Z.tF];simp only[XC,cV,xq,gb Zx.1,gb YW.1,gb Y1.1,gb Y3.1,gb YY.1,gb YR.1,gb ZD.1,gb YT.1,gb ZI.1,gb ZF.1,gb ZM.1,gb ZK.1]
 have hP:(l5 K A.aP).bind l7=some [NX,NO,NP,NT,NQ,NR,N1,N2,NV,NU,NS]:=by rw[eq_of_beq Z.tP];simp only[XD,cV,xq,gb ZA.1,gb Zc.1,gb Ze.1,gb Zn.1,gb Zg.1,gb Zi.1,gb ZZ.1,gb Z1.1,gb Zs.1,gb Zq.1,gb Zk.1]
 have CA:W4 P w K mg base A:=by
  refine⟨⟨_,λH=>ER hF (by show 12<=1000;decide) H,rfl,λp f hp=>?_⟩,⟨_,λH=>ER hP (by show 11<=1000;decide) H,rfl,λp f hp=>?_⟩⟩
  ·match p,hp with
   |0,hp=>cases hp;exact⟨_,_,(agr Zy T K6 K7 K8).mono (by decide),Zx.2.2.2,bd Zy⟩|1,hp=>cases hp;exact⟨_,_,(afz YX T fu pU).mono (by decide),YW.2.2.2,bd YX⟩|2,hp=>cases hp;exact⟨_,_,(afC Y2 T ft pS Ka).mono (by decide),Y1.2.2.2,bd Y2⟩|3,hp=>cases hp;exact⟨_,_,(afE Y4 T fu pU).mono (by decide),Y3.2.2.2,bd Y4⟩|4,hp=>cases hp;exact⟨_,_,(afA YZ T fu pU).mono (by decide),YY.2.2.2,bd YZ⟩|5,hp=>cases hp;exact⟨_,_,(afs YS T ft pS).mono (by decide),YR.2.2.2,bd YS⟩|6,hp=>cases hp;exact⟨_,_,(agy ZE T ft).mono (by decide),ZD.2.2.2,bd ZE⟩|7,hp=>cases hp;exact⟨_,_,(aft YU T ft).mono (by decide),YT.2.2.2,bd YU⟩|8,hp=>cases hp;exact⟨_,_,(agL ZJ T fu iw tV Ls).mono (by decide),ZI.2.2.2,bd ZJ⟩|9,hp=>cases hp;exact⟨_,_,(agC ZG T fu iw pL wy wz ud).mono (by decide),ZF.2.2.2,bd ZG⟩|10,hp=>cases hp;exact⟨_,_,(ag6 ZN T hB hC3 fu iw pL wy wz ud).mono (by decide),ZM.2.2.2,bd ZN⟩|11,hp=>cases hp;exact⟨_,_,(agU ZL T hB hC4 fu iw ft).mono (by decide),ZK.2.2.2,bd ZL⟩|n+12,hp=>simp at hp
  ·match p,hp with
   |0,hp=>cases hp;exact⟨_,_,(agx ZC T Lf fu ou).mono (by decide),ZA.2.2.2,bd ZC⟩|1,hp=>cases hp;exact⟨_,_,(af1 Zd T iz).mono (by decide),Zc.2.2.2,bd Zd⟩|2,hp=>cases hp;exact⟨_,_,(af2 Zf T iz lW).mono (by decide),Ze.2.2.2,bd Zf⟩|3,hp=>cases hp;exact⟨_,_,(af9 Zo T iz KQ).mono (by decide),Zn.2.2.2,bd Zo⟩|4,hp=>cases hp;exact⟨_,_,(af3 Zh T iz lW).mono (by decide),Zg.2.2.2,bd Zh⟩|5,hp=>cases hp;exact⟨_,_,(af4 Zj T iz ft wo).mono (by decide),Zi.2.2.2,bd Zj⟩|6,hp=>cases hp;exact⟨_,_,(ahG Z0 T we lW MN w4 w6).mono (by decide),ZZ.2.2.2,bd Z0⟩|7,hp=>cases hp;exact⟨_,_,(ahJ Z2 T lW MY w4 w6).mono (by decide),Z1.2.2.2,bd Z2⟩|8,hp=>cases hp;exact⟨_,_,(agd Zt T).mono (by decide),Zs.2.2.2,bd Zt⟩|9,hp=>cases hp;exact⟨_,_,(agb Zr T iz ft pS KU).mono (by decide),Zq.2.2.2,bd Zr⟩|10,hp=>cases hp;exact⟨_,_,(af5 Zl T ou pX).mono (by decide),Zk.2.2.2,bd Zl⟩|n+11,hp=>simp at hp
 have Nl:=gm aj3 X G (ah2 Z7 T D CA Nc) (bd Z7);have Nk:=nk Z.cH aj4 X G (ah4 Z8 T) (bd Z8);refine(aif Z9 T D aiI aiJ Nk Nl).imp λvs H Q E⟨l,ns,h1,h2,h3,h4,h5⟩=>⟨l,ns,h1,h2,?_,h4,h5⟩
 rw[oq]at h3;exact⟨⟨_,h3 (EV,P1) (by simp),trivial⟩,⟨_,h3 (EW,P2) (by simp),trivial⟩,⟨_,h3 (EY,P3) (by simp),trivial⟩,⟨_,h3 (EX,P4) (by simp),trivial⟩⟩
end
end WD
structure PySem.W.Fast:Prop where(tw11956341967812164747 tw5925819551894217051 tw9335306988210926159 tw12545937535104906510 tw17893500173552215575 tw9357327500101590834 tw4636386109875750142 tw11875757503421428201 tw2774630293305753830 tw1501094766431990873 tw6657898154774887646 tw3386391675091940814 tw1889172853083659492 tw7237332575343676553 tw10689115249882397363 tw765631719970511479 tw17068759649066862848 tw17997899400299121495 tw15918394850936305657 tw17589860799553469119 tw6606201921338305335 tw8399757741534380106 tw16824420507296387683 tw13917148873408627831 tw11678426635129674237 tw8594903080758646763 tw10741649342498693319 tw16666473484887775913 tw17612320170101965446 tw11835893685974911337 tw6223268309235050967 tw10852364400491272318 tw14340617054467395367 tw15561990646452577315 tw2967508145898032671 tw15403035269347990645 tw17904885110118229514 tw3089169629156264035 tw9872496720317268145 tw16129584229074890229 tw2622155022433867637 tw9360302235278008426 tw1265114832799058158 tw15668754631661924578 tw17803522431501732315 tw17094066816159700366 tw11848478998089820026 tw3490483267347904154 tw5193472327646750374 tw17132639665337368945 tw18068661828947047399 tw4102584351247697785 tw12443574059062920432 tw13910242874877209888 tw16767993644498506746 tw16630516957748995804 tw3893353209116132182 tw4574332032211743495 tw7485980961760674290 tw10235591812357464691 tw3981684078092258984 tw5806659245615065125 tw10566806078050872254 tw13135355372460440919 tw14678308169010276300 tw10507384321493410380 tw11101132358890926949 tw10504630561352100045 tw2508232002919284836 tw6305545056062390331 tw1358370323003179028 tw8064604028180631480 tw5738675876827849849 tw4842724956790935656 tw3953121419917734571 tw7347297305087589471 tw9381625687420793515 tw2501267586922412868 tw16902749115204846690 tw7039921490692445359 tw9903403283069725408 tw1235506736062045006 tw12035342337630700048 tw1257418917538434966 tw2074395009805498536 tw14729372357587651117 tw2200978843893968114 tw13319900067227377274 tw6009772567596726568 tw1072990785457077046 tw2855751645575256611 tw17053874858406178364 tw13453369668726159780 tw18299243999097046311 tw14991962547487585461 tw4974851189168485539 tw8534543581389999364 tw16786198532524227919 tw15021739080032961516 tw11858071066894505195 tw2501297844608163946 tw7798585363297681649 tw13211127018508811953 tw11460551725402911770 tw9781720573535666497 tw5655614334642467489 tw4950625458197286081 tw3142904664431061718 tw7874104084817697092 tw16976488700627477542 tw3593983730850629290 tw7845402279970935276 tw16098924118124823926 tw8624841910802001991 tw12552090257592011272 tw18341780331895433041 tw7922940988654307505 tw1995034553643485804 tw12098456714231648866 tw16742178683037226708 tw4133900867197402520 tw16034165934534330456 tw6308067035190830601 tw14024973953921933841 tw10598447031095431559 tw18421493781193043852 tw8037252270563931130 tw6717440459741484004 tw3662063489881928346 tw3186382029585997934 tw14074545495635444432 tw7233787223597364319 tw12842475492050404094 tw13539501909048675571 tw5724338260675140968 tw4191884763351590375 tw5609724622416401035 tw1521835593870326728 tw15658632139367712902 tw11564921780074314711 tw824804675234878949 tw17669921865693698039 tw16641682224091230869 tw11319582426324367272 tw1914033314609455976 tw17308265085794624909 tw12450075243783474469 tw4605949003132077747 tw5403859761940404580 tw952306103360936601 tw3453047509416550816 tw15819695288385070383 tw12663272147861230076 tw9363527056887645763 tw11699696009897274424 tw7810073375874573664 tw2669641790310576683 tw13099488020260144314 tw3334276546220582197 tw9312645184477659185 tw8128839905722276254 tw3214907625526039738 tw10529508716468795872 tw855712257036565974 tw15096208998946540450 tw13196182494966441001 tw9219818968025847055 tw16413274171245603878 tw5222056502708671194 tw10757898251474098615 tw11189538269655461946 tw63361481558190974 tw12887036950726651174 tw17570288109928695447 tw17456534724218948781 tw15047383258729226290 tw16402230419129816921 tw14537265580965541149 tw8412688587909381257 tw6175565631495659407 tw13246739850523568179 tw8207646558803411782 tw9410819826831295748 tw5670879172972741927 tw2791166054017752308 tw8110255789692376272 tw12638238287683636982 tw8621918651731742118 tw12138765643419393921 tw2373599738379492943 tw2342926807555624671 tw16824170256306464251 tw479217547533182026 tw8516139975353275258 tw13383788958609656633 tw10735747023667270571 tw9302641151845435042 tw8253028138583905962 tw10019103422091366189 tw16391053774369748607:True)
open PySem PySem.W PyProof.Rows
set_option maxRecDepth 100000 in
set_option maxHeartbeats 0 in
theorem PySem.Challenge.cw_wrongday_s01_answers_holds : PySem.Challenge.rw_wrongday_s01_answers.Holds := by
 w_on;k_headS;(case hw=>exact⟨[.list [.int 7]],by decide +kernel,by decide +kernel⟩)
 k_fillS
 refine L2.adQ (r:=PySem.Challenge.rw_wrongday_s01_answers) (k:=11) (CX:=L2.bc) (ps:=["calls"]) (sp:=WD.Yw) WD.xf (by decide +kernel) rfl rfl ⟨rfl,by decide,by decide⟩ (λw h Y=>PySem.W.kIn_of Y) (λw=>by kernel_rfl) ?R ?F ?S (λ_ _ _ _ z=>z)
 case R=>
  intro x hx
  simp only[WD.xf,b9,List.not_mem_nil,or_false]at hx
  rcases hx with rfl|rfl|rfl|rfl
  all_goals exact nA.mp (by kernel_rfl)
 case F=>
  intro w mg fa h Y KX G qV
  refine' WD.all_mk KX G qV (WD.Facts.mk ?y1 ?y2 ?y3 ?y4 ?y5 ?y6 ?y7 ?y8 ?y9)
  (case y1=>constructor<;>(refine⟨?_,?_,?_,?_,?_,?_,?_⟩<;>k_is))
  (case y2=>constructor<;>(delta L2.da;k_is))
  (case y3=>constructor<;>(delta WD.GN;k_is))
  (case y4=>constructor<;>(refine' WD.GI.i ?z1;(case z1=>k_is)))
  (case y5=>constructor<;>(refine' WD.MF.i ?z1 ?z2 ?z3 ?z4 ?z5;(case z1=>k_is);(case z2=>k_is);(case z3=>k_is);(case z4=>k_is);(case z5=>k_is)))
  (case y6=>constructor<;>(refine' WD.LF.i ?z1 ?z2 ?z3 ?z4 ?z5;(case z1=>k_is);(case z2=>k_is);(case z3=>k_is);(case z4=>k_is);(case z5=>kernel_rfl)))
  (case y7=>constructor<;>(refine' WD.GF.i ?z1 ?z2 ?z3 ?z4;(case z1=>k_is);(case z2=>k_is);(case z3=>k_is);(case z4=>k_is)))
  (case y8=>constructor<;>kernel_rfl)
  (case y9=>constructor<;>(refine' WD.DI.i ?z1 ?z2 ?z3;(case z1=>k_is);(case z2=>kernel_rfl);(case z3=>kernel_rfl)))
 case S=>
  intro K tabs H xs a hO qT qg hx
  cases hx with
  |cons h1 h2=>
   cases h2
   cases h1 with
   |lst hs ha=>
    have e:=L2.RP a.1 _ ha
    subst e
    exact⟨_,a.1,rfl,hs,hO,qg,λH' p hp=>.lst (L2.aE.of hp) (L2.RO _)⟩
