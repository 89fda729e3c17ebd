import PyProof.Rows.All
import Wide.All
import OpenK.AllK
import PySem.Challenge.RW_liftwave_k43_share
open Option renaming some->a!,none->a?
open Bool renaming true->b!,false->b?
open Array renaming length_toList->Ej,getElem?_eq_some_iff->Et,getElem?_toList->E8,append_assoc->FG,toList_append->Ge,getElem?_eq_getElem->GJ,size_append->G0,empty_append->HK,append_empty->HL,toList->JD
open Bool renaming false_ne_true->Az,true_and->BW,and_eq_true->CZ,eq_iff_iff->C8,false_eq_true->Dg,not_true->EF,not_false->Fj,false_and->Fk,and_true->FF,or_eq_true->Jc,or_false->JC,true_or->JV
open Classical renaming skolem->Ht,not_not->Ly,em->Lz,byContradiction->LA
open False renaming elim->AZ
open ForInStep renaming yield->Hy
open Function renaming comp_def->BG,comp->LP
open Iff renaming rfl->Kd
open Int renaming toNat_natCast->AX,le_refl->Bh,mul_le_mul_of_nonneg_right->BF,mul_le_mul_of_nonneg_left->BI,toNat_of_nonneg->Ci,mul_left_comm->CQ,zero_add->Dt,mul_assoc->DB,mul_comm->Es,le_ediv_iff_mul_le->E7,mul_nonneg->Fy,emod_nonneg->FQ,emod_lt_of_pos->FR,neg_mul->FX,neg_le_neg->Gq,add_mul->Gu,ediv_nonneg->GF,fdiv_eq_ediv_of_nonneg->GS,neg_neg->Hd,eq_ofNat_of_zero_le->He,pow_pos->HH,mul_pos->HI,ediv_emod_unique->HJ,toNat->I_,ofNat_lt->Ja,lt_or_le->Jb,natAbs_neg->JB,one_mul->JU,pow_succ->J_,le_trans->Ka,le_of_lt->Kb,ediv_one->Kc,sub_mul->Km,mul_one->Ko,mul_neg->Kp,not_lt->KR,natAbs->KS
open List renaming getElem?_eq_some_iff->Ab,getElem?_eq_getElem->Ad,mem_of_getElem?->Ai,getD_eq_getElem?_getD->Ak,size_toArray->Am,replicate->Ar,length_map->Au,getElem?_set_self->Aw,mem_cons_of_mem->Ax,mem_cons_self->Ay,mem_append->AB,length_append->AE,range->AF,nodup_cons->AG,getElem?_set_ne->AH,mem_cons->AJ,getElem?_map->AK,take_succ_eq_append_getElem->AO,length_cons->AQ,mem_singleton->AV,map_map->AW,nodup_append->A7,getElem?_append_left->A9,append_nil->A_,map_append->Bc,getElem?_eq_none->Bd,mem_map->Be,forall_mem_singleton->Bg,getElem?_append_right->Bi,length_set->Bk,map->Bo,Nodup->Bp,forall_mem_append->Br,mem_append_right->Bu,length_replicate->BA,take_length->BD,length_take->BE,getElem_mem->BJ,forall_mem_cons->BK,append_assoc->BN,take_of_length_le->BS,map_cons->BU,mem_range->BV,length_singleton->BX,getElem?_cons_succ->BY,dropLast_concat_getLast->BZ,map_congr_left->B3,length_reverse->B4,foldl_cons->B_,getElem?_reverse->Ce,lookup->Cg,getElem?_of_mem->Ch,not_mem_nil->Cn,getElem?_zip_eq_some->Co,getElem?_take_of_lt->Cq,filterMap_cons_some->Cr,nodup_nil->CB,map_reverse->CD,lookup_cons->CF,length_eq_zero_iff->CI,getLastD_concat->CM,set_cons_succ->CN,mem_replicate->CO,mem_filterMap->CP,cons_append->CY,filterMap_cons_none->C3,take_append_drop->C6,length_range->C7,getElem?_replicate->C_,set_cons_zero->Dd,dropLast_concat->Dk,mem_filter->Dq,length_nil->Dr,mem_reverse->Dz,foldl_append->DM,flatMap_cons->DN,ext_getElem?->DP,mem_iff_getElem?->DY,pairwise_cons->Eg,map_replicate->Eh,length_drop->Er,mem_of_mem_take->Ey,mem_append_left->Ez,pairwise_map->ED,getElem?_set->EE,sum_append->EI,reverse_append->EJ,range_succ->EK,filterMap_cons->EL,append_inj'->EW,zip_cons_cons->E5,pairwise_append->Fi,take_add_one->Fu,reverse_cons->Fv,of_mem_zip->Fw,nil_append->Fx,replicate_succ->FD,getElem?_drop->FJ,filterMap_map->FK,any_eq_true->FP,take_sublist->FW,eraseIdxIfInBounds_toArray->F9,length_zip->Go,length->Gp,nodup_iff_pairwise_ne->GH,pairwise_iff_getElem->GQ,mem_or_eq_of_mem_set->GR,all_eq_true->GZ,getElem?_cons_zero->G8,range_succ_eq_map->Hb,pairwise_lt_range->Hc,mem_iff_getElem->Hx,flatMap_append->HG,sum_singleton->HX,foldl->HY,map_id->Ik,flatten_cons->Il,mem_flatten->Iy,filter_cons->Iz,ext_getElem->IA,sum_cons->IZ,foldl_nil->Jk,filterMap->Jl,map_take->Jz,map_drop->JA,map_set->JS,map_nil->JT
open List.Pairwise renaming imp_of_mem->DV,nil->E6,imp->GI,map->J9
open List.Sublist renaming append->Ds,refl->DU,cons₂->Gr
open List.cons renaming inj->E_,injEq->Lx
open Nat renaming le_refl->Ag,lt_of_lt_of_le->AS,ne_of_lt->Bq,zero_le->By,le_trans->Bz,lt_irrefl->B7,mul_le_mul_left->Dj,testBit_eq_decide_div_mod_eq->Dn,mul_le_mul->Dp,le_of_lt->DJ,le_add_right->DL,add_mul->DR,lt_or_ge->Ep,mul_mod_left->EC,not_lt_zero->EU,pow_pos->Fs,pow_le_pow_right->Ft,reduceAdd->FI,sub_self->FN,min_eq_left->FO,zero_add->F8,ne_of_gt->GD,mul_comm->Hs,div_lt_iff_lt_mul->Hw,mul_pos->HE,mul_le_mul_right->HF,and_one_is_mod->Ij,sub_pos_of_lt->Iv,lt_succ_of_lt->Iw,add_sub_of_le->Ix,zero_mul->IU,lt_succ_self->IV,lt_of_not_le->IW,le_of_eq->IX,add_zero->IY,two_pow_pos->Ji,div_add_mod->Jj,le_succ->JR,succ_mul->J6,pow_succ->J7,add_comm->J8,mul_add->Kl,lt_min->KQ
open Nat.succ renaming inj->LO
open Ne renaming symm->Bb
open Option renaming map_some->GC,map_eq_some_iff->GY,none->Jy,getD_none->J5
open Option.some renaming inj->AY,injEq->KP
open Or renaming inl->An,inr->FC
open Prod renaming ext->Jh
open Prod.mk renaming injEq->Md
open PyProof renaming noPylong_small->EH
open PyProof.Rows renaming callWith_type1->Ba,boot_list->Bn,boot_isinstance->Bs,envOfC->Bt,IsTupIter->BH,AllBare->CH,boot_reversed->DD,slot_tuple_getitem->DQ,boot_tuple->Ef,slot_tupleiter_next->EA,IsTup->ES,IntsAre->ET,boot_bool->Gd,boot_zip->Gk,boot_int->Gm,Subscript_->Gn,getItem_tuple->Hq,Call_->Hr,OwnCls->HW,subscriptTail_builtinR->Ih,len_tuple->Ii,iadd_int->Iu,tail_any->IN,entry_tupleiter_next->IP,boot_sum->IQ,boot_max->IS,boot_all->IT,args_tupleiter_next->Jg,boot_range->Jx,join_list->Ki,isub_int->Kj,callWith_builtin1->Kk,isTrue_plain->Lv,iter_tuple->Mb,isTrue_and->Mc
open PyProof.Rows.IsTup renaming typeIs->Fg
open PySem renaming Value->Aa,wpAny_bind->Ac,Addr->Ae,Shared->Af,mainGlobals->Aj,Str->Al,starEach->Ap,Program->AA,wpAny_pure->AD,wpAny->AI,sizeLine->AL,Around->AN,World->AR,Stmt->A6,FuncData->A8,boot_len->Bf,wpAny_field->Bw,wpAny_Call_Name_kw->Bx,wpAny_mono->BC,Scope->BM,wpAny_truthy_bool->BO,codeAny_mono->BP,bindArgs->BQ,backTo->BR,wpAny_callSpecial?_slot->B6,rawInt->B8,compareOp->Cd,codeAny->Cf,sliceBounds->Cj,Builtin->Cm,wpAny_seqItems->Ct,wpAny_call_entry->Cu,binaryOp->Cv,Arguments->Cz,sizeLine_eq->CC,Obj->CJ,wpAny_passesOwn->CK,typeLookup_type->CL,builtinLookup_eq_fast->CS,wpAny_newObj_type->CT,sliceRange->CU,callerA->C4,bootBuiltins->C5,wpAny_attempt->Db,behindInMarks->Dc,wpAny_execs_nil->Dh,wpAny_setField_rec->Dl,wpAny_call->Dm,wpAny_of_eq->Du,wpAny_setField->DF,isSubtype_type->DG,call_meets->DW,wpAny_holding->DZ,Env->Ed,wpAny_specialOf->Ev,Pos->Ew,closureFor->EG,slot_list_getitem->EO,holding->EQ,wpAny_getItem_list_slice->EY,wpAny_pyIter_zip->Fa,wpAny_isInstance->Fb,NameKind->Fe,sysModules->Fl,builtinsNs->Fm,assignEach->Fo,wpAny_updateSeq->Fz,keywordEach->FL,firstArgMember->FM,slicePick->FS,getMethod->FT,BindsTo->FV,attributeBase->F_,wpAny_pyIter_range->Gf,typeLookup->Gg,pyNext->Gh,Result->Gj,standAt->Gv,relabel->Gw,foldedSetIterable->Gx,cLine->Gy,wpAny_execs_cons->GK,swapsWith->GN,cellsFrom->GO,DictEntry->GP,wpAny_ite_split->G1,letOwnedTupleGo->G3,wpAny_rule->Hf,fitsIndex_both->Hg,backToKw->Hh,assign->Hi,argsOk->Hj,wpAny_letOwnedTupleGo_zip->Hu,wpAny_standAt->Hz,wpAny_onRaise->HA,wpAny_comprehension_free->HB,seqIndex?->HN,wpAny_pyNext_range_end->HZ,wpAny_pyIter_rangeiter->H_,pyIter->Ia,wpAny_isTrue_Compare1->Im,wpAny_newFunctionEnv->IB,wpAny_loadName_local->IC,wpAny_Slice->ID,seqIndex_of->IE,compEnvC->IF,codeAny_call_builtin->IG,callWith->IH,bindL->II,bindC->IJ,Operator->IM,wpAny_loadName_cell->Jd,wpAny_Name->Jm,typeOf->Jn,typeIs_int->Jo,isInstance->Jp,wpAny_pyIter_list->JE,wpAny_assign_Name->JF,slicePick_size_le->JG,getItem->JH,ItemsOf->JP,storeName->JW,inplaceOp->JX,entryFor_of_tree->JY,codeAmong->JZ,wpAny_loadPart->Kq,wpAny_Expr_any->Kr,recursionLimit->Ks,newFunctionEnv->Kt,isSubtype_stop->Ku,findBy->Kv,entryFor->Kw,codeAmong_snoc->Kx,TriplesOk_snoc->KA,Params->KC,OldK->KD,Model->KE,IsPart->KG,GenState->KH,DefRec->KJ,CmpOp->KN,wpAny_handled->KU,signature?_of->KW,nums_intItems->KY,intBits_le_64->KZ,call_list_seq->K0,Sem->Ld,wpAny_landsW->Le,setItem->Lg,leaving->Lh,getAttr->Li,Keyword->Lr,wpAny_throw->LB,wpAny_letGo->LC,subscripted->LD,Tok->LF,Meets->LJ,IsRangeIter->LM,typeIs_str->LS,truthy->LU,strKind_is->LV,revObj->LW,newExc->LX,cellOf->LY,Slot->L7,PlainAttrs->L8,IsPair->L_
open PySem.Around renaming frames_deeper->Ha
open PySem.AutoListH renaming list___mul___list_int_3->Lu
open PySem.AutoSeq1 renaming list_insert_list_int_val_1->LN
open PySem.Bind renaming checkArgs->Jf
open PySem.BindsTo renaming of_eq->Ma
open PySem.Builtin renaming bitNot->BL,bitAnd->B9,bitOr->Dx
open PySem.Builtin.Int renaming intBits->Dy,intTooBig->KO
open PySem.Builtin.List renaming listTooLong->Cc,listSameRef->FU,listLengthHint->Kg,listExtendWith->Kh
open PySem.Builtin.ObjectAttr renaming find->Iq,dataDescriptor?->Ir
open PySem.Builtin.Range renaming rangeSize->AT,small->Di,rangeFitsLong->FA
open PySem.Builtin.SmallTypes renaming newClass->EZ,nextOf->Ff,newRecord->Ip
open PySem.Builtin.Str renaming strSliceIndices->Cp
open PySem.Calls renaming Name_function_global->GA,callWith_builtin->G7,evalArgs_plain->Ho,spliced_cons->HD,spliced_nil->HV
open PySem.CmpOp renaming NotIn->JQ,In->KL
open PySem.Data renaming fields->Hv,cell->Io
open PySem.DictEntry renaming refKey->Ls
open PySem.Expr renaming Call->KI
open PySem.F renaming plainAttrs_list->Bj,type_list_pop->Gb,slot_list_pop->Gc
open PySem.Heap renaming get?_push_of_some->Ah,get?_push_size->Av,lt_size->AU,get?_update_other->Ck,get?_update_self->Cy,size_push->Dw
open PySem.IsRange renaming new->G6
open PySem.ItemsOf renaming nil->L9
open PySem.Manifest renaming signature?->G5,find?->HU,sig_reversed->LK,owners->LL
open PySem.MeetsSeq renaming list_pop_last->LG,list_pop_at->LH
open PySem.NameKind renaming free->Bv,cell->Fd
open PySem.Obj renaming mapSeq->Cw,data_mapFields->C9,isFreed_of_fields->Fc,mapFields->JO
open PySem.PassesOwn renaming never->AM,leaving->Lq
open PySem.PyData renaming keyHash->E9
open PySem.SeqAt renaming EqAt->HC
open PySem.SeqAt.EqAt renaming same->FH,bool_bool->GG,str_int->GV,of_refs->GW,int_str->GX,str_str->K2,str_none->K3,str_bool->K4,none_str->K5,none_int->K6,none_bool->K7,int_none->K8,int_int->K9,int_bool->K_,bool_str->La,bool_none->Lb,bool_int->Lc
open PySem.SeqAt.RcAt renaming tuples->G4,lists->G_
open PySem.SeqAt.RcNeAt renaming tuples->Ke,lists->Kf
open PySem.Shared renaming heap->Jw
open PySem.Str renaming ofString->Bm,empty->G9,append_empty->IL,join->Jv
open PySem.Txt renaming slice->DI,join->F7
open PySem.Value renaming ref->Bl,int->D_,isStrOf->EB,type->EM,none->EN,str->Fh,bool->FE,float->Hm,builtin->Je,bytes->JN
open PySem.Value.ref renaming inj->Lp
open PySem.W renaming Frag->Aq,nsIn->B5,kia_one->CG,emptyDict->Dv,fnOf->DC,keepIn->DH,callWith_K->DX,kitOne->Fp,instObj->Fq,mg_of->Ga,codeIn->Gi,plainGet->Gz,plainGet_of->GU,findIn->Hk,CodeHd->Hl,plainOver->HP,methodObj->HQ,kitx_list->HR,kitx_dict->HS,tabObj->Ib,looks_findIn->Ic,exmOne->Ie,lookIn->Jq,km_tabs_of->Jr,kitx_tuple->Js,callWith_F->Jt,takerIn->JJ,makesIn->JK,OpenLaw->JL,Looks->JM,specialIn->J1,handedIn->Ky,envX->Kz,takesIn->Lj,mapOf_K->Ll,isFn->Lm,binds_K->Ln,KeysLit->Lo,pre_splitW->LZ,enter_call->L5
open PySem.W.Dflts renaming none->J3,noKw->J4
open PySem.W.KF renaming slot_gs->K1
open PySem.W.Looks renaming ld->IK
open PySem.W.OpenLaw renaming prog->L6
open PySem.W.WData renaming int->Ig,weight->Ju,list->J2
open PySem.Walks renaming range->JI
open String renaming reduceBEq->HM
open Sum renaming inr->FY,inl->FZ
open Sum.inl renaming inj->LR
open Sum.inr renaming inj->LQ
open True renaming intro->Eu
open Array(length_toList size_append toList_append)
open Bool(and_eq_true false_eq_true)
open Int(emod_nonneg lt_or_le mul_assoc mul_left_comm mul_nonneg neg_le_neg neg_mul neg_neg ofNat_lt one_mul toNat_natCast toNat_of_nonneg)
open List(all_eq_true any_eq_true append_inj' append_nil cons_append dropLast_concat ext_getElem? filterMap_cons filterMap_cons_some flatMap_cons foldl_append foldl_cons forall_mem_append forall_mem_cons forall_mem_singleton getD_eq_getElem?_getD getElem?_append_left getElem?_append_right getElem?_cons_succ getElem?_eq_getElem getElem?_eq_none getElem?_map getElem?_of_mem getElem?_reverse getElem?_set getElem?_set_ne getElem?_set_self getElem?_take_of_lt getElem?_zip_eq_some getElem_mem getLastD_concat length_append length_cons length_drop length_eq_zero_iff length_map length_nil length_range length_replicate length_reverse length_set length_singleton length_take length_zip lookup_cons map_append map_congr_left map_cons map_id map_map map_nil map_replicate map_reverse map_set mem_append mem_append_left mem_append_right mem_cons mem_cons_of_mem mem_cons_self mem_filter mem_filterMap mem_iff_getElem? mem_map mem_of_getElem? mem_of_mem_take mem_range mem_replicate mem_reverse mem_singleton nil_append nodup_append nodup_cons nodup_nil not_mem_nil of_mem_zip pairwise_cons pairwise_map range_succ reverse_append reverse_cons set_cons_succ set_cons_zero size_toArray sum_append sum_cons take_add_one take_append_drop take_length take_of_length_le take_succ_eq_append_getElem zip_cons_cons)
open Nat(add_zero le_add_right le_of_eq le_of_lt le_succ le_trans lt_irrefl lt_of_lt_of_le lt_or_ge min_eq_left mul_le_mul mul_le_mul_left mul_mod_left ne_of_gt ne_of_lt not_lt_zero sub_self zero_le zero_mul)
open Option(getD_none map_some)
open PySem(boot_len)
open PySem.F(plainAttrs_list slot_list_pop type_list_pop)
open PySem.Heap(get?_push_of_some get?_push_size get?_update_other get?_update_self lt_size size_push)
open PySem.W(Frag KeysLit binds_K callWith_K codeIn emptyDict excIn exmOne fnOf handedIn instObj isFn keepIn kia_one kitOne kitx_dict kitx_list kitx_tuple km_tabs_of lookIn makesIn mapOf_K methodObj mg_of nsIn plainGet plainGet_of plainOver takerIn)
noncomputable section
set_option Elab.async false
set_option compiler.extract_closed false
set_option bootstrap.genMatcherCode false
set_option linter.all false
set_option maxRecDepth 100000
set_option hygiene false
local macro_rules |`(tactic|kj_on)=>`(tactic| (intro X hP hw hK hc i pins s Y H E I hf st hg;subst hP hw hK))
set_option hygiene true
abbrev c!:=@if_pos
abbrev c?:=@if_neg
namespace L2
open PySem PySem.Spec PyProof.Rows
abbrev xt:=Sum Int Al
noncomputable def Yp:xt->Aa->Bool
 | .inl k,v=>Value.isInt k v
 | .inr x,v=>EB x v
noncomputable def Xan (w:AR):xt->Int
 | .inl k=>hashInt k
 | .inr x=>hashStr w x
theorem dj:∀{k:xt} {v:Aa},Yp k v=b!->(∃i t,k=FZ i/\v=D_ i t)∨(∃x t,k=FY x/\v=Fh x t)
 | .inl i,v,h=>by
  obtain⟨t,e⟩:=Value.isInt_shape h;exact .inl ⟨i,t,rfl,e⟩
 | .inr x,v,h=>by
  obtain⟨t,e⟩:=Value.isStrOf_shape h;exact .inr ⟨x,t,rfl,e⟩
theorem Ô (a b:Int):decide ((FZ a:xt)=FZ b)=(a==b):=by
 by_cases e:a=b
 .subst e;simp
 .have h:¬ (FZ a:xt)=FZ b:=λq=>e (LR q)
  rw[decide_eq_false h];exact (beq_eq_false_iff_ne.mpr e).symm
theorem Ñ (a b:Al):decide ((FY a:xt)=FY b)=decide (a=b):=by
 by_cases e:a=b
 .subst e;simp
 .have h:¬ (FY a:xt)=FY b:=λq=>e (LQ q)
  rw[decide_eq_false h,decide_eq_false e]
theorem Ó (a:Int)(b:Al):decide ((FZ a:xt)=FY b)=false:=decide_eq_false (λq=>nomatch q)
theorem Ò (a:Al)(b:Int):decide ((FY a:xt)=FZ b)=false:=decide_eq_false (λq=>nomatch q)
def wL (prog:AA)(w:AR):PySem.KeyKind prog w xt where
 is:=Yp
 hash:=Xan w
 inj := λv a b ha hb=>by
  rcases dj ha with⟨i,t,rfl,rfl⟩ | ⟨x,t,rfl,rfl⟩
  .rcases dj hb with⟨j,u,rfl,e⟩ | ⟨y,u,rfl,e⟩
   .injection e with e1 _;rw[e1]
   .exact nomatch e
  .rcases dj hb with⟨j,u,rfl,e⟩ | ⟨y,u,rfl,e⟩
   .exact nomatch e
   .injection e with e1 _;rw[e1]
 byValue:=λk v h=>by
  rcases dj h with⟨i,t,rfl,rfl⟩ | ⟨x,t,rfl,rfl⟩<;>rfl
 pyHash:=λhv h=>by
  rcases dj hv with⟨i,t,rfl,rfl⟩ | ⟨x,t,rfl,rfl⟩
  .exact wpAny_pyHash_int h
  .exact wpAny_pyHash_str h
 eqBool:=λhu hv h=>by
  rcases dj hu with⟨i,t,rfl,rfl⟩ | ⟨x,t,rfl,rfl⟩
  .rcases dj hv with⟨j,u,rfl,rfl⟩ | ⟨y,u,rfl,rfl⟩
   .rw [Ô]at h;exact wpAny_eqBool_int h
   .rw [Ó]at h;exact GX i t y u _ _ _ _ h
  .rcases dj hv with⟨j,u,rfl,rfl⟩ | ⟨y,u,rfl,rfl⟩
   .rw [Ò]at h;exact GV x t j u _ _ _ _ h
   .rw [Ñ]at h;exact wpAny_eqBool_str h
 «strs»:=λk x t v h=>by
  rcases dj h with⟨i,u,rfl,e⟩ | ⟨y,u,rfl,e⟩
  .exact nomatch e
  .injection e with e1 _
   subst e1;cases v<;>rfl
inductive V where
 |cA |bl (b:Bool) |int (i:Int) |str (x:Al) |OD (b:Array UInt8) |MB (b:UInt64) |ref (a:Ae) |ty (n:String)
 deriving DecidableEq
def cu:V->Aa->Prop
 | .cA,u=>u=EN
 | .bl b,u=>u=FE b
 | .int i,u=>∃t,u=D_ i t
 | .str x,u=>∃t,u=Fh x t
 | .OD b,u=>∃t,u=JN b t
 | .MB b,u=>∃t,u=Hm b t
 | .ref a,u=>u=Bl a
 | .ty n,u=>u=EM n
abbrev bQ:List V->List Aa->Prop:=Paired cu
theorem bQ.length (r:bQ xs us):xs.length=us.length:=Paired.length r
theorem bQ.get:∀{xs:List V} {us:List Aa} {i:Nat} {x:V},bQ xs us->xs[i]?=a! x->∃u,us[i]?=a! u/\cu x u
 |_,_,_,_,.nil,e=>by simp at e
 |_,_,0,_,.cons r _,e=>by simp at e;subst e;exact⟨_,rfl,r⟩
 |_,_,i+1,x,.cons _ t,e=>by
  obtain⟨u,h1,h2⟩:=bQ.get t e;exact⟨u,h1,h2⟩
theorem bQ.set (r:cu x u):∀{xs:List V} {us:List Aa} (i:Nat),bQ xs us->bQ (xs.set i x) (us.set i u)
 |_,_,_,.nil=>.nil
 |_,_,0,.cons _ t=>.cons r t
 |_,_,i+1,.cons q t=>.cons q (bQ.set r i t)
theorem bQ.append:∀{xs ys:List V} {us w:List Aa},bQ xs us->bQ ys w->bQ (xs++ys) (us++w)
 |_,_,_,_,.nil,s=>s
 |_,_,_,_,.cons r t,s=>.cons r (bQ.append t s)
theorem bQ.take:∀{xs:List V} {us:List Aa} (n:Nat),bQ xs us->bQ (xs.take n) (us.take n)
 |_,_,0,_=>.nil
 |_,_,_+1,.nil=>.nil
 |_,_,n+1,.cons r t=>.cons r (bQ.take n t)
theorem bQ.drop:∀{xs:List V} {us:List Aa} (n:Nat),bQ xs us->bQ (xs.drop n) (us.drop n)
 |_,_,0,r=>r
 |_,_,_+1,.nil=>.nil
 |_,_,n+1,.cons _ t=>bQ.drop n t
def xn:Option V->Option Aa->Prop
 |some v,a! u=>cu v u
 |none,a?=>True
 |_,_=>False
def KV {a:Type}:List (a×V)->List (a×Aa)->Prop:=Paired λ(p:a×V) (q:a×Aa)=>p.1=q.1/\cu p.2 q.2
noncomputable def kV:xt->V
 | .inl i=>.int i
 | .inr x=>.str x
inductive HO where
  |lst (xs:List V)
  |tup (xs:List V)
  |dK (Ő:List (xt×V)) |dT (Ő:List (List xt×V))
  |set (S:Int->Bool) (n:Nat)
  |ins (C dx:Ae) (fs:List (Al×V))
  |own (x:Ae)
  |xd (fs:List (Al×V))
  |met (f x:Ae)
  |v8 (lo hi:Int)
  |el (o:CJ) (u:HO)
  |XO (ps:Array Aa)
 |kW (p:Ew) (q:Al)
  |ext (φ:Heap->Prop)
def lO (o:CJ)(q:Al):Prop:=∃vs t,o.data = .fields vs/\vs[1]?=a! (.str q t)
def ZH (u:HO):Prop:=(∃xs,u = .tup xs)∨∃o c q,u = .el o (.own c)/\lO o q
abbrev Hp:=Ae->Option HO
noncomputable def cQ (H:Hp)(a:Ae)(o:HO):Hp:=λb=>if b=a then a! o else H b
theorem aZ {H:Hp}:cQ H a o a=a! o:=by unfold cQ;rw[c! rfl]
theorem bJ {H:Hp}(h:b≠a):cQ H a o b=H b:=by unfold cQ;rw[c? h]
theorem fE {H:Hp}{a b:Ae}{o:HO}(h:H a=a! o)(h':H b=a?):a≠b:=by
 intro e;subst e;rw[h]at h';cases h'
section
variable (P:AA)(w:AR)
def eh (H:Hp)(h:Heap)(a:Ae):HO->Prop
 | .lst xs=>xs.length<=AL/\∃(T:List Aa) (n:Nat),bQ xs T/\h.get? a=a! {cls:=.type "list",data:=.seq T.toArray n}
 | .tup xs=>xs.length<=AL/\∃T:List Aa,bQ xs T/\ES h a T.toArray
 | .dK k=>k.length<=AL/\(a==Fl)=b?/\∃vs,KV k vs/\h.DictOf (wL P w) a vs
 | .dT k=>k.length<=AL/\(a==Fl)=b?/\∃xs:List (List xt×Ae×Aa),
   Paired (λ(p:List xt×V) (q:List xt×Ae×Aa)=>p.1=q.1/\H q.2.1=a! (.tup (p.1.map kV))/\cu p.2 q.2.2) k xs/\
   ∃o j l,h.get? a=a! o/\o.ExactDict/\o.data = .dict j l/\j.toList=xs.map (entryOfKey (tupleKind (wL P w)))/\(xs.map (·.1)).Nodup
 | .set S n=>h.SetOf (intKind P w) a S n
 | .ins C e fs=>H e=a! (.own a)/\fs.length<=1000/\e≠a/\h.get? a=a! (Fq C e)/\
   ∃m,h.Ns1 e m/\(∀f,xn (fs.lookup f) (m f))/\PySem.Within m (fs.map (·.1))
 | .own _=>∃o,h.get? a=a! o
 | .xd fs=>∃m,h.Ns1 a m/\∀f,xn (fs.lookup f) (m f)
 | .v8 lo hi=>∃t u v,h.get? a=a! {cls:=.type "range",data:=.fields #[.int lo t,.int hi u,.int 1 v]}
 | .el o u=>h.get? a=a! o/\eh H h a u
 | .XO ps=>h.get? a=a! {cls:=.none,data:=.fields ps}
 | .kW p q=>∃ps:Array Aa,h.get? a=a! {cls:=.none,data:=.fields ps}/\TriplesOk ps.toList/\∀v,JZ p ps.toList=a! v->∃c O,v = .ref c/\H c=a! (.el O (.own c))/\lO O q
 | .met f x=>h.get? a=a! (HQ (.ref f) (.ref x))
 | .ext g=>g h/\(∃o,h.get? a=a! o)/\∀h1 h2:Heap,g h1->(∀o,h1.get? a=a! o->h2.get? a=a! o)->g h2
def jY (H:Hp)(h:Heap):Prop:=∀a o,H a=a! o->eh P w H h a o
end
section
variable {P:AA}{w:AR}{H H':Hp}{h h':Heap}{a:Ae}{o:HO}
theorem eh.lt (x:eh P w H h a o):a<h.objs.size:=by
 cases o with
 |lst xs=>obtain⟨_,_,_,_,e⟩:=x;exact AU e
 |tup xs=>obtain⟨_,_,_,p⟩:=x;exact p.lt
 |dK k=>obtain⟨_,_,_,_,o,_,_,e,_⟩:=x;exact AU e
 |dT k=>obtain⟨_,_,_,_,o,_,_,e,_⟩:=x;exact AU e
 |set S n=>obtain⟨o,_,_,_,e,_⟩:=x;exact AU e
 |ins C g fs=>obtain⟨_,_,_,e,_⟩:=x;exact AU e
 |own y=>obtain⟨_,e⟩:=x;exact AU e
 |xd fs=>obtain⟨_,⟨_,_,_,e,_⟩,_⟩:=x;exact AU e
 |v8 lo hi=>obtain⟨_,_,_,e⟩:=x;exact AU e
 |el ob u=>obtain⟨e,_⟩:=x;exact AU e
 |XO ps=>exact AU (show h.get? a=a! _ from x)
 |kW p q=>obtain⟨_,e,_⟩:=x;exact AU e
 |met f y=>exact AU (show h.get? a=a! _ from x)
 |ext c=>obtain⟨_,⟨_,e⟩,_⟩:=x;exact AU e
theorem Paired.ō {e c:Type}{F G:e->c->Prop}:∀{L:List e} {l:List c},Paired F L l->(∀a b,F a b->G a b)->Paired G L l
 |_,_,.nil,_=>.nil
 |_,_,.cons r t,f=>.cons (f _ _ r) (Paired.ō t f)
theorem eh.nV (x:eh P w H h a o)(k:∀b u,(b=a∨H b=a! (.own a))->h.get? b=a! u->h'.get? b=a! u)
  (Q:∀b,H b=a! (.own a)->H' b=a! (.own a)) (ht:∀b u,H b=a! u->ZH u->H' b=a! u):eh P w H' h' a o:=by
 induction o with
 |lst xs=>obtain⟨z,T,n,r,e⟩:=x;exact⟨z,T,n,r,k _ _ (.inl rfl) e⟩
 |tup xs=>obtain⟨z,T,r,ob,e,c⟩:=x;exact⟨z,T,r,ob,k _ _ (.inl rfl) e,c⟩
 |dK l=>obtain⟨z,y,vs,r,ob,g,j,e,c⟩:=x;exact⟨z,y,vs,r,ob,g,j,k _ _ (.inl rfl) e,c⟩
 |dT l=>
  obtain⟨z,y,xs,r,ob,g,j,e,c⟩:=x;exact⟨z,y,xs,Paired.ō r λp q z=>⟨z.1,ht _ _ z.2.1 (.inl ⟨_,rfl⟩),z.2.2⟩,ob,g,j,k _ _ (.inl rfl) e,c⟩
 |set S n=>obtain⟨ob,g,j,t,e,c⟩:=x;exact⟨ob,g,j,t,k _ _ (.inl rfl) e,c⟩
 |ins C dx fs=>
  obtain⟨d,z,ne,e,m,⟨O,g,j,B,c⟩,r⟩:=x;exact⟨Q _ d,z,ne,k _ _ (.inl rfl) e,m,⟨O,g,j,k _ _ (.inr d) B,c⟩,r⟩
 |own y=>obtain⟨ob,e⟩:=x;exact⟨ob,k _ _ (.inl rfl) e⟩
 |xd fs=>obtain⟨m,⟨O,g,j,e,c⟩,r⟩:=x;exact⟨m,⟨O,g,j,k _ _ (.inl rfl) e,c⟩,r⟩
 |v8 lo hi=>obtain⟨t,u,v,e⟩:=x;exact⟨t,u,v,k _ _ (.inl rfl) e⟩
 |el ob u L=>obtain⟨e,q⟩:=x;exact⟨k _ _ (.inl rfl) e,L q⟩
 |XO ps=>
  have e:h.get? a=a! {cls:=.none,data:=.fields ps}:=x;show h'.get? a=a! {cls:=.none,data:=.fields ps}
  exact k a _ (.inl rfl) e
 |kW p q=>
  obtain⟨ps,e,A,hc⟩:=x;exact⟨ps,k _ _ (.inl rfl) e,A,λv M=>let⟨c,J,U,B,G⟩:=hc v M;⟨c,J,U,ht _ _ B (.inr ⟨_,_,_,rfl,G⟩),G⟩⟩
 |met f y=>
  have e:h.get? a=a! (HQ (.ref f) (.ref y)):=x;show h'.get? a=a! (HQ (.ref f) (.ref y))
  exact k a _ (.inl rfl) e
 |ext φ=>obtain⟨p,⟨o,e⟩,st⟩:=x;exact⟨st _ _ p λo q=>k _ _ (.inl rfl) q,⟨o,k _ _ (.inl rfl) e⟩,st⟩
theorem jY.lt (x:jY P w H h)(e:H a=a! o):a<h.objs.size:=(x a o e).lt
theorem jY.fresh (x:jY P w H h)(e:h.objs.size<=a):H a=none:=by
 cases q:H a with
 |none=>rfl
 |some u=>exact absurd (AS (x.lt q) e) (B7 _)
theorem jY.kept (x:jY P w H h)(k:∀b u,h.get? b=a! u->h'.get? b=a! u):jY P w H h':=λa o e=>
 (x a o e).nV (λb u _ q=>k b u q) (λ_ q=>q) λ_ _ q _=>q
theorem jY.laid (x:jY P w H h)(k:∀b u,h.get? b=a! u->h'.get? b=a! u)(p:h.objs.size<=a)(new:eh P w (cQ H a o) h' a o):jY P w (cQ H a o) h':=λb u e=>by
 have hn:=x.fresh p;by_cases B:b=a
 .subst B;rw[aZ]at e;cases e;exact new
 .rw [bJ B]at e;exact (x b u e).nV (λc v _ q=>k c v q) (λc q=>by rw[bJ (fE q hn)];exact q) λc xs q _=>by rw[bJ (fE q hn)];exact q
end
def Rd (H:Hp)(a:Ae)(u:HO):Prop:=H a=a! u∨∃o,H a=a! (.el o u)
theorem Rd.ok {P:AA}{w:AR}{H:Hp}(r:Rd H a u)(x:jY P w H h):eh P w H h a u:=by
 rcases r with r | ⟨o,r⟩
 .exact x a u r
 .obtain ⟨_,q⟩:=x a _ r;exact q
def ϻ:Option HO->Prop
 |some (.lst _)=>True
 |some (.dK _)=>True
 |some (.dT _)=>True
 |some (.set _ _)=>True
 |some (.ins _ _ _)=>True
 |some (.ext _)=>True
 |_=>False
section
variable {P:AA}{w:AR}{H:Hp}{h h':Heap}{x e:Ae}{o':HO}
theorem jY.write (ok:jY P w H h)(mu:ϻ (H x))(f:e=x∨H e=a! (.own x))(k:∀b u,b≠e->h.get? b=a! u->h'.get? b=a! u)(o:∃u,h'.get? e=a! u)
  (new:eh P w (cQ H x o') h' x o'):jY P w (cQ H x o') h':=λb u q=>by
 have n:∀c y,H c=a! (.own y)->c≠x:=λc y r z=>by subst z;rw[r]at mu;exact mu
 have t:∀c u,H c=a! u->ZH u->c≠x:=λc u r i z=>by subst z;rw[r]at mu;rcases i with⟨_,rfl⟩ | ⟨_,_,_,rfl,_⟩<;>exact mu
 by_cases a:b=x
 .subst a;rw[aZ]at q;cases q;exact new
 .rw [bJ a]at q;by_cases B:b=e
  .have q':H b=a! (.own x):=by
    rcases f with z |z
    .exact absurd (B.trans z) a
    .rw [B];exact z
   rw[q]at q';cases q';obtain⟨v,g⟩:=o;exact⟨v,by rw[B];exact g⟩
  .refine (ok b u q).nV (λc v hc r=>k c v ?_ r) (λc r=>by rw[bJ (n c b r)];exact r) λc xs r i=>by rw[bJ (t c xs r i)];exact r
   rcases hc with rfl |hc
   .exact B
   .rintro rfl;rcases f with z |z
    .exact n c b hc z
    .rw [hc]at z;cases z;exact a rfl
end
structure Un (fs ex:List Ae) (H H':Hp) (h h':Heap):Prop where
 keep:∀b o,h.get? b=a! o->H b=a?->b∉fs->b∉ex->h'.get? b=a! o
 slot:∀b o,h.get? b=a! o->H b=a?->b∈fs->b∉ex->∃sl,h'.get? b=a! {o with slots:=sl}
 free:∀b o,h.get? b=a! o->H b=a?->b∉ex->H' b=a?
 there:∀b o,h.get? b=a! o->b∉ex->∃o',h'.get? b=a! o'
 lW:∀b xs,H b=a! (.tup xs)->H' b=a! (.tup xs)
 jW:∀b o u,H b=a! (.el o u)->H' b=a! (.el o u)
 lX:∀b ps,H b=a! (.XO ps)->∃more,H' b=a! (.XO (ps++more))
section
variable {fs fs' ex ex':List Ae}{H H1 H2:Hp}{h h1 h2 h':Heap}{a x e:Ae}{o:HO}
theorem Un.any (u:Un fs ex H H1 h h1)(q:h.get? b=a! ob)(n:H b=a?)(c:b∉ex):∃l,h1.get? b=a! {ob with slots:=l}:=by
 by_cases B:b∈fs
 .exact u.slot b ob q n B c
 .exact ⟨ob.slots,u.keep b ob q n B c⟩
theorem Un.trans (a:Un fs ex H H1 h h1)(b:Un fs ex H1 H2 h1 h2):Un fs ex H H2 h h2 where
 keep:=λc ob q n hc hx=>b.keep c ob (a.keep c ob q n hc hx) (a.free c ob q n hx) hc hx
 slot:=λc ob q n hc hx=>by
  obtain⟨sl,e1⟩:=a.slot c ob q n hc hx;obtain⟨sl',e2⟩:=b.slot c _ e1 (a.free c ob q n hx) hc hx;exact⟨sl',e2⟩
 free:=λc ob q n hx=>by
  obtain⟨o',e1⟩:=a.there c ob q hx;exact b.free c o' e1 (a.free c ob q n hx) hx
 there:=λc ob q hx=>by
  obtain⟨o',e1⟩:=a.there c ob q hx;exact b.there c o' e1 hx
 lW:=λc xs q=>b.lW c xs (a.lW c xs q)
 jW:=λc ob xs q=>b.jW c ob xs (a.jW c ob xs q)
 lX:=λc ps q=>by
  obtain⟨m1,e1⟩:=a.lX c ps q;obtain⟨m2,e2⟩:=b.lX c _ e1;exact⟨m1++m2,by rw[e2,FG]⟩
theorem Un.kept (k:∀b u,h.get? b=a! u->h'.get? b=a! u):Un fs ex H H h h':=
 ⟨λb ob q _ _ _=>k b ob q,λb ob q _ _ _=>⟨ob.slots,k b ob q⟩,λ_ _ _ n _=>n,λb ob q _=>⟨ob,k b ob q⟩,λ_ _ q=>q,λ_ _ _ q=>q,λ_ ps q=>⟨#[],by rw[q];simp⟩⟩
theorem Un.refl:Un fs ex H H h h:=Un.kept λ_ _ q=>q
theorem Un.laid (k:∀b u,h.get? b=a! u->h'.get? b=a! u)(hp:h.objs.size<=a)(hn:H a=a?):Un fs ex H (cQ H a o) h h' where
 keep:=λb u q _ _ _=>k b u q
 slot:=λb u q _ _ _=>⟨u.slots,k b u q⟩
 free:=λb u q n _=>by rw[bJ (Bq (AS (AU q) hp))];exact n
 there:=λb u q _=>⟨u,k b u q⟩
 lW:=λb xs q=>by rw[bJ (fE q hn)];exact q
 jW:=λb u xs q=>by rw[bJ (fE q hn)];exact q
 lX:=λb ps q=>⟨#[],by rw[bJ (fE q hn),q];simp⟩
theorem Un.write (mu:ϻ (H x))(g:e=x∨H e=a! (.own x))(k:∀b u,b≠e->h.get? b=a! u->h'.get? b=a! u)(O:∃u,h'.get? e=a! u):Un fs ex H (cQ H x o) h h':=by
 have c:∀b,H b=a?->b≠x:=λb n z=>by subst z;rw[n]at mu;exact mu
 have f:∀b,H b=a?->b≠e:=λb n z=>by
  subst z;rcases g with r |r
  .exact c b n r
  .rw [n]at r;cases r
 have m:∀b u,H b=a! u->¬ ϻ (a! u)->b≠x:=λb u q nm z=>by subst z;rw[q]at mu;exact nm mu
 refine⟨λb u q n _ _=>k b u (f b n) q,λb u q n _ _=>⟨u.slots,k b u (f b n) q⟩,λb u q n _=>by rw[bJ (c b n)];exact n,λb u q _=>?_,
  λb xs q=>by rw[bJ (m b _ q λz=>z)];exact q,λb u xs q=>by rw[bJ (m b _ q λz=>z)];exact q,λb ps q=>⟨#[],by rw[bJ (m b _ q λz=>z),q];simp⟩⟩
 by_cases B:b=e
 .subst B;exact O
 .exact ⟨u,k b u B q⟩
end
noncomputable def Ϧ (h:Heap)(H:Hp):List Ae:=(AF h.objs.size).filter λa=>(H a).isSome
def nk (h:Heap)(H:Hp):Heap:=PySem.W.hideAll h (Ϧ h H)
theorem u0 (h:Heap)(H:Hp):(nk h H).objs.size=h.objs.size:=PySem.W.hideAll_size _ _
theorem nj {H:Hp}(e:h.get? b=a! o)(n:H b=a?):(nk h H).get? b=a! o:=
 PySem.W.hideAll_get _ e λm=>by
  have q:(H b).isSome=true:=(Dq.mp m).2;rw[n]at q;simp at q
theorem NZ {H:Hp}(e:(nk h H).get? b=a! o):h.get? b=a! o/\H b=none:=by
 have e':h.get? b=a! o:=PySem.W.of_hideAll (Ϧ h H) e;refine⟨e',?_⟩
 cases q:H b with
 |none=>rfl
 |some x=>
  have m:b∈Ϧ h H:=Dq.mpr ⟨BV.mpr (AU e'),by simp[q]⟩;have z:(nk h H).get? b=none:=PySem.W.hideAll_none (Ϧ h H) m;rw[z]at e;cases e
noncomputable def XB (g h:Heap)(L:Ae):List (Ae×CJ):=(AF h.objs.size).filterMap λa=>if a=L∨(g.get? a).isSome=b! then a? else (h.get? a).map λo=>(a,o)
def da (g h:Heap)(L d:Ae):List (Ae×CJ):=(XB g h L).filter λp=>decide (p.1≠d)
structure Mod (K:Aq) (mg:Al->Option Aa) (base:Heap):Prop where
 WW:K.In base
 glob:base.Ns Aj mg
 blt:∃mb,base.Ns Fm mb/\∀x:Al,x ≠ "__name__"->mb x=C5 x
 nolimit:base.NoLimit
structure Cx where
 prog:AA
 w:AR
 K:Aq
 mg:Al->Option Aa
 base:Heap
 A:AN
 N:List Al
 s₀:Af
 H₀:Hp
 env:Ed
 outer:List Ed
 stack:List Ed
 ex:List Ae
 fn:Al->Bool
 calm:Bool
 pn:List (Ae×CJ)
 xe:Aa->Af->Prop
noncomputable def iY (l:List Ed):List Ae:=l.filterMap (·.frame)
abbrev Cx.fs (X:Cx):List Ae:=iY X.outer
def Ă (sc:BM)(x:Al):Prop:=sc.names.lookup x=a! .local∨sc.names.lookup x=a! .cell∨sc.names.lookup x=a! .free
def ĉ (sc:BM)(x:Al):Prop:=sc.names.lookup x=a! .local∨sc.names.lookup x=a! .cell
def ϒ (env:Ed)(h:Heap)(m:Al->Option Aa)(x:Al)(u:Aa):Prop:=
 (env.kindOf x=a! .local/\m x=a! u)∨((env.kindOf x=a! .cell∨env.kindOf x=a! .free)/\∃c,env.cells.lookup x=a! c/\h.IsCell c (a! u))
structure Cx.Ok (X:Cx):Prop where
 mod:Mod X.K X.mg X.base
 kind:X.env.scope.kind = .function
 glob:X.env.globals=Aj
 blt:X.env.builtins=Fm
 above:X.s₀.heap.objs.size<=X.env.locals
 inj:∀x y c,X.env.cells.lookup x=a! c->X.env.cells.lookup y=a! c->x=y
 has:∀x,(X.env.kindOf x=a! .cell∨X.env.kindOf x=a! .free)->∃c,X.env.cells.lookup x=a! c
 Xn:∀x c,X.fn x=b!->X.env.cells.lookup x=a! c->X.s₀.heap.objs.size<=c
 hd:X.calm=b!->X.A.handled=a?
 frames:X.A.frames=a! X.stack
 đ:X.stack=X.outer∨(X.stack=X.env::X.outer/\X.env.frame=a! X.env.locals)
 ϶:∀b∈X.ex,b≠X.env.locals/\∀x c,X.env.cells.lookup x=a! c->c≠b
 bs:∀b o,X.base.get? b=a! o->X.s₀.heap.get? b=a! o/\X.H₀ b=a?
 MR:X.base.objs.size<=X.s₀.heap.objs.size
 L0:∀b o,X.base.get? b=a! o->b∉X.ex
 Qx:∀b∈X.ex,b∉X.fs
 jV:X.s₀.heap.FunFrames X.base X.outer
 Rb:∀b∈X.fs,X.H₀ b=a?
structure bC (X:Cx) (pins:List (Ae×CJ)) (Y:List (Option V)) (H:Hp) (s:Af):Prop where
 ok:X.Ok
 os:s.os=X.s₀.os
 bare:CH s.gens
 base:Un X.fs X.ex X.H₀ H X.s₀.heap s.heap
 loc:∃m,s.heap.Ns X.env.locals m/\∀(i:Nat) (x:Al) (v:V),X.N[i]?=a! x->Y[i]?=a! (a! v)->Ă X.env.scope x->∃u,cu v u/\ϒ X.env s.heap m x u
 cell:∀x c,X.env.cells.lookup x=a! c->∃v,s.heap.IsCell c v
 free:H X.env.locals=a?
 ie:∀x c,X.env.cells.lookup x=a! c->H c=a?
 pin:∀p∈X.pn++pins,s.heap.get? p.1=a! p.2/\H p.1=a?/\p.1≠X.env.locals/\p.1∉X.fs/\∀v,p.2.data≠.cell v
 cL:jY X.prog X.w H s.heap
 len:Y.length=X.N.length
section
variable {X:Cx}{pins:List (Ae×CJ)}{Y:List (Option V)}{H H':Hp}{s:Af}{h':Heap}
theorem Cx.Ok.Xal (ok:X.Ok)(e:X.base.get? b=a! o):b∉X.fs:=λh=>by
 have:=(ok.jV.mem h).1;rw[e]at this;cases this
theorem bC.bs (I:bC X pins Y H s):∀b o,X.base.get? b=a! o->s.heap.get? b=a! o/\H b=none:=λb o e=>
 ⟨I.base.keep b o (I.ok.bs b o e).1 (I.ok.bs b o e).2 (I.ok.Xal e) (I.ok.L0 b o e),I.base.free b o (I.ok.bs b o e).1 (I.ok.bs b o e).2 (I.ok.L0 b o e)⟩
theorem bC.bk (I:bC X pins Y H s):∀b o,X.base.get? b=a! o->s.heap.get? b=a! o:=λb o e=>(I.bs b o e).1
theorem bC.mod (I:bC X pins Y H s):Mod X.K X.mg X.base:=I.ok.mod
theorem bC.i_ (I:bC X pins Y H s):X.K.In s.heap:=I.ok.mod.WW.keeps I.bk
theorem bC.nolimit (I:bC X pins Y H s):s.heap.NoLimit:=I.ok.mod.nolimit.keeps I.bk
theorem bC.lt (I:bC X pins Y H s):X.env.locals<s.heap.objs.size:=let⟨_,hn,_⟩:=I.loc;hn.lt
theorem bC.sz (I:bC X pins Y H s):X.s₀.heap.objs.size<=s.heap.objs.size:=Bz I.ok.above (DJ I.lt)
theorem bC.Xak (I:bC X pins Y H s)(h:s.heap.objs.size<=a):a∉X.fs:=λB=>by
 obtain⟨_,o,O,_⟩:=I.ok.jV.mem B;exact absurd (AS (AU O) (Bz I.sz h)) (B7 _)
theorem bC.ML (I:bC X pins Y H s):∀x c,X.env.cells.lookup x=a! c->c≠X.env.locals:=λx c e z=>by
 obtain⟨v,o,O,hd⟩:=I.cell x c e;obtain⟨m,⟨f,g,p,h,a,_⟩,_⟩:=I.loc;rw[z,h]at O;cases O;rw[a]at hd;cases hd
theorem bC.jV (I:bC X pins Y H s):s.heap.FunFrames X.base X.outer:=by
 have all:∀(l:List Ed),(∀b∈iY l,b∈X.fs)->X.s₀.heap.FunFrames X.base l->s.heap.FunFrames X.base l:=by
  intro l
  induction l with
  |nil=>intro _ _;trivial
  |cons env r f=>
   intro c hl;obtain⟨k,⟨L,o,hf,hn,O,hd⟩,g⟩:=hl;have a:L∈X.fs:=c L (by unfold iY;rw[EL,hf];exact Ay);obtain⟨j,e⟩:=I.base.slot L o O (I.ok.Rb L a) a λz=>I.ok.Qx L z a
   exact⟨k,⟨L,_,hf,hn,e,hd⟩,f (λb h=>c b (by unfold iY;rw[EL,hf];exact Ax _ h)) g⟩
 exact all X.outer (λ_ h=>h) I.ok.jV
theorem bC.stack (I:bC X pins Y H s):s.heap.FunFrames X.base X.stack:=by
 rcases I.ok.đ with e | ⟨e,hf⟩
 .rw [e];exact I.jV
 .rw [e];obtain⟨m,hn,_⟩:=I.loc;refine .cons (by rw[I.ok.kind];decide) hf hn ?_ I.jV;exact Heap.get?_none_of_le (Bz I.ok.MR I.ok.above)
theorem bC.qF (I:bC X pins Y H s):∀b∈iY X.stack,b∈X.env.locals::X.fs:=λb h=>by
 rcases I.ok.đ with e | ⟨e,hf⟩
 .rw [e]at h;exact Ax _ h
 .rw [e]at h;unfold iY at h;rw[EL,hf]at h;exact h
theorem bC.k_ (I:bC X pins Y H s):∀b∈iY X.stack,H b=none:=λb h=>by
 rcases AJ.mp (I.qF b h) with e |h
 .rw [e];exact I.free
 .obtain ⟨_,o,O,_⟩:=I.ok.jV.mem h;exact I.base.free b o O (I.ok.Rb b h) λz=>I.ok.Qx b z h
theorem bC.step {g':Array KH}{t':Nat}{d':Drawn}{ch:List Ae}(I:bC X pins Y H s)
  (a:∀b∈ch,(b∈X.ex∨X.s₀.heap.objs.size<=b)/\b≠X.env.locals/\(∀x c,X.env.cells.lookup x=a! c->c≠b)/\∀p∈X.pn++pins,p.1≠b)
  (keep:∀b o,b≠X.env.locals->b∉X.fs->b∉ch->s.heap.get? b=a! o->H b=a?->h'.get? b=a! o)
  (slot:∀b o,b≠X.env.locals->b∈X.fs->b∉ch->s.heap.get? b=a! o->H b=a?->∃Q,h'.get? b=a! {o with slots:=Q}) (free:∀b o,b∉ch->s.heap.get? b=a! o->H b=a?->H' b=a?)
  (there:∀b o,b∉ch->s.heap.get? b=a! o->∃j,h'.get? b=a! j)
  (t:∀b xs,H b=a! (.tup xs)->H' b=a! (.tup xs)) (G:∀b o u,H b=a! (.el o u)->H' b=a! (.el o u)) (T:∀b ps,H b=a! (.XO ps)->∃more,H' b=a! (.XO (ps++more)))
  (ns:∀m,s.heap.Ns X.env.locals m->h'.Ns X.env.locals m) (U:jY X.prog X.w H' h') (hg:CH g'):
  bC X pins Y H' {s with heap:=h',gens:=g',drawn:=d',toks:=t'}:=by
 have A:∀b o,X.s₀.heap.get? b=a! o->b≠X.env.locals:=λb o e=>Bq (AS (AU e) I.ok.above)
 have f:∀b o,X.s₀.heap.get? b=a! o->b∉X.ex->b∉ch:=λb o e h B=>by
  rcases (a b B).1 with z |z
  .exact h z
  .exact absurd (AS (AU e) z) (B7 _)
 have L:∀x c,X.env.cells.lookup x=a! c->∀v,s.heap.IsCell c v->h'.IsCell c v:=λx c e v ⟨o,O,hd⟩=>by
  have C:c∉ch:=λz=>(a c z).2.2.1 x c e rfl
  by_cases hc:c∈X.fs
  .obtain ⟨Q,q⟩:=slot c o (I.ML x c e) hc C O (I.ie x c e);exact⟨_,q,hd⟩
  .exact ⟨o,keep c o (I.ML x c e) hc C O (I.ie x c e),hd⟩
 refine⟨I.ok,I.os,hg,⟨λb o e n B h=>?_,λb o e n B h=>?_,λb o e n h=>?_,λb o e h=>?_,λb xs e=>t b xs (I.base.lW b xs e),λb o xs e=>G b o xs (I.base.jW b o xs e),λb ps e=>?_⟩,?_,λx c e=>?_,?_,λx c e=>?_,λp hp=>?_,U,I.len⟩
 .exact keep b o (A b o e) B (f b o e h) (I.base.keep b o e n B h) (I.base.free b o e n h)
 .obtain ⟨Q,g⟩:=I.base.slot b o e n B h;obtain⟨M,J⟩:=slot b _ (A b o e) B (f b o e h) g (I.base.free b o e n h);exact⟨M,J⟩
 .obtain ⟨j,g⟩:=I.base.there b o e h;exact free b j (f b o e h) g (I.base.free b o e n h)
 .obtain ⟨j,g⟩:=I.base.there b o e h;exact there b j (f b o e h) g
 .obtain ⟨m1,g⟩:=I.base.lX b ps e;obtain⟨m2,J⟩:=T b _ g;exact⟨m1++m2,by rw[J,FG]⟩
 .obtain ⟨m,hn,hl⟩:=I.loc;refine⟨m,ns m hn,λi x v g J e3=>?_⟩;obtain⟨u,r,l⟩:=hl i x v g J e3;refine⟨u,r,?_⟩;rcases l with l | ⟨k,c,e,z⟩
  .exact .inl l
  .exact .inr ⟨k,c,e,L x c e _ z⟩
 .obtain ⟨v,z⟩:=I.cell x c e;exact⟨v,L x c e v z⟩
 .obtain ⟨m,⟨o,_,_,O,_⟩,_⟩:=I.loc;exact free _ o (λz=>(a _ z).2.1 rfl) O I.free
 .obtain ⟨v,o,O,hd⟩:=I.cell x c e;exact free c o (λz=>(a c z).2.2.1 x c e rfl) O (I.ie x c e)
 .obtain ⟨e,n,ne,nf,d⟩:=I.pin p hp;have C:p.1∉ch:=λz=>(a p.1 z).2.2.2 p hp rfl
  exact⟨keep p.1 p.2 ne nf C e n,free p.1 p.2 C e n,ne,nf,d⟩
theorem bC.un (I:bC X pins Y H s)(u:Un X.fs [] H H' s.heap h')(k:jY X.prog X.w H' h'):bC X pins Y H' {s with heap:=h',toks:=t'}:=by
 obtain⟨m,⟨o,j,q,O,r⟩,_⟩:=id I.loc;obtain⟨l,L⟩:=u.any O I.free (by simp);exact I.step (g':=s.gens) (d':=s.drawn) (ch:=[]) (λ_ z=>nomatch z) (λb o _ B _ e n=>u.keep b o e n B (by simp)) (λb o _ B _ e n=>u.slot b o e n B (by simp)) (λb o _ e n=>u.free b o e n (by simp)) (λb o _ e=>u.there b o e (by simp)) u.lW u.jW u.lX (λg M=>by
  obtain⟨f,a,p,h,c⟩:=M;rw[O]at h;cases h;exact⟨_,a,p,L,c⟩) k I.bare
theorem bC.call (I:bC X pins Y H s)(u:Un (iY X.stack) ch H H' s.heap h')(k:jY X.prog X.w H' h')(hg:CH g')
  (C:∀b∈ch,(b∈X.ex∨X.s₀.heap.objs.size<=b)/\b≠X.env.locals/\(∀x c,X.env.cells.lookup x=a! c->c≠b)/\∀p∈X.pn++pins,p.1≠b):
  bC X pins Y H' {s with heap:=h',gens:=g',drawn:=d',toks:=t'}:=by
 obtain⟨m,⟨o,t,v,O,r⟩,_⟩:=id I.loc;obtain⟨l,L⟩:=u.any O I.free λz=>(C _ z).2.1 rfl
 exact I.step C (λb o L B hc e n=>u.keep b o e n (λz=>(AJ.mp (I.qF b z)).elim L B) hc) (λb o _ _ hc e n=>u.any e n hc) (λb o hc e n=>u.free b o e n hc) (λb o hc e=>u.there b o e hc) u.lW u.jW u.lX (λq M=>by
  obtain⟨j,a,f,h,g⟩:=M;rw[O]at h;cases h;exact⟨_,a,f,L,g⟩) k hg
theorem bC.turned (I:bC X pins Y H s)(k:∀b o,b≠t->s.heap.get? b=a! o->h'.get? b=a! o)(hn:H t=a?)(h:t≠X.env.locals)
  (h1:t∈X.ex∨X.s₀.heap.objs.size<=t) (h2:∀x c,X.env.cells.lookup x=a! c->c≠t) (a:∀p∈X.pn++pins,p.1≠t):bC X pins Y H {s with heap:=h',toks:=t'}:=by
 have T:∀b u,H b=a! u->b≠t:=λb u e z=>by rw[z,hn]at e;cases e
 refine I.step (g':=s.gens) (d':=s.drawn) (ch:=[t]) (λb B=>?_) (λb o _ _ hc e _=>k b o (λz=>hc (by simp[z])) e) (λb o _ _ hc e _=>⟨o.slots,k b o (λz=>hc (by simp[z])) e⟩) (λ_ _ _ _ n=>n)
  (λb o hc e=>⟨o,k b o (λz=>hc (by simp[z])) e⟩) (λ_ _ e=>e) (λ_ _ _ e=>e) (λb ps e=>⟨#[],by rw[e];simp⟩) (λm M=>?_) (λb u e=>?_) I.bare
 .have e:b=t:=by simpa using B
  subst e;exact⟨h1,h,h2,a⟩
 .obtain ⟨o,f,g,O,r⟩:=M;exact⟨o,f,g,k _ o (Bb h) O,r⟩
 .refine (I.cL b u e).nV (λc v hc q=>k c v ?_ q) (λ_ q=>q) λ_ _ q _=>q
  rcases hc with z |z
  .rw [z];exact T b u e
  .exact T c _ z
theorem bC.tok (I:bC X pins Y H s)(t:Nat):bC X pins Y H {s with toks:=t}:=I.un (h':=s.heap) (t':=t) Un.refl I.cL
theorem bC.kept (I:bC X pins Y H s)(k:∀b u,s.heap.get? b=a! u->h'.get? b=a! u):bC X pins Y H {s with heap:=h',toks:=t'}:=I.un (Un.kept k) (I.cL.kept k)
theorem bC.laid (I:bC X pins Y H s)(k:∀b u,s.heap.get? b=a! u->h'.get? b=a! u)(h:s.heap.objs.size<=a)(new:eh X.prog X.w (cQ H a o) h' a o):
  bC X pins Y (cQ H a o) {s with heap:=h',toks:=t'}:=I.un (Un.laid k h (I.cL.fresh h)) (I.cL.laid k h new)
theorem bC.write (I:bC X pins Y H s)(mu:ϻ (H x))(a:e=x∨H e=a! (.own x))(k:∀b u,b≠e->s.heap.get? b=a! u->h'.get? b=a! u)(h:∃u,h'.get? e=a! u)
  (new:eh X.prog X.w (cQ H x o) h' x o):bC X pins Y (cQ H x o) {s with heap:=h',toks:=t'}:=I.un (Un.write mu a k h) (I.cL.write mu a k h new)
theorem bC.NT (I:bC X pins Y H s)(h:∀p∈n,s.heap.get? p.1=a! p.2/\H p.1=a?/\p.1≠X.env.locals/\p.1∉X.fs/\∀v,p.2.data≠.cell v):bC X n Y H s:=
 ⟨I.ok,I.os,I.bare,I.base,I.loc,I.cell,I.free,I.ie,λp a=>(AB.mp a).elim (λz=>I.pin p (Ez _ z)) (h p),I.cL,I.len⟩
theorem rX {N:List Al}(hN:N.Nodup){i j:Nat}{x:Al}(a:N[i]?=a! x)(b:N[j]?=a! x):i=j:=by
 obtain⟨h1,c⟩:=Ab.mp a;obtain⟨h2,e⟩:=Ab.mp b;exact (List.getElem_inj hN).mp (c.trans e.symm)
theorem uz {M:KE}{A:AN}{E:Aa->Af->Prop}{i:Nat}{x:Al}{v:V}{u:Aa}{Q:Unit->Af->Prop}(I:bC X pins Y H s)(hN:X.N.Nodup)(hi:X.N[i]?=a! x)(l:ĉ X.env.scope x)(r:cu v u)
  (h:∀s',bC X pins (Y.set i (a! v)) H s'->(∃a,Heap.SameBut a s.heap s'.heap/\(a=X.env.locals∨X.env.cells.lookup x=a! a))->Q () s') (hf:X.fn x=b!∨X.env.scope.names.lookup x=a! .local:=by first |exact .inl rfl |exact .inr rfl |assumption):AI M A (JW X.env x u) Q E s:=by
 obtain⟨m,hn,hl⟩:=id I.loc;have Xat:(X.env.scope.kind == .class || (X.env.scope.kind == .module && X.env.locals != X.env.globals))=false:=by rw[I.ok.kind];rfl
 have J:i<Y.length:=by rw[I.len];exact (Ab.mp hi).1
 have ML:=I.ML;have t:∀{a:Ae} {h':Heap},(∃o,s.heap.get? a=a! o/\H a=a?)->Heap.SameBut a s.heap h'->jY X.prog X.w H h':=λ{a h'} ha f b ob e=>by
  obtain⟨_,_,B⟩:=ha;refine (I.cL b ob e).nV (λc w' hc q=>(f.2 c ?_).trans q) (λ_ q=>q) λ_ _ q _=>q
  rintro rfl;rcases hc with rfl |hc
  .rw [B]at e;cases e
  .rw [B]at hc;cases hc
 rcases l with G |G
 .refine wpAny_storeName_local G hn (λh' hn' f=>?_) Xat;obtain⟨oL,_,_,hoL,_⟩:=id hn;refine h _ ⟨I.ok,I.os,I.bare,⟨λb o e n T l=>?_,λb o e n T l=>?_,I.base.free,λb o e l=>?_,I.base.lW,I.base.jW,I.base.lX⟩,⟨_,hn',λj y v' g C e3=>?_⟩,λy c e=>?_,I.free,I.ie,λp hp=>?_,t ⟨oL,hoL,I.free⟩ f,by simpa using I.len⟩ ⟨_,f,.inl rfl⟩
  .exact (f.2 b (Bq (AS (AU e) I.ok.above))).trans (I.base.keep b o e n T l)
  .obtain ⟨sl,g⟩:=I.base.slot b o e n T l;exact⟨sl,(f.2 b (Bq (AS (AU e) I.ok.above))).trans g⟩
  .obtain ⟨o',g⟩:=I.base.there b o e l;exact⟨o',(f.2 b (Bq (AS (AU e) I.ok.above))).trans g⟩
  .by_cases L:j=i
   .subst L;rw[hi]at g;cases g;rw[Aw J]at C;cases C;exact⟨u,r,.inl ⟨G,by simp⟩⟩
   .rw [AH (Bb L)]at C;obtain⟨u',r',q⟩:=hl j y v' g C e3;refine⟨u',r',?_⟩;rcases q with⟨k,e⟩ | ⟨k,c,e,z⟩
    .refine .inl ⟨k,?_⟩;have:y≠x:=λe=>L (rX hN g (e▸hi))
     simp[this,e]
    .exact .inr ⟨k,c,e,z.sameBut f (ML y c e)⟩
  .obtain ⟨w',z⟩:=I.cell y c e;exact⟨w',z.sameBut f (ML y c e)⟩
  .obtain ⟨e,n,ne,nf,d⟩:=I.pin p hp;exact⟨(f.2 p.1 ne).trans e,n,ne,nf,d⟩
 .have O:X.fn x=true:=by
   rcases hf with z |z
   .exact z
   .rw [z]at G;cases G
  obtain⟨c,hc⟩:=I.ok.has x (.inl G);obtain⟨w',z⟩:=I.cell x c hc;refine wpAny_storeName_cell I.ok.kind G hc z (λh' Ra f=>?_);obtain⟨oc,hoc,U⟩:=id z;refine h {s with heap:=h'} ⟨I.ok,I.os,I.bare,⟨λb o e n T l=>?_,λb o e n T l=>?_,I.base.free,λb o e l=>?_,I.base.lW,I.base.jW,I.base.lX⟩,⟨m,hn.sameBut f (Bb (ML x c hc)),λj y v' g C e3=>?_⟩,λy c' e=>?_,I.free,I.ie,λp hp=>?_,t ⟨oc,hoc,I.ie x c hc⟩ f,by simpa using I.len⟩ ⟨c,f,.inr hc⟩
  .exact (f.2 b (Bq (AS (AU e) (I.ok.Xn x c O hc)))).trans (I.base.keep b o e n T l)
  .obtain ⟨sl,g⟩:=I.base.slot b o e n T l;exact⟨sl,(f.2 b (Bq (AS (AU e) (I.ok.Xn x c O hc)))).trans g⟩
  .obtain ⟨o',g⟩:=I.base.there b o e l;exact⟨o',(f.2 b (Bq (AS (AU e) (I.ok.Xn x c O hc)))).trans g⟩
  .by_cases L:j=i
   .subst L;rw[hi]at g;cases g;rw[Aw J]at C;cases C;exact⟨u,r,.inr ⟨.inl G,c,hc,Ra⟩⟩
   .rw [AH (Bb L)]at C;obtain⟨u',r',q⟩:=hl j y v' g C e3;refine⟨u',r',?_⟩;rcases q with q | ⟨k,c',e,z'⟩
    .exact .inl q
    .refine .inr ⟨k,c',e,z'.sameBut f ?_⟩;rintro rfl;exact L (rX hN g (I.ok.inj _ _ _ e hc▸hi))
  .by_cases hcc:c'=c
   .subst hcc;exact⟨_,Ra⟩
   .obtain ⟨w2,z2⟩:=I.cell y c' e;exact⟨w2,z2.sameBut f hcc⟩
  .obtain ⟨e,n,ne,nf,d⟩:=I.pin p hp;refine⟨(f.2 p.1 ?_).trans e,n,ne,nf,d⟩;intro q;rw[q,hoc]at e;have q':oc=p.2:=AY e;exact d w' (by rw[<- q'];exact U)
theorem iM {A:AN}{E:Aa->Af->Prop}{Q:Unit->Af->Prop}(I:bC X pins Y H s)(hN:X.N.Nodup)(hi:X.N[i]?=a! x)(a:ĉ X.env.scope x)(r:cu v u)
  (h:∀s',bC X pins (Y.set i (a! v)) H s'->Q () s') (hf:X.fn x=b!∨X.env.scope.names.lookup x=a! .local:=by first |exact .inl rfl |exact .inr rfl |assumption):AI M A (JW X.env x u) Q E s:=
 uz I hN hi a r (λs' c _=>h s' c) hf
theorem bC.OA (I:bC X pins Y H s)(O:s'.os=s.os)(u:Un (iY X.stack) ch H H' s.heap s'.heap)(h:jY X.prog X.w H' s'.heap)(hg:CH s'.gens)
  (C:∀b∈ch,(b∈X.ex∨X.s₀.heap.objs.size<=b)/\b≠X.env.locals/\(∀x c,X.env.cells.lookup x=a! c->c≠b)/\∀p∈X.pn++pins,p.1≠b):bC X pins Y H' s':=by
 obtain⟨h',g',d',t',o⟩:=s';have e:o=s.os:=O;subst e;exact I.call (g':=g') (t':=t') (d':=d') u h hg C
end
abbrev XK:=Aa->Option Ae->Hp->Prop
abbrev St:=List (Option V)
abbrev VK:=V->Hp->Prop
abbrev TE:=St->Hp->VK->Prop
abbrev TT:=St->Hp->(Bool->Hp->Prop)->Prop
abbrev TA:=St->Hp->(List V->Hp->Prop)->Prop
structure QN where
 nx:St->Hp->Prop
 rt:VK
 bk:St->Hp->Prop:=λ_ _=>False
 ct:St->Hp->Prop:=λ_ _=>False
abbrev TS:=QN->St->Hp->Prop
def EP (X:Cx)(pins:List (Ae×CJ))(Y:St)(Q:VK)(u:Aa)(s':Af):Prop:=∃v a,bC X pins Y a s'/\cu v u/\Q v a
def TP (X:Cx)(pins:List (Ae×CJ))(Y:St)(Q:Bool->Hp->Prop)(b:Bool)(s':Af):Prop:=∃a,bC X pins Y a s'/\Q b a
def AP (X:Cx)(pins:List (Ae×CJ))(Y:St)(Q:List V->Hp->Prop)(us:List Aa)(s':Af):Prop:=∃vs a,bC X pins Y a s'/\bQ vs us/\Q vs a
def SP (X:Cx)(pins:List (Ae×CJ))(D:QN)(f:Flow)(s':Af):Prop:=
 match f with
 | .next=>∃c a,bC X pins c a s'/\D.nx c a
 | .brk=>∃c a,bC X pins c a s'/\D.bk c a
 | .cont=>∃c a,bC X pins c a s'/\D.ct c a
 | .ret u=>∃v c a,bC X pins c a s'/\cu v u/\D.rt v a
def PE (X:Cx)(e:Expr)(t:TE):Prop:=
 ∀(pins:List (Ae×CJ)) (s:Af) (Y:St) (H:Hp) (Q:VK),bC X pins Y H s->t Y H Q->AI (model X.prog X.w) X.A (eval e X.env) (EP X pins Y Q) X.xe s
def PT (X:Cx)(e:Expr)(t:TT):Prop:=
 ∀(pins:List (Ae×CJ)) (s:Af) (Y:St) (H:Hp) (Q:Bool->Hp->Prop),bC X pins Y H s->t Y H Q->AI (model X.prog X.w) X.A (isTrue e X.env (eval e X.env)) (TP X pins Y Q) X.xe s
def PW (X:Cx)(e:Expr)(t:TT):Prop:=
 ∀(whole:Ld Aa) (pins:List (Ae×CJ)) (s:Af) (Y:St) (H:Hp) (Q:Bool->Hp->Prop),bC X pins Y H s->t Y H Q->AI (model X.prog X.w) X.A (isTrue e X.env whole) (TP X pins Y Q) X.xe s
theorem PW.pt (h:PW X e t):PT X e t:=h _
def PA (X:Cx)(e:List Expr)(t:TA):Prop:=
 ∀(pos:Ew) (pins:List (Ae×CJ)) (s:Af) (Y:St) (H:Hp) (Q:List V->Hp->Prop),bC X pins Y H s->t Y H Q->AI (model X.prog X.w) X.A (spliced (BR pos (Ap e X.env))) (AP X pins Y Q) X.xe s
def PS (X:Cx)(st:A6)(t:TS):Prop:=
 ∀(pins:List (Ae×CJ)) (s:Af) (Y:St) (H:Hp) (D:QN),bC X pins Y H s->t D Y H->AI (model X.prog X.w) X.A (exec st X.env) (SP X pins D) X.xe s
def PSs (X:Cx)(st:List A6)(t:TS):Prop:=
 ∀(pins:List (Ae×CJ)) (s:Af) (Y:St) (H:Hp) (D:QN),bC X pins Y H s->t D Y H->AI (model X.prog X.w) X.A (execs st X.env) (SP X pins D) X.xe s
theorem cJ {c:Type}{t:Ld c}{Q e:c->Af->Prop}{M:KE}{A:AN}{E:Aa->Af->Prop}{s:Af}(h:AI M A t Q E s)(f:∀a s,Q a s->e a s):AI M A t e E s:=BC h f λ_ _ x=>x
section
variable {X:Cx}
def dy (i:Nat):TE:=λY H Q=>∃v,Y[i]?=a! (a! v)/\Q v H
def tC (v:V):TE:=λ_ H Q=>Q v H
theorem ZU (hN:X.N[i]?=a! x)(f:Ă X.env.scope x)(hd:(x==("__debug__":Al))=false:=by decide)(a:(x==("__classdict__":Al))=false:=by decide):PE X (.Name x pos) (dy i):=by
 intro pins s Y H Q I h;obtain⟨v,e,h⟩:=h;obtain⟨m,hn,hl⟩:=I.loc;obtain⟨u,r,l⟩:=hl i x v hN e f;have fin:EP X pins Y Q u s:=⟨v,H,I,r,h⟩
 rcases l with⟨k,M⟩ | ⟨k,c,hc,C⟩
 .exact Jm (IC I.ok.kind k hn M fin) hd
 .rcases k with k |k
  .exact Jm (Jd I.ok.kind k hc C fin) hd
  .exact Jm (wpAny_loadName_free I.ok.kind k hc C fin a) hd
theorem aJ {i j pos}:PE X (.Constant (.int i) j pos) (tC (.int i)):=λ_ _ _ H _ I h=>wpAny_Constant_int ⟨.int i,H,I.tok _,⟨_,rfl⟩,h⟩
theorem gO {b j pos}:PE X (.Constant (.bool b) j pos) (tC (.bl b)):=λ_ _ _ H _ I h=>Constant_bool ⟨.bl b,H,I,rfl,h⟩
theorem rD {j pos}:PE X (.Constant .none j pos) (tC .cA):=λ_ _ _ H _ I h=>Constant_none ⟨.cA,H,I,rfl,h⟩
theorem fo {x j pos}:PE X (.Constant (.str x) j pos) (tC (.str x)):=λ_ _ _ H _ I h=>Calls.Constant_str ⟨.str x,H,I.tok _,⟨_,rfl⟩,h⟩
def Gl (X:Cx)(x:Al):Prop:=X.env.kindOf x=a! .globalImplicit
theorem ib {E:Aa->Af->Prop}{Y:St}{H:Hp}{Q:Aa->Af->Prop}(I:bC X pins Y H s)(hg:Gl X x)(m:X.mg x=a! u)(h:Q u s)
  (hd:(x==("__debug__":Al))=false:=by decide):AI (model X.prog X.w) X.A (eval (.Name x pos) X.env) Q E s:=
 GA I.ok.kind hg (Calls.loadGlobal_global (by rw[I.ok.glob];exact I.mod.glob.keeps I.bk) m h) hd
theorem fY {E:Aa->Af->Prop}{Y:St}{H:Hp}{Q:Aa->Af->Prop}(I:bC X pins Y H s)(hg:Gl X x)(m:X.mg x=a?)(v:C5 x=a! u)(h:Q u s)
  (hn:x ≠ "__name__":=by decide) (hd:(x==("__debug__":Al))=false:=by decide):AI (model X.prog X.w) X.A (eval (.Name x pos) X.env) Q E s:=by
 obtain⟨M,h1,h2⟩:=I.mod.blt;exact GA I.ok.kind hg (Calls.loadGlobal_builtin (by rw[I.ok.glob];exact I.mod.glob.keeps I.bk) m (by rw[I.ok.blt];exact h1.keeps I.bk) ((h2 x hn).trans v) h) hd
theorem mX (hg:Gl X x)(m:X.mg x=a! u)(r:cu v u)(hd:(x==("__debug__":Al))=false:=by decide):PE X (.Name x pos) (tC v):=
 λ_ _ _ H _ I h=>ib I hg m ⟨v,H,I,r,h⟩ hd
theorem eV (hg:Gl X x)(m:X.mg x=a?)(a:C5 x=a! u)(r:cu v u)(hn:x ≠ "__name__":=by decide)(hd:(x==("__debug__":Al))=false:=by decide):PE X (.Name x pos) (tC v):=
 λ_ _ _ H _ I h=>fY I hg m a ⟨v,H,I,r,h⟩ hn hd
variable {a b:Expr}{ta tb:TE}{pos:Ew}
def PC (X:Cx)(op:KN)(a b:Expr)(t:TE):Prop:=
 ∀(pins:List (Ae×CJ)) (s:Af) (Y:St) (H:Hp) (Q:VK),bC X pins Y H s->t Y H Q->
  AI (model X.prog X.w) X.A (eval a X.env) (λv e=>AI (model X.prog X.w) X.A (eval b X.env) (λu c=>AI (model X.prog X.w) X.A (Cd op v u) (EP X pins Y Q) X.xe c) X.xe e) X.xe s
theorem TU (b:Expr){op:KN}(h:op≠.In)(h2:op≠.NotIn):Dc op b=false:=by
 have c:(op==KL)=false:=by cases op<;>first |rfl |exact absurd rfl h
 have e:(op==JQ)=false:=by cases op<;>first |rfl |exact absurd rfl h2
 cases b<;>simp[Dc,c,e]
def tB (t:TE):TT:=λY H Q=>t Y H λx e=>∃c,x = .bl c/\Q c e
theorem ZO {op:KN}{t:TE}(h:PC X op a b t)(h1:Dc op b=false:=by first |exact TU _ (by decide) (by decide) |rfl):PT X (.Compare a [op] [b] pos) (tB t):=by
 intro pins s Y H Q I hw;refine Im (cJ (h pins s Y H _ I hw) λv l h1=>cJ h1 λu k h2=>cJ h2 λc j z=>?_) h1;obtain⟨x,g,f,r,e⟩:=z;obtain⟨d,rfl,q⟩:=e;cases r;exact BO ⟨g,f,q⟩
theorem cD {e:Expr}{t:TE}(h:PE X e t)(f:∀whole,isTrue e X.env whole=(do let v <- whole;Gv e.pos;EQ [v] (LU v)):=by intro _;rfl):PT X e (tB t):=by
 intro pins s Y H Q I hw;refine Lv (cJ (h pins s Y H _ I hw) λv k z=>?_) (f _);obtain⟨x,j,g,r,c⟩:=z;obtain⟨d,rfl,q⟩:=c;cases r;exact BO ⟨j,g,q⟩
variable {tA ϧ:TT}{da:List Expr}
def İ (t u:TT):TT:=λY H Q=>t Y H λc e=>if c=b! then u Y e Q else Q b? e
def tOr (t u:TT):TT:=λY H Q=>t Y H λc e=>if c=b! then Q b! e else u Y e Q
def Zc (t:TT):TT:=λY H Q=>t Y H λc e=>Q (!c) e
theorem mW (A:PT X a tA):PW X (.BoolOp .And [a] pos) tA:=by
 intro w pins s Y H Q I h;refine Mc (cJ (A pins s Y H Q I h) λc f e=>?_)
 cases c with
 |true=>exact isTrue_and_nil e
 |false=>exact e
theorem iF (A:PT X a tA):PW X (.BoolOp .Or [a] pos) tA:=by
 intro w pins s Y H Q I h;refine isTrue_or (cJ (A pins s Y H Q I h) λc f e=>?_)
 cases c with
 |false=>exact isTrue_or_nil e
 |true=>exact e
theorem n_ (A:PT X a tA)(B:PW X (.BoolOp .And (b::da) pos) ϧ):PW X (.BoolOp .And (a::b::da) pos) (İ tA ϧ):=by
 intro w pins s Y H Q I h;refine Mc (cJ (A pins s Y H _ I h) λc g z=>?_);obtain⟨f,e,q⟩:=z
 cases c with
 |true=>exact B w pins g Y f Q e q
 |false=>exact⟨f,e,q⟩
theorem jM (A:PT X a tA)(B:PW X (.BoolOp .Or (b::da) pos) ϧ):PW X (.BoolOp .Or (a::b::da) pos) (tOr tA ϧ):=by
 intro w pins s Y H Q I h;refine isTrue_or (cJ (A pins s Y H _ I h) λc g z=>?_);obtain⟨f,e,q⟩:=z
 cases c with
 |true=>exact⟨f,e,q⟩
 |false=>exact B w pins g Y f Q e q
theorem dq (A:PT X a tA):PT X (.UnaryOp .Not a pos) (Zc tA):=by
 intro pins s Y H Q I h;exact isTrue_not (A pins s Y H (λc e=>Q (!c) e) I h)
def X0 (ta tb:TE):TE:=λY H Q=>ta Y H λx e=>∃c,x = .bl c/\if c=b! then tb Y e Q else Q (.bl b?) e
def Į (ta tb:TE):TE:=λY H Q=>ta Y H λx e=>∃c,x = .bl c/\if c=b! then Q (.bl b!) e else tb Y e Q
def XU (ta:TE):TE:=λY H Q=>ta Y H λx e=>∃c,x = .bl c/\Q (.bl (!c)) e
theorem kL {op}(h:PE X a t):PE X (.BoolOp op [a] pos) t:=λpins s Y H Q I hw=>BoolOp_one (h pins s Y H Q I hw)
theorem mf (A:PE X a ta)(B:PE X (.BoolOp .And (b::da) pos) tb):PE X (.BoolOp .And (a::b::da) pos) (X0 ta tb):=by
 intro pins s Y H Q I h;refine BoolOp_and (cJ (A pins s Y H _ I h) λv g z=>?_);obtain⟨x,f,e,r,q⟩:=z;obtain⟨c,rfl,q⟩:=q;cases r;refine BO ?_
 cases c with
 |true=>exact B pins g Y f Q e q
 |false=>exact⟨.bl b?,f,e,rfl,q⟩
theorem Yl (A:PE X a ta)(B:PE X (.BoolOp .Or (b::da) pos) tb):PE X (.BoolOp .Or (a::b::da) pos) (Į ta tb):=by
 intro pins s Y H Q I h;refine BoolOp_or (cJ (A pins s Y H _ I h) λv g z=>?_);obtain⟨x,f,e,r,q⟩:=z;obtain⟨c,rfl,q⟩:=q;cases r;refine BO ?_
 cases c with
 |false=>exact B pins g Y f Q e q
 |true=>exact⟨.bl b!,f,e,rfl,q⟩
theorem Cs (A:PE X a ta):PE X (.UnaryOp .Not a pos) (XU ta):=by
 intro pins s Y H Q I h;refine UnaryOp_ (cJ (A pins s Y H _ I h) λv g z=>?_);obtain⟨x,f,e,r,q⟩:=z;obtain⟨c,rfl,q⟩:=q;cases r;exact not_of (BO ⟨.bl (!c),f,e,rfl,q⟩)
def tIf (t:TT)(ta tb:TE):TE:=λY H Q=>t Y H λc e=>if c=b! then ta Y e Q else tb Y e Q
theorem rH {c:Expr}(hc:PT X c tA)(A:PE X a ta)(B:PE X b tb):PE X (.IfExp c a b pos) (tIf tA ta tb):=by
 intro pins s Y H Q I h;refine wpAny_IfExp (cJ (hc pins s Y H _ I h) λd e z=>?_);obtain⟨g,f,q⟩:=z
 cases d with
 |true=>exact A pins e Y g Q f q
 |false=>exact B pins e Y g Q f q
end
def eQ (K:Aq)(H:Hp)(a:Ae)(xs:List V):Prop:=
 Rd H a (.lst xs)∨
  ∃(o:CJ) (t:Array Aa) (n:Nat),K.lookup a=a! o/\o.cls = .type "list"/\o.dict=a?/\o.data = .seq t n/\t.size<=AL/\bQ xs t.toList
def lA (K:Aq)(H:Hp)(a:Ae)(xs:List V):Prop:=
 Rd H a (.tup xs)∨
  ∃(o:CJ) (t:Array Aa) (n:Nat),K.lookup a=a! o/\o.cls = .type "tuple"/\o.data = .seq t n/\t.size<=AL/\bQ xs t.toList
noncomputable def Xa5:Aa->Option V
 | .none=>a! .cA
 | .bool b=>a! (.bl b)
 | .int i _=>a! (.int i)
 | .str x _=>a! (.str x)
 | .bytes b _=>a! (.OD b)
 | .float b _=>a! (.MB b)
 | .ref a=>a! (.ref a)
 | .type n=>a! (.ty n)
 |_=>a?
theorem cu.abs (r:cu x u):Xa5 u=a! x:=by
 cases x with
 |cA=>cases r;rfl
 |bl _=>cases r;rfl
 |int _=>obtain⟨t,rfl⟩:=r;rfl
 |str _=>obtain⟨t,rfl⟩:=r;rfl
 |OD _=>obtain⟨t,rfl⟩:=r;rfl
 |MB _=>obtain⟨t,rfl⟩:=r;rfl
 |ref _=>cases r;rfl
 |ty _=>cases r;rfl
theorem cu.inj (r:cu x u)(q:cu y u):x=y:=AY (r.abs.symm.trans q.abs)
theorem bQ.inj:∀{xs ys:List V} {us:List Aa},bQ xs us->bQ ys us->xs=ys
 |_,_,_,.nil,.nil=>rfl
 |_,_,_,.cons r t,.cons a t'=>by rw[r.inj a,bQ.inj t t']
section
variable {X:Cx}{pins:List (Ae×CJ)}{Y:St}{H:Hp}{s:Af}{a:Ae}{xs ys:List V}
theorem eQ.of {K:Aq}(h:H a=a! (.lst xs)):eQ K H a xs:=.inl (.inl h)
theorem bC.list (I:bC X pins Y H s)(h:eQ X.K H a xs):∃t:List Aa,bQ xs t/\PlainL s.heap a t.toArray/\xs.length<=AL:=by
 rcases h with h | ⟨o,t,n,k,hc,hd,c,f,r⟩
 .obtain ⟨z,t,n,r,e⟩:=h.ok I.cL;exact⟨t,r,⟨_,n,e,rfl,rfl,rfl⟩,z⟩
 .refine ⟨t.toList,r,⟨o,n,I.i_ a o k,hc,hd,c⟩,?_⟩;have e:=r.length;simp only[Ej]at e;lia
theorem bC.tuple (I:bC X pins Y H s)(h:lA X.K H a xs):∃t:List Aa,bQ xs t/\ES s.heap a t.toArray/\xs.length<=AL:=by
 rcases h with h | ⟨o,t,n,k,hc,c,f,r⟩
 .obtain ⟨z,t,r,p⟩:=h.ok I.cL;exact⟨t,r,p,z⟩
 .refine ⟨t.toList,r,⟨o,I.i_ a o k,hc,n,c⟩,?_⟩;have e:=r.length;simp only[Ej]at e;lia
theorem bC.yA (I:bC X pins Y H s)(h:eQ X.K H a xs)(h':eQ X.K H a ys):xs=ys:=by
 obtain⟨t,r,⟨o,n,e,_,_,d⟩,_⟩:=I.list h;obtain⟨its',c,⟨O,g,e',_,_,d'⟩,_⟩:=I.list h';rw[e]at e';cases e';rw[d]at d'
 injection d' with f _
 have:t=its':=by simpa using congrArg JD f
 subst this;exact r.inj c
theorem bC.uy (I:bC X pins Y H s)(h:lA X.K H a xs)(h':lA X.K H a ys):xs=ys:=by
 obtain⟨t,r,⟨o,e,_,n,d⟩,_⟩:=I.tuple h;obtain⟨its',c,⟨O,e',_,g,d'⟩,_⟩:=I.tuple h';rw[e]at e';cases e';rw[d]at d'
 injection d' with f _
 have:t=its':=by simpa using congrArg JD f
 subst this;exact r.inj c
end
noncomputable abbrev Cx.tJ (X:Cx)(E:Aa->Af->Prop):Cx:={X with xe:=E}
noncomputable abbrev Cx.lE (X:Cx):Cx:=X.tJ λ_ _=>False
theorem Cx.Ok.tJ {X:Cx}(ok:X.Ok)(E:Aa->Af->Prop):(X.tJ E).Ok:=
 ⟨ok.mod,ok.kind,ok.glob,ok.blt,ok.above,ok.inj,ok.has,ok.Xn,ok.hd,ok.frames,ok.đ,ok.϶,ok.bs,ok.MR,ok.L0,ok.Qx,ok.jV,ok.Rb⟩
theorem Cx.Ok.j5 {X:Cx}{E:Aa->Af->Prop}(ok:(X.tJ E).Ok):X.Ok:=
 ⟨ok.mod,ok.kind,ok.glob,ok.blt,ok.above,ok.inj,ok.has,ok.Xn,ok.hd,ok.frames,ok.đ,ok.϶,ok.bs,ok.MR,ok.L0,ok.Qx,ok.jV,ok.Rb⟩
section
variable {X:Cx}{pins:List (Ae×CJ)}{Y:St}{H:Hp}{s:Af}{E:Aa->Af->Prop}
theorem bC.tJ (I:bC X pins Y H s)(E:Aa->Af->Prop):bC (X.tJ E) pins Y H s:=⟨I.ok.tJ E,I.os,I.bare,I.base,I.loc,I.cell,I.free,I.ie,I.pin,I.cL,I.len⟩
theorem bC.j5 (I:bC (X.tJ E) pins Y H s):bC X pins Y H s:=⟨I.ok.j5,I.os,I.bare,I.base,I.loc,I.cell,I.free,I.ie,I.pin,I.cL,I.len⟩
theorem SP.j5 (h:SP (X.tJ E) pins D f s'):SP X pins D f s':=by
 cases f with
 |next=>obtain⟨a,c,I,q⟩:=h;exact⟨a,c,I.j5,q⟩
 |brk=>obtain⟨a,c,I,q⟩:=h;exact⟨a,c,I.j5,q⟩
 |cont=>obtain⟨a,c,I,q⟩:=h;exact⟨a,c,I.j5,q⟩
 |ret u=>obtain⟨v,a,c,I,r,q⟩:=h;exact⟨v,a,c,I.j5,r,q⟩
theorem PSs.lE {st:List A6}{t:TS}(h:PSs X.lE st t):PSs X st t:=λpins s Y H D I hw=>
 BC (h pins s Y H D (I.tJ _) hw) (λ_ _ q=>q.j5) λ_ _ z=>AZ z
end
section
variable {X:Cx}{st:A6}{da:List A6}{t u:TS}{e:Expr}{te:TE}{pos:Ew}
def Nh:TS:=λD Y H=>D.nx Y H
def lY (t u:TS):TS:=λD Y H=>t {D with nx:=u D} Y H
theorem bM:PSs X [] Nh:=λ_ _ Y H _ I h=>Dh ⟨Y,H,I,h⟩
theorem aG (h1:PS X st t)(h2:PSs X da u):PSs X (st::da) (lY t u):=by
 intro pins s Y H D I h;refine GK (cJ (h1 pins s Y H {D with nx:=u D} I h) λf a q=>?_)
 cases f with
 |next=>
  obtain⟨c,j,g,q⟩:=q;exact h2 pins a c j D g q
 |ret v=>exact q
 |brk=>exact q
 |cont=>exact q
theorem aI (h1:PS X st t):PSs X [st] t:=by
 intro pins s Y H D I h;refine GK (cJ (h1 pins s Y H D I h) λf a q=>?_)
 cases f with
 |next=>exact Dh q
 |ret v=>exact q
 |brk=>exact q
 |cont=>exact q
def RJ:TS:=λD Y H=>D.bk Y H
theorem S7:PS X (.Break pos) RJ:=λ_ _ Y H _ I h=>wpAny_Break ⟨Y,H,I,h⟩
theorem bC.quiet {Y:St}{H:Hp}(I:bC X pins Y H s):interactive X.env=false:=by simp[interactive,I.ok.kind]
def jD (te:TE):TS:=λD Y H=>te Y H λ_ a=>D.nx Y a
theorem bY (c:PE X e te)(a:GN e a? pos.line X.env=pure false:=by rfl):PS X (.Expr e pos) (jD te):=by
 intro pins s Y H D I h;refine Kr (cJ (c pins s Y H _ I h) λv j z=>?_) I.quiet a;obtain⟨x,g,f,r,q⟩:=z;exact⟨Y,g,f,q⟩
def Px (te:TE):TS:=λD Y H=>te Y H D.rt
theorem aX (a:PE X e te):PS X (.Return (a! e) pos) (Px te):=by
 intro pins s Y H D I h;refine wpAny_Return_some (cJ (a pins s Y H _ I h) λv g z=>?_);obtain⟨x,f,c,r,q⟩:=z;exact⟨x,Y,f,c,r,q⟩
def XS:TS:=λD _ H=>D.rt .cA H
theorem We:PS X (.Return a? pos) XS:=λ_ _ Y H _ I h=>wpAny_Return_none ⟨.cA,Y,H,I,rfl,h⟩
def zD (c:TT)(t u:TS):TS:=λD Y H=>c Y H λb a=>if b=b! then t D Y a else u D Y a
theorem cj {c:Expr}{a b:List A6}{T:TT}(hc:PT X c T)(A:PSs X a t)(B:PSs X b u):PS X (.If c a b pos) (zD T t u):=by
 intro pins s Y H D I h;refine wpAny_If (cJ (hc pins s Y H _ I h) λd f z=>?_);obtain⟨j,g,q⟩:=z
 cases d with
 |true=>exact A pins f Y j D g q
 |false=>exact B pins f Y j D g q
def RD:TS:=λ_ _ _=>False
theorem kH:PS X st RD:=λ_ _ _ _ _ _ h=>h.elim
end
abbrev TG:=V->St->Hp->(St->Hp->Prop)->Prop
abbrev Ą:=List V->St->Hp->(St->Hp->Prop)->Prop
def PG (X:Cx)(target:Expr)(t:TG):Prop:=
 ∀(pins:List (Ae×CJ)) (s:Af) (Y:St) (H:Hp) (v:V) (u:Aa) (Q:St->Hp->Prop),bC X pins Y H s->cu v u->t v Y H Q->
  AI (model X.prog X.w) X.A (Hi target X.env u) (λ_ s'=>∃a c,bC X pins a c s'/\Q a c) X.xe s
def PGs (X:Cx)(ts:List Expr)(t:Ą):Prop:=
 ∀(pins:List (Ae×CJ)) (s:Af) (Y:St) (H:Hp) (vs:List V) (us:List Aa) (Q:St->Hp->Prop),bC X pins Y H s->bQ vs us->t vs Y H Q->
  AI (model X.prog X.w) X.A (assignInOrder ((Fo ts X.env).map (·.2)) us) (λ_ s'=>∃a c,bC X pins a c s'/\Q a c) X.xe s
abbrev QJ:=V->V->V->Hp->(Hp->Prop)->Prop
def Ć (X:Cx)(t:QJ):Prop:=
 ∀(pins:List (Ae×CJ)) (s:Af) (Y:St) (H:Hp) (o i v:V) (O a u:Aa) (Q:Hp->Prop),bC X pins Y H s->cu o O->cu i a->cu v u->t o i v H Q->
  AI (model X.prog X.w) X.A (Lg O a u) (λ_ s'=>∃c,bC X pins Y c s'/\Q c) X.xe s
abbrev ě:=V->V->Hp->VK->Prop
def PIp (X:Cx)(op:IM)(t:ě):Prop:=
 ∀(pins:List (Ae×CJ)) (s:Af) (Y:St) (H:Hp) (x y:V) (v u:Aa) (Q:VK),bC X pins Y H s->cu x v->cu y u->t x y H Q->
  AI (model X.prog X.w) X.A (JX op v u) (EP X pins Y Q) X.xe s
section
variable {X:Cx}{pos:Ew}
def gU (i:Nat):TG:=λv Y H Q=>Q (Y.set i (a! v)) H
theorem bB (hN:X.N.Nodup)(hi:X.N[i]?=a! x)(a:ĉ X.env.scope x)(hf:X.fn x=b!∨X.env.scope.names.lookup x=a! .local:=by first |exact .inl rfl |exact .inr rfl |assumption):PG X (.Name x pos) (gU i):=by
 intro pins s Y H v u Q I r h;exact JF (iM I hN hi a r (λs' c=>⟨_,H,c,h⟩) hf)
def ţ:Ą:=λvs Y H Q=>vs=[]/\Q Y H
def YB (t:TG)(u:Ą):Ą:=λvs Y H Q=>∃v r,vs=v::r/\t v Y H λa c=>u r a c Q
theorem jv:PGs X [] ţ:=by
 intro pins s Y H vs us Q I r h;obtain⟨e,h⟩:=h;subst e;exact assignInOrder_nil ⟨Y,H,I,h⟩
theorem cS {e:Expr}{a:List Expr}{t:TG}{u:Ą}(h1:PG X e t)(h2:PGs X a u)
  (g:(Fo (e::a) X.env).map (·.2)=Hi e X.env::(Fo a X.env).map (·.2):=by rfl):PGs X (e::a) (YB t u):=by
 intro pins s Y H vs us Q I r h;obtain⟨v,n,j,h⟩:=h;subst j
 cases r with
 |cons r f=>
  rw[g];refine assignInOrder_cons (cJ (h1 pins s Y H _ _ _ I r h) λ_ c z=>?_);obtain⟨k,m,l,q⟩:=z;exact h2 pins c k m _ _ Q l f q
def Ţ (K:Aq)(n:Nat)(t:Ą):TG:=λv Y H Q=>∃a xs,v = .ref a/\lA K H a xs/\xs.length=n/\t xs Y H Q
theorem ma (hc:X.calm=b!)(h:PGs X c t)
  (hn:(Fo c X.env).length=n:=by rfl) (T:(Fo c X.env).findIdx? (·.1)=none:=by rfl):PG X (.Tuple c k pos) (Ţ X.K n t):=by
 intro pins s Y H v u Q I r hw;obtain⟨a,xs,l,q,hl,hw⟩:=hw;subst l;cases r;obtain⟨g,f,ht,z⟩:=I.tuple q;refine assign_Tuple_tuple (I.ok.hd hc) ht (by simp[hn,<- hl,f.length]) T λh' j=>?_
 have m:bC X pins Y H {s with heap:=h'}:=I.kept (t':=s.toks) λb o e=>j b o (Bq (AU e)) e
 exact h pins _ Y H xs _ Q m f hw
def Xb (T a:TE)(t:QJ):TG:=λv Y H Q=>T Y H λo f=>a Y f λi e=>t o i v e λc=>Q Y c
theorem me {o i:Expr}{T c:TE}{t:QJ}(n:PE X o T)(hi:PE X i c)(m:Ć X t)
  (L:∀v,Hi (.Subscript o i pos) X.env v=(do
   let O <- EQ [v] (eval o X.env)
   let a <- EQ [v,O] (eval i X.env)
   Gv pos
   EQ [v,O,a] (Lg O a v)
   release [v,O,a] []):=by intro _;rfl):PG X (.Subscript o i pos) (Xb T c t):=by
 intro pins s Y H v u Q I r h;refine Ac (DZ (cJ (n pins s Y H _ I h) λO f z=>?_));obtain⟨x,G,A,j,l⟩:=z;refine Ac (DZ (cJ (hi pins f Y G _ A l) λa e z=>?_));obtain⟨y,C,w,g,k⟩:=z;refine Ac (Hz (Ac (DZ (cJ (m pins e Y C x y v O a u _ w j g r k) λ_ J z=>?_))));obtain⟨B,p,q⟩:=z;exact wpAny_release ⟨Y,B,p,q⟩
def j6 (t:TE)(g:TG):TS:=λD Y H=>t Y H λx a=>g x Y a D.nx
theorem kI {t e:Expr}{T:TE}{g:TG}(f:PE X e T)(hg:PG X t g)(c:swapsWithSole [t] e pos.line X.env=pure false:=by rfl)(hw:swappedStores [t] e X.env=pure none:=by rfl)
  (h1:(Fo [t] X.env).map (·.2)=[Hi t X.env]:=by rfl):PS X (.Assign [t] e pos) (j6 T g):=by
 intro pins s Y H D I h;refine wpAny_Assign_stores (cJ (f pins s Y H _ I h) λv a z=>?_) c hw;obtain⟨x,k,j,r,Q⟩:=z;rw[h1];exact cJ (hg pins a Y k x v _ j r Q) λ_ l q=>q
theorem a5 {i:Nat}{x:Al}{e:Expr}{t:TE}{pos':Ew}(hN:X.N.Nodup)(hi:X.N[i]?=a! x)(a:ĉ X.env.scope x)(f:PE X e t)(c:GN e (a! (.Name x pos')) pos.line X.env=pure false:=by rfl)(hf:X.fn x=b!∨X.env.scope.names.lookup x=a! .local:=by first |exact .inl rfl |exact .inr rfl |assumption):
  PS X (.Assign [.Name x pos'] e pos) (j6 t (gU i)):=by
 intro pins s Y H D I h;refine wpAny_Assign_Name (cJ (f pins s Y H _ I h) λv m z=>?_) c;obtain⟨y,k,j,r,q⟩:=z;exact iM j hN hi a r (λl g=>⟨_,k,g,q⟩) hf
def į (i:Nat)(e:TE)(t:ě):TS:=λD Y H=>∃x,Y[i]?=a! (a! x)/\e Y H λy c=>t x y c λz a=>D.nx (Y.set i (a! z)) a
theorem ZQ {i:Nat}{x:Al}{e:Expr}{T:TE}{op:IM}{t:ě}{pos':Ew}(hN:X.N.Nodup)(hi:X.N[i]?=a! x)(o:ĉ X.env.scope x)(J:PE X e T)(O:PIp X op t)(hf:X.fn x=b!∨X.env.scope.names.lookup x=a! .local:=by first |exact .inl rfl |exact .inr rfl |assumption):
  PS X (.AugAssign (.Name x pos') op e pos) (į i T t):=by
 intro pins s Y H D I h;obtain⟨v,L,h⟩:=h;obtain⟨m,hn,hl⟩:=I.loc;have n:Ă X.env.scope x:=by rcases o with k |k;exact .inl k;exact .inr (.inl k)
 obtain⟨u,r,l⟩:=hl i x v hi L n;refine wpAny_AugAssign_Name ?_;have go:AI (model X.prog X.w) X.A (eval e X.env) (λw g=>AI (model X.prog X.w) X.A (JX op u w) (λr f=>AI (model X.prog X.w) X.A (JW X.env x r) (λ_=>SP X pins D .next) X.xe f) X.xe g) X.xe s:=by
  refine cJ (J pins s Y H _ I h) λw p j=>?_
  obtain⟨y,H1,I1,B,G⟩:=j;refine cJ (O pins p Y H1 v y u w _ I1 r B G) λz s2 j=>?_
  obtain⟨zv,H2,I2,q,Q⟩:=j;exact iM I2 hN hi o q (λs3 U=>⟨_,H2,U,Q⟩) hf
 rcases l with⟨a,M⟩ | ⟨a,c,hc,C⟩
 .exact IC I.ok.kind a hn M go
 .rcases a with a |a
  .exact Jd I.ok.kind a hc C go
  .rcases o with k |k
   .have:X.env.scope.names.lookup x=a! .free:=a;rw[k]at this;cases this
   .have:X.env.scope.names.lookup x=a! .free:=a;rw[k]at this;cases this
def XZ (T a e:TE)(g:V->V->Hp->VK->Prop)(p:ě)(t:QJ):TS:=λD Y H=>T Y H λo l=>a Y l λi k=>g o i k λx j=>e Y j λy h=>p x y h λz f=>t o i z f λc=>D.nx Y c
def ϐ (X:Cx)(t:V->V->Hp->VK->Prop):Prop:=
 ∀(pins:List (Ae×CJ)) (s:Af) (Y:St) (H:Hp) (o i:V) (v a:Aa) (Q:VK),bC X pins Y H s->cu o v->cu i a->t o i H Q->
  AI (model X.prog X.w) X.A (JH v a) (EP X pins Y Q) X.xe s
theorem Wf {o i e:Expr}{j k l:TE}{g:V->V->Hp->VK->Prop}{T:ě}{t:QJ}{op:IM}{p:Ew}(ho:PE X o j)(hi:PE X i k)(hg:ϐ X g)(he:PE X e l)(hp:PIp X op T)(hs:Ć X t)
  (ha:∀O a new,augStore i O a new=(do EQ [new,O,a] (Lg O a new);release [new,O,a] [];pure .next):=by intros;rfl):PS X (.AugAssign (.Subscript o i p) op e pos) (XZ j k l g T t):=by
 intro pins s Y H D I h;refine wpAny_AugAssign_SubscriptAny (cJ (ho pins s Y H _ I h) λO G z=>?_) ha;obtain⟨f,H1,I1,m,q1⟩:=z;refine cJ (hi pins G Y H1 _ I1 q1) λa C z=>?_
 obtain⟨c,H2,I2,r,q2⟩:=z;refine cJ (hg pins C Y H2 f c O a _ I2 m r q2) λold B z=>?_
 obtain⟨u,H3,I3,M,q3⟩:=z;refine cJ (he pins B Y H3 _ I3 q3) λv A z=>?_
 obtain⟨q,H4,I4,L,q4⟩:=z;refine cJ (hp pins A Y H4 u q old v _ I4 M L q4) λnew w z=>?_
 obtain⟨n,H5,I5,J,U⟩:=z;refine cJ (hs pins w Y H5 f c n O a new _ I5 m r J U) λ_ s6 z=>?_
 obtain⟨H6,I6,Q⟩:=z;exact⟨Y,H6,I6,Q⟩
def ipI (f:Int->Int->Int):ě:=λx y H Q=>∃i j,x = .int i/\y = .int j/\Q (.int (f i j)) H
theorem Us:PIp X .Add (ipI λi j=>i+j):=by
 intro pins s Y H x y v u Q I a r h;obtain⟨i,j,c,e,q⟩:=h;subst c;subst e;obtain⟨t,rfl⟩:=a;obtain⟨t',rfl⟩:=r;exact Iu ⟨.int _,H,I.tok _,⟨_,rfl⟩,q⟩
end
section
variable {X:Cx}{pos:Ew}
def zC (c:TT)(tb:TS):TS:=λD Y H=>∃W:Nat->St->Hp->Prop,(∃m,W m Y H)/\∀m Y H,W m Y H->
 c Y H λb e=>if b=b! then ∃N:St->Hp->Prop,(∀a f,N a f->∃M,M<m/\W M a f)/\tb {D with nx:=N,ct:=N,bk:=D.nx} Y e else D.nx Y e
theorem kG {c:Expr}{body:List A6}{t:TT}{tb:TS}(p:PassesOwn (model X.prog X.w) X.A X.env X.xe)(hc:PT X c t)(U:PSs X body tb):PS X (.While c body [] pos) (zC t tb):=by
 intro pins s Y H D I h;obtain⟨W,⟨T,J⟩,turn⟩:=h;refine wpAny_While (codeAny_whileLoop (λn s'=>∃o B,bC X pins o B s'/\W n o B) ?_ T ⟨Y,H,I,J⟩);rintro n O ⟨g,z,I1,G⟩;refine CK p (cJ (hc pins O g z _ I1 (turn n g z G)) λb L C=>?_);obtain⟨u,r,Q⟩:=C
 cases b with
 |true=>
  obtain⟨N,hN,Q⟩:=Q;refine CK p (cJ (U pins L g u _ r Q) λf s3 q=>?_)
  cases f with
  |next=>
   obtain⟨a,e,l,k⟩:=q;obtain⟨m,M,j⟩:=hN a e k;exact⟨m,M,a,e,l,j⟩
  |cont=>
   obtain⟨a,e,l,k⟩:=q;obtain⟨m,M,j⟩:=hN a e k;exact⟨m,M,a,e,l,j⟩
  |brk=>exact q
  |ret v=>exact q
 |false=>
  exact Dh ⟨g,u,r,Q⟩
end
structure It where
 go:Nat->Hp->Prop
 ϣ:Nat->Hp->V->Hp->Prop
 stop:Nat->Hp->Prop
def jZ (X:Cx)(pins:List (Ae×CJ))(H:Hp)(b:Ae):Prop:=
 H b=a?/\b≠X.env.locals/\b∉X.fs/\(b∈X.ex∨X.s₀.heap.objs.size<=b)/\(∀x c,X.env.cells.lookup x=a! c->c≠b)/\∀p∈X.pn++pins,p.1≠b
theorem bC.pS {Y:St}{H:Hp}(I:bC X pins Y H s)(h:s.heap.objs.size<=b)(hn:f b=a?):jZ X pins f b:=by
 refine⟨hn,GD (AS I.lt h),I.Xak h,.inr (Bz I.sz h),λx c e z=>?_,λp a z=>?_⟩
 .obtain ⟨v,q⟩:=I.cell x c e;exact absurd (AS q.lt (by rw[z];exact h)) (B7 _)
 .exact absurd (AS (AU (I.pin p a).1) (by rw[z];exact h)) (B7 _)
structure uk (P:AA) (w:AR) (K:Aq) (tg:Expr) (J:It) (fp:List Ae) (it:Ae) (tn:Nat->Heap->Prop):Prop where
 mem:it∈fp
 obj:∀i h,tn i h->∀b∈fp,∃o,h.get? b=a! o/\∀v,o.data≠.cell v
 keep:∀i h h',tn i h->(∀b∈fp,∀o,h.get? b=a! o->h'.get? b=a! o)->tn i h'
 item:∀(X:Cx),X.prog=P->X.w=w->X.K=K->X.calm=b!->∀(i:Nat) (pins:List (Ae×CJ)) (s:Af) (Y:St) (H:Hp) (E:Aa->Af->Prop),bC X pins Y H s->(∀b∈fp,jZ X pins H b)->tn i s.heap->J.go i H->
  AI (model P w) X.A (Gh (.ref it)) (λr s1=>∃u,r=a! u/\
   AI (model P w) X.A (G3 tg (.ref it) u) (λ_ s2=>∃x H',bC X pins Y H' s2/\cu x u/\J.ϣ i H x H'/\tn (i+1) s2.heap/\∀b∈fp,H' b=a?) E s1) E s
 done:∀(X:Cx),X.prog=P->X.w=w->X.K=K->X.calm=b!->∀(i:Nat) (pins:List (Ae×CJ)) (s:Af) (Y:St) (H:Hp) (E:Aa->Af->Prop),bC X pins Y H s->(∀b∈fp,jZ X pins H b)->tn i s.heap->J.stop i H->
  AI (model P w) X.A (Gh (.ref it)) (λr s1=>r=a?/\bC X pins Y H s1) E s
 self:∀(A:AN) (i:Nat) (s:Af) (Q:Aa->Af->Prop) (E:Aa->Af->Prop),tn i s.heap->Q (.ref it) s->AI (model P w) A (Ia (.ref it)) Q E s
abbrev TI:=St->Hp->(It->Hp->Prop)->Prop
def PIE (X:Cx)(pins:List (Ae×CJ))(Y:St)(g:Expr)(R:It->Hp->Prop)(t:Aa)(c:Af):Prop:=
 ∃(T:Ae) (f:List Ae) (n:Nat->Heap->Prop) (J:It) (a:Hp),t = .ref T/\bC X pins Y a c/\uk X.prog X.w X.K g J f T n/\n 0 c.heap/\(∀b∈f,jZ X pins a b)/\R J a
def PI (X:Cx)(t iter:Expr)(a:TI):Prop:=
 ∀(pins:List (Ae×CJ)) (s:Af) (Y:St) (H:Hp) (R:It->Hp->Prop),bC X pins Y H s->a Y H R->
  AI (model X.prog X.w) X.A (eval iter X.env) (λv c=>AI (model X.prog X.w) X.A (Ia v) (PIE X pins Y t R) X.xe c) X.xe s
theorem pw {A:AN}{E:Aa->Af->Prop}{Q:Unit->Af->Prop}(O:s.heap.get? T=a! o)(hc:o.cls = .type n)(hd:o.data = .fields vs)
  (hn:["enumerate","zip","dict_itemiterator","dict_reverseitemiterator","odict_iterator","itertools.zip_longest","itertools.pairwise"].contains n=b?) (a:Q () s):AI M A (G3 t (.ref T) u) Q E s:=by
 cases t <;> first
  |exact AD a
  | (cases u<;>first
    |exact AD a
    | (refine Ac (wpAny_load O ?_)
       rw[hc,hd];show AI M A (if (["enumerate","zip","dict_itemiterator","dict_reverseitemiterator","odict_iterator","itertools.zip_longest","itertools.pairwise"].contains n && vs[0]?==a! (B8 _))=b! then _ else _) Q E s
       rw[c? (by intro h;rw[hn]at h;cases h)];exact AD a))
noncomputable def Itl (K:Aq)(a:Ae):It:=
 ⟨λi H=>∃xs x,eQ K H a xs/\xs[i]?=a! x,λi H x c=>c=H/\∀xs,eQ K H a xs->xs[i]?=a! x,λi H=>∃xs,eQ K H a xs/\xs.length<=i⟩
noncomputable def Itt (K:Aq)(a:Ae):It:=
 ⟨λi H=>∃xs x,lA K H a xs/\xs[i]?=a! x,λi H x c=>c=H/\∀xs,lA K H a xs->xs[i]?=a! x,λi H=>∃xs,lA K H a xs/\xs.length<=i⟩
noncomputable def Itr (lo:Int)(n:Nat):It:=⟨λi _=>i<n,λi H x a=>a=H/\x = .int (lo+i),λi _=>n<=i⟩
theorem OP {P:AA}{w:AR}{K:Aq}{tg:Expr}(a it:Ae):uk P w K tg (Itl K a) [it] it (λi h=>h.IsListIter it a i) where
 mem:=by simp
 obj:=λi h st b hb=>by
  have e:b=it:=by simpa using hb
  subst e;obtain⟨o,e,c,d⟩:=st;exact⟨o,e,λv z=>by rw[d]at z;cases z⟩
 keep:=λi h h' st k=>st.at λo e=>k it (by simp) o e
 item:=by
  kj_on
  obtain⟨xs,x,hq,hx⟩:=hg;obtain⟨WY,rv,p,hz⟩:=I.list hq;obtain⟨u,hu,ru⟩:=rv.get hx;obtain⟨f0,f1,f2,f3,f4,f5⟩:=hf it (by simp);refine wpAny_pyNext_list_item st p.isList (by simpa using hu) λh' vy sb=>?_
  have I1:bC X pins Y H {s with heap:=h'}:=I.turned (t':=s.toks) (λb o hb e=>(sb.2 b hb).trans e) f0 f1 f3 f4 f5;obtain⟨o,e,c,d⟩:=id vy;exact⟨u,rfl,pw (s:={s with heap:=h'}) e c d rfl ⟨x,H,I1,ru,⟨rfl,λys hy=>by rw[I.yA hy hq];exact hx⟩,vy,λb hb=>(hf b hb).1⟩⟩
 done:=by
  kj_on
  obtain⟨xs,hq,hx⟩:=hg;obtain⟨WY,rv,p,hz⟩:=I.list hq;obtain⟨f0,f1,f2,f3,f4,f5⟩:=hf it (by simp);have hl:=rv.length;exact wpAny_pyNext_list_end (I.ok.hd hc) st p.isList (by simp;lia) λh' eb=>⟨rfl,I.turned (t':=s.toks) (λb o hb e=>eb b o hb e) f0 f1 f3 f4 f5⟩
 self:=λ_ _ _ _ _ st h=>wpAny_pyIter_listiter st h
theorem zA {P:AA}{w:AR}{K:Aq}{tg:Expr}(a it:Ae):uk P w K tg (Itt K a) [it] it (λi h=>h.IsTupleIter it a i) where
 mem:=by simp
 obj:=λi h st b hb=>by
  have e:b=it:=by simpa using hb
  subst e;obtain⟨o,e,c,d⟩:=st;exact⟨o,e,λv z=>by rw[d]at z;cases z⟩
 keep:=λi h h' st k=>st.at λo e=>k it (by simp) o e
 item:=by
  kj_on
  obtain⟨xs,x,hq,hx⟩:=hg;obtain⟨WY,rv,p,hz⟩:=I.tuple hq;obtain⟨u,hu,ru⟩:=rv.get hx;obtain⟨f0,f1,f2,f3,f4,f5⟩:=hf it (by simp);refine wpAny_pyNext_tuple_item st (show s.heap.IsTuple a WY.toArray from p) (by simpa using hu) λh' vy sb=>?_
  have I1:bC X pins Y H {s with heap:=h'}:=I.turned (t':=s.toks) (λb o hb e=>(sb.2 b hb).trans e) f0 f1 f3 f4 f5;obtain⟨o,e,c,d⟩:=id vy;exact⟨u,rfl,pw (s:={s with heap:=h'}) e c d rfl ⟨x,H,I1,ru,⟨rfl,λys hy=>by rw[I.uy hy hq];exact hx⟩,vy,λb hb=>(hf b hb).1⟩⟩
 done:=by
  kj_on
  obtain⟨xs,hq,hx⟩:=hg;obtain⟨WY,rv,p,hz⟩:=I.tuple hq;obtain⟨f0,f1,f2,f3,f4,f5⟩:=hf it (by simp);have hl:=rv.length;exact wpAny_pyNext_tuple_end (I.ok.hd hc) st (show s.heap.IsTuple a WY.toArray from p) (by simp;lia) λh' eb=>⟨rfl,I.turned (t':=s.toks) (λb o hb e=>eb b o hb e) f0 f1 f3 f4 f5⟩
 self:=λ_ _ _ _ _ st h=>wpAny_pyIter_tupleiter st h
theorem zB {P:AA}{w:AR}{K:Aq}{tg:Expr}(it:Ae)(lo:Int)(n:Nat):uk P w K tg (Itr lo n) [it] it (λi h=>LM h it (lo+(i:Nat)*1) ((n:Int)-(i:Nat)) 1) where
 mem:=by simp
 obj := λi h st b hb=>by
  have e:b=it:=by simpa using hb
  subst e;exact⟨_,st,λv z=>by
   have z':Hv _=Io v:=z;cases z'⟩
 keep:=λi h h' st k=>k it (by simp) _ st
 item:=by
  kj_on
  obtain⟨f0,f1,f2,f3,f4,f5⟩:=hf it (by simp);have W:=JI (prog:=X.prog) (w:=X.w) (I.ok.hd hc) it lo 1 n;refine W.item i s _ _ hg st λv h' tk hv vy kk=>?_
  obtain⟨t,rfl⟩:=hv;have I1:bC X pins Y H {s with heap:=h',toks:=tk}:=I.turned (λb o hb e=>kk b o (by simpa using hb) e) f0 f1 f3 f4 f5;refine⟨_,rfl,pw (s:={s with heap:=h',toks:=tk}) (n := "range_iterator") vy rfl rfl rfl ⟨.int (lo+i),H,I1,⟨t,?_⟩,⟨rfl,rfl⟩,vy,λb hb=>(hf b hb).1⟩⟩;rw[Ko]
 done:=by
  intro X hP hw hK hc i pins s Y H E I hf st hg;obtain⟨f0,f1,f2,f3,f4,f5⟩:=hf it (by simp);exact HZ (I.ok.hd hc) st (by have:n<=i:=hg;lia) λh' eb=>⟨rfl,I.turned (t':=s.toks) (λb o hb e=>eb b o hb e) f0 f1 f3 f4 f5⟩
 self:=λ_ _ _ _ _ st h=>H_ st h
section
variable {X:Cx}{tg:Expr}
def Ux (K:Aq)(t:TE):TI:=λY H R=>t Y H λx c=>∃a,x = .ref a/\(∃xs,eQ K c a xs)/\R (Itl K a) c
def ŕ (K:Aq)(t:TE):TI:=λY H R=>t Y H λx c=>∃a,x = .ref a/\(∃xs,lA K c a xs)/\R (Itt K a) c
theorem c8 {l:Expr}{t:TE}(hl:PE X l t):PI X tg l (Ux X.K t):=by
 intro pins s Y H R I h;refine cJ (hl pins s Y H _ I h) λv c z=>?_
 obtain⟨x,j,f,r,Q⟩:=z;obtain⟨a,e,⟨xs,g⟩,q⟩:=Q;subst e;cases r;obtain⟨T,k,p,m⟩:=f.list g;refine JE p.isList ?_;refine⟨c.heap.objs.size,[c.heap.objs.size],_,_,j,rfl,f.kept (t':=c.toks) λb o e=>Ah _ e,OP a _,⟨_,Av _ rfl,rfl,rfl⟩,λb B=>?_,q⟩;have e:b=c.heap.objs.size:=by simpa using B
 subst e;exact f.pS (Ag _) (f.cL.fresh (Ag _))
theorem S' {l:Expr}{T:TE}(hl:PE X l T):PI X tg l (ŕ X.K T):=by
 intro pins s Y H R I h;refine cJ (hl pins s Y H _ I h) λv c z=>?_
 obtain⟨x,j,f,r,Q⟩:=z;obtain⟨a,e,⟨xs,g⟩,q⟩:=Q;subst e;cases r;obtain⟨t,k,p,m⟩:=f.tuple g;refine wpAny_pyIter_tuple (show c.heap.IsTuple a t.toArray from p) ?_;refine⟨c.heap.objs.size,[c.heap.objs.size],_,_,j,rfl,f.kept (t':=c.toks) λb o e=>Ah _ e,zA a _,⟨_,Av _ rfl,rfl,rfl⟩,λb B=>?_,q⟩;have e:b=c.heap.objs.size:=by simpa using B
 subst e;exact f.pS (Ag _) (f.cL.fresh (Ag _))
theorem SU {pins:List (Ae×CJ)}{Y:St}{H:Hp}{s:Af}{R:It->Hp->Prop}{E:Aa->Af->Prop}{lo hi:Int}{t u v:LF}{tk:Nat}(I:bC X pins Y H s)(h1 : -(2^62)<=lo)(h2:lo<2^62)(f : -(2^62)<=hi)(c:hi<2^62)
  (q:R (Itr lo (hi-lo).toNat) H):AI (model X.prog X.w) X.A (Ia (.ref s.heap.objs.size)) (PIE X pins Y tg R) E {s with heap:=s.heap.push {cls:=.type "range",data:=.fields #[.int lo t,.int hi u,.int 1 v]},toks:=tk}:=by
 refine Gf (G6 ..) (small_one h1 h2 f c) ?_;have a:bC X pins Y H {s with heap:=s.heap.push {cls:=.type "range",data:=.fields #[.int lo t,.int hi u,.int 1 v]},toks:=tk}:=I.kept λb o e=>Ah _ e
 refine⟨(s.heap.push {cls:=.type "range",data:=.fields #[.int lo t,.int hi u,.int 1 v]}).objs.size,[(s.heap.push {cls:=.type "range",data:=.fields #[.int lo t,.int hi u,.int 1 v]}).objs.size],_,_,H,rfl,
  a.kept (t':=tk) λb o e=>Ah _ e,zB _ lo (hi-lo).toNat,?_,λb h=>?_,q⟩
 .have j:lo+((0:Nat):Int)*1=lo:=by simp
  have g:(((hi-lo).toNat:Nat):Int)-((0:Nat):Int)=AT lo hi 1:=by rw[rangeSize_one];split<;>lia
  rw[j,g];exact Av _ rfl
 .have e:b=(s.heap.push {cls:=.type "range",data:=.fields #[.int lo t,.int hi u,.int 1 v]}).objs.size:=by simpa using h
  subst e;exact a.pS (Ag _) (a.cL.fresh (Ag _))
def Yu (t:TA):TI:=λY H R=>t Y H λvs a=>∃j:Int,vs=[.int j]/\-(2^62)<=j/\j<2^62/\R (Itr 0 j.toNat) a
theorem eI (hg:Gl X "range")(m:X.mg "range"=a?)(A:PA X [a] T)(k:Ap [a] X.env=[(b?,eval a X.env)]:=by rfl):PI X tg (.Call (.Name "range" p) [a] [] pos) (Yu T):=by
 intro pins s Y H R I h;refine Hr (fY I hg m Jx (Ba (cJ (A pos pins s Y H _ I h) λus n z=>?_) k rfl));obtain⟨vs,o,l,f,Q⟩:=z;obtain⟨j,e,Q,g,q⟩:=Q;subst e
 cases f with
 |cons r c=>
  cases c;obtain⟨t,rfl⟩:=r;exact call_range_1 (SU l (by lia) (by lia) Q g (by simpa using q))
def VA (w:TI)(g:TG)(tb:TS):TS:=λD Y H=>w Y H λJ h=>∃W:Nat->Nat->St->Hp->Prop,(∃m,W 0 m Y h)/\∀i m Y H,W i m Y H->
 (J.stop i H/\D.nx Y H)∨(J.go i H/\∃N:St->Hp->Prop,(∀c a,N c a->∃M,M<m/\W (i+1) M c a)/\∀x a,J.ϣ i H x a->g x Y a λe f=>tb {D with nx:=N,ct:=N,bk:=D.nx} e f)
noncomputable def wc (f:List Ae)(h:Heap):List (Ae×CJ):=f.filterMap λb=>(h.get? b).map λo=>(b,o)
theorem jw (B:b∈f)(e:h.get? b=a! o):(b,o)∈wc f h:=CP.mpr ⟨b,B,by rw[e];rfl⟩
theorem Qc (a:p∈wc f h):p.1∈f/\h.get? p.1=a! p.2:=by
 obtain⟨b,B,e⟩:=CP.mp a
 cases q:h.get? b with
 |none=>rw[q]at e;cases e
 |some o=>
  rw[q]at e;have e':(b,o)=p:=AY e;subst e';exact⟨B,q⟩
theorem bC.pinned {Y:St}{H:Hp}(I:bC X pins Y H s)(hf:∀b∈f,jZ X pins H b)(O:∀b∈f,∃o,s.heap.get? b=a! o/\∀v,o.data≠.cell v):bC X (pins++wc f s.heap) Y H s:=
 I.NT λp a=>(AB.mp a).elim (λz=>I.pin p (Bu _ z)) λz=>by
  obtain⟨h,e⟩:=Qc z;obtain⟨c,f1,f2,_⟩:=hf p.1 h;obtain⟨o,e',d⟩:=O p.1 h;rw[e]at e';cases e';exact⟨e,c,f1,f2,d⟩
theorem bC.mx {Y:St}{H:Hp}(I:bC X (pins++pl) Y H s):bC X pins Y H s:=I.NT λp h=>I.pin p (Bu _ (Ez _ h))
theorem dz (G:PassesOwn (model X.prog X.w) X.A X.env X.xe)(hc:X.calm=b!)(hi:PI X tg iter wi)(hg:PG X tg g)(B:PSs X body tb)
  (hs:∀x,Gx iter X.env x=pure x:=by intro _;rfl):PS X (.For tg iter body [] pos) (VA wi g tb):=by
 intro pins s Y H D I h;refine wpAny_For (cJ (hi pins s Y H _ I h) λv s1 h1=>cJ h1 λitv s2 h2=>?_) hs;obtain⟨it,M,tn,J,H2,e,I2,T,Ϩ,f2,W,⟨m0,w0⟩,turn⟩:=h2;subst e;have t:∀{k:Hp},(∀b∈M,k b=a?)->∀b∈M,jZ X pins k b:=λhn b B=>⟨hn b B,(f2 b B).2⟩
 refine codeAny_forLoop_any (λn s'=>∃i Q k,bC X pins Q k s'/\tn i s'.heap/\(∀b∈M,k b=a?)/\W i n Q k) ?_ m0 ⟨0,Y,H2,I2,Ϩ,λb B=>(f2 b B).1,w0⟩;rintro n s3 ⟨i,O,U,I3,p,L,w3⟩;rcases turn i n O U w3 with⟨stop,qn⟩ | ⟨go,N,hN,step⟩
 .refine CK G (cJ (T.done X rfl rfl rfl hc i pins s3 O U X.xe I3 (t L) p stop) λr s4 z=>?_);obtain⟨hr,I4⟩:=z;subst hr;exact Dh ⟨O,U,I4,qn⟩
 .refine CK G (cJ (T.item X rfl rfl rfl hc i pins s3 O U X.xe I3 (t L) p go) λr s4 z=>?_);obtain⟨u,hr,h4⟩:=z;subst hr;refine CK G (cJ h4 λ_ s5 z=>?_);obtain⟨x,H5,I5,r5,y5,l,fr5⟩:=z;have I5':=I5.pinned (t fr5) (T.obj _ _ l);refine CK G (cJ (hg _ s5 O H5 x u _ I5' r5 (step x H5 y5)) λ_ s6 z=>?_);obtain⟨Y6,H6,I6,q6⟩:=z;refine CK G (cJ (B _ s6 Y6 H6 _ I6 q6) λf s7 q=>?_);have again:∀{a:St} {j:Hp},bC X (pins++wc M s5.heap) a j s7->N a j->∃m,m<n/\∃i Q k,bC X pins Q k s7/\tn i s7.heap/\(∀b∈M,k b=a?)/\W i m Q k:=λ{a j} c C=>by
   obtain⟨m',hm,w7⟩:=hN a j C;refine⟨m',hm,i+1,a,j,c.mx,T.keep _ _ _ l λb B o e=>(c.pin (b,o) (Bu _ (Bu _ (jw B e)))).1,λb B=>?_,w7⟩;obtain⟨o,e,d⟩:=T.obj _ _ l b B;exact (c.pin (b,o) (Bu _ (Bu _ (jw B e)))).2.1
  cases f with
  |next=>obtain⟨a,j,c,C⟩:=q;exact again c C
  |cont=>obtain⟨a,j,c,C⟩:=q;exact again c C
  |brk=>obtain⟨a,j,c,q⟩:=q;exact⟨a,j,c.mx,q⟩
  |ret v=>obtain⟨x7,a,j,c,r7,q⟩:=q;exact⟨x7,a,j,c.mx,r7,q⟩
end
abbrev R2:=V->V->Hp->VK->Prop
def lU (X:Cx)(f:Aa->Aa->Ld Aa)(r:R2):Prop:=
 ∀(pins:List (Ae×CJ)) (s:Af) (Y:St) (H:Hp) (x y:V) (v u:Aa) (Q:VK),bC X pins Y H s->cu x v->cu y u->r x y H Q->
  AI (model X.prog X.w) X.A (f v u) (EP X pins Y Q) X.xe s
def UnR (X:Cx)(f:Aa->Ld Aa)(r:V->Hp->VK->Prop):Prop:=
 ∀(pins:List (Ae×CJ)) (s:Af) (Y:St) (H:Hp) (x:V) (v:Aa) (Q:VK),bC X pins Y H s->cu x v->r x H Q->
  AI (model X.prog X.w) X.A (f v) (EP X pins Y Q) X.xe s
def gd (X:Cx)(f:Aa)(r:List V->Hp->VK->Prop):Prop:=
 ∀(pins:List (Ae×CJ)) (s:Af) (Y:St) (H:Hp) (xs:List V) (us:List Aa) (Q:VK),bC X pins Y H s->bQ xs us->r xs H Q->
  AI (model X.prog X.w) X.A (call f us) (EP X pins Y Q) X.xe s
def Xa6 (X:Cx)(r:V->Hp->(Bool->Hp->Prop)->Prop):Prop:=
 ∀(pins:List (Ae×CJ)) (s:Af) (Y:St) (H:Hp) (x:V) (v:Aa) (Q:Bool->Hp->Prop),bC X pins Y H s->cu x v->r x H Q->
  AI (model X.prog X.w) X.A (LU v) (TP X pins Y Q) X.xe s
def Nd (r:R2)(t tb:TE):TE:=λY H Q=>t Y H λx c=>tb Y c λy a=>r x y a Q
def tUn (r:V->Hp->VK->Prop)(t:TE):TE:=λY H Q=>t Y H λx a=>r x a Q
def rI (C:Int->Int->Prop)(g:Int->Int->V):R2:=λx y H Q=>∃i j,x = .int i/\y = .int j/\C i j/\Q (g i j) H
def PV (g:Int->Int->V):R2:=λx y H Q=>∃i j,x = .int i/\y = .int j/\Q (g i j) H
def rU (g:Int->V):V->Hp->VK->Prop:=λx H Q=>∃i,x = .int i/\Q (g i) H
section
variable {X:Cx}{a b c:Expr}{ta tb tc:TE}{pos:Ew}
theorem ö (p:PE X a ta)(B:PE X b tb){Y:St}{H:Hp}{R:V->V->Hp->Prop}(I:bC X pins Y H s)
  (h:ta Y H λx l=>tb Y l λy e=>R x y e) {Q:Aa->Af->Prop} {f:Aa->Aa->Ld Aa}
  (hf:∀v u k x y e,bC X pins Y e k->cu x v->cu y u->R x y e->AI (model X.prog X.w) X.A (f v u) Q X.xe k):
  AI (model X.prog X.w) X.A (eval a X.env) (λv j=>AI (model X.prog X.w) X.A (eval b X.env) (λu g=>AI (model X.prog X.w) X.A (f v u) Q X.xe g) X.xe j) X.xe s:=by
 refine cJ (p pins s Y H _ I h) λv m z=>?_
 obtain⟨x,l,C,n,o⟩:=z;refine cJ (B pins m Y l _ C o) λu k z=>?_
 obtain⟨y,e,t,r,q⟩:=z;exact hf v u k x y e t n r q
theorem aW (o:lU X (Cv op) r)(A:PE X a ta)(B:PE X b tb):PE X (.BinOp a op b pos) (Nd r ta tb):=by
 intro pins s Y H Q I h;exact wpAny_BinOp (ö A B I h λv u e x y k j g f q=>o pins e Y k x y v u Q j g f q)
theorem ye {r:V->Hp->VK->Prop}(o:UnR X (unaryOp op) r)(A:PE X a ta):PE X (.UnaryOp op a pos) (tUn r ta):=by
 intro pins s Y H Q I h;refine UnaryOp_ (cJ (A pins s Y H _ I h) λv e z=>?_);obtain⟨x,j,g,f,q⟩:=z;exact o pins e Y j x v Q g f q
theorem Z6 {f:Aa->Aa->Ld Aa}{C:Int->Int->Prop}{g:Int->Int->Int}
  (rule:∀(i j:Int) (t u:LF) (s:Af) (Q:Aa->Af->Prop) (E:Aa->Af->Prop),C i j->Q (.int (g i j) s.toks) {s with toks:=s.toks+1}->AI (model X.prog X.w) X.A (f (.int i t) (.int j u)) Q E s):
  lU X f (rI C λi j=>.int (g i j)):=by
 intro pins s Y H x y v u Q I e r h;obtain⟨i,j,rfl,rfl,hc,q⟩:=h;obtain⟨t,rfl⟩:=e;obtain⟨t',rfl⟩:=r;exact rule i j t t' s _ _ hc ⟨.int (g i j),H,I.tok _,⟨_,rfl⟩,q⟩
theorem Ws {f:Aa->Aa->Ld Aa}{g:Int->Int->Int}
  (rule:∀(i j:Int) (t u:LF) (s:Af) (Q:Aa->Af->Prop) (E:Aa->Af->Prop),Q (.int (g i j) s.toks) {s with toks:=s.toks+1}->AI (model X.prog X.w) X.A (f (.int i t) (.int j u)) Q E s):
  lU X f (PV λi j=>.int (g i j)):=by
 intro pins s Y H x y v u Q I e r h;obtain⟨i,j,rfl,rfl,q⟩:=h;obtain⟨t,rfl⟩:=e;obtain⟨t',rfl⟩:=r;exact rule i j t t' s _ _ ⟨.int (g i j),H,I.tok _,⟨_,rfl⟩,q⟩
theorem Wt {f:Aa->Aa->Ld Aa}{g:Int->Int->Bool}
  (rule:∀(i j:Int) (t u:LF) (s:Af) (Q:Aa->Af->Prop) (E:Aa->Af->Prop),Q (.bool (g i j)) s->AI (model X.prog X.w) X.A (f (.int i t) (.int j u)) Q E s):
  lU X f (PV λi j=>.bl (g i j)):=by
 intro pins s Y H x y v u Q I e r h;obtain⟨i,j,rfl,rfl,q⟩:=h;obtain⟨t,rfl⟩:=e;obtain⟨t',rfl⟩:=r;exact rule i j t t' s _ _ ⟨.bl (g i j),H,I,rfl,q⟩
def Ď (i j:Int):Prop:=0<j/\j<1073741824
def č (i j:Int):Prop:=0<=j/\j<=1000000/\i.natAbs<2^64
def QQ (i j:Int):Prop:=(-(2^64)<i/\i<2^64)∨(-(2^64)<j/\j<2^64)
theorem QQ.ok (h:QQ i j):IntMulOk i j:=by
 rcases h with⟨h1,h2⟩ | ⟨h1,h2⟩
 .exact .of_left (KZ h1 h2)
 .exact .of_right (KZ h1 h2)
theorem zy (k:Nat):(0:Int)<=2^k:=by
 exact Int.natCast_nonneg _
theorem cH:lU X (Cv .Add) (PV λi j=>.int (i+j)):=Ws λ_ _ _ _ _ _ _ q=>add_int q
theorem dr:lU X (Cv .Sub) (PV λi j=>.int (i-j)):=Ws λ_ _ _ _ _ _ _ q=>sub_int q
theorem gQ:lU X (Cv .Mult) (rI QQ λi j=>.int (i*j)):=Z6 λ_ _ _ _ _ _ _ hc q=>mul_int q hc.ok
theorem di:lU X (Cv .FloorDiv) (rI Ď λi j=>.int (i / j)):=Z6 λi j _ _ _ _ _ hc q=>by
 have h1:(0:Int)<j:=hc.1;have h2:j<1073741824:=hc.2;exact floordiv_int (by lia) (by rw[GS i (by lia)];exact q) (.inl (EH (by omega)))
theorem dA:lU X (Cv .Mod) (rI (λ_ j=>0<j) λi j=>.int (i%j)):=Z6 λi j _ _ _ _ _ hc q=>by
 exact mod_int' (by lia) (by rw[Int.fmod_eq_emod_of_nonneg i (by lia)];exact q)
theorem ZZ:lU X (Cv .Pow) (rI č λi j=>.int (i^j.toNat)):=Z6 λ_ _ _ _ _ _ _ hc q=>pow_int_small hc.1 hc.2.1 hc.2.2 q
theorem gP:lU X (Cv .LShift) (rI č λi j=>.int (i*2^j.toNat)):=Z6 λ_ _ _ _ _ _ _ hc q=>lshift_int_small hc.1 hc.2.1 hc.2.2 q
theorem rK:lU X (Cv .RShift) (rI (λ_ j=>0<=j) λi j=>.int (i / 2^j.toNat)):=Z6 λi j _ _ _ _ _ hc q=>
 rshift_int hc (by rw[GS i (zy _)];exact q)
theorem Tq:lU X (Cv .BitAnd) (PV λi j=>.int (B9 i j)):=Ws λ_ _ _ _ _ _ _ q=>and_int q
theorem ń:lU X (Cv .BitOr) (PV λi j=>.int (Dx i j)):=Ws λ_ _ _ _ _ _ _ q=>or_int q
theorem unI {f:Aa->Ld Aa}{g:Int->Int}
  (rule:∀(i:Int) (t:LF) (s:Af) (Q:Aa->Af->Prop) (E:Aa->Af->Prop),Q (.int (g i) s.toks) {s with toks:=s.toks+1}->AI (model X.prog X.w) X.A (f (.int i t)) Q E s):
  UnR X f (rU λi=>.int (g i)):=by
 intro pins s Y H x v Q I r h;obtain⟨i,rfl,q⟩:=h;obtain⟨t,rfl⟩:=r;exact rule i t s _ _ ⟨.int (g i),H,I.tok _,⟨_,rfl⟩,q⟩
theorem qz:UnR X (unaryOp .USub) (rU λi=>.int (-i)):=unI λ_ _ _ _ _ q=>neg_int q
end
noncomputable def ĳ:V->V->Bool
 | .cA,.cA=>b! | .cA,.int _=>b! | .int _,.cA=>b! | .cA,.bl _=>b! | .bl _,.cA=>b! | .cA,.str _=>b! | .str _,.cA=>b!
 | .int _,.int _=>b! | .bl _,.bl _=>b! | .str _,.str _=>b! | .OD _,.OD _=>b!
 | .int _,.str _=>b! | .str _,.int _=>b! | .bl _,.str _=>b! | .str _,.bl _=>b!
 |_,_=>b?
def rEq:R2:=λx y H Q=>ĳ x y=b!/\Q (.bl (decide (x=y))) H
def rNe:R2:=λx y H Q=>ĳ x y=b!/\Q (.bl (!decide (x=y))) H
theorem Ov:decide (V.int i=V.int j)=(i==j):=by
 rw[C8];simp
theorem UL:decide (V.bl i=V.bl j)=(i==j):=by
 rw[C8];simp
theorem Ou:decide (V.str i=V.str j)=(i==j):=by
 rw[C8];simp
theorem Ow:decide (V.OD i=V.OD j)=(i.toList==j.toList):=by
 rw[C8];cases i;cases j;simp
section
variable {X:Cx}{a b c:Expr}{ta tb tc:TE}{pos:Ew}
theorem cq {Y:St}{H:Hp}(I:bC X pins Y H s)(q:Q (.bl k) H)(e:k=f):EP X pins Y Q (.bool f) s:=by
 subst e;exact⟨.bl k,H,I,rfl,q⟩
theorem eX:lU X (Cd .Eq) rEq:=by
 intro pins s Y H x y v u Q I f r h;obtain⟨e,q⟩:=h
 cases x with
 |cA=>
  cases f
  cases y with
  |cA=>cases r;exact PySem.EqNone.eq_none_none (cq I q rfl)
  |bl j=>cases r;exact PySem.EqNone.eq_none_bool (cq I q rfl)
  |int j=>obtain⟨t',rfl⟩:=r;exact PySem.EqNone.eq_none_int (cq I q rfl)
  |str j=>obtain⟨t',rfl⟩:=r;exact PySem.EqNone.eq_none_str (cq I q rfl)
  |_=>exact absurd (show b?=b! from e) Az
 |bl i=>
  cases f
  cases y with
  |cA=>cases r;exact PySem.EqNone.eq_bool_none (cq I q rfl)
  |bl j=>cases r;exact eq_bool (cq I q UL)
  |str j=>obtain⟨t',rfl⟩:=r;exact PySem.EqMixed.eq_bool_str (cq I q rfl)
  |_=>exact absurd (show b?=b! from e) Az
 |int i=>
  obtain⟨t,rfl⟩:=f
  cases y with
  |cA=>cases r;exact PySem.EqNone.eq_int_none (cq I q rfl)
  |int j=>obtain⟨t',rfl⟩:=r;exact eq_int (cq I q Ov)
  |str j=>obtain⟨t',rfl⟩:=r;exact PySem.EqMixed.eq_int_str (cq I q rfl)
  |_=>exact absurd (show b?=b! from e) Az
 |str i=>
  obtain⟨t,rfl⟩:=f
  cases y with
  |cA=>cases r;exact PySem.EqNone.eq_str_none (cq I q rfl)
  |bl j=>cases r;exact PySem.EqMixed.eq_str_bool (cq I q rfl)
  |int j=>obtain⟨t',rfl⟩:=r;exact PySem.EqMixed.eq_str_int (cq I q rfl)
  |str j=>obtain⟨t',rfl⟩:=r;exact eq_str (cq I q Ou)
  |_=>exact absurd (show b?=b! from e) Az
 |OD i=>
  obtain⟨t,rfl⟩:=f
  cases y with
  |OD j=>obtain⟨t',rfl⟩:=r;exact PySem.W.eq_bytes (cq I q Ow)
  |_=>exact absurd (show b?=b! from e) Az
 |_=>cases y<;>exact absurd (show b?=b! from e) Az
theorem yi:lU X (Cd .NotEq) rNe:=by
 intro pins s Y H x y v u Q I f r h;obtain⟨e,q⟩:=h
 cases x with
 |cA=>
  cases f
  cases y with
  |cA=>cases r;exact PySem.EqNone.ne_none_none (cq I q rfl)
  |bl j=>cases r;exact PySem.EqNone.ne_none_bool (cq I q rfl)
  |int j=>obtain⟨t',rfl⟩:=r;exact PySem.EqNone.ne_none_int (cq I q rfl)
  |str j=>obtain⟨t',rfl⟩:=r;exact PySem.EqNone.ne_none_str (cq I q rfl)
  |_=>exact absurd (show b?=b! from e) Az
 |bl i=>
  cases f
  cases y with
  |cA=>cases r;exact PySem.EqNone.ne_bool_none (cq I q rfl)
  |bl j=>cases r;exact ne_bool (cq I q (congrArg not UL))
  |str j=>obtain⟨t',rfl⟩:=r;exact PySem.EqMixed.ne_bool_str (cq I q rfl)
  |_=>exact absurd (show b?=b! from e) Az
 |int i=>
  obtain⟨t,rfl⟩:=f
  cases y with
  |cA=>cases r;exact PySem.EqNone.ne_int_none (cq I q rfl)
  |int j=>obtain⟨t',rfl⟩:=r;exact ne_int (cq I q (congrArg not Ov))
  |str j=>obtain⟨t',rfl⟩:=r;exact PySem.EqMixed.ne_int_str (cq I q rfl)
  |_=>exact absurd (show b?=b! from e) Az
 |str i=>
  obtain⟨t,rfl⟩:=f
  cases y with
  |cA=>cases r;exact PySem.EqNone.ne_str_none (cq I q rfl)
  |bl j=>cases r;exact PySem.EqMixed.ne_str_bool (cq I q rfl)
  |int j=>obtain⟨t',rfl⟩:=r;exact PySem.EqMixed.ne_str_int (cq I q rfl)
  |str j=>obtain⟨t',rfl⟩:=r;exact ne_str (cq I q (congrArg not Ou))
  |_=>exact absurd (show b?=b! from e) Az
 |OD i=>
  obtain⟨t,rfl⟩:=f
  cases y with
  |OD j=>obtain⟨t',rfl⟩:=r;exact PySem.W.ne_bytes (cq I q (congrArg not Ow))
  |_=>exact absurd (show b?=b! from e) Az
 |_=>cases y<;>exact absurd (show b?=b! from e) Az
theorem iT:lU X (Cd .Lt) (PV λi j=>.bl (decide (i<j))):=Wt λ_ _ _ _ _ _ _ q=>lt_int q
theorem To:lU X (Cd .LtE) (PV λi j=>.bl (decide (i<=j))):=Wt λ_ _ _ _ _ _ _ q=>le_int q
theorem m4:lU X (Cd .Gt) (PV λi j=>.bl (decide (j<i))):=Wt λ_ _ _ _ _ _ _ q=>gt_int q
theorem Tp:lU X (Cd .GtE) (PV λi j=>.bl (decide (j<=i))):=Wt λ_ _ _ _ _ _ _ q=>ge_int q
theorem Z0:lU X (Cd .Is) (λx y H Q=>y = .cA/\Q (.bl (decide (x = .cA))) H):=by
 intro pins s Y H x y v u Q I r e h;obtain⟨rfl,q⟩:=h;cases e;refine is_none_gen (cq I q ?_);cases x<;>first
  | (cases r;rfl)
  | (obtain⟨t,rfl⟩:=r;rfl)
theorem Wq:lU X (Cd .IsNot) (λx y H Q=>y = .cA/\Q (.bl (!decide (x = .cA))) H):=by
 intro pins s Y H x y v u Q I r e h;obtain⟨rfl,q⟩:=h;cases e;refine isnot_none_gen (cq I q ?_);cases x<;>first
  | (cases r;rfl)
  | (obtain⟨t,rfl⟩:=r;rfl)
theorem bG (b:Expr)(h:op≠.In:=by decide)(h2:op≠.NotIn:=by decide):Dc op b=false:=by
 have f:(op==KL)=false:=by cases op<;>first |rfl |exact absurd rfl h
 have e:(op==JQ)=false:=by cases op<;>first |rfl |exact absurd rfl h2
 cases b<;>simp[Dc,f,e]
theorem ec (o:lU X (Cd op) r)(A:PE X a ta)(B:PE X b tb)(m:Dc op b=b?):PE X (.Compare a [op] [b] pos) (Nd r ta tb):=by
 intro pins s Y H Q I h;exact wpAny_Compare1 (ö A B I h λv u e x y k j g f q=>o pins e Y k x y v u Q j g f q) m
def XR (t:TE):TT:=λY H Q=>t Y H λx e=>∃k,x = .bl k/\Q k e
theorem bI (O:lU X (Cd op) r)(A:PE X a ta)(B:PE X b tb)(M:Dc op b=b?):PT X (.Compare a [op] [b] pos) (XR (Nd r ta tb)):=by
 intro pins s Y H Q I h;refine Im (cJ (A pins s Y H _ I h) λv g ⟨x,J,w,m,o⟩=>cJ (B pins g Y J _ w o) λu f ⟨y,G,t,l,n⟩=>
  cJ (O pins f Y G x y v u _ t m l n) λc L ⟨z,C,p,j,k,e,q⟩=>?_) M
 subst e;cases j;exact BO ⟨C,p,q⟩
def RG (r f:R2)(ta tb tc:TE):TE:=λY H Q=>ta Y H λx j=>tb Y j λy h=>r x y h λz e=>∃k,z = .bl k/\
 (if k=b! then tc Y e λw g=>f y w g Q else Q (.bl b?) e)
theorem Td (O:lU X (Cd op) r)(o:lU X (Cd op') G)(ha:PE X a ta)(U:PE X b tb)(hc:PE X c tc)
  (T:lastMarks [op,op'] [b,c]=false:=by with_unfolding_all rfl):PE X (.Compare a [op,op'] [b,c] pos) (RG r G ta tb tc):=by
 intro pins s Y H Q I h;refine Compare_chain (cJ (ha pins s Y H _ I h) λv t ⟨x,H1,I1,C,M⟩=>chain_link (cJ (U pins t Y H1 _ I1 M) λu p ⟨y,H2,I2,f,L⟩=>
  cJ (O pins p Y H2 x y v u _ I2 C f L) λd n ⟨z,j,g,B,k,e,q⟩=>?_)) T
 subst e;cases B;refine BO ?_
 cases k with
 |false=>exact ite_ff ⟨.bl b?,j,g,rfl,q⟩
 |true=>exact ite_tt (chain_last (cJ (hc pins n Y j _ g q) λw m ⟨l,H4,I4,A,J⟩=>o pins m Y H4 y l u w Q I4 f A J))
def ă (K:Aq)(x:V)(H:Hp)(k:Bool):Prop:=
 match x with
 | .cA=>k=b?
 | .bl b=>k=b
 | .int i=>k=(i != 0)
 | .str y=>y.length<=AL/\k=((y.length:Int) != 0)
 | .OD y=>y.size<=AL/\k=((y.size:Int) != 0)
 | .ref p=>(∃xs,eQ K H p xs/\k = !xs.isEmpty)∨(∃xs,lA K H p xs/\k = !xs.isEmpty)∨∃v,H p=a! (.dK v)/\k = !v.isEmpty
 |_=>False
theorem Mo {e:Type}{k:List (e×V)}{vs:List (e×Aa)}(r:KV k vs):(!vs.isEmpty) = !k.isEmpty:=by
 cases r<;>rfl
theorem sE (r:bQ xs t):(!t.toArray.isEmpty) = !xs.isEmpty:=by
 cases r<;>simp
theorem oz:(AL:Nat)<2^63:=by rw[CC];decide
theorem Y9:Xa6 X (λx H Q=>∃k,ă X.K x H k/\Q k H):=by
 intro pins s Y H x v Q I g h;obtain⟨k,e,q⟩:=h;have u:AL=16777216:=CC
 cases x with
 |cA=>
  cases g;have e':k=false:=e;subst e';exact truthy_none ⟨H,I,q⟩
 |bl b=>
  cases g;have e':k=b:=e;subst e';exact BO ⟨H,I,q⟩
 |int i=>
  obtain⟨t,rfl⟩:=g;have e':k=(i != 0):=e;subst e';exact PySem.P.truthy_int ⟨H,I,q⟩
 |str y=>
  obtain⟨t,rfl⟩:=g;obtain⟨n,e'⟩:y.length<=AL/\k=((y.length:Int) != 0):=e;subst e';exact PySem.P.truthy_str (by lia) ⟨H,I.tok _,q⟩
 |OD y=>
  obtain⟨t,rfl⟩:=g;obtain⟨n,e'⟩:y.size<=AL/\k=((y.size:Int) != 0):=e;subst e';exact PySem.W.truthy_bytes (by lia) ⟨H,I.tok _,q⟩
 |ref p=>
  cases g;have e':(∃xs,eQ X.K H p xs/\k = !xs.isEmpty)∨(∃xs,lA X.K H p xs/\k = !xs.isEmpty)∨∃f,H p=a! (.dK f)/\k = !f.isEmpty:=e
  rcases e' with⟨xs,j,e'⟩ | ⟨xs,j,e'⟩ | ⟨f,j,e'⟩
  .subst e';obtain⟨T,r,pl,z⟩:=I.list j;have l:=r.length;exact wpAny_truthy_list pl.isList (by simp only[Am];lia) ⟨H,I.tok _,by rw[sE r];exact q⟩
  .subst e';obtain⟨T,r,pl,z⟩:=I.tuple j;have l:=r.length;exact truthy_tuple pl (by simp only[Am];lia) ⟨H,I.tok _,by rw[sE r];exact q⟩
  .subst e';obtain⟨z,o,vs,r,m⟩:f.length<=AL/\(p==Fl)=b?/\∃vs,KV f vs/\s.heap.DictOf (wL X.prog X.w) p vs:=I.cL p _ j
   have l:f.length=vs.length:=Paired.length r;exact wpAny_truthy_dict o m (by lia) ⟨H,I.tok _,by rw[Mo r];exact q⟩
 |_=>exact (show False from e).elim
theorem S5 (A:PE X a ta)(g:∀whole,isTrue a X.env whole=(do let v <- whole;Gv a.pos;EQ [v] (LU v))):
  PT X a (λY H Q=>ta Y H λx e=>∃k,ă X.K x e k/\Q k e):=by
 intro pins s Y H Q I h;refine Lv (cJ (A pins s Y H _ I h) λv f z=>?_) (g _);obtain⟨x,l,j,r,q⟩:=z;exact Y9 pins f Y l x v Q j r q
theorem EV:lU X (Cv .Add) (λx y H Q=>∃i j,x = .str i/\y = .str j/\i.length+j.length<=AL/\Q (.str (i++j)) H):=by
 intro pins s Y H x y v u Q I e r h;obtain⟨i,j,rfl,rfl,z,q⟩:=h;obtain⟨t,rfl⟩:=e;obtain⟨t',rfl⟩:=r;exact add_str (λt' tk=>⟨.str (i++j),H,I.tok _,⟨_,rfl⟩,q⟩) z
theorem j4 (r:bQ [x] us):∃u,us=[u]/\cu x u:=by
 cases r with
 |cons f e=>cases e;exact⟨_,rfl,f⟩
theorem ux (r:bQ [x,y] us):∃u w,us=[u,w]/\cu x u/\cu y w:=by
 cases r with
 |cons h g=>
  cases g with
  |cons f e=>cases e;exact⟨_,_,rfl,h,f⟩
theorem yX:gd X (.builtin "abs") (λxs H Q=>∃i,xs=[.int i]/\Q (.int (if i<0 then -i else i)) H):=by
 intro pins s Y H xs us Q I r h;obtain⟨i,rfl,q⟩:=h;obtain⟨u,rfl,t,rfl⟩:=j4 r;exact call_abs_int λu tk=>⟨.int (if i<0 then -i else i),H,I.tok _,⟨_,rfl⟩,q⟩
theorem QD (hc:X.calm=b!):gd X (.builtin "min") (λxs H Q=>∃i j,xs=[.int i,.int j]/\Q (.int (if j<i then j else i)) H):=by
 intro pins s Y H xs us Q I r h;obtain⟨i,j,rfl,q⟩:=h;obtain⟨u,w,rfl,⟨t,rfl⟩,⟨t',rfl⟩⟩:=ux r;refine min_two_ints (I.ok.hd hc) λh' tk k=>⟨_,H,I.kept k,?_,q⟩
 by_cases J:j<i
 .rw [c! J,c! J];exact⟨_,rfl⟩
 .rw [c? J,c? J];exact⟨_,rfl⟩
end
structure MW (h:Heap) (x dx C:Ae) (mA:Al->Option Aa):Prop where
 obj:h.get? x=a! (Fq C dx)
 ns:h.Ns1 dx mA
 ne:dx≠x
theorem Qj {h:Heap}{f:Ae}{m:Al->Option Aa}(n:h.Ns1 f m):∃O,h.get? f=a! O/\∀name,Jq name O=a! (m name):=by
 obtain⟨o,c,p,j,hd,l,_,M⟩:=n;refine⟨o,j,λname=>?_⟩;have e:=M name;unfold nsFind Kv at e;rw[<- Array.find?_toList]at e;unfold Jq;rw[hd];dsimp only;split
 .rename_i y q;rw[q]at e;exact congrArg a! e
 .rename_i q;rw[q]at e;have a:c.toList.any (·.refKey)=false:=by
   rw[List.any_eq_false];intro y g;obtain⟨z,t,k⟩:=l y (Array.mem_toList_iff.mp g);simp[Ls,k]
  have A:¬ c.toList.any (·.refKey)=true:=by rw[a];exact Az
  rw[c? A];exact congrArg a! e
theorem MW.look {m:Al->Option Aa}(I:MW h x a C m):∃o,PySem.W.InstAt h x (Fq C a) C (a! o)/\∀name,Jq name o=a! (m name):=
 let⟨o,O,hl⟩:=Qj I.ns
 ⟨o,⟨I.obj,rfl,rfl,O⟩,hl⟩
section
variable {prog:AA}{w:AR}{A:AN}{E:Aa->Af->Prop}{s:Af}{K:Aq}{x dx C f:Ae}{mA:Al->Option Aa}{name:Al}{v:Aa}
theorem W8 {expr:Bool}{Q:Aa->Af->Prop}(X:K.In s.heap)(I:MW s.heap x dx C mA)(hg:Gz K C name=b!)(e:PySem.W.hasDictIn K C=b!)
  (g:PySem.W.findIn K (.ref C) name=a! a?) (c:mA name=a! v) (a:Ky v=b!) (h:Q v {s with toks:=s.toks+1}):
  AI (model prog w) A (Li (.ref x) name expr) Q E s:=by
 obtain⟨o,J,hl⟩:=I.look;exact PySem.W.get_value X J (GU hg).1 (PySem.W.findObj_own e g rfl (by rw[hl,c])) a h
theorem UA {Q:Aa×List Aa->Af->Prop}(X:K.In s.heap)(I:MW s.heap x dx C mA)(hg:Gz K C name=b!)
  (hf:PySem.W.findIn K (.ref C) name=a! (a! (.ref f))) (ht:Lm K (.ref f)=b!) (a:mA name=a?) (h:Q (.ref f,[.ref x]) s):
  AI (model prog w) A (FT (.ref x) name pl) Q E s:=by
 obtain⟨o,J,hl⟩:=I.look;exact PySem.W.method_fn X J (GU hg).1 (GU hg).2 hf (beq_iff_eq.mp ht) (by show (Jq name o).map (·.isSome)=a! b?;rw[hl,a];rfl) h
theorem VS {ns:List Al}{Q:Unit->Af->Prop}(X:K.In s.heap)(I:MW s.heap x dx C mA)
  (k:PySem.W.findIn K (.ref C) "__setattr__"=a! (a! (.builtin "object.__setattr__"))) (p:HP K C=b!) (ht:JJ K C name=a! a?) (l:PySem.W.hasDictIn K C=b!)
  (hw:PySem.Within mA ns) (z:ns.length<=AL)
  (h:∀h',MW h' x dx C (λy=>if y=name then a! v else mA y)->Heap.SameBut dx s.heap h'->Q () {s with heap:=h',toks:=s.toks+2}):
  AI (model prog w) A (setAttr (.ref x) name v) Q E s:=by
 obtain⟨O,J,hl⟩:=I.look;refine PySem.W.set_plain X J k (PySem.W.osa_open (s:={s with toks:=s.toks+1}) X J p ht λb=>?_);obtain⟨cd,hc,e⟩:=PySem.W.any_some l;have j:s.heap.get? x=a! ⟨.ref C,a! dx,.plain,#[]⟩:=I.obj;refine Ac (AD (Ac (Ac (Kq j (Ac (PySem.W.Looks.here (s:={s with toks:=s.toks+1}) (PySem.W.looks_clsIn X hc) ?_))))));rw[e];refine AD (a:=a! dx) (Ac (AD (Ac ?_)));refine wpAny_nsSet1 (s:={s with toks:=s.toks+1}) I.ns λh' n c=>?_
 obtain⟨r,m,q,o,tG,g⟩:=n.count (PySem.Within.cons name v hw);refine Ac (wpAny_lookBehind o (by rw[tG];exact pastItsLine_dict (Bz g (by rw[AQ];lia))) ?_);exact AD (h _ ⟨(c.2 _ (Bb I.ne)).trans I.obj,n,I.ne⟩ c)
theorem T9 {R:Gj->Af->Prop}{vs:List Aa}{k:List (Al×Aa)}(X:K.In s.heap)(m:JK K C=b!)
  (hi:PySem.W.findIn K (.ref C) "__init__"=a! (a! (.ref f))) (hf:PySem.W.typeIn K (.ref f)=a! (.type "function"))
  (h:Cf (model prog w) (A.under (.builtin "type.__call__" ⟨.ref C::vs,k⟩)) (.call (.ref f) ⟨.ref (s.heap.objs.size+1)::vs,k⟩) (PySem.W.InitBack (s.heap.objs.size+1) R)
   {s with heap:=(s.heap.push Dv).push (Fq C s.heap.objs.size)}):
  Cf (model prog w) A (.call (.ref C) ⟨vs,k⟩) R s:=by
 exact PySem.W.make_core (PySem.W.makes_of X m) (PySem.W.looks_findIn X hi) (λself=>PySem.W.bind_fn X self hf) (.inl rfl) h
end
noncomputable def g_ (f:Al)(v:V):List (Al×V)->List (Al×V)
 | []=>[(f,v)]
 | (g,x)::r=>if g=f then (g,v)::r else (g,x)::g_ f v r
theorem ph (f g:Al)(v:V):∀fs:List (Al×V),(g_ f v fs).lookup g=if g=f then a! v else fs.lookup g
 | []=>by
  show Cg g [(f,v)]=_
  by_cases h:g=f
  .have B:(g==f)=true:=beq_iff_eq.mpr h;simp only[Cg,B,c! h]
  .have B:(g==f)=false:=beq_eq_false_iff_ne.mpr h;simp only[Cg,B,c? h]
 | (k,x)::r=>by
  have c:=ph f g v r;rw[show g_ f v ((k,x)::r)=(if k=f then (k,v)::r else (k,x)::g_ f v r) from rfl];by_cases a:k=f
  .rw [c! a];by_cases h:g=k
   .have B:(g==k)=true:=beq_iff_eq.mpr h;simp only[Cg,B,c! (h.trans a)]
   .have B:(g==k)=false:=beq_eq_false_iff_ne.mpr h;simp only[Cg,B,c? (λe:g=f=>h (e.trans a.symm))]
  .rw [c? a];by_cases h:g=k
   .have B:(g==k)=true:=beq_iff_eq.mpr h;simp only[Cg,B,c? (λe:g=f=>a (h.symm.trans e))]
   .have B:(g==k)=false:=beq_eq_false_iff_ne.mpr h;simp only[Cg,B];exact c
theorem oC (f:Al)(v:V):∀fs:List (Al×V),f∈(g_ f v fs).map (·.1)/\∀g,g∈fs.map (·.1)->g∈(g_ f v fs).map (·.1)
 | []=>⟨by simp[g_],λg h=>by simp at h⟩
 | (k,x)::r=>by
  obtain⟨j,c⟩:=oC f v r;rw[show g_ f v ((k,x)::r)=(if k=f then (k,v)::r else (k,x)::g_ f v r) from rfl];by_cases a:k=f
  .subst a;exact⟨by simp,λg h=>by simpa using h⟩
  .rw [c? a];refine⟨?_,λg h=>?_⟩
   .exact Ax _ j
   .rcases AJ.mp h with e |e
    .exact AJ.mpr (.inl e)
    .exact Ax _ (c g e)
theorem pj (f:Al)(v:V):∀fs:List (Al×V),(g_ f v fs).length<=fs.length+1
 | []=>by simp[g_]
 | (k,x)::r=>by
  have a:=pj f v r;rw[show g_ f v ((k,x)::r)=(if k=f then (k,v)::r else (k,x)::g_ f v r) from rfl];by_cases h:k=f
  .rw [c! h,AQ,AQ];lia
  .rw [c? h,AQ,AQ];lia
theorem xn.some_of (r:xn (a! v) o):∃u,o=a! u/\cu v u:=by
 cases o with
 |none=>exact (show False from r).elim
 |some u=>exact⟨u,rfl,r⟩
theorem xn.none_of (r:xn a? o):o=none:=by
 cases o with
 |none=>rfl
 |some u=>exact (show False from r).elim
theorem Qn (r:cu v u):Ky u=true:=by
 cases v with
 |cA=>cases (show u=EN from r);rfl
 |bl b=>cases (show u=FE b from r);rfl
 |int i=>obtain⟨t,e⟩:=(show ∃t,u=D_ i t from r);cases e;rfl
 |str x=>obtain⟨t,e⟩:=(show ∃t,u=Fh x t from r);cases e;rfl
 |OD b=>obtain⟨t,e⟩:=(show ∃t,u=JN b t from r);cases e;rfl
 |MB b=>obtain⟨t,e⟩:=(show ∃t,u=Hm b t from r);cases e;rfl
 |ref a=>cases (show u=Bl a from r);rfl
 |ty n=>cases (show u=EM n from r);rfl
section
variable {P:AA}{w:AR}{H H':Hp}{h h':Heap}{a C dx:Ae}{fs fs':List (Al×V)}
theorem qj (o:jY P w H h)(e:H a=a! (.ins C dx fs)):∃m,MW h a dx C m/\(∀f,xn (fs.lookup f) (m f))/\PySem.Within m (fs.map (·.1))/\fs.length<=1000/\H dx=a! (.own a):=by
 obtain⟨d,z,ne,ob,m,n,r,q⟩:=(show eh P w H h a (.ins C dx fs) from o a _ e)
 exact⟨m,⟨ob,n,ne⟩,r,q,z,d⟩
end
structure zq (K:Aq) (C:Ae):Prop where
 pg:Gz K C G9=b!
 hd:PySem.W.hasDictIn K C=b!
 po:HP K C=b!
 sa:PySem.W.findIn K (.ref C) "__setattr__"=a! (a! (.builtin "object.__setattr__"))
theorem zq.get {K:Aq}{C:Ae}(c:zq K C)(f:Al):Gz K C f=true:=c.pg
def iJ (K:Aq)(C:Ae)(f:Al):Prop:=PySem.W.findIn K (.ref C) f=a! a?
theorem iJ.Ĭ {K:Aq}{C:Ae}{f:Al}(n:iJ K C f):JJ K C f=a! none:=by
 unfold JJ;rw[show PySem.W.findIn K (.ref C) f=a! a? from n];rfl
structure Ve (K:Aq) (C:Ae) (m:Al) (f:Ae):Prop where
 at_:PySem.W.findIn K (.ref C) m=a! (a! (.ref f))
 fn:Lm K (.ref f)=b!
 kp:DH K (.ref f)=b!
section
variable {X:Cx}{pins:List (Ae×CJ)}{Y:St}{H:Hp}{s:Af}{a C dx:Ae}{fs:List (Al×V)}{f:Al}{v:V}{A:AN}{E:Aa->Af->Prop}
theorem sN {Q:Aa->Af->Prop}(I:bC X pins Y H s)(e:H a=a! (.ins C dx fs))(c:zq X.K C)(n:iJ X.K C f)(l:fs.lookup f=a! v)
  (h:∀u s',bC X pins Y H s'->cu v u->Q u s'):AI (model X.prog X.w) A (Li (.ref a) f b) Q E s:=by
 obtain⟨m,O,r,_,_,_⟩:=qj I.cL e;obtain⟨u,g,U⟩:=xn.some_of (o:=m f) (by rw[<- l];exact r f);exact W8 I.i_ O (c.get f) c.hd n g (Qn U) (h u _ (I.tok _) U)
theorem sM {Q:Aa×List Aa->Af->Prop}(I:bC X pins Y H s)(e:H a=a! (.ins C dx fs))(c:zq X.K C)(k:Ve X.K C m g)(l:fs.lookup m=a?)
  (h:Q (.ref g,[.ref a]) s):AI (model X.prog X.w) A (FT (.ref a) m pl) Q E s:=by
 obtain⟨M,O,r,_,_,_⟩:=qj I.cL e;have hn:M m=none:=xn.none_of (by rw[<- l];exact r m);exact UA I.i_ O (c.get m) k.at_ k.fn hn h
theorem qS {Q:Unit->Af->Prop}(I:bC X pins Y H s)(e:H a=a! (.ins C dx fs))(c:zq X.K C)(n:iJ X.K C f)(hl:fs.length<1000)(m:cu y u)
  (h:∀s',bC X pins Y (cQ H a (.ins C dx (g_ f y fs))) s'->Q () s'):AI (model X.prog X.w) A (setAttr (.ref a) f u) Q E s:=by
 obtain⟨M,O,r,k,_,l⟩:=qj I.cL e;have p:(fs.map (·.1)).length<=AL:=by rw[Au,CC];lia
 refine VS I.i_ O c.sa c.po n.Ĭ c.hd k p λh' j B=>h _ ?_
 have hd:∃o,h'.get? dx=a! o:=let⟨o,_,_,e',_⟩:=j.ns;⟨o,e'⟩
 refine I.write (by rw[e];exact Eu) (.inr l) (λb q t z=>(B.2 b t).trans z) hd ?_;refine⟨by rw[bJ O.ne];exact l,?_,O.ne,j.obj,_,j.ns,λg=>?_,λg hg=>?_⟩
 .have:=pj f y fs;lia
 .rw [ph];by_cases q:g=f
  .rw [c! q,c! q];exact m
  .rw [c? q,c? q];exact r g
 .by_cases q:g=f
  .rw [q];exact (oC f y fs).1
  .refine (oC f y fs).2 g (k g λz=>hg ?_);show (if g=f then a! u else M g)=a?
   rw[c? q];exact z
theorem bC.made (I:bC X pins Y H s):bC X pins Y (cQ (cQ H s.heap.objs.size (.own (s.heap.objs.size+1))) (s.heap.objs.size+1) (.ins C s.heap.objs.size []))
  {s with heap:=(s.heap.push Dv).push (Fq C s.heap.objs.size)}:=by
 have c:(s.heap.push Dv).get? s.heap.objs.size=a! Dv:=Av s.heap rfl;have k:((s.heap.push Dv).push (Fq C s.heap.objs.size)).get? (s.heap.objs.size+1)=a! (Fq C s.heap.objs.size):=by
  have:=Av (s.heap.push Dv) (o:=Fq C s.heap.objs.size) rfl
  rwa[Dw]at this
 have j:(s.heap.push Dv).Ns s.heap.objs.size (λ_=>a?):=⟨Dv,#[],_,c,rfl,(λe g=>absurd g (by simp)),λ_=>rfl⟩
 have l:=I.laid (o:=.own (s.heap.objs.size+1)) (h':=s.heap.push Dv) (t':=s.toks) (λb u q=>Ah _ q) (Ag _) ⟨_,c⟩;refine l.laid (a:=s.heap.objs.size+1) (o:=.ins C s.heap.objs.size []) (t':=s.toks) (λb u q=>Ah _ q) (IX (Dw _ _)) ?_;have ne:s.heap.objs.size≠s.heap.objs.size+1:=Bq (IV _);refine⟨by rw[bJ ne,aZ],By _,ne,k,λ_=>a?,(Heap.Ns1.of_empty j).at λo q=>Ah _ q,λ_=>Eu,λy h=>absurd rfl h⟩
theorem Xv {w:AR}{Q:Aa->Af->Prop}(B:F_ e f env (eval e env)=eval e env)
  (h:AI (model prog w) A (eval e env) (λo c=>AI (model prog w) A (Li o f b!) Q E c) E s):AI (model prog w) A (eval (.Attribute e f pos) env) Q E s:=
 Attribute_any_ h (by rw[arm_eval_Attribute,B])
end
def zE (K:Aq)(t:TE)(f:Al):TE:=λY H Q=>t Y H λx c=>∃a C e fs v,x = .ref a/\c a=a! (.ins C e fs)/\zq K C/\iJ K C f/\fs.lookup f=a! v/\Q v c
def Zz (K:Aq)(T t:TE)(f:Al):TS:=λD Y H=>t Y H λy g=>T Y g λx e=>∃a C c fs,x = .ref a/\e a=a! (.ins C c fs)/\zq K C/\iJ K C f/\fs.length<1000/\
 D.nx Y (cQ e a (.ins C c (g_ f y fs)))
def Ċ (X:Cx)(op:IM)(r:V->V->Hp->VK->Prop):Prop:=
 ∀(pins:List (Ae×CJ)) (s:Af) (Y:St) (H:Hp) (x y:V) (u v:Aa) (Q:VK),bC X pins Y H s->cu x u->cu y v->r x y H Q->AI (model X.prog X.w) X.A (JX op u v) (EP X pins Y Q) X.xe s
def NI (K:Aq)(T t:TE)(r:V->V->Hp->VK->Prop)(f:Al):TS:=λD Y H=>T Y H λx h=>∃a C j fs v,x = .ref a/\h a=a! (.ins C j fs)/\zq K C/\iJ K C f/\fs.lookup f=a! v/\
 t Y h λy k=>r v y k λz g=>∃e c,g a=a! (.ins C e c)/\c.length<1000/\D.nx Y (cQ g a (.ins C e (g_ f z c)))
section
variable {X:Cx}{o e value:Expr}{f:Al}{pos pos' Rz:Ew}{ta tv:TE}
theorem cp (g:PE X e ta)(B:F_ e f X.env (eval e X.env)=eval e X.env):PE X (.Attribute e f pos) (zE X.K ta f):=by
 intro pins s Y H Q I h;refine Xv B (cJ (g pins s Y H _ I h) λu w z=>?_);obtain⟨x,m,k,r,a,C,G,fs,v,ex,A,c,n,l,q⟩:=z;subst ex;obtain rfl:u=Bl a:=r;exact sN k A c n l λp t j U=>⟨v,m,j,U,q⟩
theorem gK (A:PE X o ta)(k:PE X value tv)(m:GN value (a! (.Attribute o f pos')) pos.line X.env=pure b?):PS X (.Assign [.Attribute o f pos'] value pos) (Zz X.K ta tv f):=by
 intro pins s Y H D I h;refine plainObj_wpAny_Assign_Attribute (cJ (k pins s Y H _ I h) λu g z=>?_) m;obtain⟨y,G,B,r,q⟩:=z;refine cJ (A pins g Y G _ B q) λv L z=>?_
 obtain⟨x,O,w,j,a,C,M,fs,ex,p,c,n,l,Q⟩:=z;subst ex;obtain rfl:v=Bl a:=j;exact qS w p c n l r λJ t=>⟨Y,_,t,Q⟩
theorem iR {r:V->V->Hp->VK->Prop}(M:PE X o ta)(J:PE X value tv)(p:Ċ X op r):PS X (.AugAssign (.Attribute o f Rz) op value pos) (NI X.K ta tv r f):=by
 intro pins s Y H D I h;refine wpAny_AugAssign_AttributeAny (cJ (M pins s Y H _ I h) λO s1 g=>?_);obtain⟨x,H1,I1,B,a,C,dx,fs,v,ex,ea,c,n,l,q⟩:=g;subst ex;obtain rfl:O=Bl a:=B;refine sN I1 ea c n l λu k I2 U=>cJ (J pins k Y H1 _ I2 q) λw j g=>?_
 obtain⟨y,H2,I3,t,G⟩:=g;refine cJ (p pins j Y H2 v y u w _ I3 U t G) λw4 s4 g=>?_
 obtain⟨z,H3,I4,m,Ϸ,T,A,L,Q⟩:=g;exact qS I4 A c n L m λs5 I5=>⟨Y,_,I5,Q⟩
def Xah:V->V->Hp->VK->Prop:=λx y H Q=>∃i j,x = .int i/\y = .int j/\Q (.int (i+j)) H
def Xaf:V->V->Hp->VK->Prop:=λx y H Q=>∃i j,x = .int i/\y = .int j/\Q (.int (i-j)) H
theorem Ut:Ċ X .Add Xah:=by
 rintro pins s Y H x y u v Q I a r ⟨i,j,rfl,rfl,q⟩;obtain⟨t,rfl⟩:=(show ∃t,u=D_ i t from a)
 obtain⟨t',rfl⟩:=(show ∃t',v=D_ j t' from r)
 exact Iu ⟨.int (i+j),H,I.tok _,⟨_,rfl⟩,q⟩
theorem Mp:Ċ X .Sub Xaf:=by
 rintro pins s Y H x y u v Q I a r ⟨i,j,rfl,rfl,q⟩;obtain⟨t,rfl⟩:=(show ∃t,u=D_ i t from a)
 obtain⟨t',rfl⟩:=(show ∃t',v=D_ j t' from r)
 exact Kj ⟨.int (i-j),H,I.tok _,⟨_,rfl⟩,q⟩
end
section
variable {X:Cx}{pins:List (Ae×CJ)}{Y:St}{H:Hp}{s:Af}{A:AN}{E:Aa->Af->Prop}{Q:Aa->Af->Prop}{c:Aa}{b:Bool}
inductive lH (K:Aq) (H:Hp):V->Aa->Prop where
 |cA:lH K H .cA (.type "NoneType")
 |bl (x:Bool):lH K H (.bl x) (.type "bool")
 |int (i:Int):lH K H (.int i) (.type "int")
 |str (x:Al):lH K H (.str x) (.type "str")
 |MB (x:UInt64):lH K H (.MB x) (.type "float")
 |lst {a:Ae} {xs:List V} (e:H a=a! (.lst xs)):lH K H (.ref a) (.type "list")
 |el {a:Ae} {o:CJ} {xs:List V} (e:H a=a! (.el o (.lst xs))):lH K H (.ref a) (.type "list")
 |tup {a:Ae} {xs:List V} (e:H a=a! (.tup xs)):lH K H (.ref a) (.type "tuple")
 |dK {a:Ae} {Ő:List (xt×V)} (e:H a=a! (.dK Ő)):lH K H (.ref a) (.type "dict")
 |dT {a:Ae} {Ő:List (List xt×V)} (e:H a=a! (.dT Ő)):lH K H (.ref a) (.type "dict")
 |ins {a C dx:Ae} {fs:List (Al×V)} (e:H a=a! (.ins C dx fs)) (cl:zq K C) (ha:PySem.W.findIn K (.ref C) "__class__"=a! (a! (.builtin "object.__class__")))
   (hn:PySem.W.specialIn K (.builtin "object.__class__") "__get__"=a! (a! (.builtin "getset_descriptor.__get__"))) (htk:PySem.W.takesIn K (.builtin "object.__class__")=a! b!)
   (hm:PySem.W.mroIn K C (.type "object")=a! b!):lH K H (.ref a) (.ref C)
theorem lr {x:V}{u t:Aa}(I:bC X pins Y H s)(r:cu x u)(ty:lH X.K H x t)(e:Fp X.K t c=a! b)(h:∀tk,Q (.bool b) {s with toks:=tk}):
  AI (model X.prog X.w) A (call (.builtin "isinstance") [u,c]) Q E s:=by
 cases ty with
 |cA=>cases (show u=EN from r);exact CG PySem.W.kitx_none I.i_ Eu e (λz=>nomatch z) h
 |bl y=>cases (show u=FE y from r);exact CG PySem.W.kitx_bool I.i_ Eu e (λz=>nomatch z) h
 |int i=>obtain⟨t,q⟩:=(show ∃t,u=D_ i t from r);cases q;exact CG PySem.W.kitx_int I.i_ Eu e (λz=>nomatch z) h
 |str y=>obtain⟨t,q⟩:=(show ∃t,u=Fh y t from r);cases q;exact CG PySem.W.kitx_str I.i_ Eu e (λz=>nomatch z) h
 |MB y=>obtain⟨t,q⟩:=(show ∃t,u=Hm y t from r);cases q;exact CG PySem.W.kitx_float I.i_ Eu e (λz=>nomatch z) h
 | @lst a xs f=>
  cases (show u=Bl a from r)
  obtain⟨_,_,n,_,h1⟩:=(show eh X.prog X.w H s.heap a (.lst xs) from I.cL a _ f)
  exact CG HR I.i_ ⟨_,h1,rfl⟩ e (λz=>nomatch z) h
 | @el a ob xs f=>
  cases (show u=Bl a from r)
  obtain⟨_,_,_,n,_,h1⟩:=(show eh X.prog X.w H s.heap a (.el ob (.lst xs)) from I.cL a _ f)
  exact CG HR I.i_ ⟨_,h1,rfl⟩ e (λz=>nomatch z) h
 | @tup a xs f=>
  cases (show u=Bl a from r)
  obtain⟨_,_,_,p⟩:=(show eh X.prog X.w H s.heap a (.tup xs) from I.cL a _ f)
  obtain⟨o,h1,h2,_⟩:=p;exact CG Js I.i_ ⟨o,h1,h2⟩ e (λz=>nomatch z) h
 | @dK a k f=>
  cases (show u=Bl a from r)
  obtain⟨_,_,vs,_,p⟩:=(show eh X.prog X.w H s.heap a (.dK k) from I.cL a _ f)
  obtain⟨o,j,v,h1,h2,_⟩:=p;exact CG HS I.i_ ⟨o,h1,h2.1⟩ e (λz=>nomatch z) h
 | @dT a k f=>
  cases (show u=Bl a from r)
  obtain⟨_,_,xs,_,o,j,v,h1,h2,_⟩:=(show eh X.prog X.w H s.heap a (.dT k) from I.cL a _ f)
  exact CG HS I.i_ ⟨o,h1,h2.1⟩ e (λz=>nomatch z) h
 | @ins a C G fs f l g hn T m=>
  cases (show u=Bl a from r)
  obtain⟨M,O,_⟩:=qj I.cL f;obtain⟨B,J,_⟩:=O.look;exact CG (PySem.W.kitx_own (l.get _) l.hd g hn T m) I.i_ J e (λz=>nomatch z) h
end
structure cB (k:Nat) (A:AN):Prop where
 hd:A.handled=a?
 dp:A.depth+3*k+5<Ks
 un:A.units+16*k+200<Gy
theorem cB.mono {A:AN}(r:cB k A)(h:j<=k):cB j A:=⟨r.hd,by have:=r.dp;lia,by have:=r.un;lia⟩
theorem cB.deeper {A:AN}(r:cB (k+1) A)(env:Ed):cB k (A.deeper env):=
 ⟨r.hd,by have:=r.dp;show A.depth+1+3*k+5<_;lia,by have:=r.un;show A.units+3+16*k+200<_;lia⟩
theorem L' {A:AN}{C:Ae}{us:List Aa}{k:List (Al×Aa)}:(A.under (.builtin "type.__call__" ⟨.ref C::us,k⟩)).depth=A.depth+1:=by
 first |rfl |simp[ guardIds]
theorem L4 {A:AN}{C:Ae}{us:List Aa}{k:List (Al×Aa)}:(A.under (.builtin "type.__call__" ⟨.ref C::us,k⟩)).units=A.units+1:=by
 first |rfl |simp[ Code.isFrame]
theorem cB.make {A:AN}(r:cB (k+1) A)(C:Ae)(us:List Aa)(w:List (Al×Aa)):cB k (A.under (.builtin "type.__call__" ⟨.ref C::us,w⟩)):=
 ⟨r.hd,by have:=r.dp;rw[L'];lia,by have:=r.un;rw[L4];lia⟩
theorem cB.depth {A:AN}(r:cB k A):A.depth<Ks:=by have:=r.dp;lia
theorem cB.units {A:AN}(r:cB k A):A.units+64<Gy:=by have:=r.un;lia
def gw:TA:=λ_ H Q=>Q [] H
def c9 (a:TE)(t:TA):TA:=λY H Q=>a Y H λx e=>t Y e λxs c=>Q (x::xs) c
section
variable {X:Cx}{e:Expr}{es:List Expr}{te:TE}{t:TA}{pos:Ew}
theorem aD:PA X [] gw:=λ_ _ _ _ H Q I h=>HV ⟨[],H,I,.nil,h⟩
theorem ae (A:PE X e te)(j:PA X es t)(g:Ap (e::es) X.env=(b?,eval e X.env)::Ap es X.env:=by rfl):PA X (e::es) (c9 te t):=by
 intro pos pins s Y H Q I h;rw[g];refine HD (cJ (A pins s Y H _ I h) λu a z=>?_);obtain⟨x,n,l,c,f⟩:=z;refine cJ (j pos pins a Y n _ l f) λus o z=>?_
 obtain⟨xs,m,k,r,q⟩:=z;exact⟨x::xs,m,k,.cons c r,q⟩
end
abbrev Sp:=List V->Hp->VK->XK->Prop
abbrev OK:=List Ed->Hp->Af->XK->Aa->Af->Prop
structure k8 (P:AA) (w:AR) (K:Aq) (mg:Al->Option Aa) (base:Heap) (A:AN) (outer:List Ed) (s:Af) (H:Hp):Prop where
 frames:A.frames=a! outer
 mod:Mod K mg base
 bs:∀b o,base.get? b=a! o->s.heap.get? b=a! o/\H b=a?
 MR:base.objs.size<=s.heap.objs.size
 jV:s.heap.FunFrames base outer
 Rb:∀b∈iY outer,H b=a?
 cL:jY P w H s.heap
 bare:CH s.gens
def CE (outer:List Ed)(P:AA)(w:AR)(H:Hp)(s:Af)(Q:VK)(u:Aa)(s':Af):Prop:=
 ∃v a,s'.os=s.os/\CH s'.gens/\Un (iY outer) [] H a s.heap s'.heap/\jY P w a s'.heap/\cu v u/\Q v a
def CR (C:OK)(outer:List Ed)(P:AA)(w:AR)(H:Hp)(s:Af)(Q:VK)(E:XK)(r:Gj)(s':Af):Prop:=
 match r with
 | .ok (.ret u)=>CE outer P w H s Q u s'
 | .ok _=>False
 | .error e=>C outer H s E e s'
structure fR (P:AA) (w:AR) (K:Aq) (mg:Al->Option Aa) (base:Heap) (CX:OK) (k:Nat) (f:Ae) (fd:A8) (ps:List Al) (sp:Sp):Prop where
 len:∀vs H Q E,sp vs H Q E->vs.length=ps.length
 run:∀(A:AN) (outer:List Ed) (s:Af) (H:Hp) (args:Args) (us:List Aa) (vs:List V) (Q:VK) (E:XK),cB k A->k8 P w K mg base A outer s H->FV s fd args (ps.zip us)->bQ vs us->sp vs H Q E->
  Cf (model P w) A (.call (.ref f) args) (CR CX outer P w H s Q E) s
theorem fR.mono {P:AA}{w:AR}{K:Aq}{m:Al->Option Aa}{base:Heap}{C:OK}{j k:Nat}{f:Ae}{fd:A8}{ps:List Al}{sp:Sp}(F:fR P w K m base C j f fd ps sp)(h:j<=k):
  fR P w K m base C k f fd ps sp:=⟨F.len,λA outer s H args us vs Q E r=>F.run A outer s H args us vs Q E (r.mono h)⟩
theorem k8.make {P:AA}{w:AR}{K:Aq}{m:Al->Option Aa}{base:Heap}{A:AN}{outer:List Ed}{s:Af}{H:Hp}(e:k8 P w K m base A outer s H)(C:Ae)(us:List Aa)(k:List (Al×Aa)):
  k8 P w K m base (A.under (.builtin "type.__call__" ⟨.ref C::us,k⟩)) outer s H:=⟨by first |exact e.frames | (simpa[ pushEnvs] using e.frames),e.mod,e.bs,e.MR,e.jV,e.Rb,e.cL,e.bare⟩
section
variable {X:Cx}{pins:List (Ae×CJ)}{Y:St}{H:Hp}{s s':Af}
theorem bC.yO (I:bC X pins Y H s):k8 X.prog X.w X.K X.mg X.base X.A X.stack s H:=
 ⟨I.ok.frames,I.ok.mod,I.bs,Bz I.ok.MR I.sz,I.stack,I.k_,I.cL,I.bare⟩
theorem bC.after (I:bC X pins Y H s)(h:CE X.stack X.prog X.w H s Q u s'):EP X pins Y Q u s':=by
 obtain⟨v,e,os,a,un,k,r,q⟩:=h;obtain⟨c,g,d,t,o⟩:=s';obtain rfl:o=s.os:=os;exact⟨v,e,I.call (h':=c) (g':=g) (d':=d) (t':=t) (ch:=[]) un k a (λb z=>absurd z (by simp)),r,q⟩
end
def lJ (sp:Sp)(v:List V)(E:XK)(t:TA):TE:=λY H Q=>t Y H λvs a=>sp (vs++v) a Q E
def RE (C:Ae)(m:Al)(sp:Sp)(v:List V)(E:XK)(T:TE)(t:TA):TE:=λY H Q=>T Y H λx c=>∃a e fs,x = .ref a/\c a=a! (.ins C e fs)/\fs.lookup m=a?/\
 t Y c λvs f=>sp (x::(vs++v)) f Q E
def XW (C:Ae)(sp:Sp)(c:List V)(E:XK)(t:TA):TE:=λY H Q=>t Y H λvs e=>∀x a,e x=a?->e a=a?->a≠x->
 sp (.ref x::(vs++c)) (cQ (cQ e a (.own x)) x (.ins C a [])) (λv f=>v = .cA/\Q (.ref x) f) E
def gf (K:Aq)(fd:A8)(ps:List Al)(ds:List Aa):Prop:=
 ∀(s:Af) (us:List Aa),K.In s.heap->(us++ds).length=ps.length->FV s fd ⟨us,[]⟩ (ps.zip (us++ds))
theorem gf.all {K:Aq}{fd:A8}{ps:List Al}(h:∀us:List Aa,us.length=ps.length->BQ fd ⟨us,[]⟩=pure (ps.zip us)):gf K fd ps []:=λs us _ hl=>by
 rw[A_]at hl ⊢;exact .of_eq (h us hl)
def mr (C:OK)(X:Cx)(E:XK):Prop:=∀(pins:List (Ae×CJ)) (Y:St) (H:Hp) (s:Af) (e:Aa) (s':Af),bC X pins Y H s->C X.stack H s E e s'->X.xe e s'
section
variable {X:Cx}{CX:OK}{k:Nat}{f C:Ae}{fd:A8}{ps:List Al}{sp:Sp}{yP:List V}{ds:List Aa}{E:XK}{x m:Al}{p pos apos:Ew}{e o:Expr}{es:List Expr}{ta:TE}{t:TA}
theorem vZ {Y:St}{H:Hp}(F:fR X.prog X.w X.K X.mg X.base CX k f fd ps sp)(g:cB k X.A)(B:gf X.K fd ps ds)(hd:bQ yP ds)(c:mr CX X E)
  (I:bC X pins Y H s) (r:bQ vs us) (h:sp (vs++yP) H Q E):AI (model X.prog X.w) X.A (call (.ref f) us) (EP X pins Y Q) X.xe s:=by
 have a:bQ (vs++yP) (us++ds):=r.append hd;have hl:(us++ds).length=ps.length:=by rw[<- a.length];exact F.len _ _ _ _ h
 refine Dm (BP (F.run X.A X.stack s H ⟨us,[]⟩ (us++ds) (vs++yP) Q E g I.yO (B s us I.i_ hl) a h) λr s' q=>?_)
 cases r with
 |error e=>exact c pins Y H s e s' I q
 |ok l=>
  cases l with
  |ret u=>exact I.after q
  |next=>exact AZ q
  |brk=>exact AZ q
  |cont=>exact AZ q
theorem Wo (F:fR X.prog X.w X.K X.mg X.base CX k f fd ps sp)(g:cB k X.A)(hg:Gl X x)(M:X.mg x=a! (.ref f))(j:DH X.K (.ref f)=b!)(u:gf X.K fd ps ds)(hd:bQ yP ds)(c:mr CX X E)
  (v:PA X (e::es) t) (B:(x==("__debug__":Al))=false:=by decide) (n:Ap (e::es) X.env=(b?,eval e X.env)::Ap es X.env:=by rfl) (l:(BR pos (Ap es X.env)).any (·.1)=false:=by rfl):
  PE X (.Call (.Name x p) (e::es) [] pos) (lJ sp yP E t):=by
 intro pins s Y H Q I h;refine Bx (ib I hg M ?_ B);refine DX I.ok.mod.WW j (cJ (v pos pins s Y H _ I h) λus G z=>?_) n l;obtain⟨vs,J,a,r,q⟩:=z;refine⟨a.i_,?_⟩;exact vZ F g u hd c a r q
theorem Wl (U:PE X o ta)(c:zq X.K C)(M:Ve X.K C m f)(F:fR X.prog X.w X.K X.mg X.base CX k f fd ps sp)(O:cB k X.A)(hb:gf X.K fd ps ds)(hd:bQ yP ds)(J:mr CX X E)(ha:PA X (e::es) t)
  (T:Ap (e::es) X.env=(b?,eval e X.env)::Ap es X.env:=by rfl) (L:(BR pos (Ap es X.env)).any (·.1)=false:=by rfl)
  (ht:eval (.Call (.Attribute o m apos) (e::es) [] pos) X.env=(do
   let v <- eval o X.env
   Gv apos.atName
   let (f,first) <- EQ [v] (FT v m pl)
   IH pos f first (BR pos (Ap (e::es) X.env)) (Hh pos (FL [] X.env))):=by rfl):
  PE X (.Call (.Attribute o m apos) (e::es) [] pos) (RE C m sp yP E ta t):=by
 intro pins s Y H Q I h;refine PySem.W.methodCall_KW (cJ (U pins s Y H _ I h) λu n z=>?_) ht;obtain⟨x,H1,j,B,a,dx,fs,ex,ea,l,q⟩:=z;subst ex;obtain rfl:u=Bl a:=B;refine sM j ea c M l ?_;refine DX (first:=[.ref a]) I.ok.mod.WW M.kp (cJ (ha pos pins n Y H1 _ j q) λus s2 z=>?_) T L;obtain⟨vs,H2,g,r,G⟩:=z;refine⟨g.i_,?_⟩;exact vZ (us:=.ref a::us) (vs:=.ref a::vs) F O hb hd J g (.cons rfl r) G
theorem Tc (B:PE X o ta)(c:zq X.K C)(M:Ve X.K C m f)(F:fR X.prog X.w X.K X.mg X.base CX k f fd ps sp)(n:cB k X.A)(G:gf X.K fd ps ds)(hd:bQ yP ds)(j:mr CX X E)
  (ht:eval (.Call (.Attribute o m apos) [] [] pos) X.env=(do
   let v <- eval o X.env
   Gv apos.atName
   let (f,first) <- EQ [v] (FT v m pl)
   IH pos f first (BR pos (Ap [] X.env)) (Hh pos (FL [] X.env))):=by rfl):
  PE X (.Call (.Attribute o m apos) [] [] pos) (RE C m sp yP E ta gw):=by
 intro pins s Y H Q I h;refine PySem.W.methodCall_KW (cJ (B pins s Y H _ I h) λu L z=>?_) ht;obtain⟨x,T,g,r,a,O,fs,ex,J,l,q⟩:=z;subst ex;obtain rfl:u=Bl a:=r;refine sM g J c M l ?_;exact PySem.W.callWith_K0 (first:=[.ref a]) g.i_ M.kp (vZ (us:=[.ref a]) (vs:=[.ref a]) F n G hd j g (.cons rfl .nil) q)
structure Mk (K:Aq) (C f:Ae):Prop where
 makes:JK K C=b!
 init:PySem.W.findIn K (.ref C) "__init__"=a! (a! (.ref f))
 fn:Lm K (.ref f)=b!
 kp:DH K (.ref C)=b!
theorem SN {Y:St}{H:Hp}(M:Mk X.K C f)(F:fR X.prog X.w X.K X.mg X.base CX k f fd ps sp)(B:cB (k+1) X.A)(G:gf X.K fd ps ds)(hd:bQ yP ds)
  (z:mr CX X E) (I:bC X pins Y H s) (r:bQ vs us)
  (h:∀x a,H x=a?->H a=a?->a≠x->sp (.ref x::(vs++yP)) (cQ (cQ H a (.own x)) x (.ins C a [])) (λv T=>v = .cA/\Q (.ref x) T) E):
  AI (model X.prog X.w) X.A (call (.ref C) us) (EP X pins Y Q) X.xe s:=by
 have j:=h (s.heap.objs.size+1) s.heap.objs.size (I.cL.fresh (JR _)) (I.cL.fresh (Ag _)) (Bq (IV _));have c:=bC.made (C:=C) I;have g:bQ (V.ref (s.heap.objs.size+1)::(vs++yP)) (Bl (s.heap.objs.size+1)::(us++ds)):=.cons rfl (r.append hd);have hl:(Bl (s.heap.objs.size+1)::us++ds).length=ps.length:=by
  have e:=g.length;rw[F.len _ _ _ _ j]at e;exact e.symm
 refine Dm (T9 I.i_ M.makes M.init (beq_iff_eq.mp M.fn) (BP (F.run _ X.stack _ _ ⟨Bl (s.heap.objs.size+1)::us,[]⟩ (Bl (s.heap.objs.size+1)::(us++ds)) _ _ E (B.make C us [])
  (c.yO.make C us []) (G _ (Bl (s.heap.objs.size+1)::us) c.i_ hl) g j) λr s' q=>?_))
 cases r with
 |error e=>exact z pins Y _ _ e s' c q
 |ok L=>
  cases L with
  |ret u=>
   obtain⟨v,U,O,l,J,n⟩:=c.after q;subst J;exact⟨l,⟨V.ref (s.heap.objs.size+1),U,O,rfl,n⟩⟩
  |next=>exact AZ q
  |brk=>exact AZ q
  |cont=>exact AZ q
theorem Wm (M:Mk X.K C f)(F:fR X.prog X.w X.K X.mg X.base CX k f fd ps sp)(g:cB (k+1) X.A)(hg:Gl X x)(j:X.mg x=a! (.ref C))(u:gf X.K fd ps ds)(hd:bQ yP ds)(c:mr CX X E)
  (v:PA X (e::es) t) (B:(x==("__debug__":Al))=false:=by decide) (n:Ap (e::es) X.env=(b?,eval e X.env)::Ap es X.env:=by rfl) (l:(BR pos (Ap es X.env)).any (·.1)=false:=by rfl):
  PE X (.Call (.Name x p) (e::es) [] pos) (XW C sp yP E t):=by
 intro pins s Y H Q I h;refine Bx (ib I hg j ?_ B);refine DX I.ok.mod.WW M.kp (cJ (v pos pins s Y H _ I h) λus G z=>?_) n l;obtain⟨vs,J,a,r,q⟩:=z;refine⟨a.i_,?_⟩;exact SN M F g u hd c a r q
end
section
variable {X:Cx}{CX:OK}{k:Nat}{f C:Ae}{fd:A8}{ps ks:List Al}{sp:Sp}{E:XK}{x m:Al}{p pos apos Xbf:Ew}{e o:Expr}{es:List Expr}{kws:List Lr}{te ta:TE}{t tk:TA}{nm:Option Al}
variable {g:List Aa->List Aa->List Aa}{gV:List V->List V->List V}
end
structure aR (N P:List Al) (sc:BM):Prop where
 kind:sc.kind = .function
 co:sc.isCoroutine=b?
 gen:sc.isGenerator=b?
 nd:N.Nodup
 pre:N.take P.length=P
 par:∀x∈P,sc.names.lookup x=a! .local∨sc.names.lookup x=a! .cell
 Â:∀y∈sc.names,y.2≠.free
theorem vj {kindOf:Al->Option Fe}:∀{binds:List (Al×Aa)} {m:Al->Option Aa},(∀v,(x,v)∉binds)->II kindOf binds m x=m x
 | [],_,_=>rfl
 | (n,v)::r,m,h=>by
  unfold II;rw[vj λw hw=>h w (Ax _ hw)];split
  .have:x≠n:=by rintro rfl;exact h v Ay
   simp[this]
  .rfl
theorem vl {kindOf:Al->Option Fe}:∀{binds:List (Al×Aa)} {m:Al->Option Aa},(∀v,(x,v)∉binds)->IJ kindOf binds m x=m x
 | [],_,_=>rfl
 | (n,v)::r,m,h=>by
  unfold IJ;rw[vl λw hw=>h w (Ax _ hw)];split
  .rfl
  .have:x≠n:=by rintro rfl;exact h v Ay
   simp[this]
theorem vk {kindOf:Al->Option Fe}:∀{P:List Al} {vs:List Aa} {i:Nat} {m:Al->Option Aa},P.Nodup->P[i]?=a! x->vs[i]?=a! v->kindOf x=a! .local->
  II kindOf (P.zip vs) m x=a! v
 | [],_,_,_,_,h,_,_=>by simp at h
 |_::_,[],_,_,_,_,h,_=>by simp at h
 |p::P,w::vs,0,m,n,h1,h2,k=>by
  simp at h1 h2;subst h1;subst h2
  show II kindOf ((p,w)::P.zip vs) m p=_
  unfold II;rw[vj λv a=>(AG.mp n).1 (Fw a).1,c! k];simp
 |p::P,w::vs,i+1,m,n,h1,h2,k=>by
  unfold II;exact vk (AG.mp n).2 h1 h2 k
theorem vm {kindOf:Al->Option Fe}:∀{P:List Al} {vs:List Aa} {i:Nat} {m:Al->Option Aa},P.Nodup->P[i]?=a! x->vs[i]?=a! v->kindOf x≠a! .local->
  IJ kindOf (P.zip vs) m x=a! v
 | [],_,_,_,_,h,_,_=>by simp at h
 |_::_,[],_,_,_,_,h,_=>by simp at h
 |p::P,w::vs,0,m,n,h1,h2,k=>by
  simp at h1 h2;subst h1;subst h2
  show IJ kindOf ((p,w)::P.zip vs) m p=_
  unfold IJ;rw[vl λv a=>(AG.mp n).1 (Fw a).1,c? k];simp
 |p::P,w::vs,i+1,m,n,h1,h2,k=>by
  unfold IJ;exact vm (AG.mp n).2 h1 h2 k
noncomputable def start (N:List Al)(vs:List V):St:=vs.map a!++Ar (N.length-vs.length) a?
noncomputable def du (CX:OK)(P:AA)(w:AR)(K:Aq)(mg:Al->Option Aa)(base:Heap)(N:List Al)(qual:Al)(scope:BM)(f:Ae)(cd:Aa)(A:AN)(outer:List Ed)(s:Af)(H:Hp)(E:XK):Cx where
 prog:=P
 w:=w
 K:=K
 mg:=mg
 base:=base
 A:=A.deeper (Bt qual scope s.heap.objs.size f cd)
 N:=N
 s₀:=s
 H₀:=H
 env:=Bt qual scope s.heap.objs.size f cd
 outer:=outer
 stack:=Bt qual scope s.heap.objs.size f cd::outer
 ex:=[]
 calm:=b!
 fn:=λ_=>b!
 pn:=[]
 xe:=λe s'=>AI (model P w) (A.deeper (Bt qual scope s.heap.objs.size f cd)) (Lh (Bt qual scope s.heap.objs.size f cd) e) (λ_ s''=>CX outer H s E e s'') (λe' s''=>CX outer H s E e' s'') s'
theorem sZ {sc:BM}{n:Nat}{x:Al}(h:sc.names.lookup x=a! .cell):∃c,(GO n sc.names []).lookup x=a! c:=by
 have q:=PySem.W.cellsFrom_some sc.names n [] (.inl h);exact Option.isSome_iff_exists.mp q
theorem Qm {G:OK}{P:AA}{w:AR}{K:Aq}{M:Al->Option Aa}{base:Heap}{N ps:List Al}{l:Al}{scope:BM}{f:Ae}{cd:Aa}{A:AN}{outer:List Ed}{s B:Af}{H:Hp}{E:XK}{us:List Aa}{vs:List V}
  (S:aR N ps scope) (hd:A.handled=a?) (g:k8 P w K M base A outer s H) (hl:vs.length=ps.length) (r:bQ vs us)
  (x:InCallC s s.heap.objs.size (II (Bt l scope s.heap.objs.size f cd).kindOf (ps.zip us) λ_=>a?) (GO (s.heap.objs.size+1) scope.names []) (IJ (Bt l scope s.heap.objs.size f cd).kindOf (ps.zip us) λ_=>a?) B):
  bC (du G P w K M base N l scope f cd A outer s H E) [] (start N vs) H B:=by
 have L:ps.length<=N.length:=by have:=congrArg Gp S.pre;rw[BE]at this;lia
 obtain⟨h1,tk,rfl,C⟩:=x.done;have o:∀b:Ae,b∉(du G P w K M base N l scope f cd A outer s H E).ex:=λb z=>absurd (show b∈([]:List Ae) from z) (by simp)
 refine⟨⟨g.mod,S.kind,rfl,rfl,Ag _,λy z c h1 h2=>?_,λy m=>?_,λy c _ h=>?_,λ_=>hd,Ha g.frames,.inr ⟨rfl,rfl⟩,λb z=>absurd z (o b),g.bs,g.MR,λb _ _=>o b,λb z=>absurd z (o b),g.jV,g.Rb⟩,
  rfl,g.bare,Un.kept C,⟨_,x.toInCall.ns,λi y v h1 h2 Q=>?_⟩,λy c h=>⟨_,x.cell y c h⟩,g.cL.fresh (Ag _),λy c h=>?_,λp t=>absurd (show p∈([]:List (Ae×CJ)) from t) (by simp),g.cL.kept C,?_⟩
 .exact name_of_addr x.apart (PySem.mem_of_lookup h1) (PySem.mem_of_lookup h2)
 .rcases m with m |m
  .exact sZ m
  .exact absurd rfl (S.Â _ (PySem.mem_of_lookup m))
 .exact DJ (x.above y c (PySem.mem_of_lookup h))
 .have hi:i<vs.length:=by
   unfold start at h2;by_cases hi:i<vs.length
   .exact hi
   .rw [Bi (by simpa using hi)]at h2;rw[C_]at h2;split at h2<;>cases h2
  have O:vs[i]?=a! v:=by
   unfold start at h2;rw[A9 (by simpa using hi),AK]at h2
   cases e:vs[i]? with
   |none=>rw[e]at h2;cases h2
   |some a=>rw[e]at h2;cases h2;rfl
  obtain⟨u,U,J⟩:=r.get O;have t:ps[i]?=a! y:=by
   rw[<- S.pre,Cq (by lia)];exact h1
  have j:ps.Nodup:=by rw[<- S.pre];exact S.nd.sublist (FW _ _)
  refine⟨u,J,?_⟩;rcases S.par y (Ai t) with k |k
  .exact .inl ⟨k,vk j t U k⟩
  .obtain ⟨c,e⟩:=sZ (n:=s.heap.objs.size+1) k;refine .inr ⟨.inl k,c,e,?_⟩;have q:=x.cell y c e;rw[vm j t U (by show scope.names.lookup y≠_;rw[k];decide)]at q;exact q
 .exact g.cL.fresh (DJ (x.above y c (PySem.mem_of_lookup h)))
 .unfold start;show _=N.length
  rw[AE,Au,BA];lia
theorem vb {C:OK}{P:AA}{w:AR}{K:Aq}{M:Al->Option Aa}{base:Heap}{k:Nat}{f:Ae}{name a:Al}{p:Cz}{body:List A6}{scope:BM}{dV kV O pm c ct oc:Aa}{an od:Option Ae}
  {L:Array (Option Aa)} {N ps:List Al} {sp:Sp} (lk:K.lookup f=a! ⟨oc,od,.func (DC name a p body scope dV kV O pm an c ct),L⟩) (Ý:Gi K c a=b!) (S:aR N ps scope)
  (len:∀vs H Q E,sp vs H Q E->vs.length=ps.length)
  (B:∀(A:AN) (outer:List Ed) (s:Af) (H:Hp) (vs:List V) (Q:VK) (E:XK),cB k (A.deeper (Bt a scope s.heap.objs.size f c))->sp vs H Q E->
   ∃t,PSs (du C P w K M base N a scope f c A outer s H E) body t/\t {nx:=λ_ g=>Q .cA g,rt:=Q} (start N vs) H):
  fR P w K M base C (k+1) f (DC name a p body scope dV kV O pm an c ct) ps sp:=by
 refine⟨len,λA outer s H args us vs Q E U m hb r l=>?_⟩;have hl:=len _ _ _ _ l;have KX:K.In s.heap:=m.mod.WW.keeps λb o e=>(m.bs b o e).1
 have T:s.heap.NoLimit:=m.mod.nolimit.keeps λb o e=>(m.bs b o e).1
 have h:∀y∈ps.zip us,scope.names.lookup y.1=a! .local∨(scope.names.lookup y.1=a! .cell/\((GO (s.heap.objs.size+1) scope.names []).lookup y.1).isSome=b!):=λ⟨n,v⟩ hy=>by
  rcases S.par n (Fw hy).1 with q |q
  .exact .inl q
  .exact .inr ⟨q,PySem.W.cellsFrom_some _ _ _ (.inl q)⟩
 refine codeAny_call_function U.depth (KX _ _ lk) rfl S.co S.gen rfl (PySem.W.codeRec_of KX Ý) (hb _ _ _ _ ?_);refine wpAny_newFunctionEnv_cells S.kind h λenv he s1 x=>?_
 subst he;refine⟨T.keeps x.toInCall.keep,codeAny_func ?_⟩;obtain⟨t,ht,hq⟩:=B A outer s H vs Q E (U.deeper _) l;have I:bC (du C P w K M base N a scope f c A outer s H E) [] (start N vs) H s1:=Qm S U.hd m hl r x;refine BC (ht [] s1 (start N vs) H _ I hq) (λfl s' j=>?_) λe s' j=>j
 have fin:∀{z:St} {g:Hp} {v:V} {u:Aa},bC (du C P w K M base N a scope f c A outer s H E) [] z g s'->cu v u->Q v g->CE outer P w H s Q u s':=
  λ{z g v u} J G q=>⟨v,g,J.os,J.bare,J.base,J.cL,G,q⟩
 cases fl with
 |ret u=>
  obtain⟨v,z,g,J,G,q⟩:=j;exact fin J G q
 |next=>
  obtain⟨z,g,J,q⟩:=j;exact fin (v:=V.cA) J rfl q
 |brk=>
  obtain⟨_,_,_,q⟩:=j;exact AZ q
 |cont=>
  obtain⟨_,_,_,q⟩:=j;exact AZ q
section
variable {X:Cx}{x:Al}{p pos:Ew}{e:Expr}{es:List Expr}{t:TA}{id T:String}{r:List V->Hp->VK->Prop}
def Đ (r:List V->Hp->VK->Prop)(t:TA):TE:=λY H Q=>t Y H λvs a=>r vs a Q
theorem aV (hc:gd X (.builtin id) r)(hg:Gl X x)(m:X.mg x=a?)(v:C5 x=a! (.builtin id))(A:PA X (e::es) t)(hn:x ≠ "__name__":=by decide)(B:(x==("__debug__":Al))=false:=by decide)
  (f:Ap (e::es) X.env=(b?,eval e X.env)::Ap es X.env:=by rfl) (l:(BR pos (Ap es X.env)).any (·.1)=false:=by rfl):PE X (.Call (.Name x p) (e::es) [] pos) (Đ r t):=by
 intro pins s Y H Q I h;refine Bx (fY I hg m v ?_ hn B);refine Kk (cJ (A pos pins s Y H _ I h) λus a z=>?_) f l;obtain⟨vs,j,g,c,q⟩:=z;exact hc pins a Y j vs us Q g c q
theorem iS (hc:gd X (.type T) r)(hg:Gl X x)(m:X.mg x=a?)(v:C5 x=a! (.type T))(A:PA X (e::es) t)(hn:x ≠ "__name__":=by decide)(B:(x==("__debug__":Al))=false:=by decide)
  (f:Ap (e::es) X.env=(b?,eval e X.env)::Ap es X.env:=by rfl) (l:(BR pos (Ap es X.env)).any (·.1)=false:=by rfl):PE X (.Call (.Name x p) (e::es) [] pos) (Đ r t):=by
 intro pins s Y H Q I h;refine Bx (fY I hg m v ?_ hn B);refine Ba (cJ (A pos pins s Y H _ I h) λus a z=>?_) f l;obtain⟨vs,j,g,c,q⟩:=z;exact hc pins a Y j vs us Q g c q
end
end L2
namespace HT
open PySem PyProof.Rows
noncomputable def lexLt:List Int->List Int->Bool
 | [],[]=>b?
 | [],_::_=>b!
 |_::_,[]=>b?
 |x::xs,y::ys=>if x=y then lexLt xs ys else decide (x<y)
theorem jx (x y:Int)(xs ys:List Int):lexLt (x::xs) (y::ys)=if x=y then lexLt xs ys else decide (x<y):=rfl
section
open PySem.SeqAt
open PySem.AutoSeq1(wpAny_loadPart')
open PySem.MeetsSeq PySem.MeetsSeq2 PySem.MeetsSeq3
end
section
variable {prog:AA}{w:AR}{A:AN}{E:Aa->Af->Prop}{s:Af}
noncomputable def tP (n d:Nat):Option Int->Nat
 |none=>d
 |some v=>if v<0 then (v+(n:Int)).toNat else min v.toNat n
theorem NH (n d k:Nat):tP n d (a! (k:Int))=min k n:=by
 show (if (k:Int)<0 then ((k:Int)+(n:Int)).toNat else min (k:Int).toNat n)=min k n
 rw[c? (by lia),AX]
end
end HT
namespace L2
open PySem PySem.Spec PyProof.Rows
abbrev TO:=St->Hp->(Option Int->Hp->Prop)->Prop
def PO (X:Cx)(e:Option Expr)(t:TO):Prop:=
 ∀(pins:List (Ae×CJ)) (s:Af) (Y:St) (H:Hp) (Q:Option Int->Hp->Prop),bC X pins Y H s->t Y H Q->
  AI (model X.prog X.w) X.A (evalPart e X.env) (λu s'=>∃o a,bC X pins Y a s'/\KG u o/\Q o a) X.xe s
def Ng:TO:=λ_ H Q=>Q a? H
def XT (t:TE):TO:=λY H Q=>t Y H λx a=>∃i,x = .int i/\Q (a! i) a
theorem sI:∀{us:List Aa},bQ (ns.map V.int) us->ET us ns:=by
 induction ns with
 |nil=>intro us r;rw[JT]at r;cases r;exact .nil
 |cons n ns h=>
  intro us r
  cases r with
  |cons c a=>
   obtain⟨t,e⟩:=c;subst e;exact .cons n t (h a)
section
variable {X:Cx}{e:Expr}{te:TE}{lo hi:Option Expr}{tl th:TO}{pos p2:Ew}
theorem NS:PO X a? Ng:=by
 intro pins s Y H Q I h;exact AD ⟨a?,H,I,.none,h⟩
theorem qg (h:PE X e te):PO X (a! e) (XT te):=by
 intro pins s Y H Q I hw;refine cJ (h pins s Y H _ I hw) λu g z=>?_
 obtain⟨x,f,c,r,a⟩:=z;obtain⟨i,rfl,q⟩:=a;obtain⟨t,rfl⟩:=r;exact⟨a! i,f,c,.int i t,q⟩
def ą (X:Cx)(r:V->Option Int->Option Int->Hp->VK->Prop):Prop:=
 ∀(pins:List (Ae×CJ)) (s:Af) (Y:St) (H:Hp) (x:V) (v l u:Aa) (lo hi:Option Int) (L:Ae) (Q:VK),bC X pins Y H s->cu x v->s.heap.IsSliceOf L l u .none->KG l lo->KG u hi->r x lo hi H Q->
  ∃T id,Gg (.type T) "__getitem__"=pure (a! (.builtin id))/\s.TypeIs v T/\AI (model X.prog X.w) X.A (JH v (.ref L)) (EP X pins Y Q) X.xe s
def tSl (r:V->Option Int->Option Int->Hp->VK->Prop)(te:TE)(tl th:TO):TE:=λY H Q=>te Y H λx f=>tl Y f λl c=>th Y c λu a=>r x l u a Q
theorem rC {r:V->Option Int->Option Int->Hp->VK->Prop}(t:ą X r)(w:PE X e te)(hl:PO X lo tl)(o:PO X hi th):PE X (.Subscript e (.Slice lo hi a? p2) pos) (tSl r te tl th):=by
 intro pins s Y H Q I h;refine Gn (cJ (w pins s Y H _ I h) λv g z=>?_);obtain⟨x,O,J,j,n⟩:=z;refine ID (cJ (hl pins g Y O _ J n) λL f z=>?_);obtain⟨l,M,G,pl,m⟩:=z;refine cJ (o pins f Y M _ G m) λU a z=>?_
 obtain⟨u,c,C,p,k⟩:=z;refine AD ?_;have B:bC X pins Y c {a with heap:=a.heap.push {cls:=.type "slice",data:=.fields #[L,U,.none]}}:=C.kept (t':=a.toks) λb ob q=>Ah _ q
 obtain⟨T,id,A,ht,hg⟩:=t pins {a with heap:=a.heap.push {cls:=.type "slice",data:=.fields #[L,U,.none]}} Y c x v L U l u a.heap.objs.size Q B j (Heap.IsSliceOf.new ..) pl p k;exact IN (ops:=[.ref a.heap.objs.size,v]) ht A hg (by with_unfolding_all rfl)
noncomputable def MI (xs:List V)(lo hi:Option Int):List V:=(xs.drop (HT.tP xs.length 0 lo)).take (HT.tP xs.length xs.length hi-HT.tP xs.length 0 lo)
theorem yS (xs:List V)(lo hi:Option Int):(MI xs lo hi).length<=xs.length:=by
 unfold MI;rw[BE,Er];lia
end
noncomputable def pq (n:Nat)(i:Int):Option Nat:=if 0<=i then (if i<n then a! i.toNat else a?) else if -(n:Int)<=i then a! (i+n).toNat else a?
def jB {a:Type}(xs:List a)(i:Int):Option a:=(pq xs.length i).bind λj=>xs[j]?
theorem Od (h:pq n i=a! j):HN i n=a! j/\j<n/\-(n:Int)<=i/\i<n:=by
 unfold pq at h;by_cases a:0<=i
 .rw [c! a]at h;by_cases h1:i<n
  .rw [c! h1]at h;have e:i.toNat=j:=AY h;exact⟨by rw[IE a h1,e],by lia,by lia,h1⟩
  .rw [c? h1]at h;cases h
 .rw [c? a]at h;by_cases h1 : -(n:Int)<=i
  .rw [c! h1]at h;have e:(i+n).toNat=j:=AY h;exact⟨by rw[seqIndex_neg (by lia) h1,e],by lia,h1,by lia⟩
  .rw [c? h1]at h;cases h
theorem OE {a:Type}{xs:List a}{i:Int}{v:a}(h:jB xs i=a! v):∃j,HN i xs.length=a! j/\xs[j]?=a! v/\j<xs.length/\-(xs.length:Int)<=i/\i<xs.length:=by
 unfold jB at h
 cases e:pq xs.length i with
 |none=>rw[e]at h;cases h
 |some j=>
  rw[e]at h;obtain⟨h1,h2,f,c⟩:=Od e;exact⟨j,h1,h,h2,f,c⟩
theorem dw {a:Type}{xs:List a}{j:Nat}{v:a}(h:xs[j]?=a! v):jB xs (j:Int)=a! v:=by
 have J:j<xs.length:=(Ab.mp h).1;have e:pq xs.length (j:Int)=a! j:=by
  unfold pq;rw[c! (by lia),c! (by lia)];simp
 unfold jB;rw[e];exact h
theorem U9 {a:Type}(xs:List a)(v:a):jB (xs++[v]) (-1)=a! v:=by
 have hl:(xs++[v]).length=xs.length+1:=by simp
 have e:pq (xs++[v]).length (-1)=a! xs.length:=by
  unfold pq;rw[ c? (by decide),c! (by lia)];congr 1
  lia
 unfold jB;rw[e];simp
def OJ (b:Expr):Prop:=∀o i,LD b b? o i=operate [o,i] (JH o i)
def IxR (X:Cx)(r:R2):Prop:=
 ∀(value slice:Expr) (pins:List (Ae×CJ)) (s:Af) (Y:St) (H:Hp) (x y:V) (v u:Aa) (Q:VK),bC X pins Y H s->cu x v->cu y u->r x y H Q->
  LD slice b? v u=operate [v,u] (JH v u)->AI (model X.prog X.w) X.A (subscriptTail value slice v u) (EP X pins Y Q) X.xe s
def MtR (X:Cx)(id:String)(r:V->List V->Hp->VK->Prop):Prop:=
 ∀(pins:List (Ae×CJ)) (s:Af) (Y:St) (H:Hp) (x:V) (xs:List V) (v:Aa) (us:List Aa) (Q:VK),bC X pins Y H s->cu x v->bQ xs us->r x xs H Q->
  AI (model X.prog X.w) X.A (call (.builtin id) (v::us)) (EP X pins Y Q) X.xe s
section
variable {X:Cx}{a b:Expr}{ta tb:TE}{pos:Ew}
theorem aS (j:IxR X r)(A:PE X a ta)(B:PE X b tb)(g:OJ b):PE X (.Subscript a b pos) (Nd r ta tb):=by
 intro pins s Y H Q I h;exact Gn (ö A B I h λv u c x y l k f e q=>j a b pins c Y l x y v u Q k f e q (g _ _))
def S1 (K:Aq):R2:=λx y H Q=>∃p xs i v,x = .ref p/\y = .int i/\eQ K H p xs/\jB xs i=a! v/\Q v H
def ZK (K:Aq):R2:=λx y H Q=>∃p xs i v,x = .ref p/\y = .int i/\lA K H p xs/\jB xs i=a! v/\Q v H
theorem bR:IxR X (S1 X.K):=by
 intro value slice pins s Y H x y v u Q I l k h e;obtain⟨p,xs,i,z,rfl,rfl,m,n,q⟩:=h;cases l;obtain⟨t,rfl⟩:=k;obtain⟨T,r,pl,B⟩:=I.list m;obtain⟨j,h1,h2,C,A,o⟩:=OE n;obtain⟨w,g,c⟩:=r.get h2;have hl:=r.length;have hn:=oz;have fin:EP X pins Y Q w s:=⟨z,H,I,c,q⟩
 by_cases f:0<=i
 .have J:i.toNat=j:=by
   rw[IE f o]at h1;exact AY h1
  exact item_listR pl.isList f (by lia) (by rw[J];simpa using g) fin e
 .have J:(i+(T.toArray.size:Int)).toNat=j:=by
   rw[seqIndex_neg (by lia) A]at h1;rw[Am,<- hl];exact AY h1
  exact Ih pl.isList.typeIs EO.lookup
   (wpAny_getItem_list_neg (Q:=λr s'=>r=w/\EP X pins Y Q r s') pl.isList (by lia) (by rw[Am]<;>lia) (by lia) (by rw[J];simpa using g) ⟨rfl,fin⟩) e
theorem aQ:IxR X (ZK X.K):=by
 intro value slice pins s Y H x y v u Q I f e h g;obtain⟨p,xs,i,z,rfl,rfl,k,l,q⟩:=h;cases f;obtain⟨t,rfl⟩:=e;obtain⟨T,r,pl,n⟩:=I.tuple k;obtain⟨j,h1,h2,B,A,o⟩:=OE l;obtain⟨w,m,c⟩:=r.get h2;have hl:=r.length;have hn:=oz;have fin:EP X pins Y Q w s:=⟨z,H,I,c,q⟩
 exact Ih pl.typeIs DQ.lookup
  (Hq (Q:=λr s'=>r=w/\EP X pins Y Q r s') pl (by lia) (by lia) (by rw[Am,<- hl];exact h1) (by simpa using m) ⟨rfl,fin⟩) g
theorem L3 (t:List Aa)(n j:Nat)(u:Aa):Cw (·.setIfInBounds j u) {cls:=.type "list",data:=.seq t.toArray n}={cls:=.type "list",data:=.seq (t.set j u).toArray n}:=by
 simp[Cw]
theorem bC.lst {Y:St}{H:Hp}(I:bC X pins Y H s)(h:H p=a! (.lst xs)):
  ∃(t:List Aa) (n:Nat),bQ xs t/\s.heap.get? p=a! {cls:=.type "list",data:=.seq t.toArray n}/\xs.length<=AL:=by
 obtain⟨z,t,n,r,e⟩:=I.cL p _ h;exact⟨t,n,r,e,z⟩
theorem bC.Ç {pins:List (Ae×CJ)}{Y:St}{H:Hp}{s:Af}{p:Ae}{xs ys:List V}{T its':List Aa}{n c:Nat}{f:CJ->CJ}(I:bC X pins Y H s)(h:H p=a! (.lst xs))
  (o:s.heap.get? p=a! {cls:=.type "list",data:=.seq T.toArray n}) (hf:f {cls:=.type "list",data:=.seq T.toArray n}={cls:=.type "list",data:=.seq its'.toArray c}) (r:bQ ys its') (z:ys.length<=AL) (t:Nat):
  bC X pins Y (cQ H p (.lst ys)) {s with heap:=s.heap.update p f,toks:=t}:=by
 have e:(s.heap.update p f).get? p=a! {cls:=.type "list",data:=.seq its'.toArray c}:=by
  rw[Cy f o (by rw[hf]<;>rfl),hf]
 refine I.write (by rw[h];trivial) (.inl rfl) (λb u B q=>(Ck _ _ (Bb B)).trans q) ⟨_,e⟩ ?_;exact⟨z,its',c,r,e⟩
def NN:V->V->V->Hp->(Hp->Prop)->Prop:=λo i v H Q=>∃p xs k j,o = .ref p/\i = .int k/\H p=a! (.lst xs)/\pq xs.length k=a! j/\Q (cQ H p (.lst (xs.set j v)))
theorem fN:Ć X NN:=by
 intro pins s Y H o i v C G u Q I z A w h;obtain⟨p,xs,k,j,rfl,rfl,e,J,q⟩:=h;cases z;obtain⟨t,rfl⟩:=A;obtain⟨T,n,r,O,B⟩:=I.lst e;obtain⟨h1,h2,g,f⟩:=Od J;have hl:=r.length;have hn:=oz;have m:bC X pins Y (cQ H p (.lst (xs.set j v))) {s with heap:=s.heap.update p (Cw (·.setIfInBounds j u))}:=
  I.Ç e O (L3 T n j u) (r.set w j) (by rw[Bk];exact B) s.toks
 by_cases l:0<=k
 .have c:k.toNat=j:=by
   rw[IE l f]at h1;exact AY h1
  exact PySem.W.ki_setAt O l (by lia) (by rw[Am,<- hl];exact f) (by rw[c];exact⟨_,m,q⟩)
 .have c:(k+(T.toArray.size:Int)).toNat=j:=by
   rw[seqIndex_neg (by lia) g]at h1;rw[Am,<- hl];exact AY h1
  exact PySem.W.ki_setBack O (by lia) (by rw[Am,<- hl];exact g) (by lia) (by rw[c];exact⟨_,m,q⟩)
theorem vA (lo hi:Option Int)(n:Nat):(Cj lo hi a? n).1=((HT.tP n 0 lo:Nat):Int)/\(Cj lo hi a? n).2.1=((HT.tP n n hi:Nat):Int)/\(Cj lo hi a? n).2.2=1:=by
 refine⟨?_,?_,rfl⟩
 .cases lo with
  |none=>simp[Cj,HT.tP]
  |some i=>
   simp only[Cj,HT.tP,J5,if_true];by_cases h:i<0
   .simp only[h,if_true]<;>lia
   .simp only[h,if_false]<;>lia
 .cases hi with
  |none=>simp[Cj,HT.tP]
  |some i=>
   simp only[Cj,HT.tP,J5,if_true];by_cases h:i<0
   .simp only[h,if_true]<;>lia
   .simp only[h,if_false]<;>lia
theorem tK (t:List Aa)(lo hi:Option Int):FS t.toArray lo hi a?=((t.drop (HT.tP t.length 0 lo)).take (HT.tP t.length t.length hi-HT.tP t.length 0 lo)).toArray:=by
 obtain⟨h1,h2,h⟩:=vA lo hi t.toArray.size;unfold FS;rw[h1,h2,h];simp only[sliceRange_one,pick_run]<;>rfl
def Xag (K:Aq):V->Option Int->Option Int->Hp->VK->Prop:=λx lo hi H Q=>∃a xs,x = .ref a/\eQ K H a xs/\∀p,H p=a?->Q (.ref p) (cQ H p (.lst (MI xs lo hi)))
theorem VJ:ą X (Xag X.K):=by
 intro pins s Y H x v L u lo hi g Q I c f pl p h;obtain⟨a,xs,rfl,e,q⟩:=h;cases c;obtain⟨t,r,ht,z⟩:=I.list e;have l:=r.length;refine⟨"list",_,EO.lookup,ht.isList.typeIs,?_⟩;refine EY ht.isList f pl p .none (by simp) ?_ (by rw[Am]<;>lia);rw[tK,<- l];refine⟨.ref s.heap.objs.size,_,I.laid (t':=s.toks) (o:=.lst (MI xs lo hi)) (λb ob q=>Ah _ q) (Ag _) ?_,rfl,q _ (I.cL.fresh (Ag _))⟩;exact⟨Bz (yS xs lo hi) z,_,0,(r.drop (HT.tP xs.length 0 lo)).take (HT.tP xs.length xs.length hi-HT.tP xs.length 0 lo),Av _ rfl⟩
noncomputable def YD:V->Bool
 | .cA=>b!
 | .bl _=>b!
 | .int _=>b!
 | .str _=>b!
 |_=>b?
noncomputable def ŧ:V->V->Bool
 | .cA,.cA=>b!
 | .bl a,.bl b=>a==b
 | .bl a,.int b=>(if a then 1 else 0)==b
 | .int a,.bl b=>a==(if b then 1 else 0)
 | .int a,.int b=>a==b
 | .str a,.str b=>a==b
 |_,_=>b?
theorem ME {A:AN}(c:cu y u)(r:cu x v)(f:YD y=b!)(fx:YD x=b!):HC A s u v (ŧ y x):=by
 cases y with
 |cA=>
  cases c
  cases x with
  |cA=>cases r;exact FH _
  |bl b=>cases r;exact K7 b
  |int b=>obtain⟨t,rfl⟩:=r;exact K6 b t
  |str b=>obtain⟨t,rfl⟩:=r;exact K5 b t
  |_=>exact absurd (show b?=b! from fx) Az
 |bl a=>
  cases c
  cases x with
  |cA=>cases r;exact Lb a
  |bl b=>cases r;exact GG a b
  |int b=>obtain⟨t,rfl⟩:=r;exact Lc a b t
  |str b=>obtain⟨t,rfl⟩:=r;exact La a b t
  |_=>exact absurd (show b?=b! from fx) Az
 |int a=>
  obtain⟨t',rfl⟩:=c
  cases x with
  |cA=>cases r;exact K8 a t'
  |bl b=>cases r;exact K_ a t' b
  |int b=>obtain⟨t,rfl⟩:=r;exact K9 a t' b t
  |str b=>obtain⟨t,rfl⟩:=r;exact GX a t' b t
  |_=>exact absurd (show b?=b! from fx) Az
 |str a=>
  obtain⟨t',rfl⟩:=c
  cases x with
  |cA=>cases r;exact K3 a t'
  |bl b=>cases r;exact K4 a t' b
  |int b=>obtain⟨t,rfl⟩:=r;exact GV a t' b t
  |str b=>obtain⟨t,rfl⟩:=r;exact K2 a t' b t
  |_=>exact absurd (show b?=b! from fx) Az
 |_=>exact absurd (show b?=b! from f) Az
theorem a_:gd X (.builtin "len") (λxs H Q=>∃p ys,xs=[.ref p]/\(eQ X.K H p ys∨lA X.K H p ys)/\Q (.int ys.length) H):=by
 intro pins s Y H xs us Q I r h;obtain⟨p,ys,rfl,c,q⟩:=h;obtain⟨u,rfl,f⟩:=j4 r;cases f;have hn:=oz;rcases c with c |c
 .obtain ⟨t,e,pl,z⟩:=I.list c;have l:=e.length;exact Calls.call_len_list pl.isList (by simp only[Am]<;>lia) ⟨.int ys.length,H,I.tok _,⟨s.toks+1,by rw[Am,l]⟩,q⟩
 .obtain ⟨t,e,pl,z⟩:=I.tuple c;have l:=e.length;exact Ii pl (by simp only[Am]<;>lia) ⟨.int ys.length,H,I.tok _,⟨s.toks+1,by rw[Am,l]⟩,q⟩
theorem dk:gd X (.builtin "len") (λxs H Q=>∃z,xs=[.str z]/\z.length<=AL/\Q (.int z.length) H):=by
 intro pins s Y H xs us Q I r h;obtain⟨z,rfl,c,q⟩:=h;obtain⟨u,rfl,t,rfl⟩:=j4 r;have hn:=oz;exact len_str (by lia) ⟨.int z.length,H,I.tok _,⟨_,rfl⟩,q⟩
theorem xb:gd X (.type "list") (λxs H Q=>∃p ys,xs=[.ref p]/\(eQ X.K H p ys∨lA X.K H p ys)/\∀l,H l=a?->Q (.ref l) (cQ H l (.lst ys))):=by
 intro pins s Y H xs us Q I r h;obtain⟨p,ys,rfl,f,q⟩:=h;obtain⟨u,rfl,j⟩:=j4 r;cases j;have fin:∀(t:List Aa),bQ ys t->ys.length<=AL->∀(h':Heap) (c':Nat),(∀b g,s.heap.get? b=a! g->h'.get? b=a! g)->
   h'.get? s.heap.objs.size=a! {cls:=.type "list",dict:=a?,data:=.seq t.toArray c',slots:=#[]}->EP X pins Y Q (.ref s.heap.objs.size) {s with heap:=h'}:=λt c z h' c' k e=>
  ⟨.ref s.heap.objs.size,_,I.laid (t':=s.toks) k (Ag _) (show eh X.prog X.w _ h' _ (.lst ys) from⟨z,t,c',c,e⟩),rfl,q _ (I.cL.fresh (Ag _))⟩
 rcases f with f |f
 .obtain ⟨t,c,pl,z⟩:=I.list f;have L:=c.length;obtain⟨o,O,hc,n,hd⟩:=pl.isList;exact K0 p (.inl rfl) O hc hd (λh' c' k e=>fin t c z h' c' k e) (by simp only[Am]<;>lia)
 .obtain ⟨t,c,pl,z⟩:=I.tuple f;have L:=c.length;obtain⟨o,O,hc,n,hd⟩:=pl;exact K0 p (.inr rfl) O hc hd (λh' c' k e=>fin t c z h' c' k e) (by simp only[Am]<;>lia)
def tyV (K:Aq)(T:String)(x:V)(H:Hp):Prop:=match x with
 | .str _=>T = "str"
 | .int _=>T = "int"
 | .ref p=>(T = "list"/\∃xs,eQ K H p xs)∨(T = "tuple"/\∃o,K.lookup p=a! o/\o.cls = .type "tuple"/\o.dict=a?)∨
   (T = "dict"/\((∃k,H p=a! (.dK k))∨∃k,H p=a! (.dT k)))∨(T = "set"/\∃S n,H p=a! (.set S n))
 |_=>False
theorem Rv {Y:St}{H:Hp}(I:bC X pins Y H s)(r:cu x v)(ty:tyV X.K T x H):
  s.TypeIs v T/\∀a,v = .ref a->∃ob,s.heap.get? a=a! ob/\ob.dict=none:=by
 cases x with
 |str z=>
  obtain⟨t,rfl⟩:=r
  cases (show T = "str" from ty)
  exact⟨LS s z t,λ_ e=>nomatch e⟩
 |int i=>
  obtain⟨t,rfl⟩:=r
  cases (show T = "int" from ty)
  exact⟨Jo s i t,λ_ e=>nomatch e⟩
 |ref p =>
  cases r;rcases ty with⟨rfl,xs,q⟩ | ⟨rfl,o,h,hc,hd⟩ | ⟨rfl,h⟩ | ⟨rfl,S,n,h⟩
  .obtain ⟨g,_,pl,_⟩:=I.list q;refine⟨pl.isList.typeIs,λa e=>?_⟩;cases e;obtain⟨o,n,e,c,hd,_⟩:=pl;exact⟨o,e,hd⟩
  .refine ⟨⟨o,I.i_ p o h,hc⟩,λa e=>?_⟩;cases e;exact⟨o,I.i_ _ o h,hd⟩
  .have z:∃o,s.heap.get? p=a! o/\o.ExactDict:=by
    rcases h with⟨k,h⟩ | ⟨k,h⟩
    .obtain ⟨_,_,_,_,o,_,_,e,ex,_⟩:=I.cL p _ h;exact⟨o,e,ex⟩
    .obtain ⟨_,_,_,_,o,_,_,e,ex,_⟩:=I.cL p _ h;exact⟨o,e,ex⟩
   obtain⟨o,e,ex⟩:=z;refine⟨⟨o,e,ex.1⟩,λa f=>?_⟩;cases f;exact⟨o,e,ex.2.1⟩
  .obtain ⟨o,_,_,_,e,ex,_⟩:=I.cL p _ h;refine⟨⟨o,e,ex.1⟩,λa f=>?_⟩;cases f;exact⟨o,e,ex.2.1⟩
 |_=>exact AZ ty
def VC (K:Aq)(T:String)(r:V->List V->Hp->VK->Prop)(t:TE):TE:=λY H Q=>t Y H λx c=>tyV K T x c/\r x [] c Q
def VD (K:Aq)(T:String)(r:V->List V->Hp->VK->Prop)(o:TE)(t:TA):TE:=λY H Q=>o Y H λx c=>tyV K T x c/\t Y c λxs e=>r x xs e Q
variable {o e:Expr}{es:List Expr}{to:TE}{t:TA}{name:Al}{apos sX:Ew}{T id:String}{r:V->List V->Hp->VK->Prop}
theorem D' (p:L8 T)(slot:L7 T name id)(c:Jn (.builtin id)=pure (.type "method_descriptor"))(m:MtR X id r)(O:PE X o to)
  (B:F_ o name X.env (eval o X.env)=eval o X.env:=by rfl) (l:(apos.endLine==sX.line)=true:=by rfl):PE X (.Call (.Attribute o name apos) [] [] sX) (VC X.K T r to):=by
 intro pins s Y H Q I h;refine wpAny_Call_method0_late B l (cJ (O pins s Y H _ I h) λv j z=>?_);obtain⟨x,k,g,f,ty,q⟩:=z;obtain⟨h1,h2⟩:=Rv g f ty;exact⟨T,id,p,slot,c,h1,h2,G7 rfl (PySem.evalArgs_none (m pins j Y k x [] v [] Q g f .nil q))⟩
theorem gM (w:L8 T)(slot:L7 T name id)(c:Jn (.builtin id)=pure (.type "method_descriptor"))(M:MtR X id r)(O:PE X o to)(G:PA X (e::es) t)
  (B:F_ o name X.env (eval o X.env)=eval o X.env:=by rfl)
  (f:((BR sX (Ap (e::es) X.env)).all (λx => !x.1) && (Hh sX (FL [] X.env)).all (λx=>x.1.isSome)
   && decide ((e::es).length+([]:List Lr).length+(if ([]:List Lr).isEmpty then 0 else 1)<30))=true:=by rfl)
  (l:(apos.endLine==sX.line)=true:=by rfl) (C:Ap (e::es) X.env=(b?,eval e X.env)::Ap es X.env:=by rfl) (p:(BR sX (Ap es X.env)).any (·.1)=false:=by rfl):
  PE X (.Call (.Attribute o name apos) (e::es) [] sX) (VD X.K T r to t):=by
 intro pins s Y H Q I h;refine wpAny_Call_method_late B f l rfl (cJ (O pins s Y H _ I h) λv m z=>?_);obtain⟨x,U,j,g,ty,u⟩:=z;obtain⟨h1,h2⟩:=Rv j g ty;refine⟨T,id,w,slot,c,h1,h2,?_⟩;have A:=G sX pins m Y U _ j u;rw[C]at A ⊢;refine G7 (by show (b? || (BR sX (Ap es X.env)).any (·.1))=b?;rw[p]<;>rfl) (Ho ?_);refine cJ A λus k z=>?_
 obtain⟨vs,L,J,n,q⟩:=z;exact M pins k Y L x vs v us Q J g n q
end
def ϑ (X:Cx)(id:String)(r:V->List V->Hp->VK->Prop):Prop:=
 ∀(pins:List (Ae×CJ)) (s:Af) (Y:St) (H:Hp) (x:V) (xs:List V) (v:Aa) (us:List Aa) (Q:VK),bC X pins Y H s->cu x v->bQ xs us->r x xs H Q->
  AI (model X.prog X.w) X.A (call (.builtin id) (v::us)) (EP X pins Y Q) X.xe s
theorem bQ.one:∀{x:V} {us:List Aa},bQ [x] us->∃u,us=[u]/\cu x u
 |_,_,.cons r .nil=>⟨_,rfl,r⟩
theorem bQ.zero:∀{us:List Aa},bQ [] us->us=[]
 |_,.nil=>rfl
theorem bQ.dropLast (h:bQ xs us):bQ xs.dropLast us.dropLast:=by
 induction h with
 |nil=>exact .nil
 |cons r t a=>
  cases t with
  |nil=>exact .nil
  |cons q t'=>exact .cons r a
theorem bQ.eraseIdx:∀{xs:List V} {us:List Aa} (i:Nat),bQ xs us->bQ (xs.eraseIdx i) (us.eraseIdx i)
 |_,_,_,.nil=>.nil
 |_,_,0,.cons _ t=>t
 |_,_,i+1,.cons r t=>.cons r (bQ.eraseIdx i t)
theorem bQ.rep (h:bQ xs us):∀k:Nat,bQ (Ar k xs).flatten (Ar k us).flatten
 | 0=>.nil
 |k+1=>by
  exact bQ.append h (bQ.rep h k)
theorem MD {c:Type}(l:List c):l.eraseIdx (l.length-1)=l.dropLast:=by
 induction l with
 |nil=>rfl
 |cons a r h=>
  cases r with
  |nil=>rfl
  |cons b r=>
   have e:(a::b::r).length-1=((b::r).length-1)+1:=by
    have h1:(a::b::r).length=r.length+2:=rfl;have h2:(b::r).length=r.length+1:=rfl;lia
   rw[e,List.eraseIdx_cons_succ,h]
   all_goals rfl
theorem uW {a:Type}:∀(l:List a) (i:Nat),(l.eraseIdx i).length<=l.length
 | [],_=>Ag _
 |_::_,0=>JR _
 |_::r,i+1=>Nat.succ_le_succ (uW r i)
theorem u9 (t:List Aa):∀(k:Nat) (a:List Aa),
  HY (λf c=>f++c) a.toArray (Ar k t.toArray)=(a++(Ar k t).flatten).toArray
 | 0,a=>by simp
 |k + 1,a=>by
  have e:a.toArray++t.toArray=(a++t).toArray:=by simp
  have g:(a++t)++(Ar k t).flatten=a++(Ar (k+1) t).flatten:=by
   rw[FD,Il,BN]
  rw[<- g,<- u9 t k (a++t),<- e,FD,B_]
section
variable {X:Cx}{pins:List (Ae×CJ)}{Y:St}{H:Hp}{s:Af}{l b:Ae}{xs ys zs:List V}
theorem bC.Ua {t its':List Aa}{n:Nat}{f:Array Aa->Array Aa}{t':Nat}(I:bC X pins Y H s)(a:H l=a! (.lst xs))
  (e:s.heap.get? l=a! {cls:=.type "list",data:=.seq t.toArray n}) (hf:f t.toArray=its'.toArray) (v:bQ ys its') (h:ys.length<=AL):
  bC X pins Y (cQ H l (.lst ys)) {s with heap:=s.heap.update l (Cw f),toks:=t'}:=by
 have q:=PySem.IsL.update e f;rw[hf]at q;refine I.write (by rw[a];exact trivial) (.inl rfl) (λc u B U=>(Ck s.heap (Cw f) (Bb B)).trans U) ⟨_,q⟩ ?_;exact⟨h,its',_,v,q⟩
theorem bC.È (I:bC X pins Y H s)(v:bQ ys t)(h:ys.length<=AL):
  bC X pins Y (cQ H s.heap.objs.size (.lst ys)) {s with heap:=s.heap.push {cls:=.type "list",data:=.seq t.toArray},toks:=t'}:=
 I.laid (λ_ _ q=>Ah _ q) (Ag _) ⟨h,t,0,v,Av _ rfl⟩
theorem bC.fresh (I:bC X pins Y H s):H s.heap.objs.size=none:=I.cL.fresh (Ag _)
theorem bC.Qi (I:bC X pins Y H s)(h:H l=a! (.lst xs)):xs.length<=AL/\∃(t:List Aa) (n:Nat),bQ xs t/\xs.length=t.length/\s.heap.get? l=a! {cls:=.type "list",data:=.seq t.toArray n}:=by
 obtain⟨z,t,n,r,e⟩:=I.cL l _ h;exact⟨z,t,n,r,r.length,e⟩
theorem yq (h:n<=AL):Cc n=false:=by
 exact decide_eq_false (by lia)
end
section
variable {X:Cx}
def mV:V->List V->Hp->VK->Prop:=λx vs H Q=>∃l xs y,x = .ref l/\vs=[y]/\H l=a! (.lst xs)/\xs.length<AL/\Q .cA (cQ H l (.lst (xs++[y])))
theorem dD:ϑ X "list.append" mV:=by
 intro pins s Y H x vs v us Q I c f h;obtain⟨l,xs,y,rfl,rfl,a,g,q⟩:=h;cases c;obtain⟨u,rfl,U⟩:=f.one;obtain⟨z,t,n,r,hl,e⟩:=I.Qi a;refine DW F.slot_list_append ⟨_,e,rfl⟩ F.entry_list_append (F.args_list_append_2 _ _) (PySem.list_append l t.toArray n u (by rw[Am];lia)) ⟨e,?_⟩;refine⟨.cA,_,I.Ua (its':=t++[u]) a e (by simp) (r.append (.cons U .nil)) ?_,rfl,q⟩;rw[AE,BX];lia
def ZI:V->List V->Hp->VK->Prop:=λx vs H Q=>∃l xs y,x = .ref l/\vs=[]/\H l=a! (.lst xs)/\xs[xs.length-1]?=a! y/\Q y (cQ H l (.lst xs.dropLast))
theorem T7:ϑ X "list.pop" ZI:=by
 intro pins s Y H x vs v us Q I f g h;obtain⟨l,xs,y,rfl,rfl,c,k,q⟩:=h;cases f;have U:=g.zero;subst U;obtain⟨z,t,n,r,hl,e⟩:=I.Qi c;obtain⟨u,m,j⟩:=r.get k;have a:t.toArray[t.toArray.size-1]?=a! u:=by
  show t.toArray[t.length-1]?=a! u
  rw[<- E8,<- hl];exact m
 refine DW F.slot_list_pop ⟨_,e,rfl⟩ F.entry_list_pop (F.args_list_pop_1 _) (LG l t.toArray n u a (by rw[Am];lia)) ⟨e,?_⟩;refine⟨y,_,I.Ua (its':=t.dropLast) c e ?_ r.dropLast ?_,j,q⟩
 .rw [Am,F9,MD]
 .rw [List.length_dropLast];lia
def SX:V->List V->Hp->VK->Prop:=λx vs H Q=>∃l xs i k y,x = .ref l/\vs=[.int i]/\H l=a! (.lst xs)/\-(2^63)<=i/\i<2^63/\HN i xs.length=a! k/\xs[k]?=a! y/\Q y (cQ H l (.lst (xs.eraseIdx k)))
theorem T6:ϑ X "list.pop" SX:=by
 intro pins s Y H x vs v us Q I f g h;obtain⟨l,xs,i,k,y,rfl,rfl,c,h1,h2,m,j,q⟩:=h;cases f;obtain⟨u,rfl,U⟩:=g.one;obtain⟨t,rfl⟩:=U;obtain⟨z,T,n,r,hl,e⟩:=I.Qi c;obtain⟨w,hw,a⟩:=r.get j;refine DW F.slot_list_pop ⟨_,e,rfl⟩ F.entry_list_pop (F.args_list_pop_2 _ _)
  (LH l T.toArray n i t k w (Hg h1 h2) (by rw[Am,<- hl];exact m) (by rw[<- E8];exact hw) (by rw[Am];lia)) ⟨e,?_⟩
 refine⟨y,_,I.Ua (its':=T.eraseIdx k) c e ?_ (r.eraseIdx k) ?_,a,q⟩
 .rw [F9]
 .have:=uW xs k;lia
def Ŀ:R2:=λx y H Q=>∃l k xs,x = .ref l/\y = .int k/\H l=a! (.lst xs)/\-(2^63)<=k/\k<2^63/\xs.length*k.toNat<=AL/\
 ∀p,H p=a?->Q (.ref p) (cQ H p (.lst (Ar k.toNat xs).flatten))
theorem WR {a:Type}(xs:List a)(k:Nat):(Ar k xs).flatten.length=k*xs.length:=by
 induction k with
 |zero=>simp
 |succ k h=>rw[FD,Il,AE,h,J6,J8]
theorem Ee:lU X (Cv .Mult) Ŀ:=by
 intro pins s Y H x y v u Q I C B h;obtain⟨l,k,xs,rfl,rfl,G,h1,h2,A,q⟩:=h;cases C;obtain⟨t,rfl⟩:=B;obtain⟨z,c,n,r,hl,e⟩:=I.Qi G;have L:c.toArray.size*k.toNat<=AL:=by rw[Am,<- hl];exact A
 have p:¬ c.toArray.size*k.toNat > (2^63-1) / 8:=by
  have:(AL:Nat)<=(2^63-1) / 8:=by decide
  lia
 have f:¬ (!Builtin.List.listFitsIndex k)=true:=by
  rw[Hg h1 h2];exact Az
 have o:¬ Cc (c.toArray.size*k.toNat)=true:=by
  rw[yq L];exact Az
 have w:HY (λj g=>j++g) #[] (Ar (if c.toArray.isEmpty=b! then 0 else k.toNat) c.toArray)=(Ar k.toNat c).flatten.toArray:=by
  have J:∀m:Nat,HY (λj g=>j++g) #[] (Ar m c.toArray)=(Ar m c).flatten.toArray:=λm=>by
   have:=u9 c m [];exact this
  rw[J]
  cases c with
  |nil=>simp
  |cons a M=>rw[c? (by simp)]
 refine wpAny_binaryOp_repeat_ref (T := "list") (U := "int") rfl ⟨_,e,rfl⟩ (λs'=>Jo s' k t) noFill_list_mul F.fills_int_mul F.slot_int_rmul repeat_list F.slot_int_index.lookup
  (DW F.slot_int_rmul (Jo s k t) F.entry_int_rmul (F.args_int_rmul_2 _ _) (int___rmul___int_list k t l c.toArray n)
   ⟨e,rfl,⟨_,e,rfl⟩,DW F.slot_list_mul ⟨_,e,rfl⟩ F.entry_list_mul (F.args_list_mul_2 _ _) (Lu l c.toArray n k t f p o) ⟨e,?_⟩⟩)
 rw[w];exact⟨.ref _,_,I.È (t':=s.toks) (r.rep k.toNat) (by rw[WR,Hs];exact A),rfl,q _ I.fresh⟩
end
section
variable {prog:AA}{w:AR}{A:AN}{E:Aa->Af->Prop}{s:Af}
set_option maxRecDepth 100000 in
end
section
variable {X:Cx}
end
end L2
namespace Att
open PySem PySem.W PySem.Calls PyProof.Rows
theorem pR {P:KC}{h:Heap}:∀(ns:List Int) (vs:List Aa),WellAll P h vs (ns.map Ig)->ET vs ns:=by
 intro ns
 induction ns with
 |nil=>
  intro vs w;cases w;exact .nil
 |cons n ns c=>
  intro vs w
  cases w with
  |cons a b=>
   cases a;exact .cons _ _ (c _ b)
theorem uF {l:JL}{n:Nat}(hn:l.most=a! n){P:KC}{h:Heap}{args:List WData}{vals:List Aa}
  (p:l.row.toRowW.claim.pre args=b!) (w:WellAll P h vals args):
  ∃a vs ns,vals=[Bl a]/\args=[J2 (ns.map Ig)]/\h.get? a=a! {cls:=.type "list",data:=.seq vs.toArray}/\ET vs ns/\ns.length<=n:=by
 have f:WShape.hasAll [] args [.list .int]=true:=(LZ p).1;have hc:l.pre.holds [] {args:=args}=true:=(LZ p).2;obtain⟨d,r,rfl,h1,h2⟩:=hasAllW_cons f;obtain rfl:=hasAllW_nil h2;obtain⟨xs,rfl,m⟩:=hasW_list h1;obtain⟨ns,rfl⟩:=items_int m;have e:ns.length<=n:=by
  have c:(WTm.not (.lt (.lit (.int (n:Int))) (.len (.arg 0)))).holds [] {args:=[.list (ns.map .int)]}=true:=by
   have c:=(holds_andW hc).1;rw[hn]at c;exact c
  have g:=condW_of c (w_not (w_lt w_lit (w_len_list (w_arg rfl))));refine Nat.le_of_not_lt λq=>?_
  first
   | (rw[decide_eq_true q']at g;exact absurd g rfl)
   | (simp at g;lia)
 cases w with
 |cons k j=>
  cases j
  cases k with
  |list o A=>exact⟨_,_,ns,rfl,rfl,o,pR ns _ A,e⟩
theorem uN (l:JL)(args:List WData):l.row.toRowW.claim.post args (.bool b!) args=true:=
 postW_of (X:=(b!==b!))
  (show WShape.has [] (.bool b!) .bool=b! by first |rfl |decide |simp[ WShape.armsAll])
  (show (WTm.eq .res (.lit (.bool b!))).value [] {args:=args,res:=a! (.bool b!),after:=args}=a! (.bool (b!==b!)) from w_eq_bool (w_res rfl) w_lit) rfl
theorem zf {l:JL}{n:Nat}{q:AA}{e:List Al}{B:(Al->Option Aa)->Heap->Prop}{z:AR->Heap->Prop}{d:KJ}
  (hn:l.most=a! n) (t:d.params.defaults=[])
  (call:∀(w:AR) (s₀ c:Af) (m M:Al->Option Aa) (A:Ae) (o:CJ) (pm cd O:Aa) (a:Ae) (vs:List Aa) (ns:List Int),
   Ground q e [] B w s₀ m M c.heap->z w c.heap->
   c.heap.get? A=a! o->o.data = .func (docDef d.name d.params d.body d.scope pm cd O)->c.heap.CodeRec cd d.name->m d.name=a! (.ref A)->
   c.heap.get? a=a! {cls:=.type "list",data:=.seq vs.toArray}->ET vs ns->ns.length<=n->c.gens=#[]->
   Cf (model l.prog w) C4 (.call (.ref A) ⟨[.ref a],[]⟩) (λr s'=>r = .ok (.ret (.bool b!))/\KD c.heap s'.heap/\s'.os=c.os/\CH s'.gens) c):
  WalkO q e B z l.row.toRowW d [] (λf vs=>PySem.call f vs):=by
 intro w s₀ c m M G J A o pm cd O dV kV U hd C v k hg args vals as p u Q g hlo;obtain rfl:dV = .none:=J3 v t;obtain rfl:kV = .none:=J4 v;obtain⟨a,vs,ns,rfl,rfl,j,h,L⟩:=uF hn p g;refine L5 (BP (call w s₀ c m M A o pm cd O a vs ns G J U (fd_plain hd) C k j h L hg) λr s' T=>?_);obtain⟨rfl,h2,h3,h4⟩:=T;exact⟨.inl ⟨.bool b!,.bool b!,[],rfl,λ_=>rfl,.bool b!,uN l _,λ_=>⟨E6,λ_ hm=>(nomatch hm)⟩⟩,h2,h3,h4⟩
section
variable {prog:AA}{w:AR}{A:AN}{E:Aa->Af->Prop}{s:Af}{K:Aq}
end
end Att
namespace L2
open PySem PySem.Spec PyProof.Rows
theorem nQ:∀{vs:List Aa} {ns:List Int},ET vs ns->bQ (ns.map V.int) vs
 |_,_,.nil=>.nil
 |_,_,.cons n t h=>.cons ⟨t,rfl⟩ (nQ h)
def ć (H:Hp):Prop:=∀b,H b=a?∨∃o xs,H b=a! (.el o (.lst xs))
theorem Ui {P:AA}{w:AR}{K:Aq}{M mb:Al->Option Aa}{CX:OK}{k:Nat}{fa a:Ae}{fd:A8}{x:Al}{sp:Sp}{c:Af}{vs:List Aa}{ns:List Int}
  (KX:K.In c.heap) (t:c.heap.Ns Aj M) (B:c.heap.Ns Fm mb) (hbb:∀x:Al,x ≠ "__name__"->mb x=C5 x) (A:c.heap.NoLimit) (hg:c.gens=#[])
  (T:c.heap.get? a=a! {cls:=.type "list",data:=.seq vs.toArray}) (hi:ET vs ns) (hl:ns.length<=AL) (hr:cB k C4)
  (F:∀base:Heap,K.In base->base.Ns Aj M->fR P w K M base CX k fa fd [x] sp) (j:∀(s:Af) (u:Aa),FV s fd ⟨[u],[]⟩ [(x,u)])
  (Ř:∀H:Hp,ć H->eQ K H a (ns.map V.int)->sp [.ref a] H (λv _=>v = .bl b!) λ_ _ _=>False)
  (hCX:∀H e s',CX [] H c (λ_ _ _=>False) e s'->False):
  Cf (model P w) C4 (.call (.ref fa) ⟨[.ref a],[]⟩) (λr s'=>r = .ok (.ret (.bool b!))/\KD c.heap s'.heap/\s'.os=c.os/\CH s'.gens) c:=by
 have rv:=nQ hi;have L:=hi.length;have core : ∀H:Hp,ć H->eQ K H a (ns.map V.int)->jY P w H c.heap->(∀b,H b≠a?->b=a)->(H a≠a?->K.lookup a=a?)->
   Cf (model P w) C4 (.call (.ref fa) ⟨[.ref a],[]⟩) (λr s'=>r = .ok (.ret (.bool b!))/\KD c.heap s'.heap/\s'.os=c.os/\CH s'.gens) c:=by
  intro H hO hS p hA hK;have f:∀{b:Ae} {o:CJ},c.heap.get? b=a! o->H b=a?->(nk c.heap H).get? b=a! o:=λe n=>nj e n
  have U:∀{b:Ae} {o:CJ} {G:Array GP} {J:Nat},c.heap.get? b=a! o->o.data = .dict G J->H b=none:=λ{b o G J} e d=>by
   cases q:H b with
   |none=>rfl
   |some u=>
    have e':b=a:=hA b (by rw[q];simp);subst e';rw[T]at e;cases e;have d':Data.seq vs.toArray _=Data.dict G J:=d;cases d'
  have g:∀{b:Ae} {m:Al->Option Aa},c.heap.Ns b m->(nk c.heap H).Ns b m:=λ{b m} ⟨o,G,J,e,d,r⟩=>⟨o,G,J,f e (U e d),d,r⟩
  have C:K.In (nk c.heap H):=λb o e=>f (KX b o e) (by
   cases q:H b with
   |none=>rfl
   |some u=>
    have e':b=a:=hA b (by rw[q];simp);subst e';rw[hK (by rw[q];simp)]at e;cases e)
  have hM:Mod K M (nk c.heap H):=⟨C,g t,⟨mb,g B,hbb⟩,let⟨mc,h1,h2⟩:=A;⟨mc,g h1,h2⟩⟩
  have e0:k8 P w K M (nk c.heap H) C4 [] c H:=⟨rfl,hM,λb o e=>NZ e,IX (u0 _ _),trivial,λb B=>absurd (show b∈([]:List Ae) from B) (by simp),p,.of_eq hg⟩
  refine BP ((F _ C (g t)).run C4 [] c H ⟨[.ref a],[]⟩ [.ref a] [.ref a] _ _ hr e0 (j c (.ref a)) (.cons rfl .nil) (Ř H hO hS)) λr s' h=>?_
  cases r with
  |error e=>exact (hCX H e s' h).elim
  |ok fl =>
   cases fl with
   |next=>exact AZ h
   |brk=>exact AZ h
   |cont=>exact AZ h
   |ret u=>
    obtain⟨v,H',os,Q,un,O,r',q⟩:=h;have q':v = .bl true:=q;subst q';obtain rfl:u=FE true:=r';refine⟨rfl,OldK.of_keep λb o e=>?_,os,Q⟩
    cases q:H b with
    |none=>exact un.keep b o e q (by intro z;exact absurd (show b∈([]:List Ae) from z) (by simp)) (by simp)
    |some u=>
     rcases hO b with z | ⟨ob,xs,z⟩
     .rw [q]at z;cases z
     .have z2:=un.jW b ob _ z;obtain⟨e1,_⟩:=p b _ z;obtain⟨e2,_⟩:=O b _ z2;rw[e]at e1;cases e1;exact e2
 cases hk:K.lookup a with
 |some o=>
  have e:=KX a o hk;rw[T]at e;cases e;refine core (λ_=>a?) (λ_=>.inl rfl) (.inr ⟨_,vs.toArray,_,hk,rfl,rfl,rfl,by rw[Am,L];exact hl,rv⟩) (λb u z=>by have l:(a?:Option HO)=a! u:=z;cases l) (λb z=>absurd rfl z) λz=>absurd rfl z
 |none=>
  refine core (λb=>if b=a then a! (.el {cls:=.type "list",data:=.seq vs.toArray} (.lst (ns.map V.int))) else a?) (λb=>?_) (.inl (.inr ⟨{cls:=.type "list",data:=.seq vs.toArray},c! rfl⟩)) (λb u z=>?_) (λb z=>?_) λ_=>hk
  .by_cases B:b=a
   .exact .inr ⟨_,_,c! B⟩
   .exact .inl (c? B)
  .by_cases B:b=a
   .have l:=(c! B).symm.trans z;cases l;subst B;exact⟨T,by rw[Au];exact hl,vs,_,rv,T⟩
   .have l:=(c? B).symm.trans z;cases l
  .by_cases B:b=a
   .exact B
   .exact absurd (c? B) z
theorem Ϥ {l:PySem.W.OpenLaw}{n k:Nat}{q:AA}{O:List Al}{XP:(Al->Option Aa)->Heap->Prop}{B:AR->Heap->Prop}{d:KJ}{K:KC->Aq}{Q:AR->OK}{sp:AR->Sp}{x:Al}
  (hn:l.most=a! n) (r:n<=AL) (z:d.params.defaults=[]) (hr:cB k C4)
  (hY:∀(w:AR) (h:Heap),B w h->(K w.params).In h)
  (F:∀(w:AR) (m:Al->Option Aa) (A:Ae) (h:Heap),(K w.params).In h->h.Ns Aj m->m d.name=a! (.ref A)->
   ∃fd:A8,(∀(s:Af) (u:Aa),FV s fd ⟨[u],[]⟩ [(x,u)])/\
    ∀base:Heap,(K w.params).In base->base.Ns Aj m->fR l.prog w (K w.params) m base (Q w) k A fd [x] (sp w))
  (p:∀(w:AR) (H:Hp) (a:Ae) (ns:List Int),ns.length<=n->ć H->eQ (K w.params) H a (ns.map V.int)->sp w [.ref a] H (λv _=>v = .bl b!) λ_ _ _=>False)
  (C:∀(w:AR) (H:Hp) (s:Af) (e:Aa) (s':Af),Q w [] H s (λ_ _ _=>False) e s'->False):
  PySem.W.WalkO q O XP B l.row.toRowW d [] (λf vs=>PySem.call f vs):=by
 refine Att.zf hn z λw s₀ c m mb A o pm cd doc a vs ns G U ho hd Ý M j t L hg=>?_
 have J:=hY w _ U;obtain⟨fd,hb,hF⟩:=F w m A _ J G.T.g M;exact Ui J G.T.g G.T.b G.T.builtins G.T.nolimit hg j t (Bz L r) hr hF hb (λH hO hS=>p w H a ns L hO hS) λH e s'=>C w H c e s'
noncomputable def dX (s:A6)(j:Nat):A6:=match s with
 | .ClassDef _ _ _ body _ _ _ _ _ _ _=>body.getD j (.Pass ⟨0,0,0,0⟩)
 |_=>.Pass ⟨0,0,0,0⟩
noncomputable def bT (s:A6):Cz:=match s with
 | .FunctionDef _ a _ _ _ _ _ _ _ _=>a
 |_=>{posonlyargs:=[],args:=[],vararg:=a?,kwonlyargs:=[],kw_defaults:=[],kwarg:=a?,defaults:=[]}
noncomputable def br (s:A6):List A6:=match s with
 | .FunctionDef _ _ b _ _ _ _ _ _ _=>b
 |_=>[]
noncomputable def aB (s:A6):BM:=match s with
 | .FunctionDef _ _ _ _ _ _ sc _ _ _=>sc
 |_=>{kind:=.function,names:=[],isGenerator:=b?,isCoroutine:=b?}
abbrev jT:OK:=λ_ _ _ _ _ _=>False
abbrev E0:XK:=λ_ _ _=>False
theorem yg:mr jT X E0:=λ_ _ _ _ _ _ _ h=>h.elim
structure QM (K:Aq) (x qual:Al) (st:A6) (f:Ae) (fd:A8):Prop where
 ex:∃(oc:Aa) (od:Option Ae) (kV doc pm:Aa) (an:Option Ae) (í ct:Aa) (Ĕ:Array (Option Aa)),
  fd=DC x qual (bT st) (br st) (aB st) .none kV doc pm an í ct/\K.lookup f=a! ⟨oc,od,.func fd,Ĕ⟩/\Gi K í qual=b!
 kp:DH K (.ref f)=b!
section
variable {P:AA}{w:AR}{K:Aq}{mg:Al->Option Aa}{base:Heap}
theorem QM.ok {x u:Al}{st:A6}{f:Ae}{fd:A8}{N ps:List Al}{k:Nat}{sp:Sp}(F:QM K x u st f fd)(S:aR N ps (aB st))(len:∀vs H Q E,sp vs H Q E->vs.length=ps.length)
  (o:∀(c:Aa) (A:AN) (outer:List Ed) (s:Af) (H:Hp) (vs:List V) (Q:VK) (E:XK),cB k (A.deeper (Bt u (aB st) s.heap.objs.size f c))->sp vs H Q E->
   ∃t,PSs (du jT P w K mg base N u (aB st) f c A outer s H E).lE (br st) t/\t {nx:=λ_ a=>Q .cA a,rt:=Q} (start N vs) H):fR P w K mg base jT (k+1) f fd ps sp:=by
 obtain⟨g,e,kV,O,pm,n,c,ct,l,rfl,lk,C⟩:=F.ex;refine vb lk C S len λA outer s H vs Q E r p=>?_
 obtain⟨t,h,q⟩:=o c A outer s H vs Q E r p;exact⟨t,h.lE,q⟩
theorem QM.binds {x q:Al}{st:A6}{f:Ae}{fd:A8}{ps:List Al}(F:QM K x q st f fd)
  (h:∀(kV o pm:Aa) (a:Option Ae) (c ct:Aa) (us:List Aa),us.length=ps.length->BQ (DC x q (bT st) (br st) (aB st) .none kV o pm a c ct) ⟨us,[]⟩=pure (ps.zip us)):gf K fd ps []:=by
 obtain⟨e,O,kV,o,pm,a,c,ct,l,rfl,lk,C⟩:=F.ex;exact .all (h kV o pm a c ct)
theorem MA {x q:Al}{st:A6}{f:Ae}{C:Aa}{e a:Option Ae}{O:Array (Option Aa)}{kV o pm v ct:Aa}(l:K.lookup f=a! ⟨C,e,.func (DC x q (bT st) (br st) (aB st) .none kV o pm a v ct),O⟩)
  (c:Gi K v q=b!) (k:DH K (.ref f)=b!):QM K x q st f (DC x q (bT st) (br st) (aB st) .none kV o pm a v ct):=⟨⟨C,e,kV,o,pm,a,v,ct,O,rfl,l,c⟩,k⟩
end
section
variable {X:Cx}
theorem pv (i:Nat)(hN:X.N[i]?=a! x:=by rfl)(v:Ă X.env.scope x:=by first |exact An rfl |exact FC (An rfl) |exact FC (FC rfl))(hd:(x==("__debug__":Al))=false:=by decide)
  (h:(x==("__classdict__":Al))=false:=by decide):PE X (.Name x pos) (dy i):=ZU hN v hd h
end
theorem Xao {A B:Prop}(h:B):if b?=b! then A else B:=by
 rw[c? Az];exact h
theorem oD {A B:Prop}(h:A):if b!=b! then A else B:=by
 rw[c! rfl];exact h
def a6 (H a:Hp):Prop:=∀b o,H b=a! o->a b=a! o
theorem a6.refl (H:Hp):a6 H H:=λ_ _ h=>h
theorem a6.trans {H:Hp}(a:a6 H f)(b:a6 f e):a6 H e:=λc o h=>b c o (a c o h)
theorem a6.free {H:Hp}(e:a6 H a)(h:a l=Jy):H l=Jy:=by
 cases q:H l with
 |none=>rfl
 |some o=>
  rw[e l o q]at h;cases h
theorem a6.seq {K:Aq}{H c:Hp}{a:Ae}{xs:List V}(e:a6 H c)(h:eQ K H a xs):eQ K c a xs:=by
 rcases h with (h | ⟨o,h⟩) |h
 .exact .inl (.inl (e _ _ h))
 .exact .inl (.inr ⟨o,e _ _ h⟩)
 .exact .inr h
end L2
set_option maxHeartbeats 4000000
namespace L2
open PySem PySem.Spec PyProof.Rows
structure bN (K:Aq) (mg:Al->Option Aa) (x:Al) (st:A6) (f:Ae) (fd:A8):Prop where
 fn:QM K x x st f fd
 here:mg x=a! (.ref f)
structure cc (P:AA) (w:AR) (K:Aq) (mg:Al->Option Aa) (base:Heap) (x:Al) (k:Nat) (ps:List Al) (sp:Sp):Prop where
 ex:∃f fd,fR P w K mg base jT k f fd ps sp/\mg x=a! (.ref f)/\DH K (.ref f)=b!/\gf K fd ps []
theorem cc.of {P:AA}{w:AR}{K:Aq}{m:Al->Option Aa}{base:Heap}{x:Al}{st:A6}{f:Ae}{fd:A8}{N ps:List Al}{k:Nat}{sp:Sp}(D:bN K m x st f fd)(S:aR N ps (aB st))
  (B:∀(kV o pm:Aa) (a:Option Ae) (c ct:Aa) (us:List Aa),us.length=ps.length->BQ (DC x x (bT st) (br st) (aB st) .none kV o pm a c ct) ⟨us,[]⟩=pure (ps.zip us))
  (len:∀vs H Q E,sp vs H Q E->vs.length=ps.length)
  (h:∀(c:Aa) (A:AN) (outer:List Ed) (s:Af) (H:Hp) (vs:List V) (Q:VK) (E:XK),cB k (A.deeper (Bt x (aB st) s.heap.objs.size f c))->sp vs H Q E->
   ∃t,PSs (du jT P w K m base N x (aB st) f c A outer s H E).lE (br st) t/\t {nx:=λ_ e=>Q .cA e,rt:=Q} (start N vs) H):cc P w K m base x (k+1) ps sp:=
 ⟨f,fd,D.fn.ok S len h,D.here,D.fn.kp,D.fn.binds B⟩
theorem aY (C:cc X.prog X.w X.K X.mg X.base x k ps sp)(r:cB k X.A)(hg:Gl X x)(l:PA X (e::a) t)
  (B:(x==("__debug__":Al))=false:=by decide) (g:Ap (e::a) X.env=(b?,eval e X.env)::Ap a X.env:=by rfl) (h:(BR pos (Ap a X.env)).any (·.1)=false:=by rfl):
  PE X (.Call (.Name x p) (e::a) [] pos) (lJ sp [] E0 t):=by
 obtain⟨f,fd,F,m,c,j⟩:=C.ex;exact Wo F r hg m c j .nil yg l B g h
def VI (n:Nat)(R:List V->Hp->VK->Prop):Sp:=λvs H Q _=>vs.length=n/\R vs H Q
structure Blt (mg:Al->Option Aa):Prop where
 len:mg "len"=a?
 range:mg "range"=a?
 max:mg "max"=a?
 min:mg "min"=a?
 isinstance:mg "isinstance"=a?
 int:mg "int"=a?
 bool:mg "bool"=a?
 tuple:mg "tuple"=a?
 list:mg "list"=a?
 all:mg "all"=a?
 zip:mg "zip"=a?
 reversed:mg "reversed"=a?
theorem a6.new (h:H p=a?): a6 H (cQ H p o):=λb u e=>by rw[bJ (fE e h)];exact e
section
variable {X:Cx}{e:Expr}{es:List Expr}{te:TE}{t:TA}{pos:Ew}
def Nb (t:TA):TE:=λY H Q=>t Y H λxs c=>xs.length<=AL/\∀p a,c p=a?->a6 c a->a p=a! (.tup xs)->Q (.ref p) a
def XX (t:TA):TE:=λY H Q=>t Y H λxs c=>xs.length<=AL/\∀p a,c p=a?->a6 c a->a p=a! (.lst xs)->Q (.ref p) a
theorem cb {j}(h:PA X es t): PE X (.Tuple es j pos) (Nb t):=by
 intro pins s Y H Q I k;refine wpAny_Tuple_spliced (cJ (h pos pins s Y H _ I k) λus a g=>?_);obtain⟨xs,f,c,r,z,q⟩:=g;refine⟨by rw[<- r.length];exact z,?_⟩;have hf:f a.heap.objs.size=none:=c.cL.fresh (Ag _);refine⟨.ref a.heap.objs.size,cQ f a.heap.objs.size (.tup xs),c.laid (t':=a.toks) (λb u e=>Ah _ e) (Ag _) ?_,rfl,q _ _ hf (a6.new hf) aZ⟩;exact⟨z,us,r,⟨_,Av _ rfl,rfl,_,rfl⟩⟩
theorem cV (h:PA X es t): PE X (.List es pos) (XX t):=by
 intro pins s Y H Q I j;refine wpAny_List_spliced (cJ (h pos pins s Y H _ I j) λus a g=>?_);obtain⟨xs,f,c,r,z,q⟩:=g;refine⟨by rw[<- r.length];exact z,?_⟩;have hf:f a.heap.objs.size=none:=c.cL.fresh (Ag _);refine⟨.ref a.heap.objs.size,cQ f a.heap.objs.size (.lst xs),c.laid (t':=a.toks) (λb u e=>Ah _ e) (Ag _) ?_,rfl,q _ _ hf (a6.new hf) aZ⟩;exact⟨z,us,0,r,Av _ rfl⟩
end
theorem ng {c:Bool}{A B:Prop}(hc:c=b?)(h:B):if c=b! then A else B:=by
 rw[hc];exact Xao h
noncomputable def XD (lo c:Int)(n:Nat):It:=⟨λi _=>i<n,λi H x a=>a=H/\x = .int (lo+i*c),λi _=>n<=i⟩
theorem oP {P:AA}{w:AR}{K:Aq}{tg:Expr}(it:Ae)(lo c:Int)(n:Nat):uk P w K tg (XD lo c n) [it] it (λi h=>LM h it (lo+(i:Nat)*c) ((n:Int)-(i:Nat)) c) where
 mem:=by simp
 obj := λi h st b hb=>by
  have e:b=it:=by simpa using hb
  subst e;exact⟨_,st,λv z=>by
   have z':Hv _=Io v:=z;cases z'⟩
 keep:=λi h h' st k=>k it (by simp) _ st
 item:=by
  kj_on
  obtain⟨f0,f1,f2,f3,f4,f5⟩:=hf it (by simp);have W:=JI (prog:=X.prog) (w:=X.w) (I.ok.hd hc) it lo c n;refine W.item i s _ _ hg st λv h' tk hv vy kk=>?_
  obtain⟨t,rfl⟩:=hv;have I1:bC X pins Y H {s with heap:=h',toks:=tk}:=I.turned (λb o hb e=>kk b o (by simpa using hb) e) f0 f1 f3 f4 f5;exact⟨_,rfl,pw (s:={s with heap:=h',toks:=tk}) (n := "range_iterator") vy rfl rfl rfl ⟨.int (lo+i*c),H,I1,⟨t,rfl⟩,⟨rfl,rfl⟩,vy,λb hb=>(hf b hb).1⟩⟩
 done:=by
  intro X hP hw hK hc i pins s Y H E I hf st hg;obtain⟨f0,f1,f2,f3,f4,f5⟩:=hf it (by simp);exact HZ (I.ok.hd hc) st (by have:n<=i:=hg;lia) λh' eb=>⟨rfl,I.turned (t':=s.toks) (λb o hb e=>eb b o hb e) f0 f1 f3 f4 f5⟩
 self:=λ_ _ _ _ _ st h=>H_ st h
theorem zJ (f : -(2^61)<=a)(A:a<2^61)(e : -(2^61)<=b)(B:b<2^61)(hc:0<c)(h:c<2^61): Di a b c=true:=by
 have h1:0<=AT a b c/\AT a b c<=2^62:=by
  unfold AT;rw[c! (show c > 0 from hc)];split
  .have j:(b-a-1) / c<=b-a-1:=Int.ediv_le_self _ (by lia);have g:0<=(b-a-1) / c:=GF (by lia) (by lia);lia
  .lia
 unfold Di;simp only[FA,CZ,Jc,decide_eq_true_eq,show c > 0 from hc,if_true];omega
section
variable {X:Cx}{tg:Expr}
noncomputable def eu (i j c:Int):Nat:=(AT i j c).toNat
def Yt (t:TA):TI:=λY H R=>t Y H λvs a=>∃i j c:Int,vs=[.int i,.int j,.int c]/\(-(2^61)<=i/\i<2^61/\-(2^61)<=j/\j<2^61/\0<c/\c<2^29)/\R (XD i c (eu i j c)) a
theorem lp (hg:Gl X "range")(O:X.mg "range"=a?)(ha:PA X [a,b,d] A)(M:Ap [a,b,d] X.env=(b?,eval a X.env)::Ap [b,d] X.env:=by rfl)
  (l:(BR pos (Ap [b,d] X.env)).any (·.1)=false:=by rfl):
  PI X tg (.Call (.Name "range" p) [a,b,d] [] pos) (Yt A):=by
 intro pins s Y H R I h;refine Hr (fY I hg O Jx (Ba (cJ (ha pos pins s Y H _ I h) λus f w=>?_) M l));obtain⟨vs,v,I1,B,Q⟩:=w;obtain⟨i,j,c,e,⟨Q,L,J,G,n,q6⟩,q⟩:=Q;subst e
 cases B with
 |cons r g =>
  cases g with
  |cons C g=>
   cases g with
   |cons k g=>
    cases g;obtain⟨t,rfl⟩:=r;obtain⟨t',rfl⟩:=C;obtain⟨T,rfl⟩:=k;refine PySem.call_range_3 (by lia) ?_ (.inl (EH (by omega)));refine Gf (G6 ..) (zJ Q L J G n (by lia)) ?_;have m:bC X pins Y v {f with heap:=f.heap.push {cls:=.type "range",data:=.fields #[.int i t,.int j t',.int c T]},toks:=f.toks}:=I1.kept λb o e=>Ah _ e
    refine⟨(f.heap.push {cls:=.type "range",data:=.fields #[.int i t,.int j t',.int c T]}).objs.size,[(f.heap.push {cls:=.type "range",data:=.fields #[.int i t,.int j t',.int c T]}).objs.size],_,_,v,rfl,
     m.kept (t':=f.toks) λb o e=>Ah _ e,oP _ i c (eu i j c),?_,λb U=>?_,q⟩
    .have e1:i+((0:Nat):Int)*c=i:=by simp
     have u:((eu i j c:Nat):Int)-((0:Nat):Int)=AT i j c:=by
      have z:0<=AT i j c:=by
       unfold AT;rw[c! (show c > 0 from n)];split
       .have u:0<=(j-i-1) / c:=GF (by lia) (by lia);omega
       .lia
      unfold eu;lia
     rw[e1,u];exact Av _ rfl
    .have e:b=(f.heap.push {cls:=.type "range",data:=.fields #[.int i t,.int j t',.int c T]}).objs.size:=by simpa using U
     subst e;exact m.pS (Ag _) (m.cL.fresh (Ag _))
end
section
variable {X:Cx}
theorem bQ.at (r:bQ xs t)(h:j<t.toArray.size): ∃x,xs[j]?=a! x/\cu x t.toArray[j]:=by
 have hl:=r.length;have J:j<xs.length:=by rw[Am]at h;lia
 obtain⟨u,U,a⟩:=r.get (i:=j) (x:=xs[j]) (by simp);refine⟨xs[j],by simp,?_⟩;have e:t.toArray[j]=u:=by
  have:t[j]?=a! t.toArray[j]:=by simp at h ⊢<;>try exact h
  rw[this]at U;exact AY U
 rw[e];exact a
end
noncomputable def dE (scope:BM)(env:Ed):List (Al×Ae):=((scope.names.filter λx=>x.2 == .free).map λx=>(x.1,(env.cells.lookup x.1).getD 0)).reverse
theorem iI (env:Ed): ∀(l:List (Al×Fe)) (A:List (Al×Ae)),(∀x∈l,x.2 = .free->∃c,env.cells.lookup x.1=a! c)->
  (forIn l A (λ(x:Al×Fe) (r:List (Al×Ae))=>(match x with | (name,kind)=>if (kind==Bv)=b! then do let a <- LY env name;pure (Hy ((name,a)::r)) else pure (Hy r):Ld (ForInStep (List (Al×Ae)))))) =
   (pure (((l.filter λx=>x.2 == .free).map λx=>(x.1,(env.cells.lookup x.1).getD 0)).reverse++A):Ld (List (Al×Ae)))
 | [],A,_=>rfl
 | (n,k)::l,A,h=>by
  rw[List.forIn_cons];by_cases j:k = .free
  .subst j;obtain⟨c,hc⟩:=h (n,.free) Ay rfl;have C:env.cells.lookup n=a! c:=hc;have f:=iI env l ((n,c)::A) λx g=>h x (Ax _ g)
   have e:LY env n=pure c:=by unfold LY;rw[C]
   simp only[beq_self_eq_true,if_true,e,pure_bind];rw[f];simp[C]
  .have B:(k==Bv)=false:=by simpa using j
   have f:=iI env l A λx g=>h x (Ax _ g)
   simp only[B,Dg,if_false,pure_bind];rw[f];simp[B]
theorem jP (h:∀x∈scope.names,x.2 = .free->∃c,env.cells.lookup x.1=a! c): EG scope env=pure (dE scope env):=by
 have:=iI env scope.names [] h;unfold EG dE;rw[A_]at this;simp only[bind_pure];exact this
theorem nt (x:Al): (dE scope env).lookup x=if (scope.names.any λy=>y.1==x && y.2 == .free) then a! ((env.cells.lookup x).getD 0) else none:=by
 have key:∀(l:List (Al×Fe)),((l.filter λx=>x.2 == .free).map λx=>(x.1,(env.cells.lookup x.1).getD 0)).lookup x=if (l.any λy=>y.1==x && y.2 == .free) then a! ((env.cells.lookup x).getD 0) else none:=by
  intro l
  induction l with
  |nil=>rfl
  |cons p l c=>
   obtain⟨n,k⟩:=p;by_cases h:(k==Bv)=b!
   .rw [Iz,c! (show ((n,k).2==Bv)=b! from h),BU,CF,c];by_cases hn:n=x
    .subst hn;simp[h]
    .have h1:(x==n)=false:=by simpa using λe=>hn e.symm
     have h2:(n==x)=false:=by simpa using hn
     simp[h1,h2]
   .have a:(k==Bv)=false:=by simpa using h
    rw[Iz,c? (show ¬ ((n,k).2==Bv)=b! from h),c];simp[a]
 have rev:(dE scope env)=((scope.names.reverse.filter λx=>x.2 == .free).map λx=>(x.1,(env.cells.lookup x.1).getD 0)):=by
  unfold dE;rw[<- CD,<- List.filter_reverse]
 rw[rev,key,List.any_reverse]
theorem MK {R:Gj->Af->Prop}(I:Nat->Af->Prop)
  (turn : ∀n s,I n s->AI (model prog w) A (Gh T) (λr a=>match r with
   |none=>R (.ok .next) a
   |some v=>AI (model prog w) A (G3 target T v) (λ_ k=>AI (model prog w) A (Hi target env v) (λ_ j=>AI (model prog w) A (eval L env) (λx g=>
     AI (model prog w) A (call (.builtin "list.append") [C,x]) (λ_ c=>∃m,m<n/\I m c) (λ_ _=>False) g) (notedBy (model prog w) A env λe s'=>R (.error e) s') j) (λ_ _=>False) k) (λ_ _=>False) a) (λ_ _=>False) s)
  (n:Nat) (h:I n s): Cf (model prog w) A (.compLoop (.ListComp L [⟨target,iter,[],0⟩] scope pos) 0 T C env) R s:=by
 refine codeAny_loop rfl I (λn s u=>?_) n h;refine wpAny_noted ?_;rw[compTurn_list1];refine Ac (Hz (Ac (BC (turn n s u) (λr a l=>?_) λ_ _ f=>f.elim)))
 cases r with
 |none=>exact AD l
 |some v=>
  refine Ac (BC l (λ_ k t=>?_) λ_ _ f=>f.elim);exact Ac (BC t (λ_ j q=>Ac (Ac (BC q (λx g p=>Ac (BC p (λ_ c o=>AD (AD ⟨rfl,o⟩)) λ_ _ f=>f.elim)) λ_ _ f=>f))) λ_ _ f=>f.elim)
theorem kE (x:Al): (Gw scope env).names.lookup x=(scope.names.lookup x).map λk=>if (k==Bv && env.scope.kind == .function && env.kindOf x==a! .cell)=b! then Fd else k:=by
 have key:∀l:List (Al×Fe),(l.map λ(n,k)=>if (k==Bv && env.scope.kind == .function && env.kindOf n==a! .cell) then (n,Fd) else (n,k)).lookup x =
   (l.lookup x).map λk=>if (k==Bv && env.scope.kind == .function && env.kindOf x==a! .cell)=b! then Fd else k:=by
  intro l
  induction l with
  |nil=>rfl
  |cons p l h=>
   obtain⟨n,k⟩:=p;rw[BU];by_cases hn:x=n
   .subst hn;by_cases hc:(k==Bv && env.scope.kind == .function && env.kindOf x==a! .cell)=b!
    .simp only[hc,if_true,CF,beq_self_eq_true,GC]
    .simp only[c? hc,CF,beq_self_eq_true,GC]
   .have B:(x==n)=false:=by simpa using hn
    by_cases hc:(k==Bv && env.scope.kind == .function && env.kindOf n==a! .cell)=b!
    .simp only[hc,if_true,CF,B];exact h
    .simp only[c? hc,CF,B];exact h
 exact key scope.names
noncomputable def nI (ix:List (Option Nat))(Y:St):St:=ix.map λo=>o.bind λi=>(Y[i]?).join
def cW (X:Cx)(scope:BM):List Al->List (Option Nat)->Prop
 | [],[]=>True
 |_::N,a?::ix=>cW X scope N ix
 |x::N,a! i::ix=>(X.N[i]?=a! x/\scope.names.lookup x=a! .free/\(X.env.kindOf x=a! .cell∨X.env.kindOf x=a! .free))/\cW X scope N ix
 |_,_=>False
theorem cW.get:∀{N:List Al} {ix:List (Option Nat)},cW X scope N ix->N.length=ix.length/\∀(j i:Nat),ix[j]?=a! (a! i)->
  ∃x,N[j]?=a! x/\X.N[i]?=a! x/\scope.names.lookup x=a! .free/\(X.env.kindOf x=a! .cell∨X.env.kindOf x=a! .free)
 | [],[],_=>⟨rfl,λj i h=>by simp at h⟩
 |x::N,a?::ix,h=>by
  obtain⟨h1,h2⟩:=cW.get (show cW X scope N ix from h);refine⟨by simp[h1],λj i e=>?_⟩
  cases j with
  |zero=>simp at e
  |succ j=>simpa using h2 j i e
 |x :: N,a! c::ix,h=>by
  obtain⟨a,h⟩:=(show _/\cW X scope N ix from h)
  obtain⟨h1,h2⟩:=cW.get h;refine⟨by simp[h1],λj i e=>?_⟩
  cases j with
  |zero=>
   simp at e
   subst e;exact⟨x,rfl,a⟩
  |succ j=>simpa using h2 j i e
 | [],_::_,h=>h.elim
 |_::_,[],h=>by cases h
structure bX (outer scope:BM):Prop where
 kind:scope.kind = .function
 cell:∀y∈scope.names,y.2≠.cell
 free:∀y∈scope.names,y.2 = .free->outer.names.lookup y.1=a! .cell∨outer.names.lookup y.1=a! .free
 names:∀y∈scope.names,y.2 = .local->scope.names.lookup y.1=a! .local
abbrev Cx.uj (X:Cx)(scope:BM)(N:List Al)(f:List Ae)(s:Af)(H:Hp):Cx:=
 {X with N:=N,s₀:=s,H₀:=H,env:=IF scope (dE scope X.env) s.heap.objs.size X.env,outer:=X.stack,ex:=f,fn:=λ_=>b?,pn:=[],xe:=λ_ _=>False}
section
variable {X:Cx}{pins:List (Ae×CJ)}{Y:St}{H:Hp}{s:Af}{scope:BM}{N:List Al}{ix:List (Option Nat)}{fp:List Ae}
theorem i4 (ok:X.Ok)(S:bX X.env.scope scope)(h:(dE scope X.env).lookup x=a! c): X.env.cells.lookup x=a! c:=by
 rw[nt]at h;split at h
 .rename_i A;obtain⟨y,a,e⟩:=FP.mp A;rw[CZ,beq_iff_eq,beq_iff_eq]at e;obtain⟨g,f⟩:=e;subst g;obtain⟨c',C⟩:=ok.has y.1 (S.free y a f);rw[C]at h ⊢;exact h
 .cases h
theorem zd (ok:X.Ok)(h:scope.names.lookup x=a! .free)(k:X.env.kindOf x=a! .cell∨X.env.kindOf x=a! .free): ∃c,(dE scope X.env).lookup x=a! c/\X.env.cells.lookup x=a! c:=by
 obtain⟨c,hc⟩:=ok.has x k;refine⟨c,?_,hc⟩;rw[nt,c!,hc]
 .rfl
 .exact FP.mpr ⟨(x,.free),PySem.mem_of_lookup h,by simp⟩
theorem bC.ϊ (I:bC X pins Y H s)(S:bX X.env.scope scope)(hf:∀b∈fp,jZ X pins H b)(Mr:∀b∈fp,b<s.heap.objs.size): (X.uj scope N fp s H).Ok where
 mod:=I.ok.mod
 kind:=S.kind
 glob:=I.ok.glob
 blt:=I.ok.blt
 above:=Ag _
 inj:=λx y c h1 h2=>I.ok.inj x y c (i4 I.ok S h1) (i4 I.ok S h2)
 has := λx hx=>by
  have W2:(Gw scope X.env).names.lookup x=a! .cell∨(Gw scope X.env).names.lookup x=a! .free:=hx;rw[kE]at W2
  cases e:scope.names.lookup x with
  |none=>rw[e]at W2;simp at W2
  |some k=>
   have hm:=PySem.mem_of_lookup e;have hk:k = .free:=by
    by_cases hk:k = .free
    .exact hk
    .exfalso
     have hb:(k==Bv)=false:=by simpa using hk
     have hc:k≠.cell:=S.cell _ hm;have e2:(if (k==Bv && X.env.scope.kind == .function && X.env.kindOf x==a! .cell)=b! then Fd else k)=k:=c? (by rw[hb,Fk];exact Az);rw[e,GC,e2]at W2;rcases W2 with z |z
     .exact hc (AY z)
     .exact hk (AY z)
   subst hk;obtain⟨c,h1,_⟩:=zd I.ok e (S.free _ hm rfl);exact⟨c,h1⟩
 Xn:=λx c h _=>by cases h
 hd:=I.ok.hd
 frames:=I.ok.frames
 đ:=.inl rfl
 ϶:=λb hb=>⟨Bq (Mr b hb),λx c h=>(hf b hb).2.2.2.2.1 x c (i4 I.ok S h)⟩
 bs:=I.bs
 MR:=Bz I.ok.MR I.sz
 L0:=λb o e hb=>by
  rcases (hf b hb).2.2.2.1 with z |z
  .exact I.ok.L0 b o e z
  .exact absurd (AS (AU e) (Bz I.ok.MR z)) (B7 _)
 Qx:=λb hb h=>by
  rcases AJ.mp (I.qF b h) with z |z
  .exact (hf b hb).2.1 z
  .exact (hf b hb).2.2.1 z
 jV:=I.stack
 Rb:=I.k_
theorem bC.uj {m:Al->Option Aa}(I:bC X pins Y H s)(S:bX X.env.scope scope)(J:cW X scope N ix)(hf:∀b∈fp,jZ X pins H b)(L:∀b∈fp,b<s.heap.objs.size)
  (A:h.Ns s.heap.objs.size m) (B:Heap.SameBut s.heap.objs.size (s.heap.push o) h): bC (X.uj scope N fp s H) [] (nI ix Y) H {s with heap:=h,toks:=t}:=by
 have keep:∀b o,s.heap.get? b=a! o->h.get? b=a! o:=λb o e=>B.extBut b o (Bq (AU e)) (Ah _ e)
 obtain⟨hl,C⟩:=J.get;refine⟨I.ϊ S hf L,rfl,I.bare,Un.kept keep,⟨m,A,λj x v e1 a e3=>?_⟩,λx c e=>?_,I.cL.fresh (Ag _),λx c e=>I.ie x c (i4 I.ok S e),λp hp=>absurd (show p∈([]:List (Ae×CJ)) from hp) (by simp),I.cL.kept keep,by unfold nI;rw[Au];exact hl.symm⟩
 .obtain ⟨i,h1,h2⟩:∃i,ix[j]?=a! (a! i)/\Y[i]?=a! (a! v):=by
   unfold nI at a;rw[AK]at a
   cases q:ix[j]? with
   |none=>rw[q]at a;cases a
   |some o=>
    rw[q]at a
    cases o with
    |none=>simp at a
    |some i=>
     refine⟨i,rfl,?_⟩
     cases Q:Y[i]? with
     |none=>simp[Q]at a
     |some o2=>simp[Q]at a;rw[a]
  obtain⟨y,T,n2,M,n⟩:=C j i h1;have w:x=y:=by rw[e1]at T;exact AY T
  subst w;obtain⟨m',hn',G⟩:=I.loc;have g:Ă X.env.scope x:=by rcases n with k |k;exact .inr (.inl k);exact .inr (.inr k)
  obtain⟨u,r,l⟩:=G i x v n2 h2 g;refine⟨u,r,.inr ⟨?_,?_⟩⟩
  .show (Gw scope X.env).names.lookup x=a! .cell∨(Gw scope X.env).names.lookup x=a! .free
   rw[kE,M];by_cases hc:(Bv==Bv && X.env.scope.kind == .function && X.env.kindOf x==a! .cell)=b!
   .left;simp only[GC,c! hc]
   .right;simp only[GC,c? hc]
  .obtain ⟨c,c1,c2⟩:=zd I.ok M n;refine⟨c,c1,?_⟩;rcases l with⟨U,_⟩ | ⟨_,c',f,z⟩
   .rcases n with k |k
    .rw [U]at k;cases k
    .rw [U]at k;cases k
   .rw [c2]at f;cases f;obtain⟨ob,O,hd⟩:=z;exact⟨ob,keep _ _ O,hd⟩
 .obtain ⟨v,ob,O,hd⟩:=I.cell x c (i4 I.ok S e);exact⟨v,ob,keep _ _ O,hd⟩
theorem bC.Ī (I:bC X pins Y H s)(hf:∀b∈fp,jZ X pins H b)(J:bC (X.uj scope N fp s H) p c a s'): bC X pins Y a s':=
 I.OA J.os J.base J.cL J.bare λb h=>⟨(hf b h).2.2.2.1,(hf b h).2.1,(hf b h).2.2.2.2.1,(hf b h).2.2.2.2.2⟩
theorem bC.u7 (I:bC X pins Y H s)(f:jZ X pins H C)(h:Heap.SameBut C s.heap h'): bC X pins Y H {s with heap:=h'}:=
 I.turned (t':=s.toks) (λb o B e=>h.extBut b o B e) f.1 f.2.1 f.2.2.2.1 f.2.2.2.2.1 f.2.2.2.2.2
end
def dt (J:It)(D:Ae)(g:TG)(t:TE)(a:St)(H₀:Hp)(fin:Hp->Prop):Prop:=
 ∃W:Nat->Nat->St->List V->Hp->Prop,(∃m,W 0 m a [] H₀)/\∀i m Y ys H,W i m Y ys H->
  (J.stop i H/\fin H)∨(ys.length<AL/\J.go i H/\∀x f,J.ϣ i H x f->g x Y f λc h=>t c h λy e=>e D=a! (.lst ys)/\∃M,M<m/\W (i+1) M c (ys++[y]) (cQ e D (.lst (ys++[y]))))
def qC (w:TI)(ix:List (Option Nat))(g:TG)(t:TE):TE:=λY H Q=>w Y H λJ a=>∀D,a D=a?->dt J D g t (nI ix Y) (cQ a D (.lst [])) λc=>Q (.ref D) c
section
variable {X:Cx}{tg elt iter:Expr}{scope:BM}{N:List Al}{ix:List (Option Nat)}{wi:TI}{g:TG}{te:TE}{pos:Ew}
theorem MJ {RR:Aa->Ae->Gj->Af->Prop}(hc:X.calm=b!)(hi:PI X tg iter wi)(S:bX X.env.scope scope)(cap:cW X scope N ix)
  (hg:∀k s H,PG (X.uj scope N k s H) tg g) (I:bC X pins Y H s) (h:qC wi ix g te Y H Q)
  (he:∀D k f H3 U s7 Y7 H7 Q',bC X pins Y H3 f->(∀b∈k,jZ X pins H3 b)->bC (X.uj scope N k f H3) U Y7 H7 s7->te Y7 H7 Q'->AI (model X.prog X.w) X.A (eval elt (IF scope (dE scope X.env) f.heap.objs.size X.env)) (EP (X.uj scope N k f H3) U Y7 Q') (notedBy (model X.prog X.w) X.A (IF scope (dE scope X.env) f.heap.objs.size X.env) λe s'=>RR (.ref D) f.heap.objs.size (.error e) s') s7)
  (hRR:∀D C G s',bC X pins Y G s'->jZ X pins G C->(∃m,s'.heap.Ns C m)->Q (.ref D) G->RR (.ref D) C (.ok .next) s'):
  AI (model X.prog X.w) X.A (eval iter X.env) (λx Xae=>AI (model X.prog X.w) X.A (Ia x) (λit Xad=>AI (model X.prog X.w) X.A (newList []) (λacc Xac=>
   AI (model X.prog X.w) X.A (Kt scope X.env.globals (dE scope X.env) [] X.env.qual a? .none (a! X.env)) (λž Xab=>
    Cf (model X.prog X.w) X.A (.compStart (.ListComp elt [⟨tg,iter,[],0⟩] scope pos) 0 it acc {ž with scope:=Gw scope X.env}) (RR acc ž.locals) Xab) X.xe Xac) X.xe Xad) X.xe Xae) X.xe s:=by
 refine cJ (hi pins s Y H _ I h) λv s1 h1=>cJ h1 λitv a h2=>?_
 obtain⟨it,k,tn,J,H2,e,I2,T,Ϩ,f2,R⟩:=h2;subst e;refine CT (IB S.cell (by intro y hy;simp at hy) (λW1 L j=>?_) S.kind);dsimp only at L j ⊢;have I3:bC X pins Y (cQ H2 a.heap.objs.size (.lst [])) {a with heap:=a.heap.push {cls:=.type "list",data:=.seq ([]:List Aa).toArray},toks:=a.toks}:=I2.È .nil (By _);have hD:H2 a.heap.objs.size=none:=I2.fresh;have lt2:∀b∈k,b<a.heap.objs.size:=λb B=>by obtain⟨o,e,_⟩:=T.obj 0 _ Ϩ b B;exact AU e
 obtain⟨W,⟨m0,w0⟩,turn⟩:=R a.heap.objs.size hD;generalize hs3:({a with heap:=a.heap.push {cls:=.type "list",data:=.seq ([]:List Aa).toArray},toks:=a.toks}:Af)=f at I3;have e3:f.heap=a.heap.push {cls:=.type "list",data:=.seq ([]:List Aa).toArray}:=by rw[<- hs3]
 have sz3:f.heap.objs.size=a.heap.objs.size+1:=by rw[e3,Dw]
 have f3:∀b∈k,jZ X pins (cQ H2 a.heap.objs.size (.lst [])) b:=λb B=>⟨by rw[bJ (Bq (lt2 b B))];exact (f2 b B).1,(f2 b B).2⟩
 have lt3:∀b∈k,b<f.heap.objs.size:=λb B=>by rw[sz3];exact Iw (lt2 b B)
 have q:=L;rw[<- e3]at q;have l:=j;rw[<- e3]at l;have J0:=I3.uj (t:=a.toks+([]:List (Al×Aa)).length) S cap f3 lt3 q l;have Œ:∀b o,a.heap.get? b=a! o->W1.get? b=a! o:=λb o e=>j.extBut b o (by rw[Dw];exact Bq (Iw (AU e))) (Ah _ (Ah _ e))
 have Nj:tn 0 W1:=T.keep 0 _ _ Ϩ λb _ o e=>Œ b o e
 have O:∀{G:Hp},(∀b∈k,G b=a?)->∀b∈k,jZ (X.uj scope N k f (cQ H2 a.heap.objs.size (.lst []))) [] G b:=λ{G} hn b B=>by
  refine⟨hn b B,Bq (lt3 b B),λz=>?_,.inl B,λx c e=>(f2 b B).2.2.2.2.1 x c (i4 I.ok S e),λp hp=>absurd (show p∈([]:List (Ae×CJ)) from hp) (by simp)⟩;rcases AJ.mp (I3.qF b z) with y |y
  .exact (f2 b B).2.1 y
  .exact (f2 b B).2.2.1 y
 have loop:∀s4:Af,s4={f with heap:=W1,toks:=a.toks+([]:List (Al×Aa)).length}->
   Cf (model X.prog X.w) X.A (.compLoop (.ListComp elt [⟨tg,iter,[],0⟩] scope pos) 0 (.ref it) (.ref a.heap.objs.size) (IF scope (dE scope X.env) f.heap.objs.size X.env)) (RR (.ref a.heap.objs.size) f.heap.objs.size) s4:=by
  rintro s4 rfl;refine MK (λn s'=>∃i Y' ys G,bC (X.uj scope N k f (cQ H2 a.heap.objs.size (.lst []))) [] Y' G s'/\tn i s'.heap/\(∀b∈k,G b=a?)/\W i n Y' ys G) ?_ m0 ⟨0,_,[],_,J0,Nj,λb B=>(f3 b B).1,w0⟩;rintro n s' ⟨i,Y',ys,G,I',vy,fr',w'⟩;rcases turn i n Y' ys G w' with⟨stop,fin⟩ | ⟨hy,go,step⟩
  .refine cJ (T.done (X.uj scope N k f (cQ H2 a.heap.objs.size (.lst []))) rfl rfl rfl hc i [] s' Y' G _ I' (O fr') vy stop) λr s5 M=>?_
   obtain⟨hr,I5⟩:=M;subst hr;obtain⟨m,hn,_⟩:=I5.loc;exact hRR _ _ G s5 (I3.Ī f3 I5) (I3.pS (Ag _) I5.free) ⟨m,hn⟩ fin
  .refine cJ (T.item (X.uj scope N k f (cQ H2 a.heap.objs.size (.lst []))) rfl rfl rfl hc i [] s' Y' G _ I' (O fr') vy go) λr s5 M=>?_
   obtain⟨u,hr,h5⟩:=M;subst hr;refine cJ h5 λ_ s6 M=>?_
   obtain⟨x,H6,I6,r6,y6,st6,fr6⟩:=M;have I6':=I6.pinned (O fr6) (T.obj _ _ st6);refine cJ (hg k f _ _ s6 Y' H6 x u _ I6' r6 (step x H6 y6)) λ_ s7 M=>?_
   obtain⟨Y7,H7,I7,q7⟩:=M;refine BC (he a.heap.objs.size k f _ _ s7 Y7 H7 _ I3 f3 I7 q7) (λyv s8 M=>?_) λ_ _ z=>z
   obtain⟨y,H8,I8,r8,hl8,m',hm',w8⟩:=M;refine cJ (dD _ s8 Y7 H8 (.ref a.heap.objs.size) [y] (.ref a.heap.objs.size) [yv] (λ_ H9=>H9=cQ H8 a.heap.objs.size (.lst (ys++[y]))) I8 rfl (.cons r8 .nil) ⟨_,ys,y,rfl,rfl,hl8,hy,rfl⟩) λ_ s9 M=>?_
   obtain⟨_,H9,I9,_,e9⟩:=M;subst e9;refine⟨m',hm',i+1,Y7,ys++[y],_,I9.mx,T.keep _ _ _ st6 λb B o e=>(I9.pin (b,o) (Bu _ (Bu _ (jw B e)))).1,λb B=>?_,w8⟩;obtain⟨o,e,_⟩:=T.obj _ _ st6 b B;exact (I9.pin (b,o) (Bu _ (Bu _ (jw B e)))).2.1
 have fin:=loop _ rfl;rw[<- hs3]at fin;exact codeAny_compStart_list fin (T.self _ 0 _ _ _ Nj fin)
theorem ve {RR:Aa->Ae->Gj->Af->Prop}(hc:X.calm=b!)(hi:PI X tg iter wi)(S:bX X.env.scope scope)(o:cW X scope N ix)
  (hg:∀k s H,PG (X.uj scope N k s H) tg g) (v:∀k s H,PE (X.uj scope N k s H) elt te) (I:bC X pins Y H s) (h:qC wi ix g te Y H Q)
  (n:∀D C r s',bC X pins Y r s'->jZ X pins r C->(∃m,s'.heap.Ns C m)->Q (.ref D) r->RR (.ref D) C (.ok .next) s'):
  AI (model X.prog X.w) X.A (eval iter X.env) (λx j=>AI (model X.prog X.w) X.A (Ia x) (λT f=>AI (model X.prog X.w) X.A (newList []) (λl e=>
   AI (model X.prog X.w) X.A (Kt scope X.env.globals (dE scope X.env) [] X.env.qual a? .none (a! X.env)) (λc a=>
    Cf (model X.prog X.w) X.A (.compStart (.ListComp elt [⟨tg,iter,[],0⟩] scope pos) 0 T l {c with scope:=Gw scope X.env}) (RR l c.locals) a) X.xe e) X.xe f) X.xe j) X.xe s:=
 MJ hc hi S o hg I h (λD k u M p t B L G _ _ J q=>BC (v k u M p t B L G J q) (λ_ _ z=>z) λ_ _ z=>z.elim) n
theorem ze (S:bX X.env.scope scope)(ok:X.Ok): EG scope X.env=pure (dE scope X.env):=jP λx h e=>ok.has x.1 (S.free x h e)
theorem d_ (hc:X.calm=b!)(hi:PI X tg iter wi)(S:bX X.env.scope scope)(c:cW X scope N ix)(hg:∀f s H,PG (X.uj scope N f s H) tg g)(k:∀f s H,PE (X.uj scope N f s H) elt te)
  (j:∀x,Gx iter X.env x=pure x:=by intro _;rfl): PE X (.ListComp elt [⟨tg,iter,[],0⟩] scope pos) (qC wi ix g te):=by
 intro pins s Y H Q I h;refine HB rfl j (ze S I.ok) S.kind S.names (ve (RR:=λe C=>compPost (model X.prog X.w) X.A X.xe a? (EP X pins Y Q) e C) hc hi S c hg k I h λD C o s' n l hn q=>?_);obtain⟨m,hn⟩:=hn;exact⟨m,hn,λh' a=>⟨.ref D,o,n.u7 l a,rfl,q⟩⟩
theorem gJ (hN:X.N.Nodup)(j:X.N[i]?=a! y)(L:ĉ X.env.scope y)(hc:X.calm=b!)(hi:PI X tg iter wi)(S:bX X.env.scope scope)(r:cW X scope N ix)
  (hg:∀n s H,PG (X.uj scope N n s H) tg g) (T:∀n s H,PE (X.uj scope N n s H) elt te)
  (c:GN (.ListComp elt [⟨tg,iter,[],0⟩] scope pos) (a! (.Name y py)) p.line X.env=pure true:=by rfl)
  (M:∀x,Gx iter X.env x=pure x:=by intro _;rfl) (hf:X.fn y=b!∨X.env.scope.names.lookup y=a! .local:=by first |exact .inl rfl |exact .inr rfl |assumption):
  PS X (.Assign [.Name y py] (.ListComp elt [⟨tg,iter,[],0⟩] scope pos) p) (j6 (qC wi ix g te) (gU i)):=by
 intro pins s Y H D I h;rw[exec_Assign_Name_used _ _ _ _ c];refine Ac (Hz (Ac ?_));refine Ac (BC (HB (use:=a! (Hi (.Name y py) X.env)) (Q:=λ_ s'=>SP X pins D .next s') rfl M (ze S I.ok) S.kind S.names
  (ve (RR:=λt C=>compPost (model X.prog X.w) X.A X.xe (a! (Hi (.Name y py) X.env)) (λ_ s'=>SP X pins D .next s') t C) hc hi S r hg T I h λl C H' s' I' o hn q=>?_)) (λ_ s' O=>AD (AD O)) λ_ _ e=>e)
 obtain⟨m,hn⟩:=hn;refine JF (uz (v:=.ref l) I' hN j L rfl (λJ u G=>?_) hf);obtain⟨a,B,U⟩:=G;have k:C≠a:=by
  rcases U with z |z
  .rw [z];exact o.2.1
  .exact Bb (o.2.2.2.2.1 y a z)
 exact⟨m,hn.sameBut B k,λh' f=>⟨_,H',u.u7 o f,q⟩⟩
end
section
variable {X:Cx}
set_option exponentiation.threshold 5000 in
def Ye (K:Aq):List V->Hp->VK->Prop:=λxs H Q=>∃(l:Ae) (ns:List Int),xs=[.ref l]/\eQ K H l (ns.map V.int)/\0<ns.length/\∀M,M∈ns->(∀a,a∈ns->a<=M)->Q (.int M) H
theorem lx (hc:X.calm=b!):gd X (.builtin "max") (Ye X.K):=by
 intro pins s Y H xs us Q I r h;obtain⟨l,ns,rfl,m,c,q⟩:=h;obtain⟨u,rfl,U⟩:=j4 r;cases U;obtain⟨T,g,pl,p⟩:=I.list m;have hi:ET T ns:=sI g;have hl:=pl.isList;obtain⟨ys,e⟩:=hi.allInts.items;have n:ns=ys.toList.map (·.1):=by rw[<- hi.numsOf,<- KY,<- e]
 have z:0<ys.size:=by
  have f:=c;rw[n,Au]at f;exact f
 rw[e]at hl;refine max_intList (I.ok.hd hc) hl z λv h' tk k o=>?_
 obtain⟨t,rfl⟩:=intItems_at k;obtain⟨h1,h2⟩:=argBest_gt (numAt ys) (ys.size-1);refine⟨.int _,H,I.kept o,⟨t,rfl⟩,q _ ?_ λa A=>?_⟩
 .rw [n,numAt_eq];exact getD_mem (by rw[Au,Ej];omega)
 .rw [n]at A;obtain⟨j,J,rfl⟩:=mem_getD A;rw[Au,Ej]at J;rw[<- numAt_eq];exact h2 j (by lia)
def Yh (K:Aq):V->V->Hp->VK->Prop:=λx y H Q=>∃p xs i v,x = .ref p/\y = .int i/\eQ K H p xs/\0<=i/\xs[i.toNat]?=a! v/\Q v H
theorem Qq:ϐ X (Yh X.K):=by
 intro pins s Y H o i m n Q I O c h;obtain⟨p,xs,k,v,rfl,rfl,e,f,a,q⟩:=h;cases O;obtain⟨t,rfl⟩:=c;obtain⟨T,r,pl,z⟩:=I.list e;obtain⟨j,g,w⟩:=r.get a;have hn:=oz;have l:k.toNat<xs.length:=(Ab.mp a).1;exact wpAny_getItem_list pl.isList f (by lia) (by simpa using g) ⟨v,H,I,w,q⟩
end
section
variable {X:Cx}
theorem gd.imp {f:Aa}{r a:List V->Hp->VK->Prop}(h:gd X f r)(hi:∀xs H Q,a xs H Q->r xs H Q):gd X f a:=λpins s Y H xs us Q I rs q=>h pins s Y H xs us Q I rs (hi xs H Q q)
def S0 (K:Aq):List V->Hp->VK->Prop:=λxs H Q=>∃p ys,xs=[.ref p]/\(eQ K H p ys∨lA K H p ys)/\∀l a,H l=a?->a6 H a->a l=a! (.lst ys)->Q (.ref l) a
theorem gW:gd X (.type "list") (S0 X.K):=xb.imp λxs H Q ⟨p,ys,e,h,q⟩=>⟨p,ys,e,h,λl hl=>q l _ hl (a6.new hl) aZ⟩
def ľ (K:Aq):V->Option Int->Option Int->Hp->VK->Prop:=λx lo hi H Q=>∃a xs,x = .ref a/\eQ K H a xs/\∀p c,H p=a?->a6 H c->c p=a! (.lst (MI xs lo hi))->Q (.ref p) c
theorem ą.imp {r c:V->Option Int->Option Int->Hp->VK->Prop}(h:ą X r)(hi:∀x lo hi H Q,c x lo hi H Q->r x lo hi H Q):ą X c:=λpins s Y H x v l u lo a L Q I e f pl p q=>h pins s Y H x v l u lo a L Q I e f pl p (hi _ _ _ _ _ q)
theorem RN:ą X (ľ X.K):=VJ.imp λx lo hi H Q ⟨a,xs,e,h,q⟩=>⟨a,xs,e,h,λp c=>q p _ c (a6.new c) aZ⟩
end
end L2
namespace PySem
namespace F
theorem pa:LL.lookup (String.ofList ['d','e','s','r','e','v','e','r'].reverse)=a! LK:=by kernel_rfl
theorem gS:L7 "reversed" "__next__" "reversed.__next__":=
 .of (owner := "reversed") (n := "__next__") (by rw[CL,CS];kernel_rfl) (by decide +kernel) (by decide +kernel) (by decide +kernel)
  (by first |exact .inl (by decide +kernel) |exact .inr (by decide +kernel)) (by rw[DG];kernel_rfl)
theorem pe:Kw table "reversed.__next__"=a! Cm.«reversed.__next__»:=JY (by kernel_rfl)
theorem su (a:Aa):Hj "reversed.__next__" ⟨[a],[]⟩:=by
 unfold Hj;rw[KW (id := "reversed.__next__") (n:=['_','_','t','x','e','n','_','_']) (o:=['d','e','s','r','e','v','e','r']) (by kernel_rfl) pa];kernel_rfl
theorem sq:L7 "reversed" "__iter__" "reversed.__iter__":=
 .of (owner := "reversed") (n := "__iter__") (by rw[CL,CS];kernel_rfl) (by decide +kernel) (by decide +kernel) (by decide +kernel)
  (by first |exact .inl (by decide +kernel) |exact .inr (by decide +kernel)) (by rw[DG];kernel_rfl)
theorem yx (a:Aa):Hj "reversed.__iter__" ⟨[a],[]⟩:=by
 unfold Hj;rw[KW (id := "reversed.__iter__") (n:=['_','_','r','e','t','i','_','_']) (o:=['d','e','s','r','e','v','e','r']) (by kernel_rfl) pa];kernel_rfl
theorem wQ:Kw table "reversed.__iter__"=a! Cm.«dict_keyiterator.__iter__»:=
 entryFor_alias (id' := "dict_keyiterator.__iter__") (by kernel_rfl) (by first |rfl |decide +kernel | (unfold String.splitOn;simp +decide [String.splitOnAux])) (by decide +kernel) (by kernel_rfl)
theorem uU:mroOf (.type "reversed")=pure [.type "reversed",.type "object"]:=by rw[mroOf_type];kernel_rfl
theorem yw:Gg (.type "reversed") "__new__"=pure (a! (.builtin "reversed.__new__")):=by rw[CL,CS];kernel_rfl
theorem Me:Bind.madeBy (.type "reversed")=pure (a! "reversed.__new__"):=madeBy_type uU yw (by decide +kernel)
theorem sf (a:Aa):checkTypeCall "reversed" ⟨[a],[]⟩=pure ():=by kernel_rfl
theorem tX (a:Aa):checkBuiltinCall "reversed.__new__" ⟨[.type "reversed",a],[]⟩=pure ():=by kernel_rfl
theorem sj:Kw table "reversed.__new__"=a! Cm.«reversed.__new__»:=JY (by kernel_rfl)
theorem yt:plainId "reversed.__new__"=true:=by decide +kernel
theorem wR:((HU "reversed").bind (·.mro.findSome? λt=>(HU t).bind λb=>if b.noNew then a! b! else if b.attrs.any (·.1 == "__new__") then a! b? else a?)).getD b?=false:=by decide +kernel
theorem uT:isSubtype (.type "reversed") (.type "reversed")=pure true:=by rw[DG];kernel_rfl
theorem yu:Gg (.type "tuple") "__reversed__"=pure none:=by rw[CL,CS];kernel_rfl
theorem wO:isSubtype (.type "tuple") (.type "dict")=pure false:=by rw[DG];kernel_rfl
end F
section
variable {prog:AA}{w:AR}{A:AN}{E:Aa->Af->Prop}{s:Af}
noncomputable def kP (t:Ae)(i:Int):CJ:={cls:=.type "reversed",data:=.fields #[.ref t,B8 i]}
def Heap.k6 (h:Heap)(a t:Ae)(i:Int):Prop:=h.get? a=a! (kP t i)
theorem Heap.k6.typeIs {a t:Ae}{i:Int}(x:s.heap.k6 a t i):s.TypeIs (.ref a) "reversed":=⟨_,x,rfl⟩
theorem sk (a:Aa):EZ "reversed" ⟨[.type "reversed",a],[]⟩=pure (.type "reversed",[a]):=by
 unfold EZ;simp only[isType,F.uT,pure_bind,EF,Dg,if_false]
theorem F.Mh:L7 "reversed" "__init__" "object.__init__":=
 .of (owner := "object") (n := "__init__") (by rw[CL,CS];kernel_rfl) (by decide +kernel) (by decide +kernel) (by decide +kernel)
  (by first |exact .inl (by decide +kernel) |exact .inr (by decide +kernel)) (by rw[DG];kernel_rfl)
theorem F.sr (obj a:Aa):Hj "object.__init__" ⟨[obj,a],[]⟩:=by
 first |exact F.initArgs_range_1 obj a | (unfold Hj;kernel_rfl)
theorem F.wU:TypeCalled "reversed" "reversed.__new__" "object.__init__":=⟨by decide +kernel,F.wR,⟨_,_,F.uU⟩,F.Me,F.yt,F.uT,F.Mh⟩
theorem T_ (t:Ae)(items:Array Aa):
  MeetsIn prog w (Cm.«reversed.__new__» ⟨[.type "reversed",.ref t],[]⟩) (λA R s=>(s.heap.IsTuple t items/\items.size<=AL)/\∀tk,R (.ok (.ret (.ref s.heap.objs.size))) {s with heap:=s.heap.push (kP t ((items.size:Int)-1)),toks:=tk}):=
 .of_wp λA R s h=>by
  obtain⟨⟨ht,z⟩,h⟩:=h;have T:s.TypeIs (.ref t) "tuple":=Fg ht;unfold Cm.«reversed.__new__»;refine Ac (Du (sk _) ?_)
  try dsimp only
  refine Ac (Du (a:=()) (by first |rfl |kernel_rfl) ?_);refine Ac (Du (a:=()) (by first |rfl |kernel_rfl) ?_)
  try dsimp only
  refine Ac (Ev T F.yu ?_)
  try dsimp only
  refine Ac ?_;show AI _ _ (Jp (.ref t) (.type "dict") >>= _) _ _ s
  refine Ac (Fb T F.wO ?_);show AI _ _ (specialOf (.ref t) "__getitem__" >>= _) _ _ s
  refine Ac (Ev T DQ.lookup ?_);show AI _ _ (if (["tuple.__getitem__","str.__getitem__","bytes.__getitem__","bytearray.__getitem__","memoryview.__getitem__","numpy.ndarray.__getitem__","sqlite3.Row.__getitem__"].contains "tuple.__getitem__")=b! then pure b! else _) _ _ s
  rw[c! (by decide)];refine AD ?_;show AI _ _ (if (!b!)=b! then _ else _) _ _ s
  rw[c? (by decide)];have hn:(AL:Nat)<2^63:=by rw[CC];decide
  refine Ac (Ii ht (by lia) ?_);refine Ac (Du (a:=a! (items.size:Int)) rfl ?_);show AI _ _ (Ip (.type "reversed") [.ref t,B8 ((items.size:Int)-1)] >>= _) _ _ _
  refine Ac ?_;show AI _ _ (newObj (.type "reversed") (.fields #[.ref t,B8 ((items.size:Int)-1)])) _ _ _
  refine CT ?_ (by size_fits);exact AD ⟨_,rfl,h _⟩
theorem lG {t:Ae}{items:Array Aa}{Q:Aa->Af->Prop}(ht:s.heap.IsTuple t items)(z:items.size<=AL)
  (h:∀tk,Q (.ref s.heap.objs.size) {s with heap:=s.heap.push (kP t ((items.size:Int)-1)),toks:=tk}):AI (model prog w) A (call (.type "reversed") [.ref t]) Q E s:=
 callType_newIn F.wU (by decide) (F.sf _) (F.tX _) (λobj=>F.sr obj _) F.sj (T_ t items) ⟨⟨ht,z⟩,λtk=>⟨⟨_,Av _ rfl,rfl⟩,h tk⟩⟩
theorem Mg {T t:Ae}{i:Nat}{items:Array Aa}{x:Aa}{Q:Option Aa->Af->Prop}(hit:s.heap.k6 T t (i:Int))(ht:s.heap.IsTuple t items)(z:items.size<=AL)(h:items[i]?=a! x)
  (e:∀h' tk,h'.k6 T t ((i:Int)-1)->Heap.SameBut T s.heap h'->Q (a! x) {s with heap:=h',toks:=tk}):AI (model prog w) A (Gh (.ref T)) Q E s:=by
 have c:s.TypeIs (.ref t) "tuple":=Fg ht;have hn:(AL:Nat)<2^63:=by rw[CC];decide
 have hi:i<items.size:=(Et.mp h).1;unfold Gh;refine Ac (Db (B6 (name:=Bm "__next__") hit.typeIs F.gS
  (Cu F.gS hit.typeIs F.pe ?_ (F.su _))))
 unfold Cm.«reversed.__next__»;refine Ac (Du (a:=(Bl T,[])) rfl ?_)
 try dsimp only
 refine Ac (Bw hit rfl (x:=.ref t) rfl ?_);refine Ac (Bw hit rfl (x:=B8 (i:Int)) rfl ?_);show AI _ _ (if (i:Int)<0 then _ else _) _ _ s
 rw[c? (by lia)];show AI _ _ (specialOf (.ref t) "__getitem__" >>= _) _ _ s
 refine Ac (Ev c DQ.lookup ?_);show AI _ _ (if (Option.isNone (a! _))=b! then _ else _) _ _ s
 rw[c? (by decide)];show AI _ _ (mkInt (i:Int) >>= _) _ _ s
 refine Ac (wpAny_mkInt ?_);refine Ac (Db (Hq (j:=i) ht (by lia) (by lia) (PySem.StrLaws.seqIndex_nonneg (by lia) (by lia)) h ?_));dsimp only;refine Ac (Bw hit rfl (x:=B8 (i:Int)) rfl ?_);show AI _ _ (setField (.ref T) 1 (B8 ((i:Int)-1)) >>= _) _ _ _
 refine Ac (DF hit rfl (by simp) ?_);refine AD ⟨x,rfl,AD (e _ _ ?_ (Heap.SameBut.update ..))⟩;exact (Cy _ hit (Fc (C9 rfl _))).trans rfl
theorem Qh {c t:Ae}{Q:Option Aa->Af->Prop}(h:A.handled=a?)(hit:s.heap.k6 c t (-1))
  (f:∀h',Heap.ExtBut c s.heap h'->Q a? {s with heap:=h'}):AI (model prog w) A (Gh (.ref c)) Q E s:=by
 unfold Gh;refine Ac (Db (B6 (name:=Bm "__next__") hit.typeIs F.gS
  (Cu F.gS hit.typeIs F.pe ?_ (F.su _))))
 unfold Cm.«reversed.__next__»;refine Ac (Du (a:=(Bl c,[])) rfl ?_)
 try dsimp only
 refine Ac (Bw hit rfl (x:=.ref t) rfl ?_);refine Ac (Bw hit rfl (x:=B8 (-1)) rfl ?_);show AI _ _ (if (-1:Int)<0 then _ else _) _ _ s
 rw[c! (by decide)];refine Ac (Hf ?_);refine Ac ?_;show AI _ _ (setField (.ref c) 1 (B8 (-1)) >>= _) _ _ _
 refine Ac (DF hit rfl (by simp) ?_);refine DF (o:=JO (λa=>a.setIfInBounds 1 (B8 (-1))) (kP t (-1))) (Cy _ hit (Fc (C9 rfl _))) (C9 rfl _) (by simp) ?_;refine Ac ?_;show AI _ _ (LX (.type "StopIteration") [] >>= _) _ _ _
 refine Ac ?_;simp only[LX,newTuple];refine Ac (CT ?_ (by size_fits));refine Ac (m:=FM _ _) (Du (a:=EN) (by first |rfl | (simp only[FM];rfl)) ?_);refine CT ?_ (by size_fits);simp only[raiseNew];refine Ac (KU ?_)
 first |rw[show A.in1.handled=a? from h] |rw[h]
 refine Ac (AD (LB ?_));refine Ac (Fb (T := "StopIteration") (b:=b!) ⟨_,Av _ rfl,rfl⟩ Ku ?_);refine AD (f _ ?_);refine Heap.ExtBut.push (Heap.ExtBut.push ?_ _) _;intro b o B e;exact (Ck _ _ (Bb B)).trans ((Ck _ _ (Bb B)).trans e)
theorem si {T t:Ae}{i:Int}{Q:Aa->Af->Prop}(hit:s.heap.k6 T t i)(h:Q (.ref T) s):AI (model prog w) A (Ia (.ref T)) Q E s:=by
 refine wpAny_pyIter_slot hit.typeIs F.sq (Cu F.sq hit.typeIs F.wQ ?_ (F.yx _));show AI _ _ (ret (.ref T)) _ _ s
 exact AD ⟨_,rfl,"reversed",_,hit.typeIs,F.gS.lookup,h⟩
end
end PySem
namespace L2
open PySem PySem.Spec PyProof.Rows
noncomputable def Itv (K:Aq)(a:Ae)(n:Nat):It:=
 ⟨λi H=>∃xs x,lA K H a xs/\xs.length=n/\i<n/\xs[n-1-i]?=a! x,λi H x c=>c=H/\∀xs,lA K H a xs->xs[n-1-i]?=a! x,λi _=>n<=i⟩
theorem Ry {P:AA}{w:AR}{K:Aq}{tg:Expr}(a it:Ae)(n:Nat):uk P w K tg (Itv K a n) [it] it (λi h=>i<=n/\h.k6 it a ((n:Int)-1-(i:Nat))) where
 mem:=by simp
 obj := λi h st b hb=>by
  have e:b=it:=by simpa using hb
  subst e;exact⟨_,st.2,λv z=>by
   have z':Hv _=Io v:=z;cases z'⟩
 keep:=λi h h' st k=>⟨st.1,k it (by simp) _ st.2⟩
 item:=by
  kj_on
  obtain⟨xs,x,hq,hn,hi,hx⟩:=hg;obtain⟨WY,rv,p,hz⟩:=I.tuple hq;obtain⟨u,hu,ru⟩:=rv.get hx;obtain⟨f0,f1,f2,f3,f4,f5⟩:=hf it (by simp);have hl:=rv.length;have vx:s.heap.k6 it a (((n-1-i:Nat)):Int):=by
   have e:(((n-1-i:Nat)):Int)=(n:Int)-1-(i:Nat):=by lia
   rw[e];exact st.2
  refine Mg (items:=WY.toArray) vx p (by rw[Am,<- hl];exact hz) (x:=u) (by simpa using hu) λh' tk vy sb=>?_
  have I1:bC X pins Y H {s with heap:=h',toks:=tk}:=I.turned (λb o hb e=>(sb.2 b hb).trans e) f0 f1 f3 f4 f5;have Nj:h'.k6 it a ((n:Int)-1-((i+1:Nat):Int)):=by
   have e:(n:Int)-1-((i+1:Nat):Int)=(((n-1-i:Nat)):Int)-1:=by lia
   rw[e];exact vy
  exact⟨u,rfl,pw (s:={s with heap:=h',toks:=tk}) (n := "reversed") vy rfl rfl (by decide) ⟨x,H,I1,ru,⟨rfl,λys hy=>by rw[I.uy hy hq];exact hx⟩,⟨by lia,Nj⟩,λb hb=>(hf b hb).1⟩⟩
 done:=by
  kj_on
  obtain⟨f0,f1,f2,f3,f4,f5⟩:=hf it (by simp);have vx:s.heap.k6 it a (-1):=by
   have h1:=st.1;have h2:n<=i:=hg;have e:(-1:Int)=(n:Int)-1-(i:Nat):=by lia
   rw[e];exact st.2
  exact Qh (I.ok.hd hc) vx λh' eb=>⟨rfl,I.turned (t':=s.toks) (λb o hb e=>eb b o hb e) f0 f1 f3 f4 f5⟩
 self:=λ_ _ _ _ _ st h=>si st.2 h
section
variable {X:Cx}{tg:Expr}
def ŗ (K:Aq)(t:TA):TI:=λY H R=>t Y H λvs c=>∃a xs,vs=[.ref a]/\lA K c a xs/\R (Itv K a xs.length) c
theorem yd {l:Expr}{T:TA}{p pos:Ew}(hg:Gl X "reversed")(M:X.mg "reversed"=a?)(A:PA X [l] T)(m:Ap [l] X.env=[(b?,eval l X.env)]:=by rfl):PI X tg (.Call (.Name "reversed" p) [l] [] pos) (ŗ X.K T):=by
 intro pins s Y H R I h;refine Hr (fY I hg M DD (Ba (cJ (A pos pins s Y H _ I h) λus c z=>?_) m rfl));obtain⟨vs,v,f,j,Q⟩:=z;obtain⟨a,xs,e,n,q⟩:=Q;subst e;obtain⟨u,rfl,U⟩:=j4 j;cases U;obtain⟨t,r,pt,k⟩:=f.tuple n;have hl:=r.length;refine lG (items:=t.toArray) pt (by rw[Am,<- hl];exact k) λtk=>?_
 have g:(c.heap.push (kP a ((t.toArray.size:Int)-1))).k6 c.heap.objs.size a ((xs.length:Int)-1-((0:Nat):Int)):=by
  have e:(xs.length:Int)-1-((0:Nat):Int)=(t.toArray.size:Int)-1:=by rw[Am,hl];lia
  rw[e];exact Av _ rfl
 refine si g ?_;refine⟨c.heap.objs.size,[c.heap.objs.size],_,_,v,rfl,f.kept λb o e=>Ah _ e,Ry a _ xs.length,⟨By _,g⟩,λb B=>?_,q⟩;have e:b=c.heap.objs.size:=by simpa using B
 subst e;exact f.pS (Ag _) (f.cL.fresh (Ag _))
end
theorem a6.mL {K:Aq}{H c:Hp}{a:Ae}{xs:List V}(e:a6 H c)(h:lA K H a xs):lA K c a xs:=by
 rcases h with (h | ⟨o,h⟩) |h
 .exact .inl (.inl (e _ _ h))
 .exact .inl (.inr ⟨o,e _ _ h⟩)
 .exact .inr h
theorem aO {X:Cx}{x:Al}{i:Int}{pos:Ew}(hg:Gl X x)(h:∃t,X.mg x=a! (.int i t))(hd:(x==("__debug__":Al))=false:=by decide):PE X (.Name x pos) (tC (.int i)):=by
 obtain⟨t,e⟩:=h;exact mX hg e ⟨t,rfl⟩ hd
def nM (l:Ae)(H a:Hp):Prop:=∀b o,b≠l->H b=a! o->a b=a! o
theorem nM.trans {l:Ae}{H f e:Hp}(a:nM l H f)(b:nM l f e):nM l H e:=λc o hc h=>b c o hc (a c o hc h)
noncomputable def qm:A6->Al
 | .FunctionDef n _ _ _ _ _ _ _ _ _=>n
 |_ => ""
abbrev fF (q:Al)(st:A6)(l:List (Al×Ae))(o pm:Aa)(c:Ae)(t:Aa):CJ:=PySem.W.fnMade (qm st) q (bT st) (br st) (aB st) l o pm c t
def mw (F:Hp)(c:List (Al×Ae))(vs:List V):Prop:=∀(i:Nat) (v:V),vs[i]?=a! v->∃x a o u,c[i]?=a! (x,a)/\F a=a! (.el o (.own a))/\o.data = .cell (a! u)/\cu v u
inductive D where
 |int (i:Int) |bl (b:Bool) |cA |str (x:Al) |ty (n:String) |fn (x:Al) |tup (ds:List D) |lst (ds:List D) |Rc |exc (c:Al) |obj (c:Al) (ns:List Al) (ds:List D) |qo (q:Al) (st:A6) (cl:List (Al×Ae)) (ds:List D)
def sY (a:Ae)(c:Aa):Heap->Prop:=λh=>∃o,h.get? a=a! o/\o.cls=c
mutual
def dM (K:Aq)(F:Hp):D->V->Prop
 | .int i,v=>v = .int i
 | .bl b,v=>v = .bl b
 | .cA,v=>v = .cA
 | .str x,v=>v = .str x
 | .ty n,v=>v = .ty n
 | .fn x,v=>∃f,v = .ref f/\B5 K Aj x=a! (a! (.ref f))
 | .tup ds,v=>∃a vs,v = .ref a/\lA K F a vs/\bF K F ds vs
 | .lst ds,v=>∃a vs,v = .ref a/\eQ K F a vs/\bF K F ds vs
 | .Rc,v=>∃a,v = .ref a/\F a=a! (.ext (sY a (.type "dict")))
 | .exc c,v=>∃a C,v = .ref a/\B5 K Aj c=a! (a! (.ref C))/\F a=a! (.ext (sY a (.ref C)))
 | .obj c ns ds,v=>∃a C e vs,v = .ref a/\B5 K Aj c=a! (a! (.ref C))/\F a=a! (.ins C e (ns.zip vs))/\ds.length<=ns.length/\bF K F ds vs
 | .qo q st l ds,v=>∃f c O o pm t vs,v = .ref f/\F f=a! (.el (fF q st l o pm c t) (.own f))/\F c=a! (.el O (.own c))/\lO O q/\bF K F ds vs/\mw F l vs
def bF (K:Aq)(F:Hp):List D->List V->Prop
 | [],vs=>vs=[]
 |d::ds,vs=>∃v r,vs=v::r/\dM K F d v/\bF K F ds r
end
section
variable {K:Aq}{F F' H H':Hp}
mutual
theorem dM.mono (s:a6 F F'): ∀{d:D} {v:V},dM K F d v->dM K F' d v
 | .int _,_,h=>h
 | .bl _,_,h=>h
 | .cA,_,h=>h
 | .str _,_,h=>h
 | .ty _,_,h=>h
 | .fn _,_,h=>h
 | .tup ds,v,h=>by
  obtain⟨a,vs,e,h1,h2⟩:=h;exact⟨a,vs,e,s.mL h1,bF.mono s h2⟩
 | .lst ds,v,h=>by
  obtain⟨a,vs,e,h1,h2⟩:=h;exact⟨a,vs,e,s.seq h1,bF.mono s h2⟩
 | .Rc,v,h=>by
  obtain⟨a,e,h1⟩:=h;exact⟨a,e,s _ _ h1⟩
 | .exc _,v,h=>by
  obtain⟨a,C,e,g,h1⟩:=h;exact⟨a,C,e,g,s _ _ h1⟩
 | .obj _ _ ds,v,h=>by
  obtain⟨a,C,r,vs,e,g,h1,hl,h2⟩:=h;exact⟨a,C,r,vs,e,g,s _ _ h1,hl,bF.mono s h2⟩
 | .qo _ _ _ ds,v,h=>by
  obtain⟨f,c,j,O,pm,t,vs,e,h1,h2,m,l,k⟩:=h;exact⟨f,c,j,O,pm,t,vs,e,s _ _ h1,s _ _ h2,m,bF.mono s l,λi v hi=>let⟨x,a,o,u,q,p,n⟩:=k i v hi;⟨x,a,o,u,q,s _ _ p,n⟩⟩
theorem bF.mono (s:a6 F F'): ∀{ds:List D} {vs:List V},bF K F ds vs->bF K F' ds vs
 | [],_,h=>h
 |d::ds,vs,h=>by
  obtain⟨v,r,e,h1,h2⟩:=h;exact⟨v,r,e,dM.mono s h1,bF.mono s h2⟩
end
theorem bF.length:∀{ds:List D} {vs:List V},bF K F ds vs->ds.length=vs.length
 | [],_,h=>by cases h;rfl
 |d::ds,vs,h=>by
  obtain⟨v,r,rfl,h1,h2⟩:=h;simp[bF.length h2]
theorem bF.get:∀{ds:List D} {vs:List V} {i:Nat} {d:D},bF K F ds vs->ds[i]?=a! d->∃v,vs[i]?=a! v/\dM K F d v
 | [],_,_,_,_,e=>by simp at e
 |d::ds,vs,i,d',h,e=>by
  obtain⟨v,r,rfl,h1,h2⟩:=h
  cases i with
  |zero=>simp at e;subst e;exact⟨v,rfl,h1⟩
  |succ i=>simpa using bF.get h2 e
theorem bF.get':∀{ds:List D} {vs:List V} {i:Nat} {v:V},bF K F ds vs->vs[i]?=a! v->∃d,ds[i]?=a! d/\dM K F d v:=λ{ds vs i v} h e=>by
 have hl:=h.length;have hi:=(Ab.mp e).1;obtain⟨a,e',r⟩:=h.get (Ad (i:=i) (by lia));rw[e]at e';cases e';exact⟨_,Ad (by lia),r⟩
theorem bF.append:∀{ds e:List D} {vs us:List V},bF K F ds vs->bF K F e us->bF K F (ds++e) (vs++us)
 | [],_,_,_,h,g=>by cases h;exact g
 |d::ds,_,_,_,h,g=>by
  obtain⟨v,r,rfl,h1,h2⟩:=h;exact⟨v,r++_,rfl,h1,bF.append h2 g⟩
theorem bF.take:∀{ds:List D} {vs:List V} (n:Nat),bF K F ds vs->bF K F (ds.take n) (vs.take n)
 | [],_,n,h=>by cases h;simp[bF]
 |d::ds,_,0,h=>by simp[bF]
 |d::ds,_,n+1,h=>by
  obtain⟨v,r,rfl,h1,h2⟩:=h;exact⟨v,r.take n,rfl,h1,bF.take n h2⟩
theorem bF.drop:∀{ds:List D} {vs:List V} (n:Nat),bF K F ds vs->bF K F (ds.drop n) (vs.drop n)
 | [],_,n,h=>by cases h;simp[bF]
 |d::ds,_,0,h=>h
 |d::ds,_,n+1,h=>by
  obtain⟨v,r,rfl,h1,h2⟩:=h;simpa using bF.drop n h2
theorem bF.of:∀{ds:List D} {vs:List V},ds.length=vs.length->(∀(i:Nat) d v,ds[i]?=a! d->vs[i]?=a! v->dM K F d v)->bF K F ds vs
 | [],[],_,_=>rfl
 |d::ds,v::vs,e,h=>⟨v,vs,rfl,h 0 d v rfl rfl,bF.of (by simpa using e) λi d' a f c=>h (i+1) d' a f c⟩
 | [],_::_,e,_=>by simp at e
 |_::_,[],e,_=>by simp at e
theorem bF.reverse (h:bF K F ds vs): bF K F ds.reverse vs.reverse:=by
 have hl:=h.length;refine bF.of (by simp[hl]) λi d v e a=>?_
 have h1:=(Ab.mp e).1;rw[B4]at h1;rw[Ce (by omega)]at e;rw[Ce (by lia),<- hl]at a;obtain⟨c,e',r⟩:=h.get e;rw[a]at e';cases e';exact r
theorem iP:∀{xs:List Int} {vs:List V},bF K F (xs.map D.int) vs↔vs=xs.map V.int
 | [],vs=>Kd
 |x :: xs,vs=>by
  constructor
  .rintro ⟨v,r,rfl,h1,h2⟩;have h:v=V.int x:=h1;rw[h,iP.mp h2];rfl
  .rintro rfl;exact⟨_,_,rfl,rfl,iP.mpr rfl⟩
end
noncomputable def Yq:HO->Bool
 | .tup _=>b!
 | .el _ _=>b!
 |_=>b?
inductive OV where
 |fz (d:D)
 |nl (ts:List OV)
 |rt (a:Ae) (ts:List OV)
 |fx (v:V) (d:D)
 |ob (o:Option Ae) (c:Al) (ns:List Al) (ts:List OV)
mutual
noncomputable def OV.val:OV->D
 | .fz d=>d
 | .nl ts=>.lst (OV.vals ts)
 | .rt _ ts=>.lst (OV.vals ts)
 | .fx _ d=>d
 | .ob _ c ns ts=>.obj c ns (OV.vals ts)
noncomputable def OV.vals:List OV->List D
 | []=>[]
 |t::ts=>t.val::OV.vals ts
end
theorem OV.c7:∀(ts:List OV),OV.vals ts=ts.map OV.val
 | []=>by simp[OV.vals]
 |t::ts=>by simp[OV.vals,OV.c7 ts]
mutual
def gZ (K:Aq)(F H:Hp):OV->V->List Ae->Prop
 | .fz d,v,A=>A=[]/\dM K F d v
 | .nl ts,v,A=>∃a vs B,v = .ref a/\A=a::B/\H a=a! (.lst vs)/\bu K F H ts vs B
 | .rt a ts,v,A=>∃vs B,v = .ref a/\A=a::B/\H a=a! (.lst vs)/\bu K F H ts vs B
 | .fx u d,v,A=>A=[]/\v=u/\dM K F d v
 | .ob o c ns ts,v,A=>∃a C e vs B,v = .ref a/\A=a::e::B/\B5 K Aj c=a! (a! (.ref C))/\(∀f,o=a! f->a=f)/\H a=a! (.ins C e (ns.zip vs))/\H e=a! (.own a)/\ts.length<=ns.length/\bu K F H ts vs B
def bu (K:Aq)(F H:Hp):List OV->List V->List Ae->Prop
 | [],vs,A=>vs=[]/\A=[]
 |t::ts,vs,A=>∃v r B C,vs=v::r/\A=B++C/\gZ K F H t v B/\bu K F H ts r C
end
section
variable {K:Aq}{F F' H H':Hp}
mutual
theorem gZ.frame (s:a6 F F'): ∀{t:OV} {v:V} {A:List Ae},(∀a∈A,∀xs,H a=a! xs->H' a=a! xs)->gZ K F H t v A->gZ K F' H' t v A
 | .fz d,v,A,_,h=>⟨h.1,h.2.mono s⟩
 | .nl ts,v,A,k,h=>by
  obtain⟨a,vs,B,e,rfl,h1,h2⟩:=h;exact⟨a,vs,B,e,rfl,k a Ay _ h1,bu.frame s (λb f=>k b (Ax _ f)) h2⟩
 | .rt a ts,v,A,k,h=>by
  obtain⟨vs,B,e,rfl,h1,h2⟩:=h;exact⟨vs,B,e,rfl,k a Ay _ h1,bu.frame s (λb f=>k b (Ax _ f)) h2⟩
 | .fx u d,v,A,_,h=>⟨h.1,h.2.1,h.2.2.mono s⟩
 | .ob o c ns ts,v,A,k,h=>by
  obtain⟨a,C,g,vs,B,e,rfl,l,O,h1,h2,hl,j⟩:=h;exact⟨a,C,g,vs,B,e,rfl,l,O,k a (by simp) _ h1,k g (by simp) _ h2,hl,bu.frame s (λb f=>k b (by simp[f])) j⟩
theorem bu.frame (s:a6 F F'): ∀{ts:List OV} {vs:List V} {A:List Ae},(∀a∈A,∀xs,H a=a! xs->H' a=a! xs)->bu K F H ts vs A->bu K F' H' ts vs A
 | [],vs,A,_,h=>h
 |t::ts,vs,A,k,h=>by
  obtain⟨v,r,B,C,e,rfl,h1,h2⟩:=h;exact⟨v,r,B,C,e,rfl,gZ.frame s (λb c=>k b (Ez _ c)) h1,bu.frame s (λb c=>k b (Bu _ c)) h2⟩
end
mutual
theorem gZ.uY:∀{t:OV} {v:V} {A:List Ae},gZ K F H t v A->∀a∈A,∃xs,H a=a! xs/\Yq xs=b?
 | .fz d,v,A,h,a,f=>by rw[h.1]at f;cases f
 | .nl ts,v,A,h,a,f=>by
  obtain⟨b,vs,B,e,rfl,h1,h2⟩:=h;rcases AJ.mp f with rfl |z
  .exact ⟨_,h1,rfl⟩
  .exact bu.uY h2 a z
 | .rt b ts,v,A,h,a,f=>by
  obtain⟨vs,B,e,rfl,h1,h2⟩:=h;rcases AJ.mp f with rfl |z
  .exact ⟨_,h1,rfl⟩
  .exact bu.uY h2 a z
 | .fx u d,v,A,h,a,f=>by rw[h.1]at f;cases f
 | .ob o c ns ts,v,A,h,a,f=>by
  obtain⟨b,C,k,vs,B,e,rfl,j,O,h1,h2,hl,g⟩:=h;rcases AJ.mp f with rfl |z
  .exact ⟨_,h1,rfl⟩
  .rcases AJ.mp z with rfl |z
   .exact ⟨_,h2,rfl⟩
   .exact bu.uY g a z
theorem bu.uY:∀{ts:List OV} {vs:List V} {A:List Ae},bu K F H ts vs A->∀a∈A,∃xs,H a=a! xs/\Yq xs=b?
 | [],vs,A,h,a,c=>by rw[h.2]at c;cases c
 |t::ts,vs,A,h,a,c=>by
  obtain⟨v,r,B,C,e,rfl,h1,h2⟩:=h;rcases AB.mp c with z |z
  .exact gZ.uY h1 a z
  .exact bu.uY h2 a z
end
mutual
theorem gZ.rep (s:a6 F F'): ∀{t:OV} {v:V} {A:List Ae},(∀a∈A,∀xs,H a=a! xs->F' a=a! xs)->gZ K F H t v A->dM K F' t.val v
 | .fz d,v,A,_,h=>h.2.mono s
 | .nl ts,v,A,k,h=>by
  obtain⟨a,vs,B,e,rfl,h1,h2⟩:=h;exact⟨a,vs,e,eQ.of (k a Ay _ h1),bu.rep s (λb f=>k b (Ax _ f)) h2⟩
 | .fx u d,v,A,_,h=>h.2.2.mono s
 | .ob o c ns ts,v,A,k,h=>by
  obtain⟨a,C,l,vs,B,e,rfl,j,O,h1,h2,hl,g⟩:=h;exact⟨a,C,l,vs,e,j,k a (by simp) _ h1,by rw[OV.c7,Au];exact hl,bu.rep s (λb f=>k b (by simp[f])) g⟩
 | .rt a ts,v,A,k,h=>by
  obtain⟨vs,B,e,rfl,h1,h2⟩:=h;exact⟨a,vs,e,eQ.of (k a Ay _ h1),bu.rep s (λb f=>k b (Ax _ f)) h2⟩
theorem bu.rep (s:a6 F F'):∀{ts:List OV} {vs:List V} {A:List Ae},(∀a∈A,∀xs,H a=a! xs->F' a=a! xs)->bu K F H ts vs A->bF K F' (OV.vals ts) vs
 | [],vs,A,_,h=>h.1
 |t::ts,vs,A,k,h=>by
  obtain⟨v,r,B,C,e,rfl,h1,h2⟩:=h;exact⟨v,r,e,gZ.rep s (λb c=>k b (Ez _ c)) h1,bu.rep s (λb c=>k b (Bu _ c)) h2⟩
end
theorem bu.length:∀{ts:List OV} {vs:List V} {A:List Ae},bu K F H ts vs A->ts.length=vs.length
 | [],_,_,h=>by rw[h.1];rfl
 |t::ts,_,_,h=>by
  obtain⟨v,r,B,C,rfl,rfl,h1,h2⟩:=h;simp[bu.length h2]
theorem bu.append:∀{ts us:List OV} {vs w:List V} {A B:List Ae},bu K F H ts vs A->bu K F H us w B->bu K F H (ts++us) (vs++w) (A++B)
 | [],_,_,_,_,_,h,g=>by obtain⟨rfl,rfl⟩:=h;exact g
 |t::ts,_,_,_,_,_,h,g=>by
  obtain⟨v,r,B,C,rfl,rfl,h1,h2⟩:=h;exact⟨v,_,B,_,rfl,by rw[BN],h1,bu.append h2 g⟩
theorem bu.one (h:gZ K F H t v A): bu K F H [t] [v] A:=⟨v,[],A,[],rfl,by simp,h,rfl,rfl⟩
theorem bu.focus:∀{ts:List OV} {vs:List V} {A:List Ae} {i:Nat} {t:OV},bu K F H ts vs A->ts[i]?=a! t->∃v j B g,vs[i]?=a! v/\A=j++(B++g)/\gZ K F H t v B/\
  ∀F' H' t' c f,a6 F F'->(∀a∈j++g,∀xs,H a=a! xs->H' a=a! xs)->gZ K F' H' t' c f->bu K F' H' (ts.set i t') (vs.set i c) (j++(f++g))
 | [],_,_,_,_,_,e=>by simp at e
 |t::ts,_,_,0,T,h,e=>by
  obtain⟨v,r,B,C,rfl,rfl,h1,h2⟩:=h;simp at e
  subst e;refine⟨v,[],B,C,rfl,rfl,h1,λF' H' t' c f s l h'=>?_⟩;exact⟨c,r,f,C,rfl,rfl,h',bu.frame s (λa k=>l a k) h2⟩
 |t::ts,_,_,i+1,T,h,e=>by
  obtain⟨v,r,B,C,rfl,rfl,h1,h2⟩:=h;obtain⟨v0,j,p,g,o,rfl,n,m⟩:=bu.focus h2 e;refine⟨v0,B++j,p,g,o,by simp,n,λF' H' t' c f s l h'=>?_⟩;refine⟨v,r.set i c,B,j++(f++g),rfl,by simp,gZ.frame s (λa k=>l a (by simp[k])) h1,m F' H' t' c f s (λa k=>l a ?_) h'⟩;rcases AB.mp k with z |z<;>simp[z]
theorem bu.ϳ:∀{ds:List D} {vs:List V},bF K F ds vs->bu K F H (ds.map OV.fz) vs []
 | [],_,h=>⟨h,rfl⟩
 |d::ds,_,h=>by
  obtain⟨v,r,rfl,h1,h2⟩:=h;exact⟨v,r,[],[],rfl,rfl,⟨rfl,h1⟩,bu.ϳ h2⟩
end
structure cy (F H F' H':Hp):Prop where
 ff:a6 F F'
 hh:a6 H H'
 fh:a6 F' H'
 no:∀a o,F a=a?->H a=a! o->Yq o=b?->F' a=a?
theorem cy.refl (s:a6 F H): cy F H F H:=⟨a6.refl _,a6.refl _,s,λ_ _ h _ _=>h⟩
theorem cy.trans (a:cy F H g f)(b:cy g f e c): cy F H e c:=
 ⟨a.ff.trans b.ff,a.hh.trans b.hh,b.fh,λx o h1 h2 h=>b.no x o (a.no x o h1 h2 h) (a.hh _ _ h2) h⟩
def e8 (K:Aq)(H c e:Hp)(r:OV)(v:V):Prop:=∃A,gZ K c e r v A/\A.Nodup/\∀a∈A,H a=a?/\c a=a?
theorem e8.fz {K:Aq}{H a c:Hp}{d:D}{v:V}(h:dM K a d v):e8 K H a c (.fz d) v:=⟨[],⟨rfl,h⟩,CB,λ_ h=>by cases h⟩
theorem e8.old {K:Aq}{f H j g:Hp}{r:OV}{v:V}(s:a6 f H)(h:e8 K H j g r v):e8 K f j g r v:=by
 obtain⟨A,h1,h2,e⟩:=h;exact⟨A,h1,h2,λa c=>⟨s.free (e a c).1,(e a c).2⟩⟩
theorem e8.el {K:Aq}{F H j g:Hp}{r:OV}{v:V}(x:cy F H j g)(h:e8 K H j g r v):∃c,cy F H c g/\a6 j c/\dM K c r.val v:=by
 obtain⟨A,h1,h2,f⟩:=h;refine⟨λa=>if a∈A then g a else j a,⟨λb o e=>?_,x.hh,λb o e=>?_,λa o n l m=>?_⟩,λb o e=>?_,?_⟩
 .have B:b∉A:=λz=>by rw[(x.ff.free (f b z).2)]at e;cases e
  rw[c? B];exact x.ff _ _ e
 .split at e
  .exact e
  .exact x.fh _ _ e
 .have k:a∉A:=λz=>by rw[(f a z).1]at l;cases l
  rw[c? k];exact x.no a o n l m
 .have B:b∉A:=λz=>by rw[(f b z).2]at e;cases e
  try dsimp only
  rw[c? B];exact e
 .refine h1.rep (λb o e=>?_) λa k xs e=>?_
  .have B:b∉A:=λz=>by rw[(f b z).2]at e;cases e
   rw[c? B];exact e
  .rw [c! k];exact e
inductive Sl where
 |own (t:OV)
 |bw (d:D)
abbrev de:=List (Option Sl)
structure ER (K:Aq) (F0 H0 F H:Hp) (Y:St) (δ:de) (A:Nat->List Ae):Prop where
 len:Y.length=δ.length
 ext:cy F0 H0 F H
 own:∀(i:Nat) (t:OV),δ[i]?=a! (a! (.own t))->∃v,Y[i]?=a! (a! v)/\gZ K F H t v (A i)
 bw:∀(i:Nat) (d:D),δ[i]?=a! (a! (.bw d))->∃v,Y[i]?=a! (a! v)/\dM K H0 d v
 jN:∀i,(A i).Nodup
 kU:∀i j a,i≠j->a∈A i->a∉A j
 new:∀i a,a∈A i->F a=a?/\H0 a=a?/\∃xs,H a=a! xs/\Yq xs=b?
def cv (K:Aq)(c a F H:Hp)(Y:St)(δ:de):Prop:=∃A,ER K c a F H Y δ A
section
variable {K:Aq}{F0 H0 F H F' H':Hp}{Y:St}{δ:de}{A:Nat->List Ae}
theorem ER.on (e:ER K F0 H0 F H Y δ A)(x:cy F H F' H'): ER K F0 H0 F' H' Y δ A where
 len:=e.len
 ext:=e.ext.trans x
 own:=λi t h=>by
  obtain⟨v,h1,h2⟩:=e.own i t h;exact⟨v,h1,h2.frame x.ff λa _ xs z=>x.hh _ _ z⟩
 bw:=e.bw
 jN:=e.jN
 kU:=e.kU
 new:=λi a ha=>by
  obtain⟨h1,h2,xs,h3,h4⟩:=e.new i a ha;exact⟨x.no a _ h1 h3 h4,h2,xs,x.hh _ _ h3,h4⟩
theorem cv.on (e:cv K F0 H0 F H Y δ)(x:cy F H F' H'): cv K F0 H0 F' H' Y δ:=let⟨A,e⟩:=e;⟨A,e.on x⟩
theorem cv.ext (e:cv K F0 H0 F H Y δ): cy F0 H0 F H:=let⟨_,e⟩:=e;e.ext
theorem cv.put (e:cv K F0 H0 F H Y δ)(x:cy F H F' H')(i:Nat)(h:e8 K H F' H' r v): cv K F0 H0 F' H' (Y.set i (a! v)) (δ.set i (a! (.own r))):=by
 obtain⟨A,e⟩:=e;obtain⟨B,l,o,g⟩:=h;have e':=e.on x;refine⟨λj=>if j=i then B else A j,by simp[e.len],e'.ext,λj t J=>?_,λj d J=>?_,λj=>?_,λj k a f h1 h2=>?_,λj a c=>?_⟩
 .by_cases z:j=i
  .subst z;rw[c! rfl];have hl:j<δ.length:=by
    have:=(Ab.mp J).1
    rwa[Bk]at this
   rw[Aw hl]at J;cases J;exact⟨v,Aw (by rw[e.len];exact hl),l⟩
  .rw [c? z];rw[AH (Bb z)]at J ⊢;exact e'.own j t J
 .by_cases z:j=i
  .subst z;have hl:j<δ.length:=by
    have:=(Ab.mp J).1
    rwa[Bk]at this
   rw[Aw hl]at J;cases J
  .rw [AH (Bb z)]at J ⊢;exact e'.bw j d J
 .split
  .exact o
  .exact e.jN j
 .have key:∀k,a∈B->a∈A k->False:=λk n m=>by
   obtain⟨_,_,xs,q,_⟩:=e.new k a m;rw[(g a n).1]at q;cases q
  split at h1
  .split at h2
   .lia
   .exact key _ h1 h2
  .split at h2
   .exact key _ h2 h1
   .exact e.kU j k a f h1 h2
 .split at c
  .exact ⟨(g a c).2,e.ext.hh.free (g a c).1,l.uY a c⟩
  .exact e'.new j a c
theorem ER.Ł (e:ER K F0 H0 F H Y δ A)(i:Nat)(h:dM K F d v): ER K F0 H0 F H (Y.set i (a! v)) (δ.set i (a! (.own (.fz d)))) (λj=>if j=i then [] else A j):=by
 refine⟨by simp[e.len],e.ext,λj t J=>?_,λj d J=>?_,λj=>?_,λj k a c h1 h2=>?_,λj a f=>?_⟩
 .by_cases z:j=i
  .subst z;rw[c! rfl];have hl:j<δ.length:=by
    have:=(Ab.mp J).1
    rwa[Bk]at this
   rw[Aw hl]at J;cases J;exact⟨v,Aw (by rw[e.len];exact hl),rfl,h⟩
  .rw [c? z];rw[AH (Bb z)]at J ⊢;exact e.own j t J
 .by_cases z:j=i
  .subst z;have hl:j<δ.length:=by
    have:=(Ab.mp J).1
    rwa[Bk]at this
   rw[Aw hl]at J;cases J
  .rw [AH (Bb z)]at J ⊢;exact e.bw j d J
 .split
  .exact CB
  .exact e.jN j
 .split at h1
  .cases h1
  .split at h2
   .cases h2
   .exact e.kU j k a c h1 h2
 .split at f
  .cases f
  .exact e.new j a f
end
abbrev DE:=de->(D->Prop)->Prop
abbrev DO:=de->(OV->Prop)->Prop
abbrev DA:=de->(List D->Prop)->Prop
abbrev ğ:=de->(List OV->Prop)->Prop
abbrev DT:=de->(Bool->Prop)->Prop
structure Vj where
 nx:de->Prop
 rt:OV->Prop
 bk:de->Prop:=λ_=>False
 ct:de->Prop:=λ_=>False
abbrev DS:=Vj->de->Prop
section
variable (K:Aq)
def eR (t:TE)(E:DO):Prop:=∀f e F H Y δ P Q,cv K f e F H Y δ->E δ P->(∀r v c a,P r->cy F H c a->e8 K H c a r v->Q v a)->t Y H Q
def cO (t:TE)(E:DE):Prop:=∀f e F H Y δ P Q,cv K f e F H Y δ->E δ P->(∀d v c a,P d->cy F H c a->dM K c d v->Q v a)->t Y H Q
def dH (t:TE)(E:DE):Prop:=∀e c F H Y δ P Q,cv K e c F H Y δ->E δ P->(∀d v f a,P d->cy F H f a->dM K a d v->Q v a)->t Y H Q
def i6 (t:TT)(C:DT):Prop:=∀e c F H Y δ P Q,cv K e c F H Y δ->C δ P->(∀b f a,P b->cy F H f a->Q b a)->t Y H Q
def dJ (t:TA)(E:DA):Prop:=∀f e F H Y δ P Q,cv K f e F H Y δ->E δ P->(∀ds vs c a,P ds->cy F H c a->bF K c ds vs->Q vs a)->t Y H Q
def kY (t:TA)(E:DA):Prop:=∀e c F H Y δ P Q,cv K e c F H Y δ->E δ P->(∀ds vs f a,P ds->cy F H f a->bF K a ds vs->Q vs a)->t Y H Q
def ώ (H c e:Hp)(rs:List OV)(vs:List V):Prop:=∃A,bu K c e rs vs A/\A.Nodup/\∀a∈A,H a=a?/\c a=a?
def OH (t:TA)(E:ğ):Prop:=∀f e F H Y δ P Q,cv K f e F H Y δ->E δ P->(∀rs vs c a,P rs->cy F H c a->ώ K H c a rs vs->Q vs a)->t Y H Q
structure Lk (F0 H0:Hp) (De:Vj) (E:QN):Prop where
 nx:∀F H Y δ,cv K F0 H0 F H Y δ->De.nx δ->E.nx Y H
 bk:∀F H Y δ,cv K F0 H0 F H Y δ->De.bk δ->E.bk Y H
 ct:∀F H Y δ,cv K F0 H0 F H Y δ->De.ct δ->E.ct Y H
 rt:∀F H r v,cy F0 H0 F H->e8 K H0 F H r v->De.rt r->E.rt v H
def bU (t:TS)(T:DS):Prop:=∀c a F H Y δ e E,cv K c a F H Y δ->Lk K c a e E->T e δ->t E Y H
def gY (c a:Hp)(t:TS)(T:DS):Prop:=∀F H Y δ e n,cv K c a F H Y δ->Lk K c a e n->T e δ->t n Y H
def i7 (f e:Hp)(t:TE)(E:DO):Prop:=∀F H Y δ P Q,cv K f e F H Y δ->E δ P->(∀r v c a,P r->cy F H c a->e8 K H c a r v->Q v a)->t Y H Q
def d3 (TF:Hp->Prop)(t:TS)(T:DS):Prop:=∀a c,TF a->gY K a c t T
def lT (TF:Hp->Prop)(t:TE)(E:DO):Prop:=∀a c,TF a->i7 K a c t E
abbrev lS (TF:Hp->Prop):Prop:=∀F a,a6 F a->TF F->TF a
def xm (g:TG)(G:D->de->(de->Prop)->Prop):Prop:=∀h f F H Y δ A d v P Q,ER K h f F H Y δ A->dM K F d v->G d δ P->(∀e c j,P c->ER K h f F H e c j->(∀i a,a∈j i->a∈A i)->Q e H)->g v Y H Q
def OG (g:Ą)(G:List D->de->(de->Prop)->Prop):Prop:=∀h f F H Y δ A ds vs P Q,ER K h f F H Y δ A->bF K F ds vs->G ds δ P->(∀e c j,P c->ER K h f F H e c j->(∀i a,a∈j i->a∈A i)->Q e H)->g vs Y H Q
end
section
variable {K:Aq}{t ta tb tc:TE}{E Ea Eb Ec:DE}
def ę (E:DE):DO:=λδ P=>E δ λd=>P (.fz d)
def Qz (E:DO):DE:=λδ P=>E δ λr=>P r.val
theorem aM (h:cO K t E): dH K t E:=λf a F H Y δ P Q e w q=>h f a F H Y δ P Q e w λd v g c p x r=>q d v g c p x (r.mono x.fh)
theorem a8 (h:cO K t E): eR K t (ę E):=λf a F H Y δ P Q e w q=>h f a F H Y δ _ Q e w λd v g c p x r=>q _ v g c p x (.fz r)
theorem bV {E:DO}(h:eR K t E):cO K t (Qz E):=λk g F H Y δ P Q e w q=>h k g F H Y δ _ Q e w λd v l j p x r=>by
 obtain⟨a,c,_,f⟩:=r.el x;exact q _ v a j p c f
mutual
noncomputable def D.lf:D->Bool
 | .tup ds=>D.jU ds
 | .lst _=>b?
 | .Rc=>b?
 | .exc _=>b?
 | .obj _ _ _=>b?
 | .qo _ _ _ _=>b?
 |_=>b!
noncomputable def D.jU:List D->Bool
 | []=>b!
 |d::ds=>d.lf && D.jU ds
end
def mm (F H:Hp):Hp:=λa=>match F a with
 |some o=>a! o
 |none=>match H a with
  |some o=>if Yq o=b! then a! o else a?
  |none=>a?
theorem fP (s:a6 F H): cy F H (mm F H) H:=by
 refine⟨λb o e=>?_,a6.refl _,λb o e=>?_,λa o g f c=>?_⟩
 .unfold mm;rw[e]
 .unfold mm at e
  cases q:F b with
  |some O=>rw[q]at e;rw[<- e];exact s _ _ q
  |none=>
   rw[q]at e
   cases Q:H b with
   |none=>rw[Q]at e;cases e
   |some O=>
    rw[Q]at e;dsimp only at e;split at e
    .exact e
    .cases e
 .unfold mm;rw[g,f];dsimp only;rw[c];rfl
theorem yL (s:a6 F H)(h:H a=a! o)(hi:Yq o=b!): mm F H a=a! o:=by
 unfold mm
 cases q:F a with
 |some O=>rw[s _ _ q]at h;exact h
 |none=>rw[h];dsimp only;rw[hi];rfl
theorem Qu (s:a6 F H)(h:lA K H a xs): lA K (mm F H) a xs:=by
 rcases h with (h | ⟨o,h⟩) |h
 .exact .inl (.inl (yL s h rfl))
 .exact .inl (.inr ⟨o,yL s h rfl⟩)
 .exact .inr h
mutual
theorem dM.lf (s:a6 F H): ∀{d:D} {v:V},dM K H d v->d.lf=b!->dM K (mm F H) d v
 | .int _,_,h,_=>h
 | .bl _,_,h,_=>h
 | .cA,_,h,_=>h
 | .str _,_,h,_=>h
 | .ty _,_,h,_=>h
 | .fn _,_,h,_=>h
 | .tup ds,v,h,z=>by
  obtain⟨a,vs,e,h1,h2⟩:=h;exact⟨a,vs,e,Qu s h1,bF.lf s h2 (by simpa[D.lf] using z)⟩
 | .lst ds,v,h,z=>by simp[D.lf]at z
 | .Rc,v,h,z=>by simp[D.lf]at z
 | .exc _,v,h,z=>by simp[D.lf]at z
 | .obj _ _ _,v,h,z=>by simp[D.lf]at z
 | .qo _ _ _ _,v,h,z=>by simp[D.lf]at z
theorem bF.lf (s:a6 F H): ∀{ds:List D} {vs:List V},bF K H ds vs->D.jU ds=b!->bF K (mm F H) ds vs
 | [],_,h,_=>h
 |d::ds,vs,h,z=>by
  obtain⟨v,r,e,h1,h2⟩:=h;simp[D.jU]at z
  exact⟨v,r,e,dM.lf s h1 z.1,bF.lf s h2 z.2⟩
end
theorem D.kQ:∀(ds:List D),D.jU ds=ds.all D.lf
 | []=>rfl
 |d::ds=>by simp[D.jU,D.kQ ds]
def dLf (E:DE):DE:=λδ P=>E δ λd=>d.lf=b!/\P d
theorem NJ (h:dH K t E): cO K t (dLf E):=λf a F H Y δ P Q e w q=>h f a F H Y δ _ Q e w λd v g c p x r=>
 q d v _ c p.2 (x.trans (fP x.fh)) (dM.lf x.fh r p.1)
def dV (i:Nat):DE:=λδ P=>match δ[i]? with
 |some (a! (.own (.fz d)))=>P d
 |some (a! (.own (.fx _ d)))=>P d
 |_=>False
def dB (i:Nat):DE:=λδ P=>match δ[i]? with
 |some (a! (.own t))=>P t.val
 |some (a! (.bw d))=>P d
 |_=>False
theorem aF:cO K (dy i) (dV i):=λc a F H Y δ P Q ⟨A,e⟩ w q=>by
 unfold dV at w;split at w
 .rename_i d hd;obtain⟨v,h1,h2⟩:=e.own i _ hd;exact⟨v,h1,q d v F H w (cy.refl e.ext.fh) h2.2⟩
 .rename_i u d hd;obtain⟨v,h1,h2⟩:=e.own i _ hd;exact⟨v,h1,q d v F H w (cy.refl e.ext.fh) h2.2.2⟩
 .exact w.elim
theorem aC:dH K (dy i) (dB i):=λf c F H Y δ P Q ⟨A,e⟩ w q=>by
 unfold dB at w;split at w
 .rename_i t hd;obtain⟨v,h1,h2⟩:=e.own i _ hd;exact⟨v,h1,q _ v F H w (cy.refl e.ext.fh) (h2.rep e.ext.fh λa _ xs z=>z)⟩
 .rename_i d hd;obtain⟨v,h1,h2⟩:=e.bw i _ hd;exact⟨v,h1,q _ v F H w (cy.refl e.ext.fh) (h2.mono e.ext.hh)⟩
 .exact w.elim
def dC (d:D):DE:=λ_ P=>P d
theorem Sx (h:∀F,dM K F d v): cO K (tC v) (dC d):=λc a F H Y δ P Q e w q=>q d v F H w (cy.refl e.ext.fh) (h _)
theorem aE:cO K (tC (.int i)) (dC (.int i)):=Sx λ_=>rfl
theorem hV:cO K (tC (.bl b)) (dC (.bl b)):=Sx λ_=>rfl
theorem rj:cO K (tC .cA) (dC .cA):=Sx λ_=>rfl
theorem fk:cO K (tC (.str x)) (dC (.str x)):=Sx λ_=>rfl
theorem jL:cO K (tC (.ty n)) (dC (.ty n)):=Sx λ_=>rfl
abbrev xp:=D->D->(D->Prop)->Prop
def zi (K:Aq)(R:R2)(r:xp):Prop:=∀F H x y v u P Q,a6 F H->dM K H x v->dM K H y u->r x y P->(∀d w c a,P d->cy F H c a->dM K c d w->Q w a)->R v u H Q
def OpB (K:Aq)(R:R2)(r:xp):Prop:=∀H x y v u P Q,dM K H x v->dM K H y u->r x y P->(∀d w,P d->dM K H d w->Q w H)->R v u H Q
def Ŵ (r:xp)(Ea Eb:DE):DE:=λδ P=>Ea δ λx=>Eb δ λy=>r x y P
theorem aN (h:zi K R r)(A:dH K ta Ea)(B:dH K tb Eb): cO K (Nd R ta tb) (Ŵ r Ea Eb):=λg f F H Y δ P Q e w q=>
 A g f F H Y δ _ _ e w λx v L C l c n=>B g f L C Y δ _ _ (e.on c) l λy u J z k a m=>
  h J z x y v u P _ a.fh (n.mono a.hh) m k λd w M G p j o=>q d w M G p (c.trans (a.trans j)) o
theorem bA (h:OpB K R r)(A:dH K ta Ea)(B:dH K tb Eb): dH K (Nd R ta tb) (Ŵ r Ea Eb):=λj g F H Y δ P Q e w q=>
 A j g F H Y δ _ _ e w λx v G z l c n=>B j g G z Y δ _ _ (e.on c) l λy u C f k a m=>
  h f x y v u P _ (n.mono a.hh) m k λd w p o=>q d w C f p (c.trans a) o
def ZM (g:Int->Int->D):xp:=λx y P=>match x,y with
 | .int i,.int j=>P (g i j)
 |_,_=>False
def S4 (C:Int->Int->Prop)(g:Int->Int->D):xp:=λx y P=>match x,y with
 | .int i,.int j=>C i j/\P (g i j)
 |_,_=>False
theorem NR {g:Int->Int->D}{P:D->Prop}(h:ZM g x y P): ∃i j,x = .int i/\y = .int j/\P (g i j):=by
 unfold ZM at h;split at h
 .exact ⟨_,_,rfl,rfl,h⟩
 .exact h.elim
theorem S3 {C:Int->Int->Prop}{g:Int->Int->D}{P:D->Prop}(h:S4 C g x y P): ∃i j,x = .int i/\y = .int j/\C i j/\P (g i j):=by
 unfold S4 at h;split at h
 .exact ⟨_,_,rfl,rfl,h.1,h.2⟩
 .exact h.elim
theorem Yn {g:Int->Int->V}{g':Int->Int->D}(hg:∀F i j,dM K F (g' i j) (g i j)): zi K (PV g) (ZM g'):=λF H x y v u P Q s a r w q=>by
 obtain⟨i,j,rfl,rfl,p⟩:=NR w;exact⟨i,j,a,r,q _ _ F H p (cy.refl s) (hg _ _ _)⟩
theorem Xaj {C:Int->Int->Prop}{g:Int->Int->V}{g':Int->Int->D}(hg:∀F i j,dM K F (g' i j) (g i j)): zi K (rI C g) (S4 C g'):=λF H x y v u P Q s a r w q=>by
 obtain⟨i,j,rfl,rfl,c,p⟩:=S3 w;exact⟨i,j,a,r,c,q _ _ F H p (cy.refl s) (hg _ _ _)⟩
theorem b9 {g:Int->Int->Int}: zi K (PV λi j=>.int (g i j)) (ZM λi j=>.int (g i j)):=Yn λ_ _ _=>rfl
theorem cn {C:Int->Int->Prop}{g:Int->Int->Int}: zi K (rI C λi j=>.int (g i j)) (S4 C λi j=>.int (g i j)):=Xaj λ_ _ _=>rfl
theorem dI {g:Int->Int->Bool}: zi K (PV λi j=>.bl (g i j)) (ZM λi j=>.bl (g i j)):=Yn λ_ _ _=>rfl
def ZN:xp:=λx y P=>match x,y with
 | .int i,.int j=>P (.bl (decide (i=j)))
 | .str i,.str j=>P (.bl (decide (i=j)))
 | .bl i,.bl j=>P (.bl (decide (i=j)))
 |_,_=>False
def ZJ:xp:=λx y P=>match x,y with
 | .int i,.int j=>P (.bl (!decide (i=j)))
 | .str i,.str j=>P (.bl (!decide (i=j)))
 | .bl i,.bl j=>P (.bl (!decide (i=j)))
 |_,_=>False
theorem Rp:decide (V.int i=V.int j)=decide (i=j):=by
 by_cases h:i=j
 .subst h;simp
 .rw [decide_eq_false h,decide_eq_false λz=>h (by injection z)]
theorem Ro:decide (V.str i=V.str j)=decide (i=j):=by
 by_cases h:i=j
 .subst h;simp
 .rw [decide_eq_false h,decide_eq_false λz=>h (by injection z)]
theorem XM:decide (V.bl i=V.bl j)=decide (i=j):=by
 by_cases h:i=j
 .subst h;simp
 .rw [decide_eq_false h,decide_eq_false λz=>h (by injection z)]
theorem fu:zi K rEq ZN:=λF H x y v u P Q s a r w q=>by
 unfold ZN at w;split at w
 .cases a;cases r;exact⟨rfl,by rw[Rp];exact q _ _ F H w (cy.refl s) rfl⟩
 .cases a;cases r;exact⟨rfl,by rw[Ro];exact q _ _ F H w (cy.refl s) rfl⟩
 .cases a;cases r;exact⟨rfl,by rw[XM];exact q _ _ F H w (cy.refl s) rfl⟩
 .exact w.elim
theorem yn:zi K rNe ZJ:=λF H x y v u P Q s a r w q=>by
 unfold ZJ at w;split at w
 .cases a;cases r;exact⟨rfl,by rw[Rp];exact q _ _ F H w (cy.refl s) rfl⟩
 .cases a;cases r;exact⟨rfl,by rw[Ro];exact q _ _ F H w (cy.refl s) rfl⟩
 .cases a;cases r;exact⟨rfl,by rw[XM];exact q _ _ F H w (cy.refl s) rfl⟩
 .exact w.elim
noncomputable def D.Of:D->Bool
 | .cA=>b!
 |_=>b?
def ZL:xp:=λx y P=>match y with
 | .cA=>P (.bl x.Of)
 |_=>False
def SY:xp:=λx y P=>match y with
 | .cA=>P (.bl (!x.Of))
 |_=>False
theorem uZ:∀{x:D} {v:V},dM K F x v->decide (v = .cA)=x.Of
 | .int _,_,h=>by rw[show _=V.int _ from h];rfl
 | .bl _,_,h=>by rw[show _=V.bl _ from h];rfl
 | .cA,_,h=>by rw[show _=V.cA from h];rfl
 | .str _,_,h=>by rw[show _=V.str _ from h];rfl
 | .ty _,_,h=>by rw[show _=V.ty _ from h];rfl
 | .fn _,_,h=>by obtain⟨f,rfl,_⟩:=h;rfl
 | .tup _,_,h=>by obtain⟨a,vs,rfl,_⟩:=h;rfl
 | .lst _,_,h=>by obtain⟨a,vs,rfl,_⟩:=h;rfl
 | .Rc,_,h=>by obtain⟨a,rfl,_⟩:=h;rfl
 | .exc _,_,h=>by obtain⟨a,C,rfl,_⟩:=h;rfl
 | .obj _ _ _,_,h=>by obtain⟨a,C,c,vs,rfl,_⟩:=h;rfl
 | .qo _ _ _ _,_,h=>by obtain⟨_,_,_,_,_,_,_,rfl,_⟩:=h;rfl
theorem À:zi K (λx y H Q=>y = .cA/\Q (.bl (decide (x = .cA))) H) ZL:=λF H x y v u P Q s a r w q=>by
 unfold ZL at w;split at w
 .refine ⟨r,?_⟩;rw[uZ a];exact q _ _ F H w (cy.refl s) rfl
 .exact w.elim
theorem WD:zi K (λx y H Q=>y = .cA/\Q (.bl (!decide (x = .cA))) H) SY:=λF H x y v u P Q s a r w q=>by
 unfold SY at w;split at w
 .refine ⟨r,?_⟩;rw[uZ a];exact q _ _ F H w (cy.refl s) rfl
 .exact w.elim
def dUn (r:D->(D->Prop)->Prop)(Ea:DE):DE:=λδ P=>Ea δ λx=>r x P
def rU1 (g:Int->D):D->(D->Prop)->Prop:=λx P=>match x with
 | .int i=>P (g i)
 |_=>False
theorem rk {g:Int->Int}(h:dH K ta Ea): cO K (tUn (rU λi=>.int (g i)) ta) (dUn (rU1 λi=>.int (g i)) Ea):=λl j F H Y δ P Q e w q=>
 h l j F H Y δ _ _ e w λx v k f a c r=>by
  unfold rU1 at a;split at a
  .exact ⟨_,r,q _ _ k f a c rfl⟩
  .exact a.elim
def ů (E:DE):DT:=λδ P=>E δ λd=>match d with
 | .bl b=>P b
 |_=>False
theorem X3 (h:cO K t E): ∀(f c F H:Hp) (Y:St) (δ:de) (P:Bool->Prop) (Q:Bool->Hp->Prop),cv K f c F H Y δ->ů E δ P->(∀b g a,P b->cy F H g a->Q b a)->t Y H λx a=>∃k,x = .bl k/\Q k a:=λf c F H Y δ P Q e w q=>
 h f c F H Y δ _ _ e w λd v g a p x r=>by
  split at p
  .exact ⟨_,r,q _ g a p x⟩
  .exact p.elim
theorem bL (h:cO K t E): i6 K (XR t) (ů E):=X3 h
theorem fC (h:cO K t E): i6 K (tB t) (ů E):=X3 h
section
variable {ua ub:TT}{Ca Cb:DT}
def é (C:DT):DT:=λδ P=>C δ λb=>P (!b)
def ż (Ca Cb:DT):DT:=λδ P=>Ca δ λb=>if b=b! then Cb δ P else P b?
def dOr (Ca Cb:DT):DT:=λδ P=>Ca δ λb=>if b=b! then P b! else Cb δ P
theorem dR (h:i6 K ua Ca): i6 K (Zc ua) (é Ca):=λf a F H Y δ P Q e w q=>h f a F H Y δ _ _ e w λb g c p x=>q _ g c p x
theorem n9 (h:i6 K ua Ca)(g:i6 K ub Cb): i6 K (İ ua ub) (ż Ca Cb):=λf a F H Y δ P Q e w q=>h f a F H Y δ _ _ e w λb j c p x=>by
 cases b with
 |true=>exact oD (g f a j c Y δ P Q (e.on x) p λb n m l k=>q b n m l (x.trans k))
 |false=>exact ng rfl (q _ j c p x)
theorem kC (h:i6 K ua Ca)(g:i6 K ub Cb): i6 K (tOr ua ub) (dOr Ca Cb):=λf a F H Y δ P Q e w q=>h f a F H Y δ _ _ e w λb j c p x=>by
 cases b with
 |true=>exact oD (q _ j c p x)
 |false=>exact ng rfl (g f a j c Y δ P Q (e.on x) p λb n m l k=>q b n m l (x.trans k))
def dIf (C:DT)(Ea Eb:DE):DE:=λδ P=>C δ λb=>if b=b! then Ea δ P else Eb δ P
theorem Sv (h:i6 K ua Ca)(A:cO K ta Ea)(B:cO K tb Eb): cO K (tIf ua ta tb) (dIf Ca Ea Eb):=λk g F H Y δ P Q e w q=>h k g F H Y δ _ _ e w λb m l p x=>by
 cases b with
 |true=>exact oD (A k g m l Y δ P Q (e.on x) p λd v j f c a r=>q d v j f c (x.trans a) r)
 |false=>exact ng rfl (B k g m l Y δ P Q (e.on x) p λd v j f c a r=>q d v j f c (x.trans a) r)
end
def YU (Ea Eb:DE):DE:=λδ P=>Ea δ λx=>match x with
 | .bl c=>if c=b! then Eb δ P else P (.bl b?)
 |_=>False
def ų (Ea Eb:DE):DE:=λδ P=>Ea δ λx=>match x with
 | .bl c=>if c=b! then P (.bl b!) else Eb δ P
 |_=>False
def YN (Ea:DE):DE:=λδ P=>Ea δ λx=>match x with
 | .bl c=>P (.bl (!c))
 |_=>False
theorem jt (A:cO K ta Ea)(B:cO K tb Eb): cO K (X0 ta tb) (YU Ea Eb):=λg a F H Y δ P Q e w q=>A g a F H Y δ _ _ e w λd v h f p x r=>by
 split at p
 .rename_i c;refine⟨c,r,?_⟩
  cases c with
  |true=>exact oD (B g a h f Y δ P Q (e.on x) p λd v m l k j r=>q d v m l k (x.trans j) r)
  |false=>exact ng rfl (q _ _ h f p x rfl)
 .exact p.elim
theorem vX (h:cO K ta Ea): cO K (XU ta) (YN Ea):=λf a F H Y δ P Q e w q=>h f a F H Y δ _ _ e w λd v g c p x r=>by
 split at p
 .exact ⟨_,r,q _ _ g c p x rfl⟩
 .exact p.elim
def US (r a:xp)(Ea Eb Ec:DE):DE:=λδ P=>Ea δ λx=>Eb δ λy=>r x y λz=>match z with
 | .bl k=>if k=b! then Ec δ λw=>a y w P else P (.bl b?)
 |_=>False
theorem Sw (h:zi K R r)(h':zi K R' U)(ha:dH K ta Ea)(hb:dH K tb Eb)(hc:dH K tc Ec): cO K (RG R R' ta tb tc) (US r U Ea Eb Ec):=λj g F H Y δ P Q e w q=>
 ha j g F H Y δ _ _ e w λx v F1 H1 J m T=>hb j g F1 H1 Y δ _ _ (e.on m) J λy u F2 H2 G f n=>
  h F2 H2 x y v u _ _ f.fh (T.mono f.hh) n G λd w A o p l O=>by
   have a:=m.trans (f.trans l);split at p
   .rename_i k;refine⟨k,O,?_⟩
    cases k with
    |true=>exact oD (hc j g A o Y δ _ _ (e.on a) p λz C F4 H4 p4 c M=>h' F4 H4 y z u C P Q c.fh (n.mono (l.hh.trans c.hh)) M p4 λd w F5 H5 p5 B L=>q d w F5 H5 p5 (a.trans (c.trans B)) L)
    |false=>exact ng rfl (q _ _ A o p a rfl)
   .exact p.elim
section
variable {a:TA}{As:DA}
def UN:DA:=λ_ P=>P []
def yR (Ea:DE)(As:DA):DA:=λδ P=>Ea δ λd=>As δ λds=>P (d::ds)
theorem aP:kY K gw UN:=λf c F H Y δ P Q e w q=>q [] [] F H w (cy.refl e.ext.fh) rfl
theorem aK:dJ K gw UN:=λf c F H Y δ P Q e w q=>q [] [] F H w (cy.refl e.ext.fh) rfl
theorem aH (A:dH K ta Ea)(m:kY K a As): kY K (c9 ta a) (yR Ea As):=λh g F H Y δ P Q e w q=>A h g F H Y δ _ _ e w λd v u o k f l=>
 m h g u o Y δ _ _ (e.on f) k λds vs p n j c r=>q (d::ds) (v::vs) p n j (f.trans c) ⟨v,vs,rfl,l.mono c.hh,r⟩
theorem aA (A:cO K ta Ea)(m:dJ K a As): dJ K (c9 ta a) (yR Ea As):=λh g F H Y δ P Q e w q=>A h g F H Y δ _ _ e w λd v u o k f l=>
 m h g u o Y δ _ _ (e.on f) k λds vs p n j c r=>q (d::ds) (v::vs) p n j (f.trans c) ⟨v,vs,rfl,l.mono c.ff,r⟩
def YP:ğ:=λ_ P=>P []
def UP (Ea:DO)(As:ğ):ğ:=λδ P=>Ea δ λd=>As δ λds=>P (d::ds)
theorem cU:OH K gw YP:=λf c F H Y δ P Q e w q=>q [] [] F H w (cy.refl e.ext.fh) ⟨[],⟨rfl,rfl⟩,CB,λ_ h=>by cases h⟩
theorem cI (O:eR K ta Eo)(M:OH K a Ao): OH K (c9 ta a) (UP Eo Ao):=λo n F H Y δ P Q e w q=>O o n F H Y δ _ _ e w λd v F1 H1 r g C=>
 M o n F1 H1 Y δ _ _ (e.on g) r λds vs F2 H2 p f u=>q (d::ds) (v::vs) F2 H2 p (g.trans f) (by
  obtain⟨A,l,a2,m⟩:=C;obtain⟨B,U,T,k⟩:=u;refine⟨A++B,⟨v,vs,A,B,rfl,rfl,l.frame f.ff λa _ xs e=>f.hh _ _ e,U⟩,A7.mpr ⟨a2,T,λx L y J z=>?_⟩,λz G=>?_⟩
  .subst z;obtain⟨xs,c,_⟩:=l.uY _ L;rw[(k _ J).1]at c;cases c
  .rcases AB.mp G with h |h
   .obtain ⟨xs,c,j⟩:=l.uY _ h;exact⟨(m z h).1,f.no z _ (m z h).2 c j⟩
   .exact ⟨g.hh.free (k z h).1,(k z h).2⟩)
def Ů (As:DA):DE:=λδ P=>As δ λds=>ds.length<=1000000/\P (.tup ds)
theorem eS (h:n<=1000000): n<=AL:=by rw[CC];lia
theorem qD (h:n<1000000): n<AL:=by rw[CC];lia
theorem cy.new (s:a6 F H)(f:H p=a?)(c:a6 H j)(h:j p=a! o): cy F H (cQ F p o) j:=by
 refine⟨λb u e=>?_,c,λb u e=>?_,λb u k g l=>?_⟩
 .rw [bJ λz=>by rw[z,s.free f]at e;cases e];exact e
 .by_cases B:b=p
  .subst B;rw[aZ]at e;rw[<- e];exact h
  .rw [bJ B]at e;exact c _ _ (s _ _ e)
 .rw [bJ λz=>by rw[z,f]at g;cases g];exact k
theorem a6.zx (h:F p=a?): a6 F (cQ F p o):=a6.new h
theorem cG (h:dJ K a As): cO K (Nb a) (Ů As):=λn l F H Y δ P Q e w q=>h n l F H Y δ _ _ e w λds vs u o g c r=>by
 have hl:=r.length;refine⟨eS (by lia),λp m f j k=>?_⟩;exact q _ _ _ m g.2 (c.trans (cy.new c.fh f j k)) ⟨p,vs,rfl,.inl (.inl aZ),r.mono (a6.zx (c.fh.free f))⟩
def ŵ (As:ğ):DO:=λδ P=>As δ λts=>ts.length<=1000000/\P (.nl ts)
theorem dS (h:OH K a O): eR K (XX a) (ŵ O):=λC o F H Y δ P Q e w q=>h C o F H Y δ _ _ e w λts vs v G k c r=>by
 obtain⟨A,j,n,m⟩:=r;have hl:=j.length;refine⟨eS (by lia),λp u g f l=>?_⟩;refine q _ _ v u k.2 (c.trans ⟨a6.refl _,f,c.fh.trans f,λ_ _ z _ _=>z⟩) ⟨p::A,⟨p,vs,A,rfl,rfl,l,j.frame (a6.refl _) λb _ xs z=>f _ _ z⟩,AG.mpr ⟨λz=>?_,n⟩,λb B=>?_⟩
 .obtain ⟨xs,z,_⟩:=j.uY p z;rw[g]at z;cases z
 .rcases AJ.mp B with rfl |B
  .exact ⟨c.hh.free g,c.fh.free g⟩
  .exact m b B
end
end
section
variable {K:Aq}{t ta tb tc:TE}{E Ea Eb Ec:DE}{a:TA}{As:DA}{Ao:ğ}
theorem bF.jB (h:bF K F ds vs)(e:L2.jB ds i=a! d): ∃v,L2.jB vs i=a! v/\dM K F d v:=by
 unfold L2.jB at e ⊢;rw[h.length]at e
 cases q:pq vs.length i with
 |none=>rw[q]at e;cases e
 |some j=>
  rw[q]at e;exact h.get e
def ixL:xp:=λx y P=>match x,y with
 | .lst ds,.int i=>∃d,jB ds i=a! d/\P d
 |_,_=>False
def ixT:xp:=λx y P=>match x,y with
 | .tup ds,.int i=>∃d,jB ds i=a! d/\P d
 |_,_=>False
def ixS:xp:=λx y P=>match x,y with
 | .str z,.int i=>z.length<=1000000/\∃c,jB z.cps.toList i=a! c/\P (.str ⟨#[c]⟩)
 |_,_=>False
def dm (K:Aq)(R:R2)(r:xp):Prop:=∀F H x y v u P Q,a6 F H->dM K F x v->dM K F y u->r x y P->(∀d w,P d->dM K F d w->Q w H)->R v u H Q
theorem dm.b (h:dm K R r): OpB K R r:=λH x y v u P Q e c w q=>h H H x y v u P Q (a6.refl _) e c w q
theorem bE (h:dm K R r)(C:cO K ta Ea)(B:cO K tb Eb): cO K (Nd R ta tb) (Ŵ r Ea Eb):=λl j F H Y δ P Q e w q=>
 C l j F H Y δ _ _ e w λx v J G n f z=>B l j J G Y δ _ _ (e.on f) n λy u k g m c o=>
  h k g x y v u P _ c.fh (z.mono c.ff) o m λd w p A=>q d w k g p (f.trans c) A
theorem cw:dm K (S1 K) ixL:=λF H x y v u P Q s g f w q=>by
 unfold ixL at w;split at w
 .obtain ⟨d,e,w⟩:=w;obtain⟨p,vs,rfl,h1,h2⟩:=g;obtain⟨c,e',r⟩:=h2.jB e;exact⟨p,vs,_,c,rfl,f,s.seq h1,e',q d c w r⟩
 .exact w.elim
theorem aT:dm K (ZK K) ixT:=λF H x y v u P Q s g f w q=>by
 unfold ixT at w;split at w
 .obtain ⟨d,e,w⟩:=w;obtain⟨p,vs,rfl,h1,h2⟩:=g;obtain⟨c,e',r⟩:=h2.jB e;exact⟨p,vs,_,c,rfl,f,s.mL h1,e',q d c w r⟩
 .exact w.elim
def Vk (K:Aq)(R:List V->Hp->VK->Prop)(r:List D->(D->Prop)->Prop):Prop:=∀F H ds vs P Q,a6 F H->bF K H ds vs->r ds P->(∀d w e c,P d->cy F H e c->dM K e d w->Q w c)->R vs H Q
def CbO (K:Aq)(R:List V->Hp->VK->Prop)(r:List D->(OV->Prop)->Prop):Prop:=∀F H ds vs P Q,a6 F H->bF K F ds vs->r ds P->(∀o w e c,P o->cy F H e c->e8 K H e c o w->Q w c)->R vs H Q
def dCB (r:List D->(D->Prop)->Prop)(As:DA):DE:=λδ P=>As δ λds=>r ds P
def Ż (r:List D->(OV->Prop)->Prop)(As:DA):DO:=λδ P=>As δ λds=>r ds P
theorem bP {R:List V->Hp->VK->Prop}{r:List D->(D->Prop)->Prop}(h:Vk K R r)(A:kY K a As): cO K (Đ R a) (dCB r As):=λu m F H Y δ P Q e w q=>
 A u m F H Y δ _ _ e w λds vs o l g c j=>h o l ds vs P _ c.fh j g λd w v n p f k=>q d w v n p (c.trans f) k
theorem xQ {R:List V->Hp->VK->Prop}{r:List D->(OV->Prop)->Prop}(h:CbO K R r)(A:dJ K a As): eR K (Đ R a) (Ż r As):=λu m F H Y δ P Q e w q=>
 A u m F H Y δ _ _ e w λds vs o l g c j=>h o l ds vs P _ c.fh j g λd w v n p f k=>q d w v n p (c.trans f) (k.old c.hh)
theorem h8 (h:bF K F [d] vs): ∃v,vs=[v]/\dM K F d v:=by
 obtain⟨v,r,rfl,h1,h2⟩:=h;exact⟨v,by rw[show r=[] from h2],h1⟩
theorem rn (h:bF K F [d,d'] vs): ∃v u,vs=[v,u]/\dM K F d v/\dM K F d' u:=by
 obtain⟨v,r,rfl,h1,h2⟩:=h;obtain⟨u,rfl,c⟩:=h8 h2;exact⟨v,u,rfl,h1,c⟩
def Ë:List D->(D->Prop)->Prop:=λds P=>match ds with
 | [.lst xs]=>P (.int xs.length)
 | [.tup xs]=>P (.int xs.length)
 |_=>False
def Ê:List D->(D->Prop)->Prop:=λds P=>match ds with
 | [.str x]=>x.length<=1000000/\P (.int x.length)
 |_=>False
theorem cN:Vk K (λxs H Q=>∃p ys,xs=[.ref p]/\(eQ K H p ys∨lA K H p ys)/\Q (.int ys.length) H) Ë:=λF H ds vs P Q s rs w q=>by
 unfold Ë at w;split at w
 .obtain ⟨v,rfl,p,us,rfl,h1,h2⟩:=h8 rs;exact⟨p,us,rfl,.inl h1,by rw[<- h2.length];exact q _ _ F H w (cy.refl s) rfl⟩
 .obtain ⟨v,rfl,p,us,rfl,h1,h2⟩:=h8 rs;exact⟨p,us,rfl,.inr h1,by rw[<- h2.length];exact q _ _ F H w (cy.refl s) rfl⟩
 .exact w.elim
theorem ij:Vk K (λxs H Q=>∃z,xs=[.str z]/\z.length<=AL/\Q (.int z.length) H) Ê:=λF H ds vs P Q s rs w q=>by
 unfold Ê at w;split at w
 .obtain ⟨v,rfl,r⟩:=h8 rs;exact⟨_,by rw[show v=_ from r],eS w.1,q _ _ F H w.2 (cy.refl s) rfl⟩
 .exact w.elim
def Xbe:List D->(D->Prop)->Prop:=λds P=>match ds with
 | [.int i,.int j]=>P (.int (max i j))
 |_=>False
def Æ:List D->(D->Prop)->Prop:=λds P=>match ds with
 | [.int i,.int j]=>P (.int (min i j))
 |_=>False
theorem Xt:Vk K (λxs H Q=>∃i j,xs=[.int i,.int j]/\Q (.int (if j<i then j else i)) H) Æ:=λF H ds vs P Q s rs w q=>by
 unfold Æ at w;split at w
 .rename_i i j;obtain⟨v,u,rfl,c,r⟩:=rn rs;refine⟨i,j,by rw[show v=_ from c,show u=_ from r],?_⟩;rw[show (if j<i then j else i)=min i j by split<;>lia];exact q _ _ F H w (cy.refl s) rfl
 .exact w.elim
def Ā:List D->(D->Prop)->Prop:=λds P=>match ds with
 | [.int i]=>P (.int i.natAbs)
 |_=>False
theorem U6:Vk K (λxs H Q=>∃i,xs=[.int i]/\Q (.int (if i<0 then -i else i)) H) Ā:=λF H ds vs P Q s rs w q=>by
 unfold Ā at w;split at w
 .rename_i i;obtain⟨v,rfl,r⟩:=h8 rs;refine⟨i,by rw[show v=_ from r],?_⟩;rw[show (if i<0 then -i else i)=(i.natAbs:Int) by split<;>lia];exact q _ _ F H w (cy.refl s) rfl
 .exact w.elim
def Ud:List D->(OV->Prop)->Prop:=λds P=>match ds with
 | [.lst xs]=>P (.nl (xs.map .fz))
 | [.tup xs]=>P (.nl (xs.map .fz))
 |_=>False
theorem e8.list (f:H l=a?)(g:c l=a?)(h:j l=a! (.lst vs))(r:bF K c ds vs): e8 K H c j (.nl (ds.map .fz)) (.ref l):=
 ⟨[l],⟨l,vs,[],rfl,rfl,h,bu.ϳ r⟩,by simp,λa A=>by
  have e:a=l:=by simpa using A
  rw[e];exact⟨f,g⟩⟩
theorem cy.grow (s:a6 F H)(h:a6 H c): cy F H F c:=⟨a6.refl _,h,s.trans h,λ_ _ z _ _=>z⟩
theorem nG:CbO K (S0 K) Ud:=λF H ds vs P Q s rs w q=>by
 unfold Ud at w;split at w
 .obtain ⟨v,rfl,p,us,rfl,h1,h2⟩:=h8 rs;exact⟨p,us,rfl,.inl (s.seq h1),λl e L m c=>q _ _ F e w (cy.grow s m) (e8.list L (s.free L) c h2)⟩
 .obtain ⟨v,rfl,p,us,rfl,h1,h2⟩:=h8 rs;exact⟨p,us,rfl,.inr (s.mL h1),λl e L m c=>q _ _ F e w (cy.grow s m) (e8.list L (s.free L) c h2)⟩
 .exact w.elim
abbrev ĝ:=de->(Option Int->Prop)->Prop
def QK (K:Aq)(t:TO)(E:ĝ):Prop:=∀f e F H Y δ P Q,cv K f e F H Y δ->E δ P->(∀o g c,P o->cy F H g c->Q o c)->t Y H Q
def YO:ĝ:=λ_ P=>P a?
def dPt (E:DE):ĝ:=λδ P=>E δ λd=>match d with
 | .int i=>P (a! i)
 |_=>False
theorem X5:QK K Ng YO:=λf c F H Y δ P Q e w q=>q a? F H w (cy.refl e.ext.fh)
theorem ND (h:dH K t E): QK K (XT t) (dPt E):=λl j F H Y δ P Q e w q=>h l j F H Y δ _ _ e w λd v k g c f r=>by
 split at c
 .exact ⟨_,r,q _ k g c f⟩
 .exact c.elim
noncomputable def cutD (xs:List D)(lo hi:Option Int):List D:=(xs.drop (HT.tP xs.length 0 lo)).take (HT.tP xs.length xs.length hi-HT.tP xs.length 0 lo)
theorem bF.cut (h:bF K F ds vs)(lo hi:Option Int): bF K F (cutD ds lo hi) (MI vs lo hi):=by
 unfold cutD MI;rw[h.length];exact (h.drop _).take _
def ű (Ea:DE)(L U:ĝ):DO:=λδ P=>Ea δ λx=>L δ λlo=>U δ λhi=>match x with
 | .lst xs=>P (.nl ((cutD xs lo hi).map .fz))
 |_=>False
theorem Zu (C:cO K ta Ea)(hl:QK K T L)(B:QK K u U): eR K (tSl (ľ K) ta T u) (ű Ea L U):=λm k F H Y δ P Q e w q=>
 C m k F H Y δ _ _ e w λx v F1 J r h z=>hl m k F1 J Y δ _ _ (e.on h) r λlo F2 G o g=>B m k F2 G Y δ _ _ ((e.on h).on g) o λhi F3 H3 j c=>by
  have f:=h.trans (g.trans c);split at j
  .obtain ⟨p,vs,rfl,h1,h2⟩:=z.mono (g.ff.trans c.ff);exact⟨p,vs,rfl,c.fh.seq h1,λl O n M A=>q _ _ F3 O j (f.trans (cy.grow c.fh M)) (e8.list (f.hh.free n) (c.fh.free n) A (h2.cut lo hi))⟩
  .exact j.elim
mutual
noncomputable def OV.lf:OV->Bool
 | .fz d=>d.lf
 | .nl ts=>OV.jU ts
 | .rt _ ts=>OV.jU ts
 | .fx _ d=>d.lf
 | .ob _ _ _ ts=>OV.jU ts
noncomputable def OV.jU:List OV->Bool
 | []=>b!
 |t::ts=>t.lf && OV.jU ts
end
theorem OV.kQ:∀(ts:List OV),OV.jU ts=ts.all OV.lf
 | []=>rfl
 |d::ds=>by simp[OV.jU,OV.kQ ds]
mutual
theorem gZ.lf (s:a6 F g): ∀{t:OV} {v:V} {A:List Ae},gZ K g m t v A->t.lf=b!->gZ K (mm F g) m t v A
 | .fz d,v,A,h,z=>⟨h.1,dM.lf s h.2 (by simpa[OV.lf] using z)⟩
 | .nl ts,v,A,h,z=>by
  obtain⟨a,vs,B,e,f,h1,h2⟩:=h;exact⟨a,vs,B,e,f,h1,bu.lf s h2 (by simpa[OV.lf] using z)⟩
 | .fx u d,v,A,h,z=>⟨h.1,h.2.1,dM.lf s h.2.2 (by simpa[OV.lf] using z)⟩
 | .rt a ts,v,A,h,z=>by
  obtain⟨vs,B,e,f,h1,h2⟩:=h;exact⟨vs,B,e,f,h1,bu.lf s h2 (by simpa[OV.lf] using z)⟩
 | .ob o c ns ts,v,A,h,z=>by
  obtain⟨a,C,l,vs,B,e,f,k,O,h1,h2,hl,j⟩:=h;exact⟨a,C,l,vs,B,e,f,k,O,h1,h2,hl,bu.lf s j (by simpa[OV.lf] using z)⟩
theorem bu.lf {F c e:Hp}(s:a6 F c):∀{ts:List OV} {vs:List V} {A:List Ae},bu K c e ts vs A->OV.jU ts=b!->bu K (mm F c) e ts vs A
 | [],_,_,h,_=>h
 |t::ts,vs,A,h,z=>by
  obtain⟨v,r,B,C,g,f,h1,h2⟩:=h;simp[OV.jU]at z
  exact⟨v,r,B,C,g,f,gZ.lf s h1 z.1,bu.lf s h2 z.2⟩
end
abbrev dN:=List D->(OV->Prop)->Prop
def cg (K:Aq)(n:Nat)(sp:dN):Sp:=VI n λvs H Q=>∃F ds P,a6 F H/\bF K F ds vs/\sp ds P/\∀r v e c,P r->cy F H e c->e8 K H e c r v->Q v c
def Oz (n:Nat)(sp:dN)(As:DA):DO:=λδ P=>As δ λds=>ds.length=n/\sp ds P
def UX (n:Nat)(sp:dN)(As:DA):DO:=λδ P=>As δ λds=>ds.length=n/\sp ds λr=>r.lf=b!/\P r
theorem a4 (A:dJ K a As): eR K (lJ (cg K n sp) [] E0 a) (Oz n sp As):=λo k F H Y δ P Q e w q=>A o k F H Y δ _ _ e w λds vs m z f c g=>by
 rw[A_];exact⟨by rw[<- g.length];exact f.1,m,ds,P,c.fh,g,f.2,λr v u l p h j=>q r v u l p (c.trans h) (j.old c.hh)⟩
theorem fO (L:kY K a As): eR K (lJ (cg K n sp) [] E0 a) (UX n sp As):=λF0 U F H Y δ P Q e w q=>L F0 U F H Y δ _ _ e w λds vs m T h g k=>by
 rw[A_];refine⟨by rw[<- k.length];exact h.1,T,ds,_,a6.refl _,k,h.2,λr v u H' p f J=>?_⟩;have j:a6 m u:=g.fh.trans f.ff;have c:=fP j;obtain⟨A,O,M,l⟩:=J;refine q r v (mm m u) H' p.2 (g.trans ⟨c.ff,f.hh,c.fh.trans f.fh,λb o G C z=>?_⟩) ⟨A,O.lf j p.1,M,λb B=>⟨g.hh.free (l b B).1,c.fh.free (l b B).2⟩⟩;exact c.no b o G (f.ff _ _ C) z
end
section
variable {K:Aq}{te ti ta:TE}{E Ea Ei:DE}{Eo:DO}{t u:TS}{T U:DS}
def X7:DS:=λe δ=>e.nx δ
def PK (T U:DS):DS:=λe δ=>T {e with nx:=U e} δ
theorem bO:bU K Nh X7:=λc a F H Y δ f E e l w=>l.nx F H Y δ e w
theorem aU (h:bU K t T)(g:bU K u U): bU K (lY t u) (PK T U):=λj f F H Y δ c E e l w=>
 h j f F H Y δ {c with nx:=U c} _ e ⟨λp o n a m k=>g j f p o n a c E m l k,l.bk,l.ct,l.rt⟩ w
def SI:DS:=λe δ=>e.bk δ
theorem Se:bU K RJ SI:=λc a F H Y δ f E e l w=>l.bk F H Y δ e w
def V0 (E:DO):DS:=λe δ=>E δ e.rt
theorem bt (h:eR K te Eo): bU K (Px te) (V0 Eo):=λf a F H Y δ k j e l w=>h f a F H Y δ _ _ e w λr v g c p x n=>l.rt g c r v (e.ext.trans x) (n.old e.ext.hh) p
def Sg (i:Nat):DS:=λe δ=>match δ[i]? with
 |some (a! (.own t))=>e.rt t
 |_=>False
theorem fJ:bU K (Px (dy i)) (Sg i):=λf c F H Y δ g n ⟨A,e⟩ l w=>by
 unfold Sg at w;split at w
 .rename_i t ht;obtain⟨v,h1,h2⟩:=e.own i t ht;exact⟨v,h1,l.rt F H t v e.ext ⟨A i,h2,e.jN i,λa h=>⟨(e.new i a h).2.1,(e.new i a h).1⟩⟩ w⟩
 .exact w.elim
def ĸ (C:DT)(T U:DS):DS:=λe δ=>C δ λb=>if b=b! then T e δ else U e δ
theorem cC (h:i6 K c C)(ht:bU K t T)(m:bU K u U): bU K (zD c t u) (ĸ C T U):=λf a F H Y δ k n e l w=>h f a F H Y δ _ _ e w λb j g p x=>by
 cases b with
 |true=>exact oD (ht f a j g Y δ k n (e.on x) l p)
 |false=>exact ng rfl (m f a j g Y δ k n (e.on x) l p)
def VW (i:Nat)(E:DO):DS:=λe δ=>E δ λr=>e.nx (δ.set i (a! (.own r)))
theorem bx (h:eR K te Eo): bU K (j6 te (gU i)) (VW i Eo):=λf a F H Y δ k j e l w=>h f a F H Y δ _ _ e w λr v g c p x n=>l.nx g c _ _ (e.put x i n) p
def Ĺ (i:Nat)(r:xp)(E:DE):DS:=λe δ=>dV i δ λx=>E δ λy=>r x y λz=>e.nx (δ.set i (a! (.own (.fz z))))
theorem Zn (O:zi K R r)(h:dH K te E): bU K (į i te R) (Ĺ i r E):=λk j F H Y δ De En e l w=>by
 obtain⟨v,C,w⟩:=aF k j F H Y δ _ (λv J=>te Y J λy g=>R v y g λz f=>En.nx (Y.set i (a! z)) f) e w λd v Q g p c q=>h k j Q g Y δ _ _ (e.on c) p λy u M f B a o=>O M f d y v u _ _ a.fh (q.mono (c.fh.trans a.hh |> λs=>s)) o B λz w L G A m n=>l.nx L G _ _ (((e.on c).on a).put m i (.fz n)) A
 exact⟨v,C,w⟩
def gN (i:Nat):D->de->(de->Prop)->Prop:=λd δ P=>P (δ.set i (a! (.own (.fz d))))
theorem bD:xm K (gU i) (gN i):=λf c F H Y δ A d v P Q e r w q=>q _ _ _ w (e.Ł i r) λj a h=>by
 split at h
 .cases h
 .exact h
def u3:List D->de->(de->Prop)->Prop:=λds δ P=>match ds with
 | []=>P δ
 |_=>False
def oE (G:D->de->(de->Prop)->Prop)(c:List D->de->(de->Prop)->Prop):List D->de->(de->Prop)->Prop:=λds δ P=>match ds with
 |d::r=>G d δ λa=>c r a P
 |_=>False
theorem js:OG K ţ u3:=λc a F H Y δ A ds vs P Q e r w q=>by
 unfold u3 at w;split at w
 .exact ⟨r,q _ _ A w e λ_ _ z=>z⟩
 .exact w.elim
theorem cR {G:D->de->(de->Prop)->Prop}{l:List D->de->(de->Prop)->Prop}(h:xm K g G)(C:OG K J l): OG K (YB g J) (oE G l):=λm k F H Y δ A ds vs P Q e r w q=>by
 unfold oE at w;split at w
 .obtain ⟨v,j,rfl,h1,h2⟩:=r;exact⟨v,j,rfl,h m k F H Y δ A _ v _ _ e h1 w λO f A' o e' p=>C m k F H O f A' _ j P Q e' h2 o λM c A2 n L B=>q M c A2 n L λi a z=>p i a (B i a z)⟩
 .exact w.elim
def gT (n:Nat)(G:List D->de->(de->Prop)->Prop):D->de->(de->Prop)->Prop:=λd δ P=>match d with
 | .tup ds=>ds.length=n/\G ds δ P
 |_=>False
theorem l_ {G:List D->de->(de->Prop)->Prop}(h:OG K g G): xm K (Ţ K n g) (gT n G):=λf c F H Y δ A d v P Q e r w q=>by
 unfold gT at w;split at w
 .obtain ⟨a,vs,rfl,h1,h2⟩:=r;exact⟨a,vs,rfl,e.ext.fh.mL h1,by rw[<- h2.length];exact w.1,h f c F H Y δ A _ vs P Q e h2 w.2 q⟩
 .exact w.elim
def ĺ (E:DE)(G:D->de->(de->Prop)->Prop):DS:=λe δ=>E δ λd=>G d δ e.nx
theorem Zo {G:D->de->(de->Prop)->Prop}(h:cO K te E)(hg:xm K g G): bU K (j6 te g) (ĺ E G):=λj c F H Y δ z q e l w=>h j c F H Y δ _ _ e w λd v k f p x r=>
 let⟨A,e⟩:=e
 hg j c k f Y δ A d v _ _ (e.on x) r p λn a o m e' _=>l.nx k f n a ⟨o,e'⟩ m
theorem ER.change {A:Nat->List Ae}(e:ER K M w F H Y δ A)(i:Nat)(p:Y[i]?=a! (a! v))(r:gZ K F C t' v B)(G:B.Nodup)
  (n:∀b∈B,F b=a?/\w b=a?) (q:∀j,j≠i->∀b∈B,b∉A j) (keep:∀b o,b∉A i->H b=a! o->C b=a! o): cv K M w F C Y (δ.set i (a! (.own t'))):=by
 have hi:i<δ.length:=by rw[<- e.len];exact (Ab.mp p).1
 refine⟨λj=>if j=i then B else A j,by simp[e.len],⟨e.ext.ff,λb o h=>?_,λb o h=>?_,e.ext.no⟩,λj t J=>?_,λj d J=>?_,λj=>?_,λj k a f h1 h2=>?_,λj a c=>?_⟩
 .exact keep b o (λz=>by rw[(e.new i b z).2.1]at h;cases h) (e.ext.hh _ _ h)
 .exact keep b o (λz=>by rw[(e.new i b z).1]at h;cases h) (e.ext.fh _ _ h)
 .by_cases z:j=i
  .subst z;rw[c! rfl];rw[Aw hi]at J;cases J;exact⟨v,p,r⟩
  .rw [c? z];rw[AH (Bb z)]at J;obtain⟨u,h1,h2⟩:=e.own j t J;exact⟨u,h1,h2.frame (a6.refl _) λa c xs h=>keep a _ (e.kU j i a z c) h⟩
 .by_cases z:j=i
  .subst z;rw[Aw hi]at J;cases J
  .rw [AH (Bb z)]at J;exact e.bw j d J
 .split
  .exact G
  .exact e.jN j
 .split at h1
  .split at h2
   .lia
   .rename_i l g;exact q k g a h1 h2
  .split at h2
   .rename_i l g;exact q j l a h2 h1
   .exact e.kU j k a f h1 h2
 .split at c
  .exact ⟨(n a c).1,(n a c).2,r.uY a c⟩
  .rename_i z;obtain⟨h1,h2,xs,L,m⟩:=e.new j a c;exact⟨h1,h2,xs,keep a _ (e.kU j i a z c) L,m⟩
def ZD (i:Nat)(E:DO):DS:=λe δ=>match δ[i]? with
 |some (a! (.own (.nl ts)))=>ts.length<1000000/\E δ λr=>e.nx (δ.set i (a! (.own (.nl (ts++[r])))))
 |_=>False
theorem a9 (h:b≠a)(e:H b=a! O): cQ H a o b=a! O:=by rw[bJ h];exact e
theorem Sf (h:eR K te Eo): bU K (jD (VD K "list" mV (dy i) (c9 te gw))) (ZD i Eo):=λF0 H0 F H Y δ De En e l w=>by
 obtain⟨A,e⟩:=e;unfold ZD at w;split at w
 .rename_i ts hs;obtain⟨pl,w⟩:=w;obtain⟨v,hv,a,vs,B,rfl,g,ha,hB⟩:=e.own i _ hs;refine⟨_,hv,.inl ⟨rfl,_,eQ.of ha⟩,?_⟩;refine h F0 H0 F H Y δ _ _ ⟨A,e⟩ w λr u F1 H1 p G n=>?_
  obtain⟨C,c1,c2,O⟩:=n;have M:=e.on G;have hl:=hB.length;refine⟨a,vs,u,rfl,rfl,G.hh _ _ ha,qD (by lia),?_⟩;have L:bu K F1 H1 ts vs B:=hB.frame G.ff λb _ xs z=>G.hh _ _ z
  have k:=e.jN i;rw[g]at k;obtain⟨Q,n2⟩:=AG.mp k;have f:∀j b,b∈C->b∉A j:=λj b c z=>by
   obtain⟨_,_,xs,q,_⟩:=e.new j b z;rw[(O b c).1]at q;cases q
  have m:a∉C:=λz=>f i a z (by rw[g];exact Ay)
  refine l.nx F1 _ Y _ (M.change i hv (t':=.nl (ts++[r])) (B:=a::(B++C)) ⟨a,vs++[u],B++C,rfl,rfl,aZ,?_⟩ ?_ ?_ ?_ ?_) p
  .exact bu.append (L.frame (a6.refl _) λb c xs z=>a9 (λq=>Q (by rw[<- q];exact c)) z) (bu.one (c1.frame (a6.refl _) λb c xs z=>a9 (λq=>m (by rw[<- q];exact c)) z))
  .refine AG.mpr ⟨λz=>?_,A7.mpr ⟨n2,c2,λx hx y hy z=>?_⟩⟩
   .rcases AB.mp z with z |z
    .exact Q z
    .exact m z
   .subst z;exact f i x hy (by rw[g];exact Ax _ hx)
  .intro b c;have J:b∈A i∨b∈C:=by
    rw[g];rcases AJ.mp c with z |z
    .exact .inl (by rw[z];exact Ay)
    .rcases AB.mp z with z |z
     .exact .inl (Ax _ z)
     .exact .inr z
   rcases J with z |z
   .exact ⟨(M.new i b z).1,(M.new i b z).2.1⟩
   .exact ⟨(O b z).2,e.ext.hh.free (O b z).1⟩
  .intro j hj b c z;rcases AJ.mp c with q |q
   .subst q;exact e.kU j i b hj z (by rw[g];exact Ay)
   .rcases AB.mp q with q |q
    .exact e.kU j i b hj z (by rw[g];exact Ax _ q)
    .exact f j b q z
  .intro b o c q;exact a9 (λz=>c (by rw[g,z];exact Ay)) q
 .exact w.elim
def ĵ (i:Nat)(Ei:DE)(E:DO):DS:=λe δ=>E δ λr=>match δ[i]? with
 |some (a! (.own (.nl ts)))=>Ei δ λk=>match k with
  | .int k=>∃j,pq ts.length k=a! j/\e.nx (δ.set i (a! (.own (.nl (ts.set j r)))))
  |_=>False
 |_=>False
theorem rg (h:eR K te Eo)(hi:dH K ti Ei): bU K (j6 te (Xb (dy i) ti NN)) (ĵ i Ei Eo):=λF0 H0 F H Y δ De En e l w=>by
 refine h F0 H0 F H Y δ _ _ e w λr u F1 H1 p x1 n=>?_
 obtain⟨A,e⟩:=e;split at p
 .rename_i ts hs;have e1:=e.on x1;obtain⟨v,hv,a,vs,B,rfl,m,ha,hB⟩:=e1.own i _ hs;refine⟨_,hv,?_⟩;refine hi F0 H0 F1 H1 Y δ _ _ ⟨A,e1⟩ p λk kv F2 H2 G g r2=>?_
  split at G
  .rename_i k;obtain⟨j,J,G⟩:=G;have e2:=e1.on g;have ha2:=g.hh _ _ ha;have hB2:bu K F2 H2 ts vs B:=hB.frame g.ff λb _ xs z=>g.hh _ _ z
   obtain⟨C,c1,c2,c3⟩:=n;have c1':gZ K F2 H2 r u C:=c1.frame g.ff λb _ xs z=>g.hh _ _ z
   have hl:=hB.length;refine⟨a,vs,k,j,rfl,r2,ha2,by rw[<- hl];exact J,?_⟩;have Yw:j<ts.length:=by
    unfold pq at J;split at J
    .split at J
     .cases J;lia
     .cases J
    .split at J
     .cases J;lia
     .cases J
   obtain⟨v0,A1,B0,A2,f1,rfl,f3,f4⟩:=hB2.focus (Ad Yw);have M:=e.jN i;rw[m]at M;obtain⟨n1,n2⟩:=AG.mp M;have f:∀j b,b∈C->b∉A j:=λj b c z=>by
    obtain⟨_,_,xs,q,_⟩:=e.new j b z;rw[(c3 b c).1]at q;cases q
   have Q:a∉C:=λz=>f i a z (by rw[m];exact Ay)
   have sub:∀b,b∈A1++A2->b∈A1++(B0++A2):=λb c=>by
    rcases AB.mp c with z |z<;>simp[z]
   have L:∀b,b∈a::(A1++(C++A2))->b∈A i∨b∈C:=λb c=>by
    rw[m];rcases AJ.mp c with z |z
    .exact .inl (by rw[z];exact Ay)
    .rcases AB.mp z with z |z
     .exact .inl (by simp[z])
     .rcases AB.mp z with z |z
      .exact .inr z
      .exact .inl (by simp[z])
   refine l.nx F2 _ Y _ (e2.change i hv (t':=.nl (ts.set j r)) (B:=a::(A1++(C++A2))) ⟨a,vs.set j u,_,rfl,rfl,aZ,f4 F2 _ r u C (a6.refl _) (λb c xs z=>?_) (c1'.frame (a6.refl _) λb c xs z=>a9 (λq=>Q (by rw[<- q];exact c)) z)⟩ ?_ ?_ ?_ ?_) G
   .exact a9 (λq=>n1 (by rw[<- q];exact sub b c)) z
   .obtain ⟨m1,m2,m3⟩:=A7.mp n2;obtain⟨k1,k2,k3⟩:=A7.mp m2;refine AG.mpr ⟨λz=>?_,A7.mpr ⟨m1,A7.mpr ⟨c2,k2,λx hx y hy z=>?_⟩,λx hx y hy z=>?_⟩⟩
    .rcases AB.mp z with z |z
     .exact n1 (by simp[z])
     .rcases AB.mp z with z |z
      .exact Q z
      .exact n1 (by simp[z])
    .subst z;exact f i x hx (by rw[m];simp[hy])
    .rcases AB.mp hy with q |q
     .subst z;exact f i x q (by rw[m];simp[hx])
     .exact m3 x hx y (by simp[q]) z
   .intro b c;rcases L b c with z |z
    .exact ⟨(e2.new i b z).1,(e2.new i b z).2.1⟩
    .obtain ⟨xs,q,O⟩:=c1.uY b z;exact⟨g.no b _ (c3 b z).2 q O,e.ext.hh.free (c3 b z).1⟩
   .intro j' W3 b c z;rcases L b c with q |q
    .exact e.kU j' i b W3 z q
    .exact f j' b q z
   .intro b o c q;exact a9 (λz=>c (by rw[m,z];exact Ay)) q
  .exact G.elim
 .exact p.elim
def SJ (i:Nat)(g:Int->Int->Int)(Ei E:DE):DS:=λe δ=>match δ[i]? with
 |some (a! (.own (.nl ts)))=>Ei δ λk=>match k with
  | .int k=>0<=k/\∃x,ts[k.toNat]?=a! (.fz (.int x))/\E δ λy=>match y with
   | .int y=>e.nx (δ.set i (a! (.own (.nl (ts.set k.toNat (.fz (.int (g x y))))))))
   |_=>False
  |_=>False
 |_=>False
theorem VY {g:Int->Int->Int}(hi:dH K ti Ei)(h:dH K te E): bU K (XZ (dy i) ti te (Yh K) (ipI g) NN) (SJ i g Ei E):=λF0 H0 F H Y δ De En e l w=>by
 obtain⟨A,e⟩:=e;unfold SJ at w;split at w
 .rename_i ts hs;obtain⟨v,Q,a,vs,B,rfl,m,ha,hB⟩:=e.own i _ hs;refine⟨_,Q,?_⟩;refine hi F0 H0 F H Y δ _ _ ⟨A,e⟩ w λk kv F1 H1 p C O=>?_
  split at p
  .rename_i k;obtain⟨k0,x,hx,p⟩:=p;have e1:=e.on C;have f:=C.hh _ _ ha;have J:bu K F1 H1 ts vs B:=hB.frame C.ff λb _ xs z=>C.hh _ _ z
   obtain⟨v0,A1,B0,A2,f1,rfl,L,f4⟩:=J.focus hx;obtain⟨rfl,L⟩:=L;refine⟨a,vs,k,v0,rfl,O,eQ.of f,k0,f1,?_⟩;refine h F0 H0 F1 H1 Y δ _ _ ⟨A,e1⟩ p λy yv F2 H2 G r r2=>?_
   split at G
   .rename_i y;have M:=e1.on r;have Yw:k.toNat<vs.length:=(Ab.mp f1).1;refine⟨x,y,L,r2,a,vs,k,k.toNat,rfl,O,r.hh _ _ f,?_,?_⟩
    .unfold pq;rw[c! k0,c! (by lia)]
    .have n:=e.jN i;rw[m]at n;obtain⟨n1,n2⟩:=AG.mp n;refine l.nx F2 _ Y _ (M.change i Q (t':=.nl (ts.set k.toNat (.fz (.int (g x y))))) (B:=a::(A1++([]++A2))) ⟨a,_,_,rfl,rfl,aZ,f4 F2 _ (.fz (.int (g x y))) _ [] r.ff (λb c xs z=>a9 (λq=>n1 (by rw[<- q];exact c)) (r.hh _ _ z)) ⟨rfl,rfl⟩⟩ ?_ ?_ ?_ ?_) G
     .exact n
     .intro b c;exact⟨(M.new i b (by rw[m];exact c)).1,(M.new i b (by rw[m];exact c)).2.1⟩
     .intro j hj b c z;exact e.kU j i b hj z (by rw[m];exact c)
     .intro b o c q;exact a9 (λz=>c (by rw[m,z];exact Ay)) q
   .exact G.elim
  .exact p.elim
 .exact w.elim
end
section
variable {K:Aq}{te ti ta tl:TE}{E Ea Ei El:DE}{Eo:DO}{t u:TS}{T U:DS}{a:TA}{As:DA}
theorem ER.rebase {A:Nat->List Ae}(e:ER K f c F H Y δ A): ER K F c F H Y δ A:=⟨e.len,⟨a6.refl _,e.ext.hh,e.ext.fh,λ_ _ z _ _=>z⟩,e.own,e.bw,e.jN,e.kU,e.new⟩
theorem cv.rebase (e:cv K f c F H Y δ): cv K F c F H Y δ:=let⟨A,e⟩:=e;⟨A,e.rebase⟩
theorem cy.nR (x:cy h e g j)(y:cy g e F H): cy h e F H:=⟨x.ff.trans y.ff,y.hh,y.fh,λa o f c z=>y.no a o (x.no a o f c z) c z⟩
theorem cv.nR (x:cy g c f h)(e:cv K f c F H Y δ): cv K g c F H Y δ:=let⟨A,e⟩:=e;⟨A,e.len,x.nR e.ext,e.own,e.bw,e.jN,e.kU,e.new⟩
def R7 (C:DT)(T:DS):DS:=λe δ=>∃W:Nat->de->Prop,(∃m,W m δ)/\∀m δ,W m δ->C δ λb=>if b=b! then T {nx:=λc=>∃M,M<m/\W M c,ct:=λc=>∃M,M<m/\W M c,bk:=e.nx,rt:=e.rt} δ else e.nx δ
theorem xu {TF:Hp->Prop}(h:i6 K c C)(ht:d3 K TF t T): d3 K TF (zC c t) (R7 C T):=λn k hT F H Y δ Q En e l w=>by
 obtain⟨W,⟨m0,w0⟩,hW⟩:=w;refine⟨λm Y H=>∃F δ,cv K n k F H Y δ/\W m δ,⟨m0,F,δ,e,w0⟩,?_⟩;rintro m A H1 ⟨F1,f,v,w1⟩;refine h n k F1 H1 A f _ _ v (hW m f w1) λb O J p x=>?_
 cases b with
 |true=>
  refine oD ⟨λG L=>∃M,M<m/\∃F δ,cv K n k F L G δ/\W M δ,λG L z=>z,?_⟩;refine ht n k hT O J A f {nx:=λj=>∃M,M<m/\W M j,ct:=λj=>∃M,M<m/\W M j,bk:=Q.nx,rt:=Q.rt} _ (v.on x) ⟨λB H3 Y3 g r ⟨M,q,o⟩=>⟨M,q,B,g,r,o⟩,l.nx,λB H3 Y3 g r ⟨M,q,o⟩=>⟨M,q,B,g,r,o⟩,l.rt⟩ p
 |false=>exact ng rfl (l.nx O J A f (v.on x) p)
theorem q_ (h:i6 K c C)(ht:bU K t T): bU K (zC c t) (R7 C T):=λf e=>xu (TF:=λ_=>True) h (λf e _=>ht f e) f e trivial
def ItR (K:Aq)(F:Hp)(J:It)(ds:List D):Prop:=∀e c,a6 F e->a6 e c->(∀i,i<ds.length->J.go i c)/\J.stop ds.length c/\∀i x f,i<ds.length->J.ϣ i c x f->∃d g,ds[i]?=a! d/\cy e c g f/\dM K g d x
def mq (K:Aq)(w:TI)(I:DA):Prop:=∀g f F H Y δ P R,cv K g f F H Y δ->I δ P->(∀ds J e c,P ds->cy F H e c->ItR K e J ds->R J c)->w Y H R
def Xa7 (G:D->de->(de->Prop)->Prop)(T:DS)(e:Vj)(ds:List D)(δ:de):Prop:=∃W:Nat->de->Prop,W 0 δ/\
 (∀i d δ,ds[i]?=a! d->W i δ->G d δ λc=>T {nx:=W (i+1),ct:=W (i+1),bk:=e.nx,rt:=e.rt} c)/\∀δ,W ds.length δ->e.nx δ
def V8 (I:DA)(G:D->de->(de->Prop)->Prop)(T:DS):DS:=λe δ=>I δ λds=>Xa7 G T e ds δ
theorem Rm {G:D->de->(de->Prop)->Prop}(hi:mq K wi I)(hg:xm K g G)(ht:∀f H1,cy F0 n f H1->gY K f n t T): gY K F0 n (VA wi g t) (V8 I G T):=λF H Y δ De En e l w=>
 hi F0 n F H Y δ _ _ e w λds J f H1 p x1 hJ=>by
  have B:=(e.on x1).ext;obtain⟨W,w0,ws,wd⟩:=p;refine⟨λi m Y H=>m=ds.length-i/\i<=ds.length/\∃F δ,cv K f n F H Y δ/\W i δ,⟨ds.length,rfl,By _,f,δ,(e.on x1).rebase,w0⟩,?_⟩;rintro i m Y2 H2 ⟨rfl,hil,F2,h,⟨A2,z⟩,w2⟩;obtain⟨j1,j2,j3⟩:=hJ F2 H2 z.ext.ff z.ext.fh;by_cases L:i<ds.length
  .refine .inr ⟨j1 i L,λY' H'=>∃F δ,cv K f n F H' Y' δ/\W (i+1) δ,λY' H' ⟨A,M,e3,w3⟩=>⟨ds.length-(i+1),by omega,rfl,L,A,M,e3,w3⟩,λx H3 y=>?_⟩;obtain⟨d,A,hd,x3,r3⟩:=j3 i x H3 L y;refine hg f n A H3 Y2 h A2 d x _ _ (z.on x3) r3 (ws i d h hd w2) λY4 C A4 w4 e4 _=>?_
   exact ht f H1 B A H3 Y4 C {nx:=W (i+1),ct:=W (i+1),bk:=De.nx,rt:=De.rt} _ ⟨A4,e4⟩ ⟨λk q Q c o j=>⟨k,c,o,j⟩,λk q Q c o j=>l.nx k q Q c (o.nR B) j,λk q Q c o j=>⟨k,c,o,j⟩,λk q r v x5 n5 j=>l.rt k q r v (B.nR x5) n5 j⟩ w4
  .have O:i=ds.length:=by lia
   subst O;exact .inl ⟨j2,l.nx F2 H2 Y2 h (cv.nR B ⟨A2,z⟩) (wd _ w2)⟩
theorem zu {TF:Hp->Prop}{G:D->de->(de->Prop)->Prop}(m:lS TF)(hi:mq K w I)(hg:xm K g G)(ht:d3 K TF t T): d3 K TF (VA w g t) (V8 I G T):=λj c h=>Rm hi hg λe f x=>ht e c (m _ _ x.ff h)
theorem et {G:D->de->(de->Prop)->Prop}(hi:mq K w I)(hg:xm K g G)(ht:bU K t T): bU K (VA w g t) (V8 I G T):=λe c=>zu (TF:=λ_=>True) (λ_ _ _ z=>z) hi hg (λe c _=>ht e c) e c trivial
def Ÿ (El:DE):DA:=λδ P=>El δ λd=>match d with
 | .lst ds=>P ds
 |_=>False
def Ŷ (El:DE):DA:=λδ P=>El δ λd=>match d with
 | .tup ds=>P ds
 |_=>False
theorem dv (h:cO K tl El): mq K (Ux K tl) (Ÿ El):=λm j F H Y δ P R e w q=>h m j F H Y δ _ _ e w λd v n k p x r=>by
 split at p
 .obtain ⟨a,vs,rfl,h1,h2⟩:=r;refine⟨a,rfl,⟨vs,x.fh.seq h1⟩,q _ _ n k p x λl z f c=>?_⟩;have hl:=h2.length;have Q:=(f.trans c).seq h1;refine⟨λi hi=>⟨vs,vs[i],Q,Ad (by lia)⟩,⟨vs,Q,by lia⟩,λi x o hi y=>?_⟩;obtain⟨rfl,y⟩:=y;obtain⟨d,hd,g⟩:=h2.get' (y vs Q);exact⟨d,l,hd,cy.refl c,g.mono f⟩
 .exact p.elim
theorem Sq (h:cO K tl El): mq K (ŕ K tl) (Ŷ El):=λm j F H Y δ P R e w q=>h m j F H Y δ _ _ e w λd v n k p x r=>by
 split at p
 .obtain ⟨a,vs,rfl,h1,h2⟩:=r;refine⟨a,rfl,⟨vs,x.fh.mL h1⟩,q _ _ n k p x λl z f c=>?_⟩;have hl:=h2.length;have Q:=(f.trans c).mL h1;refine⟨λi hi=>⟨vs,vs[i],Q,Ad (by lia)⟩,⟨vs,Q,by lia⟩,λi x o hi y=>?_⟩;obtain⟨rfl,y⟩:=y;obtain⟨d,hd,g⟩:=h2.get' (y vs Q);exact⟨d,l,hd,cy.refl c,g.mono f⟩
 .exact p.elim
noncomputable def v8 (lo c:Int)(n:Nat):List D:=(AF n).map λ(i:Nat)=>D.int (lo+i*c)
theorem eG {lo c:Int}{n:Nat}:(v8 lo c n).length=n:=by simp[v8]
theorem v5 {lo c:Int}{n i:Nat}(h:i<n):(v8 lo c n)[i]?=a! (.int (lo+i*c)):=by simp[v8,h]
theorem eU {lo c:Int}{n i:Nat}{d:D}(h:(v8 lo c n)[i]?=a! d):i<n/\d = .int (lo+i*c):=by
 have hi:i<n:=by
  have:=(Ab.mp h).1
  rwa[eG]at this
 rw[v5 hi]at h;exact⟨hi,(AY h).symm⟩
theorem WZ {F:Hp}{lo:Int}{n:Nat}:ItR K F (Itr lo n) (v8 lo 1 n):=λe h f c=>by
 rw[eG];refine⟨λi hi=>hi,Ag _,λi x g hi y=>?_⟩;obtain⟨rfl,rfl⟩:=y;exact⟨_,e,v5 hi,cy.refl c,by rw[Ko];rfl⟩
theorem yE {F:Hp}{lo c:Int}{n:Nat}:ItR K F (XD lo c n) (v8 lo c n):=λf j g e=>by
 rw[eG];refine⟨λi hi=>hi,Ag _,λi x h hi y=>?_⟩;obtain⟨rfl,rfl⟩:=y;exact⟨_,f,v5 hi,cy.refl e,rfl⟩
def YJ (As:DA):DA:=λδ P=>As δ λds=>match ds with
 | [.int j]=>(-(2^62)<=j/\j<2^62)/\P (v8 0 1 j.toNat)
 |_=>False
def YI (As:DA):DA:=λδ P=>As δ λds=>match ds with
 | [.int i,.int j,.int c]=>(-(2^61)<=i/\i<2^61/\-(2^61)<=j/\j<2^61/\0<c/\c<2^29)/\P (v8 i c (eu i j c))
 |_=>False
theorem X9 (h:bF K F [d,d',c] vs): ∃v u w,vs=[v,u,w]/\dM K F d v/\dM K F d' u/\dM K F c w:=by
 obtain⟨v,r,rfl,h1,h2⟩:=h;obtain⟨u,w,rfl,f,e⟩:=rn h2;exact⟨v,u,w,rfl,h1,f,e⟩
theorem gq (h:kY K a As): mq K (Yu a) (YJ As):=λj f F H Y δ P R e w q=>h j f F H Y δ _ _ e w λds vs k g p x r=>by
 split at p
 .obtain ⟨v,rfl,c⟩:=h8 r;exact⟨_,by rw[show v=_ from c],p.1.1,p.1.2,q _ _ k g p.2 x WZ⟩
 .exact p.elim
theorem qe (h:kY K a As): mq K (Yt a) (YI As):=λl j F H Y δ P R e w q=>h l j F H Y δ _ _ e w λds vs m k p x r=>by
 split at p
 .obtain ⟨v,u,z,rfl,g,f,c⟩:=X9 r;exact⟨_,_,_,by rw[show v=_ from g,show u=_ from f,show z=_ from c],p.1,q _ _ m k p.2 x yE⟩
 .exact p.elim
def Ų (As:DA):DA:=λδ P=>As δ λds=>match ds with
 | [.tup xs]=>P xs.reverse
 |_=>False
theorem Zx (h:dJ K a As):mq K (ŗ K a) (Ų As):=λm j F H Y δ P R e w q=>h m j F H Y δ _ _ e w λds vs n k p x r=>by
 split at p
 .obtain ⟨v,rfl,a,us,rfl,h1,h2⟩:=h8 r;have hl:=h2.length;refine⟨a,us,rfl,x.fh.mL h1,q _ _ n k p x λl z f c=>?_⟩;have Q:=(f.trans c).mL h1;rw[B4];refine⟨λi hi=>⟨us,us[us.length-1-i]'(by omega),Q,rfl,by lia,Ad (by omega)⟩,by show us.length<=_;lia,λi x o hi y=>?_⟩;obtain⟨rfl,y⟩:=y;obtain⟨d,hd,g⟩:=h2.get' (y us Q);refine⟨d,l,?_,cy.refl c,g.mono f⟩;rw[Ce hi,hl];exact hd
 .exact p.elim
noncomputable def MS (ix:List (Option Nat))(δ:de):de:=ix.map λo=>match o with
 |none=>a?
 |some i=>match δ[i]? with
  |some (a! (.own (.fz d)))=>a! (.own (.fz d))
  |some (a! (.own (.fx _ d)))=>a! (.own (.fz d))
  |some (a! (.own t))=>a! (.bw t.val)
  |some (a! (.bw d))=>a! (.bw d)
  |_=>a?
def f9 (G:D->de->(de->Prop)->Prop)(Eo:DO)(ds:List D)(δ:de)(P:OV->Prop):Prop:=∃W:Nat->de->List OV->Prop,W 0 δ []/\
 (∀i d δ ts,ds[i]?=a! d->W i δ ts->ts.length<1000000/\G d δ λc=>Eo c λr=>W (i+1) c (ts++[r]))/\∀δ ts,W ds.length δ ts->P (.nl ts)
def UR (I:DA)(ix:List (Option Nat))(G:D->de->(de->Prop)->Prop)(Eo:DO):DO:=λδ P=>I δ λds=>f9 G Eo ds (MS ix δ) P
theorem ER.uj {A:Nat->List Ae}(e:ER K n m F H Y δ A)(ix:List (Option Nat))(s:a6 H l): ER K F H F l (nI ix Y) (MS ix δ) (λ_=>[]):=by
 have get:∀(j:Nat) (s:Sl),(MS ix δ)[j]?=a! (a! s)->∃(i:Nat) (v:V),(nI ix Y)[j]?=a! (a! v)/\Y[i]?=a! (a! v)/\((∃d,s = .own (.fz d)/\dM K F d v)∨∃d,s = .bw d/\dM K H d v):=by
  intro j s c;unfold MS at c;rw[AK]at c
  cases q:ix[j]? with
  |none=>rw[q]at c;cases c
  |some o=>
   rw[q]at c
   cases o with
   |none=>cases c
   |some i=>
    have fin:∀v,Y[i]?=a! (a! v)->(nI ix Y)[j]?=a! (a! v):=λv k=>by
     unfold nI;rw[AK,q];simp[k]
    have J:=AY c;dsimp only at J;split at J
    .rename_i d hd;cases J;obtain⟨v,h1,h2⟩:=e.own i _ hd;exact⟨i,v,fin v h1,h1,.inl ⟨d,rfl,h2.2⟩⟩
    .rename_i u d hd;cases J;obtain⟨v,h1,h2⟩:=e.own i _ hd;exact⟨i,v,fin v h1,h1,.inl ⟨d,rfl,h2.2.2⟩⟩
    .rename_i t _ _ hd;cases J;obtain⟨v,h1,h2⟩:=e.own i _ hd;exact⟨i,v,fin v h1,h1,.inr ⟨_,rfl,h2.rep e.ext.fh λa _ xs z=>z⟩⟩
    .rename_i d hd;cases J;obtain⟨v,h1,h2⟩:=e.bw i _ hd;exact⟨i,v,fin v h1,h1,.inr ⟨_,rfl,h2.mono e.ext.hh⟩⟩
    .cases J
 refine⟨by simp[nI,MS],cy.grow e.ext.fh s,λj t c=>?_,λj d c=>?_,λ_=>CB,(λ_ _ _ _ h=>by cases h),(λ_ _ h=>by cases h)⟩
 .obtain ⟨i,v,h1,h2,f⟩:=get j _ c;rcases f with⟨d,f,g⟩ | ⟨d,f,_⟩
  .cases f;exact⟨v,h1,rfl,g⟩
  .cases f
 .obtain ⟨i,v,h1,h2,f⟩:=get j _ c;rcases f with⟨d',f,g⟩ | ⟨d',f,g⟩
  .cases f
  .cases f;exact⟨v,h1,g⟩
theorem vp {TF:Hp->Prop}{G:D->de->(de->Prop)->Prop}(mo:lS TF)(hi:mq K wi I)(hg:xm K g G)(he:lT K TF te Eo): lT K TF (qC wi ix g te) (UR I ix G Eo):=λF0 H0 hT F H Y δ P Q e w q=>
 hi F0 H0 F H Y δ _ _ e w λds J F1 H1 p x1 hJ=>by
  intro L hL;obtain⟨A,e⟩:=e.on x1;obtain⟨W,w0,ws,wd⟩:=p;have f1:a6 F1 H1:=x1.fh;have hT1:=mo _ _ e.ext.ff hT;refine⟨λi m Y ys H=>m=ds.length-i/\i<=ds.length/\∃F δ ts B,ER K F1 H1 F H Y δ (λ_=>[])/\W i δ ts/\F L=a?/\H L=a! (.lst ys)/\bu K F H ts ys B/\(L::B).Nodup/\∀b∈B,H1 b=a?/\F b=a?,
   ⟨ds.length,rfl,By _,F1,_,[],[],e.uj ix (a6.new hL),w0,f1.free hL,aZ,⟨rfl,rfl⟩,by simp,λ_ h=>by cases h⟩,?_⟩
  rintro i m Y2 ys H2 ⟨rfl,hil,F2,δ2,ts,B,e2,w2,l1,l2,hr,nd,nw⟩;obtain⟨j1,j2,j3⟩:=hJ F2 H2 e2.ext.ff e2.ext.fh;by_cases l:i<ds.length
  .obtain ⟨d0,W4⟩:∃d,ds[i]?=a! d:=⟨_,Ad l⟩
   have hl:=hr.length;refine .inr ⟨qD (by have:=(ws i d0 δ2 ts W4 w2).1;lia),j1 i l,λx H3 y=>?_⟩;obtain⟨d,F3,hd,x3,r3⟩:=j3 i x H3 l y;refine hg F1 H1 F3 H3 Y2 δ2 (λ_=>[]) d x _ _ (e2.on x3) r3 (ws i d δ2 ts hd w2).2 λY4 O A4 w4 e4 sub=>?_
   have ũ:ER K F1 H1 F3 H3 Y4 O (λ_=>[]):=by
    have:A4=λ_=>[]:=funext λk=>List.eq_nil_iff_forall_not_mem.mpr λb f=>by cases sub k b f
    rw[this]at e4;exact e4
   refine he F1 H1 hT1 F3 H3 Y4 O _ _ ⟨_,ũ⟩ w4 λr v F5 H5 p5 x5 n5=>?_
   have c:=x3.trans x5;have l5:=c.hh _ _ l2;have l5f:=c.no L _ l1 l2 rfl;refine⟨l5,ds.length-(i+1),by lia,rfl,l,F5,O,ts++[r],?_⟩;obtain⟨C,c1,c2,c3⟩:=n5;obtain⟨n1,n2⟩:=AG.mp nd;have ş:L∉C:=λz=>by
    have q:=(c3 L z).1;rw[x3.hh _ _ l2]at q;cases q
   have hBC:∀b,b∈B->b∉C:=λb f z=>by
    obtain⟨xs,q,M⟩:=hr.uY b f;have:=(c3 b z).1;rw[x3.hh _ _ q]at this;cases this
   have n:=ũ.on x5;refine⟨B++C,⟨n.len,⟨n.ext.ff,λb o h=>?_,λb o h=>?_,n.ext.no⟩,λj t hj=>?_,n.bw,n.jN,n.kU,λ_ _ h=>by cases h⟩,p5,l5f,aZ,?_,?_,λb f=>?_⟩
   .exact a9 (λz=>by rw[z,hL]at h;cases h) (n.ext.hh _ _ h)
   .exact a9 (λz=>by rw[z,l5f]at h;cases h) (n.ext.fh _ _ h)
   .obtain ⟨u,h1,h2⟩:=n.own j t hj;exact⟨u,h1,h2.frame (a6.refl _) λ_ z=>by cases z⟩
   .exact bu.append (hr.frame c.ff λb f xs z=>a9 (λq=>n1 (by rw[<- q];exact f)) (c.hh _ _ z)) (bu.one (c1.frame (a6.refl _) λb f xs z=>a9 (λq=>ş (by rw[<- q];exact f)) z))
   .refine AG.mpr ⟨λz=>?_,A7.mpr ⟨n2,c2,λx hx y hy z=>by subst z;exact hBC x hx hy⟩⟩;rcases AB.mp z with z |z
    .exact n1 z
    .exact ş z
   .rcases AB.mp f with z |z
    .obtain ⟨xs,qq,M⟩:=hr.uY b z;exact⟨(nw b z).1,c.no b _ (nw b z).2 qq M⟩
    .exact ⟨(e2.ext.hh.trans x3.hh).free (c3 b z).1,(c3 b z).2⟩
  .have hi':i=ds.length:=by lia
   subst hi';refine .inl ⟨j2,q _ _ F2 H2 (wd _ _ w2) (x1.trans e2.ext) ⟨L::B,⟨L,ys,B,rfl,rfl,l2,hr⟩,nd,λb f=>?_⟩⟩;rcases AJ.mp f with rfl |z
   .exact ⟨x1.hh.free hL,l1⟩
   .exact ⟨x1.hh.free (nw b z).1,(nw b z).2⟩
noncomputable def c5 (N:List Al)(ds:List D):de:=ds.map (λd=>a! (.own (.fz d)))++Ar (N.length-ds.length) a?
theorem dU {G:D->de->(de->Prop)->Prop}(hi:mq K w I)(hg:xm K g G)(h:eR K te Eo): eR K (qC w ix g te) (UR I ix G Eo):=λe c=>vp (TF:=λ_=>True) (λ_ _ _ z=>z) hi hg (λe c _=>h e c) e c trivial
theorem ew (s:a6 F H)(h:bF K F ds vs): ER K F H F H (start N vs) (c5 N ds) (λ_=>[]):=by
 have hl:=h.length;refine⟨by simp[start,c5,hl],cy.refl s,λi t hi=>?_,λi d hi=>?_,λ_=>CB,(λ_ _ _ _ h=>by cases h),(λ_ _ h=>by cases h)⟩
 .unfold c5 at hi;by_cases z:i<ds.length
  .rw [A9 (by simpa using z),AK,Ad z]at hi;simp at hi
   subst hi;obtain⟨v,h1,h2⟩:=h.get (Ad z);refine⟨v,?_,rfl,h2⟩;unfold start;rw[A9 (by simp;lia),AK,h1];rfl
  .rw [Bi (by simpa using z)]at hi;have:=Ai hi;rw[CO]at this;cases this.2
 .unfold c5 at hi;by_cases z:i<ds.length
  .rw [A9 (by simpa using z),AK]at hi;simp at hi
  .rw [Bi (by simpa using z)]at hi;have:=Ai hi;rw[CO]at this;cases this.2
end
theorem df.of {P:AA}{w:AR}{K:Aq}{m:Al->Option Aa}{base:Heap}{x:Al}{st:A6}{f:Ae}{fd:A8}{N ps:List Al}{k n:Nat}{sp:dN}(M:bN K m x st f fd)(S:aR N ps (aB st))
  (G:∀(kV O pm:Aa) (L:Option Ae) (c ct:Aa) (us:List Aa),us.length=ps.length->BQ (DC x x (bT st) (br st) (aB st) .none kV O pm L c ct) ⟨us,[]⟩=pure (ps.zip us)) (hn:n=ps.length)
  (o:∀(c:Aa) (A:AN) (outer:List Ed) (s:Af) (H:Hp) (E:XK),cB k (A.deeper (Bt x (aB st) s.heap.objs.size f c))->
   ∃t T,PSs (du jT P w K m base N x (aB st) f c A outer s H E).lE (br st) t/\bU K t T/\∀ds a,sp ds a->T {nx:=λ_=>a (.fz .cA),rt:=a} (c5 N ds)):cc P w K m base x (k+1) ps (cg K n sp):=
 cc.of M S G (λvs H Q E h=>by rw[<- hn];exact h.1) λc A outer s H vs Q E C h=>by
  obtain⟨_,F,ds,a,B,j,g,u⟩:=h;obtain⟨t,T,h1,h2,J⟩:=o c A outer s H E C;refine⟨t,h1,h2 F H F H (start N vs) (c5 N ds) {nx:=λ_=>a (.fz .cA),rt:=a} _ ⟨_,ew B j⟩ ⟨λq l Y δ e p=>?_,λ_ _ _ _ _ z=>z.elim,λ_ _ _ _ _ z=>z.elim,λq l r v x n p=>u r v q l p x n⟩ (J ds a g)⟩;exact u _ _ q l p e.ext (.fz rfl)
section
variable {X:Cx}{K:Aq}
noncomputable def D.ϥ:D->String
 | .int _ => "int"
 | .bl _ => "bool"
 | .cA => "NoneType"
 | .str _ => "str"
 | .ty _ => "type"
 | .fn _ => "function"
 | .tup _ => "tuple"
 | .lst _ => "list"
 | .Rc => "dict"
 | .exc _ => "exception"
 | .obj _ _ _ => "object"
 | .qo _ _ _ _ => "function"
def Yg (K:Aq):List V->Hp->VK->Prop:=λxs H Q=>∃d v n b,xs=[v,.ty n]/\dM K H d v/\((∀m,d≠.ty m)/\(∀x,d≠.fn x)/\(∀x,d≠.exc x)/\(∀c ns ds,d≠.obj c ns ds)/\∀a b c e,d≠.qo a b c e)/\Fp K (.type d.ϥ) (.type n)=a! b/\Q (.bl b) H
theorem dF:gd X (.builtin "isinstance") (Yg X.K):=by
 intro pins s Y H xs us Q I r h;obtain⟨d,x,n,b,rfl,f,⟨T,l,hex,A⟩,e,q⟩:=h;obtain⟨u,G,rfl,g,m⟩:=ux r;cases m;have fin:∀tk,EP X pins Y Q (.bool b) {s with toks:=tk}:=λtk=>⟨.bl b,H,I.tok tk,rfl,q⟩
 cases d with
 |int i=>cases f;exact lr I g (lH.int i) e fin
 |bl i=>cases f;exact lr I g (lH.bl i) e fin
 |cA=>cases f;exact lr I g lH.cA e fin
 |str i=>cases f;exact lr I g (lH.str i) e fin
 |ty i=>exact absurd rfl (T i)
 |fn i=>exact absurd rfl (l i)
 |tup ds=>
  obtain⟨a,vs,rfl,h1,h2⟩:=f
  cases (show u=Bl a from g)
  obtain⟨t,v,p,C⟩:=I.tuple h1;obtain⟨o,k,j,_⟩:=p;exact CG Js I.i_ ⟨o,k,j⟩ e (λz=>nomatch z) fin
 |lst ds=>
  obtain⟨a,vs,rfl,h1,h2⟩:=f
  cases (show u=Bl a from g)
  obtain⟨t,v,p,C⟩:=I.list h1;obtain⟨o,k,j,_⟩:=p.isList;exact CG HR I.i_ ⟨o,k,j⟩ e (λz=>nomatch z) fin
 |Rc=>
  obtain⟨a,rfl,h1⟩:=f
  cases (show u=Bl a from g)
  obtain⟨⟨o,k,j⟩,_,_⟩:=I.cL a _ h1;exact CG HS I.i_ ⟨o,k,j⟩ e (λz=>nomatch z) fin
 |exc c=>exact absurd rfl (hex c)
 |obj c ns ds=>exact absurd rfl (A.1 c ns ds)
 |qo k j B w=>exact absurd rfl (A.2 k j B w)
noncomputable def Uo (d:D)(n:String):Bool:=match d with
 | .int _=>n == "int"
 | .bl _=>n == "bool" ||n == "int"
 | .str _=>n == "str"
 | .tup _=>n == "tuple"
 | .lst _=>n == "list"
 |_=>b?
noncomputable def pk:List String:=["int","bool","str","tuple","list"]
structure b7 (K:Aq):Prop where
 all:∀d:D,((∀m,d≠.ty m)/\(∀x,d≠.fn x)/\(∀x,d≠.exc x)/\(∀c ns ds,d≠.obj c ns ds)/\∀a b c e,d≠.qo a b c e)->∀n∈pk,Fp K (.type d.ϥ) (.type n)=a! (Uo d n)
def Ù:List D->(D->Prop)->Prop:=λds P=>match ds with
 | [.ty _,.ty _]=>False
 | [.fn _,.ty _]=>False
 | [.exc _,.ty _]=>False
 | [.obj _ _ _,.ty _]=>False
 | [.qo _ _ _ _,.ty _]=>False
 | [d,.ty n]=>n∈pk/\P (.bl (Uo d n))
 |_=>False
theorem gX (KT:b7 K): Vk K (Yg K) Ù:=λF H ds vs P Q s rs w q=>by
 unfold Ù at w;split at w
 .exact w.elim
 .exact w.elim
 .exact w.elim
 .exact w.elim
 .exact w.elim
 .rename_i d n h1 l h2 k j;obtain⟨v,u,rfl,g,r⟩:=rn rs;have ht:∀m,d≠.ty m:=λm z=>h1 m z
  have hf:∀m,d≠.fn m:=λm z=>l m z
  have f:∀m,d≠.exc m:=λm z=>h2 m z
  have h:(∀c ns ds,d≠.obj c ns ds)/\∀a b c e,d≠.qo a b c e:=⟨λc ns ds z=>k c ns ds z,λa b c e z=>j a b c e z⟩
  exact⟨d,v,n,_,by rw[show u=_ from r],g,⟨ht,hf,f,h⟩,KT.all d ⟨ht,hf,f,h⟩ n w.1,q _ _ F H w.2 (cy.refl s) rfl⟩
 .exact w.elim
theorem ņ {g:Int->Int->Int}: zi K (ipI g) (ZM λi j=>.int (g i j)):=λF H x y v u P Q s a r w q=>by
 obtain⟨i,j,rfl,rfl,p⟩:=NR w;exact⟨i,j,a,r,q _ _ F H p (cy.refl s) rfl⟩
theorem MT {c:Type}{a:c}{xs:List c}:jB (a::xs) 0=a! a:=dw rfl
theorem ü {c:Type}{a b:c}{xs:List c}:jB (a::b::xs) 1=a! b:=dw rfl
theorem û {e:Type}{a b c:e}{xs:List e}:jB (a::b::c::xs) 2=a! c:=dw rfl
theorem ú {e:Type}{a b c d:e}{xs:List e}:jB (a::b::c::d::xs) 3=a! d:=dw rfl
theorem ù {f:Type}{a b c d e:f}{xs:List f}:jB (a::b::c::d::e::xs) 4=a! e:=dw rfl
theorem nK {xs:List Int}{i:Int}(a:0<=i)(h:i<xs.length):jB (xs.map D.int) i=a! (.int (xs.getD i.toNat 0)):=by
 have hi:i.toNat<xs.length:=by lia
 have e:=dw (xs:=xs.map D.int) (j:=i.toNat) (v:=.int (xs.getD i.toNat 0)) (by simp[hi])
 rwa[show ((i.toNat:Nat):Int)=i by lia]at e
theorem Om {ds:List D}:OV.vals (ds.map OV.fz)=ds:=by
 rw[OV.c7];simp[BG,OV.val]
theorem mulL (h1 : -1000000<=i)(h2:i<=1000000): QQ i j:=.inl ⟨by lia,by lia⟩
theorem mulR {i j:Int}(h1 : -1000000<=j)(h2:j<=1000000):QQ i j:=.inr ⟨by lia,by lia⟩
theorem m7 {c a:Type}{xs:List c}{f:c->a}{i:Nat}{d:a}(h:(xs.map f)[i]?=a! d):∃x,xs[i]?=a! x/\d=f x:=by
 rw[AK]at h
 cases q:xs[i]? with
 |none=>rw[q]at h;cases h
 |some x=>rw[q]at h;exact⟨x,rfl,(AY h).symm⟩
theorem Vv {xs:List Int}:Bo OV.val (xs.map λx=>OV.fz (D.int x))=xs.map D.int:=by
 rw[AW];rfl
theorem W9 {xs:List Int}{i:Int}(a:0<=i)(h:i<xs.length):(xs.map λx=>OV.fz (D.int x))[i.toNat]?=a! (.fz (.int (xs.getD i.toNat 0))):=by
 have hi:i.toNat<xs.length:=by lia
 simp[hi]
theorem VT {xs:List Int}{i:Nat}{v:Int}:(xs.map λx=>OV.fz (D.int x)).set i (.fz (.int v))=(xs.set i v).map λx=>OV.fz (D.int x):=by
 rw[JS]
theorem Xx:(xs.map λx=>OV.fz (D.int x))++[.fz (.int v)]=(xs++[v]).map λx=>OV.fz (D.int x):=by
 rw[Bc];rfl
theorem á {xs:List Int}:(xs.map D.int).map OV.fz=xs.map λx=>OV.fz (D.int x):=by
 rw[AW];rfl
theorem Ð:("int"∈pk)=True:=eq_true (by decide)
theorem WV:("bool"∈pk)=True:=eq_true (by decide)
theorem Ul:("tuple"∈pk)=True:=eq_true (by decide)
theorem WU:("list"∈pk)=True:=eq_true (by decide)
theorem ŉ:(KS 10<2^64)=True:=eq_true (by decide)
theorem f9.map {a:Type}{O:DO}{o:Option Sl}{da:de}{P:OV->Prop}(xs:List a)(g:a->D)(f:a->OV)(hn:xs.length<=1000000)
  (h:∀x∈xs,∀Q:OV->Prop,Q (f x)->O (a! (.own (.fz (g x)))::da) Q) (k:P (.nl (xs.map f))):f9 (gN 0) O (xs.map g) (o::da) P:=by
 refine⟨λi δ ts=>∃o,δ=o::da/\ts=(xs.take i).map f,⟨o,rfl,rfl⟩,?_,?_⟩
 .rintro i d δ ts hd ⟨o,rfl,rfl⟩;obtain⟨x,c,rfl⟩:=m7 hd;obtain⟨hi,e⟩:=Ab.mp c;refine⟨by rw[Au,BE];lia,h x (Ai c) _ ⟨_,rfl,?_⟩⟩;rw[AO hi,e,Bc];rfl
 .rintro δ ts ⟨o,rfl,rfl⟩;rw[Au,BD];exact k
theorem f9.v8 {O:DO}{o:Option Sl}{da:de}{P:OV->Prop}{lo c:Int}{n:Nat}(f:Nat->OV)(hn:n<=1000000)
  (h:∀i,i<n->∀Q:OV->Prop,Q (f i)->O (a! (.own (.fz (.int (lo+i*c))))::da) Q) (k:P (.nl ((AF n).map f))):f9 (gN 0) O (v8 lo c n) (o::da) P:=
 f9.map (AF n) _ f (by simpa using hn) (λi hi Q q=>h i (BV.mp hi) Q q) k
theorem R9 (h:∀N:de->Prop,(∀a,U e a->N a)->T {e with nx:=N} δ): PK T U e δ:=h _ λ_ z=>z
end
end L2
namespace PySem
open AutoSeq1
noncomputable abbrev uV (T:String)(o:Option Ae)(xs:Array Aa)(k:Nat)(l:Array (Option Aa)):CJ:={cls:=.type T,dict:=o,data:=.seq xs k,slots:=l}
theorem sv (l b:Ae)(xs ys:Array Aa)(k m:Nat)(o:Option Ae)(L:Array (Option Aa))(c:¬(!xs.isEmpty && Cc (xs.size+ys.size))=b!)(h1:xs.size<=AL)(h2:xs.size+ys.size<=AL+1):
  LJ (Cm.«list.extend» ⟨[.ref l,.ref b],[]⟩) (λ_ R s=>s.heap.get? l=a! (uV "list" a? xs k #[])/\s.heap.get? b=a! (uV "list" o ys m L)/\R (.ok (.ret .none)) {s with heap:=s.heap.update l (Cw (·++ys)),toks:=s.toks}):=by
 refine .of_wp λprog w A R s h=>?_
 obtain⟨e,a,fin⟩:=h;have room:(xs++ys).size<=AL+1:=by
  rw[G0];exact h2
 wp_walk using (Fz e rfl (_hz':=room)),wpAny_loadPart' e,wpAny_loadPart' a
 exact⟨_,rfl,fin⟩
theorem pP (l b:Ae)(xs ys:Array Aa)(k m:Nat)(o:Option Ae)(L:Array (Option Aa))(c:¬(!xs.isEmpty && Cc (xs.size+ys.size))=b!)(h1:xs.size<=AL)(h2:xs.size+ys.size<=AL+1):
  LJ (Cm.«list.extend» ⟨[.ref l,.ref b],[]⟩) (λ_ R s=>s.heap.get? l=a! (uV "list" a? xs k #[])/\s.heap.get? b=a! (uV "tuple" o ys m L)/\R (.ok (.ret .none)) {s with heap:=s.heap.update l (Cw (·++ys)),toks:=s.toks}):=by
 refine .of_wp λprog w A R s h=>?_
 obtain⟨e,a,fin⟩:=h;have room:(xs++ys).size<=AL+1:=by
  rw[G0];exact h2
 wp_walk using (Fz e rfl (_hz':=room)),wpAny_loadPart' e,wpAny_loadPart' a
 exact⟨_,rfl,fin⟩
theorem yy (l b:Ae)(xs ys:Array Aa)(k m:Nat)(O o:Option Ae)(L M:Array (Option Aa))(f:xs.size+ys.size<=AL):
  LJ (Cm.«list.__add__» ⟨[.ref l,.ref b],[]⟩) (λ_ R s=>s.heap.get? l=a! (uV "list" O xs k L)/\s.heap.get? b=a! (uV "list" o ys m M)/\R (.ok (.ret (.ref s.heap.objs.size))) {s with heap:=s.heap.push {cls:=.type "list",data:=.seq (xs++ys)},toks:=s.toks}):=by
 refine .of_wp λprog w A R s h=>?_
 obtain⟨a,e,fin⟩:=h;have c:=sub_list_list
 wp_walk using wpAny_loadPart' a,wpAny_loadPart' e
 exact⟨_,rfl,fin⟩
end PySem
namespace L2
open PySem PySem.Spec PyProof.Rows
section
variable {X:Cx}{K:Aq}
def x_ (K:Aq):V->List V->Hp->VK->Prop:=λx vs H Q=>∃l b xs z,x = .ref l/\vs=[.ref b]/\H l=a! (.lst xs)/\(eQ K H b z∨lA K H b z)/\xs.length+z.length<=AL/\Q .cA (cQ H l (.lst (xs++z)))
theorem sd:ϑ X "list.extend" (x_ X.K):=by
 intro pins s Y H x vs v us Q I C G h;obtain⟨l,b,xs,f,rfl,rfl,w,B,M,q⟩:=h;cases C;obtain⟨u,rfl,U⟩:=G.one;cases U;obtain⟨z,t,n,r,hl,e⟩:=I.Qi w;have room:∀ys:List Aa,ys.length=f.length->t.toArray.size+ys.toArray.size<=AL:=λys a=>by rw[Am,Am];lia
 have fits:∀ys:List Aa,ys.length=f.length->¬ (!t.toArray.isEmpty && Cc (t.toArray.size+ys.toArray.size))=true:=λys a=>by
  rw[yq (room ys a),Bool.and_false];exact Az
 have fin:∀ys:List Aa,bQ f ys->EP X pins Y Q .none {s with heap:=s.heap.update l (Cw (·++ys.toArray)),toks:=s.toks}:=λys c=>
  ⟨.cA,_,I.Ua (its':=t++ys) w e (by simp) (r.append c) (by rw[AE];omega),rfl,q⟩
 rcases B with B |B
 .obtain ⟨ys,c,⟨o,m,p,k,L,j⟩,_⟩:=I.list B;obtain⟨J,g,A,O⟩:=o;subst k j;have a:=c.length;exact DW F.slot_list_extend ⟨_,e,rfl⟩ F.entry_list_extend (F.args_list_extend_2 _ _) (sv l b t.toArray ys.toArray n m g O (fits ys a.symm) (by rw[Am];lia) (by have:=room ys a.symm;lia)) ⟨e,p,fin ys c⟩
 .obtain ⟨ys,c,⟨o,p,k,m,j⟩,_⟩:=I.tuple B;obtain⟨J,g,A,O⟩:=o;subst k j;have a:=c.length;exact DW F.slot_list_extend ⟨_,e,rfl⟩ F.entry_list_extend (F.args_list_extend_2 _ _) (pP l b t.toArray ys.toArray n m g O (fits ys a.symm) (by rw[Am];lia) (by have:=room ys a.symm;lia)) ⟨e,p,fin ys c⟩
def Yi (K:Aq):R2:=λx y H Q=>∃l b xs z,x = .ref l/\y = .ref b/\eQ K H l xs/\eQ K H b z/\xs.length+z.length<=AL/\∀p a,H p=a?->a6 H a->a p=a! (.lst (xs++z))->Q (.ref p) a
theorem Wr:lU X (Cv .Add) (Yi X.K):=by
 intro pins s Y H x y v u Q I g f h;obtain⟨l,b,xs,zs,rfl,rfl,M,L,hz,q⟩:=h;cases g;cases f;obtain⟨T,r,⟨o,n,e,C,o2,B⟩,_⟩:=I.list M;obtain⟨t,a,⟨G,J,c,m,p2,k⟩,_⟩:=I.list L;obtain⟨oc,z,w,O⟩:=o;obtain⟨pc,j,A,p⟩:=G;subst C B m k;have l1:=r.length;have l2:=a.length;refine PySem.concat_meets ⟨_,e,rfl⟩ ⟨_,c,rfl⟩ PySem.noFill_list_add PySem.seq_list_add F.slot_list_add F.entry_list_add (F.args_list_add_2 _ _) (yy l b T.toArray t.toArray n J z j O p (by rw[Am,Am];lia)) ⟨e,c,?_⟩;have U:T.toArray++t.toArray=(T++t).toArray:=by simp
 rw[U];exact⟨.ref _,_,I.È (t':=s.toks) (r.append a) (by rw[AE];omega),rfl,q _ _ I.fresh (a6.new I.fresh) aZ⟩
def Xbb (a B:DE):DO:=λδ P=>a δ λx=>B δ λy=>match x,y with
 | .lst xs,.lst ys=>xs.length+ys.length<=1000000/\P (.nl ((xs++ys).map .fz))
 |_,_=>False
noncomputable def Itw (K:Aq)(a:Ae)(n:Nat):It:=
 ⟨λi H=>∃xs x,eQ K H a xs/\xs.length=n/\i<n/\xs[n-1-i]?=a! x,λi H x c=>c=H/\∀xs,eQ K H a xs->xs[n-1-i]?=a! x,λi _=>n<=i⟩
theorem OO (a it:Ae)(n:Nat): uk P w K tg (Itw K a n) [it] it (λi h=>i<=n/\h.IsRevIter it a ((n:Int)-1-(i:Nat))) where
 mem:=by simp
 obj:=λi h st b hb=>by
  have e:b=it:=by simpa using hb
  subst e;obtain⟨_,o,ho,_,hd⟩:=st;exact⟨o,ho,λv z=>by rw[hd]at z;cases z⟩
 keep:=λi h h' st k=>⟨st.1,st.2.at λo e=>k it (by simp) o e⟩
 item:=by
  kj_on
  obtain⟨xs,x,hq,hn,hi,hx⟩:=hg;obtain⟨WY,rv,p,hz⟩:=I.list hq;obtain⟨u,hu,ru⟩:=rv.get hx;obtain⟨f0,f1,f2,f3,f4,f5⟩:=hf it (by simp);have vx:s.heap.IsRevIter it a (((n-1-i:Nat)):Int):=by
   have e:(((n-1-i:Nat)):Int)=(n:Int)-1-(i:Nat):=by lia
   rw[e];exact st.2
  refine PySem.wpAny_pyNext_rev_item vx p.isList (by simpa using hu) λh' vy sb=>?_
  have I1:bC X pins Y H {s with heap:=h',toks:=s.toks}:=I.turned (t':=s.toks) (λb o hb e=>(sb.2 b hb).trans e) f0 f1 f3 f4 f5;have Nj:h'.IsRevIter it a ((n:Int)-1-((i+1:Nat):Int)):=by
   have e:(n:Int)-1-((i+1:Nat):Int)=(((n-1-i:Nat)):Int)-1:=by lia
   rw[e];exact vy
  obtain⟨o,ho,Ra,Q_⟩:=id Nj;exact⟨u,rfl,pw (s:={s with heap:=h',toks:=s.toks}) (n := "list_reverseiterator") ho Ra Q_ rfl ⟨x,H,I1,ru,⟨rfl,λys hy=>by rw[I.yA hy hq];exact hx⟩,⟨by lia,Nj⟩,λb hb=>(hf b hb).1⟩⟩
 done:=by
  intro X hP hw hK hc i pins s Y H E I hf st hg;obtain⟨f0,f1,f2,f3,f4,f5⟩:=hf it (by simp);have vx:s.heap.IsRevIter it a (-1):=by
   have h2:n<=i:=hg;have e:(-1:Int)=(n:Int)-1-(i:Nat):=by lia
   rw[e];exact st.2
  exact PySem.wpAny_pyNext_rev_end (I.ok.hd hc) vx λh' eb=>⟨rfl,I.turned (t':=s.toks) (λb o hb e=>eb b o hb e) f0 f1 f3 f4 f5⟩
 self:=λ_ _ _ _ _ st h=>PySem.wpAny_pyIter_revIter st.2 h
def Yv (K:Aq)(t:TA):TI:=λY H R=>t Y H λvs c=>∃a xs,vs=[.ref a]/\eQ K c a xs/\R (Itw K a xs.length) c
theorem we (hg:Gl X "reversed")(M:X.mg "reversed"=a?)(A:PA X [l] T)(k:Ap [l] X.env=[(b?,eval l X.env)]:=by rfl): PI X G (.Call (.Name "reversed" p) [l] [] pos) (Yv X.K T):=by
 intro pins s Y H R I h;refine Hr (fY I hg M DD (Ba (cJ (A pos pins s Y H _ I h) λus c z=>?_) k rfl));obtain⟨vs,n,f,j,Q⟩:=z;obtain⟨a,xs,e,m,q⟩:=Q;subst e;obtain⟨u,rfl,U⟩:=j4 j;cases U;obtain⟨t,r,pt,v⟩:=f.list m;have hl:=r.length;refine PySem.call_reversed_list pt.isList ?_;have g:(c.heap.push (LW a ((t.toArray.size:Int)-1))).IsRevIter c.heap.objs.size a ((xs.length:Int)-1-((0:Nat):Int)):=by
  have e:(xs.length:Int)-1-((0:Nat):Int)=(t.toArray.size:Int)-1:=by rw[Am];lia
  rw[e];exact⟨_,Av _ rfl,rfl,rfl⟩
 refine PySem.wpAny_pyIter_revIter g ?_;refine⟨c.heap.objs.size,[c.heap.objs.size],_,_,n,rfl,f.kept (t':=c.toks) λb o e=>Ah _ e,OO a _ xs.length,⟨By _,g⟩,λb B=>?_,q⟩;have e:b=c.heap.objs.size:=by simpa using B
 subst e;exact f.pS (Ag _) (f.cL.fresh (Ag _))
def YL (A:DA):DA:=λδ P=>A δ λds=>match ds with
 | [.lst xs]=>P xs.reverse
 |_=>False
theorem V7 (h:dJ K a A): mq K (Yv K a) (YL A):=λm j F H Y δ P R e w q=>h m j F H Y δ _ _ e w λds vs n k p x r=>by
 split at p
 .obtain ⟨v,rfl,a,us,rfl,h1,h2⟩:=h8 r;have hl:=h2.length;refine⟨a,us,rfl,x.fh.seq h1,q _ _ n k p x λl t f c=>?_⟩;have Q:=(f.trans c).seq h1;rw[B4];refine⟨λi hi=>⟨us,us[us.length-1-i]'(by omega),Q,rfl,by lia,Ad (by omega)⟩,by show us.length<=_;lia,λi x o hi y=>?_⟩;obtain⟨rfl,y⟩:=y;obtain⟨d,hd,g⟩:=h2.get' (y us Q);refine⟨d,l,?_,cy.refl c,g.mono f⟩;rw[Ce hi,hl];exact hd
 .exact p.elim
theorem ER.el {A:Nat->List Ae}(e:ER K L G F H Y δ A)(i:Nat)(hi:δ[i]?=a! (a! (.own t))): ∃M,cv K L G M H Y (δ.set i (a! (.own (.fz t.val)))):=by
 obtain⟨v,r,w⟩:=e.own i t hi;have l:=(Ab.mp hi).1;have m:a6 F λa=>if a∈A i then H a else F a:=λb o z=>by
  have B:b∉A i:=λy=>by rw[(e.new i b y).1]at z;cases z
  dsimp only;rw[c? B];exact z
 refine⟨λa=>if a∈A i then H a else F a,λj=>if j=i then [] else A j,by simp[e.len],⟨e.ext.ff.trans m,e.ext.hh,λb o z=>?_,λb o n f g=>?_⟩,λj u h=>?_,λj d h=>?_,λj=>?_,λj k a J h1 h2=>?_,λj a c=>?_⟩
 .split at z
  .exact z
  .exact e.ext.fh _ _ z
 .have B:b∉A i:=λy=>by rw[(e.new i b y).2.1]at f;cases f
  rw[c? B];exact e.ext.no b o n f g
 .by_cases z:j=i
  .subst z;rw[c! rfl];rw[Aw l]at h;cases h;exact⟨v,r,rfl,w.rep m λa c xs q=>by rw[c! c];exact q⟩
  .rw [c? z];rw[AH (Bb z)]at h;obtain⟨p,h1,h2⟩:=e.own j u h;exact⟨p,h1,h2.frame m λa _ xs q=>q⟩
 .by_cases z:j=i
  .subst z;rw[Aw l]at h;cases h
  .rw [AH (Bb z)]at h;exact e.bw j d h
 .split
  .exact CB
  .exact e.jN j
 .split at h1
  .cases h1
  .split at h2
   .cases h2
   .exact e.kU j k a J h1 h2
 .split at c
  .cases c
  .rename_i z;obtain⟨h1,h2,C⟩:=e.new j a c;refine⟨?_,h2,C⟩;rw[c? λy=>e.kU j i a z c y];exact h1
def Zy (i:Nat)(T:DS):DS:=λe δ=>match δ[i]? with
 |some (a! (.own t))=>T e (δ.set i (a! (.own (.fz t.val))))
 |_=>False
theorem Sa (i:Nat)(h:bU K t T): bU K t (Zy i T):=λc a F H Y δ g n ⟨A,e⟩ l w=>by
 unfold Zy at w;split at w
 .rename_i u U;obtain⟨f,e'⟩:=e.el i U;exact h c a f H Y _ g n e' l w
 .exact w.elim
def SK (i:Nat)(a:DE)(E:DO):DS:=λe δ=>match δ[i]? with
 |some (a! (.own (.nl ts)))=>a δ λk=>match k with
  | .int k=>0<=k/\∃us,ts[k.toNat]?=a! (.nl us)/\us.length<1000000/\E δ λr=>e.nx (δ.set i (a! (.own (.nl (ts.set k.toNat (.nl (us++[r])))))))
  |_=>False
 |_=>False
theorem fM {a:Type}{xs:List a}{i:Nat}{v:a}(h:xs[i]?=a! v):xs.set i v=xs:=by
 obtain⟨hi,e⟩:=Ab.mp h;rw[<- e];exact List.set_getElem_self hi
theorem VZ {i:Nat}{ti te:TE}{Ei:DE}{Eo:DO}(hi:dH K ti Ei)(h:eR K te Eo):bU K (jD (VD K "list" mV (Nd (S1 K) (dy i) ti) (c9 te gw))) (SK i Ei Eo):=λF0 H0 F H Y δ De En e l w=>by
 obtain⟨A,e⟩:=e;unfold SK at w;split at w
 .rename_i ts hs;obtain⟨v,hv,a,vs,B,rfl,eA,ha,hB⟩:=e.own i _ hs;refine⟨_,hv,?_⟩;refine hi F0 H0 F H Y δ _ _ ⟨A,e⟩ w λk kv F1 H1 p x1 r1=>?_
  split at p
  .rename_i k;obtain⟨k0,us,hk,hus,p⟩:=p;have e1:=e.on x1;have Ę:=x1.hh _ _ ha;have hB1:bu K F1 H1 ts vs B:=hB.frame x1.ff λb _ xs z=>x1.hh _ _ z
   obtain⟨v0,A1,B0,A2,f1,rfl,f3,f4⟩:=hB1.focus hk;obtain⟨c,ws,B1,rfl,rfl,hc,Q⟩:=f3;have at1:jB vs k=a! (.ref c):=by
    have:=dw f1
    rwa[show ((k.toNat:Nat):Int)=k by lia]at this
   refine⟨a,vs,k,.ref c,rfl,r1,eQ.of Ę,at1,.inl ⟨rfl,_,eQ.of hc⟩,?_⟩;refine h F0 H0 F1 H1 Y δ _ _ ⟨A,e1⟩ p λr u F2 H2 p2 t n=>?_
   obtain⟨C,c1,c2,c3⟩:=n;have e2:=e1.on t;have hl:=Q.length;refine⟨c,ws,u,rfl,rfl,t.hh _ _ hc,qD (by lia),?_⟩;have G:=e.jN i;rw[eA]at G;have hA:A i=a::(A1++(c::B1++A2)):=eA;obtain⟨L,n2⟩:=AG.mp G;obtain⟨m1,m2,M⟩:=A7.mp n2;obtain⟨q1,q2,q3⟩:=A7.mp m2;obtain⟨s1,s2⟩:=AG.mp q1;have J:∀j b,b∈C->b∉A j:=λj b f z=>by
    obtain⟨_,_,xs,q,_⟩:=e1.new j b z;rw[(c3 b f).1]at q;cases q
   have U:c∈A i:=by rw[hA];simp
   have hac:a≠c:=λz=>L (by rw[z];simp)
   have T:c∉C:=λz=>J i c z U
   have off:∀b∈A1++A2,b≠c:=λb f z=>by
    subst z;rcases AB.mp f with y |y
    .exact M b y b (by simp) rfl
    .exact q3 b (by simp) b y rfl
   have O:∀b,b∈a::(A1++(c::(B1++C)++A2))->b∈A i∨b∈C:=λb f=>by
    rw[hA];simp only[AJ,AB,CY]at f ⊢;rcases f with z |z |z | (z |z) |z<;>simp[z]
   have ϵ:=f4 F2 (cQ H2 c (.lst (ws++[u]))) (.nl (us++[r])) (.ref c) (c::(B1++C)) t.ff (λb f xs z=>a9 (off b f) (t.hh _ _ z))
    ⟨c,ws++[u],B1++C,rfl,rfl,aZ,bu.append (Q.frame t.ff λb f xs z=>a9 (λy=>s1 (by rw[<- y];exact f)) (t.hh _ _ z)) (bu.one (c1.frame (a6.refl _) λb f xs z=>a9 (λy=>T (by rw[<- y];exact f)) z))⟩
   rw[fM f1]at ϵ;refine l.nx F2 _ Y _ (e2.change i hv (t':=.nl (ts.set k.toNat (.nl (us++[r])))) (B:=a::(A1++(c::(B1++C)++A2))) ⟨a,vs,_,rfl,rfl,a9 hac (t.hh _ _ Ę),ϵ⟩ ?_ ?_ ?_ ?_) p2
   .have dC:∀x∈C,∀y∈A i,x≠y:=λx m y g z=>J i x m (by rw[z];exact g)
    rw[hA]at dC;simp only[CY,AG,A7,AJ,AB,not_or]at G L n2 m1 m2 M q1 q2 q3 s1 s2 ⊢;refine⟨⟨L.1,L.2.1,⟨L.2.2.1,λz=>dC a z a (by simp) rfl⟩,L.2.2.2⟩,m1,⟨⟨⟨s1,T⟩,λz=>?_⟩,⟨s2,c2,λx m y g z=>dC y g x (by simp[m]) z.symm⟩,q2,λx m y g z=>?_⟩,λx m y g z=>?_⟩
    .exact q3 c (by simp) c z rfl
    .rcases m with m |m
     .exact q3 x (by simp[m]) y g z
     .exact dC x m y (by simp[g]) z
    .rcases g with g | (g |g) |g
     .exact M x m y (by simp[g]) z
     .exact M x m y (by simp[g]) z
     .exact dC y g x (by simp[m]) z.symm
     .exact M x m y (by simp[g]) z
   .intro b f;rcases O b f with z |z
    .exact ⟨(e2.new i b z).1,(e2.new i b z).2.1⟩
    .exact ⟨(c3 b z).2,e1.ext.hh.free (c3 b z).1⟩
   .intro j hj b f z;rcases O b f with y |y
    .exact e.kU j i b hj z y
    .exact J j b y z
   .intro b o f q;exact a9 (λz=>f (by rw[z];exact U)) q
  .exact p.elim
 .exact w.elim
def ZC (i:Nat)(E:DE):DS:=λe δ=>match δ[i]? with
 |some (a! (.own (.nl ts)))=>E δ λd=>match d with
  | .lst ds=>ts.length+ds.length<=1000000/\e.nx (δ.set i (a! (.own (.nl (ts++ds.map .fz)))))
  | .tup ds=>ts.length+ds.length<=1000000/\e.nx (δ.set i (a! (.own (.nl (ts++ds.map .fz)))))
  |_=>False
 |_=>False
theorem Sd (h:cO K T E): bU K (jD (VD K "list" (x_ K) (dy i) (c9 T gw))) (ZC i E):=λF0 H0 F H Y δ De En e l w=>by
 obtain⟨A,e⟩:=e;unfold ZC at w;split at w
 .rename_i ts hs;obtain⟨v,L,a,vs,B,rfl,k,r,M⟩:=e.own i _ hs;refine⟨_,L,.inl ⟨rfl,_,eQ.of r⟩,?_⟩;refine h F0 H0 F H Y δ _ _ ⟨A,e⟩ w λd u G O p g J=>?_
  have C:=e.on g;have hl:=M.length;have t:bu K G O ts vs B:=M.frame g.ff λb _ xs z=>g.hh _ _ z
  have n:=e.jN i;rw[k]at n;obtain⟨U,n2⟩:=AG.mp n;have fin:∀(ds:List D) (us:List V),bF K G ds us->De.nx (δ.set i (a! (.own (.nl (ts++ds.map .fz)))))->En.nx Y (cQ O a (.lst (vs++us))):=λds us hu p=>by
   refine l.nx G _ Y _ (C.change i L (t':=.nl (ts++ds.map .fz)) (B:=a::(B++[])) ⟨a,vs++us,B++[],rfl,rfl,aZ,?_⟩ ?_ ?_ ?_ ?_) p
   .exact bu.append (t.frame (a6.refl _) λb f xs z=>a9 (λq=>U (by rw[<- q];exact f)) z) (bu.ϳ hu)
   .rw [A_];exact n
   .intro b f;rw[A_,<- k]at f;exact⟨(C.new i b f).1,(C.new i b f).2.1⟩
   .intro j hj b f z;rw[A_,<- k]at f;exact e.kU j i b hj z f
   .intro b o f q;exact a9 (λz=>f (by rw[k,z];exact Ay)) q
  split at p
  .obtain ⟨c,us,rfl,m,Q⟩:=J;have:=Q.length;exact⟨a,c,vs,us,rfl,rfl,g.hh _ _ r,.inl (g.fh.seq m),eS (by lia),fin _ us Q p.2⟩
  .obtain ⟨c,us,rfl,m,Q⟩:=J;have:=Q.length;exact⟨a,c,vs,us,rfl,rfl,g.hh _ _ r,.inr (g.fh.mL m),eS (by lia),fin _ us Q p.2⟩
  .exact p.elim
 .exact w.elim
end
mutual
noncomputable def D.eqb:D->D->Bool
 | .int i,.int j=>decide (i=j)
 | .str x,.str y=>decide (x=y)
 | .cA,.cA=>b!
 | .bl a,.bl b=>a==b
 | .bl a,.int j=>decide ((if a then 1 else 0)=j)
 | .int i,.bl b=>decide (i=if b then 1 else 0)
 | .tup xs,.tup ys=>D.æ xs ys
 | .lst xs,.lst ys=>D.æ xs ys
 |_,_=>b?
noncomputable def D.æ:List D->List D->Bool
 | [],[]=>b!
 |x::xs,y::ys=>D.eqb x y && D.æ xs ys
 |_,_=>b?
end
def ÿ:List D->(D->Prop)->Prop:=λds P=>match ds with
 | [.lst xs]=>∃bs:List Bool,xs=bs.map D.bl/\P (.bl (bs.all id))
 |_=>False
def T8:List D->(D->Prop)->Prop:=λds P=>match ds with
 | [.lst xs]=>∃ns:List Int,xs=ns.map D.int/\0<ns.length/\∀M:Int,M∈ns->(∀a∈ns,a<=M)->P (.int M)
 |_=>False
def UM (E:DE):DT:=λδ P=>E δ λd=>match d with
 | .bl b=>P b
 | .int i=>P (decide (i≠0))
 | .lst xs=>P (!xs.isEmpty)
 | .tup xs=>P (!xs.isEmpty)
 | .cA=>P b?
 |_=>False
def X4 (i:Nat)(a M E:DE):DS:=λe δ=>E δ λd=>match δ[i]? with
 |some (a! (.own (.nl ts)))=>a δ λk=>match k with
  | .int k=>∃j us,pq ts.length k=a! j/\ts[j]?=a! (.nl us)/\M δ λm=>match m with
   | .int m=>∃l,pq us.length m=a! l/\e.nx (δ.set i (a! (.own (.nl (ts.set j (.nl (us.set l (.fz d))))))))
   |_=>False
  |_=>False
 |_=>False
noncomputable def mD {a:Type}(xs:List a)(c:Int):List a:=(CU 0 xs.length c).filterMap (xs[·]?)
def YG (a C:DE):DO:=λδ P=>a δ λx=>C δ λc=>match x,c with
 | .lst xs,.int c=>0<c/\P (.nl ((mD xs c).map .fz))
 |_,_=>False
section
variable {K:Aq}{X:Cx}
end
structure b_ (mg:Al->Option Aa):Prop extends Blt mg where
 abs:mg "abs"=a?
 any:mg "any"=a?
 sum:mg "sum"=a?
 sorted:mg "sorted"=a?
 set:mg "set"=a?
 enumerate:mg "enumerate"=a?
 dict:mg "dict"=a?
 str:mg "str"=a?
 divmod:mg "divmod"=a?
 ord:mg "ord"=a?
abbrev DTb:=List (Al×dN)
def MG (i n:Nat)(tb:DTb)(A:DA):DO:=λδ P=>match δ[i]? with
 |some (a! (.own (.fz (.fn x))))=>∃sp,(x,sp)∈tb/\A δ λds=>ds.length=n/\sp ds P
 |_=>False
def w_ (i n:Nat)(tb:DTb)(A:DA):DO:=λδ P=>match δ[i]? with
 |some (a! (.own (.fz (.fn x))))=>∃sp,(x,sp)∈tb/\A δ λds=>ds.length=n/\sp ds λr=>r.lf=b!/\P r
 |_=>False
abbrev ϖ:=List OV->List D->(List OV->Prop)->Prop
def vY (i n:Nat)(sp:ϖ)(A:DA):DS:=λe δ=>match δ[i]? with
 |some (a! (.own (.nl ts)))=>A δ λds=>ds.length+1=n/\sp ts ds λt=>e.nx (δ.set i (a! (.own (.nl t))))
 |_=>False
noncomputable def jb (N:List Al)(a:Ae)(ts:List OV)(ds:List D):de:=a! (.own (.rt a ts))::(ds.map (λd=>a! (.own (.fz d)))++Ar (N.length-(ds.length+1)) a?)
def Zm (i:Nat)(T:DS):DS:=λe δ=>match δ[i]? with
 |some (a! (.own (.rt a ts)))=>T {e with nx:=λc=>match c[i]? with
   |some (a! (.own (.nl t)))=>e.nx (c.set i (a! (.own (.rt a t))))
   |_=>False} (δ.set i (a! (.own (.nl ts))))
 |_=>False
def gB (i:Nat):D->de->(de->Prop)->Prop:=λd δ P=>P (δ.set i (a! (.bw d)))
def UQ (l:DE)(ix:List (Option Nat))(o:DO):DO:=λδ P=>l δ λd=>match d with
 | .lst ds=>f9 (gB 0) o ds (MS ix δ) P
 |_=>False
section
variable {K:Aq}{X:Cx}{mg:Al->Option Aa}
def jX (K:Aq)(mg:Al->Option Aa)(x:Al):Prop:=∃f,B5 K Aj x=a! (a! (.ref f))/\mg x=a! (.ref f)
def tFn (K:Aq)(x:Al):TE:=λY H Q=>∃f,B5 K Aj x=a! (a! (.ref f))/\Q (.ref f) H
theorem yf (hg:Gl X x)(h:jX X.K X.mg x)(hd:(x==("__debug__":Al))=false:=by decide): PE X (.Name x pos) (tFn X.K x):=by
 rintro pins s Y H Q I ⟨f,e,q⟩;obtain⟨g,a,c⟩:=h;rw[e]at a;cases a;exact mX (v:=.ref f) hg c rfl hd pins s Y H Q I q
theorem xT (h:jX K mg x): cO K (tFn K x) (dC (.fn x)):=λg c F H Y δ P Q e w q=>by
 obtain⟨f,a,_⟩:=h;exact⟨f,a,q _ _ F H w (cy.refl e.ext.fh) ⟨f,rfl,a⟩⟩
def zF (mg:Al->Option Aa)(i:Nat)(tb:List (Al×Sp))(t:TA):TE:=λY H Q=>∃x sp f,(x,sp)∈tb/\mg x=a! (.ref f)/\Y[i]?=a! (a! (.ref f))/\t Y H λvs a=>sp vs a Q E0
theorem NW (hn:PE X (.Name y p) (dy i))(C:∀x sp,(x,sp)∈tb->∃ps,cc X.prog X.w X.K X.mg X.base x k ps sp)(J:cB k X.A)(U:PA X (e::a) t)
  (O:Ap (e::a) X.env=(b?,eval e X.env)::Ap a X.env:=by rfl) (l:(BR pos (Ap a X.env)).any (·.1)=false:=by rfl):
  PE X (.Call (.Name y p) (e::a) [] pos) (zF X.mg i tb t):=by
 rintro pins s Y H Q I ⟨x,sp,f,M,g,G,h⟩;obtain⟨ps,⟨f',fd,F,m,L,T⟩⟩:=C x sp M;rw[g]at m;cases m;refine Bx (cJ (hn pins s Y H (λv c=>v = .ref f/\c=H) I ⟨_,G,rfl,rfl⟩) λu o z=>?_);obtain⟨v,c,n,B,e1,e2⟩:=z;subst e1 e2;cases B;refine DX n.ok.mod.WW L (cJ (U pos pins o Y c _ n h) λus s2 z=>?_) O l;obtain⟨vs,H2,j,r,q⟩:=z;refine⟨j.i_,?_⟩;exact vZ F J T .nil yg j r (by rw[A_];exact q)
theorem cc.mono (C:cc P w K mg base x j ps sp)(h:j<=k): cc P w K mg base x k ps sp:=by
 obtain⟨f,fd,F,a,b,c⟩:=C.ex;exact⟨f,fd,F.mono h,a,b,c⟩
noncomputable def tbV (K:Aq)(n:Nat)(tb:DTb):List (Al×Sp):=tb.map λp=>(p.1,cg K n p.2)
theorem Na (h:∀p∈tb,∃ps,cc P w K mg base p.1 k ps (cg K n p.2)): ∀x sp,(x,sp)∈tbV K n tb->∃ps,cc P w K mg base x k ps sp:=λx sp m=>by
 obtain⟨p,a,e⟩:=Be.mp m;cases e;exact h p a
theorem Sm (hN:∀p∈tb,jX K mg p.1)(z:dJ K a M): eR K (zF mg i (tbV K n tb) a) (MG i n tb M):=λJ B F H Y δ P Q e w q=>by
 unfold MG at w;split at w
 .rename_i x t;obtain⟨A,e⟩:=e;obtain⟨v,u,_,f,rfl,hf⟩:=e.own i _ t;obtain⟨sp,m,w⟩:=w;obtain⟨O,j,o⟩:=hN _ m;rw[hf]at j;cases j;refine⟨x,cg K n sp,f,Be.mpr ⟨_,m,rfl⟩,o,u,?_⟩;refine z J B F H Y δ _ _ ⟨A,e⟩ w λds vs G T g c h=>?_
  exact⟨by rw[<- h.length];exact g.1,G,ds,P,c.fh,h,g.2,λr v L C p k l=>q r v L C p (c.trans k) (l.old c.hh)⟩
 .exact w.elim
theorem PL (hN:∀p∈tb,jX K mg p.1)(ha:kY K a As): eR K (zF mg i (tbV K n tb) a) (w_ i n tb As):=λF0 H0 F H Y δ P Q e w q=>by
 unfold w_ at w;split at w
 .rename_i x T;obtain⟨A,e⟩:=e;obtain⟨v,U,_,f,rfl,hf⟩:=e.own i _ T;obtain⟨sp,M,w⟩:=w;obtain⟨f',m,O⟩:=hN _ M;rw[hf]at m;cases m;refine⟨x,cg K n sp,f,Be.mpr ⟨_,M,rfl⟩,O,U,?_⟩;refine ha F0 H0 F H Y δ _ _ ⟨A,e⟩ w λds vs u H1 j h l=>?_
  refine⟨by rw[<- l.length];exact j.1,H1,ds,_,a6.refl _,l,j.2,λr v z H' p g L=>?_⟩;have k:a6 u z:=h.fh.trans g.ff;have c:=fP k;obtain⟨A,a1,a2,t⟩:=L;refine q r v (mm u z) H' p.2 (h.trans ⟨c.ff,g.hh,c.fh.trans g.fh,λb o J G C=>?_⟩) ⟨A,a1.lf k p.1,a2,λb B=>⟨h.hh.free (t b B).1,c.fh.free (t b B).2⟩⟩;exact c.no b o J (g.ff _ _ G) C
 .exact w.elim
def vz (K:Aq)(n:Nat)(sp:ϖ):Sp:=VI n λvs H Q=>∃F a ts v B da ds P,vs=V.ref a::da/\a6 F H/\H a=a! (.lst v)/\bu K F H ts v B/\(a::B).Nodup/\(∀b∈a::B,F b=a?)/\bF K F ds da/\sp ts ds P/\
 ∀t f e c g,P t->a6 F f->a6 f e->(∀b o,b∉a::B->H b=a! o->e b=a! o)->(∀b o,F b=a?->H b=a! o->Yq o=b?->b∉a::B->f b=a?)->e a=a! (.lst c)->bu K f e t c g->(a::g).Nodup->
  (∀b∈a::g,f b=a?/\(b∈a::B∨H b=a?))->Q .cA e
theorem ll (ha:dJ K a As): bU K (jD (lJ (vz K n sp) [] E0 (c9 (dy i) a))) (vY i n sp As):=λF0 H0 F H Y δ De En e l w=>by
 obtain⟨A,e⟩:=e;unfold vY at w;split at w
 .rename_i ts hs;obtain⟨v,hv,p,vs,B,rfl,g,hp,hB⟩:=e.own i _ hs;refine⟨_,hv,?_⟩;refine ha F0 H0 F H Y δ _ _ ⟨A,e⟩ w λds us F1 H1 w1 G r1=>?_
  show vz K n sp ((V.ref p::us)++[]) H1 (λ_ H2=>En.nx Y H2) E0
  rw[A_];have c:=e.on G;have Q:=e.jN i;rw[g]at Q;have T:i<δ.length:=(Ab.mp hs).1;refine⟨by rw[AQ,<- r1.length];exact w1.1,F1,p,ts,vs,B,us,ds,_,rfl,G.fh,G.hh _ _ hp,hB.frame G.ff λb _ xs z=>G.hh _ _ z,Q,λb f=>(c.new i b (by rw[g];exact f)).1,r1,w1.2,?_⟩;intro ts' F' H' ĥ B' pt sF sH keep O L U nd' r;refine l.nx F' H' Y _ ⟨λj=>if j=i then p::B' else A j,?_⟩ pt;refine⟨by simp[e.len],⟨c.ext.ff.trans sF,λb o h=>?_,sH,λb o h1 h2 h3=>?_⟩,λj t J=>?_,λj d J=>?_,λj=>?_,λj k b ϱ h1 h2=>?_,λj b f=>?_⟩
  .exact keep b o (λz=>by rw[(c.new i b (by rw[g];exact z)).2.1]at h;cases h) (c.ext.hh _ _ h)
  .exact O b o (c.ext.no b o h1 h2 h3) (c.ext.hh _ _ h2) h3 (λz=>by rw[(c.new i b (by rw[g];exact z)).2.1]at h2;cases h2)
  .by_cases z:j=i
   .subst z;rw[c! rfl];rw[Aw T]at J;cases J;exact⟨_,hv,p,ĥ,B',rfl,rfl,L,U⟩
   .rw [c? z];rw[AH (Bb z)]at J;obtain⟨u,h1,h2⟩:=c.own j t J;exact⟨u,h1,h2.frame sF λb f xs q=>keep b _ (λy=>e.kU j i b z f (by rw[g];exact y)) q⟩
  .by_cases z:j=i
   .subst z;rw[Aw T]at J;cases J
   .rw [AH (Bb z)]at J;exact c.bw j d J
  .split
   .exact nd'
   .exact e.jN j
  .have key:∀k,k≠i->b∈p::B'->b∈A k->False:=λk hk z1 C=>by
    rcases (r b z1).2 with y |y
    .exact e.kU k i b hk C (by rw[g];exact y)
    .obtain ⟨_,_,xs,q,_⟩:=c.new k b C;rw[y]at q;cases q
   split at h1
   .split at h2
    .lia
    .rename_i z1 C;exact key k C h1 h2
   .split at h2
    .rename_i z1 C;exact key j z1 h2 h1
    .exact e.kU j k b ϱ h1 h2
  .split at f
   .have hh:H0 b=none:=by
     rcases (r b f).2 with y |y
     .exact (c.new i b (by rw[g];exact y)).2.1
     .exact c.ext.hh.free y
    refine⟨(r b f).1,hh,?_⟩;rcases AJ.mp f with y |y
    .rw [y];exact⟨_,L,rfl⟩
    .exact U.uY b y
   .rename_i z;obtain⟨h1,h2,xs,h3,m⟩:=c.new j b f;have M:b∉p::B:=λy=>e.kU j i b z f (by rw[g];exact y)
    exact⟨O b _ h1 h3 m M,h2,xs,keep b _ M h3,m⟩
 .exact w.elim
theorem YX.of {P:AA}{w:AR}{base:Heap}{x:Al}{st:A6}{f:Ae}{fd:A8}{N ps:List Al}{k n:Nat}{sp:ϖ}(Df:bN K mg x st f fd)(S:aR N ps (aB st))
  (g:∀(kV U pm:Aa) (an:Option Ae) (C ct:Aa) (us:List Aa),us.length=ps.length->BQ (DC x x (bT st) (br st) (aB st) .none kV U pm an C ct) ⟨us,[]⟩=pure (ps.zip us)) (hn:n=ps.length)
  (O:∀(C:Aa) (A:AN) (outer:List Ed) (s:Af) (H:Hp) (E:XK),cB k (A.deeper (Bt x (aB st) s.heap.objs.size f C))->
   ∃t T,PSs (du jT P w K mg base N x (aB st) f C A outer s H E).lE (br st) t/\bU K t T/\∀(a:Ae) ts ds m,sp ts ds m->T {nx:=λδ=>∃c,δ[0]?=a! (a! (.own (.rt a c)))/\m c,rt:=λ_=>False} (jb N a ts ds)):cc P w K mg base x (k+1) ps (vz K n sp):=
 cc.of Df S g (λvs H Q E h=>by rw[<- hn];exact h.1) λC A outer s H vs Q E hr h=>by
  obtain⟨_,F,a,ts,u,B,da,ds,m,rfl,hs,ha,hB,M,L,r,J,hq⟩:=h;obtain⟨t,T,h1,h2,h3⟩:=O C A outer s H E hr;have hl:=r.length;have er : ER K F (λb=>if b∈a::B then a? else H b) F H (start N (V.ref a::da)) (jb N a ts ds) (λj=>if j=0 then a::B else []):=by
   refine⟨by simp[start,jb,hl],⟨a6.refl _,λb o z=>?_,hs,λ_ _ z _ _=>z⟩,λi t hi=>?_,λi d hi=>?_,λj=>?_,λj k b ϱ y1 y2=>?_,λj b g=>?_⟩
   .split at z
    .cases z
    .exact z
   .unfold jb at hi
    cases i with
    |zero=>
     simp at hi
     subst hi;exact⟨.ref a,rfl,u,B,rfl,rfl,ha,hB⟩
    |succ i=>
     rw[BY]at hi;by_cases z:i<ds.length
     .rw [A9 (by simpa using z),AK,Ad z]at hi;simp at hi
      subst hi;obtain⟨v,g1,g2⟩:=r.get (Ad z);refine⟨v,?_,rfl,g2⟩;unfold start;rw[BU,CY,BY,A9 (by simp;lia),AK,g1];rfl
     .rw [Bi (by simpa using z)]at hi;have:=Ai hi;rw[CO]at this;cases this.2
   .unfold jb at hi
    cases i with
    |zero=>simp at hi
    |succ i=>
     rw[BY]at hi;by_cases z:i<ds.length
     .rw [A9 (by simpa using z),AK]at hi;simp at hi
     .rw [Bi (by simpa using z)]at hi;have:=Ai hi;rw[CO]at this;cases this.2
   .split
    .exact M
    .exact CB
   .split at y1
    .split at y2
     .lia
     .cases y2
    .cases y1
   .split at g
    .refine ⟨L b g,c! g,?_⟩;rcases AJ.mp g with y |y
     .rw [y];exact⟨_,ha,rfl⟩
     .exact hB.uY b y
    .cases g
  refine⟨t,h1,h2 F _ F H (start N (V.ref a::da)) (jb N a ts ds) {nx:=λδ=>∃c,δ[0]?=a! (a! (.own (.rt a c)))/\m c,rt:=λ_=>False} _ ⟨_,er⟩ ⟨λF' H' Y δ e p=>?_,λ_ _ _ _ _ z=>z.elim,λ_ _ _ _ _ z=>z.elim,λ_ _ _ _ _ _ z=>z.elim⟩ (h3 a ts ds m J)⟩;obtain⟨A',e⟩:=e;obtain⟨c,h0,hp⟩:=p;obtain⟨v,hv,G,B',rfl,eA,g1,g2⟩:=e.own 0 _ h0;have l:=e.jN 0;rw[eA]at l;refine hq c F' H' G B' hp e.ext.ff e.ext.fh (λb o y z=>?_) (λb o y1 y2 y3 y4=>?_) g1 g2 l (λb g=>?_)
  .exact e.ext.hh b o (by rw[c? y];exact z)
  .exact e.ext.no b o y1 (by rw[c? y4];exact y2) y3
  .obtain ⟨z1,z2,_⟩:=e.new 0 b (by rw[eA];exact g);refine⟨z1,?_⟩;by_cases q:b∈a::B
   .exact .inl q
   .rw [c? q]at z2;exact .inr z2
def ϓ (t:TS):Prop:=∀E Y H,t {E with nx:=λa c=>a=Y->E.nx a c} Y H->t E Y H
theorem Á {E:QN}{Y:St}:(λa=>Y=Y->E.nx Y a)=E.nx Y:=funext λa=>propext ⟨λz=>z rfl,λz _=>z⟩
theorem N' {e t T:TE}{r:QJ}:ϓ (j6 e (Xb t T r)):=λE Y H h=>by
 have h':e Y H λx f=>t Y f λo c=>T Y c λi a=>r o i x a (λg=>Y=Y->E.nx Y g):=h
 rw[Á]at h';exact h'
theorem cv.Ħ (e:cv K k g F H Y δ)(h:δ[i]?=a! (a! (.own (.rt a ts)))): Y[i]?=a! (a! (.ref a))/\cv K k g F H Y (δ.set i (a! (.own (.nl ts)))):=by
 obtain⟨A,e⟩:=e;obtain⟨v,c,vs,B,rfl,f,h1,h2⟩:=e.own i _ h;have l:i<δ.length:=(Ab.mp h).1;refine⟨c,A,by simp[e.len],e.ext,λj t J=>?_,λj d J=>?_,e.jN,e.kU,e.new⟩
 .by_cases z:j=i
  .subst z;rw[Aw l]at J;cases J;exact⟨_,c,a,vs,B,rfl,f,h1,h2⟩
  .rw [AH (Bb z)]at J;exact e.own j t J
 .by_cases z:j=i
  .subst z;rw[Aw l]at J;cases J
  .rw [AH (Bb z)]at J;exact e.bw j d J
theorem cv.ļ (e:cv K m k F H Y δ)(h:δ[i]?=a! (a! (.own (.nl ts))))(c:Y[i]?=a! (a! (.ref a))): cv K m k F H Y (δ.set i (a! (.own (.rt a ts)))):=by
 obtain⟨A,e⟩:=e;obtain⟨v,f,n,vs,B,rfl,g,h1,h2⟩:=e.own i _ h;rw[c]at f;cases f;have l:i<δ.length:=(Ab.mp h).1;refine⟨A,by simp[e.len],e.ext,λj t J=>?_,λj d J=>?_,e.jN,e.kU,e.new⟩
 .by_cases z:j=i
  .subst z;rw[Aw l]at J;cases J;exact⟨_,c,vs,B,rfl,g,h1,h2⟩
  .rw [AH (Bb z)]at J;exact e.own j t J
 .by_cases z:j=i
  .subst z;rw[Aw l]at J;cases J
  .rw [AH (Bb z)]at J;exact e.bw j d J
theorem R_ (hl:ϓ t)(h:bU K t T): bU K t (Zm i T):=λn m F H Y δ o E e l w=>by
 unfold Zm at w;split at w
 .rename_i a ts r;obtain⟨g,e'⟩:=e.Ħ r;have lk:Lk K n m {o with nx:=λc=>match c[i]? with |some (a! (.own (.nl f)))=>o.nx (c.set i (a! (.own (.rt a f)))) |_=>False} {E with nx:=λk z=>k=Y->E.nx k z}:=by
   refine⟨λA v B q u p Q=>?_,l.bk,l.ct,l.rt⟩;subst Q;dsimp only at p;split at p
   .rename_i f j;exact l.nx A v _ _ (u.ļ j g) p
   .exact p.elim
  exact hl E Y H (h n m F H Y _ _ _ e' lk w)
 .exact w.elim
end
section
variable {K:Aq}{X:Cx}
theorem ER.ł {A:Nat->List Ae}(e:ER K c a F H Y δ A)(i:Nat)(h:dM K a d v): ER K c a F H (Y.set i (a! v)) (δ.set i (a! (.bw d))) A:=by
 refine⟨by simp[e.len],e.ext,λj t J=>?_,λj d' J=>?_,e.jN,e.kU,e.new⟩
 .by_cases z:j=i
  .subst z;have l:j<δ.length:=by
    have:=(Ab.mp J).1
    rwa[Bk]at this
   rw[Aw l]at J;cases J
  .rw [AH (Bb z)]at J ⊢;exact e.own j t J
 .by_cases z:j=i
  .subst z;have l:j<δ.length:=by
    have:=(Ab.mp J).1
    rwa[Bk]at this
   rw[Aw l]at J;cases J;exact⟨v,Aw (by rw[e.len];exact l),h⟩
  .rw [AH (Bb z)]at J ⊢;exact e.bw j d' J
theorem xP (hl:dH K tl El)(he:eR K te Eo): eR K (qC (Ux K tl) ix (gU 0) te) (UQ El ix Eo):=λF0 H0 F H Y δ P Q e w q=>
 hl F0 H0 F H Y δ _ _ e w λd v F1 H1 p l r1=>by
  split at p
  case h_2=>exact p.elim
  rename_i ds;obtain⟨aL,c,rfl,T,O⟩:=r1;have hql:=O.length;refine⟨aL,rfl,⟨c,T⟩,?_⟩;intro L hL;obtain⟨A,e⟩:=e.on l;obtain⟨W,w0,ws,wd⟩:=p;have f1:a6 F1 H1:=l.fh;refine⟨λi m Y ys H=>m=ds.length-i/\i<=ds.length/\∃F δ ts B,ER K F1 H1 F H Y δ (λ_=>[])/\W i δ ts/\F L=a?/\H L=a! (.lst ys)/\bu K F H ts ys B/\(L::B).Nodup/\∀b∈B,H1 b=a?/\F b=a?,
   ⟨ds.length,rfl,By _,F1,_,[],[],e.uj ix (a6.new hL),w0,f1.free hL,aZ,⟨rfl,rfl⟩,by simp,λ_ h=>by cases h⟩,?_⟩
  rintro i m Y2 ys H2 ⟨rfl,hil,F2,k,ts,B,e2,w2,l1,l2,J,nd,nw⟩;have n:=e2.ext.hh.seq T;by_cases U:i<ds.length
  .obtain ⟨d0,W4⟩:∃d,ds[i]?=a! d:=⟨_,Ad U⟩
   have hl:=J.length;refine .inr ⟨qD (by have:=(ws i d0 k ts W4 w2).1;lia),⟨c,c[i]'(by lia),n,Ad (by lia)⟩,λx H3 y=>?_⟩;obtain⟨rfl,y⟩:=y;obtain⟨d,hd,r3⟩:=O.get' (y c n);have x3:=cy.refl e2.ext.fh;have w4:=(ws i d k ts hd w2).2;have ũ:=e2.ł 0 r3;refine he F1 H1 F2 _ _ _ _ _ ⟨_,ũ⟩ w4 λr v F5 H5 p5 x5 n5=>?_
   have a:=x3.trans x5;have l5:=a.hh _ _ l2;have G:=a.no L _ l1 l2 rfl;refine⟨l5,ds.length-(i+1),by lia,rfl,U,F5,k.set 0 (a! (.bw d)),ts++[r],?_⟩;obtain⟨C,c1,c2,c3⟩:=n5;obtain⟨n1,n2⟩:=AG.mp nd;have ş:L∉C:=λz=>by
    have q:=(c3 L z).1;rw[x3.hh _ _ l2]at q;cases q
   have hBC:∀b,b∈B->b∉C:=λb f z=>by
    obtain⟨xs,q,M⟩:=J.uY b f;have:=(c3 b z).1;rw[x3.hh _ _ q]at this;cases this
   have g:=ũ.on x5;refine⟨B++C,⟨g.len,⟨g.ext.ff,λb o h=>?_,λb o h=>?_,g.ext.no⟩,λj t hj=>?_,g.bw,g.jN,g.kU,λ_ _ h=>by cases h⟩,p5,G,aZ,?_,?_,λb f=>?_⟩
   .exact a9 (λz=>by rw[z,hL]at h;cases h) (g.ext.hh _ _ h)
   .exact a9 (λz=>by rw[z,G]at h;cases h) (g.ext.fh _ _ h)
   .obtain ⟨u,h1,h2⟩:=g.own j t hj;exact⟨u,h1,h2.frame (a6.refl _) λ_ z=>by cases z⟩
   .exact bu.append (J.frame a.ff λb f xs z=>a9 (λq=>n1 (by rw[<- q];exact f)) (a.hh _ _ z)) (bu.one (c1.frame (a6.refl _) λb f xs z=>a9 (λq=>ş (by rw[<- q];exact f)) z))
   .refine AG.mpr ⟨λz=>?_,A7.mpr ⟨n2,c2,λx hx y hy z=>by subst z;exact hBC x hx hy⟩⟩;rcases AB.mp z with z |z
    .exact n1 z
    .exact ş z
   .rcases AB.mp f with z |z
    .obtain ⟨xs,qq,M⟩:=J.uY b z;exact⟨(nw b z).1,a.no b _ (nw b z).2 qq M⟩
    .exact ⟨(e2.ext.hh.trans x3.hh).free (c3 b z).1,(c3 b z).2⟩
  .have hi':i=ds.length:=by lia
   subst hi';refine .inl ⟨⟨c,n,by lia⟩,q _ _ F2 H2 (wd _ _ w2) (l.trans e2.ext) ⟨L::B,⟨L,ys,B,rfl,rfl,l2,J⟩,nd,λb f=>?_⟩⟩;rcases AJ.mp f with rfl |z
   .exact ⟨l.hh.free hL,l1⟩
   .exact ⟨l.hh.free (nw b z).1,(nw b z).2⟩
def Yk (K:Aq):List V->Hp->VK->Prop:=λxs H Q=>∃(l:Ae) (bs:List Bool),xs=[.ref l]/\eQ K H l (bs.map V.bl)/\Q (.bl (bs.all id)) H
theorem vi:∀{bs:List Bool} {us:List Aa},bQ (bs.map V.bl) us->∀{i:Nat} {v:Aa},us[i]?=a! v->∃b,bs[i]?=a! b/\v = .bool b
 | [],_,.nil,i,v,e=>by simp at e
 |b::bs,u::us,.cons r t,0,v,e=>by
  simp at e
  subst e;exact⟨b,rfl,r⟩
 |b::bs,u::us,.cons r t,i+1,v,e=>by
  obtain⟨B,h1,h2⟩:=vi t e;exact⟨B,h1,h2⟩
theorem ly (hc:X.calm=b!): gd X (.builtin "all") (Yk X.K):=by
 intro pins s Y H xs us Q I r h;obtain⟨l,bs,rfl,f,q⟩:=h;obtain⟨u,rfl,U⟩:=j4 r;cases U;obtain⟨t,a,pl,z⟩:=I.list f;have hl:=pl.isList;have hn:=a.length;rw[Au]at hn;have L:l<s.heap.objs.size:=by obtain⟨_,e,_⟩:=hl;exact AU e
 refine call_all_walk (JE hl ?_);refine⟨s.heap.objs.size,[s.heap.objs.size,l],[s.heap.objs.size],t.toArray.size,_,_,λi=>(bs[i]?).getD b!,rfl,Walks.list (A:=X.A.in1) (I.ok.hd hc) _ l (Bq L) t.toArray,
  ⟨⟨_,Av _ rfl,rfl,rfl⟩,hl.push _⟩,λi v s' g j hP c=>?_,λh' tk k=>?_⟩
 .obtain ⟨b,e,rfl⟩:=vi a (by simpa using hP);simp only[e]at c;exact BO c
 .have e:((AF t.toArray.size).all λi=>(bs[i]?).getD b!)=bs.all id:=by
   rw[Am,<- hn];exact LSm.range_all bs
  rw[e];exact⟨.bl _,H,I.kept (t':=tk) (LSm.kept_iter k),rfl,q⟩
theorem rm:∀{bs:List Bool} {vs:List V},bF K F (bs.map D.bl) vs->vs=bs.map V.bl
 | [],vs,h=>h
 |b::bs,vs,h=>by
  obtain⟨v,r,rfl,h1,h2⟩:=h;rw[show v=V.bl b from h1,rm h2];rfl
theorem xk:Vk K (Yk K) ÿ:=λF H ds vs P Q s rs w q=>by
 unfold ÿ at w;split at w
 .obtain ⟨bs,rfl,w⟩:=w;obtain⟨v,rfl,p,us,rfl,h1,h2⟩:=h8 rs;have e:=rm h2;subst e;exact⟨p,bs,rfl,h1,q _ _ F H w (cy.refl s) rfl⟩
 .exact w.elim
theorem Õ (h:pq n k=a! j): j<n:=by
 unfold pq at h;split at h
 .split at h
  .cases h;lia
  .cases h
 .split at h
  .cases h;lia
  .cases h
theorem NB (h:cO K te E)(hk:dH K tk Ek)(hm:dH K tm Em): bU K (j6 te (Xb (Nd (S1 K) (dy i) tk) tm NN)) (X4 i Ek Em E):=λF0 H0 F H Y δ De En e l w=>by
 refine h F0 H0 F H Y δ _ _ e w λd u F1 H1 p x1 rd=>?_
 obtain⟨A,e⟩:=e;split at p
 .rename_i ts hs;have e1:=e.on x1;obtain⟨v,hv,a,vs,B,rfl,eA,ha,hB⟩:=e1.own i _ hs;refine⟨_,hv,?_⟩;refine hk F0 H0 F1 H1 Y δ _ _ ⟨A,e1⟩ p λk kv F2 H2 C n r2=>?_
  split at C
  .rename_i k;obtain⟨j,us,hj,hu,C⟩:=C;have e2:=e1.on n;have M:=n.hh _ _ ha;have Q:bu K F2 H2 ts vs B:=hB.frame n.ff λb _ xs z=>n.hh _ _ z
   have hlv:=Q.length;obtain⟨v0,A1,B0,A2,f1,rfl,f3,f4⟩:=Q.focus hu;obtain⟨c,r,C0,rfl,rfl,hc,J⟩:=f3;have at1:jB vs k=a! (.ref c):=by
    unfold jB;rw[<- hlv,hj];exact f1
   refine⟨a,vs,k,.ref c,rfl,r2,eQ.of M,at1,?_⟩;refine hm F0 H0 F2 H2 Y δ _ _ ⟨A,e2⟩ C λm mv U H3 t g r3=>?_
   split at t
   .rename_i m;obtain⟨q,hq,t⟩:=t;have e3:=e2.on g;have hlw:=J.length;refine⟨c,r,m,q,rfl,r3,g.hh _ _ hc,by rw[<- hlw];exact hq,?_⟩;have hql:=Õ hq;have G:bu K U H3 us r C0:=J.frame g.ff λb _ xs z=>g.hh _ _ z
    obtain⟨w0,C1,D0,C2,g1,rfl,g3,g4⟩:=G.focus (Ad hql);have L:=e.jN i;rw[eA]at L;have hA:A i=a::(A1++(c::(C1++(D0++C2))++A2)):=eA;obtain⟨n1,n2⟩:=AG.mp L;obtain⟨m1,m2,m3⟩:=A7.mp n2;obtain⟨q1,q2,q3⟩:=A7.mp m2;obtain⟨s1,s2⟩:=AG.mp q1;have hac:a≠c:=λz=>n1 (by rw[z];simp)
    have off:∀b∈A1++A2,b≠c:=λb f z=>by
     subst z;rcases AB.mp f with y |y
     .exact m3 b y b (by simp) rfl
     .exact q3 b (by simp) b y rfl
    have O:∀b∈C1++C2,b≠c:=λb f z=>by
     subst z
     apply s1
     rcases AB.mp f with y |y<;>simp[y]
    have rd3:dM K U d u:=rd.mono (n.ff.trans g.ff);have g4':=g4 U (cQ H3 c (.lst (r.set q u))) (.fz d) u [] (a6.refl _) (λb f xs z=>a9 (O b f) z) ⟨rfl,rd3⟩;have T:=f4 U (cQ H3 c (.lst (r.set q u))) (.nl (us.set q (.fz d))) (.ref c) (c::(C1++([]++C2))) g.ff (λb f xs z=>a9 (off b f) (g.hh _ _ z)) ⟨c,r.set q u,_,rfl,rfl,aZ,g4'⟩;rw[fM f1]at T;have sub:(a::(A1++(c::(C1++([]++C2))++A2))).Sublist (A i):=by
     rw[hA];exact Gr _ (Ds (DU _) (Ds (Gr _ (Ds (DU _) (Ds (List.nil_sublist _) (DU _)))) (DU _)))
    refine l.nx U _ Y _ (e3.change i hv (t':=.nl (ts.set j (.nl (us.set q (.fz d))))) (B:=a::(A1++(c::(C1++([]++C2))++A2))) ⟨a,vs,_,rfl,rfl,a9 hac (g.hh _ _ M),T⟩ ?_ ?_ ?_ ?_) t
    .exact (e.jN i).sublist sub
    .intro b f;exact⟨(e3.new i b (sub.subset f)).1,(e3.new i b (sub.subset f)).2.1⟩
    .intro j' W3 b f z;exact e.kU j' i b W3 z (sub.subset f)
    .intro b o f q';exact a9 (λz=>f (by rw[hA,z];simp)) q'
   .exact t.elim
  .exact C.elim
 .exact p.elim
def Ya (K:Aq):V->Int->Hp->VK->Prop:=λx c H Q=>∃a xs,x = .ref a/\eQ K H a xs/\0<c/\∀p e,H p=a?->a6 H e->e p=a! (.lst (mD xs c))->Q (.ref p) e
def Nc (r:V->Int->Hp->VK->Prop)(t T:TE):TE:=λY H Q=>t Y H λx e=>T Y e λc a=>∃i,c = .int i/\r x i a Q
theorem iK (h:bQ xs us): ∀(J:List Nat),bQ (J.filterMap (xs[·]?)) (J.filterMap (us.toArray[·]?))
 | []=>.nil
 |j :: J=>by
  have c:=iK h J;by_cases g:j<xs.length
  .obtain ⟨u,U,r⟩:=h.get (i:=j) (x:=xs[j]) (by simp);have a:xs[j]?=a! xs[j]:=by simp
   have e:us.toArray[j]?=a! u:=by simpa using U
   rw[Cr a,Cr e];exact .cons r c
  .have f:¬ j<us.length:=by rw[<- h.length];exact g
   have a:xs[j]?=none:=by simp;lia
   have e:us.toArray[j]?=none:=by simp;lia
   rw[C3 a,C3 e];exact c
theorem NU (L:PE X e k)(hc:PE X c C): PE X (.Subscript e (.Slice a? a? (a! c) p2) pos) (Nc (Ya X.K) k C):=by
 intro pins s Y H Q I h;refine Gn (cJ (L pins s Y H _ I h) λv m g=>?_);obtain⟨x,H1,U,u,A⟩:=g;refine ID ?_;refine AD ?_;refine AD ?_;refine cJ (hc pins m Y H1 _ U A) λvc f g=>?_
 obtain⟨y,H3,O,n,i,M,w⟩:=g;subst M;obtain⟨a,xs,rfl,J,hi,q⟩:=w;obtain⟨tk,rfl⟩:=n;cases u;have j:bC X pins Y H3 {f with heap:=f.heap.push {cls:=.type "slice",data:=.fields #[.none,.none,.int i tk]}}:=O.kept (t':=f.toks) λb ob q=>Ah _ q
 obtain⟨t,r,pl,G⟩:=j.list J;have hn:=r.length;have B:Cj a? a? (a! i) t.toArray.size=(0,(xs.length:Int),i):=by
  unfold Cj;simp[hi,hn]
 have p:FS t.toArray a? a? (a! i)=((CU 0 xs.length i).filterMap (t.toArray[·]?)).toArray:=by
  unfold FS;rw[B]
 refine IN (T := "list") (ops:=[.ref a,.ref f.heap.objs.size]) pl.isList.typeIs EO.lookup ?_ (by with_unfolding_all rfl);refine EY pl.isList (Heap.IsSliceOf.new ..) .none .none (.int i tk) (by intro z;injection z with z;lia) ?_ (by rw[Am]<;>lia);rw[p];have l:(mD xs i).length<=xs.length:=by
  have h1:=JG t.toArray a? a? (a! i);rw[p,Am,Am]at h1;have h2:=(iK r (CU 0 xs.length i)).length;show ((CU 0 xs.length i).filterMap (xs[·]?)).length<=_
  lia
 have hf:=j.cL.fresh (Ag _);refine⟨.ref _,_,j.laid (t':=f.toks) (o:=.lst (mD xs i)) (λb ob q=>Ah _ q) (Ag _) ?_,rfl,q _ _ hf (a6.new hf) aZ⟩;exact⟨Bz l G,_,0,iK r (CU 0 xs.length i),Av _ rfl⟩
theorem bF.pick (h:bF K F ds vs): ∀(J:List Nat),bF K F (J.filterMap (ds[·]?)) (J.filterMap (vs[·]?))
 | []=>rfl
 |j :: J=>by
  have a:=bF.pick h J;have hl:=h.length;by_cases g:j<ds.length
  .obtain ⟨v,c,r⟩:=h.get (i:=j) (d:=ds[j]) (by simp);have e:ds[j]?=a! ds[j]:=by simp
   rw[Cr e,Cr c];exact⟨v,_,rfl,r,a⟩
  .have e:ds[j]?=none:=by simp;lia
   have f:vs[j]?=none:=by simp;lia
   rw[C3 e,C3 f];exact a
theorem bF.step (h:bF K F ds vs)(c:Int): bF K F (mD ds c) (mD vs c):=by
 unfold mD;rw[h.length];exact h.pick _
theorem NF (A:cO K T U)(hc:dH K t O): eR K (Nc (Ya K) T t) (YG U O):=λk j F H Y δ P Q e w q=>
 A k j F H Y δ _ _ e w λx v J z m h n=>hc k j J z Y δ _ _ (e.on h) m λc u G H2 g a r=>by
  have f:=h.trans a;split at g
  .obtain ⟨C,g⟩:=g;obtain⟨p,vs,rfl,h1,h2⟩:=n.mono a.ff;exact⟨_,r,p,vs,rfl,a.fh.seq h1,C,λl B L M o=>q _ _ G B g (f.trans (cy.grow a.fh M)) (e8.list (f.hh.free L) (a.fh.free L) o (h2.step _))⟩
  .exact g.elim
structure xo (K:Aq) (mg:Al->Option Aa) (x:Al) (st:A6) (f:Ae) (fd:A8) (T:Ae) (items:Array Aa):Prop where
 ex:∃(oc:Aa) (od:Option Ae) (kV doc pm:Aa) (an:Option Ae) (í ct:Aa) (Ĕ:Array (Option Aa)),
  fd=DC x x (bT st) (br st) (aB st) (.ref T) kV doc pm an í ct/\K.lookup f=a! ⟨oc,od,.func fd,Ĕ⟩/\Gi K í x=b!
 tup:∃o n,K.lookup T=a! o/\o.data = .seq items n
 kp:DH K (.ref f)=b!
 here:mg x=a! (.ref f)
structure MX (P:AA) (w:AR) (K:Aq) (mg:Al->Option Aa) (base:Heap) (x:Al) (k:Nat) (ps:List Al) (sp:Sp) (yP:List V):Prop where
 ex:∃f fd ds,fR P w K mg base jT k f fd ps sp/\mg x=a! (.ref f)/\DH K (.ref f)=b!/\gf K fd ps []/\gf K fd ps ds/\bQ yP ds
theorem MX.Ϲ {m:Al->Option Aa}(C:MX P w K m base x k ps sp v): cc P w K m base x k ps sp:=by
 obtain⟨f,fd,ds,a,b,c,d,_⟩:=C.ex;exact⟨f,fd,a,b,c,d⟩
theorem YW.of {P:AA}{w:AR}{M:Al->Option Aa}{base:Heap}{x:Al}{st:A6}{f T:Ae}{items:Array Aa}{fd:A8}{N ps:List Al}{k n:Nat}{sp:dN}{ds:List Aa}{j:List V}(q:xo K M x st f fd T items)(S:aR N ps (aB st))
  (hb:∀(kV O pm:Aa) (g:Option Ae) (c ct:Aa) (us:List Aa),us.length=ps.length->∃k,BQ (DC x x (bT st) (br st) (aB st) (.ref T) kV O pm g c ct) ⟨us,[]⟩=seqItems? (.ref T) >>= k/\k (a! items)=pure (ps.zip us))
  (L:∀(kV O pm:Aa) (g:Option Ae) (c ct:Aa) (us:List Aa),(us++ds).length=ps.length->∃k,BQ (DC x x (bT st) (br st) (aB st) (.ref T) kV O pm g c ct) ⟨us,[]⟩=seqItems? (.ref T) >>= k/\k (a! items)=pure (ps.zip (us++ds)))
  (hv:bQ j ds) (hn:n=ps.length)
  (B:∀(c:Aa) (A:AN) (outer:List Ed) (s:Af) (H:Hp) (E:XK),cB k (A.deeper (Bt x (aB st) s.heap.objs.size f c))->
   ∃t T,PSs (du jT P w K M base N x (aB st) f c A outer s H E).lE (br st) t/\bU K t T/\∀ds a,sp ds a->T {nx:=λ_=>a (.fz .cA),rt:=a} (c5 N ds)):MX P w K M base x (k+1) ps (cg K n sp) j:=by
 obtain⟨oc,od,kV,O,pm,g,c,ct,Ĕ,rfl,lk,J⟩:=q.ex;obtain⟨o,m,ht,hs⟩:=q.tup;refine⟨f,_,ds,vb lk J S (λvs H Q E h=>by rw[<- hn];exact h.1) (λA outer s H vs Q E hr h=>?_),q.here,q.kp,λs us KX hl=>?_,λs us KX hl=>?_,hv⟩
 .obtain ⟨_,F,l,a,C,G,u,hq⟩:=h;obtain⟨t,T',h1,h2,h3⟩:=B c A outer s H E hr;refine⟨t,h1.lE,h2 F H F H (start N vs) (c5 N l) {nx:=λ_=>a (.fz .cA),rt:=a} _ ⟨_,ew C G⟩ ⟨λF' H' Y δ e p=>?_,λ_ _ _ _ _ z=>z.elim,λ_ _ _ _ _ z=>z.elim,λF' H' r v x n p=>hq r v F' H' p x n⟩ (h3 l a u)⟩;exact hq _ _ F' H' p e.ext (.fz rfl)
 .rw [A_]at hl ⊢;obtain⟨k',e1,U⟩:=hb kV O pm g c ct us hl;exact Ln KX rfl ht hs e1 U
 .obtain ⟨k',e1,U⟩:=L kV O pm g c ct us hl;exact Ln KX rfl ht hs e1 U
end
def YH (A:DA):DA:=λδ P=>A δ λds=>match ds with
 | [.int i,.int j,.int c]=>c = -1/\(-(2^61)<=i/\i<2^61/\-(2^61)<=j/\j<2^61)/\P (v8 i (-1) (i-j).toNat)
 |_=>False
section
variable {X:Cx}{K:Aq}{tg:Expr}
theorem xY {i j:Int}:AT i j (-1)=((i-j).toNat:Int):=by
 unfold AT;rw[c? (by decide)];split
 .rw [show (-(-1):Int)=1 by decide];lia
 .lia
theorem zK {a b:Int}(h1 : -(2^61)<=a)(h2:a<2^61)(c : -(2^61)<=b)(h:b<2^61):Di a b (-1)=true:=by
 unfold Di;rw[xY];simp only[FA,CZ,Jc,decide_eq_true_eq,show ¬ ((-1:Int) > 0) from by decide,if_false];omega
def Ys (t:TA):TI:=λY H R=>t Y H λvs a=>∃i j:Int,vs=[.int i,.int j,.int (-1)]/\(-(2^61)<=i/\i<2^61/\-(2^61)<=j/\j<2^61)/\R (XD i (-1) (i-j).toNat) a
theorem PY {a b d:Expr}{A:TA}{p pos:Ew}(hg:Gl X "range")(M:X.mg "range"=a?)(J:PA X [a,b,d] A)(C:Ap [a,b,d] X.env=(b?,eval a X.env)::Ap [b,d] X.env:=by rfl)
  (l:(BR pos (Ap [b,d] X.env)).any (·.1)=false:=by rfl):
  PI X tg (.Call (.Name "range" p) [a,b,d] [] pos) (Ys A):=by
 intro pins s Y H R I h;refine Hr (fY I hg M Jx (Ba (cJ (J pos pins s Y H _ I h) λus c z=>?_) C l));obtain⟨vs,m,U,n,Q⟩:=z;obtain⟨i,j,e,⟨Q,B,w,v⟩,q⟩:=Q;subst e
 cases n with
 |cons r f=>
  cases f with
  |cons u f=>
   cases f with
   |cons g f=>
    cases f;obtain⟨t,rfl⟩:=r;obtain⟨t',rfl⟩:=u;obtain⟨T,rfl⟩:=g;refine PySem.call_range_3 (by lia) ?_ (.inl (EH (by decide)));refine Gf (G6 ..) (zK Q B w v) ?_;have k:bC X pins Y m {c with heap:=c.heap.push {cls:=.type "range",data:=.fields #[.int i t,.int j t',.int (-1) T]},toks:=c.toks}:=U.kept λb o e=>Ah _ e
    refine⟨(c.heap.push {cls:=.type "range",data:=.fields #[.int i t,.int j t',.int (-1) T]}).objs.size,[(c.heap.push {cls:=.type "range",data:=.fields #[.int i t,.int j t',.int (-1) T]}).objs.size],_,_,m,rfl,
     k.kept (t':=c.toks) λb o e=>Ah _ e,oP _ i (-1) (i-j).toNat,?_,λb G=>?_,q⟩
    .have O:i+((0:Nat):Int)*(-1)=i:=by simp
     have L:(((i-j).toNat:Nat):Int)-((0:Nat):Int)=AT i j (-1):=by rw[xY];simp
     rw[O,L];exact Av _ rfl
    .have e:b=(c.heap.push {cls:=.type "range",data:=.fields #[.int i t,.int j t',.int (-1) T]}).objs.size:=by simpa using G
     subst e;exact k.pS (Ag _) (k.cL.fresh (Ag _))
theorem V6 {a:TA}{A:DA}(h:kY K a A):mq K (Ys a) (YH A):=λn l F H Y δ P R e w q=>h n l F H Y δ _ _ e w λds vs o m p x r=>by
 split at p
 .obtain ⟨v,u,z,rfl,g,f,c⟩:=X9 r;obtain⟨rfl,k,j⟩:=p;exact⟨_,_,by rw[show v=_ from g,show u=_ from f,show z=_ from c],k,q _ _ o m j x yE⟩
 .exact p.elim
end
theorem f9.Ŏ {a:Type}{O:DO}{o:Option Sl}{da:de}{P:OV->Prop}(xs:List a)(g:a->D)(f:a->OV)(hn:xs.length<=1000000)
  (h:∀x∈xs,∀Q:OV->Prop,Q (f x)->O (a! (.bw (g x))::da) Q) (k:P (.nl (xs.map f))):f9 (gB 0) O (xs.map g) (o::da) P:=by
 refine⟨λi δ ts=>∃o,δ=o::da/\ts=(xs.take i).map f,⟨o,rfl,rfl⟩,?_,?_⟩
 .rintro i d δ ts hd ⟨o,rfl,rfl⟩;obtain⟨x,c,rfl⟩:=m7 hd;obtain⟨hi,e⟩:=Ab.mp c;refine⟨by rw[Au,BE];lia,h x (Ai c) _ ⟨_,rfl,?_⟩⟩;rw[AO hi,e,Bc];rfl
 .rintro δ ts ⟨o,rfl,rfl⟩;rw[Au,BD];exact k
noncomputable def iV (i:Int):Nat:=if i=0 then 0 else i.natAbs.log2+1
def Ϟ (i j:Int):Prop:=iV i<=2000000/\iV j<=2000000
theorem W0:iV (i.natAbs:Int)=iV i:=by
 unfold iV;by_cases h:i=0
 .subst h;rfl
 .rw [c? h,c? (by lia)];rfl
theorem Û (h1 : -(2^n)<i)(h2:i<2^n): iV i<=n:=by
 unfold iV;split
 .exact By _
 .have h:((2^n:Nat):Int)=(2:Int)^n:=rfl;have hn:i.natAbs<2^n:=by omega
  have:i.natAbs.log2<n:=(Nat.log2_lt (by lia)).mpr hn;lia
section
variable {K:Aq}{X:Cx}
theorem Mq:Dy i=iV i:=by
 unfold Dy iV;by_cases h:i=0
 .subst h;rfl
 .simp
theorem NX:lU X (Cv .Mult) (rI Ϟ λi j=>.int (i*j)):=Z6 λi j _ _ _ _ _ hc q=>mul_int q (by
 unfold IntMulOk;have e:KO (Dy i+Dy j)=false:=by
  rw[Mq,Mq];have h1:=hc.1;have h2:=hc.2;exact decide_eq_false (by have:(bitsLine:Int)=2^27:=rfl;lia)
 rw[e];simp)
theorem oO:∀(ns:List Int),(∀m∈ns,iV m<=PySem.W.WData.weightAll (ns.map PySem.W.WData.int))
 | [],m,h=>by cases h
 |n :: ns,m,h=>by
  rw[BU];simp only[PySem.W.WData.weightAll];rcases AJ.mp h with rfl |h
  .have:iV m=PySem.W.WData.weight (PySem.W.WData.int m):=by
    unfold iV;simp only[PySem.W.WData.weight];by_cases z:m=0
    .subst z;rfl
    .simp
   lia
  .have:=oO ns m h;lia
end
end L2
namespace Att
open PySem PySem.W PySem.Calls PyProof.Rows
theorem xl {l:JL}{n:Nat}{q:AA}{e:List Al}{T:(Al->Option Aa)->Heap->Prop}{Q:AR->Heap->Prop}{d:KJ}
  (hn:l.most=a! n) (z:d.params.defaults=[])
  (call:∀(w:AR) (s₀ c:Af) (g M:Al->Option Aa) (A:Ae) (o:CJ) (pm cd O:Aa) (a:Ae) (vs:List Aa) (ns:List Int),
   Ground q e [] T w s₀ g M c.heap->Q w c.heap->
   c.heap.get? A=a! o->o.data = .func (docDef d.name d.params d.body d.scope pm cd O)->c.heap.CodeRec cd d.name->g d.name=a! (.ref A)->
   c.heap.get? a=a! {cls:=.type "list",data:=.seq vs.toArray}->ET vs ns->ns.length<=n->(∀m∈ns,L2.iV m<=1048576)->c.gens=#[]->
   Cf (model l.prog w) C4 (.call (.ref A) ⟨[.ref a],[]⟩) (λr s'=>r = .ok (.ret (.bool b!))/\KD c.heap s'.heap/\s'.os=c.os/\CH s'.gens) c):
  WalkO q e T Q l.row.toRowW d [] (λf vs=>PySem.call f vs):=by
 intro w s₀ c g M G U A o pm cd O dV kV ho hd C J u hg args vals as p h hrd k hlo;obtain rfl:dV = .none:=J3 J z;obtain rfl:kV = .none:=J4 J;obtain⟨a,vs,ns,rfl,rfl,j,t,L⟩:=uF hn p k;have B:∀m∈ns,L2.iV m<=1048576:=λm v=>by
  have h1:=L2.oO ns m v;have h2:Ju (J2 (ns.map Ig))<=2^20:=by
   simp only[WData.layableAll,List.all_cons,WData.layable,CZ,decide_eq_true_eq]at h;exact h.1.2
  simp only[Ju]at h2;lia
 refine L5 (BP (call w s₀ c g M A o pm cd O a vs ns G U ho (fd_plain hd) C u j t L B hg) λr s' hq=>?_);obtain⟨rfl,h2,h3,h4⟩:=hq;exact⟨.inl ⟨.bool b!,.bool b!,[],rfl,λ_=>rfl,.bool b!,uN l _,λ_=>⟨E6,λ_ v=>(nomatch v)⟩⟩,h2,h3,h4⟩
end Att
namespace L2
open PySem PySem.Spec PyProof.Rows
section
variable {X:Cx}{K:Aq}{mg:Al->Option Aa}
end
def YT (E:DE):DE:=λδ P=>E δ λd=>match d with
 | .int i=>P (.int (iV i))
 |_=>False
section
variable {X:Cx}{K:Aq}
def Yj:V->List V->Hp->VK->Prop:=λx xs H Q=>∃i,x = .int i/\xs=[]/\Q (.int (iV i)) H
theorem WN:MtR X "int.bit_length" Yj:=by
 intro pins s Y H x vs v us Q I r a h;obtain⟨i,rfl,rfl,q⟩:=h;obtain⟨t,rfl⟩:=r;cases a;refine call_int_bit_length ?_;rw[Mq];exact⟨.int _,H,I.tok _,⟨_,rfl⟩,q⟩
theorem V' (h:dH K t E): cO K (VC K "int" Yj t) (YT E):=λl j F H Y δ P Q e w q=>h l j F H Y δ _ _ e w λd v k g a c r=>by
 split at a
 .have f:v=_:=r;subst f;exact⟨rfl,_,rfl,rfl,q _ _ k g a c rfl⟩
 .exact a.elim
theorem qr:Vk K (Ye K) T8:=λF H ds vs P Q s rs w q=>by
 unfold T8 at w;split at w
 .obtain ⟨ns,rfl,hn,w⟩:=w;obtain⟨v,rfl,p,us,rfl,h1,h2⟩:=h8 rs;rw[iP]at h2;subst h2;exact⟨p,ns,rfl,h1,hn,λM h A=>q _ _ F H (w M h A) (cy.refl s) rfl⟩
 .exact w.elim
end
section
variable {K:Aq}{mg:Al->Option Aa}
end
section
variable {X:Cx}{K:Aq}
end
section
variable {X:Cx}{K:Aq}
end
def ŭ (A:DA):DA:=λδ P=>A δ λds=>match ds with
 | [.lst xs,.lst ys]=>P ((xs.zip ys).map λp=>D.tup [p.1,p.2])
 |_=>False
section
variable {X:Cx}{K:Aq}{mg:Al->Option Aa}
theorem bC.pZ {pins:List (Ae×CJ)}{Y:St}{H:Hp}{s:Af}{h':Heap}{t':Nat}{L:List Ae}(I:bC X pins Y H s)(k:∀b o,b∉L->s.heap.get? b=a! o->h'.get? b=a! o)(f:∀b∈L,jZ X pins H b):bC X pins Y H {s with heap:=h',toks:=t'}:=by
 have g:∀b u,H b=a! u->b∉L:=λb u e z=>by
  obtain⟨a,_⟩:=f b z;rw[a]at e;cases e
 refine I.step (g':=s.gens) (d':=s.drawn) (λb B=>?_) (λb o _ _ hc e _=>k b o hc e) (λb o _ _ hc e _=>⟨o.slots,k b o hc e⟩) (λ_ _ _ _ n=>n)
  (λb o hc e=>⟨o,k b o hc e⟩) (λ_ _ e=>e) (λ_ _ _ e=>e) (λb ps e=>⟨#[],by rw[e];simp⟩) (λm M=>?_) (λb u e=>?_) I.bare
 .obtain ⟨a,p,A,l,j,h⟩:=f b B;exact⟨l,p,j,h⟩
 .obtain ⟨o,t,w,O,r⟩:=M;refine⟨o,t,w,k _ o (λz=>?_) O,r⟩;obtain⟨a,p,_⟩:=f _ z;exact p rfl
 .refine (I.cL b u e).nV (λc v hc q=>k c v ?_ q) (λ_ q=>q) λ_ _ q _=>q
  rcases hc with z |z
  .rw [z];exact g b u e
  .exact g c _ z
noncomputable def Itz (K:Aq)(A a:Ae)(xs ys:List V):It:=
 ⟨λi H=>eQ K H A xs/\eQ K H a ys/\i<xs.length/\i<ys.length,λi H x c=>∃p y1 y2,x = .ref p/\H p=a?/\a6 H c/\xs[i]?=a! y1/\ys[i]?=a! y2/\c p=a! (.tup [y1,y2]),λi H=>eQ K H A xs/\eQ K H a ys/\(xs.length<=i∨ys.length<=i)⟩
theorem ia {h:Heap}{l z:Ae}{xs:Array Aa}{o:CJ}(hl:h.IsList l xs)(e:h.get? z=a! o)(hc:o.cls≠.type "list"):l≠z:=λq=>by
 subst q;obtain⟨O,a,c,_⟩:=hl;rw[e]at a;cases a;exact hc c
structure ā (z TI TO i1 i2:Ae):Prop where
 TIz:TI≠z
 TOz:TO≠z
 i1z:i1≠z
 i2z:i2≠z
 TITO:TI≠TO
 TIi1:TI≠i1
 TIi2:TI≠i2
 TOi1:TO≠i1
 TOi2:TO≠i2
 i12:i1≠i2
theorem Vt (n:Nat):ā (n+4) (n+2) (n+3) n (n+1):=
 ⟨λq=>by have q:(n+2:Nat)=n+4:=q;lia,λq=>by have q:(n+3:Nat)=n+4:=q;lia,λq=>by have q:(n+0:Nat)=n+4:=q;lia,λq=>by have q:(n+1:Nat)=n+4:=q;lia,λq=>by have q:(n+2:Nat)=n+3:=q;lia,λq=>by have q:(n+2:Nat)=n+0:=q;lia,λq=>by have q:(n+2:Nat)=n+1:=q;lia,λq=>by have q:(n+3:Nat)=n+0:=q;lia,λq=>by have q:(n+3:Nat)=n+1:=q;lia,λq=>by have q:(n+0:Nat)=n+1:=q;lia⟩
theorem uv {h:Heap}{z TI TO e c g f:Ae}{xs ys:Array Aa}{a b:Aa}{k1 k2:Nat}{n C:Ae}(D:ā z TI TO e c)(j:IsZip h z TI TO .none)(T:L_ h TO a b)(h1:h.IsListIter e n k1)(h2:h.IsListIter c C k2)(L:h.IsList g xs)(l:h.IsList f ys):ZipApart z TI TO e c g f:=by
 obtain⟨O,m,Q,_⟩:=h1;obtain⟨o,k,q,_⟩:=h2;exact⟨D.TIz,D.TOz,D.i1z,D.i2z,D.TITO,D.TIi1,D.TIi2,D.TOi1,D.TOi2,D.i12,ia L j (by simp),ia L T (by simp),ia L m (by rw[Q];simp),ia L k (by rw[q];simp),
  ia l j (by simp),ia l T (by simp),ia l m (by rw[Q];simp),ia l k (by rw[q];simp)⟩
theorem Rx {P:AA}{w:AR}{K:Aq}{elts:List Expr}{x1:Nat}{Rz:Ew}(a1 a2 z TI TO i1 i2:Ae)(xs ys:List V)(D:ā z TI TO i1 i2):
  uk P w K (.Tuple elts x1 Rz) (Itz K a1 a2 xs ys) [z,TI,TO,i1,i2] z (λi h=>IsZip h z TI TO .none/\L_ h TI (.ref i1) (.ref i2)/\(∃a b,L_ h TO a b)/\h.IsListIter i1 a1 i/\h.IsListIter i2 a2 i) where
 mem:=by simp
 obj:=λi h st b hb=>by
  obtain⟨h1,h2,⟨a,b',h3⟩,⟨o4,q4,_,r4⟩,⟨o5,q5,_,r5⟩⟩:=st;have ß:b=z∨b=TI∨b=TO∨b=i1∨b=i2:=by simpa using hb
  rcases ß with q |q |q |q |q
  .subst q;exact⟨_,h1,λv q=>by cases q⟩
  .subst q;exact⟨_,h2,λv q=>by cases q⟩
  .subst q;exact⟨_,h3,λv q=>by cases q⟩
  .subst q;exact⟨_,q4,λv q=>by rw[r4]at q;cases q⟩
  .subst q;exact⟨_,q5,λv q=>by rw[r5]at q;cases q⟩
 keep:=λi h h' st k=>by
  obtain⟨h1,h2,⟨a,b',h3⟩,h4,h5⟩:=st;exact⟨k z (by simp) _ h1,k TI (by simp) _ h2,⟨a,b',k TO (by simp) _ h3⟩,h4.at λo q=>k i1 (by simp) o q,h5.at λo q=>k i2 (by simp) o q⟩
 item := by
  kj_on
  obtain⟨h1,h2,⟨a,b',h3⟩,h4,h5⟩:=st;obtain⟨Ü,ř,hi1,hi2⟩:=hg;obtain⟨Ö,ZE,p1,hz1⟩:=I.list Ü;obtain⟨œ,Ļ,p2,hz2⟩:=I.list ř;obtain⟨u1,hu1,ru1⟩:=ZE.get (i:=i) (x:=xs[i]) (by simp);obtain⟨u2,hu2,ru2⟩:=Ļ.get (i:=i) (x:=ys[i]) (by simp);refine wpAny_pyNext_zip_item (uv D h1 h3 h4 h5 p1.isList p2.isList) h1 h2 h3 h4 h5 p1.isList p2.isList (by simpa using hu1) (by simpa using hu2) λh' g1 g2 g3 g4 g5 g6 g7=>?_
  refine⟨_,rfl,Hu g1 λŠ k1 k2=>?_⟩;have Ŝ:=I.cL.fresh (Ag _);have I0:bC X pins Y (cQ H s.heap.objs.size (.tup [xs[i],ys[i]])) {s with heap:=s.heap.push {cls:=.type "tuple",data:=.seq #[u1,u2]},toks:=s.toks}:=
   I.laid (t':=s.toks) (o:=.tup [xs[i],ys[i]]) (λb ob q=>Ah _ q) (Ag _) ⟨eS (n:=2) (by decide),[u1,u2],.cons ru1 (.cons ru2 .nil),⟨_,Av _ rfl,rfl,_,rfl⟩⟩
  have old:∀b∈[z,TI,TO,i1,i2],b≠s.heap.objs.size:=λb hb q=>by
   have ß:b=z∨b=TI∨b=TO∨b=i1∨b=i2:=by simpa using hb
   have Mr:b<s.heap.objs.size:=by
    rcases ß with y |y |y |y |y
    .rw [y];exact AU h1
    .rw [y];exact AU h2
    .rw [y];exact AU h3
    .obtain ⟨o,r1,_⟩:=h4;rw[y];exact AU r1
    .obtain ⟨o,r1,_⟩:=h5;rw[y];exact AU r1
   rw[q]at Mr;exact B7 _ Mr
  have fe:∀b∈[z,TI,TO,i1,i2],jZ X pins (cQ H s.heap.objs.size (.tup [xs[i],ys[i]])) b:=λb hb=>by
   obtain⟨q0,q1,q2,q3,q4,q5⟩:=hf b hb;refine⟨?_,q1,q2,q3,q4,q5⟩;rw[bJ]
   .exact q0
   .exact old b hb
  have I1 : bC X pins Y (cQ H s.heap.objs.size (.tup [xs[i],ys[i]])) {s with heap:=Š,toks:=s.toks}:=by
   have:=I0.pZ (h':=Š) (t':=s.toks) (L:=[z,TO,i1,i2]) (λb o hb q=>?_) (λb hb=>fe b (by
    have ß:b=z∨b=TO∨b=i1∨b=i2:=by simpa using hb
    rcases ß with y |y |y |y<;>simp[y]))
   .exact this
   .have bz:b≠z:=λy=>hb (by simp[y])
    have hb2:h'.get? b=a! o:=by
     by_cases y:b=s.heap.objs.size
     .subst y;rw[Av _ rfl]at q;rw[<- q];exact g5
     .rw [Heap.get?_push_ne _ _ _ y]at q;exact g7 b o bz (λy=>hb (by simp[y])) (λy=>hb (by simp[y])) (λy=>hb (by simp[y])) q
    exact k2.extBut b o bz hb2
  have Xav:h'.get? TI=_:=g7 TI _ D.TIz D.TITO D.TIi1 D.TIi2 h2;refine⟨.ref s.heap.objs.size,_,I1,rfl,⟨_,xs[i],ys[i],rfl,Ŝ,a6.new Ŝ,by simp,by simp,aZ⟩,⟨k1,k2.extBut _ _ D.TIz Xav,⟨_,_,k2.extBut _ _ D.TOz g2⟩,g3.extBut k2.extBut D.i1z,g4.extBut k2.extBut D.i2z⟩,λb hb=>(fe b hb).1⟩
 done:=by
  kj_on
  obtain⟨h1,h2,⟨a,b',h3⟩,h4,h5⟩:=st;obtain⟨Ü,ř,hi⟩:=hg;obtain⟨Ö,ZE,p1,hz1⟩:=I.list Ü;obtain⟨œ,Ļ,p2,hz2⟩:=I.list ř;have hl1:=ZE.length;have hl2:=Ļ.length;refine wpAny_pyNext_zip_end (I.ok.hd hc) (uv D h1 h3 h4 h5 p1.isList p2.isList) h1 h2 h3 h4 h5 p1.isList p2.isList (by
   rcases hi with q |q
   .exact .inl (by simp;lia)
   .exact .inr (by simp;lia)) λh' eb=>⟨rfl,I.pZ (t':=s.toks) (L:=[z,TO,i1,i2]) (λb o hb q=>eb b o (λy=>hb (by simp[y])) (λy=>hb (by simp[y])) (λy=>hb (by simp[y])) (λy=>hb (by simp[y])) q) (λb hb=>hf b (by
    have ß:b=z∨b=TO∨b=i1∨b=i2:=by simpa using hb
    rcases ß with y |y |y |y<;>simp[y]))⟩
 self:=λ_ _ _ _ _ st h=>by
  obtain⟨h1,_⟩:=st;exact Fa h1 h
def Ŕ (K:Aq)(t:TA):TI:=λY H R=>t Y H λvs c=>∃A a xs ys,vs=[.ref A,.ref a]/\eQ K c A xs/\eQ K c a ys/\R (Itz K A a xs ys) c
theorem ZR {T:List Expr}{v:Nat}{t:Ew}{l m:Expr}{A:TA}{p pos:Ew}(hg:Gl X "zip")(hm:X.mg "zip"=a?)(ha:PA X [l,m] A)(U:Ap [l,m] X.env=(b?,eval l X.env)::Ap [m] X.env:=by rfl)(hp:(BR pos (Ap [m] X.env)).any (·.1)=false:=by rfl):PI X (.Tuple T v t) (.Call (.Name "zip" p) [l,m] [] pos) (Ŕ X.K A):=by
 intro pins s Y H R I h;refine Hr (fY I hg hm Gk (Ba (cJ (ha pos pins s Y H _ I h) λus a z=>?_) U hp));obtain⟨vs,o,c,G,J⟩:=z;obtain⟨a1,a2,xs,ys,e,j,Q,q⟩:=J;subst e;obtain⟨u1,u2,rfl,u,r⟩:=ux G;cases u;cases r;obtain⟨n,C,g,O⟩:=c.list j;obtain⟨k,w,f,M⟩:=c.list Q;refine PySem.call_zip_2 g.isList f.isList λh' g1 g2 g3 g4 g5 g6 g7=>?_
 have I2:bC X pins Y o {a with heap:=h',toks:=a.toks}:=c.kept (t':=a.toks) g7;refine Fa (s:={a with heap:=h',toks:=a.toks}) g1 ?_;refine⟨a.heap.objs.size+4,[a.heap.objs.size+4,a.heap.objs.size+2,a.heap.objs.size+3,a.heap.objs.size,a.heap.objs.size+1],_,_,o,rfl,I2,Rx a1 a2 _ _ _ _ _ xs ys ?_,⟨g1,g2,⟨_,_,g3⟩,g4,g5⟩,λb hb=>?_,q⟩
 .exact Vt _
 have L:a.heap.objs.size<=b:=by
  have B:b=a.heap.objs.size+4∨b=a.heap.objs.size+2∨b=a.heap.objs.size+3∨b=a.heap.objs.size∨b=a.heap.objs.size+1:=by simpa using hb
  rcases B with y |y |y |y |y
  .rw [y];exact DL _ _
  .rw [y];exact DL _ _
  .rw [y];exact DL _ _
  .rw [y];exact Ag _
  .rw [y];exact DL _ _
 exact c.pS L (c.cL.fresh L)
theorem Zv {a:TA}{B:DA}(h:dJ K a B):mq K (Ŕ K a) (ŭ B):=λF0 H0 F H Y δ P R e w q=>h F0 H0 F H Y δ _ _ e w λds vs F' H' p x r=>by
 split at p
 .rename_i xs ys;obtain⟨v1,v2,rfl,⟨O,U,rfl,h1,h2⟩,⟨J,u,rfl,k1,k2⟩⟩:=rn r;have G:=h2.length;have C:=k2.length;refine⟨O,J,U,u,rfl,x.fh.seq h1,x.fh.seq k1,q _ _ F' H' p x λF1 H1 g c=>?_⟩;have f:=(g.trans c).seq h1;have Q:=(g.trans c).seq k1;have L:((xs.zip ys).map λp=>D.tup [p.1,p.2]).length=min xs.length ys.length:=by simp
  refine⟨λi hi=>⟨f,Q,by lia,by lia⟩,⟨f,Q,by lia⟩,λi x H2 hi y=>?_⟩;obtain⟨t,y1,y2,rfl,ht,M,m,l,T⟩:=y;obtain⟨A,o,k⟩:=h2.get' m;obtain⟨v,n,j⟩:=k2.get' l;refine⟨.tup [A,v],cQ F1 t (.tup [y1,y2]),?_,cy.new c ht M T,t,[y1,y2],rfl,.inl (.inl aZ),?_⟩
  .rw [AK,Co (z:=(A,v)) |>.mpr ⟨o,n⟩];rfl
  .exact ⟨_,_,rfl,(k.mono g).mono (a6.zx (c.free ht)),_,_,rfl,(j.mono g).mono (a6.zx (c.free ht)),rfl⟩
 .exact p.elim
end
def YM (o:DO)(B:DE):DO:=λδ P=>o δ λr=>match r with
 | .nl [.fz d]=>B δ λy=>match y with
  | .int k=>(0<=k/\k<=1000000)/\P (.nl (Ar k.toNat (.fz d)))
  |_=>False
 |_=>False
section
variable {X:Cx}{K:Aq}{mg:Al->Option Aa}
theorem bF.rep (h:dM K F d v): ∀n:Nat,bF K F (Ar n d) (Ar n v)
 | 0=>rfl
 |n+1=>⟨v,Ar n v,rfl,h,bF.rep h n⟩
theorem vW (M:eR K t Eo)(J:dH K tb Eb): eR K (Nd Ŀ t tb) (YM Eo Eb):=λm j F H Y δ P Q e w q=>
 M m j F H Y δ _ _ e w λr v F1 H1 g h z=>by
  split at g
  .rename_i d;obtain⟨A0,⟨p,vs,B,rfl,rfl,G,T⟩,a2,a3⟩:=z;obtain⟨v0,r0,B1,C,rfl,rfl,⟨_,n⟩,O,_⟩:=T;subst O;refine J m j F1 H1 Y δ _ _ (e.on h) g λy u F2 H2 f a o=>?_
   split at f
   .rename_i k;obtain⟨⟨k0,k1⟩,A⟩:=f;have c:=h.trans a;cases o;refine⟨p,k,[v0],rfl,rfl,a.hh _ _ G,by lia,by lia,eS (by simp;omega),λl L=>?_⟩;have ef:(Ar k.toNat [v0]).flatten=Ar k.toNat v0:=List.flatten_replicate_singleton;rw[ef];have U:(Ar k.toNat d).map OV.fz=Ar k.toNat (OV.fz d):=Eh;refine q _ _ F2 _ A (c.trans (cy.grow a.fh (a6.new L))) ?_;rw[<- U];exact e8.list (c.hh.free L) (a.fh.free L) aZ (bF.rep (n.mono a.ff) _)
   .exact f.elim
  .exact g.elim
end
section
variable {prog:AA}{w:AR}{A:AN}{E:Aa->Af->Prop}{s:Af}
end
section
variable {X:Cx}{K:Aq}{tg:Expr}
end
def ϸ:List D->(D->Prop)->Prop:=λds P=>match ds with
 | [.int i,.int j]=>Ď i j/\P (.tup [.int (i / j),.int (i%j)])
 |_=>False
def ê (i:Nat)(B:DE):DE:=λδ P=>match δ[i]? with
 |some (a! (.own (.nl ts)))=>B δ λy=>match y with
  | .int k=>∃d,jB ts k=a! (.fz d)/\P d
  |_=>False
 |_=>False
section
variable {X:Cx}{K:Aq}
theorem ZA {i:Nat}{tb:TE}{m:DE}(t:dH K tb m):cO K (Nd (S1 K) (dy i) tb) (ê i m):=λO M F H Y δ P Q e w q=>by
 obtain⟨A,e⟩:=e;unfold ê at w;split at w
 .rename_i ts o;obtain⟨v,n,a,vs,B,rfl,T,C,G⟩:=e.own i _ o;refine⟨_,n,t O M F H Y δ _ _ ⟨A,e⟩ w λy u l g f c r=>?_⟩;split at f
  .rename_i k;obtain⟨d,hd,p⟩:=f;have h:bu K l g ts vs B:=G.frame c.ff λb _ xs z=>c.hh _ _ z
   unfold jB at hd
   cases J:pq ts.length k with
   |none=>rw[J]at hd;cases hd
   |some j=>
    rw[J]at hd;obtain⟨v0,A1,U,A2,f1,_,L,_⟩:=h.focus hd;have hl:=h.length;refine⟨a,vs,k,v0,rfl,r,eQ.of (c.hh _ _ C),?_,q d v0 l g p c L.2⟩;unfold jB;rw[<- hl,J];exact f1
  .exact f.elim
 .exact w.elim
end
section
variable {prog:AA}{w:AR}{A:AN}{E:Aa->Af->Prop}{s:Af}
end
def Xbm (a:DE)(L U:ĝ):DE:=λδ P=>a δ λx=>L δ λlo=>U δ λhi=>match x with
 | .lst xs=>P (.lst (cutD xs lo hi))
 |_=>False
def Zg:List D->(D->Prop)->Prop:=λds P=>match ds with
 | [.lst xs]=>∃ns:List Int,xs=ns.map D.int/\P (.int ns.sum)
 |_=>False
section
variable {X:Cx}{K:Aq}{mg:Al->Option Aa}
def X' (K:Aq):List V->Hp->VK->Prop:=λxs H Q=>∃(l:Ae) (ns:List Int),xs=[.ref l]/\eQ K H l (ns.map V.int)/\Q (.int ns.sum) H
theorem lu (hc:X.calm=true:=by rfl):gd X (.builtin "sum") (X' X.K):=by
 intro pins s Y H xs us Q I r h;obtain⟨l,ns,rfl,a,q⟩:=h;obtain⟨u,rfl,U⟩:=j4 r;cases U;obtain⟨t,v,pl,z⟩:=I.list a;have hi:ET t ns:=sI v;have hl:=pl.isList;obtain⟨ys,e⟩:=hi.allInts.items;have n:ns=ys.toList.map (·.1):=by rw[<- hi.numsOf,<- KY,<- e]
 rw[e]at hl;refine sum_intListG (I.ok.hd hc) hl λh' tk t' k=>?_
 refine⟨.int _,H,I.kept k,⟨t',rfl⟩,?_⟩;rw[preSum_eq,BS (by simp),<- n];exact q
theorem xj:Vk K (X' K) Zg:=λF H ds vs P Q s rs w q=>by
 unfold Zg at w;split at w
 .obtain ⟨ns,rfl,w⟩:=w;obtain⟨v,rfl,p,us,rfl,h1,h2⟩:=h8 rs;rw[iP]at h2;subst h2;exact⟨p,ns,rfl,h1,q _ _ F H w (cy.refl s) rfl⟩
 .exact w.elim
end
def Xba (A:DA):DE:=λδ P=>A δ λds=>match ds with
 | [.lst xs]=>D.jU xs=b!/\P (.tup xs)
 |_=>False
def YS (a B:DE):DO:=λδ P=>a δ λx=>B δ λy=>match x,y with
 | .lst xs,.lst ys=>D.jU xs=b!/\D.jU ys=b!/\xs.length+ys.length<=1000000/\P (.nl ((xs++ys).map .fz))
 |_,_=>False
section
variable {X:Cx}{K:Aq}{mg:Al->Option Aa}
theorem ER.drop {g f F H:Hp}{Y:St}{δ:de}{A:Nat->List Ae}(e:ER K g f F H Y δ A)(i:Nat):ER K g f F H Y (δ.set i a?) (λj=>if j=i then [] else A j):=by
 have off:∀(j:Nat) (s:Sl),(δ.set i a?)[j]?=a! (a! s)->j≠i/\δ[j]?=a! (a! s):=λj s h=>by
  by_cases z:j=i
  .subst z;have hi:j<δ.length:=by
    have:=(Ab.mp h).1
    rwa[Bk]at this
   rw[Aw hi]at h;cases h
  .rw [AH (Bb z)]at h;exact⟨z,h⟩
 refine⟨by simp[e.len],e.ext,λj t h=>?_,λj d h=>e.bw j d (off j _ h).2,λj=>?_,λj k a J h1 h2=>?_,λj a c=>?_⟩
 .obtain ⟨z,h⟩:=off j _ h;rw[c? z];exact e.own j t h
 .split
  .exact CB
  .exact e.jN j
 .split at h1
  .cases h1
  .split at h2
   .cases h2
   .exact e.kU j k a J h1 h2
 .split at c
  .cases c
  .exact e.new j a c
theorem eW {e:Expr}{da:List Expr}{env:Ed}(h:∀a p,e≠.Starred a p):Ap (e::da) env=(b?,eval e env)::Ap da env:=by
 rw[Ap];exact h
def MV (K:Aq)(mg:Al->Option Aa)(x:Al)(d:D):Prop:=∃a,mg x=a! (.ref a)/\∀F,dM K F d (.ref a)
def tGl (K:Aq)(d:D):TE:=λ_ H Q=>∀v,(∀F,dM K F d v)->Q v H
theorem kM (hg:Gl X x)(m:MV X.K X.mg x d)(hd:(x==("__debug__":Al))=false:=by decide): PE X (.Name x pos) (tGl X.K d):=by
 intro pins s Y H Q I h;obtain⟨a,e,r⟩:=m;exact mX (v:=.ref a) hg e rfl hd pins s Y H Q I (h _ r)
theorem xS:cO K (tGl K d) (dC d):=λc a F H Y δ P Q e w q=>λv r=>q d v F H w (cy.refl e.ext.fh) (r F)
theorem V4 {t tb:TE}{A B:DE}(T:dH K t A)(O:dH K tb B):eR K (Nd (Yi K) t tb) (YS A B):=λm k F H Y δ P Q e w q=>
 T m k F H Y δ _ _ e w λx v F1 H1 z h G=>O m k F1 H1 Y δ _ _ (e.on h) z λy u F2 H2 f g C=>by
  have a:=h.trans g;have c:=fP a.fh;split at f
  .obtain ⟨r,o,w5,n⟩:=f;obtain⟨p,vs,rfl,h1,h2⟩:=G.mono g.hh;obtain⟨J,us,rfl,U,j⟩:=C;have l1:=h2.length;have l2:=j.length;refine⟨p,J,vs,us,rfl,rfl,h1,U,eS (by lia),λl H' L M lk=>?_⟩;exact q _ _ _ H' n (a.trans (c.trans (cy.grow c.fh M))) (e8.list (a.hh.free L) (c.fh.free L) lk ((bF.lf a.fh h2 r).append (bF.lf a.fh j o)))
  .exact f.elim
end
open PySem PySem.Spec PyProof.Rows PyProof.V PySem.W
section
variable {P:AA}{w:AR}{H:Hp}{h:Heap}{a:Ae}{o:HO}
theorem eh.at:∀{o:HO},eh P w H h a o->∃u,h.get? a=a! u
 | .lst _,x=>by obtain⟨_,_,_,_,e⟩:=x;exact⟨_,e⟩
 | .tup _,x=>by obtain⟨_,_,_,ob,e,_⟩:=x;exact⟨_,e⟩
 | .dK _,x=>by obtain⟨_,_,_,_,o,_,_,e,_⟩:=x;exact⟨_,e⟩
 | .dT _,x=>by obtain⟨_,_,_,_,o,_,_,e,_⟩:=x;exact⟨_,e⟩
 | .set _ _,x=>by obtain⟨o,_,_,_,e,_⟩:=x;exact⟨_,e⟩
 | .ins _ _ _,x=>by obtain⟨_,_,_,e,_⟩:=x;exact⟨_,e⟩
 | .own _,x=>x
 | .xd _,x=>by obtain⟨_,⟨O,_,_,e,_⟩,_⟩:=x;exact⟨_,e⟩
 | .v8 _ _,x=>by obtain⟨_,_,_,e⟩:=x;exact⟨_,e⟩
 | .el _ _,x=>⟨_,x.1⟩
 | .XO _,x=>⟨_,x⟩
 | .kW _ _,x=>by obtain⟨_,e,_⟩:=x;exact⟨_,e⟩
 | .met _ _,x=>⟨_,x⟩
 | .ext _,x=>x.2.1
end
def QP (P:AA)(w:AR):OK:=λouter H s E e s'=>∃(a C:Ae) (A:Aa) (B:Heap) (c:Hp),e = .ref a/\E (.ref C) a? c/\Heap.FlyingW B outer a (.ref C) A s'.heap/\
 (∀b o,s'.heap.get? b=a! o->b∉iY outer->((∃O,s.heap.get? b=a! O)∨∃u,c b=a! u)->B.get? b=a! o)/\Un (iY outer) [] H c s.heap s'.heap/\jY P w c s'.heap/\CH s'.gens/\s'.os=s.os/\c a=a?
section
variable {P:AA}{w:AR}{K:Aq}{mg:Al->Option Aa}{base:Heap}{N:List Al}{qual:Al}{scope:BM}{f:Ae}{cd:Aa}{A:AN}{outer:List Ed}{s:Af}{H:Hp}{E:XK}
theorem sA {pins:List (Ae×CJ)}{Y:St}{H1 p:Hp}{G s':Af}{a C0:Ae}{a0:Aa}{B h7:Heap}{Z:List Ae}(I:bC (du (QP P w) P w K mg base N qual scope f cd A outer s H E) pins Y H1 G)
  (hE:E (.ref C0) a? p) (C:Heap.FlyingW B outer a (.ref C0) a0 h7)
  (g:∀b o,s'.heap.get? b=a! o->b∉iY (Bt qual scope s.heap.objs.size f cd::outer)->b∉Z->((∃J,G.heap.get? b=a! J)∨∃u,p b=a! u)->B.get? b=a! o)
  (l:∀b o,b∈iY (Bt qual scope s.heap.objs.size f cd::outer)->s'.heap.get? b=a! o->∃sl,h7.get? b=a! {o with slots:=sl})
  (hZ:∀b∈Z,s.heap.objs.size<=b/\p b=a?)
  (un:Un (iY (Bt qual scope s.heap.objs.size f cd::outer)) [] H1 p G.heap s'.heap) (L:jY P w p s'.heap) (bare:CH s'.gens) (Ė:s'.os=G.os) (hna:p a=a?):
  QP P w outer H s E (.ref a) {s' with heap:=h7}:=by
 have h:Un (iY outer) [] H H1 s.heap G.heap:=I.base;have sup:∀b,b∈iY outer->b∈iY (Bt qual scope s.heap.objs.size f cd::outer):=λb j=>by
  obtain⟨e,T,hf⟩:=CP.mp j;exact CP.mpr ⟨e,Ax _ T,hf⟩
 have old:∀b o,s.heap.get? b=a! o->b∉iY outer->b∉iY (Bt qual scope s.heap.objs.size f cd::outer):=λb o q j z=>by
  obtain⟨e,T,hf⟩:=CP.mp z;rcases AJ.mp T with rfl |T
  .rw [<- AY hf]at q;exact absurd (AU q) (B7 _)
  .exact j (CP.mpr ⟨e,T,hf⟩)
 have hu:∀b u,p b=a! u->b∉iY (Bt qual scope s.heap.objs.size f cd::outer)/\b∉Z:=λb u e=>by
  refine⟨λz=>?_,λz=>by rw[(hZ b z).2]at e;cases e⟩;obtain⟨_,o,ho,_⟩:=I.stack.mem z;rw[un.free b o ho (I.k_ b z) (by simp)]at e;cases e
 have lt:∀b o,s.heap.get? b=a! o->b∉Z:=λb o q z=>absurd (AU q) (Nat.not_lt.mpr (hZ b z).1)
 refine⟨a,C0,a0,B,p,rfl,hE,C,λb o q j hc=>?_,⟨λb o q n j m=>?_,λb o q n j m=>?_,λb o q n m=>?_,λb o q m=>?_,λb xs e=>un.lW b xs (h.lW b xs e),λb o u e=>un.jW b o u (h.jW b o u e),λb ps e=>?_⟩,λb u e=>?_,bare,Ė.trans I.os,hna⟩
 .have key:∃O,B.get? b=a! O:=by
   rcases hc with⟨J,r⟩ | ⟨u,r⟩
   .obtain ⟨t,Q⟩:=h.there b J r (by simp);obtain⟨O,k⟩:=un.there b t Q (by simp);exact⟨O,g b O k (old b J r j) (lt b J r) (.inl ⟨t,Q⟩)⟩
   .obtain ⟨O,k⟩:=(L b u r).at
    exact⟨O,g b O k (hu b u r).1 (hu b u r).2 (.inr ⟨u,r⟩)⟩
  obtain⟨O,k⟩:=key;have:=C.1 b O k;rw[q]at this;cases this;exact k
 .have Q:=h.keep b o q n j m;exact C.1 b o (g b o (un.keep b o Q (h.free b o q n m) (old b o q j) (by simp)) (old b o q j) (lt b o q) (.inl ⟨o,Q⟩))
 .obtain ⟨sl,Q⟩:=h.slot b o q n j m;obtain⟨sl2,k⟩:=un.slot b _ Q (h.free b o q n m) (sup b j) (by simp);obtain⟨sl3,q3⟩:=l b _ (sup b j) k;exact⟨sl3,q3⟩
 .obtain ⟨t,Q⟩:=h.there b o q m;exact un.free b t Q (h.free b o q n m) (by simp)
 .obtain ⟨t,Q⟩:=h.there b o q m;obtain⟨O,k⟩:=un.there b t Q (by simp);by_cases j:b∈iY (Bt qual scope s.heap.objs.size f cd::outer)
  .obtain ⟨sl,q3⟩:=l b O j k;exact⟨_,q3⟩
  .exact ⟨_,C.1 _ _ (g b O k j (lt b o q) (.inl ⟨t,Q⟩))⟩
 .obtain ⟨more,e1⟩:=h.lX b ps e;obtain⟨M,e2⟩:=un.lX b _ e1;exact⟨more++M,by rw[e2,FG]⟩
 .refine (L b u e).nV (λc v hc q=>?_) (λ_ q=>q) λ_ _ q _=>q
  have hcu:∃u,p c=a! u:=by
   rcases hc with rfl |hc
   .exact ⟨_,e⟩
   .exact ⟨_,hc⟩
  obtain⟨u',U⟩:=hcu;exact C.1 _ _ (g c v q (hu c u' U).1 (hu c u' U).2 (.inr ⟨u',U⟩))
theorem wa {pins:List (Ae×CJ)}{Y:St}{j:Hp}{c:Af}{C a:Ae}{args:List Aa}{h2:Heap}(I:bC (du (QP P w) P w K mg base N qual scope f cd A outer s H E) pins Y j c)(g:Heap.MadeExcOf c.heap h2 a (.ref C) args)
  (n:E (.ref C) a? j):(du (QP P w) P w K mg base N qual scope f cd A outer s H E).xe (.ref a) {c with heap:=h2}:=by
 refine wpAny_leaves_madeW (base:=hideAll c.heap (iY (Bt qual scope s.heap.objs.size f cd::outer))) I.ok.frames rfl (λb o q=>of_hideAll _ q) (PySem.W.funFrames_hide I.stack λe m b B=>CP.mpr ⟨e,m,B⟩) g λh' t l r p k=>?_
 refine sA (s':=c) (Z:=[]) I n l (λb o q B _ _=>hideAll_get _ q B) (λb o B q=>?_) (λ_ z=>by cases z) Un.refl I.cL I.bare rfl ?_
 .obtain ⟨_,v,h,hd⟩:=I.stack.mem B;rw[q]at h;cases h;exact k b o (g.keeps b o q) hd
 .cases q:j a with
  |none=>rfl
  |some u=>
   obtain⟨o,O⟩:=(I.cL a u q).at
   rw[g.new]at O;cases O
def RC (t:TE)(c:Hp->Prop):TS:=λ_ Y H=>t Y H λx a=>[x].length<=AL/\c a
theorem S6 (hg:Gl (du (QP P w) P w K mg base N qual scope f cd A outer s H E) x)(O:HW x C M n mg base)(FB:ExcBaseFacts B n t M)
  (v:(A.deeper (Bt qual scope s.heap.objs.size f cd)).handled=a?) (z:PE (du (QP P w) P w K mg base N qual scope f cd A outer s H E) a p) (hd:(x==("__debug__":Al))=false:=by decide)
  (k:Ap [a] (Bt qual scope s.heap.objs.size f cd)=[(b?,eval a (Bt qual scope s.heap.objs.size f cd))]:=by rfl):
  PS (du (QP P w) P w K mg base N qual scope f cd A outer s H E) (.Raise (a! (.Call (.Name x np) [a] [] c)) a? pos) (RC p λU=>E (.ref C) a? U):=by
 intro pins j Y L D I h;obtain⟨tl,J,nm,q,bs,hdct,sn,sub,ab,col,dd,k0,k1,k2,k3,k5,mN,G,hN,l,T⟩:=O.obj;refine wpAny_Raise_call_subT (nm:=nm) (q:=q) (N:=J) (bs:=bs) (hdct:=hdct) (sn:=sn) (sub:=sub) (ab:=ab) (col:=col) (dd:=dd) (k0:=k0) (k1:=k1) (k2:=k2) (k3:=k3) (k5:=k5)
  FB (T.hasType FB.hasBase) v ?_ l (ib I hg O.bound ⟨rfl,?_⟩ hd)
 .show (BR c (Ap [a] (Bt qual scope s.heap.objs.size f cd))).any (·.1)=b?
  rw[k];rfl
 .have m:=(ae z aD k) c pins j Y L (λvs o=>vs.length<=AL/\E (.ref C) a? o) I h
  change AI _ _ (spliced (BR c (Ap [a] (Bt qual scope s.heap.objs.size f cd)))) _ _ j at m
  show AI _ _ (evalArgs (.ref C) b! (BR c (Ap [a] (Bt qual scope s.heap.objs.size f cd))) []) _ _ j
  rw[k]at m ⊢;refine Ho (BC m (λus s2 h2=>?_) λ_ _ y=>y);obtain⟨vs,o,g,r,hl,Q⟩:=h2;refine⟨rfl,?_,g.bk _ _ G,hN.keeps g.bk,T.keeps g.bk,λh' e u=>wa g u Q⟩;rw[<- r.length];exact hl
end
noncomputable abbrev Cx.Yx (X:Cx)(a:Ae):Cx:={X with A:=X.A.mark (a! (.ref a)),calm:=b?,xe:=λ_ _=>False}
section
variable {X:Cx}{pins:List (Ae×CJ)}{Y:St}{H:Hp}{s:Af}
theorem bC.Yx (I:bC X pins Y H s)(a:Ae): bC (X.Yx a) pins Y H s:=
 ⟨⟨I.ok.mod,I.ok.kind,I.ok.glob,I.ok.blt,I.ok.above,I.ok.inj,I.ok.has,I.ok.Xn,(λz=>by cases z),I.ok.frames,I.ok.đ,I.ok.϶,I.ok.bs,I.ok.MR,I.ok.L0,I.ok.Qx,I.ok.jV,I.ok.Rb⟩,I.os,I.bare,I.base,I.loc,I.cell,I.free,I.ie,I.pin,I.cL,I.len⟩
theorem bC.Ĩ (ok:X.Ok)(I:bC (X.Yx a) pins Y H s): bC X pins Y H s:=⟨ok,I.os,I.bare,I.base,I.loc,I.cell,I.free,I.ie,I.pin,I.cL,I.len⟩
theorem bC.Xax {m:Al->Option Aa}(I:bC X pins Y H s)(hN:X.N.Nodup)(hi:X.N[i]?=a! n)(hl:∀(j:Nat) (x:Al) (w:V),X.N[j]?=a! x->Y[j]?=a! (a! w)->Ă X.env.scope x->∃u,cu w u/\ϒ X.env s.heap m x u)
  (hn:h'.Ns X.env.locals (λx=>if x=n then v else m x)) (h:Heap.SameBut X.env.locals s.heap h'): bC X pins (Y.set i a?) H {s with heap:=h',toks:=tk}:=by
 have ML:=I.ML;have lt:∀{b o},X.s₀.heap.get? b=a! o->b≠X.env.locals:=λ{b o} e=>Bq (AS (AU e) I.ok.above)
 refine⟨I.ok,I.os,I.bare,⟨λb o e n B f=>?_,λb o e n B f=>?_,I.base.free,λb o e f=>?_,I.base.lW,I.base.jW,I.base.lX⟩,⟨_,hn,λj y t a g M=>?_⟩,λy c e=>?_,I.free,I.ie,λp G=>?_,λb ob e=>?_,by simpa using I.len⟩
 .exact (h.2 b (lt e)).trans (I.base.keep b o e n B f)
 .obtain ⟨L,a⟩:=I.base.slot b o e n B f;exact⟨L,(h.2 b (lt e)).trans a⟩
 .obtain ⟨O,a⟩:=I.base.there b o e f;exact⟨O,(h.2 b (lt e)).trans a⟩
 .by_cases J:j=i
  .subst J;have l:j<Y.length:=by rw[I.len];exact (Ab.mp hi).1
   rw[Aw l]at g;cases g
  .rw [AH (Bb J)]at g;obtain⟨U,A,q⟩:=hl j y t a g M;refine⟨U,A,?_⟩;rcases q with⟨k,e⟩ | ⟨k,c,e,z⟩
   .refine .inl ⟨k,?_⟩;have:y≠n:=λe=>J (rX hN a (e▸hi))
    simp[this,e]
   .exact .inr ⟨k,c,e,z.sameBut h (ML y c e)⟩
 .obtain ⟨r,z⟩:=I.cell y c e;exact⟨r,z.sameBut h (ML y c e)⟩
 .obtain ⟨e,n,ne,C,d⟩:=I.pin p G;exact⟨(h.2 p.1 ne).trans e,n,ne,C,d⟩
 .refine (I.cL b ob e).nV (λc r hc q=>(h.2 c ?_).trans q) (λ_ q=>q) λ_ _ q _=>q
  rintro rfl;have hf:=I.free;rcases hc with rfl |hc
  .rw [hf]at e;cases e
  .rw [hf]at hc;cases hc
theorem bC.U1 {j:Hp}{s':Af}{B:Heap}{a C:Ae}{a0:Aa}{h6:Heap}(I:bC X pins Y H s)(fl:Heap.FlyingW B X.stack a (.ref C) a0 s'.heap)
  (g:∀b o,s'.heap.get? b=a! o->b∉iY X.stack->((∃O,s.heap.get? b=a! O)∨∃u,j b=a! u)->B.get? b=a! o) (un:Un (iY X.stack) [] H j s.heap s'.heap) (cL:jY X.prog X.w j s'.heap) (M:CH s'.gens) (Ė:s'.os=s.os) (hna:j a=a?)
  (J:Heap.FlyingW B X.stack a (.ref C) a0 h6) (sm:s'.heap.UpToSlots h6):bC X pins Y (cQ j a (.ext (sY a (.ref C)))) {s' with heap:=h6}:=by
 have r:∀b∈iY X.stack,j b=none:=λb h=>by
  obtain⟨_,o,ho,_⟩:=I.stack.mem h;exact un.free b o ho (I.k_ b h) (by simp)
 have f:∀b∈iY X.stack,∀o,s'.heap.get? b=a! o->∀vs,o.data≠.fields vs:=λb h o q=>by
  obtain⟨_,T,A,hd⟩:=fl.2.2.1.mem h;rw[q]at A;cases A;exact hd
 have p:∀b o,s'.heap.get? b=a! o->b∉iY X.stack->((∃O,s.heap.get? b=a! O)∨∃u,j b=a! u)->h6.get? b=a! o:=λb o q h hc=>J.1 b o (g b o q h hc)
 obtain⟨oe,ws,t,m,Xbh,_⟩:=J.first
 have hsa:s.heap.get? a=none:=by
  cases q:s.heap.get? a with
  |none=>rfl
  |some O=>
   obtain⟨T,q'⟩:=un.there a O q (by simp);by_cases h:a∈iY X.stack
   .obtain ⟨oe',ws',he',_,Q_,_⟩:=fl.first
    exact absurd Q_ (f a h oe' he' ws')
   .have:=g a T q' h (.inl ⟨O,q⟩);rw[fl.2.1]at this;cases this
 have G:∀b u,j b=a! u->b≠a:=λb u e z=>by rw[z,hna]at e;cases e
 refine I.OA (ch:=[]) Ė ⟨λb o q n h l=>?_,λb o q n h l=>?_,λb o q n l=>?_,λb o q l=>?_,λb xs e=>?_,λb o u e=>?_,λb ps e=>?_⟩ (λb u e=>?_) M (λb z=>absurd z (by simp))
 .exact p b o (un.keep b o q n h l) h (.inl ⟨o,q⟩)
 .obtain ⟨sl,Q⟩:=un.slot b o q n h l;obtain⟨L,q2⟩:=sm b _ Q (f b h _ Q);exact⟨L,q2⟩
 .rw [bJ λz=>by rw[z,hsa]at q;cases q];exact un.free b o q n l
 .obtain ⟨T,Q⟩:=un.there b o q l;by_cases h:b∈iY X.stack
  .obtain ⟨L,q2⟩:=sm b _ Q (f b h _ Q);exact⟨_,q2⟩
  .exact ⟨_,p b T Q h (.inl ⟨o,q⟩)⟩
 .have:=un.lW b xs e;rw[bJ (G b _ this)];exact this
 .have:=un.jW b o u e;rw[bJ (G b _ this)];exact this
 .obtain ⟨more,this⟩:=un.lX b ps e;exact⟨more,by rw[bJ (G b _ this)];exact this⟩
 .by_cases h:b=a
  .subst h;rw[aZ]at e;cases e;refine⟨⟨oe,t,m⟩,⟨oe,t⟩,λh1 h2 zz k=>?_⟩;obtain⟨o,e1,e2⟩:=zz;exact⟨o,k o e1,e2⟩
  .rw [bJ h]at e;refine (cL b u e).nV (λc v hc q=>?_) (λc q=>by rw[bJ (G c _ q)];exact q) λc xs q _=>by rw[bJ (G c _ q)];exact q
   have U:∃u,j c=a! u:=by
    rcases hc with rfl |hc
    .exact ⟨_,e⟩
    .exact ⟨_,hc⟩
   exact p c v q (λz=>by obtain⟨u,hu⟩:=U;rw[r c z]at hu;cases hu) (.inr U)
end
structure tF (P:AA) (w:AR) (K:Aq) (mg:Al->Option Aa) (base:Heap) (x:Al) (k:Nat) (ps:List Al) (sp:Sp):Prop where
 ex:∃f fd,fR P w K mg base (QP P w) k f fd ps sp/\mg x=a! (.ref f)/\DH K (.ref f)=b!/\gf K fd ps []
section
variable {X:Cx}
end
open PySem PySem.Spec PyProof.Rows
abbrev qt:=List OV->List D->(List OV->Prop)->Prop
def ź (c:Al)(ns:List Al)(j:Nat)(E:DE):DE:=λδ P=>E δ λd=>match d with
 | .obj c' n ds=>c'=c/\n=ns/\∃x,ds[j]?=a! x/\P x
 |_=>False
def Sy (c:Al)(ns:List Al)(i j:Nat)(O:DO):DS:=λe δ=>match δ[i]? with
 |some (a! (.own (.ob o c' n ts)))=>c'=c/\n=ns/\j<ts.length/\O δ λr=>e.nx (δ.set i (a! (.own (.ob o c ns (ts.set j r)))))
 |_=>False
def SA (c:Al)(ns:List Al)(i j:Nat)(O:DO):DS:=λe δ=>match δ[i]? with
 |some (a! (.own (.ob o c' n ts)))=>c'=c/\n=ns/\j=ts.length/\O δ λr=>e.nx (δ.set i (a! (.own (.ob o c ns (ts++[r])))))
 |_=>False
def SD (c:Al)(ns:List Al)(i j:Nat)(g:Int->Int->Int)(E:DE):DS:=λe δ=>match δ[i]? with
 |some (a! (.own (.ob o c' n ts)))=>c'=c/\n=ns/\match ts[j]? with
  |some (.fz (.int x))=>E δ λd=>match d with
   | .int y=>e.nx (δ.set i (a! (.own (.ob o c ns (ts.set j (.fz (.int (g x y))))))))
   |_=>False
  |_=>False
 |_=>False
def SE (c:Al)(ns:List Al)(i j:Nat)(O:DO):DS:=λe δ=>match δ[i]? with
 |some (a! (.own (.ob o c' n ts)))=>c'=c/\n=ns/\match ts[j]? with
  |some (.nl us)=>us.length<1000000/\O δ λr=>e.nx (δ.set i (a! (.own (.ob o c ns (ts.set j (.nl (us++[r])))))))
  |_=>False
 |_=>False
def Sz (c:Al)(ns:List Al)(i j k:Nat):DS:=λe δ=>match δ[i]? with
 |some (a! (.own (.ob o c' n ts)))=>c'=c/\n=ns/\∃us d,ts[j]?=a! (.nl (us++[.fz d]))/\e.nx ((δ.set i (a! (.own (.ob o c ns (ts.set j (.nl us)))))).set k (a! (.own (.fz d))))
 |_=>False
def xR (c:Al)(ns:List Al)(i n:Nat)(sp:qt)(A:DA):DS:=λe δ=>match δ[i]? with
 |some (a! (.own (.ob o c' a ts)))=>c'=c/\a=ns/\A δ λds=>ds.length+1=n/\sp ts ds λt=>e.nx (δ.set i (a! (.own (.ob o c ns t))))
 |_=>False
def ri (c:Al)(ns:List Al)(i j:Nat)(sp:qt):DS:=λe δ=>match δ[i]? with
 |some (a! (.own (.ob o c' n ts)))=>c'=c/\n=ns/\∃us d,ts[j]?=a! (.nl (us++[.fz d]))/\sp (ts.set j (.nl us)) [d] λt=>e.nx (δ.set i (a! (.own (.ob o c ns t))))
 |_=>False
def UO (c:Al)(ns:List Al)(n:Nat)(sp:dN)(E:DE)(A:DA):DO:=λδ P=>E δ λd=>match d with
 | .obj c' a fs=>c'=c/\a=ns/\A δ λds=>ds.length+1=n/\sp (.obj c ns fs::ds) λr=>r.lf=b!/\P r
 |_=>False
def Oy (c:Al)(ns:List Al)(n:Nat)(sp:qt)(A:DA):DO:=λδ P=>A δ λds=>ds.length+1=n/\sp [] ds λts=>P (.ob a? c ns ts)
noncomputable def fb (N:List Al)(c:Al)(ns:List Al)(a:Ae)(ts:List OV)(ds:List D):de:=a! (.own (.ob (a! a) c ns ts))::(ds.map (λd=>a! (.own (.fz d)))++Ar (N.length-(ds.length+1)) a?)
section
theorem oy:∀{ns:List Al} {vs:List V} {j:Nat},ns.Nodup->ns[j]?=a! f->(ns.zip vs).lookup f=vs[j]?
 | [],_,_,_,h=>by simp at h
 |g::ns,[],j,_,_=>rfl
 |g::ns,v::vs,0,a,h=>by
  simp at h
  subst h;simp
 |g :: ns,v::vs,j+1,a,h=>by
  have h':ns[j]?=a! f:=h;obtain⟨e,c⟩:=AG.mp a;have n:(f==g)=false:=by
   rw[beq_eq_false_iff_ne];intro z;exact e (by rw[<- z];exact Ai h')
  simp only[E5,Cg,n];exact oy c h'
theorem eY:∀{ns:List Al} {vs:List V},f∉ns->(ns.zip vs).lookup f=a?
 | [],_,_=>rfl
 |g::ns,[],_=>rfl
 |g :: ns,v::vs,h=>by
  have n:(f==g)=false:=by
   rw[beq_eq_false_iff_ne];intro z;exact h (by rw[z];exact Ay)
  simp only[E5,Cg,n];exact eY λz=>h (Ax _ z)
theorem rz:∀{ns:List Al} {vs:List V} {j:Nat},ns.Nodup->ns[j]?=a! f->j<vs.length->g_ f u (ns.zip vs)=ns.zip (vs.set j u)
 | [],_,_,_,h,_=>by simp at h
 |g::ns,[],j,_,_,h=>by simp at h
 |g::ns,v::vs,0,a,h,_=>by
  simp at h
  subst h;simp[g_]
 |g::ns,v::vs,j+1,a,h,hl=>by
  have h':ns[j]?=a! f:=h;obtain⟨e,c⟩:=AG.mp a;have n:¬ g=f:=λz=>e (by rw[z];exact Ai h')
  simp only[E5,g_,c? n,CN];rw[rz c h' (by simpa using hl)]
theorem ya:∀{ns:List Al} {vs:List V},ns.Nodup->ns[vs.length]?=a! f->g_ f u (ns.zip vs)=ns.zip (vs++[u])
 | [],_,_,h=>by simp at h
 |g::ns,[],a,h=>by
  simp at h
  subst h;simp[g_]
 |g::ns,v::vs,a,h=>by
  have h':ns[vs.length]?=a! f:=h;obtain⟨e,c⟩:=AG.mp a;have n:¬ g=f:=λz=>e (by rw[z];exact Ai h')
  simp only[E5,g_,c? n,CY];rw[ya c h']
theorem TV {g f A B:List Ae}(h:(g++(f++A)).Nodup)(h1:B.Nodup)(h2:∀b∈B,b∈f∨b∉g++(f++A)):(g++(B++A)).Nodup:=by
 obtain⟨j,M,m⟩:=A7.mp h;obtain⟨k,Q,q⟩:=A7.mp M;refine A7.mpr ⟨j,A7.mpr ⟨h1,Q,λx c y e z=>?_⟩,λx c y e z=>?_⟩
 .rcases h2 x c with a |a
  .exact q x a y e z
  .exact a (by rw[z];simp[e])
 .rcases AB.mp e with a |a
  .rcases h2 y a with w |w
   .exact m x c y (by simp[w]) z
   .exact w (by rw[<- z];simp[c])
  .exact m x c y (by simp[a]) z
end
structure dY (K:Aq) (c:Al) (ns:List Al):Prop where
 ex:∃C,B5 K Aj c=a! (a! (.ref C))/\zq K C/\(∀f∈ns,iJ K C f)
 nd:ns.Nodup
 MC:ns.length<1000
structure fv (K:Aq) (c m q:Al) (st:A6) (f:Ae) (fd:A8):Prop where
 fn:QM K m q st f fd
 cl:∃C,B5 K Aj c=a! (a! (.ref C))/\zq K C/\Ve K C m f
structure c6 (P:AA) (w:AR) (K:Aq) (mg:Al->Option Aa) (base:Heap) (c m:Al) (k:Nat) (ps:List Al) (sp:Sp):Prop where
 ex:∃C f fd,B5 K Aj c=a! (a! (.ref C))/\zq K C/\Ve K C m f/\fR P w K mg base jT k f fd ps sp/\gf K fd ps []
structure zj (K:Aq) (mg:Al->Option Aa) (c:Al) (f:Ae):Prop where
 cl:∃C,B5 K Aj c=a! (a! (.ref C))/\Mk K C f/\mg c=a! (.ref C)
structure ur (P:AA) (w:AR) (K:Aq) (mg:Al->Option Aa) (base:Heap) (c:Al) (k:Nat) (ps:List Al) (sp:Sp):Prop where
 ex:∃C f fd,B5 K Aj c=a! (a! (.ref C))/\Mk K C f/\mg c=a! (.ref C)/\fR P w K mg base jT k f fd ps sp/\gf K fd ps []
def i' (K:Aq)(c m:Al)(sp:Sp)(a:TE)(t:TA):TE:=λY H Q=>∃C,B5 K Aj c=a! (a! (.ref C))/\RE C m sp [] E0 a t Y H Q
def vt (K:Aq)(c:Al)(sp:Sp)(t:TA):TE:=λY H Q=>∃C,B5 K Aj c=a! (a! (.ref C))/\XW C sp [] E0 t Y H Q
section
variable {X:Cx}{c m:Al}{k:Nat}{ps:List Al}{sp:Sp}{o e:Expr}{es:List Expr}{ta:TE}{t:TA}{p pos apos:Ew}
theorem eJ (C:c6 X.prog X.w X.K X.mg X.base c m k ps sp)(r:cB k X.A)(g:PE X o ta)(j:PA X (e::es) t)
  (T:Ap (e::es) X.env=(b?,eval e X.env)::Ap es X.env:=by rfl) (l:(BR pos (Ap es X.env)).any (·.1)=false:=by rfl)
  (ht:eval (.Call (.Attribute o m apos) (e::es) [] pos) X.env=(do
   let v <- eval o X.env
   Gv apos.atName
   let (f,first) <- EQ [v] (FT v m pl)
   IH pos f first (BR pos (Ap (e::es) X.env)) (Hh pos (FL [] X.env))):=by rfl):
  PE X (.Call (.Attribute o m apos) (e::es) [] pos) (i' X.K c m sp ta t):=by
 rintro pins s Y H Q I ⟨q,a,h⟩;obtain⟨C,f,fd,n,L,M,F,B⟩:=C.ex;rw[n]at a;cases a;exact Wl g L M F r B .nil yg j T l ht pins s Y H Q I h
theorem fq (C:c6 X.prog X.w X.K X.mg X.base c m k ps sp)(r:cB k X.A)(g:PE X o ta)
  (ht:eval (.Call (.Attribute o m apos) [] [] pos) X.env=(do
   let v <- eval o X.env
   Gv apos.atName
   let (f,first) <- EQ [v] (FT v m pl)
   IH pos f first (BR pos (Ap [] X.env)) (Hh pos (FL [] X.env))):=by rfl):
  PE X (.Call (.Attribute o m apos) [] [] pos) (i' X.K c m sp ta gw):=by
 rintro pins s Y H Q I ⟨n,a,h⟩;obtain⟨C,f,fd,j,l,M,F,B⟩:=C.ex;rw[j]at a;cases a;exact Tc g l M F r B .nil yg (ht:=ht) pins s Y H Q I h
theorem wg (C:ur X.prog X.w X.K X.mg X.base c k ps sp)(r:cB (k+1) X.A)(hg:Gl X c)(q:PA X (e::es) t)
  (B:(c==("__debug__":Al))=false:=by decide) (j:Ap (e::es) X.env=(b?,eval e X.env)::Ap es X.env:=by rfl) (l:(BR pos (Ap es X.env)).any (·.1)=false:=by rfl):
  PE X (.Call (.Name c p) (e::es) [] pos) (vt X.K c sp t):=by
 rintro pins s Y H Q I ⟨v,a,h⟩;obtain⟨C,f,fd,u,M,g,F,n⟩:=C.ex;rw[u]at a;cases a;exact Wm M F r hg g n .nil yg q B j l pins s Y H Q I h
end
section
variable {K:Aq}{c f m:Al}{ns:List Al}{i j:Nat}{ta te:TE}{E:DE}{Eo:DO}
theorem c_ (l:dY K c ns)(hf:ns[j]?=a! f)(h:dH K ta E): dH K (zE K ta f) (ź c ns j E):=λM G F H Y δ P Q e w q=>h M G F H Y δ _ _ e w λd v J B g n o=>by
 split at g
 .obtain ⟨rfl,rfl,x,p,g⟩:=g;obtain⟨a,C,z,vs,rfl,t,h1,hl,h2⟩:=o;obtain⟨O,k,L,A⟩:=l.ex;rw[t]at k;cases k;obtain⟨u,U,r⟩:=h2.get p;exact⟨a,C,z,_,u,rfl,h1,L,A f (Ai hf),by rw[oy l.nd hf];exact U,q _ _ J B g n r⟩
 .exact g.elim
theorem ER.obj {A:Nat->List Ae}(e:ER K F0 u F H Y δ A)(Q:Y[i]?=a! (a! (.ref a)))(q:A i=a::g::B)
  (h0:B5 K Aj c=a! (a! (.ref C))) (T:∀J,o=a! J->a=J) (h1:r a=a! (.ins C g (ns.zip v))) (h2:r g=a! (.own a)) (hl:t.length<=ns.length) (h3:bu K F r t v k) (L:k.Nodup)
  (G:∀b∈k,b∈B∨(F b=a?/\u b=a?/\∀j,b∉A j)) (keep:∀b o,b∉A i->H b=a! o->r b=a! o): cv K F0 u F r Y (δ.set i (a! (.own (.ob o c ns t)))):=by
 have p:=e.jN i;rw[q]at p;obtain⟨w,O⟩:=AG.mp p;obtain⟨M,n4⟩:=AG.mp O;have l:∀b,b∈a::g::k->b∈A i∨(F b=a?/\u b=a?/\∀j,b∉A j):=λb h=>by
  rw[q];rcases AJ.mp h with z |z
  .exact .inl (by simp[z])
  .rcases AJ.mp z with z |z
   .exact .inl (by simp[z])
   .rcases G b z with y |y
    .exact .inl (by simp[y])
    .exact .inr y
 have n:∀b,b∈A i->b∉B->b∉k:=λb h hn z=>by
  rcases G b z with y |y
  .exact hn y
  .exact y.2.2 i h
 refine e.change i Q (t':=.ob o c ns t) (B:=a::g::k) ⟨a,C,g,v,k,rfl,rfl,h0,T,h1,h2,hl,h3⟩ ?_ ?_ ?_ keep
 .refine AG.mpr ⟨λz=>?_,AG.mpr ⟨λz=>?_,L⟩⟩
  .rcases AJ.mp z with z |z
   .exact w (by simp[z])
   .exact n a (by simp[q]) (λy=>w (by simp[y])) z
  .exact n g (by simp[q]) M z
 .intro b h;rcases l b h with z |z
  .exact ⟨(e.new i b z).1,(e.new i b z).2.1⟩
  .exact ⟨z.1,z.2.1⟩
 .intro j U b h z;rcases l b h with y |y
  .exact e.kU j i b U z y
  .exact y.2.2 j z
theorem NC (CV:dY K c ns)(hf:ns[j]?=a! f)(h:eR K te Eo):bU K (Zz K (dy i) te f) (Sy c ns i j Eo):=λF0 H0 F H Y δ De En e l w=>by
 obtain⟨A,e⟩:=e;unfold Sy at w;split at w
 .rename_i o c' O ts hs;obtain⟨rfl,rfl,hj,w⟩:=w;obtain⟨v,hv,a,C,dx,vs,B,rfl,M,h0,ho,h1,h2,hl,h3⟩:=e.own i _ hs;obtain⟨C',L,cl,na⟩:=CV.ex;rw[h0]at L;cases L;refine h F0 H0 F H Y δ _ _ ⟨A,e⟩ w λr u F1 H1 p t n=>?_
  obtain⟨C0,c1,c2,U⟩:=n;have e1:=e.on t;have hlen:=h3.length;refine⟨_,hv,a,C,dx,_,rfl,t.hh _ _ h1,cl,na f (Ai hf),?_,?_⟩
  .have:=CV.MC;rw[Go];lia
  rw[rz CV.nd hf (by lia)];have Q:bu K F1 H1 ts vs B:=h3.frame t.ff λb _ xs z=>t.hh _ _ z
  obtain⟨v0,A1,B0,A2,f1,rfl,f3,f4⟩:=Q.focus (Ad hj);have G:=e.jN i;rw[M]at G;obtain⟨n1,n2⟩:=AG.mp G;obtain⟨n3,n4⟩:=AG.mp n2;have k:∀j b,b∈C0->b∉A j:=λj b g z=>by
   obtain⟨_,_,xs,q,_⟩:=e.new j b z;rw[(U b g).1]at q;cases q
  have J:=k i;have off:∀b,b∈A1++(B0++A2)->b≠a:=λb g z=>n1 (by rw[<- z];exact Ax _ g)
  have sub:∀b,b∈A1++A2->b∈A1++(B0++A2):=λb g=>by
   rcases AB.mp g with z |z<;>simp[z]
  have T:=f4 F1 (cQ H1 a (.ins C dx (O.zip (vs.set j u)))) r u C0 (a6.refl _) (λb g xs z=>a9 (off b (sub b g)) z) (c1.frame (a6.refl _) λb g xs z=>a9 (λy=>J b g (by rw[M,y];simp)) z);refine l.nx F1 _ Y _ (e1.obj hv M h0 ho aZ (a9 (λz=>n1 (by rw[<- z];simp)) (t.hh _ _ h2)) (by rw[Bk];exact hl) T (TV n4 c2 λb g=>.inr λz=>J b g (by rw[M];simp only[AJ];exact .inr (.inr z))) (λb g=>?_) λb o' g z=>a9 (λy=>g (by rw[M,y];simp)) z) p;rcases AB.mp g with z |z
  .exact .inl (by simp[z])
  .rcases AB.mp z with z |z
   .exact .inr ⟨(U b z).2,e.ext.hh.free (U b z).1,λj=>k j b z⟩
   .exact .inl (by simp[z])
 .exact w.elim
theorem gp (CV:dY K c ns)(hf:ns[j]?=a! f)(h:eR K te Eo): bU K (Zz K (dy i) te f) (SA c ns i j Eo):=λF0 H0 F H Y δ De En e l w=>by
 obtain⟨A,e⟩:=e;unfold SA at w;split at w
 .rename_i o c' T ts hs;obtain⟨rfl,rfl,hj,w⟩:=w;obtain⟨v,hv,a,C,dx,vs,B,rfl,Q,h0,ho,h1,h2,hl,h3⟩:=e.own i _ hs;obtain⟨C',O,cl,na⟩:=CV.ex;rw[h0]at O;cases O;refine h F0 H0 F H Y δ _ _ ⟨A,e⟩ w λr u F1 H1 p G n=>?_
  obtain⟨C0,c1,c2,c3⟩:=n;have e1:=e.on G;have L:=h3.length;refine⟨_,hv,a,C,dx,_,rfl,G.hh _ _ h1,cl,na f (Ai hf),?_,?_⟩
  .have:=CV.MC;rw[Go];lia
  have t:=hf;rw[hj,L]at t;rw[ya CV.nd t];have U:bu K F1 H1 ts vs B:=h3.frame G.ff λb _ xs z=>G.hh _ _ z
  have J:=e.jN i;rw[Q]at J;obtain⟨n1,n2⟩:=AG.mp J;obtain⟨n3,n4⟩:=AG.mp n2;have k:∀j b,b∈C0->b∉A j:=λj b g z=>by
   obtain⟨_,_,xs,q,_⟩:=e.new j b z;rw[(c3 b g).1]at q;cases q
  have M:=k i;have off:∀b,b∈B->b≠a:=λb g z=>n1 (by rw[<- z];exact Ax _ g)
  have Mr:=(Ab.mp t).1;have ϵ:bu K F1 (cQ H1 a (.ins C dx (T.zip (vs++[u])))) (ts++[r]) (vs++[u]) (B++C0):=bu.append (U.frame (a6.refl _) λb g xs z=>a9 (off b g) z) (bu.one (c1.frame (a6.refl _) λb g xs z=>a9 (λy=>M b g (by rw[Q,y];simp)) z));refine l.nx F1 _ Y _ (e1.obj hv Q h0 ho aZ (a9 (λz=>n1 (by rw[<- z];simp)) (G.hh _ _ h2)) (by rw[AE,BX];lia) ϵ (A7.mpr ⟨n4,c2,λx hx y hy z=>M y hy (by rw[Q,<- z];simp[hx])⟩) (λb g=>?_) λb o' g z=>a9 (λy=>g (by rw[Q,y];simp)) z) p;rcases AB.mp g with z |z
  .exact .inl z
  .exact .inr ⟨(c3 b z).2,e.ext.hh.free (c3 b z).1,λj=>k j b z⟩
 .exact w.elim
theorem mT {g:Int->Int->Int}{rd:V->V->Hp->VK->Prop}(J:dY K c ns)(hf:ns[j]?=a! f)(L:∀x y H Q,Q (.int (g x y)) H->rd (.int x) (.int y) H Q)(h:dH K te E): bU K (NI K (dy i) te rd f) (SD c ns i j g E):=λF0 H0 F H Y δ De En e l w=>by
 obtain⟨A,e⟩:=e;unfold SD at w;split at w
 .rename_i o c' n ts hs;obtain⟨rfl,rfl,w⟩:=w;obtain⟨x,hx,w⟩:∃x,ts[j]?=a! (.fz (.int x))/\E δ λd=>match d with
   | .int y=>De.nx (δ.set i (a! (.own (.ob o c' n (ts.set j (.fz (.int (g x y))))))))
   |_=>False:=by
   split at w
   .exact ⟨_,by assumption,w⟩
   .exact w.elim
  obtain⟨v,hv,a,C,U,vs,B,rfl,T,h0,ho,h1,h2,hl,h3⟩:=e.own i _ hs;obtain⟨C',G,cl,na⟩:=J.ex;rw[h0]at G;cases G;obtain⟨v0,A1,B0,A2,f1,eB,⟨f3,O⟩,f4⟩:=h3.focus hx;subst f3
  cases (show v0=V.int x from O)
  refine⟨_,hv,a,C,U,_,_,rfl,h1,cl,na f (Ai hf),(by rw[oy J.nd hf];exact f1),?_⟩;refine h F0 H0 F H Y δ _ _ ⟨A,e⟩ w λd u F1 H1 p k ru=>?_
  split at p
  .rename_i y
   cases (show u=V.int y from ru)
   have e1:=e.on k;refine L _ _ _ _ ⟨U,_,k.hh _ _ h1,?_,?_⟩
   .have:=J.MC;rw[Go];lia
   rw[rz J.nd hf (Ab.mp f1).1];have r:=e.jN i;rw[T]at r;obtain⟨n1,n2⟩:=AG.mp r;obtain⟨n3,n4⟩:=AG.mp n2;subst eB;have M:=f4 F1 (cQ H1 a (.ins C U (n.zip (vs.set j (.int (g x y)))))) (.fz (.int (g x y))) (.int (g x y)) [] k.ff (λb t xs z=>a9 (λq=>n1 (by rw[<- q];exact Ax _ t)) (k.hh _ _ z)) ⟨rfl,rfl⟩;exact l.nx F1 _ Y _ (e1.obj hv T h0 ho aZ (a9 (λz=>n1 (by rw[<- z];simp)) (k.hh _ _ h2)) (by rw[Bk];exact hl) M n4 (λb t=>.inl t) λb o' t z=>a9 (λy=>t (by rw[T,y];simp)) z) p
  .exact p.elim
 .exact w.elim
theorem lj (CV:dY K c ns)(hf:ns[j]?=a! f)(h:eR K te Eo):bU K (jD (VD K "list" mV (zE K (dy i) f) (c9 te gw))) (SE c ns i j Eo):=λF0 H0 F H Y δ De En e l w=>by
 obtain⟨A,e⟩:=e;unfold SE at w;split at w
 .rename_i o c' ns' ts hs;obtain⟨rfl,rfl,w⟩:=w;obtain⟨us,hx,hus,w⟩:∃us,ts[j]?=a! (.nl us)/\us.length<1000000/\Eo δ λr=>De.nx (δ.set i (a! (.own (.ob o c' ns' (ts.set j (.nl (us++[r]))))))):=by
   split at w
   .exact ⟨_,by assumption,w⟩
   .exact w.elim
  obtain⟨v,hv,a,C,dx,vs,B,rfl,T,h0,ho,h1,h2,hl,h3⟩:=e.own i _ hs;obtain⟨C',O,cl,na⟩:=CV.ex;rw[h0]at O;cases O;obtain⟨v0,A1,B0,A2,f1,rfl,f3,f4⟩:=h3.focus hx;obtain⟨t,U,B1,rfl,rfl,hc,L⟩:=f3;refine⟨_,hv,a,C,dx,_,.ref t,rfl,h1,cl,na f (Ai hf),(by rw[oy CV.nd hf];exact f1),.inl ⟨rfl,_,eQ.of hc⟩,?_⟩;refine h F0 H0 F H Y δ _ _ ⟨A,e⟩ w λr u F1 H1 p G n=>?_
  obtain⟨C0,c1,c2,c3⟩:=n;have e1:=e.on G;have Ϯ:=L.length;refine⟨t,U,u,rfl,rfl,G.hh _ _ hc,qD (by lia),?_⟩;have M:=e.jN i;rw[T]at M;obtain⟨n1,n2⟩:=AG.mp M;obtain⟨n3,n4⟩:=AG.mp n2;have g:∀j b,b∈C0->b∉A j:=λj b k z=>by
   obtain⟨_,_,xs,q,_⟩:=e.new j b z;rw[(c3 b k).1]at q;cases q
  have J:t∈A i:=by rw[T];simp
  obtain⟨m1,m2,m3⟩:=A7.mp n4;obtain⟨q1,q2,q3⟩:=A7.mp m2;obtain⟨s1,s2⟩:=AG.mp q1;have off:∀b∈A1++A2,b≠t:=λb k z=>by
   subst z;rcases AB.mp k with y |y
   .exact m3 b y b (by simp) rfl
   .exact q3 b (by simp) b y rfl
  have hab:a≠t:=λz=>n1 (by rw[z];simp)
  have ŝ:dx≠t:=λz=>n3 (by rw[z];simp)
  have Q:=f4 F1 (cQ H1 t (.lst (U++[u]))) (.nl (us++[r])) (.ref t) (t::(B1++C0)) G.ff (λb k xs z=>a9 (off b k) (G.hh _ _ z))
   ⟨t,U++[u],B1++C0,rfl,rfl,aZ,bu.append (L.frame G.ff λb k xs z=>a9 (λy=>s1 (by rw[<- y];exact k)) (G.hh _ _ z)) (bu.one (c1.frame (a6.refl _) λb k xs z=>a9 (λy=>g i b k (by rw[y];exact J)) z))⟩
  rw[fM f1]at Q;refine l.nx F1 _ Y _ (e1.obj hv T h0 ho (a9 hab (G.hh _ _ h1)) (a9 ŝ (G.hh _ _ h2)) (by rw[Bk];exact hl) Q (TV n4 ?_ λb k=>?_) (λb k=>?_) λb o' k z=>a9 (λy=>k (by rw[y];exact J)) z) p
  .refine AG.mpr ⟨λz=>?_,A7.mpr ⟨s2,c2,λx hx y hy z=>g i y hy (by rw[T,<- z];simp[hx])⟩⟩;rcases AB.mp z with y |y
   .exact s1 y
   .exact g i t y J
  .rcases AJ.mp k with y |y
   .exact .inl (by simp[y])
   .rcases AB.mp y with y |y
    .exact .inl (by simp[y])
    .exact .inr λz=>g i b y (by rw[T];simp only[AJ];exact .inr (.inr z))
  .simp only[AB,AJ]at k;rcases k with z | (z |z |z) |z
   .exact .inl (by simp[z])
   .exact .inl (by simp[z])
   .exact .inl (by simp[z])
   .exact .inr ⟨(c3 b z).2,e.ext.hh.free (c3 b z).1,λj=>g j b z⟩
   .exact .inl (by simp[z])
 .exact w.elim
theorem ER.ť {A:Nat->List Ae}(e:ER K F0 H0 F H Y δ A)(CV:dY K c ns)(hf:ns[j]?=a! f)(hs:δ[i]?=a! (a! (.own (.ob o c ns ts))))(hx:ts[j]?=a! (.nl (us++[.fz d]))):
  ∃a g k y C G fs,Y[i]?=a! (a! (.ref a))/\H a=a! (.ins C G fs)/\B5 K Aj c=a! (a! (.ref C))/\zq K C/\iJ K C f/\fs.lookup f=a! (.ref g)/\H g=a! (.lst k)/\k[k.length-1]?=a! y/\dM K F d y/\(cQ H g (.lst k.dropLast)) a=a! (.ins C G fs)/\
   cv K F0 H0 F (cQ H g (.lst k.dropLast)) Y (δ.set i (a! (.own (.ob o c ns (ts.set j (.nl us)))))):=by
 obtain⟨v,hv,a,C,G,vs,B,rfl,J,h0,ho,h1,h2,hl,h3⟩:=e.own i _ hs;obtain⟨C',q,cl,na⟩:=CV.ex;rw[h0]at q;cases q;obtain⟨v0,A1,B0,A2,f1,rfl,f3,f4⟩:=h3.focus hx;obtain⟨g,k,M,rfl,rfl,hc,l⟩:=f3;obtain⟨w,y,rfl,L,Q,O,eB⟩:∃w y,k=w++[y]/\∃L,bu K F H us w L/\dM K F d y/\M=L:=by
  clear f4 h3 hx J hc f1
  induction us generalizing k M with
  |nil=>
   obtain⟨v,r,B,C,rfl,rfl,g1,g2,g3⟩:=l;subst g2 g3;exact⟨[],v,rfl,[],⟨rfl,rfl⟩,g1.2,by rw[g1.1];rfl⟩
  |cons t us ih=>
   obtain⟨v,r,B,C,rfl,rfl,g1,g2⟩:=l;obtain⟨w,y,rfl,L,k1,k2,rfl⟩:=ih _ _ g2;exact⟨v::w,y,rfl,B++C,⟨v,w,B,C,rfl,rfl,g1,k1⟩,k2,rfl⟩
 subst eB;have n:=e.jN i;rw[J]at n;obtain⟨n1,n2⟩:=AG.mp n;obtain⟨n3,n4⟩:=AG.mp n2;have U:g∈A i:=by rw[J];simp
 obtain⟨m1,m2,m3⟩:=A7.mp n4;obtain⟨q1,q2,q3⟩:=A7.mp m2;obtain⟨s1,s2⟩:=AG.mp q1;have off:∀b∈A1++A2,b≠g:=λb h z=>by
  subst z;rcases AB.mp h with y |y
  .exact m3 b y b (by simp) rfl
  .exact q3 b (by simp) b y rfl
 have p:a≠g:=λz=>n1 (by rw[z];simp)
 have T:G≠g:=λz=>n3 (by rw[z];simp)
 have edl:(w++[y]).dropLast=w:=by simp
 have u:=f4 F (cQ H g (.lst (w++[y]).dropLast)) (.nl us) (.ref g) (g::M) (a6.refl _) (λb h xs z=>a9 (off b h) z) ⟨g,(w++[y]).dropLast,M,rfl,rfl,aZ,by
  rw[edl];exact Q.frame (a6.refl _) λb h xs z=>a9 (λy=>s1 (by rw[<- y];exact h)) z⟩
 rw[fM f1]at u;refine⟨a,g,w++[y],y,C,G,_,hv,h1,h0,cl,na f (Ai hf),(by rw[oy CV.nd hf];exact f1),hc,by simp,O,a9 p h1,?_⟩;exact e.obj hv J h0 ho (a9 p h1) (a9 T h2) (by rw[Bk];exact hl) u n4 (λb h=>.inl h) λb o' h z=>a9 (λy=>h (by rw[y];exact U)) z
theorem VX (z:dY K c ns)(hf:ns[j]?=a! f): bU K (j6 (VC K "list" ZI (zE K (dy i) f)) (gU k)) (Sz c ns i j k):=λM J F H Y δ Q O e l w=>by
 obtain⟨A,e⟩:=e;unfold Sz at w;split at w
 .rename_i o c' n ts t;obtain⟨rfl,rfl,us,d,q,w⟩:=w;obtain⟨a,B,g,y,C,u,fs,v,h1,G,L,h,hl,hc,p,r,_,e'⟩:=e.ť z hf t q;refine⟨_,v,a,C,u,fs,.ref B,rfl,h1,L,h,hl,.inl ⟨rfl,_,eQ.of hc⟩,B,g,y,rfl,rfl,hc,p,?_⟩;exact l.nx F _ _ _ (e'.put (cy.refl e'.ext.fh) k (.fz r)) w
 .exact w.elim
def RK (K:Aq)(n:Nat)(c:Al)(ns:List Al)(SP:Hp->qt):Sp:=VI n λvs H Q=>∃F a C g ts v B da ds P,vs=V.ref a::da/\B5 K Aj c=a! (a! (.ref C))/\a6 F H/\H a=a! (.ins C g (ns.zip v))/\H g=a! (.own a)/\ts.length<=ns.length/\bu K F H ts v B/\
 (a::g::B).Nodup/\(∀b∈a::g::B,F b=a?)/\bF K F ds da/\SP F ts ds P/\
 ∀t l h e k p,P t->a6 F l->a6 l h->(∀b o,b∉a::g::B->H b=a! o->h b=a! o)->(∀b o,F b=a?->H b=a! o->Yq o=b?->b∉a::g::B->l b=a?)->h a=a! (.ins C e (ns.zip k))->h e=a! (.own a)->t.length<=ns.length->bu K l h t k p->
  (a::e::p).Nodup->(∀b∈a::e::p,l b=a?/\(b∈a::g::B∨H b=a?))->Q .cA h
abbrev qO (K:Aq)(n:Nat)(c:Al)(ns:List Al)(sp:qt):Sp:=RK K n c ns λ_=>sp
theorem zI (e:cv K F0 H0 F H Y δ)(hs:δ[i]?=a! (a! (.own (.ob o c ns ts))))(hσ:Y[i]?=a! (a! (.ref p)))(l:Lk K F0 H0 De En)(hn:ds.length+1=n)
  (r:bF K F ds us) {SP:Hp->qt} (Ř:SP F ts ds λU=>De.nx (δ.set i (a! (.own (.ob o c ns U))))): RK K n c ns SP (.ref p::us) H (λ_ H2=>En.nx Y H2) E0:=by
 obtain⟨A,e⟩:=e;obtain⟨v,hv,a,C,dx,vs,B,rfl,w,h0,ho,h1,h2,hl,L⟩:=e.own i _ hs;rw[hσ]at hv;cases hv;have Vq:=e.jN i;rw[w]at Vq;have Mr:i<δ.length:=(Ab.mp hs).1;refine⟨by rw[AQ,<- r.length];exact hn,F,p,C,dx,ts,vs,B,us,ds,_,rfl,h0,e.ext.fh,h1,h2,hl,L,Vq,λb g=>(e.new i b (by rw[w];exact g)).1,r,Ř,?_⟩;intro U F' H' Q ĥ B' pt sF sH keep O hp' Q_ hl' Yz nd' G;refine l.nx F' H' Y _ ⟨λj=>if j=i then p::Q::B' else A j,?_⟩ pt;refine⟨by simp[e.len],⟨e.ext.ff.trans sF,λb o h=>?_,sH,λb o h1 h2 L=>?_⟩,λj t J=>?_,λj d J=>?_,λj=>?_,λj k b ϱ h1 h2=>?_,λj b g=>?_⟩
 .exact keep b o (λz=>by rw[(e.new i b (by rw[w];exact z)).2.1]at h;cases h) (e.ext.hh _ _ h)
 .exact O b o (e.ext.no b o h1 h2 L) (e.ext.hh _ _ h2) L (λz=>by rw[(e.new i b (by rw[w];exact z)).2.1]at h2;cases h2)
 .by_cases z:j=i
  .subst z;rw[c! rfl];rw[Aw Mr]at J;cases J;exact⟨_,hσ,p,C,Q,ĥ,B',rfl,rfl,h0,ho,hp',Q_,hl',Yz⟩
  .rw [c? z];rw[AH (Bb z)]at J;obtain⟨u,h1,h2⟩:=e.own j t J;exact⟨u,h1,h2.frame sF λb g xs q=>keep b _ (λy=>e.kU j i b z g (by rw[w];exact y)) q⟩
 .by_cases z:j=i
  .subst z;rw[Aw Mr]at J;cases J
  .rw [AH (Bb z)]at J;exact e.bw j d J
 .split
  .exact nd'
  .exact e.jN j
 .have key:∀k,k≠i->b∈p::Q::B'->b∈A k->False:=λk hk z1 T=>by
   rcases (G b z1).2 with y |y
   .exact e.kU k i b hk T (by rw[w];exact y)
   .obtain ⟨_,_,xs,q,_⟩:=e.new k b T;rw[y]at q;cases q
  split at h1
  .split at h2
   .lia
   .rename_i z1 T;exact key k T h1 h2
  .split at h2
   .rename_i z1 T;exact key j z1 h2 h1
   .exact e.kU j k b ϱ h1 h2
 .split at g
  .have hh:H0 b=none:=by
    rcases (G b g).2 with y |y
    .exact (e.new i b (by rw[w];exact y)).2.1
    .exact e.ext.hh.free y
   refine⟨(G b g).1,hh,?_⟩;rcases AJ.mp g with y |y
   .rw [y];exact⟨_,hp',rfl⟩
   .rcases AJ.mp y with y |y
    .rw [y];exact⟨_,Q_,rfl⟩
    .exact Yz.uY b y
  .rename_i z;obtain⟨h1,h2,xs,L,M⟩:=e.new j b g;have ϰ:b∉p::dx::B:=λy=>e.kU j i b z g (by rw[w];exact y)
   exact⟨O b _ h1 L M ϰ,h2,xs,keep b _ ϰ L,M⟩
theorem gn (CV:dY K c ns)(M:m∉ns)(u:dJ K a O): bU K (jD (i' K c m (qO K n c ns sp) (dy i) a)) (xR c ns i n sp O):=λL J F H Y δ De En e l w=>by
 unfold xR at w;split at w
 .rename_i o c' t ts k;obtain⟨rfl,rfl,w⟩:=w;obtain⟨A,e⟩:=e;obtain⟨v,h,p,C,G,vs,B,rfl,U,z,Q,h1,h2,hl,T⟩:=e.own i _ k;refine⟨C,z,_,h,p,G,_,rfl,h1,eY M,?_⟩;refine u L J F H Y δ _ _ ⟨A,e⟩ w λds us F1 H1 g q r=>?_
  rw[A_];exact zI (SP:=λ_=>sp) ⟨A,e.on q⟩ k h l g.1 r g.2
 .exact w.elim
theorem zX (CV:dY K c ns)(hf:ns[j]?=a! f)(Q:m∉ns): bU K (jD (i' K c m (qO K 2 c ns sp) (dy i) (c9 (VC K "list" ZI (zE K (dy i) f)) gw))) (ri c ns i j sp):=λF0 H0 F H Y δ De En e l w=>by
 unfold ri at w;split at w
 .rename_i o c' n ts g;obtain⟨rfl,rfl,us,d,O,w⟩:=w;obtain⟨A,e⟩:=e;obtain⟨v,h,p,C',r,vs,B,rfl,eA,q,ho,k,U,T,h3⟩:=e.own i _ g;obtain⟨a,z,G,y,C,dx,fs,u,h1,h0,cl,L,hl,hc,M,J,h1b,e'⟩:=e.ť CV hf g O;rw[h]at u;cases u;refine⟨C',q,_,h,p,r,_,rfl,k,eY Q,?_⟩;refine⟨_,h,p,C,dx,fs,.ref z,rfl,h1,cl,L,hl,.inl ⟨rfl,_,eQ.of hc⟩,z,G,y,rfl,rfl,hc,M,?_⟩;have t:i<δ.length:=(Ab.mp g).1;exact zI (SP:=λ_=>sp) (δ:=δ.set i (a! (.own (.ob o c' n (ts.set j (.nl us)))))) e' (Aw t) h l (ds:=[d]) rfl (show bF K F [d] [y] from⟨y,[],rfl,J,rfl⟩) (by simpa only[List.set_set] using w)
 .exact w.elim
theorem gI (CV:dY K c ns)(hm:m∉ns)(h:dH K te E)(ha:kY K a As): eR K (i' K c m (cg K n sp) te a) (UO c ns n sp E As):=λF0 H0 F H Y δ P Q e w q=>by
 have key:(∃C,B5 K Aj c=a! (a! (.ref C)))->i' K c m (cg K n sp) te a Y H Q:=λ⟨C,U⟩=>by
  refine⟨C,U,?_⟩;refine h F0 H0 F H Y δ _ _ e w λd v F1 H1 k G O=>?_
  split at k
  .rename_i c' B fs;obtain⟨rfl,rfl,k⟩:=k;have z:=O;obtain⟨p,C',dx,vs,rfl,h0,h1,hl,h2⟩:=O;rw[U]at h0;cases h0;refine⟨p,dx,_,rfl,h1,eY hm,?_⟩;refine ha F0 H0 F1 H1 Y δ _ _ (e.on G) k λds us F2 H2 J u M=>?_
   rw[A_];have g:=G.trans u;refine⟨by rw[AQ,<- M.length];exact J.1,H2,.obj c' B fs::ds,_,a6.refl _,⟨.ref p,us,rfl,z.mono u.hh,M⟩,J.2,λr v F' H' p t r'=>?_⟩;have L:a6 F2 F':=u.fh.trans t.ff;have l:=fP L;obtain⟨A,a1,a2,a3⟩:=r';refine q r v (mm F2 F') H' p.2 (g.trans ⟨l.ff,t.hh,l.fh.trans t.fh,λb o z1 z2 z3=>?_⟩) ⟨A,a1.lf L p.1,a2,λb T=>⟨g.hh.free (a3 b T).1,l.fh.free (a3 b T).2⟩⟩;exact l.no b o z1 (t.ff _ _ z2) z3
  .exact k.elim
 exact key ⟨_,CV.ex.choose_spec.1⟩
theorem M0 {SP:Hp->qt}(CV:dY K c ns)(ha:dJ K a As)(hS:∀F ds P,a6 F0 F->sp [] ds P->SP F [] ds P): i7 K F0 H0 (vt K c (RK K n c ns SP) a) (Oy c ns n sp As):=λF H Y δ P Q e w q=>by
 obtain⟨C,J,_⟩:=CV.ex;refine⟨C,J,ha F0 H0 F H Y δ _ _ e w λds us F1 T w1 g r1=>λx t r hd k=>?_⟩;rw[A_];have p:a6 T (cQ (cQ T t (.own x)) x (.ins C t [])):=λb o z=>a9 (λy=>by rw[y,r]at z;cases z) (a9 (λy=>by rw[y,hd]at z;cases z) z)
 refine⟨by rw[AQ,<- r1.length];exact w1.1,F1,x,C,t,[],[],[],us,ds,_,rfl,J,g.fh.trans p,(by rw[List.zip_nil_right];exact aZ),a9 k aZ,By _,⟨rfl,rfl⟩,?_,λb B=>?_,r1,hS F1 ds _ (e.ext.ff.trans g.ff) w1.2,?_⟩
 .simp only[AG,AJ,Cn,or_false,not_false_eq_true,CB,and_true];exact λz=>k z.symm
 .rcases AJ.mp B with z |z
  .rw [z];exact g.fh.free r
  .rw [AV.mp z];exact g.fh.free hd
 intro ts' F' H' l v B' pt sF sH keep O A G L M u h;have s1:∀b o,T b=a! o->b∉x::t::([]:List Ae):=λb o z y=>by
  rcases AJ.mp y with y |y
  .rw [y,r]at z;cases z
  .rw [AV.mp y,hd]at z;cases z
 refine⟨rfl,q _ _ F' H' pt (g.trans ⟨sF,λb o z=>keep b o (s1 b o z) (p _ _ z),sH,λb o z1 U z3=>O b o z1 (p _ _ U) z3 (s1 b o U)⟩) ⟨x::l::B',⟨x,C,l,v,B',rfl,rfl,J,(λ_ z=>by cases z),A,G,L,M⟩,u,λb B=>⟨?_,(h b B).1⟩⟩⟩;rcases (h b B).2 with y |y
 .rcases AJ.mp y with y |y
  .rw [y];exact g.hh.free r
  .rw [AV.mp y];exact g.hh.free hd
 .exact g.hh.free (p.free y)
theorem NG (C:dY K c ns)(A:dJ K a e): eR K (vt K c (qO K n c ns sp) a) (Oy c ns n sp e):=λk g=>M0 C A λ_ _ _ _ h=>h
end
section
variable {P:AA}{w:AR}{K:Aq}{mg:Al->Option Aa}{base:Heap}{c m q:Al}{ns:List Al}{st:A6}{f:Ae}{fd:A8}{N ps:List Al}{k n:Nat}
theorem nW {F H:Hp}{a C g:Ae}{ts:List OV}{e da:List V}{B:List Ae}{ds:List D}(M:B5 K Aj c=a! (a! (.ref C)))(J:a6 F H)(A:H a=a! (.ins C g (ns.zip e)))(hd:H g=a! (.own a))(l:ts.length<=ns.length)(G:bu K F H ts e B)(u:(a::g::B).Nodup)(r:∀b∈a::g::B,F b=a?)(h:bF K F ds da):
  ER K F (λb=>if b∈a::g::B then a? else H b) F H (start N (V.ref a::da)) (fb N c ns a ts ds) (λj=>if j=0 then a::g::B else []):=by
 have hl:=h.length;refine⟨by simp[start,fb,hl],⟨a6.refl _,λb o z=>?_,J,λ_ _ z _ _=>z⟩,λi t hi=>?_,λi d hi=>?_,λj=>?_,λj k b L y1 y2=>?_,λj b p=>?_⟩
 .split at z
  .cases z
  .exact z
 .unfold fb at hi
  cases i with
  |zero=>
   simp at hi
   subst hi;exact⟨.ref a,rfl,a,C,g,e,B,rfl,rfl,M,(λ_ z=>AY z),A,hd,l,G⟩
  |succ i=>
   rw[BY]at hi;by_cases z:i<ds.length
   .rw [A9 (by simpa using z),AK,Ad z]at hi;simp at hi
    subst hi;obtain⟨v,g1,g2⟩:=h.get (Ad z);refine⟨v,?_,rfl,g2⟩;unfold start;rw[BU,CY,BY,A9 (by simp;lia),AK,g1];rfl
   .rw [Bi (by simpa using z)]at hi;have:=Ai hi;rw[CO]at this;cases this.2
 .unfold fb at hi
  cases i with
  |zero=>simp at hi
  |succ i=>
   rw[BY]at hi;by_cases z:i<ds.length
   .rw [A9 (by simpa using z),AK]at hi;simp at hi
   .rw [Bi (by simpa using z)]at hi;have:=Ai hi;rw[CO]at this;cases this.2
 .split
  .exact u
  .exact CB
 .split at y1
  .split at y2
   .lia
   .cases y2
  .cases y1
 .split at p
  .refine ⟨r b p,c! p,?_⟩;rcases AJ.mp p with y |y
   .rw [y];exact⟨_,A,rfl⟩
   .rcases AJ.mp y with y |y
    .rw [y];exact⟨_,hd,rfl⟩
    .exact G.uY b y
  .cases p
theorem wI {SP:Hp->qt}(Fn:QM K m q st f fd)(S:aR N ps (aB st))(hn:n=ps.length)
  (O:∀(j:Aa) (A:AN) (outer:List Ed) (s:Af) (H:Hp) (E:XK),cB k (A.deeper (Bt q (aB st) s.heap.objs.size f j))->
   ∃t T,PSs (du jT P w K mg base N q (aB st) f j A outer s H E).lE (br st) t/\∀(F H0:Hp) (a:Ae) ts ds r,SP F ts ds r->gY K F H0 t T/\T {nx:=λδ=>∃g,δ[0]?=a! (a! (.own (.ob (a! a) c ns g)))/\r g,rt:=λ_=>False} (fb N c ns a ts ds)):
  fR P w K mg base jT (k+1) f fd ps (RK K n c ns SP):=
 Fn.ok S (λvs H Q E h=>by rw[<- hn];exact h.1) λj A outer s H vs Q E hr h=>by
  obtain⟨_,F,a,C,dx,ts,vs0,B,da,ds,r,rfl,hC,hs,ha,hd,L,hB,U,M,J,G,hq⟩:=h;obtain⟨t,T,h1,h2⟩:=O j A outer s H E hr;obtain⟨h2,h3⟩:=h2 F (λb=>if b∈a::dx::B then a? else H b) a ts ds r G;have er:=nW (N:=N) hC hs ha hd L hB U M J;refine⟨t,h1,h2 F H (start N (V.ref a::da)) (fb N c ns a ts ds) {nx:=λδ=>∃g,δ[0]?=a! (a! (.own (.ob (a! a) c ns g)))/\r g,rt:=λ_=>False} _ ⟨_,er⟩ ⟨λF' H' Y δ e p=>?_,λ_ _ _ _ _ z=>z.elim,λ_ _ _ _ _ z=>z.elim,λ_ _ _ _ _ _ z=>z.elim⟩ h3⟩;obtain⟨A',e⟩:=e;obtain⟨g,h0,hp⟩:=p;obtain⟨v,hv,a',C',Ϸ,u,B',rfl,eA,g0,go,g1,g2,g3,g4⟩:=e.own 0 _ h0;obtain rfl:=go a rfl;rw[hC]at g0;cases g0;have l:=e.jN 0;rw[eA]at l;refine hq g F' H' Ϸ u B' hp e.ext.ff e.ext.fh (λb o y z=>?_) (λb o y1 y2 y3 y4=>?_) g1 g2 g3 g4 l (λb hb=>?_)
  .exact e.ext.hh b o (by rw[c? y];exact z)
  .exact e.ext.no b o y1 (by rw[c? y4];exact y2) y3
  .obtain ⟨z1,z2,_⟩:=e.new 0 b (by rw[eA];exact hb);refine⟨z1,?_⟩;by_cases q:b∈a'::dx::B
   .exact .inl q
   .rw [c? q]at z2;exact .inr z2
theorem c6.of (g:fv K c m q st f fd)(S:aR N ps (aB st))
  (B:∀(kV O pm:Aa) (G:Option Ae) (v ct:Aa) (us:List Aa),us.length=ps.length->BQ (DC m q (bT st) (br st) (aB st) .none kV O pm G v ct) ⟨us,[]⟩=pure (ps.zip us)) (hn:n=ps.length)
  (o:∀(v:Aa) (A:AN) (outer:List Ed) (s:Af) (H:Hp) (E:XK),cB k (A.deeper (Bt q (aB st) s.heap.objs.size f v))->
   ∃t T,PSs (du jT P w K mg base N q (aB st) f v A outer s H E).lE (br st) t/\bU K t T/\∀(a:Ae) ts ds r,sp ts ds r->T {nx:=λδ=>∃e,δ[0]?=a! (a! (.own (.ob (a! a) c ns e)))/\r e,rt:=λ_=>False} (fb N c ns a ts ds)):
  c6 P w K mg base c m (k+1) ps (qO K n c ns sp):=by
 obtain⟨C,l,L,M⟩:=g.cl;exact⟨C,f,fd,l,L,M,wI (SP:=λ_=>sp) g.fn S hn λz A u s H E j=>let⟨t,T,h1,h2,p⟩:=o z A u s H E j;⟨t,T,h1,λF J a ts ds r h=>⟨h2 F J,p a ts ds r h⟩⟩,g.fn.binds B⟩
theorem ur.of (g:QM K m q st f fd)(L:zj K mg c f)(S:aR N ps (aB st))
  (B:∀(kV O pm:Aa) (J:Option Ae) (v ct:Aa) (us:List Aa),us.length=ps.length->BQ (DC m q (bT st) (br st) (aB st) .none kV O pm J v ct) ⟨us,[]⟩=pure (ps.zip us)) (hn:n=ps.length)
  (o:∀(v:Aa) (A:AN) (outer:List Ed) (s:Af) (H:Hp) (E:XK),cB k (A.deeper (Bt q (aB st) s.heap.objs.size f v))->
   ∃t T,PSs (du jT P w K mg base N q (aB st) f v A outer s H E).lE (br st) t/\bU K t T/\∀(a:Ae) ts ds r,sp ts ds r->T {nx:=λδ=>∃e,δ[0]?=a! (a! (.own (.ob (a! a) c ns e)))/\r e,rt:=λ_=>False} (fb N c ns a ts ds)):
  ur P w K mg base c (k+1) ps (qO K n c ns sp):=by
 obtain⟨C,p,M,l⟩:=L.cl;exact⟨C,f,fd,p,M,l,wI (SP:=λ_=>sp) g S hn λG A u s H E j=>let⟨t,T,h1,h2,z⟩:=o G A u s H E j;⟨t,T,h1,λF Q a ts ds r h=>⟨h2 F Q,z a ts ds r h⟩⟩,g.binds B⟩
theorem XG.of (G:fv K c m q st f fd)(S:aR N ps (aB st))
  (hb:∀(kV O pm:Aa) (an:Option Ae) (a ct:Aa) (us:List Aa),us.length=ps.length->BQ (DC m q (bT st) (br st) (aB st) .none kV O pm an a ct) ⟨us,[]⟩=pure (ps.zip us)) (hn:n=ps.length)
  (o:∀(a:Aa) (A:AN) (outer:List Ed) (s:Af) (H:Hp) (E:XK),cB k (A.deeper (Bt q (aB st) s.heap.objs.size f a))->
   ∃t T,PSs (du jT P w K mg base N q (aB st) f a A outer s H E).lE (br st) t/\bU K t T/\∀ds g,sp ds g->T {nx:=λ_=>g (.fz .cA),rt:=g} (c5 N ds)): c6 P w K mg base c m (k+1) ps (cg K n sp):=by
 obtain⟨C,hC,cl,U⟩:=G.cl;refine⟨C,f,fd,hC,cl,U,G.fn.ok S (λvs H Q E h=>by rw[<- hn];exact h.1) λa A outer s H vs Q E M h=>?_,G.fn.binds hb⟩;obtain⟨_,F,ds,g,L,l,j,J⟩:=h;obtain⟨t,T,h1,h2,h3⟩:=o a A outer s H E M;refine⟨t,h1,h2 F H F H (start N vs) (c5 N ds) {nx:=λ_=>g (.fz .cA),rt:=g} _ ⟨_,ew L l⟩ ⟨λB u Y δ e p=>?_,λ_ _ _ _ _ z=>z.elim,λ_ _ _ _ _ z=>z.elim,λB u r v x n p=>J r v B u p x n⟩ (h3 ds g j)⟩;exact J _ _ B u p e.ext (.fz rfl)
end
end L2
namespace PySem
section
variable {prog:AA}{w:AR}{A:AN}{E:Aa->Af->Prop}{s:Af}
theorem Mj:Gg (.type "list_reverseiterator") "__len__"=pure none:=by rw[CL];kernel_rfl
theorem Ub:Gg (.type "list_reverseiterator") "__length_hint__"=pure (a! (.builtin "list_reverseiterator.__length_hint__")):=by rw[CL];kernel_rfl
theorem qw {I l:Ae}{i:Int}{Q:Bool->Af->Prop}(r:s.heap.IsRevIter I l i)(h:Q b? s):AI (model prog w) A (Kg (.ref I)) Q E s:=by
 refine Ac (Ev r.typeIs Mj ?_);refine Ac (Ev r.typeIs Ub ?_);generalize ϲ:("list_reverseiterator.__length_hint__":String)=c
 wp_delta
 subst ϲ;refine Ac (Fb (T := "list_reverseiterator") (b:=b!) r.typeIs (by rw[DG];kernel_rfl) ?_);refine G1 (λa=>absurd a (by decide)) (λ_=>?_);refine G1 (λ_=>?_) (λa=>absurd (by decide +kernel) a);exact AD h
theorem nO {R:Gj->Af->Prop}{I l:Ae}{items:Array Aa}(t:A.handled=a?)(r:s.heap.IsRevIter I l ((items.size:Int)-1))(hl:s.heap.IsList l items)(q:items.size<=2^24)
  (S:Ae) (res:Aa) (c:Nat) (z:s.heap.get? S=a! {cls:=.type "list",data:=.seq #[] c}) (g:S≠I) (k:S≠l) (L:l≠I)
  (G:∀h' tk a c',(∀b o,b≠S->b≠I->s.heap.get? b=a! o->h'.get? b=a! o)->h'.get? S=a! {cls:=.type "list",dict:=a?,data:=.seq a c',slots:=#[]}->
   JP (λi v=>items[items.size-1-i]?=a! v) a items.size->R (.ok (.ret res)) {s with heap:=h',toks:=tk}):
  AI (model prog w) A.in1 (Kh (.ref S) (.ref I) res)
   (λfin s'=>match fin with | .done f=>R (.ok f) s' | .again c'=>c'.quiet=b!/\Cf (model prog w) A c' R s') (λe s'=>R (.error e) s') s:=by
 have n:S∉[I,l]:=λm=>by
  rcases AJ.mp m with e |e
  .exact g e
  .exact k (AV.mp e)
 have W:=(Walks.listRev (prog:=prog) (w:=w) (A:=A.in1) t I l L items).toS;refine Ac (wpAny_typeOf r.typeIs ?_);have h1:FU (.ref S) (.ref I)=false:=by simp[FU,g]
 have h2:(EM "list_reverseiterator"==EM "list")=false:=rfl;have J:(EM "list_reverseiterator"==EM "tuple")=false:=rfl;simp only[h1,if_false];refine Ac (wpAny_pyIter_revIter r ?_);refine Ac (DZ (qw r ?_));refine G1 (λj=>absurd j (by decide)) (λ_=>AD ⟨plainId_quiet F.plain_extend_loop _,?_⟩);refine codeAny_extend_loopS W (by rw[CC];omega) S n res items.size 0 _ #[] c rfl (By _) ⟨By _,by simpa using r,hl⟩ z (L9 _) λs' a c' m p C=>?_
 rw[Moved.eq_with m];refine G s'.heap s'.toks a c' (λb o u B e=>m.heap b o (λh=>?_) e) p C;rcases AJ.mp h with e' |h
 .exact u e'
 .exact B (AV.mp h)
theorem lB {R:Gj->Af->Prop}{I l:Ae}{items:Array Aa}(u:A.handled=a?)(r:s.heap.IsRevIter I l ((items.size:Int)-1))(hl:s.heap.IsList l items)(n:items.size<=2^24)
  (S:Ae) (p:s.heap.get? S=a! {cls:=.type "list",data:=.seq #[]}) (g:S≠I) (L:S≠l) (j:l≠I)
  (z:∀h' tk a c',(∀b o,b≠S->b≠I->s.heap.get? b=a! o->h'.get? b=a! o)->h'.get? S=a! {cls:=.type "list",dict:=a?,data:=.seq a c',slots:=#[]}->
   JP (λi v=>items[items.size-1-i]?=a! v) a items.size->R (.ok (.ret .none)) {s with heap:=h',toks:=tk}):
  AI (model prog w) A.in1 (Cm.«list.__init__» ⟨[.ref S,.ref I],[]⟩)
   (λfin s'=>match fin with | .done f=>R (.ok f) s' | .again c'=>c'.quiet=b!/\Cf (model prog w) A c' R s') (λe s'=>R (.error e) s') s:=by
 refine Ac ?_;refine Ac (Ct p rfl (AD ?_));refine Ac (Fz p rfl ?_);have h:=Cy (Cw (λ_=>(#[]:Array Aa))) p rfl;have t:∀b o,b≠S->s.heap.get? b=a! o->(s.heap.update S (Cw (λ_=>(#[]:Array Aa)))).get? b=a! o:=
  λb o B e=>(Ck _ _ (Bb B)).trans e
 refine nO u (r.at λo e=>t I o (Bb g) e) (hl.at λo e=>t l o (Bb L) e) n S .none _ h g L j λh' tk a c' q m c=>?_
 exact z h' tk a c' (λb o B k e=>q b o B k (t b o B e)) m c
theorem t_ {Q:Aa->Af->Prop}{I l:Ae}{items:Array Aa}(m:A.handled=a?)(r:s.heap.IsRevIter I l ((items.size:Int)-1))(hl:s.heap.IsList l items)(n:items.size<=2^24)(L:l≠I)
  (p:∀h' tk a c',(∀b o,b≠I->s.heap.get? b=a! o->h'.get? b=a! o)->
   h'.get? s.heap.objs.size=a! {cls:=.type "list",dict:=a?,data:=.seq a c',slots:=#[]}->JP (λi v=>items[items.size-1-i]?=a! v) a items.size->Q (.ref s.heap.objs.size) {s with heap:=h',toks:=tk}):
  AI (model prog w) A (call (.type "list") [.ref I]) Q E s:=by
 refine callType_codes (Q₁:=λobj c=>obj = .ref s.heap.objs.size/\c={s with heap:=s.heap.push {cls:=.type "list",data:=.seq #[]}}) F.called_list (F.typeCall_list_1 _) F.entry_list_init
  (code_list_new _ ⟨rfl,rfl⟩) λobj c h=>?_
 obtain⟨rfl,rfl⟩:=h;have j:(s.heap.push {cls:=.type "list",data:=.seq #[]}).get? s.heap.objs.size=a! {cls:=.type "list",data:=.seq #[]}:=Av _ rfl;obtain⟨q,f,_⟩:=id r;obtain⟨ol,O,_⟩:=id hl;refine⟨⟨_,j,rfl⟩,F.args_list_init_2 _ _,lB (A:=A.in1) m (r.at λo e=>Ah _ e) (hl.at λo e=>Ah _ e) n _ j (Bb (Bq (AU f))) (Bb (Bq (AU O))) L λh' tk a c' k g C=>?_⟩;exact⟨rfl,p h' tk a c' (λb o B e=>k b o (Bq (AU e)) B (Ah _ e)) g C⟩
end
end PySem
namespace L2
open PySem PySem.Spec PyProof.Rows
def yQ (A:DA):DO:=λδ P=>A δ λds=>match ds with
 | [.lst xs]=>D.jU xs=b!/\xs.length<=1000000/\P (.nl (xs.reverse.map .fz))
 |_=>False
section
variable {X:Cx}{K:Aq}
def xA (K:Aq)(t:TA):TE:=λY H Q=>t Y H λvs c=>∃a xs,vs=[.ref a]/\eQ K c a xs/\xs.length<=1000000/\∀p e,c p=a?->a6 c e->e p=a! (.lst xs.reverse)->Q (.ref p) e
theorem Rq (r:bQ xs t)(h:JP (λi v=>t.toArray[t.toArray.size-1-i]?=a! v) c t.toArray.size): bQ xs.reverse c.toList:=by
 have g:bQ xs.reverse t.reverse:=by
  clear h
  induction r with
  |nil=>exact .nil
  |cons a r f=>
   rw[Fv,Fv];exact f.append (.cons a .nil)
 have e:c.toList=t.reverse:=by
  obtain⟨h1,h2⟩:=h;have j:c.size=t.length:=h1;refine DP λi=>?_
  by_cases hi:i<t.length
  .rw [Ce hi];have A:i<c.size:=by lia
   have q:=h2 i c[i] (by simp);rw[E8,GJ A,<- q];simp
  .rw [Bd (by simp;lia),Bd (by simp;lia)]
 rw[e];exact g
theorem rE (hg:Gl X "list")(M:X.mg "list"=a?)(hc:X.calm=b!)(m:X.mg "reversed"=a?)(ha:PA X [a] T)(G:Gl X "reversed":=by rfl)
  (B:Ap [a] X.env=[(b?,eval a X.env)]:=by rfl)
  (g:Ap [KI (.Name "reversed" k) [a] [] pos'] X.env=[(b?,eval (KI (.Name "reversed" k) [a] [] pos') X.env)]:=by rfl):
  PE X (.Call (.Name "list" p) [.Call (.Name "reversed" k) [a] [] pos'] [] pos) (xA X.K T):=by
 intro pins s Y H Q I h;refine Hr (fY I hg M Bn (Ba ?_ g rfl));refine HD ?_;refine Hr (fY I G m DD (Ba (cJ (ha pos' pins s Y H _ I h) λus c n=>?_) B rfl));obtain⟨vs,H1,j,v,w⟩:=n;obtain⟨l,xs,e,C,f,q⟩:=w;subst e;obtain⟨u,rfl,U⟩:=j4 v;cases U;obtain⟨t,r,pt,hz⟩:=j.list C;have hl:=r.length;refine PySem.call_reversed_list pt.isList ?_;refine HV ?_;have I2:bC X pins Y H1 {c with heap:=c.heap.push (LW l ((t.toArray.size:Int)-1)),toks:=c.toks}:=j.kept λb o e=>Ah _ e
 obtain⟨ol,O,_⟩:=id pt.isList;have L:=AU O;refine PySem.t_ (I.ok.hd hc) ⟨_,Av _ rfl,rfl,rfl⟩ (pt.isList.at λo e=>Ah _ e) (by rw[Am];lia) (Bq L) λh' tk A c' hk J hit=>?_
 have hf:=I2.cL.fresh (Ag _);have z:(c.heap.push (LW l ((t.toArray.size:Int)-1))).objs.size=c.heap.objs.size+1:=by simp
 refine⟨.ref _,_,j.laid (t':=tk) (o:=.lst xs.reverse) (λb o e=>hk b o (Bq (AU e)) (Ah _ e)) (by rw[z];exact JR _) ⟨?_,A.toList,c',Rq r hit,?_⟩,rfl,q _ _ hf (a6.new hf) aZ⟩
 .rw [B4];exact eS f
 .simpa using J
theorem rh (h:kY K a A): eR K (xA K a) (yQ A):=λu n F H Y δ P Q e w q=>h u n F H Y δ _ _ e w λds vs t l f c r=>by
 split at f
 .obtain ⟨v,rfl,⟨a,us,rfl,h1,h2⟩⟩:=h8 r;refine⟨a,us,rfl,h1,by rw[<- h2.length];exact f.2.1,λp o g m j=>?_⟩;have k:=(bF.lf c.fh h2 f.1).reverse;refine q _ _ (mm t l) o f.2.2 (c.trans ((fP c.fh).trans (cy.grow (fP c.fh).fh m))) ?_;exact e8.list (c.hh.free g) ((fP c.fh).fh.free g) j k
 .exact f.elim
end
def YQ (E L:DE):DE:=λδ P=>E δ λd=>match d with
 | .str x=>L δ λl=>match l with
  | .lst ds=>∃ys:List Al,ds=ys.map D.str/\(ys.map (·.length)).sum+ys.length*x.length<=16777216/\P (.str (F7 x ys))
  |_=>False
 |_=>False
def U':xp:=λx y P=>match x,y with
 | .str x,.str y=>x.length+y.length<=1000000/\P (.str (x++y))
 |_,_=>False
section
variable {X:Cx}{K:Aq}
def Yf (K:Aq):V->List V->Hp->VK->Prop:=λx vs H Q=>∃sep p xs,∃ys:List Al,x = .str sep/\vs=[.ref p]/\eQ K H p xs/\xs=ys.map V.str/\(ys.map (·.length)).sum+ys.length*sep.length<=16777216/\Q (.str (F7 sep ys)) H
theorem mB:∀{ys:List Al} {us:List Aa},bQ (ys.map V.str) us->StrsAre us ys
 | [],us,r=>by rw[JT]at r;cases r;exact .nil
 |y :: ys,us,r=>by
  cases r with
  |cons c a=>
   obtain⟨t,e⟩:=c;subst e;exact .cons y t (mB a)
theorem WM:MtR X "str.join" (Yf X.K):=by
 intro pins s Y H x xs v us Q I a r h;obtain⟨sep,p,z,ys,rfl,rfl,e,rfl,B,q⟩:=h;obtain⟨t,rfl⟩:=a;obtain⟨u,rfl,U⟩:=j4 r;cases U;obtain⟨T,c,pt,f⟩:=I.list e;refine Ki pt.isList (by simpa using mB c) B λt' k=>⟨.str _,H,I.tok k,⟨_,rfl⟩,q⟩
theorem WE:zi K (λx y H Q=>∃i j,x = .str i/\y = .str j/\i.length+j.length<=AL/\Q (.str (i++j)) H) U':=λF H x y v u P Q s a r w q=>by
 unfold U' at w;split at w
 .cases a;cases r
  exact⟨_,_,rfl,rfl,eS w.1,q _ _ F H w.2 (cy.refl s) rfl⟩
 .exact w.elim
def SV:V->Option Int->Option Int->Hp->VK->Prop:=λx lo hi H Q=>∃z,x = .str z/\z.length<=AL/\Q (.str (DI z lo hi)) H
theorem RM:ą X SV:=by
 intro pins s Y H x v L g lo hi j Q I r c pl U h;obtain⟨z,rfl,a,q⟩:=h;obtain⟨t,rfl⟩:=r;refine⟨"str",_,F.slot_str_getitem.lookup,LS _ _ _,?_⟩;have fin:∀t' k,EP X pins Y Q (.str (DI z lo hi) t') {s with toks:=k}:=λt' k=>⟨.str _,H,I.tok k,⟨_,rfl⟩,q⟩
 have p:∀{v:Aa} {o:Option Int},KG v o->∃l:Option (Int×LF),v=partValue l/\l.map (·.1)=o:=λh=>by
  cases h with
  |none=>exact⟨a?,rfl,rfl⟩
  |int i t=>exact⟨a! (i,t),rfl,rfl⟩
 obtain⟨l,rfl,f⟩:=p pl;obtain⟨u,rfl,e⟩:=p U;subst f e;exact wpAny_getItem_str_slice (st:=a?) c rfl (post_val_or_str ⟨Bz (Txt.slice_le z _ _) a,λt' k=>fin t' k⟩)
theorem V9 (h:dH K t E)(A:dH K T L): cO K (VD K "str" (Yf K) t (c9 T gw)) (YQ E L):=λk j F H Y δ P Q e w q=>h k j F H Y δ _ _ e w λd v J C f g o=>by
 split at f
 .rename_i x
  cases (show v=V.str x from o)
  refine⟨rfl,A k j J C Y δ _ _ (e.on g) f λl u G z c m n=>?_⟩;split at c
  .obtain ⟨ys,rfl,B,c⟩:=c;obtain⟨a,us,rfl,h1,h2⟩:=n;have U:us=ys.map V.str:=by
    clear h1 B c
    induction ys generalizing us with
    |nil=>exact h2
    |cons y ys p=>
     obtain⟨v,r,rfl,g1,g2⟩:=h2;rw[p _ g2,show v=V.str y from g1];rfl
   exact⟨x,a,us,ys,rfl,rfl,h1,U,B,q _ _ G z c (g.trans m) rfl⟩
  .exact c.elim
 .exact f.elim
def Ű (E:DE)(L U:ĝ):DE:=λδ P=>E δ λd=>L δ λlo=>U δ λhi=>match d with
 | .str z=>z.length<=1000000/\P (.str (DI z lo hi))
 |_=>False
theorem Su (m:cO K A J)(hl:QK K T L)(u:QK K t U): cO K (tSl SV A T t) (Ű J L U):=λg f F H Y δ P Q e w q=>
 m g f F H Y δ _ _ e w λd v G p l c r=>hl g f G p Y δ _ _ (e.on c) l λlo C o k h=>u g f C o Y δ _ _ (e.on (c.trans h)) k λhi B n a j=>by
  split at a
  .rename_i z
   cases (show v=V.str z from r)
   exact⟨z,rfl,eS a.1,q _ _ B n a.2 (c.trans (h.trans j)) rfl⟩
  .exact a.elim
theorem nh:∀{ds:List D} {vs:List V},bF K F ds vs->vs.isEmpty=ds.isEmpty
 | [],vs,h=>by cases (show vs=[] from h);rfl
 |d::ds,vs,h=>by obtain⟨v,r,rfl,_⟩:=h;rfl
theorem R8 (h:dH K t E): i6 K (λY H Q=>t Y H λx c=>∃k,ă K x c k/\Q k c) (UM E):=λm l F H Y δ P Q e w q=>h m l F H Y δ _ _ e w λd v j c f g r=>by
 split at f
 .cases r;exact⟨_,rfl,q _ j c f g⟩
 .rename_i i;cases r;refine⟨_,rfl,q _ j c ?_ g⟩;rw[show (i != 0)=decide (i≠0) by rw[C8];simp];exact f
 .obtain ⟨a,vs,rfl,h1,h2⟩:=r;exact⟨_,.inl ⟨vs,h1,by rw[nh h2]⟩,q _ j c f g⟩
 .obtain ⟨a,vs,rfl,h1,h2⟩:=r;exact⟨_,.inr (.inl ⟨vs,h1,by rw[nh h2]⟩),q _ j c f g⟩
 .cases r;exact⟨_,rfl,q _ j c f g⟩
 .exact f.elim
end
noncomputable def vE (x:Al):List Al:=x.cps.toList.map λc=>⟨#[c]⟩
def ŷ (E:DE):DA:=λδ P=>E δ λd=>match d with
 | .str x=>P ((vE x).map D.str)
 |_=>False
section
variable {X:Cx}{K:Aq}
noncomputable def Itx (x:Al):It:=⟨λi _=>i<x.cps.size,λi H v a=>a=H/\∃c,x.cps[i]?=a! c/\v = .str ⟨#[c]⟩,λi _=>x.cps.size<=i⟩
theorem xx (it:Ae)(x:Al)(t:LF): uk P w K tg (Itx x) [it] it (λi h=>i<=x.cps.size/\(h.IsStrIter it "str_ascii_iterator" x t i∨h.IsStrIter it "str_iterator" x t i)) where
 mem:=by simp
 obj:=λi h st b hb=>by
  have e:b=it:=by simpa using hb
  subst e;rcases st.2 with⟨o,ho,_,hd⟩ | ⟨o,ho,_,hd⟩
  .exact ⟨o,ho,λv z=>by rw[hd]at z;cases z⟩
  .exact ⟨o,ho,λv z=>by rw[hd]at z;cases z⟩
 keep:=λi h h' st k=>⟨st.1,st.2.imp (λ⟨o,e,r⟩=>⟨o,k it (by simp) o e,r⟩) (λ⟨o,e,r⟩=>⟨o,k it (by simp) o e,r⟩)⟩
 item:=by
  intro X hP hw hK hc i pins s Y H E I hf st hg;have hi:i<x.cps.size:=hg;obtain⟨f0,f1,f2,f3,f4,f5⟩:=hf it (by simp);have hx:x.cps[i]?=a! x.cps[i]:=GJ hi;rcases st.2 with vx |vx
  .refine PySem.wpAny_pyNext_ascii_item vx hx λh' Nj sb=>?_
   have I1:bC X pins Y H {s with heap:=h',toks:=s.toks+1}:=I.turned (t':=s.toks+1) (λb o hb e=>(sb.2 b hb).trans e) f0 f1 f3 f4 f5;obtain⟨o,ho,Ra,Q_⟩:=id Nj;exact⟨_,rfl,pw (s:={s with heap:=h',toks:=s.toks+1}) (n := "str_ascii_iterator") ho Ra Q_ rfl ⟨.str ⟨#[x.cps[i]]⟩,H,I1,⟨_,rfl⟩,⟨rfl,_,hx,rfl⟩,⟨by lia,.inl Nj⟩,λb hb=>(hf b hb).1⟩⟩
  .refine PySem.wpAny_pyNext_wide_item vx hx λh' Nj sb=>?_
   have I1:bC X pins Y H {s with heap:=h',toks:=s.toks+1}:=I.turned (t':=s.toks+1) (λb o hb e=>(sb.2 b hb).trans e) f0 f1 f3 f4 f5;obtain⟨o,ho,Ra,Q_⟩:=id Nj;exact⟨_,rfl,pw (s:={s with heap:=h',toks:=s.toks+1}) (n := "str_iterator") ho Ra Q_ rfl ⟨.str ⟨#[x.cps[i]]⟩,H,I1,⟨_,rfl⟩,⟨rfl,_,hx,rfl⟩,⟨by lia,.inr Nj⟩,λb hb=>(hf b hb).1⟩⟩
 done:=by
  intro X hP hw hK hc i pins s Y H E I hf st hg;obtain⟨f0,f1,f2,f3,f4,f5⟩:=hf it (by simp);have hx:x.cps[i]?=none:=Array.getElem?_eq_none hg;rcases st.2 with vx |vx
  .exact PySem.wpAny_pyNext_ascii_end (I.ok.hd hc) vx hx λh' eb=>⟨rfl,I.turned (t':=s.toks) (λb o hb e=>eb b o hb e) f0 f1 f3 f4 f5⟩
  .exact PySem.wpAny_pyNext_wide_end (I.ok.hd hc) vx hx λh' eb=>⟨rfl,I.turned (t':=s.toks) (λb o hb e=>eb b o hb e) f0 f1 f3 f4 f5⟩
 self:=λ_ _ _ _ _ st h=>by
  rcases st.2 with vx |vx
  .exact PySem.wpAny_pyIter_striter_ascii vx h
  .exact PySem.wpAny_pyIter_striter_wide vx h
def Ŗ (t:TE):TI:=λY H R=>t Y H λv a=>∃x,v = .str x/\R (Itx x) a
theorem ZS (g:PE X l T): PI X G l (Ŗ T):=by
 intro pins s Y H R I h;refine cJ (g pins s Y H _ I h) λu a z=>?_
 obtain⟨v,f,c,r,Q⟩:=z;obtain⟨x,e,q⟩:=Q;subst e;obtain⟨t,rfl⟩:=r
 cases A:x.cps.all (· < 128)
 .refine PySem.wpAny_pyIter_wide A ?_;refine⟨a.heap.objs.size,[a.heap.objs.size],_,_,f,rfl,c.kept (t':=a.toks) λb o e=>Ah _ e,xx a.heap.objs.size x t,⟨By _,.inr ⟨_,Av _ rfl,rfl,rfl⟩⟩,λb B=>?_,q⟩;have e:b=a.heap.objs.size:=by simpa using B
  subst e;exact c.pS (Ag _) (c.cL.fresh (Ag _))
 .refine PySem.wpAny_pyIter_ascii A ?_;refine⟨a.heap.objs.size,[a.heap.objs.size],_,_,f,rfl,c.kept (t':=a.toks) λb o e=>Ah _ e,xx a.heap.objs.size x t,⟨By _,.inl ⟨_,Av _ rfl,rfl,rfl⟩⟩,λb B=>?_,q⟩;have e:b=a.heap.objs.size:=by simpa using B
  subst e;exact c.pS (Ag _) (c.cL.fresh (Ag _))
theorem Zw (h:dH K t E): mq K (Ŗ t) (ŷ E):=λk f F H Y δ P R e w q=>h k f F H Y δ _ _ e w λd v l g p x r=>by
 split at p
 .rename_i z
  cases (show v=V.str z from r)
  refine⟨z,rfl,q _ _ l g p x λj o m a=>?_⟩;have hl:((vE z).map D.str).length=z.cps.size:=by simp[vE]
  rw[hl];refine⟨λi hi=>hi,Ag _,λi v n hi y=>?_⟩;obtain⟨rfl,c,hc,rfl⟩:=y;refine⟨.str ⟨#[c]⟩,j,?_,cy.refl a,rfl⟩;simp[vE,hc]
 .exact p.elim
end
section
variable {X:Cx}{K:Aq}
end
section
variable {K:Aq}{c f:Al}{ns:List Al}{j:Nat}{ta:TE}{E:DE}
end
section
variable {X:Cx}{tg elt iter cd:Expr}{scope:BM}{N:List Al}{ix:List (Option Nat)}{wi:TI}{g:TG}{tc:TT}{te:TE}{pos:Ew}
end
section
variable {K:Aq}{te:TE}{Eo:DO}
end
theorem nN {x y:Nat}(h:x≠y):(show Ae from x)≠(show Ae from y):=h
section
variable {prog:AA}{w:AR}{A:AN}{E:Aa->Af->Prop}{s:Af}
end
section
variable {X:Cx}{K:Aq}{mg:Al->Option Aa}
end
section
variable {X:Cx}{K:Aq}
end
abbrev TK:=V->St->Hp->(Bool->Hp->Prop)->Prop
section
variable {X:Cx}{K:Aq}{a e e':Expr}{es:List Expr}{op op':KN}{ops:List KN}{r:R2}{ta te:TE}{tk:TK}{pos:Ew}
end
abbrev DK:=D->de->(Bool->Prop)->Prop
section
variable {K:Aq}{ta te:TE}{E Ea:DE}{tk:TK}{k:DK}{R:R2}{r:xp}
end
def So:DS:=λ_ _=>False
section
variable {X:Cx}{K:Aq}{st:A6}{sts:List A6}
theorem kD:bU K RD So:=λ_ _ _ _ _ _ _ _ _ _ w=>w.elim
end
abbrev P2 (h:Heap)(t:Ae)(a b:Aa):Prop:=h.get? t=a! {cls:=.type "tuple",data:=.seq #[a,b]}
abbrev Zt (h:Heap)(b:Nat)(v:Aa):Prop:=IsZip h (b+4) (b+2) (b+3) v
theorem gh (x:BH h a t i)(e:∀o,h.get? a=a! o->h'.get? a=a! o): BH h' a t i:=let⟨o,O,r⟩:=x;⟨o,e _ O,r⟩
section
variable {prog:AA}{w:AR}{A:AN}{E:Aa->Af->Prop}{s:Af}
theorem rY {Q:Aa->Af->Prop}(hi:BH s.heap T t i)(ht:ES s.heap t c)(j:c[i]?=a! x)(q:∀g,BH g T t (i+1)->Heap.SameBut T s.heap g->Q x {s with heap:=g}): AI (model prog w) A (Ff (.ref T)) Q E s:=by
 obtain⟨o,a,h,O⟩:=id hi;obtain⟨p,f,_,n,e⟩:=ht;refine Ac (B6 (name:=Bm "__next__") hi.typeIs EA (Cu EA hi.typeIs IP ?_ (Jg _)));show AI _ _ (field (.ref T) 0 >>= _) _ _ s
 refine Ac (Bw a O (x:=.ref t) rfl ?_);refine Ac (Bw a O (x:=.int i 0) rfl ?_);refine Ac (Ct f e ?_);simp only[j,AX];refine Ac (DF a O (by simp) (AD ⟨x,rfl,AD (q _ ?_ (Heap.SameBut.update ..))⟩));exact⟨_,Cy _ a (Fc (C9 O _)),(Obj.cls_mapFields ..).trans h,by rw[C9 O];simp[B8]⟩
theorem Qe {a t:Ae}{i:Nat}{T:Array Aa}{Q:Aa->Af->Prop}(h:A.handled=a?)(hi:BH s.heap a t i)(ht:ES s.heap t T)(k:T[i]?=a?)(q:∀g e,Heap.ExtBut a s.heap g->(∃o,g.get? e=a! o/\o.cls = .type "StopIteration")->E (.ref e) {s with heap:=g}):AI (model prog w) A (Ff (.ref a)) Q E s:=by
 obtain⟨o,c,l,O⟩:=id hi;obtain⟨p,j,_,n,f⟩:=ht;refine Ac (B6 (name:=Bm "__next__") hi.typeIs EA (Cu EA hi.typeIs IP ?_ (Jg _)));show AI _ _ (field (.ref a) 0 >>= _) _ _ s
 refine Ac (Bw c O (x:=.ref t) rfl ?_);refine Ac (Bw c O (x:=.int i 0) rfl ?_);refine Ac (Ct j f ?_);simp only[k,AX];refine Ac (Hf (Ac (DF c O (by simp) ?_)));refine Ac ?_;simp only[ LX];refine Ac (CT ?_ (by size_fits));refine Ac (m:=FM _ _) (Du (by first |rfl | (simp only[FM];rfl)) ?_);refine CT ?_ (by size_fits);simp only[raiseNew];refine Ac (KU ?_);first |rw[show A.in1.handled=a? from h] |rw[h]
 exact Ac (AD (LB (q _ _ (((Heap.SameBut.update ..).extBut.push _).push _) ⟨_,Av _ rfl,rfl⟩)))
theorem Tj {t:Ae}{a b x:Aa}{k:Nat}{Q:Unit->Af->Prop}(ht:P2 s.heap t a b)
  (q:∀g,g.get? t=a! {cls:=.type "tuple",data:=.seq ((#[a,b]:Array Aa).setIfInBounds k x)}->Heap.SameBut t s.heap g->Q () {s with heap:=g}):AI (model prog w) A (updateSeq t (·.setIfInBounds k x)) Q E s:=by
 refine Fz ht rfl (q _ ?_ (Heap.SameBut.update ..));rw[Cy _ ht rfl];simp[Cw]
theorem OM {Q:Aa->Af->Prop}(hb:n<b/\L<b)
  (Z:Zt s.heap b .none) (I0:P2 s.heap (b+2) (.ref b) (.ref (b+1))) (O0:P2 s.heap (b+3) a1 a2) (w1:BH s.heap b n k) (w2:BH s.heap (b+1) L k)
  (p1:ES s.heap n xs) (p2:ES s.heap L ys) (e1:xs[k]?=a! x) (e2:ys[k]?=a! y)
  (q:∀g,Zt g b (B8 s.heap.objs.size)->P2 g (b+3) x y->BH g b n (k+1)->BH g (b+1) L (k+1)->P2 g s.heap.objs.size x y->g.objs.size=s.heap.objs.size+1->
   (∀c o,c≠b+4->c≠b+3->c≠b->c≠b+1->s.heap.get? c=a! o->g.get? c=a! o)->Q (.ref s.heap.objs.size) {s with heap:=g}):
  AI (model prog w) A (Cm.«zip.__next__» ⟨[.ref (b+4)],[]⟩) (λr s'=>∃v,r = .done (.ret v)/\Q v s') E s:=by
 obtain⟨b1,b2⟩:=hb;have off:∀l:Nat,l<b->l≠b+4/\l≠b+3/\l≠b:=λl h=>⟨by lia,by lia,by lia⟩
 obtain⟨a14,_,_⟩:=off n b1;obtain⟨a24,a23,a20⟩:=off L b2;show AI _ _ (field (.ref (b+4)) 2 >>= _) _ _ _
 refine Ac (Bw Z rfl (x:=.bool b?) rfl ?_);refine Ac (Bw Z rfl (x:=.ref (b+2)) rfl (Ac (Ct I0 rfl ?_)));refine Ac ?_;refine Ac (Bw Z rfl rfl (AD ?_));simp only[if_true];refine Ac (Hf (Ac (Bw Z rfl (x:=.ref (b+3)) rfl (Ac (Dl Z (by simp) λg1 Z1 f1=>?_)))));refine Ac ?_;refine Ac (Ac (HA ?_));refine Ac (rY (w1.extBut f1.extBut (nN (by lia))) (p1.extBut f1.extBut a14) e1 λg2 v1 f2=>AD ?_);have O2:P2 g2 (b+3) a1 a2:=f2.extBut _ _ (nN (by lia)) (f1.extBut _ _ (nN (by lia)) O0);refine Ac (Ct O2 rfl (Ac (Tj O2 λg3 O3 m=>Ac (LC (AD ?_)))));refine Ac (Ac (HA ?_));refine Ac (rY (((w2.extBut f1.extBut (nN (by lia))).extBut f2.extBut (nN (by lia))).extBut m.extBut (nN (by lia))) (((p2.extBut f1.extBut a24).extBut f2.extBut a20).extBut m.extBut a23) e2 λg4 v2 u=>AD ?_);have O4:P2 g4 (b+3) x a2:=u.extBut _ _ (nN (by lia)) O3;refine Ac (Ct O4 rfl (Ac (Tj O4 λG O p=>Ac (LC (AD (AD ?_))))))
 replace O:P2 G (b+3) x y:=O
 refine Ac (Ct O rfl (Ac (wpAny_newTuple ?_)));have f:G.objs.size=s.heap.objs.size:=by rw[p.1,u.1,m.1,f2.1,f1.1]
 have Z5:Zt G b .ellipsis:=p.extBut _ _ (nN (by lia)) (u.extBut _ _ (nN (by lia)) (m.extBut _ _ (nN (by lia)) (f2.extBut _ _ (nN (by lia)) Z1)));have keep:∀c o,c≠b+4->c≠b+3->c≠b->c≠b+1->s.heap.get? c=a! o->G.get? c=a! o:=λc o C J c3 U e=>
  p.extBut _ _ J (u.extBut _ _ U (m.extBut _ _ J (f2.extBut _ _ c3 (f1.extBut _ _ C e))))
 have m1:BH G b n (k+1):=((v1.extBut m.extBut (nN (by lia))).extBut u.extBut (nN (by lia))).extBut p.extBut (nN (by lia));have m2:BH G (b+1) L (k+1):=v2.extBut p.extBut (nN (by lia));have t:b+4<G.objs.size:=AU Z5;refine Ac ?_;have Z8:Zt (G.push {cls:=.type "tuple",data:=.seq #[x,y]}) b .ellipsis:=Ah _ Z5;refine Ac (Dl Z8 (by simp) λg9 Z9 M=>?_);refine Dl Z9 (by simp) λa B j=>?_
 have up:∀c o,c≠b+4->G.get? c=a! o->a.get? c=a! o:=λc o C e=>j.extBut _ _ C (M.extBut _ _ C (Ah _ e))
 have T:P2 a G.objs.size x y:=j.extBut _ _ (GD t) (M.extBut _ _ (GD t) (Av _ rfl));have z:a.objs.size=G.objs.size+1:=by rw[j.1,M.1,Dw]
 rw[f]at B T z;refine AD ⟨_,rfl,?_⟩;rw[f];exact q a B (up _ _ (nN (by lia)) O) (gh m1 λo e=>up _ o (nN (by lia)) e) (gh m2 λo e=>up _ o (nN (by lia)) e) T z λc o C J c3 U e=>up c o C (keep c o C J c3 U e)
theorem OL {b k:Nat}{l:Ae}{xs:Array Aa}{r:Aa}{Q:Fin->Af->Prop}(t:A.handled=a?)(B:l<b)(Z:Zt s.heap b .none)(L:P2 s.heap (b+2) (.ref b) r)(m:BH s.heap b l k)(p:ES s.heap l xs)(v:xs[k]?=a?)
  (q:∀g e,(∀c o,c≠b+4->c≠b->s.heap.get? c=a! o->g.get? c=a! o)->(∃o,g.get? e=a! o/\o.cls = .type "StopIteration")->E (.ref e) {s with heap:=g}):AI (model prog w) A (Cm.«zip.__next__» ⟨[.ref (b+4)],[]⟩) Q E s:=by
 have a:l≠b+4:=Bq (AS B (DL b 4));show AI _ _ (field (.ref (b+4)) 2 >>= _) _ _ _
 refine Ac (Bw Z rfl (x:=.bool b?) rfl ?_);refine Ac (Bw Z rfl (x:=.ref (b+2)) rfl (Ac (Ct L rfl ?_)));refine Ac ?_;refine Ac (Bw Z rfl rfl (AD ?_));simp only[if_true];refine Ac (Hf (Ac (Bw Z rfl (x:=.ref (b+3)) rfl (Ac (Dl Z (by simp) λg1 J f1=>?_)))));refine Ac ?_;refine Ac (Ac (HA ?_));refine Ac (Qe t (m.extBut f1.extBut (nN (by lia))) (p.extBut f1.extBut a) v λg2 e f2 u=>?_);obtain⟨n,O,f⟩:=u;have j:Zt g2 b .ellipsis:=f2 _ _ (nN (by lia)) J;have z:e≠b+4:=λy=>by subst y;rw[j]at O;cases O;simp at f
 exact Dl j (by simp) λg3 _ h=>q g3 e (λc o C G y=>h.extBut _ _ C (f2 _ _ G (f1.extBut _ _ C y))) ⟨n,h.extBut _ _ z O,f⟩
theorem WG {Q:Option Aa->Af->Prop}(h:L<b/\l<b)
  (Z:Zt s.heap b .none) (G:P2 s.heap (b+2) (.ref b) (.ref (b+1))) (O:P2 s.heap (b+3) M J) (e:BH s.heap b L k) (a:BH s.heap (b+1) l k)
  (f:ES s.heap L xs) (p:ES s.heap l ys) (m:xs[k]?=a! x) (j:ys[k]?=a! y)
  (q:∀g,Zt g b (B8 s.heap.objs.size)->P2 g (b+3) x y->BH g b L (k+1)->BH g (b+1) l (k+1)->P2 g s.heap.objs.size x y->g.objs.size=s.heap.objs.size+1->
   (∀c o,c≠b+4->c≠b+3->c≠b->c≠b+1->s.heap.get? c=a! o->g.get? c=a! o)->Q (a! (.ref s.heap.objs.size)) {s with heap:=g}): AI (model prog w) A (Gh (.ref (b+4))) Q E s:=by
 have t:s.TypeIs (.ref (b+4)) "zip":=⟨_,Z,rfl⟩
 exact Ac (Db (B6 (name:=Bm "__next__") t F.slot_zip_next (Cu F.slot_zip_next t F.entry_zip_next
  (OM h Z G O e a f p m j λg B z v u r n C=>AD (q g B z v u r n C)) (F.args_zip_next_1 _))))
theorem yo {Q:Option Aa->Af->Prop}(h:A.handled=a?)(B:l<b)(Z:Zt s.heap b .none)(m:P2 s.heap (b+2) (.ref b) n)(a:BH s.heap b l k)(p:ES s.heap l xs)(j:xs[k]?=a?)
  (q:∀g,(∀c o,c≠b+4->c≠b->s.heap.get? c=a! o->g.get? c=a! o)->Q a? {s with heap:=g}): AI (model prog w) A (Gh (.ref (b+4))) Q E s:=by
 have t:s.TypeIs (.ref (b+4)) "zip":=⟨_,Z,rfl⟩
 refine Ac (Db (B6 (name:=Bm "__next__") t F.slot_zip_next (Cu F.slot_zip_next t F.entry_zip_next (OL h B Z m a p j λg e k1 k2=>?_) (F.args_zip_next_1 _))));obtain⟨o,f,O⟩:=k2;exact Ac (Fb (T := "StopIteration") ⟨o,f,O⟩ Ku (AD (q _ k1)))
end
noncomputable abbrev wot (l:Ae):CJ:={cls:=.type "tuple_iterator",data:=.fields #[.ref l,.int 0 0]}
abbrev Ϣ (h:Heap)(l:Ae):Heap:=h.push (wot l)
abbrev ϡ (h:Heap)(L l:Ae):Heap:=(Ϣ h L).push (wot l)
abbrev Ϡ (h:Heap)(l L:Ae):Heap:=(ϡ h l L).push {cls:=.type "tuple",data:=.seq #[.ref h.objs.size,.ref (Ϣ h l).objs.size]}
abbrev ϟ (h:Heap)(L l:Ae):Heap:=(Ϡ h L l).push {cls:=.type "tuple",data:=.seq #[.none,.none]}
abbrev ď (h:Heap)(L l:Ae):Heap:=(ϟ h L l).push {cls:=.type "zip",data:=.fields #[.none,.bool b?,.bool b?,.ref (ϡ h L l).objs.size,.ref (Ϡ h L l).objs.size]}
theorem Rf (l L:Ae)(xs ys:Array Aa): LJ (Cm.«zip.__new__» ⟨[.type "zip",.ref l,.ref L],[]⟩) (λ_ R s=>ES s.heap l xs/\ES s.heap L ys/\R (.ok (.ret (.ref (ϟ s.heap l L).objs.size))) {s with heap:=ď s.heap l L}):=
 .of_wp λprog w A R s h=>by
  obtain⟨p,g,d,tk,os⟩:=s;obtain⟨c,a,h⟩:=h;have u:=sub_zip;have e:ES (Jw ⟨p,g,d,tk,os⟩) l xs:=c;have n:ES (Jw ⟨p.push (wot l),g,d,tk,os⟩) L ys:=IsTup.push a _
  wp_walk using Mb e,Mb n
  exact⟨_,rfl,h⟩
theorem QC {prog:AA}{w:AR}{A:AN}{E:Aa->Af->Prop}{s:Af}{l L:Ae}{xs ys:Array Aa}{Q:Aa->Af->Prop}(a:ES s.heap l xs)(p:ES s.heap L ys)
  (q:∀g,Zt g s.heap.objs.size .none->P2 g (s.heap.objs.size+2) (.ref s.heap.objs.size) (.ref (s.heap.objs.size+1))->P2 g (s.heap.objs.size+3) .none .none->BH g s.heap.objs.size l 0->BH g (s.heap.objs.size+1) L 0->
   (∀c o,s.heap.get? c=a! o->g.get? c=a! o)->Q (.ref (s.heap.objs.size+4)) {s with heap:=g}):AI (model prog w) A (call (.type "zip") [.ref l,.ref L]) Q E s:=by
 refine callType_new F.called_zip rfl (F.typeCall_zip_2 _ _) (F.newCall_zip_2 _ _) (λo=>F.args_object_init_3 o _ _) F.entry_zip_new (Rf l L xs ys) ⟨a,p,?_⟩;have y1:(Ϣ s.heap l).objs.size=s.heap.objs.size+1:=Dw ..;have y2:(ϡ s.heap l L).objs.size=s.heap.objs.size+2:=by rw[Dw,y1]
 have y3:(Ϡ s.heap l L).objs.size=s.heap.objs.size+3:=by rw[Dw,y2]
 have y4:(ϟ s.heap l L).objs.size=s.heap.objs.size+4:=by rw[Dw,y3]
 have on:∀{h:Heap} {o O:CJ} {c:Ae},h.get? c=a! o->(h.push O).get? c=a! o:=λe=>Ah _ e
 have k5:(ď s.heap l L).get? (ϟ s.heap l L).objs.size=a! _:=Av _ rfl;have k:(ď s.heap l L).get? (Ϡ s.heap l L).objs.size=a! _:=on (Av _ rfl);have k3:(ď s.heap l L).get? (ϡ s.heap l L).objs.size=a! _:=on (on (Av _ rfl));have k2:(ď s.heap l L).get? (Ϣ s.heap l).objs.size=a! _:=on (on (on (Av _ rfl)));have k1:(ď s.heap l L).get? s.heap.objs.size=a! _:=on (on (on (on (Av _ rfl))));rw[y2,y3,y4]at k5;rw[y3]at k;rw[y1,y2]at k3;rw[y1]at k2;rw[y4];exact⟨⟨_,k5,rfl⟩,q _ k5 k3 k ⟨_,k1,rfl,rfl⟩ ⟨_,k2,rfl,rfl⟩ λc o e=>on (on (on (on (on e))))⟩
def YF (A:DA):DA:=λδ P=>A δ λds=>match ds with
 | [.tup xs,.tup ys]=>xs.length<=ys.length/\P ((xs.zip ys).map λp=>D.tup [p.1,p.2])
 |_=>False
section
variable {X:Cx}{K:Aq}{mg:Al->Option Aa}
noncomputable def ϔ (K:Aq)(a A:Ae)(xs ys:List V):It:=
 ⟨λi H=>lA K H a xs/\lA K H A ys/\i<xs.length/\i<ys.length,λi H x c=>∃p y1 y2,x = .ref p/\H p=a?/\a6 H c/\xs[i]?=a! y1/\ys[i]?=a! y2/\c p=a! (.tup [y1,y2]),λi H=>lA K H a xs/\xs.length<=i⟩
theorem ã (h:c∈[b+4,b+2,b+3,b,b+1]): c=b+4∨c=b+2∨c=b+3∨c=b∨c=b+1:=by simpa using h
theorem ON (a1 a2:Ae)(b:Nat)(xs ys:List V)(hb:a1<b/\a2<b):
  uk P w K (.Tuple elts x1 Rz) (ϔ K a1 a2 xs ys) [b+4,b+2,b+3,b,b+1] (b+4) (λi h=>Zt h b .none/\P2 h (b+2) (.ref b) (.ref (b+1))/\(∃c d,P2 h (b+3) c d)/\BH h b a1 i/\BH h (b+1) a2 i) where
 mem:=by simp
 obj:=λi h st c hc=>by
  obtain⟨h1,h2,⟨_,_,h3⟩,⟨o4,q4,_,r4⟩,⟨o5,q5,_,r5⟩⟩:=st;rcases ã hc with q |q |q |q |q
  .rw [q];exact⟨_,h1,λv q=>by cases q⟩
  .rw [q];exact⟨_,h2,λv q=>by cases q⟩
  .rw [q];exact⟨_,h3,λv q=>by cases q⟩
  .rw [q];exact⟨_,q4,λv q=>by rw[r4]at q;cases q⟩
  .rw [q];exact⟨_,q5,λv q=>by rw[r5]at q;cases q⟩
 keep:=λi h h' st k=>by
  obtain⟨h1,h2,⟨c,d,h3⟩,h4,h5⟩:=st;exact⟨k _ (by simp) _ h1,k _ (by simp) _ h2,⟨c,d,k _ (by simp) _ h3⟩,gh h4 λo q=>k _ (by simp) o q,gh h5 λo q=>k _ (by simp) o q⟩
 item := by
  kj_on
  obtain⟨h1,h2,⟨c,d,h3⟩,h4,h5⟩:=st;obtain⟨Ü,ř,hi1,hi2⟩:=hg;obtain⟨Ö,ZE,p1,hz1⟩:=I.tuple Ü;obtain⟨œ,Ļ,p2,hz2⟩:=I.tuple ř;obtain⟨u1,hu1,ru1⟩:=ZE.get (i:=i) (x:=xs[i]) (by simp);obtain⟨u2,hu2,ru2⟩:=Ļ.get (i:=i) (x:=ys[i]) (by simp);refine WG hb h1 h2 h3 h4 h5 p1 p2 (by simpa using hu1) (by simpa using hu2) λh' g1 g2 g3 g4 g6 g7 g8=>?_
  refine⟨_,rfl,Hu g1 λŠ k1 k2=>?_⟩;have Ŝ:=I.cL.fresh (Ag _);have I0:bC X pins Y (cQ H s.heap.objs.size (.tup [xs[i],ys[i]])) {s with heap:=s.heap.push {cls:=.type "tuple",data:=.seq #[u1,u2]},toks:=s.toks}:=
   I.laid (t':=s.toks) (o:=.tup [xs[i],ys[i]]) (λb ob q=>Ah _ q) (Ag _) ⟨eS (n:=2) (by decide),[u1,u2],.cons ru1 (.cons ru2 .nil),⟨_,Av _ rfl,rfl,_,rfl⟩⟩
  have old:∀c∈[b+4,b+2,b+3,b,b+1],c≠s.heap.objs.size:=λc hc q=>by
   have Mr:c<s.heap.objs.size:=by
    rcases ã hc with y |y |y |y |y
    .rw [y];exact AU h1
    .rw [y];exact AU h2
    .rw [y];exact AU h3
    .obtain ⟨o,r1,_⟩:=h4;rw[y];exact AU r1
    .obtain ⟨o,r1,_⟩:=h5;rw[y];exact AU r1
   rw[q]at Mr;exact B7 _ Mr
  have fe:∀c∈[b+4,b+2,b+3,b,b+1],jZ X pins (cQ H s.heap.objs.size (.tup [xs[i],ys[i]])) c:=λc hc=>by
   obtain⟨q0,q1,q2,q3,q4,q5⟩:=hf c hc;refine⟨?_,q1,q2,q3,q4,q5⟩;rw[bJ]
   .exact q0
   .exact old c hc
  have I1 : bC X pins Y (cQ H s.heap.objs.size (.tup [xs[i],ys[i]])) {s with heap:=Š,toks:=s.toks}:=by
   have:=I0.pZ (h':=Š) (t':=s.toks) (L:=[b+4,b+3,b,b+1]) (λc o hb q=>?_) (λc hc=>fe c (by
    have Ra:c=b+4∨c=b+3∨c=b∨c=b+1:=by simpa using hc
    rcases Ra with y |y |y |y<;>simp[y]))
   .exact this
   .have bz:c≠b+4:=λy=>hb (by simp[y])
    have hb2:h'.get? c=a! o:=by
     by_cases y:c=s.heap.objs.size
     .subst y;rw[Av _ rfl]at q;rw[<- q];exact g6
     .rw [Heap.get?_push_ne _ _ _ y]at q;exact g8 c o bz (λy=>hb (by simp[y])) (λy=>hb (by simp[y])) (λy=>hb (by simp[y])) q
    exact k2.extBut c o bz hb2
  have hT:P2 h' (b+2) _ _:=g8 (b+2) _ (nN (by lia)) (nN (by lia)) (nN (by lia)) (nN (by lia)) h2;refine⟨.ref s.heap.objs.size,_,I1,rfl,⟨_,xs[i],ys[i],rfl,Ŝ,a6.new Ŝ,by simp,by simp,aZ⟩,⟨k1,k2.extBut _ _ (nN (by lia)) hT,⟨_,_,k2.extBut _ _ (nN (by lia)) g2⟩,g3.extBut k2.extBut (nN (by lia)),g4.extBut k2.extBut (nN (by lia))⟩,λc hc=>(fe c hc).1⟩
 done:=by
  kj_on
  obtain⟨h1,h2,_,h4,_⟩:=st;obtain⟨Ü,hi⟩:=hg;obtain⟨Ö,ZE,p1,hz1⟩:=I.tuple Ü;have hl1:=ZE.length;refine yo (I.ok.hd hc) hb.1 h1 h2 h4 p1 (by simp;lia) λh' eb=>⟨rfl,I.pZ (t':=s.toks) (L:=[b+4,b]) (λc o hb q=>eb c o (λy=>hb (by simp[y])) (λy=>hb (by simp[y])) q) (λc hc=>hf c (by
    have Ra:c=b+4∨c=b:=by simpa using hc
    rcases Ra with y |y<;>simp[y]))⟩
 self:=λ_ _ _ _ _ st h=>by
  obtain⟨h1,_⟩:=st;exact Fa h1 h
def Yr (K:Aq)(t:TA):TI:=λY H R=>t Y H λvs c=>∃A a xs ys,vs=[.ref A,.ref a]/\lA K c A xs/\lA K c a ys/\R (ϔ K A a xs ys) c
theorem Wh (hg:Gl X "zip")(hm:X.mg "zip"=a?)(ha:PA X [l,m] A)(O:Ap [l,m] X.env=(b?,eval l X.env)::Ap [m] X.env:=by rfl)(U:(BR pos (Ap [m] X.env)).any (·.1)=false:=by rfl): PI X (.Tuple n x1 o) (.Call (.Name "zip" p) [l,m] [] pos) (Yr X.K A):=by
 intro pins s Y H R I h;refine Hr (fY I hg hm Gk (Ba (cJ (ha pos pins s Y H _ I h) λus a z=>?_) O U));obtain⟨vs,v,f,C,G⟩:=z;obtain⟨a1,a2,xs,ys,e,g,Q,q⟩:=G;subst e;obtain⟨u1,u2,rfl,u,r⟩:=ux C;cases u;cases r;obtain⟨k,B,T,M⟩:=f.tuple g;obtain⟨j,w,t,J⟩:=f.tuple Q;refine QC T t λh' g1 g2 g3 g4 g5 g7=>?_
 have I2:bC X pins Y v {a with heap:=h',toks:=a.toks}:=f.kept (t':=a.toks) g7;refine Fa (s:={a with heap:=h',toks:=a.toks}) g1 ?_;refine⟨a.heap.objs.size+4,_,_,_,v,rfl,I2,ON a1 a2 a.heap.objs.size xs ys ⟨T.lt,t.lt⟩,⟨g1,g2,⟨_,_,g3⟩,g4,g5⟩,λc hc=>?_,q⟩;have L:a.heap.objs.size<=c:=by
  rcases ã hc with y |y |y |y |y<;>(rw[y];first |exact DL _ _ |exact Ag _)
 exact f.pS L (f.cL.fresh L)
theorem V5 (h:dJ K a As): mq K (Yr K a) (YF As):=λF0 H0 F H Y δ P R e w q=>h F0 H0 F H Y δ _ _ e w λds vs F' H' p x r=>by
 split at p
 .rename_i xs ys;obtain⟨B,p⟩:=p;obtain⟨v1,v2,rfl,⟨O,U,rfl,h1,h2⟩,⟨J,u,rfl,k1,k2⟩⟩:=rn r;have G:=h2.length;have C:=k2.length;refine⟨O,J,U,u,rfl,x.fh.mL h1,x.fh.mL k1,q _ _ F' H' p x λF1 H1 f c=>?_⟩;have Q:=(f.trans c).mL h1;have m:=(f.trans c).mL k1;have L:((xs.zip ys).map λp=>D.tup [p.1,p.2]).length=xs.length:=by simp;lia
  refine⟨λi hi=>⟨Q,m,by lia,by lia⟩,⟨Q,by lia⟩,λi x H2 hi y=>?_⟩;obtain⟨t,y1,y2,rfl,ht,M,l,k,T⟩:=y;obtain⟨A,o,j⟩:=h2.get' l;obtain⟨v,n,g⟩:=k2.get' k;refine⟨.tup [A,v],cQ F1 t (.tup [y1,y2]),?_,cy.new c ht M T,t,[y1,y2],rfl,.inl (.inl aZ),?_⟩
  .rw [AK,Co (z:=(A,v)) |>.mpr ⟨o,n⟩];rfl
  .exact ⟨_,_,rfl,(j.mono f).mono (a6.zx (c.free ht)),_,_,rfl,(g.mono f).mono (a6.zx (c.free ht)),rfl⟩
 .exact p.elim
end
def Vi (w:AR)(K:Aq)(m:Al->Option Aa)(x:Al)(c:List (Al×D)):Prop:=
 ∃a e n,m x=a! (.ref a)/\K.lookup a=a! ⟨.type "dict",a?,.dict e n,#[]⟩/\Lo w.params e.toList/\(a==Fl)=b?/\
  ∀k,match c.lookup k with
   |some d=>∃b,Kv EB e k=a! (.ref b)/\∀F,dM K F d (.ref b)
   |none=>Kv EB e k=a?
inductive Ğ (K:Aq):List (Al×D)->List GP->Prop
 |nil:Ğ K [] []
 |cons {k:Al} {d:D} {hs:Int} {t:LF} {b:Ae} {Oc:List (Al×D)} {es:List GP}:(∀F,dM K F d (.ref b))->Ğ K Oc es->Ğ K ((k,d)::Oc) (⟨hs,.str k t,.ref b⟩::es)
theorem Ğ.find {K:Aq}{a:List (Al×D)}{f:List GP}(r:Ğ K a f)(k:Al):match a.lookup k with
   |some d=>∃b,(f.find? λe=>EB k e.key).map (·.val)=a! (.ref b)/\∀F,dM K F d (.ref b)
   |none=>(f.find? λe=>EB k e.key).map (·.val)=none:=by
 induction r with
 |nil=>rfl
 | @cons c d j t b a f h r g=>
  by_cases z:c=k
  .subst z;rw[CF,beq_self_eq_true];refine⟨b,?_,h⟩;rw[List.find?_cons_of_pos (by show (c==c)=b!;exact beq_self_eq_true _)];rfl
  .have h1:(k==c)=false:=beq_eq_false_iff_ne.mpr (Bb z);have h2:(c==k)=false:=beq_eq_false_iff_ne.mpr z;rw[CF,h1,List.find?_cons_of_neg (by show ¬ (c==k)=b!;rw[h2];exact Az)];exact g
theorem Xj {w:AR}{K:Aq}{m:Al->Option Aa}{x:Al}{c:List (Al×D)}{a:Ae}{f:List GP}{n:Nat}(e:m x=a! (.ref a))(lk:K.lookup a=a! ⟨.type "dict",a?,.dict f.toArray n,#[]⟩)
  (l:Lo w.params f) (M:(a==Fl)=b?) (r:Ğ K c f):Vi w K m x c:=
 ⟨a,f.toArray,n,e,lk,l,M,λk=>by
  have h:=r.find k;unfold Kv;rw[List.find?_toArray];exact h⟩
def Nf (a:List (Al×D))(ty:TE):TE:=λY H Q=>ty Y H λy c=>∃k,y = .str k/\Q (.bl (a.lookup k).isNone) c
def RF (K:Aq)(a:List (Al×D))(ty:TE):TE:=λY H Q=>ty Y H λy c=>∃k d,y = .str k/\a.lookup k=a! d/\∀v,(∀F,dM K F d v)->Q v c
def Ox (a:List (Al×D))(E:DE):DE:=λδ P=>E δ λd=>match d with
 | .str k=>P (.bl (a.lookup k).isNone)
 |_=>False
def YR (a:List (Al×D))(E:DE):DE:=λδ P=>E δ λd=>match d with
 | .str k=>∃d,a.lookup k=a! d/\P d
 |_=>False
section
variable {X:Cx}{K:Aq}{x:Al}{Oc:List (Al×D)}{i:Expr}{ty:TE}{pos pos':Ew}
theorem P1 (hg:Gl X x)(M:Vi X.w X.K X.mg x Oc)(hi:PE X i ty)(hd:(x==("__debug__":Al))=false:=by decide): PC X .NotIn i (.Name x pos) (Nf Oc ty):=by
 intro pins s Y H Q I h;obtain⟨a,O,n,e,lk,L,m,c⟩:=M;refine cJ (hi pins s Y H _ I h) λJ l z=>?_
 obtain⟨y,C,B,r,k,A,p⟩:=z;subst A;refine cJ (mX (v:=.ref a) hg e rfl hd pins l Y C (λx g=>x = .ref a/\Q (.bl (Oc.lookup k).isNone) g) B ⟨rfl,p⟩) λu G z=>?_
 obtain⟨x,g,j,o,ex,q⟩:=z;subst ex;obtain rfl:u=Bl a:=o;obtain⟨t,rfl⟩:=r;refine wpAny_notIn_of (LV X.prog X.w k t) m (Ll j.i_ lk L) ?_;refine⟨.bl (Oc.lookup k).isNone,g,j.tok _,?_,q⟩;have f:=c k;split at f
 .rename_i d hl;obtain⟨b,f1,_⟩:=f;rw[hl];rw[f1];rfl
 .rename_i hl;rw[hl];rw[f];rfl
theorem Wn (hg:Gl X x)(m:Vi X.w X.K X.mg x Oc)(hi:PE X i ty)(A:OJ i)(hd:(x==("__debug__":Al))=false:=by decide): PE X (.Subscript (.Name x pos') i pos) (RF X.K Oc ty):=by
 intro pins s Y H Q I h;obtain⟨a,T,n,e,lk,L,M,c⟩:=m;refine Gn (cJ (mX (v:=.ref a) hg e rfl hd pins s Y H (λx g=>x = .ref a/\RF X.K Oc ty Y g Q) I ⟨rfl,h⟩) λu l z=>?_);obtain⟨x,G,C,o,ex,p⟩:=z;subst ex;obtain rfl:u=Bl a:=o;refine cJ (hi pins l Y G _ C p) λO J z=>?_
 obtain⟨y,g,j,r,k,d,B,hl,q⟩:=z;subst B;obtain⟨t,rfl⟩:=r;have f:=c k;rw[hl]at f;obtain⟨b,f1,f2⟩:=f;have m:=Ll (prog:=X.prog) j.i_ lk L;exact IN m.typeIs slot_dict_getitem.lookup (wpAny_getItem_of (LV X.prog X.w k t) m f1 ⟨.ref b,g,j.tok _,rfl,q _ f2⟩) (A _ _)
theorem PM (h:cO K t E): cO K (Nf Oc t) (Ox Oc E):=λf a F H Y δ P Q e w q=>h f a F H Y δ _ _ e w λd v g c p x r=>by
 split at p
 .obtain rfl:v = .str _:=r;exact⟨_,rfl,q _ _ g c p x rfl⟩
 .exact p.elim
theorem V_ (h:cO K t E): cO K (RF K Oc t) (YR Oc E):=λg c F H Y δ P Q e w q=>h g c F H Y δ _ _ e w λd v a f p x r=>by
 split at p
 .obtain rfl:v = .str _:=r;obtain⟨d',hl,p⟩:=p;exact⟨_,d',rfl,hl,λu U=>q _ _ a f p x (U a)⟩
 .exact p.elim
end
section
variable {M:KE}{A:AN}{E:Aa->Af->Prop}{s:Af}
end
section
variable {X:Cx}{pins:List (Ae×CJ)}{Y:St}{H:Hp}{s:Af}{scope:BM}{N:List Al}{ix:List (Option Nat)}{fp:List Ae}{z:Al}
end
section
variable {X:Cx}{tg elt iter:Expr}{scope:BM}{N:List Al}{ix:List (Option Nat)}{wi:TI}{g:TG}{te:TE}{pos:Ew}{z:Al}
end
section
variable {X:Cx}
end
section
variable {K:Aq}
end
noncomputable def g1 {c:Type}(l r:List c):List c->List c->List c
 | [a],[b]=>a::(l++b::r)
 |_,_=>[]
section
variable {P:AA}{w:AR}{K:Aq}{mg:Al->Option Aa}{base:Heap}{x:Al}{k:Nat}{ps:List Al}{sp:Sp}{d0 d1:V}
end
section
variable {X:Cx}{x:Al}{k:Nat}{ps:List Al}{sp:Sp}{d0 d1:V}{e c:Expr}{t tk:TA}{p pos kp:Ew}{nm:Al}
end
section
variable {K:Aq}
end
section
variable {K:Aq}
end
section
variable {K:Aq}{F0 H0 F H F' H':Hp}{Y:St}{δ:de}{A:Nat->List Ae}{i:Nat}
end
section
variable {K:Aq}{c f m c2:Al}{ns ns2:List Al}{i j:Nat}
end
end L2
namespace PySem
section
variable {prog:AA}{w:AR}{A:AN}{R:Gj->Af->Prop}{I:Ae}{fp wr:List Ae}{G:Array KH->Array KH->Prop}{n:Nat}{P:Nat->Aa->Prop}{St:Nat->Af->Prop}
end
section
variable {prog:AA}{w:AR}{A:AN}{E:Aa->Af->Prop}{s:Af}
end
end PySem
namespace L2
open PySem PySem.Spec PyProof.Rows
section
variable {X:Cx}
end
section
variable {K:Aq}{c f:Al}{ns:List Al}{i j:Nat}
end
end L2
namespace PySem.W
open PySem PySem.Spec PySem.Calls PyProof.Rows Builtin Builtin.ObjectAttr Builtin.Getset_descriptor
section
variable {prog:AA}{w:AR}{A:AN}{E:Aa->Af->Prop}{s:Af}{K:Aq}{x D:Ae}{ox:CJ}
theorem Qv {M:KE}{h:Heap}{a g:Aa}{name:Al}(X:K.In h)(c:Hk K (.ref D) name=a! (a! a))(hn:J1 K a "__get__"=a! (a! g))(t:Lj K a=a! b!):JM M h (Iq (.ref x) (.ref D) name) (.bind g a):=
 (Ic X c).andThen ((looks_specialIn X hn).andThen ((show JM M h (Ir (a! a) (a! g)) (a! (g,a)) from (looks_takesIn X t).andThen .now).andThen (Looks.tag .now)))
theorem QB {R:Gj->Af->Prop}{t:Aa}(X:K.In s.heap)(a:JM (model prog w) s.heap (Jn (.ref x)) (.ref D))(m:mroIn K D (.type "object")=a! b!)
  (h:R (.ok (.ret (.ref D))) s):Cf (model prog w) A (.call (.builtin "getset_descriptor.__get__") ⟨[.builtin "object.__class__",.ref x,t],[]⟩) R s:=by
 have L:=looks_mroIn (M:=model prog w) X m;refine IG K1.plain KF.entry_gs (K1.check _ _ _ _ _ _ _ _ KF.type_class (KF.args_gs _ _ _) ?_);unfold Cm.«getset_descriptor.__get__» descrGet;refine Ac (AD ?_);unfold descrGetter descrCheckInstance descrNameAndClass Jp;simp only[KF.owner_class]
 repeat lk
 refine⟨Code.quiet_builtin _ (by decide +kernel),codeAny_builtin KF.entry_class ?_⟩
 repeat lk
 exact h
theorem Qy {Q:Option Aa->Af->Prop}(l:Hk K (.ref D) "__getattribute__"=a! (a! (.builtin "BaseException.__getattribute__")))(j:Hk K (.ref D) "__getattr__"=a! a?)
  (B:subIn K (.ref D) (.type "BaseException")=a! b!) (n:Hk K (.ref D) "__class__"=a! (a! (.builtin "object.__class__")))
  (hn:J1 K (.builtin "object.__class__") "__get__"=a! (a! (.builtin "getset_descriptor.__get__"))) (k:Lj K (.builtin "object.__class__")=a! b!) (m:mroIn K D (.type "object")=a! b!)
  (X:K.In s.heap) (L:JM (model prog w) s.heap (Jn (.ref x)) (.ref D)) (h:Q (a! (.ref D)) {s with toks:=s.toks+1}):AI (model prog w) A (getAttr? (.ref x) "__class__") Q E s:=by
 obtain⟨a,g,d,t,os⟩:=s;have C:=Ic (M:=model prog w) X l;have L2:=Ic (M:=model prog w) X j;have u:=Qv (M:=model prog w) (x:=x) X n hn k;have q:=looks_subIn (M:=model prog w) X B;refine Ac (wpAny_mkText (Ac (Db (DZ (Ac (L.at (Ac (C.at ?_))))))));refine Ac (L2.at ?_);have key:AI (model prog w) A (callGetattribute (Bl x) (Fh (Bm "__class__") t) (Je "BaseException.__getattribute__") b?) (λv s'=>v = .ref D/\s'=⟨a,g,d,t+1,os⟩) (λ_ _=>False) ⟨a,g,d,t+1,os⟩:=by
  show AI _ _ (bindSpecial (Je "BaseException.__getattribute__") (.ref x) >>= _) _ _ _
  refine Dm (IG PySem.F.excAttr_ValueError.ga.plain PySem.F.entry_bexc_ga ?_);have J:builtinKind "BaseException.__getattribute__"=a! .slot:=by decide +kernel
  have p:splitId "BaseException.__getattribute__"=a! ("BaseException","__getattribute__"):=by decide +kernel
  have r:=PySem.F.args_bexc_ga (.ref x) (.str (Bm "__class__") t);have o:JM (model prog w) a (Jp (.ref x) (.type "BaseException")) true:=L.andThen q;refine Ac (o.at ?_);have f:AI (model prog w) A.in1 (match G5 "BaseException.__getattribute__" with
     |some G=>Jf "BaseException.__getattribute__" G {pos:=[Bl x,Fh (Bm "__class__") t]}
     |x=>pure ()) (λ_ s'=>s'=⟨a,g,d,t+1,os⟩) (λ_ _=>False) ⟨a,g,d,t+1,os⟩:=by
   cases c:G5 "BaseException.__getattribute__" with
   |none=>exact AD rfl
   |some G=>
    simp only[Hj,c]at r;show AI _ _ (Jf "BaseException.__getattribute__" G _) _ _ _
    rw[r];exact AD rfl
  refine BC f (λ_ s' e=>?_) (λ_ _ z=>z);subst e
  repeat (any_goals (first |assumption | (refine Ac (L.at ?_)) | (refine Ac (u.at ?_)) |wp_step))
  exact QB (s:=⟨a,g,d,t+1,os⟩) X L m (AD ⟨rfl,rfl⟩)
 refine Ac (Db (DZ (BC key (λv s' z=>?_) λ_ _ z=>z.elim)));obtain⟨rfl,rfl⟩:=z;exact handed_on rfl (AD h)
structure XE (K:Aq) (D:Ae):Prop where
 ga:Hk K (.ref D) "__getattribute__"=a! (a! (.builtin "BaseException.__getattribute__"))
 gg:Hk K (.ref D) "__getattr__"=a! a?
 cls:hasDictIn K D=b!
 sub:subIn K (.ref D) (.type "BaseException")=a! b!
 attr:Hk K (.ref D) "__class__"=a! (a! (.builtin "object.__class__"))
 get:J1 K (.builtin "object.__class__") "__get__"=a! (a! (.builtin "getset_descriptor.__get__"))
 takes:Lj K (.builtin "object.__class__")=a! b!
 mro:mroIn K D (.type "object")=a! b!
theorem yC (Z:XE K D):KitX K (.ref x) (.ref D) (λh=>∃o,h.get? x=a! o/\o.cls = .ref D) where
 ty:=λ_ _ _ ⟨o,h1,h2⟩=>h2▸(IK h1).andThen .now
 it:=λ_ _ X _=>by
  obtain⟨cdD,Þ,_⟩:=any_some Z.cls;unfold clsIn at Þ;split at Þ
  .rename_i c' d' cd' sl' ho;intro A' Q' E' s' k q;exact Ac (Kq (k _ _ (X _ _ ho)) (AD q))
  .cases Þ
 ne:=λh tp dd WY n sl X htp=>by
  obtain⟨cdD,Þ,_⟩:=any_some Z.cls;refine Bool.eq_false_iff.mpr λq=>?_
  have e:D=tp:=Lp (beq_iff_eq.mp q);subst e;unfold clsIn at Þ;split at Þ
  .rename_i c' d' cd' sl' ho;have z:=(X _ _ ho).symm.trans htp;cases z
  .cases Þ
 ca:=λX ⟨o,h1,h2⟩ k=>Qy Z.ga Z.gg Z.sub Z.attr Z.get Z.takes Z.mro X (h2▸(IK h1).andThen .now) k
end
end PySem.W
namespace L2
open PySem PySem.Spec PyProof.Rows PyProof.V PySem.W
def XQ (K:Aq)(W:Ae)(ni:Nat)(sp:Sp)(t:TA)(h:TS):TS:=λD Y H=>t Y H λvs f=>sp vs f (λ_ c=>D.nx Y c) λcls _ c=>∃C,cls = .ref C/\Ie K (.ref C) (.ref W)=a! b!/\
 ∀a,c a=a?->h {nx:=λe g=>D.nx (e.set ni a?) g,rt:=λ_ _=>False} (Y.set ni (a! (.ref a))) (cQ c a (.ext (sY a (.ref C))))
section
variable {X:Cx}
theorem Wd
  (T:X.stack=X.env::X.outer) (ś:X.env.frame=a! X.env.locals) (hxe:∀e s',¬ X.xe e s') (C:tF X.prog X.w X.K X.mg X.base g k ps sp) (hr:cB k X.A) (hg:Gl X g) (ha:PA X (e::es) t)
  (hgw:Gl X wx) (hmw:X.mg wx=a! (.ref W)) (hN:X.N.Nodup) (hi:X.N[ni]?=a! n) (l:X.env.scope.names.lookup n=a! .local) (hnl:X.env.kindOf n=a! .local) (hth:∀a,PSs (X.Yx a) (Xa4::U) th)
  (ŝ:(g==("__debug__":Al))=false:=by decide) (hdw:(wx==("__debug__":Al))=false:=by decide) (he:Ap (e::es) X.env=(b?,eval e X.env)::Ap es X.env:=by rfl) (Vp:(BR c (Ap es X.env)).any (·.1)=false:=by rfl)
  (hsw:GN (.Call (.Name g p) (e::es) [] c) a? Xa1.line X.env=pure false:=by rfl):
  PS X (.Try [.Expr (.Call (.Name g p) (e::es) [] c) Xa1] [.ExceptHandler (a! (.Name wx np)) (a! n) (Xa4::U) Xbg] [] [] Rz) (XQ X.K W ni sp t th):=by
 intro pins s Y H D I h;obtain⟨f,fd,F,hm,hk,hb⟩:=C.ex;refine wpAny_Try_except ?_;refine GK (Kr (Bx (ib I hg hm ?_ ŝ)) I.quiet hsw);refine DX I.ok.mod.WW hk (BC (ha c pins s Y H _ I h) (λus s1 zz=>?_) λe s' z=>absurd z (hxe e s')) he Vp;obtain⟨vs,H1,Q,r,q⟩:=zz;refine⟨Q.i_,?_⟩;have hl:(us++[]).length=ps.length:=by rw[A_,<- r.length];exact F.len _ _ _ _ q
 have hbt:=hb s1 us Q.i_ hl;rw[A_]at hbt;refine Dm (BP (F.run X.A X.stack s1 H1 ⟨us,[]⟩ us vs _ _ hr Q.yO hbt r q) λres s' hq=>?_)
 cases res with
 |ok fl=>
  cases fl with
  |ret u=>
   obtain⟨v,H',I',r',z⟩:=Q.after hq;exact Dh (Dh ⟨Y,H',I',z⟩)
  |_=>exact AZ hq
 |error ev=>
  obtain⟨a,C1,a0,B,H',rfl,⟨C2,hCe,hex,Xap⟩,fl,G,un,cL,o,Ė,J⟩:=hq;cases hCe;have Ś:X.A.frames=a! (X.env::X.outer):=by rw[<- T];exact I.ok.frames
  have fl0:=fl;rw[T]at fl;refine wpAny_looks_onW Ś ś fl λh4 L sm4=>?_
  refine Le L λh5 O sm5=>?_
  have j:=sm4.trans sm5;have Xaz:Heap.FlyingW B X.stack a (.ref C1) a0 h5:=by rw[T];exact O
  have I5:=(Q.U1 fl0 G un cL o Ė J Xaz j).Yx a;refine wpAny_handleBy_cons (codeAny_handlers_test (ib (X:=X.Yx a) I5 hgw hmw ?_ hdw)) (by intro q;cases q);have LT:JM (model X.prog X.w) h5 (Jn (.ref a)) (.ref C1):=by
   obtain⟨ob,hob,hc⟩:=O.there;rw[<- hc];exact (IK hob).andThen .now
  refine (PySem.W.exm_one (M:=model X.prog X.w) I5.i_ LT hex).here ?_;refine codeAny_handlers_suite_as ?_;refine lands_againW O λh6 fl6 sm6=>?_
  have Xay:Heap.FlyingW B X.stack a (.ref C1) a0 h6:=by rw[T];exact fl6
  have I6:=(Q.U1 fl0 G un cL o Ė J Xay (j.trans sm6)).Yx a;refine iM (X:=X.Yx a) I6 hN hi (.inl l) (v:=.ref a) rfl (λs7 I7=>?_) (.inr l);refine BC (hth a pins s7 _ _ _ I7 (Xap a J)) (λfw s8 q8=>?_) (λe s8 z=>z.elim)
  cases fw with
  |next=>
   obtain⟨Y',Hn,I8,q⟩:=q8;have I8':bC X pins Y' Hn s8:=I8.Ĩ I.ok;obtain⟨m,hn,hlo⟩:=id I8'.loc;refine wpAny_nameGoes_keeps hnl hn (by rw[I.ok.kind];rfl) λh9 v9 hn9 sb9=>?_
   exact⟨Y'.set ni a?,Hn,I8'.Xax hN hi hlo hn9 sb9,q⟩
  |ret u=>obtain⟨v,Y',Hn,I8,_,z⟩:=q8;exact z.elim
  |brk=>obtain⟨Y',Hn,I8,z⟩:=q8;exact AZ z
  |cont=>obtain⟨Y',Hn,I8,z⟩:=q8;exact AZ z
end
abbrev XF:=List D->(OV->Prop)->(Al->Prop)->Prop
def ϩ (K:Aq)(n:Nat)(sp:XF):Sp:=λvs H Q E=>vs.length=n/\∃F ds g f,a6 F H/\bF K F ds vs/\sp ds g f/\(∀r v e a,g r->cy F H e a->e8 K H e a r v->Q v a)/\
 ∀c C e a,f c->B5 K Aj c=a! (a! (.ref C))->cy F H e a->E (.ref C) a? a
section
variable {K:Aq}{F0 H0:Hp}{t u:TS}{T U:DS}
theorem bU.x (h:bU K t T): gY K F0 H0 t T:=λF H Y δ e n=>h F0 H0 F H Y δ e n
theorem vV (h:gY K F0 H0 t T)(g:gY K F0 H0 u U): gY K F0 H0 (lY t u) (PK T U):=λF H Y δ c E e l w=>
 h F H Y δ {c with nx:=U c} _ e ⟨λn m k a j f=>g n m k a c E j l f,l.bk,l.ct,l.rt⟩ w
theorem X6 (h:i6 K c C)(ht:gY K F0 H0 t T)(j:gY K F0 H0 u U): gY K F0 H0 (zD c t u) (ĸ C T U):=λF H Y δ g n e l w=>h F0 H0 F H Y δ _ _ e w λb f a p x=>by
 cases b with
 |true=>exact oD (ht f a Y δ g n (e.on x) l p)
 |false=>exact ng rfl (j f a Y δ g n (e.on x) l p)
def Sh (X:Prop)(m:DE):DS:=λ_ δ=>m δ λ_=>X
theorem Si {c:Al}{C:Ae}{m:TE}{M:DE}{E:XK}{g:Al->Prop}(k:B5 K Aj c=a! (a! (.ref C)))(j:∀c C f a,g c->B5 K Aj c=a! (a! (.ref C))->cy F0 H0 f a->E (.ref C) a? a)(h:dH K m M):
  gY K F0 H0 (RC m λa=>E (.ref C) a? a) (Sh (g c) M):=λF H Y δ o n e l w=>
 h F0 H0 F H Y δ _ _ e w λd v f a p x r=>⟨by rw[BX];decide,j c C f a p k (cv.ext (e.on x))⟩
end
theorem ZY {K:Aq}{m:Al->Option Aa}{base:Heap}{c:Al}{C:Ae}(X:K.In base)(G:base.Ns Aj m)(e:B5 K Aj c=a! (a! (.ref C)))
  (q:excIn K C [.type "ValueError",.type "Exception",.type "BaseException",.type "object"] "ValueError.__new__"=b!):HW c C [.type "ValueError",.type "Exception",.type "BaseException",.type "object"] "ValueError.__new__" m base:=by
 refine⟨Ga X G e,?_⟩;unfold excIn at q;split at q
 .rename_i dd cd g o;split at q
  .rename_i k B k0 k1 k2 k3 n k5 M j;simp only[CZ,beq_iff_eq,Bool.not_eq_true']at q;obtain⟨⟨⟨⟨⟨rfl,rfl⟩,L⟩,ht⟩,h⟩,f⟩:=q;obtain⟨nm,bs,r,ns,Q,hd,sn,sub,ab,col,del⟩:=cd;subst M L;have a:g=#[k0,k1,k2,k3,a! (.builtin "ValueError.__new__"),k5]:=by
    obtain⟨l⟩:=g;simp only at j
    rw[j]
   subst a;exact⟨B,ns,nm,Q,bs,hd,sn,sub,ab,col,dd,k0,k1,k2,k3,k5,_,X _ _ o,.of_isNs (PySem.W.isNs_of_in X h),PySem.W.nsMap_none_of_in X h f,PySem.W.tail_of_in X ht⟩
  .cases q
 .cases q
section
variable {P:AA}{w:AR}{K:Aq}{mg:Al->Option Aa}{base:Heap}{N:List Al}{qual:Al}{scope:BM}{f:Ae}{cd:Aa}{A:AN}{outer:List Ed}{s:Af}{H:Hp}{E:XK}
theorem Ϙ.of {x:Al}{st:A6}{fd:A8}{ps:List Al}{k n:Nat}{sp:XF}(q:bN K mg x st f fd)(S:aR N ps (aB st))
  (hb:∀(kV O pm:Aa) (L:Option Ae) (a ct:Aa) (us:List Aa),us.length=ps.length->BQ (DC x x (bT st) (br st) (aB st) .none kV O pm L a ct) ⟨us,[]⟩=pure (ps.zip us)) (hn:n=ps.length)
  (o:∀(a:Aa) (A:AN) (outer:List Ed) (s:Af) (H:Hp) (E:XK),cB k (A.deeper (Bt x (aB st) s.heap.objs.size f a))->∀(F:Hp) (m:Al->Prop),(∀c C l j,m c->B5 K Aj c=a! (a! (.ref C))->cy F H l j->E (.ref C) a? j)->
   ∃t T,PSs (du (QP P w) P w K mg base N x (aB st) f a A outer s H E) (br st) t/\gY K F H t T/\∀ds g,sp ds g m->T {nx:=λ_=>g (.fz .cA),rt:=g} (c5 N ds)):tF P w K mg base x (k+1) ps (ϩ K n sp):=by
 obtain⟨oc,od,kV,O,pm,L,a,ct,M,rfl,lk,G⟩:=q.fn.ex;refine⟨f,_,?_,q.here,q.fn.kp,q.fn.binds hb⟩;refine vb lk G S (λvs H Q E h=>by rw[<- hn];exact h.1) λA outer s H vs Q E hr h=>?_
 obtain⟨_,F,ds,g,m,U,B,u,J,hE⟩:=h;obtain⟨t,T,h1,h2,h3⟩:=o a A outer s H E hr F m hE;refine⟨t,h1,h2 F H (start N vs) (c5 N ds) {nx:=λ_=>g (.fz .cA),rt:=g} _ ⟨_,ew U B⟩ ⟨λl j Y δ e p=>?_,λ_ _ _ _ _ z=>z.elim,λ_ _ _ _ _ z=>z.elim,λl j r v x n p=>J r v l j p x n⟩ (h3 ds g u)⟩;exact J _ _ l j p e.ext (.fz rfl)
end
section
variable {K:Aq}{F0 H0 F H:Hp}{Y:St}{δ:de}{A:Nat->List Ae}
end
structure ċ (K:Aq) (c:Al) (xs:List (Al×Bool)) (ts:List (String×Bool)):Prop where
 ex:∃C,B5 K Aj c=a! (a! (.ref C))/\PySem.W.XE K C/\(∀y∈xs,∃D,B5 K Aj y.1=a! (a! (.ref D))/\Fp K (.ref C) (.ref D)=a! y.2)/\∀y∈ts,Fp K (.ref C) (.type y.1)=a! y.2
def ŀ (K:Aq):List V->Hp->VK->Prop:=λvs H Q=>∃a C v b,vs=[.ref a,v]/\H a=a! (.ext (sY a (.ref C)))/\PySem.W.XE K C/\((∃D,v = .ref D/\Fp K (.ref C) (.ref D)=a! b)∨∃t,v = .ty t/\Fp K (.ref C) (.type t)=a! b)/\Q (.bl b) H
theorem s_:gd X (.builtin "isinstance") (ŀ X.K):=by
 intro pins s Y H vs us Q I r h;obtain⟨a,C,v,b,rfl,A,Z,j,q⟩:=h;obtain⟨u,U,rfl,g,f⟩:=ux r;cases g;have fin:∀tk,EP X pins Y Q (.bool b) {s with toks:=tk}:=λtk=>⟨.bl b,H,I.tok tk,rfl,q⟩
 have c:=(I.cL a _ A).1;rcases j with⟨D,rfl,e⟩ | ⟨t,rfl,e⟩
 .cases f;exact CG (PySem.W.yC Z) I.i_ c e (λz=>nomatch z) fin
 .cases f;exact CG (PySem.W.yC Z) I.i_ c e (λz=>nomatch z) fin
def Ø (c:Al)(xs:List (Al×Bool))(ts:List (String×Bool)):List D->(D->Prop)->Prop:=λds P=>match ds with
 | [.exc c',.fn x]=>c'=c/\∃b,(x,b)∈xs/\P (.bl b)
 | [.exc c',.ty t]=>c'=c/\∃b,(t,b)∈ts/\P (.bl b)
 |_=>False
theorem MQ {K:Aq}{c:Al}{xs:List (Al×Bool)}{ts:List (String×Bool)}(l:ċ K c xs ts):Vk K (ŀ K) (Ø c xs ts):=λF H ds vs P Q s rs w q=>by
 obtain⟨C,j,Z,h1,h2⟩:=l.ex;unfold Ø at w;split at w
 .obtain ⟨rfl,b,B,w⟩:=w;obtain⟨v,u,rfl,e,r⟩:=rn rs;obtain⟨a,m,rfl,h,A⟩:=e;rw[j]at h;cases h;obtain⟨f,rfl,hf⟩:=r;obtain⟨D,g,k⟩:=h1 _ B;rw[hf]at g;cases g;exact⟨a,C,_,b,rfl,A,Z,.inl ⟨_,rfl,k⟩,q _ _ F H w (cy.refl s) rfl⟩
 .obtain ⟨rfl,b,B,w⟩:=w;obtain⟨v,u,rfl,e,r⟩:=rn rs;obtain⟨a,m,rfl,h,A⟩:=e;rw[j]at h;cases h;cases r;exact⟨a,C,_,b,rfl,A,Z,.inr ⟨_,rfl,h2 _ B⟩,q _ _ F H w (cy.refl s) rfl⟩
 .exact w.elim
open PySem PySem.Spec PyProof.Rows
theorem pU:C5 "ValueError"=a! (.type "ValueError"):=by decide +kernel
section
variable {X:Cx}{K:Aq}
end
open PySem PySem.Spec PyProof.Rows PyProof.V PySem.W
section
variable {X:Cx}
end
section
variable {K:Aq}{X:Cx}
end
section
variable {M:KE}{A:AN}{E:Aa->Af->Prop}{s:Af}
theorem yB {Q:Unit->Af->Prop}
  (r:A.frames=a! (env::outer)) (hf:env.frame=a! L) (k:base.StaysIn s.heap) (a:base.get? e=a?) (hl:s.heap.FunFrames base (env::outer)) (ht:s.heap.TracedAtW base e cls a0 v)
  (t:∀h',Heap.FlyingW base outer e cls a0 h'->s.heap.UpToSlots h'->Q () {s with heap:=h'}): AI M A (Lh env (.ref e)) Q E s:=by
 by_cases f:v=B8 L
 .subst f;refine Ac (wpAny_noteFrame_againW hf ht ?_);refine Le ⟨k,a,hl,ht⟩ λh' f J=>?_
  obtain⟨k1,k2,⟨_,_,k3⟩,U⟩:=f;exact t h' ⟨k1,k2,k3,U⟩ J
 .obtain ⟨oe,vs,T,oT,ts,p,⟨l,h0⟩,hd,h1,g,j,m,c,u⟩:=ht;subst l;unfold Lh noteFrame;simp only[hf];refine Ac (Ac (Bw p hd h1 ?_));refine Ac (Bw m c u ?_);rw[c? (show ¬ ((v==B8 L)=b!) from by simpa using f)];refine Ac (DF m c (Et.mp u).1 ?_);have other:∀b,b≠T->(s.heap.update T (JO (·.setIfInBounds 3 EN))).get? b=s.heap.get? b:=λb B=>Ck _ _ (Bb B)
  have n:∀b o,s.heap.get? b=a! o->(∀vs,o.data≠.fields vs)->b≠T:=λb o B h q=>by
   rw[q,m]at B;injection B with B;subst B;exact h ts c
  refine wpAny_newEntryW r (hl.of_keeps λb o B h=>⟨o,(other b (n b o B h)).trans B,rfl⟩) hf ((other e (Bb j)).trans p)
   (λb o O=>(other b λq=>by rw[q,g]at O;cases O).trans (k b o O)) a hd (Et.mp h1).1 h0
   λh' ⟨G,⟨_,_,C⟩,z,w⟩=>t h' ⟨G,a,C,z⟩ λb o B h=>w b o ((other b (n b o B h)).trans B) h
end
section
variable {P:AA}{w:AR}{K:Aq}{mg:Al->Option Aa}{base:Heap}{N:List Al}{qual:Al}{scope:BM}{f:Ae}{cd:Aa}{A:AN}{outer:List Ed}{s:Af}{H:Hp}{E:XK}
end
def XY (sp:Sp)(E:XK)(t:TA):TE:=λY H Q=>t Y H λvs c=>sp vs c Q λcls _ a=>E cls a? a
section
variable {P:AA}{w:AR}{K:Aq}{mg:Al->Option Aa}{base:Heap}{N0:List Al}{qual:Al}{Zk:BM}{f:Ae}{cd:Aa}{A:AN}{outer:List Ed}{s0:Af}{H0:Hp}{E:XK}
variable {X:Cx}{tg iter e:Expr}{es:List Expr}{scope:BM}{N:List Al}{ix:List (Option Nat)}{wi:TI}{g:TG}{ta:TA}{pos p sX:Ew}{x:Al}{k:Nat}{ps:List Al}{sp:Sp}
end
section
variable {K:Aq}{F0 H0:Hp}
end
open PySem PySem.Spec PyProof.Rows
section
variable {X:Cx}{K:Aq}
end
open PySem PySem.Spec PyProof.Rows PyProof.V PySem.W
section
variable {K:Aq}{h:Heap}{mg:Al->Option Aa}{x m q c:Al}{st:A6}{f T C:Ae}{od an odT:Option Ae}{sl slT:Array (Option Aa)}{oc kV dc pm cd ct ocT:Aa}{nT:Nat}{ds:Array Aa}
theorem fL (X:K.In h)(G:h.Ns Aj mg)(a:B5 K Aj x=a! (a! (.ref f)):=by k_is)(l:K.lookup f=a! ⟨oc,od,.func (DC x x (bT st) (br st) (aB st) .none kV dc pm an cd ct),sl⟩:=by k_is)(d:Gi K cd x=true:=by k_is)(k:DH K (.ref f)=true:=by k_is):
  bN K mg x st f (DC x x (bT st) (br st) (aB st) .none kV dc pm an cd ct):=⟨MA l d k,Ga X G a⟩
theorem Ū (X:K.In h)(G:h.Ns Aj mg)(a:B5 K Aj x=a! (a! (.ref f)):=by k_is)(l:K.lookup f=a! ⟨oc,od,.func (DC x x (bT st) (br st) (aB st) (.ref T) kV dc pm an cd ct),sl⟩:=by k_is)(d:Gi K cd x=true:=by k_is)(k:DH K (.ref f)=true:=by k_is)(dl:K.lookup T=a! ⟨ocT,odT,.seq ds nT,slT⟩:=by k_is):
  xo K mg x st f (DC x x (bT st) (br st) (aB st) (.ref T) kV dc pm an cd ct) T ds:=⟨⟨_,_,_,_,_,_,_,_,_,rfl,l,d⟩,⟨_,_,dl,rfl⟩,k,Ga X G a⟩
theorem è (X:K.In h)(G:h.Ns Aj mg)(a:B5 K Aj x=a! (a! (.ref f)):=by k_is): jX K mg x:=⟨_,a,Ga X G a⟩
theorem Ŭ (X:K.In h)(A:B5 K Aj c=a! (a! (.ref C)):=by k_is)(p:Gz K C G9=true:=by k_is)(hd:PySem.W.hasDictIn K C=true:=by k_is)(po:HP K C=true:=by k_is)(a:PySem.W.findIn K (.ref C) "__setattr__"=a! (a! (.builtin "object.__setattr__")):=by k_is)(hn:∀f∈ns,PySem.W.findIn K (.ref C) f=a! a?)(h1:ns.Nodup)(h2:ns.length<1000): dY K c ns:=
 ⟨⟨C,A,⟨p,hd,po,a⟩,hn⟩,h1,h2⟩
theorem oH (X:K.In h)(g:dY K c ns)(A:B5 K Aj c=a! (a! (.ref C)):=by k_is)(a:PySem.W.findIn K (.ref C) m=a! (a! (.ref f)):=by k_is)(i:Lm K (.ref f)=true:=by k_is)(l:K.lookup f=a! ⟨oc,od,.func (DC m q (bT st) (br st) (aB st) .none kV dc pm an cd ct),sl⟩:=by k_is)(d:Gi K cd q=true:=by k_is)(k:DH K (.ref f)=true:=by k_is):
  fv K c m q st f (DC m q (bT st) (br st) (aB st) .none kV dc pm an cd ct):=by
 obtain⟨j,e,Z,_⟩:=g.ex;rw[A]at e;cases e;exact⟨MA l d k,⟨_,A,Z,⟨a,i,k⟩⟩⟩
theorem ū (X:K.In h)(G:h.Ns Aj mg)(A:B5 K Aj c=a! (a! (.ref C)):=by k_is)(mk:JK K C=true:=by k_is)(e:DH K (.ref C)=true:=by k_is)(a:PySem.W.findIn K (.ref C) "__init__"=a! (a! (.ref f)):=by k_is)(i:Lm K (.ref f)=true:=by k_is)(l:K.lookup f=a! ⟨oc,od,.func (DC "__init__" q (bT st) (br st) (aB st) .none kV dc pm an cd ct),sl⟩:=by k_is)(d:Gi K cd q=true:=by k_is)(k:DH K (.ref f)=true:=by k_is):
  QM K "__init__" q st f (DC "__init__" q (bT st) (br st) (aB st) .none kV dc pm an cd ct)/\zj K mg c f:=⟨MA (x := "__init__") l d k,⟨⟨_,A,⟨mk,a,i,e⟩,Ga X G A⟩⟩⟩
theorem mz (X:K.In h)(G:h.Ns Aj mg)(e:B5 K Aj n=a! none:=by k_is): mg n=none:=PySem.W.mg_none_of X G e
theorem mv (X:K.In h)(G:h.Ns Aj mg)(e:B5 K Aj n=a! (a! v):=by k_is): mg n=a! v:=Ga X G e
end
section
variable {K:Aq}
end
section
variable {X:Cx}
end
section
variable {K:Aq}
end
section
variable {K:Aq}
end
section
variable {X:Cx}
end
section
variable {P:AA}{w:AR}{K:Aq}{mg:Al->Option Aa}{base:Heap}{c m q:Al}{ns:List Al}{st:A6}{f:Ae}{fd:A8}{N ps:List Al}{k n:Nat}
end
section
variable {K:Aq}
end
end L2
namespace PySem
open Builtin
end PySem
namespace L2
open PySem PySem.Spec PyProof.Rows PyProof.V PySem.W
section
variable {X:Cx}
end
section
variable {K:Aq}
end
section
variable {P:AA}{w:AR}{K:Aq}{mg:Al->Option Aa}{base:Heap}{N:List Al}
end
def NO:V->List V->Hp->VK->Prop:=λx vs H Q=>∃l xs i y,x = .ref l/\vs=[.int i,y]/\H l=a! (.lst xs)/\0<=i/\i<=(xs.length:Int)/\xs.length<AL/\Q .cA (cQ H l (.lst (xs.take i.toNat++y::xs.drop i.toNat)))
section
variable {X:Cx}
theorem Qg:ϑ X "list.insert" NO:=by
 intro pins s Y H x vs v us Q I c f h;obtain⟨l,xs,i,y,rfl,rfl,a,p,h1,m,q⟩:=h;cases c;obtain⟨j,u,rfl,U,g⟩:=ux f;obtain⟨t,rfl⟩:=U;obtain⟨z,T,n,r,hl,e⟩:=I.Qi a;have o:=CC;refine DW F.slot_list_insert ⟨_,e,rfl⟩ F.entry_list_insert (F.args_list_insert_3 _ _ _) (LN l T.toArray n i t u (by rw[Hg (by lia) (by lia)];decide) (by rw[Am];lia)) ⟨e,?_⟩;refine⟨.cA,_,I.Ua (its':=T.take i.toNat++u::T.drop i.toNat) a e ?_ ((r.take _).append (.cons g (r.drop _))) ?_,rfl,q⟩
 .have k:(if i<0 then (i+((T.toArray.size:Nat):Int)).toNat else min i.toNat T.toArray.size)=i.toNat:=by
   rw[c? (by lia),Am];lia
  rw[k];simp
  exact BS (by rw[Er];exact Ag _)
 .rw [AE,AQ,BE,Er];omega
end
section
variable {K:Aq}{te ti:TE}{Eo:DO}{Ei:DE}
end
section
variable {X:Cx}
end
section
variable {K:Aq}
end
section
variable {P:AA}{w:AR}{K:Aq}{mg:Al->Option Aa}{base:Heap}{N:List Al}{qual:Al}{scope:BM}{f:Ae}{cd:Aa}{A:AN}{outer:List Ed}{s:Af}{H:Hp}{E:XK}
theorem yW (I:bC (du (QP P w) P w K mg base N qual scope f cd A outer s H E) pins Y v e)
  (t:E (.ref C) a? c) (L:Heap.FlyingW B (Bt qual scope s.heap.objs.size f cd::outer) a (.ref C) M s'.heap)
  (g:∀b o,s'.heap.get? b=a! o->b∉iY (Bt qual scope s.heap.objs.size f cd::outer)->((∃p,e.heap.get? b=a! p)∨∃u,c b=a! u)->B.get? b=a! o)
  (un:Un (iY (Bt qual scope s.heap.objs.size f cd::outer)) [] v c e.heap s'.heap) (k:jY P w c s'.heap) (r:CH s'.gens) (O:s'.os=e.os) (n:c a=a?):
  (du (QP P w) P w K mg base N qual scope f cd A outer s H E).xe (.ref a) s':=by
 obtain⟨y1,f2,y2,y3⟩:=L;refine yB I.ok.frames rfl y1 f2 y2 y3 λJ m l=>sA (Z:=[]) I t m (λb o q j _ hc=>g b o q j hc) (λb o j q=>l b o q λvs=>?_) (λ_ z=>by cases z) un k r O n
 obtain⟨_,G,h,hd⟩:=y2.mem j;rw[q]at h;cases h;exact hd vs
theorem Wp (hX:X=du (QP P w) P w K mg base N qual scope f cd A outer s H E)
  (C:tF X.prog X.w X.K X.mg X.base x k ps sp) (hr:cB k X.A) (hg:Gl X x) (ha:PA X (e::m) ta)
  (J:(x==("__debug__":Al))=false:=by decide) (T:Ap (e::m) X.env=(b?,eval e X.env)::Ap m X.env:=by rfl) (L:(BR c (Ap m X.env)).any (·.1)=false:=by rfl):
  PE X (.Call (.Name x p) (e::m) [] c) (XY sp E ta):=by
 intro pins s0 Y H0 Q I h;obtain⟨fa,fd,F,hm,hk,hb⟩:=C.ex;refine Bx (ib I hg hm ?_ J);refine DX I.ok.mod.WW hk (BC (ha c pins s0 Y H0 _ I h) (λus U zz=>?_) λe s' z=>z) T L;obtain⟨vs,H1,l,r,q⟩:=zz;refine⟨l.i_,?_⟩;have hl:(us++[]).length=ps.length:=by rw[A_,<- r.length];exact F.len _ _ _ _ q
 have t:=hb U us l.i_ hl;rw[A_]at t;refine Dm (BP (F.run X.A X.stack U H1 ⟨us,[]⟩ us vs _ _ hr l.yO t r q) λres s' n=>?_)
 cases res with
 |ok M=>
  cases M with
  |ret u=>
   obtain⟨v,H',I',r',z⟩:=l.after n;exact⟨v,H',I',r',z⟩
  |_=>exact AZ n
 |error ev=>
  obtain⟨a,C1,a0,B,H9,rfl,hE,M,g,un,O,j,o,G⟩:=n;subst hX;exact yW l hE M g un O j o G
end
def UT (n:Nat)(sp:XF)(c:Al->Prop)(A:DA):DO:=λδ P=>A δ λds=>ds.length=n/\sp ds P c
section
variable {K:Aq}{F0 H0:Hp}{t ta tc:TE}{Ec:DO}{Ea:DE}
theorem V2 {m:Al->Prop}(u:∀c C g f,m c->B5 K Aj c=a! (a! (.ref C))->cy F0 H0 g f->E (.ref C) a? f)
  (A:dJ K a G): i7 K F0 H0 (XY (ϩ K n sp) E a) (UT n sp m G):=λF H Y δ P Q e w q=>A F0 H0 F H Y δ _ _ e w λds vs B J k h l=>
 ⟨by rw[<- l.length];exact k.1,B,ds,_,_,h.fh,l,k.2,λr v g f p j o=>q r v g f p (h.trans j) (o.old h.hh),λc C g f p z j=>u c C g f p z (cv.ext ((e.on h).on j))⟩
theorem Ķ (h:i7 K F0 H0 tc Ec): i7 K F0 H0 tc (ę (Qz Ec)):=λF H Y δ P Q e w q=>h F H Y δ _ _ e w λr v l j f c n=>by
 obtain⟨k,a,_,g⟩:=n.el c;exact q _ v k j f a (.fz g)
theorem Zr (h:i7 K F0 H0 tc Ec): gY K F0 H0 (Px tc) (V0 Ec):=λF H Y δ g f e l w=>h F H Y δ _ _ e w λr v c a p x n=>l.rt c a r v (e.ext.trans x) (n.old e.ext.hh) p
theorem Zq (h:i7 K F0 H0 tc Ec): gY K F0 H0 (j6 tc (gU i)) (VW i Ec):=λF H Y δ g f e l w=>h F H Y δ _ _ e w λr v c a p x n=>l.nx c a _ _ (e.put x i n) p
theorem ķ {R:List V->Hp->VK->Prop}{r:List D->(D->Prop)->Prop}(h:Vk K R r)(hc:i7 K F0 H0 tc Ec):i7 K F0 H0 (Đ R (c9 tc gw)) (ę (dCB r (yR (Qz Ec) UN))):=λF H Y δ P Q e w q=>
 hc F H Y δ _ _ e w λo v B l g c n=>by
  obtain⟨z,a,_,j⟩:=n.el c;exact h z l [o.val] [v] _ _ a.fh ⟨v,[],rfl,j.mono a.fh,rfl⟩ g λd u A m p f k=>q _ u A m p (a.trans f) (.fz k)
end
section
variable {P:AA}{w:AR}{K:Aq}{mg:Al->Option Aa}{base:Heap}{N0:List Al}{qual:Al}{Zk:BM}{f:Ae}{cd:Aa}{A:AN}{outer:List Ed}{s0:Af}{H0:Hp}{E:XK}
variable {X:Cx}{tg iter e:Expr}{es:List Expr}{scope:BM}{N:List Al}{ix:List (Option Nat)}{wi:TI}{g:TG}{ta:TA}{pos p sX:Ew}{x:Al}{k:Nat}{ps:List Al}{sp:Sp}
end
section
variable {K:Aq}{ti:TE}{Ei:DE}
end
section
variable {K:Aq}{c:Al}{ns:List Al}{i:Nat}
end
structure DER where
 nx:de->Prop
 rt:D->de->Prop
 xr:Al->de->Prop
abbrev DSR:=DER->de->Prop
section
variable {K:Aq}{F0 H0:Hp}{E:XK}{t u:TS}{T U:DSR}
end
section
variable {P:AA}{w:AR}{K:Aq}{mg:Al->Option Aa}{base:Heap}{c m q:Al}{ns:List Al}{st:A6}{f:Ae}{fd:A8}{N ps:List Al}{k n:Nat}
end
abbrev DEf:=de->(D->de->Prop)->Prop
abbrev DTf:=de->(Bool->de->Prop)->Prop
def eF (E:DE):DEf:=λδ P=>E δ λd=>P d δ
section
variable {K:Aq}{ta tb:TE}{Ea Eb:DEf}{Eb':DE}{ua ub:TT}{Ca Cb:DTf}{t u:TS}{T U:DS}
end
section
variable {X:Cx}
end
section
variable {K:Aq}
end
section
variable {P:AA}{w:AR}{K:Aq}{mg:Al->Option Aa}{base:Heap}{c m q:Al}{ns:List Al}{st:A6}{f:Ae}{fd:A8}{N ps:List Al}{k n:Nat}
end
section
variable {K:Aq}{h:Heap}{mg:Al->Option Aa}{c wx:Al}{C W:Ae}
theorem dnx (X:K.In h)(a:B5 K Aj c=a! (a! (.ref C)):=by k_is): B5 K Aj c=a! (a! (.ref C)):=a
theorem dxm (X:K.In h)(a:B5 K Aj c=a! (a! (.ref C)))(b:B5 K Aj wx=a! (a! (.ref W)))(e:Ie K (.ref C) (.ref W)=a! b!): ∀d∈[c],∀D,B5 K Aj d=a! (a! (.ref D))->Ie K (.ref D) (.ref W)=a! true:=λd hd D f=>by
 rw[AV.mp hd,a]at f;cases f;exact e
theorem Xa2 (X:K.In h)(a:B5 K Aj c=a! (a! (.ref C)))(E:PySem.W.XE K C)(e:∀y∈xs,∃D,B5 K Aj y.1=a! (a! (.ref D))/\Fp K (.ref C) (.ref D)=a! y.2)(ht:∀y∈ts,Fp K (.ref C) (.type y.1)=a! y.2): ċ K c xs ts:=⟨⟨C,a,E,e,ht⟩⟩
theorem t2 (l:K.lookup x=a! ⟨.type "tuple",o,.seq #[.int p T,.int q t] n,L⟩)(F:Hp): dM K F (.tup [.int p,.int q]) (.ref x):=⟨_,[.int p,.int q],rfl,.inr ⟨_,_,_,l,rfl,rfl,eS (show 2<=1000000 by decide),.cons ⟨_,rfl⟩ (.cons ⟨_,rfl⟩ (.nil))⟩,⟨_,_,rfl,rfl,⟨_,_,rfl,rfl,rfl⟩⟩⟩
theorem t5 (l:K.lookup x=a! ⟨.type "tuple",o,.seq #[.int p e,.int q Q,.int r a,.int u T,.int v t] n,L⟩)(F:Hp): dM K F (.tup [.int p,.int q,.int r,.int u,.int v]) (.ref x):=⟨_,[.int p,.int q,.int r,.int u,.int v],rfl,.inr ⟨_,_,_,l,rfl,rfl,eS (show 5<=1000000 by decide),.cons ⟨_,rfl⟩ (.cons ⟨_,rfl⟩ (.cons ⟨_,rfl⟩ (.cons ⟨_,rfl⟩ (.cons ⟨_,rfl⟩ (.nil)))))⟩,⟨_,_,rfl,rfl,⟨_,_,rfl,rfl,⟨_,_,rfl,rfl,⟨_,_,rfl,rfl,⟨_,_,rfl,rfl,rfl⟩⟩⟩⟩⟩⟩
end
theorem b7.of2 {K:Aq}{h:Heap}(X:K.In h)(h:∀d∈[D.int 0,.bl b!,.cA,.str G9,.tup [],.lst [],.Rc],∀n∈pk,Fp K (.type d.ϥ) (.type n)=a! (Uo d n)):b7 K:=by
 refine⟨λd z n hn=>?_⟩;obtain⟨hd,e,a⟩:=z
 cases d with
 |ty m=>exact absurd rfl (hd m)
 |fn m=>exact absurd rfl (e m)
 |exc m=>exact absurd rfl (a.1 m)
 |obj c ns ds=>exact absurd rfl (a.2.1 c ns ds)
 |qo g f Q q=>exact absurd rfl (a.2.2 g f Q q)
 |int _=>exact h (.int 0) (by simp) n hn
 |bl _=>exact h (.bl b!) (by simp) n hn
 |cA=>exact h .cA (by simp) n hn
 |str _=>exact h (.str G9) (by simp) n hn
 |tup _=>exact h (.tup []) (by simp) n hn
 |lst _=>exact h (.lst []) (by simp) n hn
 |Rc=>exact h .Rc (by simp) n hn
noncomputable def lC (C:List Ae)(H:Hp):Hp:=λb=>if b∈C then a? else H b
noncomputable def oA (C:List Ae)(T H:Hp):Hp:=λb=>if b∈C then T b else H b
theorem lV {C:List Ae}{H:Hp}{b:Ae}(h:b∈C):lC C H b=none:=c! h
theorem cT {C:List Ae}{H:Hp}{b:Ae}(h:b∉C):lC C H b=H b:=c? h
theorem iH {C:List Ae}{T H:Hp}{b:Ae}(h:b∈C):oA C T H b=T b:=c! h
theorem cE {C:List Ae}{T H:Hp}{b:Ae}(h:b∉C):oA C T H b=H b:=c? h
def gb (C:List Ae)(T:Hp):Prop:=∀c∈C,∃o u,T c=a! (.el o (.own c))/\o.data = .cell u
section
variable {P:AA}{w:AR}{C:List Ae}{T H H':Hp}{h:Heap}
theorem gb.not (t:gb C T){c:Ae}{u:HO}(hc:c∈C)(e:T c=a! u):(∀x,u≠.own x)/\¬ ZH u:=by
 obtain⟨o,z,a,g⟩:=t c hc;rw[e]at a;cases a;refine⟨λx q=>(by cases q),λq=>?_⟩;rcases q with⟨_,q⟩ | ⟨O,c',q',f,vs,t,Q,_⟩
 .cases q
 .cases f;rw[g]at Q;cases Q
theorem jY.lC (ok:jY P w H h)(t:gb C H):jY P w (lC C H) h:=λa o e=>by
 by_cases A:a∈C
 .rw [lV A]at e;cases e
 rw[cT A]at e;refine (ok a o e).nV (λ_ _ _ q=>q) (λb q=>?_) λb u q r=>?_
 .rw [cT λz=>(t.not z q).1 _ rfl];exact q
 .rw [cT λz=>(t.not z q).2 r];exact q
theorem jY.oA (ok:jY P w H h)(n:∀c∈C,H c=a?)(t:gb C T)(g:∀c∈C,∀o u,T c=a! (.el o u)->h.get? c=a! o):jY P w (oA C T H) h:=λa o e=>by
 by_cases A:a∈C
 .rw [iH A]at e;obtain⟨O,u,f,j⟩:=t a A;rw[e]at f;cases f;have:=g a A _ _ e;exact⟨this,_,this⟩
 rw[cE A]at e;refine (ok a o e).nV (λ_ _ _ q=>q) (λb q=>?_) λb u q r=>?_
 .rw [cE λz=>by rw[n b z]at q;cases q];exact q
 .rw [cE λz=>by rw[n b z]at q;cases q];exact q
variable {outer:List Ed}{s s':Af}{Q:VK}{u:Aa}
theorem CE.X_ (t:gb C H)(l:∀c∈C,∀o u,H c=a! (.el o u)->s.heap.get? c=a! o)(hf:∀c∈C,c∉iY outer)(x:CE outer P w (L2.lC C H) s (λv f=>Q v (L2.oA C H f)) u s'):CE outer P w H s Q u s':=by
 obtain⟨v,f,os,A,un,k,r,q⟩:=x;have g:∀c∈C,f c=a?/\∀o z,H c=a! (.el o z)->s'.heap.get? c=a! o:=λc hc=>by
  obtain⟨o,z,a,G⟩:=t c hc;have O:=l c hc o _ a;exact⟨un.free c o O (lV hc) (by simp),λp m e=>by rw[a]at e;cases e;exact un.keep c o O (lV hc) (hf c hc) (by simp)⟩
 have U:∀b,H b=a?->L2.lC C H b=none:=λb n=>by unfold L2.lC;split;rfl;exact n
 refine⟨v,_,os,A,⟨λb o e n=>un.keep b o e (U b n),λb o e n=>un.slot b o e (U b n),λb o e n j=>?_,un.there,λb xs e=>?_,λb o y e=>?_,λb ps e=>?_⟩,k.oA (λc hc=>(g c hc).1) t λc hc o z e=>(g c hc).2 o z e,r,q⟩
 .by_cases B:b∈C
  .rw [iH B];exact n
  .rw [cE B];exact un.free b o e (U b n) j
 .have B:b∉C:=λz=>by obtain⟨_,_,a,_⟩:=t b z;rw[e]at a;cases a
  rw[cE B];exact un.lW b xs (by rw[cT B];exact e)
 .by_cases B:b∈C
  .rw [iH B];exact e
  .rw [cE B];exact un.jW b o y (by rw[cT B];exact e)
 .have B:b∉C:=λz=>by obtain⟨_,_,a,_⟩:=t b z;rw[e]at a;cases a
  obtain⟨more,q⟩:=un.lX b ps (by rw[cT B];exact e);exact⟨more,by rw[cE B];exact q⟩
theorem CE.ħ (n:∀c∈C,H c=a?)(t:gb C T)(G:∀c∈C,∀o u,T c=a! (.el o u)->s.heap.get? c=a! o)(hf:∀c∈C,c∉iY outer)(x:CE outer P w (L2.oA C T H) s (λv m=>Q v (L2.lC C m)) u s'):CE outer P w H s Q u s':=by
 obtain⟨v,m,os,A,un,k,r,q⟩:=x;have p:∀c∈C,∃o z,s.heap.get? c=a! o/\s'.heap.get? c=a! o/\m c=a! (.el o (.own c))/\o.data = .cell z:=λc hc=>by
  obtain⟨o,z,l,j⟩:=t c hc;have e:=un.jW c o (.own c) (by rw[iH hc];exact l);exact⟨o,z,G c hc o _ l,(k c _ e).1,e,j⟩
 have a:∀b,b∉C->H b=a?->L2.oA C T H b=none:=λb B n=>by rw[cE B];exact n
 have f:∀{b y},H b=a! y->b∉C:=λe z=>by rw[n _ z]at e;cases e
 refine⟨v,_,os,A,⟨λb o e n B g=>?_,λb o e n B g=>?_,λb o e n g=>?_,un.there,λb xs e=>?_,λb o y e=>?_,λb ps e=>?_⟩,k.lC λc hc=>?_,r,q⟩
 .by_cases h:b∈C
  .obtain ⟨O,_,l,j,_⟩:=p b h;rw[e]at l;cases l;exact j
  .exact un.keep b o e (a b h n) B g
 .exact un.slot b o e (a b (λz=>hf b z B) n) B g
 .by_cases h:b∈C
  .exact lV h
  .rw [cT h];exact un.free b o e (a b h n) g
 .rw [cT (f e)];exact un.lW b xs (by rw[cE (f e)];exact e)
 .rw [cT (f e)];exact un.jW b o y (by rw[cE (f e)];exact e)
 .obtain ⟨more,q⟩:=un.lX b ps (by rw[cE (f e)];exact e);exact⟨more,by rw[cT (f e)];exact q⟩
 .obtain ⟨o,z,_,_,e,j⟩:=p c hc;exact⟨o,z,e,j⟩
variable {K:Aq}{mg:Al->Option Aa}{base:Heap}{A:AN}
theorem k8.lC (e:k8 P w K mg base A outer s H)(t:gb C H):k8 P w K mg base A outer s (L2.lC C H):=
 ⟨e.frames,e.mod,λb o q=>⟨(e.bs b o q).1,by unfold L2.lC;split;rfl;exact (e.bs b o q).2⟩,e.MR,e.jV,λb B=>by unfold L2.lC;split;rfl;exact e.Rb b B,e.cL.lC t,e.bare⟩
theorem k8.oA (e:k8 P w K mg base A outer s H)(n:∀c∈C,H c=a?)(t:gb C T)(a:∀c∈C,∀o u,T c=a! (.el o u)->s.heap.get? c=a! o)(hf:∀c∈C,c∉iY outer)(B:∀c∈C,base.get? c=a?):k8 P w K mg base A outer s (L2.oA C T H):=
 ⟨e.frames,e.mod,λb o q=>⟨(e.bs b o q).1,by rw[cE λz=>by rw[B b z]at q;cases q];exact (e.bs b o q).2⟩,e.MR,e.jV,λb h=>by rw[cE λz=>hf b z h];exact e.Rb b h,e.cL.oA n t a,e.bare⟩
end
structure jC (h:Heap) (H:Hp) (cl:List (Al×Ae)) (ws:List V):Prop where
 len:cl.length=ws.length
 at':∀(i:Nat) x c v,cl[i]?=a! (x,c)->ws[i]?=a! v->H c=a?/\∃u,cu v u/\h.IsCell c (a! u)
 Ň:(cl.map (·.1)).Nodup
 ň:(cl.map (·.2)).Nodup
structure i9 (N fs ps:List Al) (sc:BM):Prop where
 kind:sc.kind = .function
 co:sc.isCoroutine=b?
 gen:sc.isGenerator=b?
 nd:N.Nodup
 pre:N.take (fs.length+ps.length)=fs++ps
 fre:∀x∈fs,sc.names.lookup x=a! .free
 par:∀x∈ps,sc.names.lookup x=a! .local
 only:∀y∈sc.names,y.2≠.cell/\(y.2 = .free->y.1∈fs)
noncomputable def Ě (P:AA)(w:AR)(K:Aq)(mg:Al->Option Aa)(base:Heap)(N:List Al)(q:Al)(scope:BM)(f:Ae)(cd:Aa)(cl:List (Al×Ae))(A:AN)(outer:List Ed)(s:Af)(H:Hp):Cx where
 prog:=P
 w:=w
 K:=K
 mg:=mg
 base:=base
 A:=A.deeper (Kz q scope s.heap.objs.size f cd cl)
 N:=N
 s₀:=s
 H₀:=H
 env:=Kz q scope s.heap.objs.size f cd cl
 outer:=outer
 stack:=Kz q scope s.heap.objs.size f cd cl::outer
 ex:=[]
 fn:=λ_=>b?
 calm:=b!
 pn:=[]
 xe:=λ_ _=>False
structure pH (P:AA) (w:AR) (K:Aq) (mg:Al->Option Aa) (base:Heap) (k:Nat) (q:Al) (st:A6) (fs:List Al) (sp:Sp):Prop where
 run:∀(A:AN) (outer:List Ed) (s:Af) (H:Hp) (f c:Ae) (cl:List (Al×Ae)) (doc pm Ž:Aa) (us:List Aa) (ws vs:List V) (Q:VK),cB k A->k8 P w K mg base A outer s H->s.heap.get? f=a! (fF q st cl doc pm c Ž)->s.heap.CodeRec (.ref c) q->
  cl.map (·.1)=fs->jC s.heap H cl ws->bQ vs us->sp (ws++vs) H Q E0->Cf (model P w) A (.call (.ref f) ⟨us,[]⟩) (CR jT outer P w H s Q E0) s
theorem Ã {l:List (Al×Ae)}{x y:Al}{c:Ae}(h:(l.map (·.2)).Nodup)(a:(x,c)∈l)(b:(y,c)∈l):x=y:=by
 induction l with
 |nil=>cases a
 |cons p r f=>
  rw[BU,AG]at h;rcases AJ.mp a with e |a
  .rcases AJ.mp b with e' |b
   .rw [<- e]at e';cases e';rfl
   .exact absurd (Be.mpr ⟨_,b,by rw[<- e]⟩) h.1
  .rcases AJ.mp b with e' |b
   .exact absurd (Be.mpr ⟨_,a,by rw[<- e']⟩) h.1
   .exact f h.2 a b
theorem Uc {c:Type}{l:List (Al×c)}{x:Al}{a:c}(n:(l.map (·.1)).Nodup)(m:(x,a)∈l):l.lookup x=a! a:=by
 induction l with
 |nil=>cases m
 |cons p r h=>
  rw[BU,AG]at n;rcases AJ.mp m with e |M
  .rw [<- e,CF,beq_self_eq_true]
  .have:(x==p.1)=false:=by
    rw[beq_eq_false_iff_ne];rintro rfl;exact n.1 (Be.mpr ⟨_,M,rfl⟩)
   obtain⟨g,f⟩:=p;rw[CF,this];exact h n.2 M
section
variable {P:AA}{w:AR}{K:Aq}{mg:Al->Option Aa}{base:Heap}{N fs ps:List Al}{q:Al}{st:A6}{k:Nat}{sp:Sp}
theorem sG {A:AN}{outer:List Ed}{s:Af}{H:Hp}{f:Ae}{cd:Aa}{L:List (Al×Ae)}{us:List Aa}{j vs:List V}{g:Heap}{tk:Nat}(S:i9 N fs ps (aB st))(hd:A.handled=a?)(n:k8 P w K mg base A outer s H)(hl:vs.length=ps.length)(hf:L.map (·.1)=fs)
  (hc:jC s.heap H L j) (r:bQ vs us) (J:g.Ns s.heap.objs.size (λx=>(ps.zip us).reverse.lookup x)) (Q:∀b o,s.heap.get? b=a! o->g.get? b=a! o):
  bC (Ě P w K mg base N q (aB st) f cd L A outer s H) [] (start N (j++vs)) H {s with heap:=g,toks:=tk}:=by
 have ś:fs.length=j.length:=by rw[<- hf,Au,hc.len]
 have Vp:fs.length+ps.length<=N.length:=by have:=congrArg Gp S.pre;rw[BE,AE]at this;omega
 have O:∀b:Ae,b∉(Ě P w K mg base N q (aB st) f cd L A outer s H).ex:=λb z=>absurd (show b∈([]:List Ae) from z) (by simp)
 have C:∀{c v},s.heap.IsCell c v->g.IsCell c v:=λ⟨o,ho,hd⟩=>⟨o,Q _ _ ho,hd⟩
 have m:∀{x c},L.lookup x=a! c->(x,c)∈L:=λh=>PySem.mem_of_lookup h
 have all:∀{x c},(x,c)∈L->H c=a?/\∃u,s.heap.IsCell c (a! u):=λ{x c} h=>by
  obtain⟨i,hi,e⟩:=Hx.mp h;have T:i<j.length:=by rw[<- hc.len];exact hi
  obtain⟨a,u,_,b⟩:=hc.at' i x c j[i] (by rw[Ad hi,e]) (Ad T);exact⟨a,u,b⟩
 refine⟨⟨n.mod,S.kind,rfl,rfl,Ag _,λy z c h1 h2=>Ã hc.ň (m h1) (m h2),λy t=>?_,λy c z=>(by cases z),λ_=>hd,Ha n.frames,.inr ⟨rfl,rfl⟩,λb z=>absurd z (O b),n.bs,n.MR,λb _ _=>O b,λb z=>absurd z (O b),n.jV,n.Rb⟩,
  rfl,n.bare,Un.kept Q,⟨_,J,λi y v h1 h2 h3=>?_⟩,λy c h=>?_,n.cL.fresh (Ag _),λy c h=>(all (m h)).1,λp l=>absurd (show p∈([]:List (Ae×CJ)) from l) (by simp),n.cL.kept Q,?_⟩
 .have t:(aB st).names.lookup y=a! .cell∨(aB st).names.lookup y=a! .free:=t;rcases t with t |t
  .exact absurd rfl (S.only _ (PySem.mem_of_lookup t)).1
  .have hm:=(S.only _ (PySem.mem_of_lookup t)).2 rfl;rw[<- hf]at hm;obtain⟨⟨x,c⟩,M,rfl⟩:=Be.mp hm;exact⟨c,Uc hc.Ň M⟩
 .have hi:i<j.length+vs.length:=by
   unfold start at h2;by_cases hi:i<j.length+vs.length
   .exact hi
   .rw [Bi (by simpa using hi),C_]at h2;split at h2<;>cases h2
  have B:(j++vs)[i]?=a! v:=by
   unfold start at h2;rw[A9 (by simpa using hi),AK]at h2
   cases e:(j++vs)[i]? with
   |none=>rw[e]at h2;cases h2
   |some a=>rw[e]at h2;cases h2;rfl
  have l:(fs++ps)[i]?=a! y:=by
   rw[<- S.pre,Cq (by omega)];exact h1
  by_cases hw:i<j.length
  .rw [A9 hw]at B;rw[A9 (by omega),<- hf,AK]at l
   cases e:L[i]? with
   |none=>rw[e]at l;cases l
   |some p=>
    rw[e]at l;obtain⟨x,c⟩:=p;cases l;obtain⟨_,u,ru,hcu⟩:=hc.at' i x c v e B;refine⟨u,ru,.inr ⟨.inr (S.fre x ?_),c,Uc hc.Ň (Ai e),C hcu⟩⟩;rw[<- hf];exact Be.mpr ⟨_,Ai e,rfl⟩
  .rw [Bi (by omega)]at B l;obtain⟨u,U,rv⟩:=r.get B;have G:ps.Nodup:=by
    have:(fs++ps).Nodup:=by rw[<- S.pre];exact S.nd.sublist (FW _ _)
    exact (A7.mp this).2.1
   rw[ś]at l;refine⟨u,rv,.inl ⟨S.par y (Ai l),(show Cg y (ps.zip us).reverse=a! u from Uc ?_ ?_)⟩⟩
   .rw [CD];refine (List.reverse_perm _).nodup_iff.mpr ?_;rw[List.map_fst_zip (by rw[<- r.length,hl];exact Ag _)];exact G
   .rw [Dz];exact Ai (i:=i-j.length) (by rw[Co];exact⟨l,U⟩)
 .obtain ⟨_,u,U⟩:=all (m h);exact⟨_,C U⟩
 .unfold start;show _=N.length
  rw[AE,Au,BA,AE];omega
theorem ì (S:i9 N fs ps (aB st))
  (hb:∀(l:List (Al×Ae)) (O pm:Aa) (c:Ae) (C:Aa) (us:List Aa),us.length=ps.length->BQ (fnX (qm st) q (bT st) (br st) (aB st) l .none .none O pm a? (.ref c) C) ⟨us,[]⟩=pure (ps.zip us))
  (n:∀vs H Q,sp vs H Q E0->vs.length=fs.length+ps.length)
  (h:∀(A:AN) (outer:List Ed) (s:Af) (H:Hp) (f:Ae) (cd:Aa) (l:List (Al×Ae)),l.map (·.1)=fs->cB k (A.deeper (Kz q (aB st) s.heap.objs.size f cd l))->
   ∃t,PSs (Ě P w K mg base N q (aB st) f cd l A outer s H) (br st) t/\∀vs Q,sp vs H Q E0->t {nx:=λ_ a=>Q .cA a,rt:=Q} (start N vs) H):pH P w K mg base (k+1) q st fs sp:=by
 refine⟨λA outer s H f c l O pm C us ws vs Q G e0 ho U hf hc r p=>?_⟩;have M:s.heap.NoLimit:=e0.mod.nolimit.keeps λb o e=>(e0.bs b o e).1
 have hl:=n _ _ _ p;have ś:fs.length=ws.length:=by rw[<- hf,Au,hc.len]
 rw[AE]at hl;have L:vs.length=ps.length:=by omega
 refine codeAny_call_def (fd:=fnX (qm st) q (bT st) (br st) (aB st) l .none .none O pm a? (.ref c) C) (body:=br st) (binds:=ps.zip us) G.depth ho rfl M U rfl (Ma (hb l O pm c C us (by rw[<- r.length];exact L)))
  (λx B=>(S.only x B).1) (λx B=>S.par _ (Fw B).1) (λW1 T hk=>?_) S.co S.gen S.kind
 obtain⟨t,ht,hq⟩:=h A outer s H f (.ref c) l hf (G.deeper _);have I:=sG (tk:=s.toks+(ps.zip us).length) (q:=q) (f:=f) (cd:=.ref c) S G.hd e0 L hf hc r T hk;refine BC (ht [] _ _ H _ I (hq _ Q p)) (λfl s' g=>?_) λe s' z=>(show False from z).elim
 have fin:∀{j:St} {a:Hp} {v:V} {u:Aa},bC (Ě P w K mg base N q (aB st) f (.ref c) l A outer s H) [] j a s'->cu v u->Q v a->CE outer P w H s Q u s':=
  λ{j a v u} J m q=>⟨v,a,J.os,J.bare,J.base,J.cL,m,q⟩
 cases fl with
 |ret u=>
  obtain⟨v,j,a,J,m,q⟩:=g;exact fin J m q
 |next=>
  obtain⟨j,a,J,q⟩:=g;exact fin (v:=V.cA) (u:=EN) J rfl q
 |brk=>
  obtain⟨_,_,_,q⟩:=g;exact AZ q
 |cont=>
  obtain⟨_,_,_,q⟩:=g;exact AZ q
end
structure pV (X:Cx) (cl:List (Al×Ae)) (ix:List Nat):Prop where
 len:cl.length=ix.length
 nm:∀(i:Nat) x c,cl[i]?=a! (x,c)->X.env.cells.lookup x=a! c/\X.env.kindOf x=a! .cell/\Ă X.env.scope x/\∃j:Nat,ix[i]?=a! j/\X.N[j]?=a! x
 Ň:(cl.map (·.1)).Nodup
 fn:∀(i:Nat) x c,cl[i]?=a! (x,c)->X.fn x=b!
def ø (Y:St)(ix:List Nat)(w:List V):Prop:=w.length=ix.length/\∀(i j:Nat) v,ix[i]?=a! j->w[i]?=a! v->Y[j]?=a! (a! v)
section
variable {X:Cx}{cl:List (Al×Ae)}{ix:List Nat}{pins:List (Ae×CJ)}{Y:St}{H:Hp}{s:Af}{ws:List V}
theorem pV.ň (S:pV X cl ix)(ok:X.Ok):(cl.map (·.2)).Nodup:=by
 rw[GH,ED];have:=S.Ň;rw[GH,ED]at this;refine DV (λ{a b} A B h e=>h ?_) this;obtain⟨i,hi⟩:=Ch A;obtain⟨j,J⟩:=Ch B;exact ok.inj a.1 b.1 a.2 (S.nm i a.1 a.2 hi).1 (by rw[(S.nm j b.1 b.2 J).1,e])
theorem pV.at' (S:pV X cl ix)(I:bC X pins Y H s)(h:ø Y ix ws){i:Nat}{x:Al}{c:Ae}{v:V}(hi:cl[i]?=a! (x,c))(hw:ws[i]?=a! v):H c=a?/\∃u,cu v u/\s.heap.IsCell c (a! u):=by
 obtain⟨h1,h2,g,j,f,a⟩:=S.nm i x c hi;refine⟨I.ie x c h1,?_⟩;obtain⟨m,hn,hl⟩:=I.loc;obtain⟨u,r,l⟩:=hl j x v a (h.2 i j v f hw) g;rcases l with⟨k,_⟩ | ⟨_,c',e,z⟩
 .rw [h2]at k;cases k
 .rw [h1]at e;cases e;exact⟨u,r,z⟩
theorem pV.cells (S:pV X cl ix)(I:bC X pins Y H s)(h:ø Y ix ws):jC s.heap H cl ws:=
 ⟨S.len.trans h.1.symm,λi x c v hi hw=>S.at' I h hi hw,S.Ň,S.ň I.ok⟩
theorem Wa {k:Nat}{q:Al}{st:A6}{fs:List Al}{sp:Sp}{f c:Ae}{O:CJ}{o pm v:Aa}{us:List Aa}{vs:List V}{Q:VK}(C:pH X.prog X.w X.K X.mg X.base k q st fs sp)(l:cB k X.A)(I:bC X pins Y H s)(hf:cl.map (·.1)=fs)
  (h1:H f=a! (.el (fF q st cl o pm c v) (.own f))) (h2:H c=a! (.el O (.own c))) (j:lO O q) (hc:jC s.heap H cl ws) (r:bQ vs us) (h:sp (ws++vs) H Q E0):AI (model X.prog X.w) X.A (call (.ref f) us) (EP X pins Y Q) X.xe s:=by
 obtain⟨g,t,j,m⟩:=j;refine Dm (BP (C.run X.A X.stack s H f c cl o pm v us ws vs Q l I.yO (I.cL f _ h1).1 ⟨c,O,g,t,rfl,(I.cL c _ h2).1,j,m⟩ hf hc r h) λr s' a=>?_)
 cases r with
 |error e=>exact (show False from a).elim
 |ok L=>
  cases L with
  |ret u=>exact I.after a
  |next=>exact AZ a
  |brk=>exact AZ a
  |cont=>exact AZ a
def RI (i:Nat)(q:Al)(st:A6)(cl:List (Al×Ae))(ix:List Nat)(sp:Sp)(t:TA):TE:=λY H Q=>∃f c O o pm v ws,Y[i]?=a! (a! (.ref f))/\H f=a! (.el (fF q st cl o pm c v) (.own f))/\ø Y ix ws/\t Y H λvs a=>
 a f=a! (.el (fF q st cl o pm c v) (.own f))/\a c=a! (.el O (.own c))/\lO O q/\sp (ws++vs) a Q E0
theorem Tg {y:Al}{i k:Nat}{q:Al}{st:A6}{fs:List Al}{sp:Sp}{e:Expr}{g:List Expr}{t:TA}{p pos:Ew}(hn:PE X (.Name y p) (dy i))(C:pH X.prog X.w X.K X.mg X.base k q st fs sp)(M:cB k X.A)(S:pV X cl ix)(hf:cl.map (·.1)=fs)(U:PA X (e::g) t)
  (O:Ap (e::g) X.env=(b?,eval e X.env)::Ap g X.env:=by rfl) (l:(BR pos (Ap g X.env)).any (·.1)=false:=by rfl):PE X (.Call (.Name y p) (e::g) [] pos) (RI i q st cl ix sp t):=by
 rintro pins s Y H Q I ⟨f,c,oc,o,pm,T,ws,L,h1,j,h⟩;refine Bx (cJ (hn pins s Y H (λv n=>v = .ref f/\n=H) I ⟨_,L,rfl,rfl⟩) λu G z=>?_);obtain⟨v,n,B,J,e1,e2⟩:=z;subst e1 e2;cases J;have a:∀{Y H s pins},bC X pins Y H s->H f=a! (.el (fF q st cl o pm c T) (.own f))->FnAt f s.heap:=λI h=>⟨_,_,_,_,(I.cL f _ h).1⟩
 refine Jt (a B h1) (cJ (U pos pins G Y n _ B h) λus s2 z=>?_) O l;obtain⟨vs,H2,m,r,g1,g2,g3,q⟩:=z;refine⟨a m g1,?_⟩;rw[Fx];exact Wa C M m hf g1 g2 g3 (S.cells m j) r q
def RH (i:Nat)(q:Al)(st:A6)(fs:List Al)(sp:Sp)(t:TA):TE:=λY H Q=>∃f c O cl o pm C ws,Y[i]?=a! (a! (.ref f))/\H f=a! (.el (fF q st cl o pm c C) (.own f))/\cl.map (·.1)=fs/\(cl.map (·.2)).Nodup/\(cl.map (·.1)).Nodup/\cl.length=ws.length/\
 t Y H λvs a=>a f=a! (.el (fF q st cl o pm c C) (.own f))/\a c=a! (.el O (.own c))/\lO O q/\mw a cl ws/\sp (ws++vs) (lC (cl.map (·.2)) a) (λv e=>Q v (oA (cl.map (·.2)) a e)) E0
theorem Tf {y:Al}{i k:Nat}{q:Al}{st:A6}{fs:List Al}{sp:Sp}{e:Expr}{G:List Expr}{t:TA}{p pos:Ew}(hn:PE X (.Name y p) (dy i))(C:pH X.prog X.w X.K X.mg X.base k q st fs sp)(hr:cB k X.A)(ha:PA X (e::G) t)
  (he:Ap (e::G) X.env=(b?,eval e X.env)::Ap G X.env:=by rfl) (Vp:(BR pos (Ap G X.env)).any (·.1)=false:=by rfl):PE X (.Call (.Name y p) (e::G) [] pos) (RH i q st fs sp t):=by
 rintro pins s Y H Q I ⟨f,c,oc,cl,O,pm,J,ws,hs,h1,hf,Vq,hnn,n,h⟩;refine Bx (cJ (hn pins s Y H (λv H1=>v = .ref f/\H1=H) I ⟨_,hs,rfl,rfl⟩) λu s1 M=>?_);obtain⟨v,H1,I1,r1,g,l⟩:=M;subst g l;cases r1;have T:∀{Y H s pins},bC X pins Y H s->H f=a! (.el (fF q st cl O pm c J) (.own f))->FnAt f s.heap:=λI h=>⟨_,_,_,_,(I.cL f _ h).1⟩
 refine Jt (T I1 h1) (cJ (ha pos pins s1 Y H1 _ I1 h) λus s2 M=>?_) he Vp;obtain⟨vs,H2,m,r,g1,g2,⟨U,t,g3,g4⟩,gc,q⟩:=M;refine⟨T m g1,?_⟩;rw[Fx];have ct:gb (cl.map (·.2)) H2:=λa ha=>by
  obtain⟨⟨x,a'⟩,hm,rfl⟩:=Be.mp ha;obtain⟨j,hj⟩:=Ch hm;obtain⟨Yw,_⟩:=Ab.mp hj;obtain⟨x',a2,o,u,g,l,L,_⟩:=gc j ws[j] (Ad (by rw[<- n];exact Yw));rw[hj]at g;cases g;exact⟨o,_,l,L⟩
 have nf:f∉cl.map (·.2):=λz=>by
  obtain⟨o,u,g,l⟩:=ct f z;rw[g1]at g;cases g;cases l
 have nc:c∉cl.map (·.2):=λz=>by
  obtain⟨o,u,g,l⟩:=ct c z;rw[g2]at g;cases g;rw[g3]at l;cases l
 have hT:∀b∈cl.map (·.2),∀o u,H2 b=a! (.el o u)->s2.heap.get? b=a! o:=λb _ o u e=>(m.cL b _ e).1
 have Ś:∀b∈cl.map (·.2),b∉iY X.stack:=λb hb z=>by
  obtain⟨o,u,g,_⟩:=ct b hb;rw[m.k_ b z]at g;cases g
 have hc:jC s2.heap (lC (cl.map (·.2)) H2) cl ws:=⟨n,λj x a v g l=>⟨lV (Be.mpr ⟨_,Ai g,rfl⟩),by
  obtain⟨x',a2,o,u,L,e4,e5,e6⟩:=gc j v l;rw[g]at L;cases L;exact⟨u,e6,o,(m.cL a _ e4).1,e5⟩⟩,hnn,Vq⟩
 refine Dm (BP (C.run X.A X.stack s2 _ f c cl O pm J us ws vs _ hr (m.yO.lC ct) (m.cL f _ g1).1 ⟨c,oc,U,t,rfl,(m.cL c _ g2).1,g3,g4⟩ hf hc r q) λr s' B=>?_)
 cases r with
 |error e=>exact (show False from B).elim
 |ok fl=>
  cases fl with
  |ret u=>exact m.after (CE.X_ ct hT Ś B)
  |next=>exact AZ B
  |brk=>exact AZ B
  |cont=>exact AZ B
def vu (sp:Sp)(cl:List (Al×Ae))(ix:List Nat)(t:TA):TE:=λY H Q=>∃ws,ø Y ix ws/\t Y H λvs a=>∀T:Hp,mw T cl ws->gb (cl.map (·.2)) T->(∀c∈cl.map (·.2),a c=a?)->(cl.map (·.2)).Nodup->sp vs (oA (cl.map (·.2)) T a) (λv e=>Q v (lC (cl.map (·.2)) e)) E0
theorem Te {x:Al}{f:Ae}{fd:A8}{ps:List Al}{k:Nat}{sp:Sp}{e:Expr}{L:List Expr}{t:TA}{p pos:Ew}(F:fR X.prog X.w X.K X.mg X.base jT k f fd ps sp)(hr:cB k X.A)(hg:Gl X x)(hm:X.mg x=a! (.ref f))(hk:DH X.K (.ref f)=b!)(B:gf X.K fd ps [])(S:pV X cl ix)
  (ha:PA X (e::L) t) (ŝ:(x==("__debug__":Al))=false:=by decide) (he:Ap (e::L) X.env=(b?,eval e X.env)::Ap L X.env:=by rfl) (U:(BR pos (Ap L X.env)).any (·.1)=false:=by rfl):PE X (.Call (.Name x p) (e::L) [] pos) (vu sp cl ix t):=by
 rintro pins s Y H Q I ⟨ws,hw,h⟩;refine Bx (ib I hg hm ?_ ŝ);refine DX (h₀:=X.base) I.ok.mod.WW hk (cJ (ha pos pins s Y H _ I h) λus g zz=>?_) he U;obtain⟨vs,H2,a,r,q⟩:=zz;refine⟨a.i_,?_⟩;have CA:=S.cells a hw
 let T:Hp:=λb=>(g.heap.get? b).map λo=>HO.el o (.own b)
 have l:∀b∈cl.map (·.2),∃i x v,cl[i]?=a! (x,b)/\ws[i]?=a! v:=λb B=>by
  obtain⟨⟨x,a'⟩,hm,rfl⟩:=Be.mp B;obtain⟨j,hj⟩:=Ch hm;obtain⟨Yw,_⟩:=Ab.mp hj;exact⟨j,x,ws[j]'(by rw[<- CA.len];exact Yw),hj,Ad _⟩
 have ct:gb (cl.map (·.2)) T:=λb B=>by
  obtain⟨i,x,v,m,M⟩:=l b B;obtain⟨_,u,_,o,e3,e4⟩:=CA.at' i x b v m M;exact⟨o,_,by show (g.heap.get? b).map _=_;rw[e3];rfl,e4⟩
 have cf:mw T cl ws:=λi v hv=>by
  have hi:i<cl.length:=by rw[CA.len];exact (Ab.mp hv).1
  have O:=Ad hi;generalize cl[i]=p at O;obtain⟨x1,c1⟩:=p;obtain⟨_,u,ru,o,e3,e4⟩:=CA.at' i x1 c1 v O hv;exact⟨x1,c1,o,u,O,by show (g.heap.get? c1).map _=_;rw[e3];rfl,e4,ru⟩
 have n:∀c∈cl.map (·.2),H2 c=none:=λb B=>by
  obtain⟨i,x,v,m,M⟩:=l b B;exact (CA.at' i x b v m M).1
 have hT:∀c∈cl.map (·.2),∀o u,T c=a! (.el o u)->g.heap.get? c=a! o:=λb _ o u e=>by
  have e:(g.heap.get? b).map (λo=>HO.el o (.own b))=a! (.el o u):=e
  cases q:g.heap.get? b with
  |none=>rw[q]at e;cases e
  |some o'=>rw[q]at e;cases e;rfl
 have ML:∀c∈cl.map (·.2),∃x,X.env.cells.lookup x=a! c/\X.fn x=true:=λb B=>by
  obtain⟨i,x,v,m,M⟩:=l b B;exact⟨x,(S.nm i x b m).1,S.fn i x b m⟩
 have G:∀c∈cl.map (·.2),c∉iY X.stack:=λb B z=>by
  obtain⟨x,h1,h2⟩:=ML b B;rcases AJ.mp (a.qF b z) with e |e
  .exact a.ML x b h1 e
  .obtain ⟨_,o,ho,_⟩:=a.ok.jV.mem e;exact absurd (AS (AU ho) (a.ok.Xn x b h2 h1)) (B7 _)
 have ė:∀c∈cl.map (·.2),X.base.get? c=none:=λb B=>by
  cases q:X.base.get? b with
  |none=>rfl
  |some o=>
   obtain⟨x,h1,h2⟩:=ML b B;have:=a.ok.Xn x b h2 h1;exact absurd (AS (AU q) (Bz a.ok.MR this)) (B7 _)
 have hl:(us++[]).length=ps.length:=by rw[A_,<- r.length];exact F.len _ _ _ _ (q T cf ct n (S.ň a.ok))
 have J:=B g us a.i_ hl;rw[A_]at J;refine Dm (BP (F.run X.A X.stack g _ ⟨us,[]⟩ us vs _ _ hr (a.yO.oA n ct hT G ė) J r (q T cf ct n (S.ň a.ok))) λr s' C=>?_)
 cases r with
 |error e=>exact (show False from C).elim
 |ok fl=>
  cases fl with
  |ret u=>exact a.after (CE.ħ n ct hT G C)
  |next=>exact AZ C
  |brk=>exact AZ C
  |cont=>exact AZ C
end
def Ze (i:Nat)(P:Ae)(pos:Ew)(q:Al)(st:A6)(l:List (Al×Ae)):TS:=λD Y H=>H P=a! (.kW pos q)/\∀f c O o pm t a,H f=a?->a6 H a->a f=a! (.el (fF q st l o pm c t) (.own f))->a c=a! (.el O (.own c))->lO O q->D.nx (Y.set i (a! (.ref f))) a
section
variable {X:Cx}
theorem ZP {i:Nat}{P c:Ae}{pos:Ew}{q name:Al}{p:Cz}{body:List A6}{scope:BM}{cl:List (Al×Ae)}(a:X.env.code = .ref c)(hC:Hl X.base c P)(hB:X.base.BuiltinsAt X.mg P)(Yy:X.Ok->EG scope X.env=pure cl)
  (hN:X.N.Nodup) (hi:X.N[i]?=a! name) (hx:ĉ X.env.scope name) (W4:p.defaults=[]:=by rfl) (hk0:p.kw_defaults=[]:=by rfl) (ha:annTrees p a? X.env=[]:=by rfl) (hq:qualnameIn X.env name name=q:=by rfl)
  (hf:X.fn name=b!∨X.env.scope.names.lookup name=a! .local:=by first |exact .inl rfl |exact .inr rfl |assumption):
  PS X (.FunctionDef name p body [] a? [] scope a? name pos) (Ze i P pos q (.FunctionDef name p body [] a? [] scope a? name pos) cl):=by
 rintro pins s Y H D I ⟨hP,h⟩;obtain⟨ps,ho,ht,hc⟩:=I.cL P _ hP;refine nestDef_K W4 hk0 ha ?_;rw[hq];have hg:s.heap.Ns Aj X.mg:=I.mod.glob.keeps I.bk;have nb:∀{b o},X.base.get? b=a! o->b≠P:=λ{b o} e z=>by rw[z]at e;rw[(I.bs P o e).2]at hP;cases hP
 have hgP:Aj≠P:=by obtain⟨o,es,ep,e,_⟩:=I.mod.glob;exact nb e
 have Yz:s.heap.BuiltinsAt X.mg P:=by obtain⟨bm,o,h1,h2,h3,h4,h5,h6⟩:=hB;exact⟨bm,o,h1,h2,h3,h4,I.bk _ _ h5,h6⟩
 cases j:JZ pos ps.toList with
 |some v=>
  obtain⟨c',A,rfl,m,l⟩:=hc v j;refine makeFunction_hit (Yy I.ok) I.ok.glob hg a (hC.keeps I.bk) ho ht j Yz λC O h' tk hk J=>?_
  have hn:H h'.objs.size=none:=I.cL.fresh J;have I1:bC X pins Y (cQ H h'.objs.size (.el (fF q (.FunctionDef name p body [] a? [] scope a? name pos) cl O ((X.mg "__name__").getD .none) c' C) (.own h'.objs.size))) _:=
   I.laid (t':=tk) (h':=h'.push (fF q (.FunctionDef name p body [] a? [] scope a? name pos) cl O ((X.mg "__name__").getD .none) c' C)) (λb u e=>Ah _ (hk b u e)) J ⟨Av _ rfl,_,Av _ rfl⟩
  refine iM I1 hN hi hx (v:=.ref h'.objs.size) rfl (λs2 I2=>⟨_,_,I2,h _ c' A O _ C _ hn (a6.new hn) aZ ?_ l⟩) hf;rw[bJ λz=>by rw[z,hn]at m;cases m];exact m
 |none=>
  refine makeFunction_K (Yy I.ok) I.ok.glob hg a (hC.keeps I.bk) ho ht j hgP Yz λc' C O h' tk W2 g L M htb=>?_
  obtain⟨c2,A,vs,t,e0,l,hd,hv⟩:=M;cases e0;have hnc:H c'=none:=I.cL.fresh g;have Q:H h'.objs.size=none:=I.cL.fresh (Bz g (DJ L));have U:h'.objs.size≠c':=GD L;generalize T:fF q (.FunctionDef name p body [] a? [] scope a? name pos) cl O ((X.mg "__name__").getD .none) c' C=k
  let H':Hp:=cQ (cQ H c' (.el A (.own c'))) h'.objs.size (.el k (.own h'.objs.size))
  have r:∀b u,H b=a! u->H' b=a! u:=λb u e=>by
   show cQ _ _ _ b=_
   rw[bJ (λz=>by rw[z,Q]at e;cases e),bJ (λz=>by rw[z,hnc]at e;cases e)];exact e
  have keep:∀b o,b≠P->s.heap.get? b=a! o->(h'.push k).get? b=a! o:=λb o B e=>Ah _ (W2 b o B e)
  have nP:∀{b},H b=a?->b≠P:=λe z=>by rw[z,hP]at e;cases e
  have Ş:(h'.push k).get? P=a! (Ib (ps++#[B8 pos.line,B8 pos.col,.ref c'])):=Ah _ htb;have un:Un (iY X.stack) [] H H' s.heap (h'.push k):=⟨λb o e n _ _=>keep b o (nP n) e,λb o e n _ _=>⟨o.slots,keep b o (nP n) e⟩,λb o e n _=>?_,λb o e _=>?_,λb xs e=>r _ _ e,λb o u e=>r _ _ e,λb ps e=>⟨#[],by rw[HL];exact r _ _ e⟩⟩
  rotate_left
  .have B:=AU e;show cQ _ _ _ b=_
   rw[bJ (Bq (AS B (Bz g (DJ L)))),bJ (Bq (AS B g))];exact n
  .by_cases B:b=P
   .subst B;exact⟨_,Ş⟩
   .exact ⟨_,keep b o B e⟩
  have cL:jY X.prog X.w H' (h'.push k):=λb u e=>by
   by_cases h1:b=h'.objs.size
   .subst h1;have e:cQ _ _ _ _=a! u:=e;rw[aZ]at e;cases e;have:(h'.push k).get? h'.objs.size=a! k:=Av _ (by rw[<- T];rfl);exact⟨this,_,this⟩
   by_cases h2:b=c'
   .subst h2;have e:cQ _ _ _ _=a! u:=e;rw[bJ h1,aZ]at e;cases e;have:=Ah k l;exact⟨this,_,this⟩
   have e:cQ _ _ _ _=a! u:=e;rw[bJ h1,bJ h2]at e;by_cases h3:b=P
   .subst h3;rw[hP]at e;cases e;refine⟨_,Ş,?_,λv G=>?_⟩
    .have:=KA pos.line pos.col (.ref c') ps.toList ht;simpa using this
    .have:=Kx (pos:=pos) (c:=.ref c') ps.toList ht j;rw[show (ps++#[B8 pos.line,B8 pos.col,.ref c']).toList=ps.toList++[B8 pos.line,B8 pos.col,.ref c'] by simp,this]at G;cases G;refine⟨c',A,rfl,?_,vs,t,hd,hv⟩;show cQ _ _ _ _=_
     rw[bJ (Bb U),aZ]
   .refine (I.cL b u e).nV (λd v f qv=>keep d v ?_ qv) (λd qd=>r _ _ qd) λd v qd _=>r _ _ qd
    rcases f with rfl |f
    .exact h3
    .rintro rfl;rw[hP]at f;cases f
  have I1:bC X pins Y H' {s with heap:=h'.push k,toks:=tk}:=I.OA (ch:=[]) rfl un cL I.bare (λb z=>absurd z (by simp));subst T;refine iM I1 hN hi hx (v:=.ref h'.objs.size) rfl (λs2 I2=>⟨_,_,I2,h _ c' A O ((X.mg "__name__").getD .none) C H' Q r ?_ ?_ ⟨vs,t,hd,hv⟩⟩) hf
  .show cQ _ _ _ _=_
   rw[aZ]
  .show cQ _ _ _ _=_
   rw[bJ (Bb U),aZ]
end
noncomputable def D.PB:D->Bool
 | .int _=>b!
 | .bl _=>b!
 | .cA=>b!
 | .str _=>b!
 |_=>b?
theorem dM.PB {K:Aq}{F a:Hp}:∀{d:D} {v:V},dM K F d v->d.PB=b!->dM K a d v
 | .int _,_,h,_=>h
 | .bl _,_,h,_=>h
 | .cA,_,h,_=>h
 | .str _,_,h,_=>h
 | .ty _,_,_,z=>by cases z
 | .fn _,_,_,z=>by cases z
 | .tup _,_,_,z=>by cases z
 | .lst _,_,_,z=>by cases z
 | .Rc,_,_,z=>by cases z
 | .exc _,_,_,z=>by cases z
 | .obj _ _ _,_,_,z=>by cases z
 | .qo _ _ _ _,_,_,z=>by cases z
noncomputable def OV.PB:OV->Bool
 | .fz d=>d.PB
 |_=>b?
theorem e8.PB {K:Aq}{H F e c f a:Hp}:∀{r:OV} {v:V},e8 K H F e r v->r.PB=b!->e8 K c f a r v
 | .fz d,v,⟨A,h,_,_⟩,z=>.fz (h.2.PB z)
 | .nl _,_,_,z=>by cases z
 | .rt _ _,_,_,z=>by cases z
 | .fx _ _,_,_,z=>by cases z
 | .ob _ _ _ _,_,_,z=>by cases z
def X8 (i:Nat)(q:Al)(st:A6)(c:List (Al×Ae)):DS:=λe δ=>e.nx (δ.set i (a! (.own (.fz (.qo q st c [])))))
def vd:List Nat->DA
 | []=>UN
 |j::r=>yR (dV j) (vd r)
def MH (i n:Nat)(q:Al)(st:A6)(l:List (Al×Ae))(ix:List Nat)(sp:dN)(A:DA):DO:=λδ P=>match δ[i]? with
 |some (a! (.own (.fz (.qo q' t c _))))=>q'=q/\t=st/\c=l/\vd ix δ λcs=>A δ λds=>(cs++ds).length=n/\sp (cs++ds) P
 |_=>False
def UU (n:Nat)(q:Al)(st:A6)(c:List (Al×Ae))(fs:List Al)(ix:List Nat)(sp:dN)(A:DA):DO:=λδ P=>vd ix δ λcs=>A δ λds=>match ds with
 | [a,b,.qo q' t l _]=>q'=q/\t=st/\l=c/\n=3/\((c.map (·.2)).Nodup->c.map (·.1)=fs->sp [a,b,.qo q st c cs] λr=>r.PB=b!/\P r)
 |_=>False
def MF (i n:Nat)(q:Al)(st:A6)(fs:List Al)(sp:dN)(A:DA):DO:=λδ P=>match δ[i]? with
 |some (a! (.own (.fz (.qo q' t c cs))))=>q'=q/\t=st/\c.map (·.1)=fs/\fs.Nodup/\(c.map (·.2)).Nodup/\c.length=cs.length/\A δ λds=>D.jU cs=b!/\D.jU ds=b!/\(cs++ds).length=n/\sp (cs++ds) λr=>r.PB=b!/\P r
 |_=>False
section
variable {K:Aq}{F0 H0 F H:Hp}{Y:St}{δ:de}
theorem Zs {i:Nat}{T:Ae}{pos:Ew}{q:Al}{st:A6}{C:List (Al×Ae)}(hP:F0 T=a! (.kW pos q)):gY K F0 H0 (Ze i T pos q st C) (X8 i q st C):=λF H Y δ De U e l w=>by
 have h:=cv.ext e;refine⟨h.fh _ _ (h.ff _ _ hP),λf c u O pm t g hn k h1 h2 L=>?_⟩;have n:F f=none:=h.fh.free hn
 let j:Hp:=λb=>if b=f then g f else if b=c then g c else F b
 have p:j f=g f:=c! rfl;have G:j c=g c:=by
  show (if c=f then g f else if c=c then g c else F c)=_
  split
  .rename_i z;rw[z]
  .rw [c! rfl]
 have go:∀b,b≠f->b≠c->j b=F b:=λb B A=>by
  show (if b=f then g f else if b=c then g c else F b)=_
  rw[c? B,c? A]
 have x:cy F H j g:=by
  refine⟨λb o e'=>?_,k,λb o e'=>?_,λb o Q m M=>?_⟩
  .by_cases z:b=f
   .rw [z,n]at e';cases e'
   by_cases a:b=c
   .rw [a,G];rw[a]at e';exact k _ _ (h.fh _ _ e')
   .rw [go b z a];exact e'
  .by_cases z:b=f
   .rw [z,p]at e';rw[z];exact e'
   by_cases a:b=c
   .rw [a,G]at e';rw[a];exact e'
   .rw [go b z a]at e';exact k _ _ (h.fh _ _ e')
  .by_cases z:b=f
   .rw [z,hn]at m;cases m
   by_cases a:b=c
   .rw [a]at m;rw[k _ _ m]at h2;cases h2;cases M
   .rw [go b z a];exact Q
 exact l.nx j g _ _ (e.put x i (r:=.fz (.qo q st C [])) (v:=.ref f) (.fz ⟨f,c,u,O,pm,t,[],rfl,p.trans h1,G.trans h2,L,rfl,λi v J=>by simp at J⟩)) w
theorem nz (e:cv K F0 H0 F H Y δ):∀{ix:List Nat} {P:List D->Prop},vd ix δ P->∃cs w,P cs/\ø Y ix w/\bF K F cs w
 | [],P,h=>⟨[],[],h,⟨rfl,λi j v h=>by simp at h⟩,rfl⟩
 |j :: r,P,h=>by
  have h:dV j δ λd=>vd r δ λds=>P (d::ds):=h
  have key:∀{d:D} {v:V} {cs:List D} {w:List V},Y[j]?=a! (a! v)->dM K F d v->P (d::cs)->ø Y r w->bF K F cs w->∃cs w,P cs/\ø Y (j::r) w/\bF K F cs w:=λ{d v cs w} c f p a rs=>by
   refine⟨d::cs,v::w,p,⟨by simp[a.1],λi k u h1 h2=>?_⟩,v,w,rfl,f,rs⟩
   cases i with
   |zero=>simp at h1 h2;subst h1 h2;exact c
   |succ i=>exact a.2 i k u (by simpa using h1) (by simpa using h2)
  unfold dV at h;split at h
  .rename_i d hd;obtain⟨A,e'⟩:=e;obtain⟨v,c,_,f⟩:=e'.own j _ hd;obtain⟨cs,w,p,a,rs⟩:=nz ⟨A,e'⟩ h;exact key c f p a rs
  .rename_i u d hd;obtain⟨A,e'⟩:=e;obtain⟨v,c,_,_,f⟩:=e'.own j _ hd;obtain⟨cs,w,p,a,rs⟩:=nz ⟨A,e'⟩ h;exact key c f p a rs
  .exact h.elim
theorem Sn {i n:Nat}{q:Al}{st:A6}{l:List (Al×Ae)}{ix:List Nat}{sp:dN}{a:TA}{u:DA}(L:dJ K a u):eR K (RI i q st l ix (cg K n sp) a) (MH i n q st l ix sp u):=λF0 H0 F H Y δ P Q e w q'=>by
 unfold MH at w;split at w
 .rename_i q1 T cl1 cs1 J;obtain⟨rfl,rfl,rfl,w⟩:=w;obtain⟨cs,h,w,hw,rs⟩:=nz e w;have U:=(cv.ext e).fh;have e0:=e;obtain⟨A,e'⟩:=e;obtain⟨v,G,_,f,c,O,o,pm,t,vs,rfl,h1,h2,M,h4,h5⟩:=e'.own i _ J;refine⟨f,c,O,o,pm,t,h,G,U _ _ h1,hw,L F0 H0 F H Y δ _ _ e0 w λds us m H1 j g B=>⟨g.fh _ _ (g.ff _ _ h1),g.fh _ _ (g.ff _ _ h2),M,?_⟩⟩;have k:bF K m (cs++ds) (h++us):=(rs.mono g.ff).append B;exact⟨by rw[<- k.length];exact j.1,m,cs++ds,P,g.fh,k,j.2,λr v F' H' p z C=>q' r v F' H' p (g.trans z) (C.old g.hh)⟩
 .exact w.elim
theorem Sj {n:Nat}{q:Al}{st:A6}{L:List (Al×Ae)}{fs:List Al}{ix:List Nat}{sp:dN}{a:TA}{As:DA}(hf:L.map (·.1)=fs)(ha:dJ K a As):eR K (vu (cg K n sp) L ix a) (UU n q st L fs ix sp As):=λF0 H0 F H Y δ P Q e w q'=>by
 obtain⟨cs,t,w,hw,rs⟩:=nz e w;refine⟨t,hw,ha F0 H0 F H Y δ _ _ e w λds us k H1 g h r1 T cf ct hn C=>?_⟩
 try dsimp only at g
 split at g
 .rename_i d1 d2 q1 A l cs1;obtain⟨rfl,rfl,rfl,G,g⟩:=g;have g:=g C hf;obtain⟨v1,r,rfl,ra,v2,r2,rfl,rb,v3,r3,rfl,rc,e3⟩:=r1
  cases (show r3=[] from e3)
  obtain⟨f,c,oc,O,pm,J,vs,rfl,h1,h2,h3,h4,h5⟩:=rc;have j:a6 k (oA (l.map (·.2)) T k):=λb o z=>by
   rw[cE (λy=>by have:=h.fh _ _ z;rw[hn b y]at this;cases this)];exact z
  have s2:a6 (oA (l.map (·.2)) T k) (oA (l.map (·.2)) T H1):=λb o z=>by
   by_cases y:b∈l.map (·.2)
   .rw [iH y]at z ⊢;exact z
   .rw [cE y]at z ⊢;exact h.fh _ _ z
  have M:mw (oA (l.map (·.2)) T k) l t:=λi v hv=>by
   obtain⟨x,a,o,u,e1,e2,e4⟩:=cf i v hv;exact⟨x,a,o,u,e1,by rw[iH (Be.mpr ⟨_,Ai e1,rfl⟩)];exact e2,e4⟩
  refine⟨by rw[G];rfl,_,[d1,d2,.qo q1 A l cs],_,s2,⟨v1,_,rfl,ra.mono j,v2,_,rfl,rb.mono j,.ref f,_,rfl,⟨f,c,oc,O,pm,J,t,rfl,j _ _ h1,j _ _ h2,h3,(rs.mono h.ff).mono j,M⟩,rfl⟩,g,λr v F' H' p U r'=>?_⟩;refine q' r v k (lC (l.map (·.2)) H') p.2 (h.trans ⟨a6.refl _,λb o z=>?_,λb o z=>?_,λ_ _ z _ _=>z⟩) (r'.PB p.1)
  .have B:b∉l.map (·.2):=λy=>by rw[hn b y]at z;cases z
   rw[cT B];exact U.hh _ _ (by rw[cE B];exact z)
  .have m:=h.fh _ _ z;have B:b∉l.map (·.2):=λy=>by rw[hn b y]at m;cases m
   rw[cT B];exact U.hh _ _ (by rw[cE B];exact m)
 .exact g.elim
theorem Ru {C:List Ae}(ct:gb C F){a:Ae}{xs:List V}(h:lA K F a xs):lA K (lC C F) a xs:=by
 rcases h with (h | ⟨o,h⟩) |h
 .exact .inl (.inl (by rw[cT (λy=>by obtain⟨_,_,e,_⟩:=ct a y;rw[h]at e;cases e)];exact h))
 .exact .inl (.inr ⟨o,by rw[cT (λy=>by obtain⟨_,_,e,_⟩:=ct a y;rw[h]at e;cases e)];exact h⟩)
 .exact .inr h
mutual
theorem dM.Rt {C:List Ae}(ct:gb C F):∀{d:D} {v:V},dM K F d v->d.lf=b!->dM K (lC C F) d v
 | .int _,_,h,_=>h
 | .bl _,_,h,_=>h
 | .cA,_,h,_=>h
 | .str _,_,h,_=>h
 | .ty _,_,h,_=>h
 | .fn _,_,h,_=>h
 | .tup ds,v,h,z=>by
  obtain⟨a,vs,e,h1,h2⟩:=h;exact⟨a,vs,e,Ru ct h1,bF.Rt ct h2 (by simpa[D.lf] using z)⟩
 | .lst ds,v,h,z=>by simp[D.lf]at z
 | .Rc,v,h,z=>by simp[D.lf]at z
 | .exc _,v,h,z=>by simp[D.lf]at z
 | .obj _ _ _,v,h,z=>by simp[D.lf]at z
 | .qo _ _ _ _,v,h,z=>by simp[D.lf]at z
theorem bF.Rt {C:List Ae}(ct:gb C F):∀{ds:List D} {vs:List V},bF K F ds vs->D.jU ds=b!->bF K (lC C F) ds vs
 | [],_,h,_=>h
 |d::ds,vs,h,z=>by
  obtain⟨v,r,e,h1,h2⟩:=h;simp[D.jU]at z
  exact⟨v,r,e,dM.Rt ct h1 z.1,bF.Rt ct h2 z.2⟩
end
theorem Sk {i n:Nat}{q:Al}{st:A6}{fs:List Al}{sp:dN}{a:TA}{As:DA}(ha:dJ K a As):eR K (RH i q st fs (cg K n sp) a) (MF i n q st fs sp As):=λF0 H0 F H Y δ P Q e w q'=>by
 unfold MF at w;split at w
 .rename_i q1 Nj l cs hs;obtain⟨rfl,rfl,hf,O,G,L,w⟩:=w;have e0:=e;have fh:=(cv.ext e).fh;obtain⟨A,e'⟩:=e;obtain⟨v,hv,_,f,c,oc,T,pm,U,k,rfl,h1,h2,h3,h4,h5⟩:=e'.own i _ hs;have h:l.length=k.length:=by rw[L,h4.length]
  refine⟨f,c,oc,l,T,pm,U,k,hv,fh _ _ h1,hf,G,by rw[hf];exact O,h,ha F0 H0 F H Y δ _ _ e0 w λds us m H1 B g r1=>?_⟩;have C:a6 F H1:=g.ff.trans g.fh;have ct:gb (l.map (·.2)) m:=λb hb=>by
   obtain⟨⟨x,b'⟩,hm,rfl⟩:=Be.mp hb;obtain⟨j,J⟩:=Ch hm;obtain⟨M,_⟩:=Ab.mp J;obtain⟨t,a2,o,u,e1,e2,e3,_⟩:=h5 j (k[j]'(by rw[<- h];exact M)) (Ad _);rw[J]at e1;cases e1;exact⟨o,_,g.ff _ _ e2,e3⟩
  refine⟨C _ _ h1,C _ _ h2,h3,λj v J=>let⟨x,b,o,u,g1,g2,g3⟩:=h5 j v J;⟨x,b,o,u,g1,C _ _ g2,g3⟩,?_⟩;obtain⟨l1,l2,ln,B⟩:=B;have rr:bF K m (cs++ds) (k++us):=(h4.mono g.ff).append r1;have lf:D.jU (cs++ds)=true:=by rw[D.kQ]at l1 l2 ⊢;rw[List.all_append,l1,l2];rfl
  have s2:a6 (lC (l.map (·.2)) m) (lC (l.map (·.2)) H1):=λb o z=>by
   by_cases y:b∈l.map (·.2)
   .rw [lV y]at z;cases z
   .rw [cT y]at z ⊢;exact g.fh _ _ z
  refine⟨by rw[<- rr.length];exact ln,_,cs++ds,_,s2,bF.Rt ct rr lf,B,λr v F' H' p t r'=>?_⟩;refine q' r v m (oA (l.map (·.2)) H1 H') p.2 (g.trans ⟨a6.refl _,λb o z=>?_,λb o z=>?_,λ_ _ z _ _=>z⟩) (r'.PB p.1)
  .by_cases y:b∈l.map (·.2)
   .rw [iH y];exact z
   .rw [cE y];exact t.hh _ _ (by rw[cT y];exact z)
  .have z:=g.fh _ _ z;by_cases y:b∈l.map (·.2)
   .rw [iH y];exact z
   .rw [cE y];exact t.hh _ _ (by rw[cT y];exact z)
 .exact w.elim
end
def ē (K:Aq)(n:Nat)(T:Ae)(pos:Ew)(q:Al)(sp:dN):Sp:=VI n λvs H Q=>∃F ds P,F T=a! (.kW pos q)/\a6 F H/\bF K F ds vs/\sp ds P/\∀r v c a,P r->cy F H c a->e8 K H c a r v->Q v a
def tE (K:Aq)(f e:Hp)(t:TE)(E:DE):Prop:=∀F H Y δ P Q,cv K f e F H Y δ->E δ P->(∀d v c a,P d->cy F H c a->dM K c d v->Q v a)->t Y H Q
def pG (K:Aq)(e c:Hp)(t:TT)(C:DT):Prop:=∀F H Y δ P Q,cv K e c F H Y δ->C δ P->(∀b f a,P b->cy F H f a->Q b a)->t Y H Q
section
variable {K:Aq}{F0 H0:Hp}{te ta tb:TE}{t u:TS}{T U:DS}{a:TA}{As:DA}{E Ea Eb:DE}{n:Nat}{sp:dN}
theorem Y5 {E:DO}(h:i7 K F0 H0 te E):tE K F0 H0 te (Qz E):=λF H Y δ P Q e w q=>h F H Y δ _ Q e w λd v k j p x r=>by
 obtain⟨c,f,_,g⟩:=r.el x;exact q _ v c j p f g
theorem Ĥ {R:R2}{r:xp}(h:zi K R r)(A:tE K F0 H0 ta Ea)(B:dH K tb Eb):tE K F0 H0 (Nd R ta tb) (Ŵ r Ea Eb):=λF H Y δ P Q e w q=>
 A F H Y δ _ _ e w λx v L C k f m=>B F0 H0 L C Y δ _ _ (e.on f) k λy u J z j c l=>
  h J z x y v u P _ c.fh ((m.mono f.fh).mono c.hh) l j λd w M G p g o=>q d w M G p (f.trans (c.trans g)) o
theorem Ģ (h:tE K F0 H0 te E):pG K F0 H0 (tB te) (ů E):=λF H Y δ P Q e w q=>h F H Y δ _ _ e w λd v f c p x r=>by
 try dsimp only at p
 split at p
 .cases (show v = .bl _ from r)
  exact⟨_,rfl,q _ f c p x⟩
 .exact p.elim
theorem Rl {c:TT}{C:DT}(h:pG K F0 H0 c C):pG K F0 H0 (Zc c) (é C):=λF H Y δ P Q e w q=>h F H Y δ _ _ e w λb g f p x=>q _ g f p x
theorem XJ {c:TT}{C:DT}(h:pG K F0 H0 c C)(ht:gY K F0 H0 t T)(m:gY K F0 H0 u U):gY K F0 H0 (zD c t u) (ĸ C T U):=λF H Y δ k j e l w=>h F H Y δ _ _ e w λb g f p x=>by
 cases b with
 |true=>exact oD (ht g f Y δ k j (e.on x) l p)
 |false=>exact ng rfl (m g f Y δ k j (e.on x) l p)
theorem ģ (h:tE K F0 H0 te E):i7 K F0 H0 te (ę E):=λF H Y δ P Q e w q=>h F H Y δ _ _ e w λd v f c p x r=>q _ v f c p x (.fz r)
end
section
variable {P:AA}{w:AR}{K:Aq}{mg:Al->Option Aa}{base:Heap}{x q:Al}{st:A6}{f c T:Ae}{fd:A8}{pos:Ew}{N ps fs:List Al}{k n:Nat}{sp:dN}
theorem Xa8.of (S:i9 N fs ps (aB st))
  (L:∀(l:List (Al×Ae)) (O pm:Aa) (c:Ae) (C:Aa) (us:List Aa),us.length=ps.length->BQ (fnX (qm st) q (bT st) (br st) (aB st) l .none .none O pm a? (.ref c) C) ⟨us,[]⟩=pure (ps.zip us)) (hn:n=fs.length+ps.length)
  (o:∀(A:AN) (outer:List Ed) (s:Af) (H:Hp) (f:Ae) (cd:Aa) (l:List (Al×Ae)),l.map (·.1)=fs->cB k (A.deeper (Kz q (aB st) s.heap.objs.size f cd l))->
   ∃t T,PSs (Ě P w K mg base N q (aB st) f cd l A outer s H) (br st) t/\bU K t T/\∀ds a,sp ds a->T {nx:=λ_=>a (.fz .cA),rt:=a} (c5 N ds)):pH P w K mg base (k+1) q st fs (cg K n sp):=
 ì S L (λvs H Q h=>by rw[<- hn];exact h.1) λA outer s H f cd l hf J=>by
  obtain⟨t,T,h1,h2,M⟩:=o A outer s H f cd l hf J;refine⟨t,h1,λvs Q h=>?_⟩;obtain⟨_,F,ds,a,G,j,g,B⟩:=h;refine h2 F H F H (start N vs) (c5 N ds) {nx:=λ_=>a (.fz .cA),rt:=a} _ ⟨_,ew G j⟩ ⟨λu m Y δ e p=>?_,λ_ _ _ _ _ z=>z.elim,λ_ _ _ _ _ z=>z.elim,λu m r v x n p=>B r v u m p x n⟩ (M ds a g);exact B _ _ u m p e.ext (.fz rfl)
theorem Xa9.of {sc:BM}(g:bN K mg x st f fd)(hc:fd.code = .ref c)(S:aR N ps (aB st))
  (hb:∀(kV O pm:Aa) (J:Option Ae) (C ct:Aa) (us:List Aa),us.length=ps.length->BQ (DC x x (bT st) (br st) (aB st) .none kV O pm J C ct) ⟨us,[]⟩=pure (ps.zip us)) (hn:n=ps.length)
  (o:∀(A:AN) (outer:List Ed) (s:Af) (H:Hp) (E:XK),cB k (A.deeper (Bt x (aB st) s.heap.objs.size f (.ref c)))->∀F:Hp,F T=a! (.kW pos q)->∀cl,cl=dE sc (du jT P w K mg base N x (aB st) f (.ref c) A outer s H E).lE.env->
   ∃t U,PSs (du jT P w K mg base N x (aB st) f (.ref c) A outer s H E).lE (br st) t/\gY K F H t U/\∀ds a,sp ds a->U {nx:=λ_=>a (.fz .cA),rt:=a} (c5 N ds)):cc P w K mg base x (k+1) ps (ē K n T pos q sp):=by
 obtain⟨oc,od,kV,O,pm,J,C,ct,L,rfl,lk,m⟩:=g.fn.ex
 cases (show C = .ref c from hc)
 refine⟨f,_,?_,g.here,g.fn.kp,g.fn.binds hb⟩;refine vb lk m S (λvs H Q E h=>by rw[<- hn];exact h.1) λA outer s H vs Q E hr h=>?_
 obtain⟨_,F,ds,a,hT,M,l,j,G⟩:=h;obtain⟨t,U,h1,h2,h3⟩:=o A outer s H E hr F hT _ rfl;refine⟨t,h1.lE,h2 F H (start N vs) (c5 N ds) {nx:=λ_=>a (.fz .cA),rt:=a} _ ⟨_,ew M l⟩ ⟨λB u Y δ e p=>?_,λ_ _ _ _ _ z=>z.elim,λ_ _ _ _ _ z=>z.elim,λB u r v x n p=>G r v B u p x n⟩ (h3 ds a j)⟩;exact G _ _ B u p e.ext (.fz rfl)
end
theorem Xm {X:Cx}{scope:BM}(ok:X.Ok)(h:∀x∈scope.names,x.2 = .free->X.env.kindOf x.1=a! .cell):EG scope X.env=pure (dE scope X.env):=jP λx a e=>ok.has x.1 (.inl (h x a e))
theorem yU {X:Cx}{scope:BM}{c:List (Al×Ae)}(e:c=dE scope X.env)(ok:X.Ok)(h:∀x∈scope.names,x.2 = .free->X.env.kindOf x.1=a! .cell):EG scope X.env=pure c:=by rw[e];exact Xm ok h
theorem Nz {g:OK}{P:AA}{w:AR}{K:Aq}{m:Al->Option Aa}{base:Heap}{N fs:List Al}{q:Al}{scope sc:BM}{f:Ae}{cd:Aa}{A:AN}{outer:List Ed}{s:Af}{H:Hp}{E:XK}{ix:List Nat}
  (h1:((sc.names.filter λx=>x.2 == .free).map (·.1)).reverse=fs) (k:fs.Nodup) (hl:fs.length=ix.length) (h2:(fs.zip ix).all (λp=>scope.names.lookup p.1==a! .cell && N[p.2]?==a! p.1)=b!):
  pV (du g P w K m base N q scope f cd A outer s H E).lE (dE sc (du g P w K m base N q scope f cd A outer s H E).lE.env) ix:=by
 have M:(dE sc (du g P w K m base N q scope f cd A outer s H E).lE.env).map (·.1)=fs:=by
  rw[<- h1];unfold dE;rw[CD,AW];rfl
 have key:∀(i:Nat) x c,(dE sc (du g P w K m base N q scope f cd A outer s H E).lE.env)[i]?=a! (x,c)->∃j:Nat,ix[i]?=a! j/\N[j]?=a! x/\scope.names.lookup x=a! .cell/\(GO (s.heap.objs.size+1) scope.names []).lookup x=a! c:=λi x c e=>by
  have r:fs[i]?=a! x:=by rw[<- M,AK,e];rfl
  have hi:=(Ab.mp r).1;have o:ix[i]?=a! ix[i]:=Ad (by rw[<- hl];exact hi);have z:=GZ.mp h2 (x,ix[i]) (Ai (i:=i) (by rw[Co];exact⟨r,o⟩));rw[CZ,beq_iff_eq,beq_iff_eq]at z;refine⟨ix[i],o,z.2,z.1,?_⟩;obtain⟨c',C⟩:=sZ (n:=s.heap.objs.size+1) z.1;have h:=Ai e;unfold dE at h;rw[Dz]at h;obtain⟨p,v,a⟩:=Be.mp h;have u:p.1=x:=congrArg Prod.fst a;have l:((GO (s.heap.objs.size+1) scope.names []).lookup p.1).getD 0=c:=congrArg Prod.snd a;rw[u,C]at l;rw[C];exact congrArg a! l
 refine⟨by rw[<- hl,<- M,Au],λi x c e=>?_,by rw[M];exact k,λ_ _ _ _=>rfl⟩;obtain⟨j,k1,k2,k3,t⟩:=key i x c e;exact⟨t,k3,.inr (.inl k3),j,k1,k2⟩
theorem NV {X:Cx}{x:Al}{k:Nat}{ps:List Al}{sp:Sp}{c:List (Al×Ae)}{ix:List Nat}{e:Expr}{a:List Expr}{t:TA}{p pos:Ew}(C:cc X.prog X.w X.K X.mg X.base x k ps sp)(r:cB k X.A)(hg:Gl X x)(S:pV X c ix)(n:PA X (e::a) t)
  (B:(x==("__debug__":Al))=false:=by decide) (j:Ap (e::a) X.env=(b?,eval e X.env)::Ap a X.env:=by rfl) (h:(BR pos (Ap a X.env)).any (·.1)=false:=by rfl):
  PE X (.Call (.Name x p) (e::a) [] pos) (vu sp c ix t):=by
 obtain⟨f,fd,F,m,g,l⟩:=C.ex;exact Te F r hg m g l S n B j h
noncomputable def ſ (o:CJ)(T:Ae):Bool:=o.cls == .type "code" && match o.data with
 | .fields vs=>vs[11]?==a! (.ref T) && vs.getD 11 .none == .ref T && (match vs.getD 18 .none,vs.getD 7 .none,vs.getD 9 .none,vs.getD 10 .none with
  | .str _ _,.int _ _,.bool _,.int _ _=>b!
  |_,_,_,_=>b?)
 |_=>b?
theorem ls {K:Aq}{base:Heap}{c T:Ae}{o:CJ}(X:K.In base)(l:K.lookup c=a! o)(h:ſ o T=b!)(n:c≠T):Hl base c T:=by
 unfold ſ at h;rw[CZ,beq_iff_eq]at h;obtain⟨h1,h⟩:=h;split at h
 .rename_i vs hd;simp only[CZ,beq_iff_eq]at h;obtain⟨⟨h2,q⟩,h⟩:=h;split at h
  .rename_i _ _ _ _ a b c d e f g p m k j;exact⟨o,vs,a,b,c,d,e,f,g,X _ _ l,h1,hd,h2,q,p,m,k,j,n⟩
  .cases h
 .cases h
noncomputable abbrev jy (q:Al)(a:Cz)(B:Expr)(sc:BM)(l:List (Al×Ae))(pm:Aa)(c:Ae)(t:Aa):CJ:=kla_obj "<lambda>" q a B sc l pm c t
noncomputable def Uj (a:Cz)(sc:BM):A6:=.FunctionDef "" a [] [] a? [] sc a? "" ⟨0,0,0,0⟩
structure Vg (P:AA) (w:AR) (K:Aq) (mg:Al->Option Aa) (base:Heap) (k:Nat) (q:Al) (ar:Cz) (bd:Expr) (sc:BM) (fs:List Al) (sp:Sp):Prop where
 run:∀(A:AN) (outer:List Ed) (s:Af) (H:Hp) (f c:Ae) (cl:List (Al×Ae)) (pm Ž:Aa) (us:List Aa) (ws vs:List V) (Q:VK),cB k A->k8 P w K mg base A outer s H->s.heap.get? f=a! (jy q ar bd sc cl pm c Ž)->s.heap.CodeRec (.ref c) q->
  cl.map (·.1)=fs->jC s.heap H cl ws->bQ vs us->sp (ws++vs) H Q E0->Cf (model P w) A (.call (.ref f) ⟨us,[]⟩) (CR jT outer P w H s Q E0) s
section
variable {P:AA}{w:AR}{K:Aq}{mg:Al->Option Aa}{base:Heap}{N fs ps:List Al}{q:Al}{ar:Cz}{bd:Expr}{sc:BM}{k:Nat}{sp:Sp}
theorem Í (S:i9 N fs ps (aB (Uj ar sc)))
  (hb:∀(l:List (Al×Ae)) (pm:Aa) (c:Ae) (C:Aa) (us:List Aa),us.length=ps.length->BQ (kla_fn "<lambda>" q ar bd sc l pm (.ref c) C) ⟨us,[]⟩=pure (ps.zip us))
  (n:∀vs H Q,sp vs H Q E0->vs.length=fs.length+ps.length)
  (h:∀(A:AN) (outer:List Ed) (s:Af) (H:Hp) (f:Ae) (cd:Aa) (l:List (Al×Ae)),l.map (·.1)=fs->cB k (A.deeper (Kz q sc s.heap.objs.size f cd l))->
   ∃t,PE (Ě P w K mg base N q sc f cd l A outer s H) bd t/\∀vs Q,sp vs H Q E0->t (start N vs) H Q):Vg P w K mg base (k+1) q ar bd sc fs sp:=by
 refine⟨λA outer s H f c l pm C us T vs Q j O ho M hf hc r p=>?_⟩;have m:s.heap.NoLimit:=O.mod.nolimit.keeps λb o e=>(O.bs b o e).1
 have hl:=n _ _ _ p;have ś:fs.length=T.length:=by rw[<- hf,Au,hc.len]
 rw[AE]at hl;have L:vs.length=ps.length:=by omega
 refine kla_callFunE (fd:=kla_fn "<lambda>" q ar bd sc l pm (.ref c) C) j.depth ho rfl S.co S.gen rfl M ?_;rw[hb l pm c C us (by rw[<- r.length];exact L)];refine AD (IB (λx g=>(S.only x g).1) (λx g=>S.par _ (Fw g).1) (λa G B=>⟨m.fresh _ B,?_⟩) S.kind);have hk:∀b o,s.heap.get? b=a! o->a.get? b=a! o:=λb o e=>B.extBut b o (Bq (AU e)) (Ah _ e)
 show Cf _ _ (.expr bd (Kz q sc s.heap.objs.size f (.ref c) l)) _ _
 obtain⟨t,ht,hq⟩:=h A outer s H f (.ref c) l hf (j.deeper _);have I:=sG (tk:=s.toks+(ps.zip us).length) (q:=q) (f:=f) (cd:=.ref c) (st:=Uj ar sc) S j.hd O L hf hc r G hk;refine kla_codeExpr (BC (ht [] _ _ H _ I (hq _ Q p)) (λu s' hs=>?_) λe s' z=>(show False from z).elim);obtain⟨v,H',J,U,q⟩:=hs;exact⟨v,H',J.os,J.bare,J.base,J.cL,U,q⟩
end
section
variable {X:Cx}
def Zd (P:Ae)(pos:Ew)(q:Al)(r:Cz)(B:Expr)(sc:BM)(l:List (Al×Ae)):TE:=λ_ H Q=>H P=a! (.kW pos q)/\∀f c o pm t a,H f=a?->a6 H a->a f=a! (.el (jy q r B sc l pm c t) (.own f))->a c=a! (.el o (.own c))->lO o q->Q (.ref f) a
theorem ZV {P c:Ae}{pos:Ew}{q:Al}{p:Cz}{body:Expr}{scope:BM}{cl:List (Al×Ae)}(O:X.env.code = .ref c)(hC:Hl X.base c P)(hB:X.base.BuiltinsAt X.mg P)(Yy:X.Ok->EG scope X.env=pure cl)
  (hq:X.env.qual ++ "<lambda>"=q:=by rfl) (W4:defaultsOf p X.env=([],[]):=by rfl):
  PE X (.Lambda p body scope pos) (Zd P pos q p body scope cl):=by
 rintro pins s Y H Q I ⟨hP,h⟩;obtain⟨ps,ho,ht,hc⟩:=I.cL P _ hP;refine kla_eval W4 ?_;rw[hq];have hg:s.heap.Ns Aj X.mg:=I.mod.glob.keeps I.bk;have nb:∀{b o},X.base.get? b=a! o->b≠P:=λ{b o} e z=>by rw[z]at e;rw[(I.bs P o e).2]at hP;cases hP
 have hgP:Aj≠P:=by obtain⟨o,es,ep,e,_⟩:=I.mod.glob;exact nb e
 have Yz:s.heap.BuiltinsAt X.mg P:=by obtain⟨bm,o,h1,h2,h3,h4,h5,h6⟩:=hB;exact⟨bm,o,h1,h2,h3,h4,I.bk _ _ h5,h6⟩
 cases f:JZ pos ps.toList with
 |some v=>
  obtain⟨c',A,rfl,m,k⟩:=hc v f;refine kla_makeFunctionHit (Yy I.ok) I.ok.glob hg O (hC.keeps I.bk) ho ht f Yz λC h' tk hk J=>?_
  have hn:H h'.objs.size=none:=I.cL.fresh J;have I1:bC X pins Y (cQ H h'.objs.size (.el (jy q p body scope cl ((X.mg "__name__").getD .none) c' C) (.own h'.objs.size))) _:=
   I.laid (t':=tk) (h':=h'.push (jy q p body scope cl ((X.mg "__name__").getD .none) c' C)) (λb u e=>Ah _ (hk b u e)) J ⟨Av _ rfl,_,Av _ rfl⟩
  refine⟨.ref h'.objs.size,_,I1,rfl,h _ c' A _ C _ hn (a6.new hn) aZ ?_ k⟩;rw[bJ λz=>by rw[z,hn]at m;cases m];exact m
 |none=>
  refine kla_makeFunction (Yy I.ok) I.ok.glob hg O (hC.keeps I.bk) ho ht f hgP Yz λc' C h' tk W2 g l L htb=>?_
  obtain⟨c2,A,vs,t,e0,k,hd,hv⟩:=L;cases e0;have hnc:H c'=none:=I.cL.fresh g;have M:H h'.objs.size=none:=I.cL.fresh (Bz g (DJ l));have U:h'.objs.size≠c':=GD l;generalize T:jy q p body scope cl ((X.mg "__name__").getD .none) c' C=j
  let H':Hp:=cQ (cQ H c' (.el A (.own c'))) h'.objs.size (.el j (.own h'.objs.size))
  have r:∀b u,H b=a! u->H' b=a! u:=λb u e=>by
   show cQ _ _ _ b=_
   rw[bJ (λz=>by rw[z,M]at e;cases e),bJ (λz=>by rw[z,hnc]at e;cases e)];exact e
  have keep:∀b o,b≠P->s.heap.get? b=a! o->(h'.push j).get? b=a! o:=λb o B e=>Ah _ (W2 b o B e)
  have nP:∀{b},H b=a?->b≠P:=λe z=>by rw[z,hP]at e;cases e
  have Ş:(h'.push j).get? P=a! (Ib (ps++#[B8 pos.line,B8 pos.col,.ref c'])):=Ah _ htb;have un:Un (iY X.stack) [] H H' s.heap (h'.push j):=⟨λb o e n _ _=>keep b o (nP n) e,λb o e n _ _=>⟨o.slots,keep b o (nP n) e⟩,λb o e n _=>?_,λb o e _=>?_,λb xs e=>r _ _ e,λb o u e=>r _ _ e,λb ps e=>⟨#[],by rw[HL];exact r _ _ e⟩⟩
  rotate_left
  .have B:=AU e;show cQ _ _ _ b=_
   rw[bJ (Bq (AS B (Bz g (DJ l)))),bJ (Bq (AS B g))];exact n
  .by_cases B:b=P
   .subst B;exact⟨_,Ş⟩
   .exact ⟨_,keep b o B e⟩
  have cL:jY X.prog X.w H' (h'.push j):=λb u e=>by
   by_cases h1:b=h'.objs.size
   .subst h1;have e:cQ _ _ _ _=a! u:=e;rw[aZ]at e;cases e;have:(h'.push j).get? h'.objs.size=a! j:=Av _ (by rw[<- T];rfl);exact⟨this,_,this⟩
   by_cases h2:b=c'
   .subst h2;have e:cQ _ _ _ _=a! u:=e;rw[bJ h1,aZ]at e;cases e;have:=Ah j k;exact⟨this,_,this⟩
   have e:cQ _ _ _ _=a! u:=e;rw[bJ h1,bJ h2]at e;by_cases h3:b=P
   .subst h3;rw[hP]at e;cases e;refine⟨_,Ş,?_,λv G=>?_⟩
    .have:=KA pos.line pos.col (.ref c') ps.toList ht;simpa using this
    .have:=Kx (pos:=pos) (c:=.ref c') ps.toList ht f;rw[show (ps++#[B8 pos.line,B8 pos.col,.ref c']).toList=ps.toList++[B8 pos.line,B8 pos.col,.ref c'] by simp,this]at G;cases G;refine⟨c',A,rfl,?_,vs,t,hd,hv⟩;show cQ _ _ _ _=_
     rw[bJ (Bb U),aZ]
   .refine (I.cL b u e).nV (λd v a qv=>keep d v ?_ qv) (λd qd=>r _ _ qd) λd v qd _=>r _ _ qd
    rcases a with rfl |a
    .exact h3
    .rintro rfl;rw[hP]at a;cases a
  have I1:bC X pins Y H' {s with heap:=h'.push j,toks:=tk}:=I.OA (ch:=[]) rfl un cL I.bare (λb z=>absurd z (by simp));subst T;refine⟨.ref h'.objs.size,_,I1,rfl,h _ c' A ((X.mg "__name__").getD .none) C H' M r ?_ ?_ ⟨vs,t,hd,hv⟩⟩
  .show cQ _ _ _ _=_
   rw[aZ]
  .show cQ _ _ _ _=_
   rw[bJ (Bb U),aZ]
def VB (i:Nat)(q:Al)(r:Cz)(B:Expr)(sc:BM)(fs:List Al)(sp:Sp)(t:TA):TE:=λY H Q=>∃f c o l pm C w,Y[i]?=a! (a! (.ref f))/\H f=a! (.el (jy q r B sc l pm c C) (.own f))/\l.map (·.1)=fs/\(l.map (·.2)).Nodup/\(l.map (·.1)).Nodup/\l.length=w.length/\
 t Y H λvs a=>a f=a! (.el (jy q r B sc l pm c C) (.own f))/\a c=a! (.el o (.own c))/\lO o q/\mw a l w/\sp (w++vs) (lC (l.map (·.2)) a) (λv e=>Q v (oA (l.map (·.2)) a e)) E0
theorem P0 {y:Al}{i k:Nat}{q:Al}{ar:Cz}{bd:Expr}{sc:BM}{fs:List Al}{sp:Sp}{e:Expr}{B:List Expr}{t:TA}{p pos:Ew}(hn:PE X (.Name y p) (dy i))(C:Vg X.prog X.w X.K X.mg X.base k q ar bd sc fs sp)(hr:cB k X.A)(ha:PA X (e::B) t)
  (he:Ap (e::B) X.env=(b?,eval e X.env)::Ap B X.env:=by rfl) (Vp:(BR pos (Ap B X.env)).any (·.1)=false:=by rfl):PE X (.Call (.Name y p) (e::B) [] pos) (VB i q ar bd sc fs sp t):=by
 rintro pins s Y H Q I ⟨f,c,oc,L,pm,J,U,hs,h1,hf,Vq,hnn,l,h⟩;refine Bx (cJ (hn pins s Y H (λv H1=>v = .ref f/\H1=H) I ⟨_,hs,rfl,rfl⟩) λu s1 O=>?_);obtain⟨v,H1,I1,r1,g,G⟩:=O;subst g G;cases r1;have T:∀{Y H s pins},bC X pins Y H s->H f=a! (.el (jy q ar bd sc L pm c J) (.own f))->FnAt f s.heap:=λI h=>⟨_,_,_,_,(I.cL f _ h).1⟩
 refine Jt (T I1 h1) (cJ (ha pos pins s1 Y H1 _ I1 h) λus s2 O=>?_) he Vp;obtain⟨vs,H2,m,r,g1,g2,⟨ĥ,t,g3,g4⟩,gc,q⟩:=O;refine⟨T m g1,?_⟩;rw[Fx];have ct:gb (L.map (·.2)) H2:=λa ha=>by
  obtain⟨⟨x,a'⟩,hm,rfl⟩:=Be.mp ha;obtain⟨j,hj⟩:=Ch hm;obtain⟨Yw,_⟩:=Ab.mp hj;obtain⟨x',a2,o,u,g,G,M,_⟩:=gc j U[j] (Ad (by rw[<- l];exact Yw));rw[hj]at g;cases g;exact⟨o,_,G,M⟩
 have hT:∀b∈L.map (·.2),∀o u,H2 b=a! (.el o u)->s2.heap.get? b=a! o:=λb _ o u e=>(m.cL b _ e).1
 have Ś:∀b∈L.map (·.2),b∉iY X.stack:=λb hb z=>by
  obtain⟨o,u,g,_⟩:=ct b hb;rw[m.k_ b z]at g;cases g
 have hc:jC s2.heap (lC (L.map (·.2)) H2) L U:=⟨l,λj x a v g G=>⟨lV (Be.mpr ⟨_,Ai g,rfl⟩),by
  obtain⟨x',a2,o,u,M,e4,e5,e6⟩:=gc j v G;rw[g]at M;cases M;exact⟨u,e6,o,(m.cL a _ e4).1,e5⟩⟩,hnn,Vq⟩
 refine Dm (BP (C.run X.A X.stack s2 _ f c L pm J us U vs _ hr (m.yO.lC ct) (m.cL f _ g1).1 ⟨c,oc,ĥ,t,rfl,(m.cL c _ g2).1,g3,g4⟩ hf hc r q) λr s' n=>?_)
 cases r with
 |error e=>exact (show False from n).elim
 |ok fl=>
  cases fl with
  |ret u=>exact m.after (CE.X_ ct hT Ś n)
  |next=>exact AZ n
  |brk=>exact AZ n
  |cont=>exact AZ n
end
section
variable {K:Aq}{F0 H0:Hp}{c c':TT}{C C':DT}
theorem Xaa (h:i6 K c C):pG K F0 H0 c C:=h F0 H0
theorem ġ (h:pG K F0 H0 c C)(g:pG K F0 H0 c' C'):pG K F0 H0 (tOr c c') (dOr C C'):=λF H Y δ P Q e w q=>h F H Y δ _ _ e w λb f a p x=>by
 cases b with
 |true=>exact oD (q _ f a p x)
 |false=>exact ng rfl (g f a Y δ P Q (e.on x) p λb m l k j=>q b m l k (x.trans j))
end
def RL (q:Al)(r:Cz)(B:Expr)(sc:BM)(fs:List Al)(sp:Sp):Sp:=VI 3 λvs H Q=>∃(lo hi:Int) (f c:Ae) (o:CJ) (l:List (Al×Ae)) (pm v:Aa) (w:List V) (I:Int->Int->Hp->Prop),vs=[.int lo,.int hi,.ref f]/\lO o q/\l.map (·.1)=fs/\(l.map (·.2)).Nodup/\fs.Nodup/\l.length=w.length/\I lo hi H/\
 (∀b g a,b<g->I b g a->a f=a! (.el (jy q r B sc l pm c v) (.own f))/\a c=a! (.el o (.own c))/\mw a l w/\
  ∀R:VK,(∀t e,I (if t=b! then b else (b+g) / 2+1) (if t=b! then (b+g) / 2 else g) (oA (l.map (·.2)) a e)->R (.bl t) e)->sp (w++[.int ((b+g) / 2)]) (lC (l.map (·.2)) a) R E0)/\
 (∀b g a,¬ b<g->I b g a->Q (.int g) a)
section
variable {K:Aq}{TF:Hp->Prop}{te tc:TE}{t u:TS}{T U:DS}{E Ec:DO}{c:TT}{C:DT}
theorem bU.y (h:bU K t T):d3 K TF t T:=λe a _=>h e a
theorem cz (h:d3 K TF t T)(g:d3 K TF u U):d3 K TF (lY t u) (PK T U):=λf e a=>vV (h f e a) (g f e a)
theorem Ġ (h:i6 K c C)(ht:d3 K TF t T)(g:d3 K TF u U):d3 K TF (zD c t u) (ĸ C T U):=λf e a=>X6 h (ht f e a) (g f e a)
theorem zt {i:Nat}(h:lT K TF tc Ec):d3 K TF (j6 tc (gU i)) (VW i (ę (Qz Ec))):=λf e a=>Zq (Ķ (h f e a))
theorem Rh (h:lT K TF tc Ec):d3 K TF (Px tc) (V0 Ec):=λf e a=>Zr (h f e a)
def xI (K:Aq)(n:Nat)(TF:Hp->Prop)(sp:dN):Sp:=VI n λvs H Q=>∃F ds P,TF F/\a6 F H/\bF K F ds vs/\sp ds P/\∀r v e a,P r->cy F H e a->e8 K H e a r v->Q v a
theorem pY {TG:Hp->Prop}{a:TA}{A:DA}{n:Nat}{sp:dN}(m:lS TG)(M:∀F,TF F->TG F)(l:dJ K a A):lT K TF (lJ (xI K n TG sp) [] E0 a) (Oz n sp A):=λJ z o F H Y δ P Q e w q=>l J z F H Y δ _ _ e w λds vs G O g f h=>by
 rw[A_];exact⟨by rw[<- h.length];exact g.1,G,ds,P,m _ _ ((cv.ext e).ff.trans f.ff) (M _ o),f.fh,h,g.2,λr v L B p j k=>q r v L B p (f.trans j) (k.old f.hh)⟩
theorem qu {B:Ae}{pos:Ew}{q:Al}{a:TA}{A:DA}{n:Nat}{sp:dN}(m:∀F,TF F->F B=a! (.kW pos q))(e:dJ K a A):lT K TF (lJ (ē K n B pos q sp) [] E0 a) (Oz n sp A):=pY (TG:=λF=>F B=a! (.kW pos q)) (λ_ _ s h=>s _ _ h) m e
end
abbrev pI (K:Aq)(n:Nat)(c:Al)(ns:List Al)(TF:Hp->Prop)(sp:qt):Sp:=RK K n c ns λF ts ds P=>TF F/\sp ts ds P
abbrev ϕ:=List OV->List D->(D->Prop)->Prop
def VH (K:Aq)(n:Nat)(c:Al)(ns:List Al)(TF:Hp->Prop)(sp:ϕ):Sp:=VI n λvs H Q=>∃F a C f ts e B da ds P,vs=V.ref a::da/\B5 K Aj c=a! (a! (.ref C))/\a6 F H/\H a=a! (.ins C f (ns.zip e))/\H f=a! (.own a)/\ts.length<=ns.length/\bu K F H ts e B/\
 (a::f::B).Nodup/\(∀b∈a::f::B,F b=a?)/\bF K F ds da/\(TF F/\sp ts ds P)/\
 ∀d v h g,P d->cy F (λb=>if b∈a::f::B then a? else H b) h g->dM K h d v->Q v g
section
variable {P:AA}{w:AR}{K:Aq}{mg:Al->Option Aa}{base:Heap}{c m q x:Al}{ns:List Al}{st:A6}{f:Ae}{fd:A8}{N ps:List Al}{k n:Nat}{TF:Hp->Prop}
theorem Ϝ.of {sp:qt}(g:fv K c m q st f fd)(S:aR N ps (aB st))
  (B:∀(kV O pm:Aa) (G:Option Ae) (v ct:Aa) (us:List Aa),us.length=ps.length->BQ (DC m q (bT st) (br st) (aB st) .none kV O pm G v ct) ⟨us,[]⟩=pure (ps.zip us)) (hn:n=ps.length)
  (o:∀(v:Aa) (A:AN) (outer:List Ed) (s:Af) (H:Hp) (E:XK),cB k (A.deeper (Bt q (aB st) s.heap.objs.size f v))->
   ∃t T,PSs (du jT P w K mg base N q (aB st) f v A outer s H E).lE (br st) t/\d3 K TF t T/\∀(a:Ae) ts ds r,sp ts ds r->T {nx:=λδ=>∃e,δ[0]?=a! (a! (.own (.ob (a! a) c ns e)))/\r e,rt:=λ_=>False} (fb N c ns a ts ds)):
  c6 P w K mg base c m (k+1) ps (pI K n c ns TF sp):=by
 obtain⟨C,l,L,M⟩:=g.cl;exact⟨C,f,fd,l,L,M,wI (SP:=λF ts ds P=>TF F/\sp ts ds P) g.fn S hn λz A u s H E j=>let⟨t,T,h1,h2,p⟩:=o z A u s H E j;⟨t,T,h1,λF J a ts ds r h=>⟨h2 F J h.1,p a ts ds r h.2⟩⟩,g.fn.binds B⟩
theorem Ϛ.of {sp:qt}{sc:BM}{J:Ae}(Df:fv K c m q st f fd)(hc:fd.code = .ref J)(S:aR N ps (aB st))
  (hb:∀(kV G pm:Aa) (an:Option Ae) (l ct:Aa) (us:List Aa),us.length=ps.length->BQ (DC m q (bT st) (br st) (aB st) .none kV G pm an l ct) ⟨us,[]⟩=pure (ps.zip us)) (hn:n=ps.length)
  (O:∀(A:AN) (outer:List Ed) (s:Af) (H:Hp) (E:XK),cB k (A.deeper (Bt q (aB st) s.heap.objs.size f (.ref J)))->∀cl,cl=dE sc (du jT P w K mg base N q (aB st) f (.ref J) A outer s H E).lE.env->
   ∃t C tr U,PSs (du jT P w K mg base N q (aB st) f (.ref J) A outer s H E).lE (br st) (lY (zD t XS Nh) tr)/\i6 K t C/\d3 K TF tr U/\∀(a:Ae) ts ds r,sp ts ds r->C (fb N c ns a ts ds) λb=>if b=b! then r ts else U {nx:=λδ=>∃T,δ[0]?=a! (a! (.own (.ob (a! a) c ns T)))/\r T,rt:=λ_=>False} (fb N c ns a ts ds)):
  c6 P w K mg base c m (k+1) ps (pI K n c ns TF sp):=by
 obtain⟨C0,hC0,cl0,hm0⟩:=Df.cl;obtain⟨oc,od,kV,G,pm,an,l,ct,Ĕ,rfl,lk,Ý⟩:=Df.fn.ex
 cases (show l = .ref J from hc)
 refine⟨C0,f,_,hC0,cl0,hm0,?_,Df.fn.binds hb⟩;refine vb lk Ý S (λvs H Q E h=>by rw[<- hn];exact h.1) λA outer s H vs Q E hr h=>?_
 obtain⟨_,F,a,C,dx,ts,vs0,B,da,ds,r,rfl,hC,hs,ha,hd,L,hB,Vq,hnf,hr',⟨hT,Ř⟩,hq⟩:=h;obtain⟨t,C1,tr,U,h1,h2,h3,h4⟩:=O A outer s H E hr _ rfl;refine⟨_,h1.lE,?_⟩;have er:=nW (N:=N) hC hs ha hd L hB Vq hnf hr';have fin:∀j g Y δ T,cv K F (λb=>if b∈a::dx::B then a? else H b) j g Y δ->δ[0]?=a! (a! (.own (.ob (a! a) c ns T)))->r T->Q .cA g:=λj g Y δ T e h0 hp=>by
  obtain⟨A',e⟩:=e;obtain⟨v,hv,a',C',Ϸ,M,B',rfl,eA,g0,go,g1,g2,g3,g4⟩:=e.own 0 _ h0;obtain rfl:=go a rfl;rw[hC]at g0;cases g0;have u:=e.jN 0;rw[eA]at u;refine hq T j g Ϸ M B' hp e.ext.ff e.ext.fh (λb o y z=>?_) (λb o y1 y2 y3 y4=>?_) g1 g2 g3 g4 u (λb hb=>?_)
  .exact e.ext.hh b o (by rw[c? y];exact z)
  .exact e.ext.no b o y1 (by rw[c? y4];exact y2) y3
  .obtain ⟨z1,z2,_⟩:=e.new 0 b (by rw[eA];exact hb);refine⟨z1,?_⟩;by_cases q:b∈a'::dx::B
   .exact .inl q
   .rw [c? q]at z2;exact .inr z2
 refine h2 F _ F H _ _ _ _ ⟨_,er⟩ (h4 a ts ds r Ř) λb j g p x=>?_
 have e2:cv K F (λb=>if b∈a::dx::B then a? else H b) j g _ _:=⟨_,er.on x⟩
 cases b with
 |true=>exact oD (fin j g _ _ ts e2 rfl p)
 |false=>exact ng rfl (h3 F _ hT j g _ _ {nx:=λδ=>∃T,δ[0]?=a! (a! (.own (.ob (a! a) c ns T)))/\r T,rt:=λ_=>False} _ e2 ⟨λj g Y δ e ⟨T,h0,hp⟩=>fin j g Y δ T e h0 hp,λ_ _ _ _ _ z=>z.elim,λ_ _ _ _ _ z=>z.elim,λ_ _ _ _ _ _ z=>z.elim⟩ p)
theorem ϝ.of {sp:qt}(g:QM K m q st f fd)(L:zj K mg c f)(S:aR N ps (aB st))
  (B:∀(kV O pm:Aa) (J:Option Ae) (v ct:Aa) (us:List Aa),us.length=ps.length->BQ (DC m q (bT st) (br st) (aB st) .none kV O pm J v ct) ⟨us,[]⟩=pure (ps.zip us)) (hn:n=ps.length)
  (o:∀(v:Aa) (A:AN) (outer:List Ed) (s:Af) (H:Hp) (E:XK),cB k (A.deeper (Bt q (aB st) s.heap.objs.size f v))->
   ∃t T,PSs (du jT P w K mg base N q (aB st) f v A outer s H E).lE (br st) t/\d3 K TF t T/\∀(a:Ae) ts ds r,sp ts ds r->T {nx:=λδ=>∃e,δ[0]?=a! (a! (.own (.ob (a! a) c ns e)))/\r e,rt:=λ_=>False} (fb N c ns a ts ds)):
  ur P w K mg base c (k+1) ps (pI K n c ns TF sp):=by
 obtain⟨C,p,M,l⟩:=L.cl;exact⟨C,f,fd,p,M,l,wI (SP:=λF ts ds P=>TF F/\sp ts ds P) g S hn λG A u s H E j=>let⟨t,T,h1,h2,z⟩:=o G A u s H E j;⟨t,T,h1,λF Q a ts ds r h=>⟨h2 F Q h.1,z a ts ds r h.2⟩⟩,g.binds B⟩
theorem ϛ.of {sp:ϕ}(U:fv K c m q st f fd)(S:aR N ps (aB st))
  (hb:∀(kV O pm:Aa) (an:Option Ae) (e ct:Aa) (us:List Aa),us.length=ps.length->BQ (DC m q (bT st) (br st) (aB st) .none kV O pm an e ct) ⟨us,[]⟩=pure (ps.zip us)) (hn:n=ps.length)
  (o:∀(e:Aa) (A:AN) (outer:List Ed) (s:Af) (H:Hp) (E:XK),cB k (A.deeper (Bt q (aB st) s.heap.objs.size f e))->
   ∃t T,PSs (du jT P w K mg base N q (aB st) f e A outer s H E).lE (br st) t/\d3 K TF t T/\∀(a:Ae) ts ds g,sp ts ds g->T {nx:=λ_=>False,rt:=λr=>g r.val} (fb N c ns a ts ds)):
  c6 P w K mg base c m (k+1) ps (VH K n c ns TF sp):=by
 obtain⟨C,L,cl,hm⟩:=U.cl;refine⟨C,f,fd,L,cl,hm,U.fn.ok S (λvs H Q E h=>by rw[<- hn];exact h.1) λe A outer s H vs Q E hr h=>?_,U.fn.binds hb⟩;obtain⟨_,F,a,C,dx,ts,vs0,B,da,ds,g,rfl,L,hs,ha,hd,l,hB,J,G,u,⟨hT,j⟩,hq⟩:=h;obtain⟨t,T,h1,h2,h3⟩:=o e A outer s H E hr;refine⟨t,h1,h2 F _ hT F H _ _ {nx:=λ_=>False,rt:=λr=>g r.val} _ ⟨_,nW (N:=N) L hs ha hd l hB J G u⟩ ⟨λ_ _ _ _ _ z=>z.elim,λ_ _ _ _ _ z=>z.elim,λ_ _ _ _ _ z=>z.elim,λF' H' r v x n p=>?_⟩ (h3 a ts ds g j)⟩;obtain⟨M,x',_,r'⟩:=n.el x;exact hq _ v M H' p x' r'
theorem Vl.of {sp:dN}(Df:bN K mg x st f fd)(S:aR N ps (aB st))
  (L:∀(kV O pm:Aa) (an:Option Ae) (C ct:Aa) (us:List Aa),us.length=ps.length->BQ (DC x x (bT st) (br st) (aB st) .none kV O pm an C ct) ⟨us,[]⟩=pure (ps.zip us)) (hn:n=ps.length)
  (o:∀(C:Aa) (A:AN) (outer:List Ed) (s:Af) (H:Hp) (E:XK),cB k (A.deeper (Bt x (aB st) s.heap.objs.size f C))->
   ∃t T,PSs (du jT P w K mg base N x (aB st) f C A outer s H E).lE (br st) t/\d3 K TF t T/\∀ds a,sp ds a->T {nx:=λ_=>a (.fz .cA),rt:=a} (c5 N ds)):cc P w K mg base x (k+1) ps (xI K n TF sp):=
 cc.of Df S L (λvs H Q E h=>by rw[<- hn];exact h.1) λC A outer s H vs Q E J h=>by
  obtain⟨_,F,ds,a,M,G,j,g,B⟩:=h;obtain⟨t,T,h1,h2,U⟩:=o C A outer s H E J;refine⟨t,h1,h2 F H M F H (start N vs) (c5 N ds) {nx:=λ_=>a (.fz .cA),rt:=a} _ ⟨_,ew G j⟩ ⟨λu l Y δ e p=>?_,λ_ _ _ _ _ z=>z.elim,λ_ _ _ _ _ z=>z.elim,λu l r v x n p=>B r v u l p x n⟩ (U ds a g)⟩;exact B _ _ u l p e.ext (.fz rfl)
end
section
variable {K:Aq}{TF:Hp->Prop}{c m f:Al}{ns:List Al}{i j k n:Nat}{te:TE}{a:TA}{As:DA}
theorem pX {sp:qt}(M:lS TF)(CV:dY K c ns)(z:m∉ns)(G:dJ K a As): d3 K TF (jD (i' K c m (pI K n c ns TF sp) (dy i) a)) (xR c ns i n sp As):=λQ O T F H Y δ De En e l w=>by
 unfold xR at w;split at w
 .rename_i o c' u ts r;obtain⟨rfl,rfl,w⟩:=w;obtain⟨A,e⟩:=e;obtain⟨v,q,p,C,L,vs,B,rfl,eA,J,U,h1,h2,hl,h3⟩:=e.own i _ r;refine⟨C,J,_,q,p,L,_,rfl,h1,eY z,?_⟩;refine G Q O F H Y δ _ _ ⟨A,e⟩ w λds us F1 H1 h g t=>?_
  rw[A_];exact zI (SP:=λF ts ds P=>TF F/\sp ts ds P) ⟨A,e.on g⟩ r q l h.1 t ⟨M _ _ (e.ext.ff.trans g.ff) T,h.2⟩
 .exact w.elim
def Ź (c:Al)(ns:List Al)(sp:ϕ)(o:DO):DO:=λδ P=>o δ λr=>match r with
 | .ob a? c' e ts=>c'=c/\e=ns/\sp ts [] λd=>P (.fz d)
 |_=>False
theorem Vu {sp:qt}(o:lS TF)(C:dY K c ns)(A:dJ K a As): lT K TF (vt K c (pI K n c ns TF sp) a) (Oy c ns n sp As):=λg e T=>M0 (SP:=λF ts ds P=>TF F/\sp ts ds P) C A λF ds P s h=>⟨o _ _ s T,h⟩
theorem Y0 {sp:ϕ}{U:DO}(mo:lS TF)(hm:m∉ns)(h:lT K TF te U)(t:∃C,B5 K Aj c=a! (a! (.ref C))): lT K TF (i' K c m (VH K 1 c ns TF sp) te gw) (Ź c ns sp U):=λF0 H0 T F H Y δ P Q e w q=>by
 obtain⟨C,t⟩:=t;refine⟨C,t,h F0 H0 T F H Y δ _ _ e w λr v F1 H1 l g n1=>?_⟩;split at l
 .rename_i c' ns' ts;obtain⟨rfl,rfl,l⟩:=l;obtain⟨A,⟨p,C',J,vs,B,rfl,rfl,O,ho,h1,h2,hl,h3⟩,nd,M⟩:=n1;rw[t]at O;cases O;refine⟨p,J,_,rfl,h1,eY hm,?_⟩;refine⟨rfl,F1,p,C,J,ts,vs,B,[],[],_,rfl,t,g.fh,h1,h2,hl,h3,nd,λb hb=>(M b hb).2,rfl,⟨mo _ _ ((cv.ext e).ff.trans g.ff) T,l⟩,λd v F' H' pd u r'=>?_⟩;have off:∀b o,H b=a! o->b∉p::J::B:=λb o z y=>by rw[(M b y).1]at z;cases z
  refine q _ v F' H' pd ⟨g.ff.trans u.ff,λb o z=>u.hh b o (by rw[c? (off b o z)];exact g.hh _ _ z),u.fh,λb o z1 G L=>?_⟩ (.fz r');exact u.no b o (g.no b o z1 G L) (by rw[c? (off b o G)];exact g.hh _ _ G) L
 .exact l.elim
theorem bu.ĩ {F H:Hp}:∀{xs:List D} {vs:List V} {A:List Ae},bu K F H (xs.map .fz) vs A->bF K F xs vs/\A=[]
 | [],_,_,h=>h
 |x::xs,_,_,h=>by
  obtain⟨v,r,B,C,rfl,rfl,⟨rfl,h1⟩,h2⟩:=h;obtain⟨e,rfl⟩:=bu.ĩ h2;exact⟨⟨v,r,rfl,h1,e⟩,rfl⟩
theorem ER.YC {F0 H0 F H:Hp}{Y:St}{δ:de}{A:Nat->List Ae}{o:Option Ae}{ts:List OV}{xs:List D}(e:ER K F0 H0 F H Y δ A)(CV:dY K c ns)(hf:ns[j]?=a! f)(hs:δ[i]?=a! (a! (.own (.ob o c ns ts))))(hx:ts[j]?=a! (.nl (xs.map .fz))):
  ∃a g J C L fs,Y[i]?=a! (a! (.ref a))/\H a=a! (.ins C L fs)/\B5 K Aj c=a! (a! (.ref C))/\zq K C/\iJ K C f/\fs.lookup f=a! (.ref g)/\H g=a! (.lst J)/\F g=a?/\H0 g=a?/\bF K F xs J/\
   ∀G M ys us,cy F H G M->bF K G ys us->cv K F0 H0 G (cQ M g (.lst us)) Y (δ.set i (a! (.own (.ob o c ns (ts.set j (.nl (ys.map .fz))))))):=by
 obtain⟨v,hv,a,C,L,vs,B,rfl,eA,h0,ho,h1,h2,hl,h3⟩:=e.own i _ hs;obtain⟨C',u,cl,na⟩:=CV.ex;rw[h0]at u;cases u;obtain⟨v0,A1,B0,A2,f1,rfl,f3,f4⟩:=h3.focus hx;obtain⟨g,J,B1,rfl,rfl,hc,O⟩:=f3;obtain⟨Q,rfl⟩:=bu.ĩ O;have t:g∈A i:=by rw[eA];simp
 have q:=e.new i g t;refine⟨a,g,J,C,L,_,hv,h1,h0,cl,na f (Ai hf),by rw[oy CV.nd hf];exact f1,hc,q.1,q.2.1,Q,λG M ys us l r=>?_⟩;have e1:=e.on l;have p:=e.jN i;rw[eA]at p;obtain⟨n1,n2⟩:=AG.mp p;obtain⟨n3,n4⟩:=AG.mp n2;obtain⟨m1,m2,m3⟩:=A7.mp n4;obtain⟨q1,q2,q3⟩:=A7.mp m2;have off:∀b∈A1++A2,b≠g:=λb h z=>by
  subst z;rcases AB.mp h with y |y
  .exact m3 b y b (by simp) rfl
  .exact q3 b (by simp) b y rfl
 have U:a≠g:=λz=>n1 (by rw[z];simp)
 have T:L≠g:=λz=>n3 (by rw[z];simp)
 have w:=f4 G (cQ M g (.lst us)) (.nl (ys.map .fz)) (.ref g) [g] l.ff (λb h xs z=>a9 (off b h) (l.hh _ _ z)) ⟨g,us,[],rfl,rfl,aZ,bu.ϳ r⟩;rw[fM f1]at w;refine e1.obj hv eA h0 ho (a9 U (l.hh _ _ h1)) (a9 T (l.hh _ _ h2)) (by rw[Bk];exact hl) w n4 (λb h=>.inl h) λb o' h z=>a9 (λy=>h (by rw[y];exact t)) z
def zY (c:Al)(ns:List Al)(i j k:Nat)(g:DE):DS:=λh δ=>match δ[i]? with
 |some (a! (.own (.ob o c' e ts)))=>c'=c/\e=ns/\∃xs:List D,ts[j]?=a! (.nl (xs.map .fz))/\xs.length<=1000000/\g δ λd=>∃(p:Nat) (x:D),d = .int p/\xs[p]?=a! x/\
   h.nx ((δ.set i (a! (.own (.ob o c ns (ts.set j (.nl ((xs.eraseIdx p).map .fz))))))).set k (a! (.own (.fz x))))
 |_=>False
theorem bF.erase {F:Hp}:∀{xs:List D} {vs:List V} (p:Nat),bF K F xs vs->bF K F (xs.eraseIdx p) (vs.eraseIdx p)
 | [],_,p,h=>by cases h;exact rfl
 |x::xs,_,0,h=>by obtain⟨v,r,rfl,h1,h2⟩:=h;exact h2
 |x::xs,_,p+1,h=>by obtain⟨v,r,rfl,h1,h2⟩:=h;exact⟨v,_,rfl,h1,bF.erase p h2⟩
theorem Sb {J:DE}(CV:dY K c ns)(hf:ns[j]?=a! f)(h:dH K te J):bU K (j6 (VD K "list" SX (zE K (dy i) f) (c9 te gw)) (gU k)) (zY c ns i j k J):=λF0 H0 F H Y δ De En e l w=>by
 unfold zY at w;split at w
 .rename_i o c' T ts hs;obtain⟨rfl,rfl,xs,hx,ϭ,w⟩:=w;obtain⟨A,e⟩:=e;obtain⟨a,B,M,C,dx,fs,hv,h1,h0,cl,U,hl,hc,_,_,t,put⟩:=e.YC CV hf hs hx;refine⟨_,hv,a,C,dx,fs,.ref B,rfl,h1,cl,U,hl,.inl ⟨rfl,_,eQ.of hc⟩,?_⟩;refine h F0 H0 F H Y δ _ _ ⟨A,e⟩ w λd v G H1 q g Q=>?_
  obtain⟨p,x,rfl,u,q⟩:=q;cases Q;have Ϯ:=t.length;have L:=(Ab.mp u).1;have r:=t.mono g.ff;obtain⟨y,hy,O⟩:=r.get u;refine⟨B,M,p,p,y,rfl,rfl,g.hh _ _ hc,by lia,by lia,?_,hy,?_⟩
  .unfold HN;rw[c? (show ¬ (p:Int)<0 by lia),c! (by simp;lia),AX]
  .have z:=put G H1 _ _ g (r.erase p);exact l.nx G _ _ _ (z.put (cy.refl z.ext.fh) k (.fz O)) q
 .exact w.elim
end
def p9 (K:Aq)(T:Ae)(pos:Ew)(q:Al)(T':Ae)(pos':Ew)(q':Al):Sp:=VI 1 λvs H Q=>∃(a:Ae) (ns:List Int),vs=[.ref a]/\eQ K H a (ns.map V.int)/\(H T=a! (.kW pos q)/\H T'=a! (.kW pos' q'))/\ns.length<=63/\(∀m∈ns,iV m<=1048576)/\∀c,c T=a! (.kW pos q)->c T'=a! (.kW pos' q')->Q (.bl b!) c
theorem Mn {P:AA}{w:AR}{K:Aq}{M mb:Al->Option Aa}{k:Nat}{fa a c T c' T':Ae}{pos pos':Ew}{q q':Al}{fd:A8}{x:Al}{f:Af}{vs:List Aa}{ns:List Int}
  (KX:K.In f.heap) (C:f.heap.Ns Aj M) (B:f.heap.Ns Fm mb) (hbb:∀x:Al,x ≠ "__name__"->mb x=C5 x) (Xas:f.heap.NoLimit) (hg:f.gens=#[])
  (hbm:∃U ob,M "__builtins__"=a! (.ref U)/\U≠Fm/\f.heap.get? U=a! ob/\ob.cls = .type "module"/\ob.dict=a! Fm/\ob.data = .plain)
  (hC:Hl f.heap c T) (Q:f.heap.get? T=a! (Ib #[])) (hKT:K.lookup T=a?) (hC':Hl f.heap c' T') (j:f.heap.get? T'=a! (Ib #[])) (Xaw:K.lookup T'=a?) (hTT:T'≠T)
  (L:f.heap.get? a=a! {cls:=.type "list",data:=.seq vs.toArray}) (hi:ET vs ns) (hl:ns.length<=63) (G:∀m∈ns,iV m<=1048576) (hr:cB k C4)
  (F:∀base:Heap,K.In base->base.Ns Aj M->base.BuiltinsAt M T->base.BuiltinsAt M T'->fR P w K M base jT k fa fd [x] (p9 K T pos q T' pos' q')) (J:∀(s:Af) (u:Aa),FV s fd ⟨[u],[]⟩ [(x,u)]):
  Cf (model P w) C4 (.call (.ref fa) ⟨[.ref a],[]⟩) (λr s'=>r = .ok (.ret (.bool b!))/\KD f.heap s'.heap/\s'.os=f.os/\CH s'.gens) f:=by
 have rv:=nQ hi;have Xam:=hi.length;have hTa:T≠a:=λz=>by rw[z,L]at Q;cases Q
 have Xau:T'≠a:=λz=>by rw[z,L]at j;cases j
 have core : ∀H:Hp,H T=a! (.kW pos q)->H T'=a! (.kW pos' q')->eQ K H a (ns.map V.int)->jY P w H f.heap->(∀b u,H b=a! u->b=T∨b=T'∨(b=a/\K.lookup a=a?/\∃o y,u = .el o y))->
   Cf (model P w) C4 (.call (.ref fa) ⟨[.ref a],[]⟩) (λr s'=>r = .ok (.ret (.bool b!))/\KD f.heap s'.heap/\s'.os=f.os/\CH s'.gens) f:=by
  intro H hHT A hS cL hA;have tr:∀{b o},f.heap.get? b=a! o->o.cls≠.none->o.cls≠.type "list"->H b=none:=λ{b o} e n1 n2=>by
   cases q:H b with
   |none=>rfl
   |some u=>
    rcases hA b u q with rfl |rfl | ⟨rfl,_⟩
    .rw [Q]at e;cases e;exact absurd rfl n1
    .rw [j]at e;cases e;exact absurd rfl n1
    .rw [L]at e;cases e;exact absurd rfl n2
  have trd:∀{b o es ep},f.heap.get? b=a! o->o.data = .dict es ep->H b=none:=λ{b o es ep} e d=>by
   cases q:H b with
   |none=>rfl
   |some u=>
    rcases hA b u q with rfl |rfl | ⟨rfl,_⟩
    .rw [Q]at e;cases e;cases d
    .rw [j]at e;cases e;cases d
    .rw [L]at e;cases e;cases d
  have p:∀{b:Ae} {m:Al->Option Aa},f.heap.Ns b m->(nk f.heap H).Ns b m:=λ{b m} ⟨o,es,ep,e,d,r⟩=>⟨o,es,ep,nj e (trd e d),d,r⟩
  have hKb:K.In (nk f.heap H):=λb o e=>nj (KX b o e) (by
   cases q:H b with
   |none=>rfl
   |some u=>
    rcases hA b u q with rfl |rfl | ⟨rfl,z,_⟩
    .rw [hKT]at e;cases e
    .rw [Xaw]at e;cases e
    .rw [z]at e;cases e)
  have hM:Mod K M (nk f.heap H):=⟨hKb,p C,⟨mb,p B,hbb⟩,let⟨mc,h1,h2⟩:=Xas;⟨mc,p h1,h2⟩⟩
  have hB:∀T,(∃u,H T=a! u)->(nk f.heap H).BuiltinsAt M T:=λT ⟨u,hu⟩=>by
   obtain⟨U,ob,b1,b2,b3,b4,b5,b6⟩:=hbm;have hm:H U=none:=tr b3 (by rw[b4];decide) (by rw[b4];decide);refine⟨U,ob,b1,b2,λz=>?_,λz=>?_,nj b3 hm,b4,b5,b6⟩
   .obtain ⟨o,es,ep,e,hd,_⟩:=C;rw[z,e]at b3;cases b3;rw[hd]at b6;cases b6
   .rw [z,hu]at hm;cases hm
  have e0:k8 P w K M (nk f.heap H) C4 [] f H:=⟨rfl,hM,λb o e=>NZ e,IX (u0 _ _),trivial,λb B=>absurd (show b∈([]:List Ae) from B) (by simp),cL,.of_eq hg⟩
  refine BP ((F _ hKb (p C) (hB T ⟨_,hHT⟩) (hB T' ⟨_,A⟩)).run C4 [] f H ⟨[.ref a],[]⟩ [.ref a] [.ref a] (λv H'=>v = .bl b!/\H' T=a! (.kW pos q)/\H' T'=a! (.kW pos' q')) E0 hr e0 (J f (.ref a)) (.cons rfl .nil) ⟨rfl,a,ns,rfl,hS,⟨hHT,A⟩,hl,G,λH' z z'=>⟨rfl,z,z'⟩⟩) λr s' h=>?_
  cases r with
  |error e=>exact (show False from h).elim
  |ok fl =>
   cases fl with
   |next=>exact AZ h
   |brk=>exact AZ h
   |cont=>exact AZ h
   |ret u =>
    obtain⟨v,H',os,bare,un,O,r',q1,q2,q3⟩:=h;subst q1;obtain rfl:u=FE true:=r';obtain⟨ps,hps,_⟩:=O T _ q2;obtain⟨ps',t,_⟩:=O T' _ q3;have kp:∀b o,b≠T->b≠T'->f.heap.get? b=a! o->s'.heap.get? b=a! o:=λb o n n' e=>by
     cases q:H b with
     |none=>exact un.keep b o e q (by intro z;exact absurd (show b∈([]:List Ae) from z) (by simp)) (by simp)
     |some u=>
      rcases hA b u q with z |z | ⟨rfl,_,ob,y,rfl⟩
      .exact absurd z n
      .exact absurd z n'
      .have z2:=un.jW _ ob y q;obtain⟨e1,_⟩:=cL _ _ q;obtain⟨e2,_⟩:=O _ _ z2;rw[e]at e1;cases e1;exact e2
    refine⟨rfl,⟨λb o e=>?_,λb o e=>?_⟩,os,bare⟩
    .by_cases B:b=T
     .subst B;rw[Q]at e;cases e;exact .inr (.inl ⟨(hC.tab Q).isCodeTable,rfl,#[],ps,rfl,by rw[HK];exact hps⟩)
     by_cases l:b=T'
     .subst l;rw[j]at e;cases e;exact .inr (.inl ⟨(hC'.tab j).isCodeTable,rfl,#[],ps',rfl,by rw[HK];exact t⟩)
     .exact .inl (kp b o B l e)
    .by_cases B:b=T
     .subst B;exact⟨_,hps⟩
     by_cases l:b=T'
     .subst l;exact⟨_,t⟩
     .exact ⟨o,kp b o B l e⟩
 have okT:∀H:Hp,eh P w H f.heap T (.kW pos q):=λH=>⟨#[],Q,trivial,λv hv=>by cases hv⟩
 have Xai:∀H:Hp,eh P w H f.heap T' (.kW pos' q'):=λH=>⟨#[],j,trivial,λv hv=>by cases hv⟩
 have hlz:ns.length<=AL:=Bz hl (by rw[CC];decide);have go:∀g:Option HO,(∀u,g=a! u->∃o y,u = .el o y/\K.lookup a=a?)->(∀H:Hp,H a=g->eQ K H a (ns.map V.int))->(∀(H:Hp) u,g=a! u->eh P w H f.heap a u)->
   Cf (model P w) C4 (.call (.ref fa) ⟨[.ref a],[]⟩) (λr s'=>r = .ok (.ret (.bool b!))/\KD f.heap s'.heap/\s'.os=f.os/\CH s'.gens) f:=λg h1 h2 h3=>by
  have key:∀b u,(if b=T then a! (.kW pos q) else if b=T' then a! (.kW pos' q') else if b=a then g else a?)=a! u->(b=T/\u = .kW pos q)∨(b=T'/\u = .kW pos' q')∨(b=a/\g=a! u):=λb u z=>by
   split at z
   .rename_i B;cases z;exact .inl ⟨B,rfl⟩
   split at z
   .rename_i B;cases z;exact .inr (.inl ⟨B,rfl⟩)
   split at z
   .rename_i B;exact .inr (.inr ⟨B,z⟩)
   .cases z
  refine core (λb=>if b=T then a! (.kW pos q) else if b=T' then a! (.kW pos' q') else if b=a then g else a?) (c! rfl) ((c? hTT).trans (c! rfl)) (h2 _ ((c? (Bb hTa)).trans ((c? (Bb Xau)).trans (c! rfl)))) (λb u z=>?_) λb u z=>?_
  .rcases key b u z with⟨rfl,rfl⟩ | ⟨rfl,rfl⟩ | ⟨rfl,y⟩
   .exact okT _
   .exact Xai _
   .exact h3 _ u y
  .rcases key b u z with⟨rfl,_⟩ | ⟨rfl,_⟩ | ⟨rfl,y⟩
   .exact .inl rfl
   .exact .inr (.inl rfl)
   .obtain ⟨o,y,e,hk⟩:=h1 u y;exact .inr (.inr ⟨rfl,hk,o,y,e⟩)
 cases hk:K.lookup a with
 |some o=>
  have e:=KX a o hk;rw[L]at e;cases e;exact go a? (λ_ z=>by cases z) (λH _=>.inr ⟨_,vs.toArray,_,hk,rfl,rfl,rfl,by rw[Am,Xam];exact hlz,rv⟩) λ_ _ z=>by cases z
 |none=>
  refine go (a! (.el {cls:=.type "list",data:=.seq vs.toArray} (.lst (ns.map V.int)))) (λu z=>?_) (λH z=>.inl (.inr ⟨_,z⟩)) λH u z=>?_
  .cases z;exact⟨_,_,rfl,hk⟩
  .cases z;exact⟨L,by rw[Au];exact hlz,vs,_,rv,L⟩
theorem Mm {l:PySem.W.OpenLaw}{k:Nat}{U:AA}{e:List Al}{XP:(Al->Option Aa)->Heap->Prop}{O:AR->Heap->Prop}{d:KJ}{K:KC->Aq}{c T c' T':Ae}{pos pos':Ew}{q q':Al}(hn:l.most=a! 63)(v:d.params.defaults=[])(hr:cB k C4)
  (hY:∀(w:AR) (h:Heap),O w h->(K w.params).In h/\h.get? T=a! (Ib #[])/\h.get? T'=a! (Ib #[])) (J:∀(w:AR) (h:Heap),(K w.params).In h->Hl h c T/\Hl h c' T') (p:∀w:AR,(K w.params).lookup T=a?/\(K w.params).lookup T'=a?) (z:T'≠T)
  (F:∀(w:AR) (m:Al->Option Aa) (A:Ae) (h:Heap),(K w.params).In h->h.Ns Aj m->m d.name=a! (.ref A)->
   ∃fd:A8,(∀(s:Af) (u:Aa),FV s fd ⟨[u],[]⟩ [("_law_script",u)])/\∀base:Heap,(K w.params).In base->base.Ns Aj m->base.BuiltinsAt m T->base.BuiltinsAt m T'->fR l.prog w (K w.params) m base jT k A fd ["_law_script"] (p9 (K w.params) T pos q T' pos' q')):
  PySem.W.WalkO U e XP O l.row.toRowW d [] (λf vs=>PySem.call f vs):=by
 refine Att.xl hn v λw s₀ C m mb A o pm cd doc a vs ns G Q ho hd Ý M j n L t hg=>?_
 obtain⟨r,hT,B⟩:=hY w _ Q;obtain⟨fd,hb,hF⟩:=F w m A _ r G.T.g M;exact Mn r G.T.g G.T.b G.T.builtins G.T.nolimit hg G.T.bmain (J w _ r).1 hT (p w).1 (J w _ r).2 B (p w).2 z j n L t hr hF hb
theorem Uh {P:AA}{w:AR}{K:Aq}{g:Al->Option Aa}{base:Heap}{st:A6}{f T T':Ae}{pos pos':Ew}{q q':Al}{fd:A8}{N:List Al}{k:Nat}(Df:bN K g "law" st f fd)(S:aR N ["_law_script"] (aB st))
  (o:∀(c:Aa) (A:AN) (outer:List Ed) (s:Af) (H:Hp) (E:XK),cB k (A.deeper (Bt "law" (aB st) s.heap.objs.size f c))->
   ∃t U,PSs (du jT P w K g base N "law" (aB st) f c A outer s H E).lE (br st) t/\d3 K (λF=>F T=a! (.kW pos q)/\F T'=a! (.kW pos' q')) t U/\∀ns:List Int,ns.length<=63->(∀m∈ns,iV m<=1048576)->U {nx:=λ_=>False,rt:=λr=>r = .fz (.bl b!)} (c5 N [.lst (ns.map .int)])):fR P w K g base jT (k+1) f fd ["_law_script"] (p9 K T pos q T' pos' q'):=
 Df.fn.ok S (λvs H Q E h=>h.1) λc A outer s H vs Q E J h=>by
  obtain⟨_,a,ns,rfl,L,u,l,B,q⟩:=h;obtain⟨t,U,h1,h2,M⟩:=o c A outer s H E J;have j:bF K H [.lst (ns.map D.int)] [.ref a]:=⟨_,_,rfl,⟨a,_,rfl,L,iP.mpr rfl⟩,rfl⟩
  refine⟨t,h1,h2 H H u H H (start N [.ref a]) (c5 N [.lst (ns.map .int)]) {nx:=λ_=>False,rt:=λr=>r = .fz (.bl b!)} _ ⟨_,ew (a6.refl H) j⟩ ⟨λO C Y δ e p=>p.elim,λ_ _ _ _ _ z=>z.elim,λ_ _ _ _ _ z=>z.elim,λO C r v x n p=>?_⟩ (M ns l B)⟩;subst p;obtain⟨A,G,_⟩:=n;have:v = .bl true:=G.2;subst this;exact q C (x.hh _ _ u.1) (x.hh _ _ u.2)
theorem Ì {P:AA}{w:AR}{K:Aq}{m:Al->Option Aa}{x:Al}{st:A6}{f T T':Ae}{fd:A8}{k:Nat}{sp:Sp}(a:bN K m x st f fd)(h:∀(s:Af) (v:Aa),FV s fd ⟨[v],[]⟩ [("_law_script",v)])(hc:∀base:Heap,K.In base->base.Ns Aj m->base.BuiltinsAt m T->base.BuiltinsAt m T'->fR P w K m base jT k f fd ["_law_script"] sp):
  ∃fd:A8,(∀(s:Af) (v:Aa),FV s fd ⟨[v],[]⟩ [("_law_script",v)])/\∀base:Heap,K.In base->base.Ns Aj m->base.BuiltinsAt m T->base.BuiltinsAt m T'->fR P w K m base jT k f fd ["_law_script"] sp:=⟨fd,h,hc⟩
section
variable {K:Aq}{F0 H0:Hp}{t:TS}{T:DS}
def SF (c:DO):DS:=λe δ=>c δ λ_=>e.nx δ
theorem V1 (h:i7 K F0 H0 c C): gY K F0 H0 (jD c) (SF C):=λF H Y δ j g e l w=>h F H Y δ _ _ e w λr v f a p x n=>l.nx f a Y δ (e.on x) p
end
abbrev Č:=List D->(D->OV->Prop)->(Al->Prop)->Prop
def zH (K:Aq)(n:Nat)(TF:Hp->Prop)(sp:Č):Sp:=λvs H Q E=>vs.length=n/\∃F ds h g,TF F/\a6 F H/\bF K F ds vs/\sp ds h g/\
 (∀d r x v p e f a,h d r->cy F H e f->dM K e d x->e8 K H e f r v->f p=a?->a6 f a->a p=a! (.tup [x,v])->Q (.ref p) a)/\
 ∀c C e a,g c->B5 K Aj c=a! (a! (.ref C))->cy F H e a->E (.ref C) a? a
section
variable {P:AA}{w:AR}{K:Aq}{mg:Al->Option Aa}{base:Heap}{N:List Al}{f:Ae}{x:Al}{st:A6}{fd:A8}{ps:List Al}{k n:Nat}{TF:Hp->Prop}{sp:Č}
theorem ϙ.of (u:bN K mg x st f fd)(S:aR N ps (aB st))
  (hb:∀(kV O pm:Aa) (an:Option Ae) (a ct:Aa) (us:List Aa),us.length=ps.length->BQ (DC x x (bT st) (br st) (aB st) .none kV O pm an a ct) ⟨us,[]⟩=pure (ps.zip us)) (hn:n=ps.length)
  (o:∀(a:Aa) (A:AN) (outer:List Ed) (s:Af) (H:Hp) (E:XK),cB k (A.deeper (Bt x (aB st) s.heap.objs.size f a))->∀(F:Hp) (q:Al->Prop),TF F->(∀c C F' t,q c->B5 K Aj c=a! (a! (.ref C))->cy F H F' t->E (.ref C) a? t)->
   ∃L Ta tb T G j J l,PSs (du (QP P w) P w K mg base N x (aB st) f a A outer s H E) (br st) (lY L (lY tb (Px (Nb (c9 G (c9 J gw))))))/\gY K F H L Ta/\gY K F H tb T/\cO K G j/\i7 K F H J l/\
    ∀ds g,sp ds g q->PK Ta T {nx:=λδ=>j δ λd=>l δ (g d),rt:=λ_=>False} (c5 N ds)):tF P w K mg base x (k+1) ps (zH K n TF sp):=by
 obtain⟨oc,od,kV,O,pm,an,a,ct,Ĕ,rfl,lk,Ý⟩:=u.fn.ex;refine⟨f,_,?_,u.here,u.fn.kp,u.fn.binds hb⟩;refine vb lk Ý S (λvs H Q E h=>by rw[<- hn];exact h.1) λA ou s H vs Q E hr h=>?_
 obtain⟨_,F,ds,g,q,hT,hs,hr',M,hq,hE⟩:=h;obtain⟨L,Ta,tb,T,G,j,J,l,h1,h2,h3,h4,h5,h6⟩:=o a A ou s H E hr F q hT hE;refine⟨_,h1,h2 F H (start N vs) (c5 N ds) {nx:=T {nx:=λδ=>j δ λd=>l δ (g d),rt:=λ_=>False},rt:=λ_=>False} _ ⟨_,ew hs hr'⟩ ⟨λF1 H1 Y δ e p=>?_,λ_ _ _ _ _ z=>z.elim,λ_ _ _ _ _ z=>z.elim,λ_ _ _ _ _ _ z=>z.elim⟩ (h6 ds g M)⟩;refine h3 F1 H1 Y δ {nx:=λδ=>j δ λd=>l δ (g d),rt:=λ_=>False} _ e ⟨λF2 H2 Y δ m p2=>?_,λ_ _ _ _ _ z=>z.elim,λ_ _ _ _ _ z=>z.elim,λ_ _ _ _ _ _ z=>z.elim⟩ p;refine h4 F H F2 H2 Y δ _ _ m p2 λd y F3 H3 p3 B r3=>h5 F3 H3 Y δ _ _ (m.on B) p3 λr v F4 H4 p4 x4 n4=>⟨eS (show 2<=1000000 by decide),λp t hp U he=>?_⟩
 exact hq d r y v p F4 H4 t p4 (m.ext.trans (B.trans x4)) (r3.mono x4.ff) (n4.old (m.ext.hh.trans B.hh)) hp U he
abbrev ĕ (sp:Sp):Sp:=λvs H Q _=>sp vs H Q λ_ _ _=>False
theorem tF.ĕ {sp:Sp}(C:tF P w K mg base x k ps sp): cc P w K mg base x k ps (ĕ sp):=by
 obtain⟨f,fd,F,h1,h2,j⟩:=C.ex;refine⟨f,fd,⟨λvs H Q E h=>F.len vs H Q _ h,λA o s H args us vs Q E r c g v p=>?_⟩,h1,h2,j⟩;refine BP (F.run A o s H args us vs Q (λ_ _ _=>False) r c g v p) λres s' q=>?_
 cases res with
 |ok l=>cases l<;>exact q
 |error e=>
  obtain⟨a,u,m,B,t,rfl,z,_⟩:=q;exact z.elim
end
section
variable {K:Aq}{TF:Hp->Prop}{a:TA}{As:DA}{n:Nat}{sp:Č}
def UW (n:Nat)(sp:Č)(As:DA):DO:=λδ P=>As δ λds=>ds.length=n/\sp ds (λd r=>P (.fz (.tup [d,r.val]))) λ_=>False
theorem Rj (M:lS TF)(C:dJ K a As):lT K TF (lJ (ĕ (zH K n TF sp)) [] E0 a) (UW n sp As):=λO G T F H Y δ P Q e w q=>C O G F H Y δ _ _ e w λds vs L H1 g f h=>by
 rw[A_];refine⟨by rw[<- h.length];exact g.1,L,ds,_,_,M _ _ ((cv.ext e).ff.trans f.ff) T,f.fh,h,g.2,λd r y v p F' U J t k m u j A B=>?_,λ_ _ _ _ z=>z.elim⟩;obtain⟨F3,c,l,o⟩:=u.el k;exact q _ _ _ J t ((f.trans c).trans (cy.new c.fh j A B)) (.fz ⟨p,[y,v],rfl,.inl (.inl aZ),bF.mono (a6.zx (c.fh.free j)) ⟨y,[v],rfl,m.mono l,v,[],rfl,o,rfl⟩⟩)
theorem ER.ϲ {A:Nat->List Ae}(e:ER K l g F H Y δ A)(i:Nat)(v:Option V): ER K l g F H (Y.set i v) (δ.set i a?) (λj=>if j=i then [] else A j):=by
 have ne:∀{j:Nat} {s:Sl},(δ.set i a?)[j]?=a! (a! s)->j≠i:=λ{j s} h z=>by
  subst z;rw[EE]at h;split at h
  .split at h<;>cases h
  .cases (by assumption:¬ j=j) rfl
 refine⟨by rw[Bk,Bk];exact e.len,e.ext,λj t J=>?_,λj d J=>?_,λj=>?_,λj k a c h1 h2=>?_,λj a f=>?_⟩
 .have z:=ne J;rw[AH (Bb z)]at J ⊢;rw[c? z];exact e.own j t J
 .have z:=ne J;rw[AH (Bb z)]at J ⊢;exact e.bw j d J
 .split
  .exact CB
  .exact e.jN j
 .split at h1
  .cases h1
  .split at h2
   .cases h2
   .exact e.kU j k a c h1 h2
 .split at f
  .cases f
  .exact e.new j a f
def SM (i n:Nat)(sp:Č)(As:DA)(C:DT)(c:DE)(R:DS):DS:=λe δ=>As δ λds=>ds.length=n/\sp ds (λd r=>∃ts,r = .nl ts/\ts.length<1000000/\i<δ.length/\C (δ.set i (a! (.own (.fz (.tup [d,r.val]))))) λb=>b=b?/\c (δ.set i (a! (.own (.fz (.tup [d,r.val]))))) λ_=>R e (δ.set i a?)) λ_=>False
theorem Ri {tx:TE}{Ex:DE}{tr tf:TS}{R:DS}{c:TT}{C:DT}{i:Nat}(mo:lS TF)(ha:dJ K a As)(hc:i6 K c C)(hx:cO K tx Ex)(hR:d3 K TF tr R):
  d3 K TF (lY (j6 (lJ (ĕ (zH K n TF sp)) [] E0 a) (gU i)) (lY (zD c tf Nh) (lY (jD (VD K "list" mV (Nd (ZK K) (dy i) (tC (.int 1))) (c9 tx gw))) tr))) (SM i n sp As C Ex R):=λu k hT F H Y δ De En e l w=>ha u k F H Y δ _ _ e w λds vs m H1 w1 g r1=>by
 rw[A_];have j:=e.on g;refine⟨by rw[<- r1.length];exact w1.1,m,ds,_,_,mo _ _ ((cv.ext e).ff.trans g.ff) hT,g.fh,r1,w1.2,λd r y v p F' H2 H' L x2 rd n2 hp hs he=>?_,λ_ _ _ _ z=>z.elim⟩;obtain⟨ts,rfl,hl,hi,L⟩:=L;obtain⟨F3,G,s3,r3⟩:=n2.el x2;have x4:=G.trans (cy.new G.fh hp hs he);have e4:=j.put x4 i (r:=.fz (.tup [d,(OV.nl ts).val])) (v:=.ref p) (.fz ⟨p,[y,v],rfl,.inl (.inl aZ),bF.mono (a6.zx (G.fh.free hp)) ⟨y,[v],rfl,rd.mono s3,v,[],rfl,r3,rfl⟩⟩);obtain⟨_,⟨b,J,B,rfl,rfl,hb,hB⟩,_,nw⟩:=n2;have Q:=(nw b Ay).1;have Ϯ:=hB.length;refine hc u k _ H' _ _ _ _ e4 L λt F5 H5 M f=>?_
 obtain⟨rfl,M⟩:=M;have h:H5 b=a! (.lst J):=f.hh _ _ (hs _ _ hb);have O:i<Y.length:=by obtain⟨A,e⟩:=e;rw[e.len];exact hi
 refine ng rfl ⟨.ref p,Aw O,p,[y,.ref b],1,.ref b,rfl,rfl,.inl (.inl (f.hh _ _ he)),rfl,.inl ⟨rfl,_,eQ.of h⟩,?_⟩;refine hx u k _ H5 _ _ _ _ (e4.on f) M λdx T F6 H6 p6 U r6=>⟨b,J,T,rfl,rfl,U.hh _ _ h,qD (by lia),?_⟩
 have X:cy m H1 m (cQ H6 b (.lst (J++[T]))):=cy.grow g.fh λz o q=>by
  rw[bJ λy=>by rw[y,Q]at q;cases q];exact (x4.hh.trans (f.hh.trans U.hh)) z o q
 obtain⟨A,j⟩:=j;exact hR u k hT m _ _ _ De En ⟨_,(j.on X).ϲ i _⟩ l p6
def X2 (ni n:Nat)(sp:Č)(cs:List Al)(As:DA)(T:DS):DS:=λf δ=>As δ λds=>ds.length=n/\sp ds (λ_ _=>f.nx δ) λc=>c∈cs/\T {nx:=λe=>f.nx (e.set ni a?),rt:=λ_=>False} (δ.set ni (a! (.own (.fz (.exc c)))))
theorem YY (U:lS TF)(hW:∀c∈cs,∀C,B5 K Aj c=a! (a! (.ref C))->Ie K (.ref C) (.ref W)=a! b!)(h:dJ K a As)(t:bU K T Th):
  d3 K TF (XQ K W ni (zH K n TF sp) a T) (X2 ni n sp cs As Th):=λJ G hT F H Y δ De En e l w=>h J G F H Y δ _ _ e w λds vs F1 H1 q m u=>by
 have B:=e.on m;refine⟨by rw[<- u.length];exact q.1,F1,ds,_,_,U _ _ ((cv.ext e).ff.trans m.ff) hT,m.fh,u,q.2,λd r y v p j H2 g O f rd n2 hp hs he=>l.nx j g Y δ ((B.on f).on (cy.grow f.fh hs)) O,λc C j g p A f=>?_⟩;obtain⟨hc,p⟩:=p;refine⟨C,rfl,hW c hc C A,λa h=>?_⟩;have M:cy j g (cQ j a (.ext (sY a (.ref C)))) (cQ g a (.ext (sY a (.ref C)))):=cy.new f.fh h (a6.new h) aZ;have e2:=(B.on f).put M ni (r:=.fz (.exc c)) (v:=.ref a) (.fz ⟨a,C,rfl,A,aZ⟩);refine t J G _ _ _ _ {nx:=λk=>De.nx (k.set ni a?),rt:=λ_=>False} _ e2 ⟨λF3 H3 Y3 L o Q=>?_,λ_ _ _ _ _ z=>z.elim,λ_ _ _ _ _ z=>z.elim,λ_ _ _ _ _ _ z=>z.elim⟩ p;obtain⟨A3,o⟩:=o;exact l.nx F3 H3 _ _ ⟨_,o.ϲ ni a?⟩ Q
end
section
variable {K:Aq}{F0 H0:Hp}{TF:Hp->Prop}
theorem Y1 {t tb:TE}{A B:DE}(k:cO K t A)(j:tE K F0 H0 tb B):tE K F0 H0 (Į t tb) (ų A B):=λF H Y δ P Q e w q=>k F0 H0 F H Y δ _ _ e w λd v f a p x r=>by
 split at p
 .rename_i c;refine⟨c,r,?_⟩
  cases c with
  |true=>exact oD (q _ _ f a p x rfl)
  |false=>exact ng rfl (j f a Y δ P Q (e.on x) p λd v m l h g r=>q d v m l h (x.trans g) r)
 .exact p.elim
end
section
variable {X:Cx}{K:Aq}
noncomputable def NK (n:Nat):List Nat:=CU (n-1) (-1) (-1)
def Yb (K:Aq):V->Int->Hp->VK->Prop:=λx c H Q=>∃a xs,x = .ref a/\eQ K H a xs/\c = -1/\∀p e,H p=a?->a6 H e->e p=a! (.lst ((NK xs.length).filterMap (xs[·]?)))->Q (.ref p) e
theorem Wj (J:PE X e k)(hc:PE X c C): PE X (.Subscript e (.Slice a? a? (a! c) p2) pos) (Nc (Yb X.K) k C):=by
 intro pins s Y H Q I h;refine Gn (cJ (J pins s Y H _ I h) λv m g=>?_);obtain⟨x,H1,O,u,A⟩:=g;refine ID ?_;refine AD ?_;refine AD ?_;refine cJ (hc pins m Y H1 _ O A) λvc f g=>?_
 obtain⟨y,U,M,n,i,L,w⟩:=g;subst L;obtain⟨a,xs,rfl,G,rfl,q⟩:=w;obtain⟨tk,rfl⟩:=n;cases u;have j:bC X pins Y U {f with heap:=f.heap.push {cls:=.type "slice",data:=.fields #[.none,.none,.int (-1) tk]}}:=M.kept (t':=f.toks) λb ob q=>Ah _ q
 obtain⟨t,r,pl,B⟩:=j.list G;have hn:=r.length;have p:FS t.toArray a? a? (a! (-1))=((NK xs.length).filterMap (t.toArray[·]?)).toArray:=by
  unfold FS;rw[show Cj a? a? (a! (-1)) t.toArray.size=((xs.length:Int)-1,-1,-1) by unfold Cj;simp[hn]];rfl
 refine IN (T := "list") (ops:=[.ref a,.ref f.heap.objs.size]) pl.isList.typeIs EO.lookup ?_ (by with_unfolding_all rfl);refine EY pl.isList (Heap.IsSliceOf.new ..) .none .none (.int (-1) tk) (by intro z;injection z with z;cases z) ?_ (by rw[Am]<;>lia);rw[p];have l:((NK xs.length).filterMap (xs[·]?)).length<=xs.length:=by
  have h1:=JG t.toArray a? a? (a! (-1));rw[p,Am,Am]at h1;have h2:=(iK r (NK xs.length)).length;lia
 have hf:=j.cL.fresh (Ag _);refine⟨.ref _,_,j.laid (t':=f.toks) (o:=.lst ((NK xs.length).filterMap (xs[·]?))) (λb ob q=>Ah _ q) (Ag _) ?_,rfl,q _ _ hf (a6.new hf) aZ⟩;exact⟨Bz l B,_,0,iK r _,Av _ rfl⟩
def YK (a C:DE):DO:=λδ P=>a δ λx=>C δ λc=>match x,c with
 | .lst xs,.int c=>c = -1/\P (.nl (((NK xs.length).filterMap (xs[·]?)).map .fz))
 |_,_=>False
theorem V3 (A:cO K T O)(hc:dH K t J): eR K (Nc (Yb K) T t) (YK O J):=λk j F H Y δ P Q e w q=>
 A k j F H Y δ _ _ e w λx v G z m h n=>hc k j G z Y δ _ _ (e.on h) m λc u C U g a r=>by
  have f:=h.trans a;split at g
  .obtain ⟨rfl,g⟩:=g;obtain⟨p,vs,rfl,h1,h2⟩:=n.mono a.ff;exact⟨_,r,p,vs,rfl,a.fh.seq h1,rfl,λl B L M o=>q _ _ C B g (f.trans (cy.grow a.fh M)) (e8.list (f.hh.free L) (a.fh.free L) o (by rw[h2.length];exact h2.pick _))⟩
  .exact g.elim
end
open PySem PySem.Spec PyProof.Rows
def D.MB (d:D):Prop:=(∃i,d = .int i)∨(∃s,d = .str s)∨d = .cA∨∃b,d = .bl b
def D.ft:Nat->D->Prop
 | 0,d=>d.MB
 |n+1,d=>d.MB∨∃ds,(d = .tup ds∨d = .lst ds)/\∀x∈ds,D.ft n x
theorem D.ft.tup {n:Nat}{ds:List D}(h:∀x∈ds,D.ft n x):D.ft (n+1) (.tup ds):=.inr ⟨ds,.inl rfl,h⟩
theorem D.ft.lst {n:Nat}{ds:List D}(h:∀x∈ds,D.ft n x):D.ft (n+1) (.lst ds):=.inr ⟨ds,.inr rfl,h⟩
theorem D.MB.ft:∀{n:Nat} {d:D},d.MB->D.ft n d
 | 0,_,h=>h
 |_+1,_,h=>.inl h
section
variable {K:Aq}{X:Cx}
theorem oK (n:Nat):(AF n).all (λ_=>b!)=true:=by simp
theorem w9 (I:bC X pins Y H s): ∀(n:Nat) {A:AN} {d:D} {v u:V} {a b:Aa},A.units+n<Gy->d.ft n->dM X.K H d v->dM X.K H d u->cu v a->cu u b->HC A s a b true:=by
 have flat:∀{A:AN} {d:D} {v u:V} {a b:Aa},d.MB->dM X.K H d v->dM X.K H d u->cu v a->cu u b->HC A s a b true:=by
  intro A d v u a b l c r f B;rcases l with⟨i,rfl⟩ | ⟨i,rfl⟩ |rfl | ⟨i,rfl⟩
  .cases (show v=_ from c);cases (show u=_ from r)
   have:=ME (A:=A) (s:=s) f B rfl rfl
   rwa[show ŧ (.int i) (.int i)=b! by simp[ŧ]]at this
  .cases (show v=_ from c);cases (show u=_ from r)
   have:=ME (A:=A) (s:=s) f B rfl rfl
   rwa[show ŧ (.str i) (.str i)=b! by simp[ŧ]]at this
  .cases (show v=_ from c);cases (show u=_ from r)
   exact ME (A:=A) (s:=s) f B rfl rfl
  .cases (show v=_ from c);cases (show u=_ from r);cases f;cases B
   have:=GG (A:=A) (s:=s) i i
   rwa[beq_self_eq_true]at this
 intro n
 induction n with
 |zero=>intro A d v u a b _ l c r f B;exact flat l c r f B
 |succ n ih=>
  intro A d v u a b hu l c r f B;rcases l with l | ⟨ds,e,m⟩
  .exact flat l c r f B
  have k:A.units<Gy:=by lia
  have U:A.in1.units+n<Gy:=by rw[show A.in1.units=A.units+1 from rfl];lia
  rcases e with rfl |rfl
  .obtain ⟨p,vs,rfl,h1,h2⟩:=c;obtain⟨q,us,rfl,O,o⟩:=r;cases f;cases B;by_cases h:p=q
   .subst h;exact FH _
   obtain⟨T,g,J,_⟩:=I.tuple h1;obtain⟨t,w,G,_⟩:=I.tuple O;have:=G4 (e:=λ_=>b!) J G k (λj M L=>by
    obtain⟨z1,e1,C⟩:=g.at M;obtain⟨z2,Q,z⟩:=w.at L;obtain⟨d1,g1,k1⟩:=h2.get' e1;obtain⟨d2,g2,k2⟩:=o.get' Q
    cases g1.symm.trans g2
    exact ih U (m d1 (Ai g1)) k1 k2 C z)
   rw[oK,BW,Am,Am,<- g.length,<- w.length,<- h2.length,<- o.length,beq_self_eq_true]at this;exact GW h this
  .obtain ⟨p,vs,rfl,h1,h2⟩:=c;obtain⟨q,us,rfl,O,o⟩:=r;cases f;cases B;by_cases h:p=q
   .subst h;exact FH _
   obtain⟨T,g,J,_⟩:=I.list h1;obtain⟨t,w,G,_⟩:=I.list O;have:=G_ (e:=λ_=>b!) J.isList G.isList (by rw[Am,Am,<- g.length,<- w.length,<- h2.length,<- o.length]) k (λj M L=>by
    obtain⟨z1,e1,C⟩:=g.at M;obtain⟨z2,Q,z⟩:=w.at L;obtain⟨d1,g1,k1⟩:=h2.get' e1;obtain⟨d2,g2,k2⟩:=o.get' Q
    cases g1.symm.trans g2
    exact ih U (m d1 (Ai g1)) k1 k2 C z)
   rw[oK]at this;exact GW h this
def SW (K:Aq)(t:Bool):R2:=λv u H Q=>∃d ds,(d = .tup ds∨d = .lst ds)/\(∀x∈ds,D.ft 4 x)/\dM K H d v/\dM K H d u/\Q (.bl t) H
theorem Z2 (hu:X.A.units+64<Gy): lU X (Cd .Eq) (SW X.K b!):=by
 intro pins s Y H v u a b Q I O M h;obtain⟨d,ds,hd,hf,L,G,q⟩:=h;have f:X.A.units<Gy:=by lia
 have U:X.A.in1.units+4<Gy:=by rw[show X.A.in1.units=X.A.units+1 from rfl];lia
 rcases hd with rfl |rfl
 .obtain ⟨p,vs,rfl,h1,h2⟩:=L;obtain⟨p',us,rfl,o,g⟩:=G;cases O;cases M;obtain⟨T,c,m,_⟩:=I.tuple h1;obtain⟨t,w,l,_⟩:=I.tuple o;refine G4 (e:=λ_=>b!) m l f (λj n J=>by
   obtain⟨z1,B,k⟩:=c.at n;obtain⟨z2,z,r⟩:=w.at J;obtain⟨C,g1,k1⟩:=h2.get' B;obtain⟨d2,g2,k2⟩:=g.get' z
   cases g1.symm.trans g2
   exact w9 I 4 U (hf C (Ai g1)) k1 k2 k r) _ _ _ _ ?_
  rw[oK,BW,Am,Am,<- c.length,<- w.length,<- h2.length,<- g.length,beq_self_eq_true];exact⟨.bl _,H,I,rfl,q⟩
 .obtain ⟨p,vs,rfl,h1,h2⟩:=L;obtain⟨p',us,rfl,o,g⟩:=G;cases O;cases M;obtain⟨T,c,m,_⟩:=I.list h1;obtain⟨t,w,l,_⟩:=I.list o;refine G_ (e:=λ_=>b!) m.isList l.isList (by rw[Am,Am,<- c.length,<- w.length,<- h2.length,<- g.length]) f (λj n J=>by
   obtain⟨z1,B,k⟩:=c.at n;obtain⟨z2,z,r⟩:=w.at J;obtain⟨C,g1,k1⟩:=h2.get' B;obtain⟨d2,g2,k2⟩:=g.get' z
   cases g1.symm.trans g2
   exact w9 I 4 U (hf C (Ai g1)) k1 k2 k r) _ _ _ _ ?_
  rw[oK];exact⟨.bl _,H,I,rfl,q⟩
theorem Tn (hu:X.A.units+64<Gy): lU X (Cd .NotEq) (SW X.K b?):=by
 intro pins s Y H v u a b Q I O M h;obtain⟨d,ds,hd,hf,L,G,q⟩:=h;have f:X.A.units<Gy:=by lia
 have U:X.A.in1.units+4<Gy:=by rw[show X.A.in1.units=X.A.units+1 from rfl];lia
 rcases hd with rfl |rfl
 .obtain ⟨p,vs,rfl,h1,h2⟩:=L;obtain⟨p',us,rfl,o,g⟩:=G;cases O;cases M;obtain⟨T,c,m,_⟩:=I.tuple h1;obtain⟨t,w,l,_⟩:=I.tuple o;refine Ke (e:=λ_=>b!) m l f (λj n J=>by
   obtain⟨z1,B,k⟩:=c.at n;obtain⟨z2,z,r⟩:=w.at J;obtain⟨C,g1,k1⟩:=h2.get' B;obtain⟨d2,g2,k2⟩:=g.get' z
   cases g1.symm.trans g2
   exact w9 I 4 U (hf C (Ai g1)) k1 k2 k r) _ _ _ _ ?_
  rw[oK,BW,Am,Am,<- c.length,<- w.length,<- h2.length,<- g.length,beq_self_eq_true];exact⟨.bl _,H,I,rfl,q⟩
 .obtain ⟨p,vs,rfl,h1,h2⟩:=L;obtain⟨p',us,rfl,o,g⟩:=G;cases O;cases M;obtain⟨T,c,m,_⟩:=I.list h1;obtain⟨t,w,l,_⟩:=I.list o;refine Kf (e:=λ_=>b!) m.isList l.isList (by rw[Am,Am,<- c.length,<- w.length,<- h2.length,<- g.length]) f (λj n J=>by
   obtain⟨z1,B,k⟩:=c.at n;obtain⟨z2,z,r⟩:=w.at J;obtain⟨C,g1,k1⟩:=h2.get' B;obtain⟨d2,g2,k2⟩:=g.get' z
   cases g1.symm.trans g2
   exact w9 I 4 U (hf C (Ai g1)) k1 k2 k r) _ _ _ _ ?_
  rw[oK];exact⟨.bl _,H,I,rfl,q⟩
def X1 (t:Bool):xp:=λx y P=>y=x/\(∃ds,(x = .tup ds∨x = .lst ds)/\∀z∈ds,D.ft 4 z)/\P (.bl t)
theorem wJ {t:Bool}:zi K (SW K t) (X1 t):=λF H x y v u P Q s a r w q=>by
 obtain⟨rfl,⟨ds,h1,h2⟩,w⟩:=w;exact⟨y,ds,h1,h2,a,r,q _ _ F H w (cy.refl s) rfl⟩
end
end L2
namespace Lw
open PySem L2 PyProof.Rows
noncomputable def top (i:Nat):A6:=PySem.Challenge.pw_liftwave_k43_share.main.body.getD i (.Pass ⟨0,0,0,0⟩)
noncomputable abbrev vD (d:D):Option Sl:=a! (.own (.fz d))
noncomputable abbrev vI (i:Int):Option Sl:=a! (.own (.fz (.int i)))
noncomputable abbrev vL (ts:List OV):Option Sl:=a! (.own (.nl ts))
theorem bc{us:List Aa}{n:Nat}(h:us.length=n+1):∃y r,us=y::r/\r.length=n:=by
 cases us with
 |nil=>cases h
 |cons y r=>exact⟨y,r,rfl,LO h⟩
theorem bl1{us:List Aa}(h:us.length=1):∃y0,us=[y0]:=by
 obtain⟨y0,u,rfl,h1⟩:=bc h
 cases CI.mp h1
 exact⟨y0,rfl⟩
theorem bl2{us:List Aa}(h:us.length=2):∃y0 y1,us=[y0,y1]:=by
 obtain⟨y0,U,rfl,h1⟩:=bc h;obtain⟨y1,u,rfl,h2⟩:=bc h1
 cases CI.mp h2
 exact⟨y0,y1,rfl⟩
theorem bl3{us:List Aa}(a:us.length=3):∃y0 y1 y2,us=[y0,y1,y2]:=by
 obtain⟨y0,c,rfl,h1⟩:=bc a;obtain⟨y1,U,rfl,h2⟩:=bc h1;obtain⟨y2,u,rfl,h⟩:=bc h2
 cases CI.mp h
 exact⟨y0,y1,y2,rfl⟩
theorem bl4{us:List Aa}(c:us.length=4):∃y0 y1 y2 y3,us=[y0,y1,y2,y3]:=by
 obtain⟨y0,f,rfl,h1⟩:=bc c;obtain⟨y1,e,rfl,h2⟩:=bc h1;obtain⟨y2,U,rfl,a⟩:=bc h2;obtain⟨y3,u,rfl,h⟩:=bc a
 cases CI.mp h
 exact⟨y0,y1,y2,y3,rfl⟩
theorem bl5{us:List Aa}(e:us.length=5):∃y0 y1 y2 y3 y4,us=[y0,y1,y2,y3,y4]:=by
 obtain⟨y0,j,rfl,h1⟩:=bc e;obtain⟨y1,g,rfl,h2⟩:=bc h1;obtain⟨y2,f,rfl,c⟩:=bc h2;obtain⟨y3,U,rfl,a⟩:=bc c;obtain⟨y4,u,rfl,h⟩:=bc a
 cases CI.mp h
 exact⟨y0,y1,y2,y3,y4,rfl⟩
set_option hygiene false
local macro_rules | `(tactic|f_tup)=>`(tactic| (intro _ _ _ _ _ _ us hl;first | (obtain⟨y0,rfl⟩:=bl1 hl;rfl) | (obtain⟨y0,y1,rfl⟩:=bl2 hl;rfl) | (obtain⟨y0,y1,y2,rfl⟩:=bl3 hl;rfl) | (obtain⟨y0,y1,y2,y3,rfl⟩:=bl4 hl;rfl) | (obtain⟨y0,y1,y2,y3,y4,rfl⟩:=bl5 hl;rfl)))
local macro_rules | `(tactic|f_are)=>`(tactic|exact⟨rfl,rfl,rfl,by decide +kernel,rfl,by decide +kernel,by decide +kernel⟩)
local macro_rules | `(tactic|fin2)=>do let x:=("Ź zY SF UT UW X2 YK vD vI vL c5 X7 PK SI V0 Sg ĸ VW Ĺ ĺ ZD ĵ SJ SK ZC Zy So YL V8 gN u3 oE gT ę Qz dLf dV dB dC Ŵ dUn rU1 ZM S4 ZN ZJ ZL SY D.Of ů é ż dOr dIf YU ų YN US UN yR YP UP Ů ŵ ixL ixT dCB Ż Ë Ê Æ Ā Ud YO dPt ű Oz UX Ÿ Ŷ YJ YI Ų MS UR Ù Uo X1 ÿ T8 YT ŭ YF Ox YR ê Zg YS YM UM X4 YG Sh Ø MG X8 vd MH UU MF OV.PB D.PB w_ vY jb Zm UQ YH ź Sy SA SD SE xR UO Oy fb yQ YQ U' Ű ŷ OV.val OV.vals OV.c7 D.lf D.jU OV.lf OV.jU BU JT CY Fx AQ Dr Ar FI Nat.reduceSub Nat.reduceLeDiff G8 BY Dd CN EF Fj BW FF true_and and_true if_true if_false Dg Au decide_eq_true_eq KP Sl.own.injEq OV.ob.injEq exists_eq_left' Vv á VT Xx Ď QQ č Int.reduceLT Int.reduceLE Int.reduceNeg Int.reducePow Int.reduceToNat Int.reduceAdd Int.reduceSub true_or or_true ŉ Ð WV Ul WU HM decide_true Bool.or_self JC Bool.not_not ne_eq not_true MT ü û ú ù beq_self_eq_true JV Bool.or_true".splitOn " ").toArray.map λn=>Lean.mkIdent n.toName;`(tactic|simp only[$[$x:ident],*])
local macro_rules | `(tactic|gn_on)=>`(tactic| (refine R9 λN hN=>?_;fin2))
local macro_rules | `(tactic|gp_on)=>`(tactic| (refine hN _ ?_;clear hN;clear N))
set_option hygiene true
section
variable (P:AA)(w:AR){K:Aq}{mg:Al->Option Aa}(base:Heap)
seal L2.PA L2.PE L2.PS L2.PSs L2.PT L2.PW L2.PG L2.PGs L2.PO L2.PI
noncomputable def jA (b:Bool):Al:=if b then "1" else "0"
theorem nJ (b:Bool):(jA b).length=1:=by cases b<;>rfl
theorem yN {c:Type}:∀l:List c,(AF l.length).filterMap (λk=>l[k]?)=l
 | []=>rfl
 |a::l=>by
  rw[AQ,Hb,EL];simp only[G8];rw[FK];have e:((λk=>(a::l)[k]?)∘Nat.succ)=λk=>l[k]?:=by funext k;simp
  rw[e,yN l]
theorem Uv {n i:Nat}(h:i<=n):Cp (a! (i:Int)) a? 1 n=(AF (n-i)).map λk=>i+k:=by
 unfold Cp CU;have a:¬ ((i:Int)<0):=by lia
 simp only[a,if_false,show (1:Int) > 0 by decide,if_true];have e:max 0 (min (i:Int) (n:Int))=(i:Int):=by lia
 rw[e];have c:(if (i:Int)<(n:Int) then ((n:Int)-(i:Int)+1-1) / 1 else 0).toNat=n-i:=by
  split
  .rw [Kc];(clear h a;lia)
  .lia
 rw[c];refine B3 λk _=>?_
 clear h a;lia
theorem Rw (x:Al){i:Nat}(h:i<=x.length):DI x (a! (i:Int)) a?=⟨(x.cps.toList.drop i).toArray⟩:=by
 have e:((AF (x.length-i)).map λk=>i+k).filterMap (x.cps[·]?)=x.cps.toList.drop i:=by
  rw[FK];have:=yN (x.cps.toList.drop i);rw[Er]at this;rw[<- this];refine congrArg (λg=>Jl g _) (funext λk=>?_);simp
 unfold DI;rw[Uv h];split
 .rename_i c;have hi:i=0:=by simp at c;lia
  subst hi;simp
 .rw [e]
def cK (bs:List Bool):Al:=F7 "" (bs.map jA)
theorem VF:(Bm "")=⟨#[]⟩:=by decide +kernel
theorem ja (b:Bool)(bs:List Bool):cK (b::bs)=jA b++cK bs:=by
 unfold cK;rw[show ∀l,F7 (Bm "") l=Jv (Bm "") l from λl=>PySem.StrLaws.glued_eq_join _ l,show ∀l,F7 (Bm "") l=Jv (Bm "") l from λl=>PySem.StrLaws.glued_eq_join _ l]
 cases bs with
 |nil=>exact (IL _).symm
 |cons c cs=>
  show jA b++Bm ""++Jv (Bm "") (jA c::cs.map jA)=_
  rw[VF,show (jA b++(⟨#[]⟩:Al))=jA b from IL _];rfl
theorem OF (x y:Al):(x++y).length=x.length+y.length:=by
 show (x.cps++y.cps).size=_
 rw[G0];rfl
theorem cX:∀bs:List Bool,(cK bs).length=bs.length
 | []=>rfl
 |b::bs=>by rw[ja,OF,cX bs,nJ,AQ];lia
theorem nU:∀(as bs:List Bool),cK (as++bs)=cK as++cK bs
 | [],bs=>(Str.empty_append _).symm
 |a::as,bs=>by rw[CY,ja,nU as bs,ja,Str.append_assoc]
theorem ĭ (b:Bool)(t:Al):DI (jA b++t) (a! 1) a?=t:=by
 have e:(jA b).cps.toList.length=1:=nJ b;rw[show (a! (1:Int))=a! ((1:Nat):Int) from rfl,Rw _ (by rw[OF,nJ];lia)];show (⟨(((jA b).cps++t.cps).toList.drop 1).toArray⟩:Al)=t
 rw[Ge,List.drop_append_of_le_length (by rw[e];lia),List.drop_of_length_le (by rw[e];lia),Fx]
theorem RZ (x y:Al):vE (x++y)=vE x++vE y:=by
 show (x.cps++y.cps).toList.map _=_
 rw[Ge,Bc];rfl
theorem RY (b:Bool):vE (jA b)=[jA b]:=by cases b<;>decide +kernel
theorem qR:∀bs:List Bool,vE (cK bs)=bs.map jA
 | []=>rfl
 |b::bs=>by rw[ja,RZ,RY,qR bs];rfl
theorem U8 (b:Bool):decide (jA b=Bm "1")=b:=by cases b<;>decide +kernel
theorem Ú {n i:Nat}(h:i<=n):Cp a? (a! (i:Int)) 1 n=AF i:=by
 unfold Cp CU;have a:¬ ((i:Int)<0):=by lia
 simp only[a,if_false,show (1:Int) > 0 by decide,if_true];have e:max 0 (min (i:Int) (n:Int))=(i:Int):=by lia
 rw[e];have c:(if (0:Int)<(i:Int) then ((i:Int)-0+1-1) / 1 else 0).toNat=i:=by
  split
  .rw [Kc];(clear h a;lia)
  .clear h a;lia
 rw[c];refine DP λk=>?_
 by_cases f:k<i
 .simp
 .simp
theorem Xg {a:Type}(l:List a)(h:i<=l.length):(AF i).filterMap (λk=>l[k]?)=l.take i:=by
 have e:∀n:Nat,n<=l.length->(AF n).filterMap (λk=>l[k]?)=l.take n:=by
  intro n
  induction n with
  |zero=>intro _;simp
  |succ n c=>
   intro hn;rw[EK,List.filterMap_append,c (by lia),Fu];simp[Ad (show n<l.length by lia)]
 exact e i h
theorem Y8 (x:Al)(h:i<=x.length):DI x a? (a! (i:Int))=⟨(x.cps.toList.take i).toArray⟩:=by
 have e:(AF i).filterMap (x.cps[·]?)=x.cps.toList.take i:=by
  rw[<- Xg x.cps.toList (show i<=x.cps.toList.length by rw[Ej];exact h)];simp
 unfold DI;rw[Ú h];split
 .rename_i c;have hi:i=x.length:=by simpa using c
  rw[hi,show x.length=x.cps.toList.length by simp;rfl,BD]
 .rw [e]
theorem xB (bs:List Bool)(h:i<=bs.length):DI (cK bs) a? (a! (i:Int))=cK (bs.take i):=by
 rw[Y8 _ (by rw[cX];exact h)];have e:cK bs=cK (bs.take i)++cK (bs.drop i):=by rw[<- nU,C6]
 have hl:(cK (bs.take i)).cps.toList.length=i:=by
  have:=cX (bs.take i);rw[BE,FO h]at this;exact this
 rw[e];show (⟨(((cK (bs.take i)).cps++(cK (bs.drop i)).cps).toList.take i).toArray⟩:Al)=_
 rw[Ge,List.take_append_of_le_length (by lia),BS (by lia)]
noncomputable def bH:List Al:=["plane","used","row_ends","walked","ahead"]
structure Pa where
 a:Int
 s:Int
 e:Int
 lo:Int
 hi:Int
noncomputable def Pa.d (p:Pa):D:=.tup [.int p.a,.int p.s,.int p.e,.tup [.int p.lo,.int p.hi]]
structure Wk where
 pl:Int
 us:Int
 re:List Int
 wk:List Pa
 ah:List Pa
noncomputable def Wk.ts (w:Wk):List OV:=[.fz (.int w.pl),.fz (.int w.us),.nl (w.re.map λi=>.fz (.int i)),.nl (w.wk.map λp=>.fz p.d),.nl (w.ah.map λp=>.fz p.d)]
noncomputable def Wk.turn (w:Wk):Wk:=if w.pl-1>=0 then {w with pl:=w.pl-1,ah:=w.wk.reverse,wk:=[]} else {w with pl:=w.pl-1}
noncomputable def Wk.wake (w:Wk)(p:Pa):Wk:=if p.e-p.s=1 then {w with ah:=w.ah++[⟨2,p.s,p.e,p.lo,p.hi⟩]} else {w with ah:=w.ah++[⟨0,(p.s+p.e) / 2,p.e,p.lo,p.hi⟩,⟨1,p.s,(p.s+p.e) / 2,p.lo,p.hi⟩]}
def Wk.fits (w:Wk):Prop:=w.re.length<900000/\w.wk.length<900000/\w.ah.length<900000
def j8:dN:=λds P=>∃p:Pa,ds=[p.d]/\P (.fz (.bl (decide (p.e-p.s=1))))
def jf:dN:=λds P=>∃n:Nat,ds=[.int n]/\n<=5000/\P (.fz (.tup [.int (1-2^n),.int (2^n-1)]))
def j7:dN:=λds P=>∃(n:Nat) (b:Bool),ds=[.int n,.bl b]/\n<=5000/\P (.fz (if b then .tup [.int (1-2^n-2^n),.int (-2^n)] else .tup [.int (2^n),.int (2^n+2^n-1)]))
def jF:dN:=λds P=>∃(lo hi:Int) (n:Nat) (b:Bool),ds=[.tup [.int lo,.int hi],.int n,.bl b]/\n<=5000/\P (.fz (if b=decide (lo > 0) then .tup [.int (lo+2^n),.int hi] else .tup [.int lo,.int (hi-2^n)]))
def jh:qt:=λts ds P=>∃w:Wk,ts=w.ts/\w.wk.length<=1000000/\ds=[]/\P w.turn.ts
def fB:qt:=λts ds P=>∃(m:Int) (n:Nat),ts=[]/\ds=[.int m,.int n]/\n<=5000/\P (Wk.turn ⟨n,0,[],[⟨0,0,m,1-2^n,2^n-1⟩],[]⟩).ts
def gy:qt:=λts ds P=>∃(w:Wk) (p:Pa) (lo hi:Int),ts=w.ts/\w.wk.length<1000000/\ds=[p.d,.tup [.int lo,.int hi]]/\P {w with wk:=w.wk++[⟨3,p.s,p.e,lo,hi⟩]:Wk}.ts
def jg:qt:=λts ds P=>∃(w:Wk) (p:Pa),ts=w.ts/\w.ah.length<900000/\ds=[p.d]/\P (w.wake p).ts
def ey:dN:=λds P=>∃w:Wk,ds=[.obj "Walk" bH (OV.vals w.ts)]/\P (.fz (.bl (decide (w.pl<0))))
noncomputable def Wk.walked (w:Wk)(p:Pa):Wk:={w with wk:=w.wk++[p]}
noncomputable def Wk.calm (w:Wk)(p:Pa):Wk:=if p.a=1 then {w.walked ⟨0,p.s,p.e,1-2^w.pl.toNat,2^w.pl.toNat-1⟩ with ah:=w.ah.dropLast:Wk}.wake (w.ah.getLastD p) else w.walked ⟨0,p.s,p.e,1-2^w.pl.toNat,2^w.pl.toNat-1⟩
noncomputable def Pa.bS (p:Pa)(n:Nat)(b:Bool):Pa:=if b=decide (p.lo > 0) then ⟨3,p.s,p.e,p.lo+2^n,p.hi⟩ else ⟨3,p.s,p.e,p.lo,p.hi-2^n⟩
noncomputable def Pa.signed (p:Pa)(n:Nat)(b:Bool):Pa:=if b then ⟨3,p.s,p.e,1-2^n-2^n,-2^n⟩ else ⟨3,p.s,p.e,2^n,2^n+2^n-1⟩
def Wk.step (w:Wk)(ah:List Pa)(p:Pa)(b:Bool):Wk:=
 if p.a=3 then {w with us:=w.us+1,ah:=ah,wk:=w.wk++[p.bS w.pl.toNat b]} else if p.a=2 then {w with us:=w.us+1,ah:=ah,wk:=w.wk++[p.signed w.pl.toNat b]}
 else if b then Wk.wake {w with us:=w.us+1,ah:=ah} p else Wk.calm {w with us:=w.us+1,ah:=ah} p
def Wk.dW (w:Wk):Wk:=if w.ah=[] then Wk.turn {w with re:=w.re++[w.us]} else w
def mK:qt:=λts ds P=>∃(w:Wk) (p:Pa),ts=w.ts/\(w.wk.length<1000000/\w.ah.length<900000)/\ds=[p.d]/\0<=w.pl/\w.pl<=5000/\(p.a=1->w.ah≠[])/\P (w.calm p).ts
def ji:qt:=λts ds P=>∃(w:Wk) (ah:List Pa) (p:Pa) (b:Bool),ts=w.ts/\w.fits/\ds=[.bl b]/\w.ah=ah++[p]/\0<=w.pl/\w.pl<=5000/\(p.a=1->b=b?->ah≠[])/\P ((w.step ah p b).dW).ts
theorem vr (n:Nat):(1:Int)*2^((n:Int).toNat)=2^n:=by rw[JU,AX]
theorem qQ {n:Nat}(h:n<=5000):0<=(n:Int)/\(n:Int)<=1000000/\KS 1<2^64:=⟨by lia,by lia,by decide⟩
theorem qi (ps:List Pa):(ps.map λp=>OV.fz p.d).map OV.val=ps.map Pa.d:=by rw[AW];rfl
theorem wj (ps:List Pa):D.jU (ps.map Pa.d)=true:=by
 rw[D.kQ];simp[Pa.d,D.lf,D.jU]
theorem Ym (p:Pa):p.d.lf=true:=by simp[Pa.d,D.lf,D.jU]
theorem ZW (ps:List Pa):Bo OV.fz (ps.map Pa.d).reverse=ps.reverse.map λp=>OV.fz p.d:=by rw[<- CD,AW];rfl
theorem ZX (ps:List Pa)(p:Pa):(ps.map λp=>OV.fz p.d)++[OV.fz p.d]=(ps++[p]).map λp=>OV.fz p.d:=by simp
theorem mZ (ps:List Pa)(a s e lo hi:Int):(ps.map λp=>OV.fz p.d)++[OV.fz (.tup [.int a,.int s,.int e,.tup [.int lo,.int hi]])]=(ps++[(⟨a,s,e,lo,hi⟩:Pa)]).map λ(p:Pa)=>OV.fz p.d:=ZX ps ⟨a,s,e,lo,hi⟩
theorem oa (p:Pa):p.d = .tup [.int p.a,.int p.s,.int p.e,.tup [.int p.lo,.int p.hi]]:=rfl
abbrev iw:A6:=top 55
theorem qU:aR ["part"] ["part"] (aB iw):=by f_are
abbrev kx:A6:=top 56
theorem vO:aR ["plane"] ["plane"] (aB kx):=by f_are
abbrev iv:A6:=top 57
theorem kf:aR ["plane","below","least"] ["plane","below"] (aB iv):=by f_are
abbrev gE:A6:=top 58
theorem pK:aR ["span","plane","figure"] ["span","plane","figure"] (aB gE):=by f_are
abbrev kz:A6:=dX (top 59) 1
theorem vP:aR ["self"] ["self"] (aB kz):=by f_are
abbrev fV:A6:=dX (top 59) 0
theorem n0:aR ["self","many","planes"] ["self","many","planes"] (aB fV):=by f_are
abbrev fj:A6:=dX (top 59) 7
theorem l4:aR ["self","part","span"] ["self","part","span"] (aB fj):=by f_are
abbrev ky:A6:=dX (top 59) 8
theorem mP:aR ["self","part","middle"] ["self","part"] (aB ky):=by f_are
abbrev fU:A6:=dX (top 59) 2
theorem nZ:aR ["self"] ["self"] (aB fU):=by f_are
abbrev kB:A6:=dX (top 59) 9
theorem vQ:aR ["self","part"] ["self","part"] (aB kB):=by f_are
abbrev kA:A6:=dX (top 59) 6
theorem mQ:aR ["self","told","part"] ["self","told"] (aB kA):=by f_are
theorem rM (e:bN K mg "part_of_one" iw f fd)(B:b_ mg)(KV:b7 K)(a:∃t,mg "END_walks"=a! (.int 2 t))(g:∃t,mg "START_walks"=a! (.int 1 t)):
  cc P w K mg base "part_of_one" 1 ["part"] (cg K 1 j8):=by
 refine df.of e qU (by f_tup) rfl (λc A o s H E r=>⟨_,_,(aI (aX (ec eX (aW dr (aS aQ (pv 0) (aO (by rfl) a) (λ_ _=>rfl)) (aS aQ (pv 0) (aO (by rfl) g) (λ_ _=>rfl))) aJ (bG _)))),
  (bt (a8 (aN fu (aM (aN b9 (bA (dm.b aT) aC (aM aE)) (bA (dm.b aT) aC (aM aE)))) (aM aE)))),?_⟩)
 rintro ds j ⟨p,rfl,h⟩;unfold Pa.d;fin2;exact h
theorem wC (a:bN K mg "calm_span" kx f fd)(B:b_ mg)(KV:b7 K):
  cc P w K mg base "calm_span" 1 ["plane"] (cg K 1 jf):=by
 refine df.of a vO (by f_tup) rfl (λc A o s H E r=>⟨_,_,(aI (aX (cb (ae (aW dr aJ (aW gP aJ (pv 0))) (ae (aW dr (aW gP aJ (pv 0)) aJ) aD))))),
  (bt (a8 (cG (aA (aN b9 (aM aE) (aM (aN cn (aM aE) aC))) (aA (aN b9 (aM (aN cn (aM aE) aC)) (aM aE)) aK))))),?_⟩)
 rintro ds e ⟨n,rfl,hn,h⟩;fin2;refine⟨qQ hn,qQ hn,?_⟩;rw[vr];exact h
theorem rL (a:bN K mg "signed_span" iv f fd)(B:b_ mg)(KV:b7 K)(l:jX K mg "least"):
  cc P w K mg base "signed_span" 1 ["plane","below"] (cg K 2 j7):=by
 refine df.of a kf (by f_tup) rfl (λc A o s H E r=>⟨_,_,(aG (a5 (i:=2) kf.nd rfl (An rfl) (aW gP aJ (pv 0)))
   (aG (cj (cD (pv 1)) (aI (aX (cb (ae (aW dr (aW dr aJ (pv 2)) (pv 2)) (ae (ye qz (pv 2)) aD))))) bM)
   (aI (aX (cb (ae (pv 2) (ae (aW dr (aW cH (pv 2) (pv 2)) aJ) aD))))))),
  (aU (bx (a8 (aN cn (aM aE) aC)))
   (aU (cC (fC aF) (bt (a8 (cG (aA (aN b9 (aM (aN b9 (aM aE) aC)) aC) (aA (rk aC) aK))))) bO)
   (bt (a8 (cG (aA aF (aA (aN b9 (aM (aN b9 aC aC)) (aM aE)) aK))))))),?_⟩)
 rintro ds e ⟨n,b,rfl,hn,h⟩;fin2;refine⟨qQ hn,?_⟩;rw[vr]
 cases b with
 |true=>rw[c! rfl]at h ⊢;exact h
 |false=>rw[c? (by decide)]at h ⊢;exact h
theorem pM (a:bN K mg "figured_span" gE f fd)(B:b_ mg)(KV:b7 K):
  cc P w K mg base "figured_span" 1 ["span","plane","figure"] (cg K 3 jF):=by
 refine df.of a pK (by f_tup) rfl (λc A o s H E r=>⟨_,_,(aG (cj (bI eX (pv 2) (ec m4 (aS aQ (pv 0) aJ (λ_ _=>rfl)) aJ (bG _)) (bG _)) (aI (aX (cb (ae (aW cH (aS aQ (pv 0) aJ (λ_ _=>rfl)) (aW gP aJ (pv 1))) (ae (aS aQ (pv 0) aJ (λ_ _=>rfl)) aD))))) bM)
   (aI (aX (cb (ae (aS aQ (pv 0) aJ (λ_ _=>rfl)) (ae (aW dr (aS aQ (pv 0) aJ (λ_ _=>rfl)) (aW gP aJ (pv 1))) aD)))))),
  (aU (cC (bL (aN fu aC (aM (aN dI (bA (dm.b aT) aC (aM aE)) (aM aE))))) (bt (a8 (cG (aA (aN b9 (bA (dm.b aT) aC (aM aE)) (aM (aN cn (aM aE) aC))) (aA (bE aT aF aE) aK))))) bO)
   (bt (a8 (cG (aA (bE aT aF aE) (aA (aN b9 (bA (dm.b aT) aC (aM aE)) (aM (aN cn (aM aE) aC))) aK)))))),?_⟩)
 rintro ds e ⟨lo,hi,n,b,rfl,hn,h⟩;fin2;rw[vr];split at h
 .rename_i c;rw[c! c];exact⟨qQ hn,h⟩
 .rename_i c;rw[c? c];exact⟨qQ hn,h⟩
theorem wF (e:fv K "Walk" "turn" "Walk.turn" kz f fd)(B:b_ mg)(KV:b7 K)(C:dY K "Walk" bH):
  c6 P w K mg base "Walk" "turn" 1 ["self"] (qO K 1 "Walk" bH jh):=by
 refine c6.of e vP (by f_tup) rfl (λc A o s H E r=>⟨_,_,(aG (iR (pv 0) aJ Mp)
   (aI (cj (bI Tp (cp (pv 0) rfl) aJ (bG _)) (aG (gK (pv 0) (rE rfl B.list rfl B.reversed (ae (cp (pv 0) rfl) aD)) rfl)
   (aI (gK (pv 0) (cV aD) rfl))) bM))),
  (aU (mT (j:=0) (g:=λx y=>x-y) C (by rfl) (λx y H Q q=>⟨_,_,rfl,rfl,q⟩) (aM aE))
   (cC (bL (aN dI (c_ (j:=0) C (by rfl) aC) (aM aE))) (aU (NC (j:=4) C (by rfl) (rh (aH (c_ (j:=3) C (by rfl) aC) aP)))
   (NC (j:=3) C (by rfl) (dS cU))) bO)),?_⟩)
 rintro a ts ds k ⟨w,rfl,hf,rfl,h⟩;unfold Wk.ts;fin2;rw[qi,ZW];unfold Wk.turn at h;split at h
 .rename_i c;rw[c! c];exact⟨by decide,wj _,hf,by decide,h⟩
 .rename_i c;rw[c? c];exact h
theorem ot (e:QM K "__init__" "Walk.__init__" fV f fd)(M:zj K mg "Walk" f)(B:b_ mg)(KV:b7 K)(C:dY K "Walk" bH)(g:∃t,mg "WAKING"=a! (.int 0 t))(l:cc P w K mg base "calm_span" 1 ["plane"] (cg K 1 jf))(k:c6 P w K mg base "Walk" "turn" 1 ["self"] (qO K 1 "Walk" bH jh)):
  ur P w K mg base "Walk" 2 ["self","many","planes"] (qO K 3 "Walk" bH fB):=by
 refine ur.of e M n0 (by f_tup) rfl (λc A o s H E r=>⟨_,_,(aG (gK (pv 0) (pv 2) rfl)
   (aG (gK (pv 0) aJ rfl)
   (aG (gK (pv 0) (cV aD) rfl)
   (aG (gK (pv 0) (cV (ae (cb (ae (aO (by rfl) g) (ae aJ (ae (pv 1) (ae (aY l (r.mono (by decide)) (by rfl) (ae (pv 2) aD)) aD))))) aD)) rfl)
   (aG (gK (pv 0) (cV aD) rfl)
   (aI (bY (fq k (r.mono (by decide)) (pv 0))))))))),
  (aU (gp (j:=0) C (by rfl) (a8 aF))
   (aU (gp (j:=1) C (by rfl) (a8 aE))
   (aU (gp (j:=2) C (by rfl) (dS cU))
   (aU (gp (j:=3) C (by rfl) (dS (cI (a8 (cG (aA aE (aA aE (aA aF (aA (bV (a4 (aA aF aK))) aK)))))) cU)))
   (aU (gp (j:=4) C (by rfl) (dS cU))
   (gn C (by decide +kernel) aK)))))),?_⟩)
 rintro a ts ds p ⟨m,n,rfl,rfl,hn,h⟩;fin2;refine⟨n,rfl,hn,?_⟩;fin2;refine⟨⟨n,0,[],[⟨0,0,m,1-2^n,2^n-1⟩],[]⟩,rfl,(by show 1<=1000000;decide),rfl,?_⟩;exact h
theorem mh (e:fv K "Walk" "walk_awake" "Walk.walk_awake" fj f fd)(B:b_ mg)(KV:b7 K)(C:dY K "Walk" bH)(G:∃t,mg "FIGURE"=a! (.int 3 t))(g:∃t,mg "START_walks"=a! (.int 1 t))(l:∃t,mg "END_walks"=a! (.int 2 t)):
  c6 P w K mg base "Walk" "walk_awake" 1 ["self","part","span"] (qO K 3 "Walk" bH gy):=by
 refine c6.of e l4 (by f_tup) rfl (λc A o s H E r=>⟨_,_,(aI (bY (gM Bj PySem.F.slot_list_append PySem.F.type_list_append dD (cp (pv 0) rfl) (ae (cb (ae (aO (by rfl) G) (ae (aS aQ (pv 1) (aO (by rfl) g) (λ_ _=>rfl)) (ae (aS aQ (pv 1) (aO (by rfl) l) (λ_ _=>rfl)) (ae (pv 2) aD))))) aD)))),
  (lj (j:=3) C (by rfl) (a8 (cG (aA aE (aA (bE aT aF aE) (aA (bE aT aF aE) (aA aF aK))))))),?_⟩)
 rintro a ts ds k ⟨w,p,lo,hi,rfl,hf,rfl,h⟩;rw[oa];unfold Wk.ts;fin2;rw[mZ];exact⟨hf,h⟩
theorem wD (q:fv K "Walk" "wake" "Walk.wake" ky f fd)(B:b_ mg)(KV:b7 K)(C:dY K "Walk" bH)(m:∃t,mg "SIGN"=a! (.int 2 t))(k:∃t,mg "WAKING"=a! (.int 0 t))(G:∃t,mg "WAKING_FIRST"=a! (.int 1 t))(g:∃t,mg "START_walks"=a! (.int 1 t))(l:∃t,mg "END_walks"=a! (.int 2 t))(e:∃t,mg "SPAN"=a! (.int 3 t))(r:cc P w K mg base "part_of_one" 1 ["part"] (cg K 1 j8)):
  c6 P w K mg base "Walk" "wake" 2 ["self","part"] (qO K 2 "Walk" bH jg):=by
 refine c6.of q mP (by f_tup) rfl (λc A o s H E n=>⟨_,_,(aI (cj (cD (aY r (n.mono (by decide)) (by rfl) (ae (pv 1) aD))) (aI (bY (gM Bj PySem.F.slot_list_append PySem.F.type_list_append dD (cp (pv 0) rfl) (ae (cb (ae (aO (by rfl) m) (ae (aS aQ (pv 1) (aO (by rfl) g) (λ_ _=>rfl)) (ae (aS aQ (pv 1) (aO (by rfl) l) (λ_ _=>rfl)) (ae (aS aQ (pv 1) (aO (by rfl) e) (λ_ _=>rfl)) aD))))) aD)))) (aG (a5 (i:=2) mP.nd rfl (An rfl) (aW di (aW cH (aS aQ (pv 1) (aO (by rfl) g) (λ_ _=>rfl)) (aS aQ (pv 1) (aO (by rfl) l) (λ_ _=>rfl))) aJ))
   (aG (bY (gM Bj PySem.F.slot_list_append PySem.F.type_list_append dD (cp (pv 0) rfl) (ae (cb (ae (aO (by rfl) k) (ae (pv 2) (ae (aS aQ (pv 1) (aO (by rfl) l) (λ_ _=>rfl)) (ae (aS aQ (pv 1) (aO (by rfl) e) (λ_ _=>rfl)) aD))))) aD)))
   (aI (bY (gM Bj PySem.F.slot_list_append PySem.F.type_list_append dD (cp (pv 0) rfl) (ae (cb (ae (aO (by rfl) G) (ae (aS aQ (pv 1) (aO (by rfl) g) (λ_ _=>rfl)) (ae (pv 2) (ae (aS aQ (pv 1) (aO (by rfl) e) (λ_ _=>rfl)) aD))))) aD)))))))),
  (cC (fC (bV (a4 (aA aF aK)))) (lj (j:=4) C (by rfl) (a8 (cG (aA aE (aA (bE aT aF aE) (aA (bE aT aF aE) (aA (bE aT aF aE) aK))))))) (aU (bx (a8 (aN cn (aM (aN b9 (bA (dm.b aT) aC (aM aE)) (bA (dm.b aT) aC (aM aE)))) (aM aE))))
   (aU (lj (j:=4) C (by rfl) (a8 (cG (aA aE (aA aF (aA (bE aT aF aE) (aA (bE aT aF aE) aK)))))))
   (lj (j:=4) C (by rfl) (a8 (cG (aA aE (aA (bE aT aF aE) (aA aF (aA (bE aT aF aE) aK)))))))))),?_⟩)
 rintro a ts ds u ⟨w,p,rfl,hf,rfl,h⟩;rw[oa];unfold Wk.ts;fin2;refine⟨p,rfl,?_⟩;have hl:=hf;unfold Wk.wake at h;fin2;split at h
 .rename_i c;rw[c! c,mZ];exact⟨by lia,h⟩
 .rename_i c;rw[c? c,mZ,mZ];refine⟨by lia,by simp;lia,?_⟩;rw[BN];exact h
theorem oq (a:fv K "Walk" "is_whole" "Walk.is_whole" fU f fd)(B:b_ mg)(KV:b7 K)(C:dY K "Walk" bH):
  c6 P w K mg base "Walk" "is_whole" 1 ["self"] (cg K 1 ey):=by
 refine XG.of a nZ (by f_tup) rfl (λc A o s H E r=>⟨_,_,(aI (aX (ec iT (cp (pv 0) rfl) aJ (bG _)))),
  (bt (a8 (aN dI (c_ (j:=0) C (by rfl) aC) (aM aE)))),?_⟩)
 rintro ds e ⟨w,rfl,h⟩;unfold Wk.ts;fin2;exact h
theorem wH (v:fv K "Walk" "calm" "Walk.calm" kB f fd)(B:b_ mg)(KV:b7 K)(C:dY K "Walk" bH)(g:∃t,mg "WAKING_FIRST"=a! (.int 1 t))(G:∃t,mg "WAKING"=a! (.int 0 t))(n:∃t,mg "ASKS"=a! (.int 0 t))(T:∃t,mg "START_walks"=a! (.int 1 t))(l:∃t,mg "END_walks"=a! (.int 2 t))(m:cc P w K mg base "calm_span" 1 ["plane"] (cg K 1 jf))(k:c6 P w K mg base "Walk" "wake" 2 ["self","part"] (qO K 2 "Walk" bH jg)):
  c6 P w K mg base "Walk" "calm" 3 ["self","part"] (qO K 2 "Walk" bH mK):=by
 refine c6.of v vQ (by f_tup) rfl (λc A o s H E u=>⟨_,_,(aG (bY (gM Bj PySem.F.slot_list_append PySem.F.type_list_append dD (cp (pv 0) rfl) (ae (cb (ae (aO (by rfl) G) (ae (aS aQ (pv 1) (aO (by rfl) T) (λ_ _=>rfl)) (ae (aS aQ (pv 1) (aO (by rfl) l) (λ_ _=>rfl)) (ae (aY m (u.mono (by decide)) (by rfl) (ae (cp (pv 0) rfl) aD)) aD))))) aD)))
   (aI (cj (bI eX (aS aQ (pv 1) (aO (by rfl) n) (λ_ _=>rfl)) (aO (by rfl) g) (bG _)) (aI (bY (eJ k (u.mono (by decide)) (pv 0) (ae (D' Bj Gc Gb T7 (cp (pv 0) rfl)) aD)))) bM))),
  (aU (lj (j:=3) C (by rfl) (a8 (cG (aA aE (aA (bE aT aF aE) (aA (bE aT aF aE) (aA (bV (fO (aH (c_ (j:=0) C (by rfl) aC) aP))) aK)))))))
   (cC (bL (aN fu (bA (dm.b aT) aC (aM aE)) (aM aE))) (zX (j:=4) C (by rfl) (by decide +kernel)) bO)),?_⟩)
 rintro a ts ds z ⟨w,p,rfl,hf,rfl,h1,h2,r,h⟩;rw[oa];unfold Wk.ts;fin2;refine⟨hf.1,w.pl.toNat,by rw[Ci h1],by lia,?_⟩;fin2;rw[mZ];unfold Wk.calm at h;split at h
 .rename_i c;rw[c! c];obtain⟨ah,q,e⟩:∃ah q,w.ah=ah++[q]:=⟨_,_,(BZ (r c)).symm⟩
  rw[e]at h ⊢;rw[Dk,CM]at h;unfold ri;fin2;refine⟨ah.map λp=>OV.fz p.d,q.d,by rw[Bc];rfl,?_⟩;refine⟨{w.walked ⟨0,p.s,p.e,1-2^w.pl.toNat,2^w.pl.toNat-1⟩ with ah:=ah},q,rfl,?_,rfl,h⟩;have:=hf.2;rw[e,AE]at this;show ah.length<900000
  lia
 .rename_i c;rw[c? c];exact h
theorem wG (Df:fv K "Walk" "take" "Walk.take" kA f fd)(B:b_ mg)(KV:b7 K)(C:dY K "Walk" bH)(U:∃t,mg "FIGURE"=a! (.int 3 t))(G:∃t,mg "ASKS"=a! (.int 0 t))(L:∃t,mg "SIGN"=a! (.int 2 t))(J:∃t,mg "SPAN"=a! (.int 3 t))(l:c6 P w K mg base "Walk" "walk_awake" 1 ["self","part","span"] (qO K 3 "Walk" bH gy))(u:cc P w K mg base "figured_span" 1 ["span","plane","figure"] (cg K 3 jF))(n:cc P w K mg base "signed_span" 1 ["plane","below"] (cg K 2 j7))(k:c6 P w K mg base "Walk" "wake" 2 ["self","part"] (qO K 2 "Walk" bH jg))(m:c6 P w K mg base "Walk" "calm" 3 ["self","part"] (qO K 2 "Walk" bH mK))(r:c6 P w K mg base "Walk" "turn" 1 ["self"] (qO K 1 "Walk" bH jh)):
  c6 P w K mg base "Walk" "take" 4 ["self","told"] (qO K 2 "Walk" bH ji):=by
 refine c6.of Df mQ (by f_tup) rfl (λc A o s H E M=>⟨_,_,(aG (a5 (i:=2) mQ.nd rfl (An rfl) (D' Bj Gc Gb T7 (cp (pv 0) rfl)))
   (aG (iR (pv 0) aJ Ut)
   (aG (cj (bI eX (aS aQ (pv 2) (aO (by rfl) G) (λ_ _=>rfl)) (aO (by rfl) U) (bG _)) (aI (bY (eJ l (M.mono (by decide)) (pv 0) (ae (pv 2) (ae (aY u (M.mono (by decide)) (by rfl) (ae (aS aQ (pv 2) (aO (by rfl) J) (λ_ _=>rfl)) (ae (cp (pv 0) rfl) (ae (pv 1) aD)))) aD))))) (aI (cj (bI eX (aS aQ (pv 2) (aO (by rfl) G) (λ_ _=>rfl)) (aO (by rfl) L) (bG _)) (aI (bY (eJ l (M.mono (by decide)) (pv 0) (ae (pv 2) (ae (aY n (M.mono (by decide)) (by rfl) (ae (cp (pv 0) rfl) (ae (pv 1) aD))) aD))))) (aI (cj (cD (pv 1)) (aI (bY (eJ k (M.mono (by decide)) (pv 0) (ae (pv 2) aD)))) (aI (bY (eJ m (M.mono (by decide)) (pv 0) (ae (pv 2) aD)))))))))
   (aI (cj (dq (S5 (cp (pv 0) rfl) (λ_=>rfl))) (aG (bY (gM Bj PySem.F.slot_list_append PySem.F.type_list_append dD (cp (pv 0) rfl) (ae (cp (pv 0) rfl) aD)))
   (aI (bY (fq r (M.mono (by decide)) (pv 0))))) bM))))),
  (aU (VX (j:=4) C (by rfl))
   (aU (mT (j:=1) (g:=λx y=>x+y) C (by rfl) (λx y H Q q=>⟨_,_,rfl,rfl,q⟩) (aM aE))
   (aU (cC (bL (aN fu (bA (dm.b aT) aC (aM aE)) (aM aE))) (gn C (by decide +kernel) (aA aF (aA (bV (fO (aH (bA (dm.b aT) aC (aM aE)) (aH (c_ (j:=0) C (by rfl) aC) (aH aC aP))))) aK))) (cC (bL (aN fu (bA (dm.b aT) aC (aM aE)) (aM aE))) (gn C (by decide +kernel) (aA aF (aA (bV (fO (aH (c_ (j:=0) C (by rfl) aC) (aH aC aP)))) aK))) (cC (fC aF) (gn C (by decide +kernel) (aA aF aK)) (gn C (by decide +kernel) (aA aF aK)))))
   (cC (dR (R8 (c_ (j:=4) C (by rfl) aC))) (aU (lj (j:=2) C (by rfl) (a8 (NJ (c_ (j:=1) C (by rfl) aC))))
   (gn C (by decide +kernel) aK)) bO)))),?_⟩)
 rintro a ts ds Pr ⟨w,ah,p,b,rfl,hf,rfl,e,h1,h2,hne,h⟩;unfold Wk.ts;gn_on;unfold Sz;fin2;refine⟨ah.map λp=>OV.fz p.d,p.d,by rw[e,Bc];rfl,?_⟩;gp_on;gn_on;gp_on;gn_on;rw[oa];fin2;have hah:ah.length<900000:=by
  have:=hf.2.2;rw[e,AE]at this;lia
 have hwk:w.wk.length<900000:=hf.2.1;have hre:w.re.length<900000:=hf.1;have ep:((w.pl.toNat:Nat):Int)=w.pl:=Ci h1;have O:(w.step ah p b).wk.length<=w.wk.length+1/\(w.step ah p b).re=w.re:=by
  unfold Wk.step Wk.calm Wk.wake Wk.walked
  repeat (any_goals split)
  all_goals simp
 have fin:N [a! (Sl.own (OV.ob (a! a) (Bm "Walk") bH (w.step ah p b).ts)),a! (Sl.own (OV.fz (D.bl b))),a! (Sl.own (OV.fz (D.tup [D.int p.a,D.int p.s,D.int p.e,D.tup [D.int p.lo,D.int p.hi]])))]:=by
  gp_on;generalize w.step ah p b=v at h O ⊢;unfold Wk.ts;fin2;unfold Wk.dW at h;split at h
  .rename_i c;rw[c! (by rw[c];rfl)];exact⟨by rw[O.2];lia,{v with re:=v.re++[v.us]},rfl,by show v.wk.length<=1000000;lia,rfl,h⟩
  .rename_i c;rw[c? (by simpa using c)];exact h
 unfold Wk.step at fin;split
 .rename_i c;rw[c! c]at fin;refine⟨p.lo,p.hi,w.pl.toNat,b,by rw[ep],by lia,?_⟩;unfold Pa.bS at fin;by_cases T:b=decide (p.lo > 0)
  .simp only[c! T]at fin ⊢;exact⟨rfl,{w with us:=w.us+1,ah:=ah},p,_,_,rfl,by show w.wk.length<1000000;lia,rfl,fin⟩
  .simp only[c? T]at fin ⊢;exact⟨rfl,{w with us:=w.us+1,ah:=ah},p,_,_,rfl,by show w.wk.length<1000000;lia,rfl,fin⟩
 .rename_i c;rw[c? c]at fin;split
  .rename_i c2;rw[c! c2]at fin;refine⟨w.pl.toNat,b,by rw[ep],by lia,?_⟩;unfold Pa.signed at fin;by_cases T:b=b!
   .simp only[c! T]at fin ⊢;exact⟨rfl,{w with us:=w.us+1,ah:=ah},p,_,_,rfl,by show w.wk.length<1000000;lia,rfl,fin⟩
   .simp only[c? T]at fin ⊢;exact⟨rfl,{w with us:=w.us+1,ah:=ah},p,_,_,rfl,by show w.wk.length<1000000;lia,rfl,fin⟩
  .rename_i c2;rw[c? c2]at fin;split
   .rename_i c3;rw[c! c3]at fin;exact⟨{w with us:=w.us+1,ah:=ah},p,rfl,hah,rfl,fin⟩
   .rename_i c3;rw[c? c3]at fin;exact⟨{w with us:=w.us+1,ah:=ah},p,rfl,⟨by show w.wk.length<1000000;lia,hah⟩,rfl,h1,h2,λz=>hne z (by simpa using c3),fin⟩
abbrev gm:A6:=top 63
theorem tN:aR ["some"] ["some"] (aB gm):=by f_are
def il:dN:=λds P=>∃xs:List Int,ds=[.lst (xs.map .int)]/\xs.length<=1000000/\P (.nl (xs.map λx=>.fz (.int (iV x))))
theorem tT (a:bN K mg "heights_of" gm f fd)(B:b_ mg)(KV:b7 K):
  cc P w K mg base "heights_of" 1 ["some"] (cg K 1 il):=by
 refine df.of a tN (by f_tup) rfl (λc A o s H E r=>⟨_,_,(aI (aX (d_ rfl (c8 (pv 0)) (show bX (aB gm) _ from⟨rfl,by decide +kernel,by decide +kernel,by decide +kernel⟩) (N:=["number"]) (ix:=[a?]) (show cW _ _ _ _ from trivial) (λ_ _ _=>(bB (i:=0) (show Bp (["number"]:List Al) by decide +kernel) rfl (An rfl))) (λ_ _ _=>(D' PySem.F.plainAttrs_int PySem.F.slot_int_bit_length PySem.F.type_int_bit_length WN (aV yX (by rfl) B.abs boot_abs (ae (pv 0) aD))))))),
  (bt (dU (dv aF) bD (a8 (V' (aM (bP U6 (aH aC aP))))))),?_⟩)
 rintro ds e ⟨xs,rfl,h,k⟩;fin2;refine f9.map xs D.int (λx=>.fz (.int (iV x))) h (λx _ Q q=>?_) k;fin2;rw[W0];exact q
def gs (xs:List Int)(n:Int)(p:Pa):Bool:=
 if p.a=3 then decide ((xs.getD p.s.toNat 0).natAbs / 2^n.toNat%2=1) else if p.a=2 then decide (xs.getD p.s.toNat 0<0)
 else ((xs.drop p.s.toNat).take (p.e.toNat-p.s.toNat)).any λx=>decide (n<(iV x:Int))
def Ϗ (xs:List Int)(p:Pa):Prop:=0<=p.s/\p.s<p.e/\p.e<=(xs.length:Int)
theorem ϋ (a:Nat):B9 (a:Int) 1=((a%2:Nat):Int):=by
 unfold B9;rw[decide_eq_true (by lia:0<=(a:Int)),decide_eq_true (by lia:(0:Int)<=1)];rw[AX,show (1:Int).toNat=1 from rfl,Ij]
theorem QI (a k:Nat):B9 ((a:Int) / 2^k) 1=((a / 2^k%2:Nat):Int):=by
 rw[<- ϋ];congr 1
theorem Xk (h:0<=i)(h1:i<=j)(h2:j<=(xs.length:Int)):L2.cutD xs (a! i) (a! j)=(xs.drop i.toNat).take (j.toNat-i.toNat):=by
 unfold L2.cutD;have e:HT.tP xs.length 0 (a! i)=i.toNat:=by
  have:=HT.NH xs.length 0 i.toNat;rw[Ci h]at this;rw[this];lia
 have a:HT.tP xs.length xs.length (a! j)=j.toNat:=by
  have:=HT.NH xs.length xs.length j.toNat;rw[Ci (by lia)]at this;rw[this];(clear h h1 e;lia)
 rw[e,a]
inductive tD (xs:List Int):Wk->List Bool->Prop
 |done {w:Wk} (h:w.pl<0):tD xs w []
 |step {w:Wk} {ah:List Pa} {p:Pa} {bs:List Bool} (h:0<=w.pl) (h5:w.pl<=5000) (hf:w.fits) (e:w.ah=ah++[p]) (hp:Ϗ xs p) (h1:p.a=1->gs xs w.pl p=b?->ah≠[]) (t:tD xs ((w.step ah p (gs xs w.pl p)).dW) bs):tD xs w (gs xs w.pl p::bs)
def lN:dN:=λds P=>∃(w:Wk) (ah:List Pa) (p:Pa),ds=[.obj "Walk" bH (OV.vals w.ts)]/\w.ah=ah++[p]/\w.fits/\P (.fz p.d)
abbrev jr:A6:=dX (top 59) 3
theorem tO:aR ["self"] ["self"] (aB jr):=by f_are
theorem tV (a:fv K "Walk" "asked" "Walk.asked" jr f fd)(B:b_ mg)(KV:b7 K)(C:dY K "Walk" bH):
  c6 P w K mg base "Walk" "asked" 1 ["self"] (cg K 1 lN):=by
 refine XG.of a tO (by f_tup) rfl (λc A o s H E r=>⟨_,_,(aI (aX (aS bR (cp (pv 0) rfl) (ye qz aJ) (λ_ _=>rfl)))),
  (bt (a8 (NJ (bA (dm.b cw) (c_ (j:=4) C (by rfl) aC) (aM (rk (aM aE))))))),?_⟩)
 rintro ds g ⟨w,ah,p,rfl,e,hf,h⟩;unfold Wk.ts;fin2;rw[qi,e,Bc];refine⟨p.d,?_,Ym p,h⟩;exact U9 _ _
def uE:dN:=λds P=>∃(p:Pa) (n:Int) (xs:List Int),ds=[p.d,.int n,.lst (xs.map .int),.lst (xs.map λx=>.int (iV x))]/\Ϗ xs p/\xs.length<=1000000/\0<=n/\n<=5000/\P (.fz (.bl (gs xs n p)))
abbrev q9:A6:=top 65
theorem uH:aR ["part","plane","some","heights","number"] ["part","plane","some","heights"] (aB q9):=by f_are
theorem Qa (L:bN K mg "answer" q9 f fd)(B:b_ mg)(KV:b7 K)(U:∃t,mg "FIGURE"=a! (.int 3 t))(j:∃t,mg "SIGN"=a! (.int 2 t))(g:∃t,mg "START_walks"=a! (.int 1 t))(G:∃t,mg "ASKS"=a! (.int 0 t))(a:∃t,mg "END_walks"=a! (.int 2 t)):
  cc P w K mg base "answer" 1 ["part","plane","some","heights"] (cg K 4 uE):=by
 refine df.of L uH (by f_tup) rfl (λc A o s H E Q=>⟨_,_,(aG (a5 (i:=4) uH.nd rfl (An rfl) (aS bR (pv 2) (aS aQ (pv 0) (aO (by rfl) g) (λ_ _=>rfl)) (λ_ _=>rfl)))
   (aG (cj (bI eX (aS aQ (pv 0) (aO (by rfl) G) (λ_ _=>rfl)) (aO (by rfl) U) (bG _)) (aI (aX (ec eX (aW Tq (aW rK (aV yX (by rfl) B.abs boot_abs (ae (pv 4) aD)) (pv 1)) aJ) aJ (bG _)))) bM)
   (aG (cj (bI eX (aS aQ (pv 0) (aO (by rfl) G) (λ_ _=>rfl)) (aO (by rfl) j) (bG _)) (aI (aX (ec iT (pv 4) aJ (bG _)))) bM)
   (aI (aX (ec m4 (aV (lx rfl) (by rfl) B.max IS (ae (rC RN (pv 3) (qg (aS aQ (pv 0) (aO (by rfl) g) (λ_ _=>rfl))) (qg (aS aQ (pv 0) (aO (by rfl) a) (λ_ _=>rfl)))) aD)) (pv 1) (bG _))))))),
  (aU (bx (a8 (bE cw aF (bE aT aF aE))))
   (aU (cC (bL (aN fu (bA (dm.b aT) aC (aM aE)) (aM aE))) (bt (a8 (aN fu (aM (aN b9 (aM (aN cn (aM (bP U6 (aH aC aP))) aC)) (aM aE))) (aM aE)))) bO)
   (aU (cC (bL (aN fu (bA (dm.b aT) aC (aM aE)) (aM aE))) (bt (a8 (aN dI aC (aM aE)))) bO)
   (bt (a8 (aN dI (aM (bP qr (aH (aM (bV (Zu aF (ND (bA (dm.b aT) aC (aM aE))) (ND (bA (dm.b aT) aC (aM aE)))))) aP))) aC)))))),?_⟩)
 rintro ds T ⟨p,n,xs,rfl,⟨m,u,q⟩,O,r,hn,h⟩;rw[oa];gn_on;refine⟨_,nK m (by lia),?_⟩;gp_on;fin2;unfold gs at h;split
 .rename_i c;rw[c! c]at h;refine⟨r,?_⟩;rw[QI];generalize (xs.getD p.s.toNat 0).natAbs / 2^n.toNat%2=t at h ⊢;rw[decide_eq_decide.mpr (show ((t:Nat):Int)=1↔t=1 by lia)];exact h
 .rename_i c;rw[c? c]at h;split
  .rename_i C;rw[c! C]at h;exact h
  .rename_i C;rw[c? C]at h;refine⟨((xs.drop p.s.toNat).take (p.e.toNat-p.s.toNat)).map λx=>(iV x:Int),?_,?_,λM v J=>?_⟩
   .rw [AW,Xk m (by lia) (by simpa using q),<- JA,<- Jz,AW,AW];rfl
   .rw [Au,BE,Er];exact KQ.mpr ⟨Iv (by lia),Iv (by lia)⟩
   .have e:(((xs.drop p.s.toNat).take (p.e.toNat-p.s.toNat)).any λx=>decide (n<(iV x:Int)))=decide (M > n):=by
     rw[C8,FP,decide_eq_true_eq];constructor
     .rintro ⟨x,k,l⟩;have:=J _ (Be.mpr ⟨x,k,rfl⟩);have:=of_decide_eq_true l;lia
     .intro z;obtain⟨x,k,l⟩:=Be.mp v;exact⟨x,k,decide_eq_true (by lia)⟩
    rw[e]at h;exact h
def Nl:dN:=λds P=>∃(xs:List Int) (n:Nat) (bs:List Bool),ds=[.lst (xs.map .int),.int n]/\xs.length<=1000000/\n<=5000/\bs.length<=900000/\tD xs (Wk.turn ⟨n,0,[],[⟨0,0,xs.length,1-2^n,2^n-1⟩],[]⟩) bs/\P (.fz (.str (F7 "" (bs.map jA))))
abbrev zT:A6:=top 66
theorem mM:aR ["some","planes","walk","heights","bits","bit"] ["some","planes"] (aB zT):=by f_are
theorem Wv (Df:bN K mg "told" zT f fd)(B:b_ mg)(KV:b7 K)(C:dY K "Walk" bH)(k:ur P w K mg base "Walk" 2 ["self","many","planes"] (qO K 3 "Walk" bH fB))(g:cc P w K mg base "heights_of" 1 ["some"] (cg K 1 il))(a:c6 P w K mg base "Walk" "is_whole" 1 ["self"] (cg K 1 ey))(r:cc P w K mg base "answer" 1 ["part","plane","some","heights"] (cg K 4 uE))(L:c6 P w K mg base "Walk" "asked" 1 ["self"] (cg K 1 lN))(T:c6 P w K mg base "Walk" "take" 4 ["self","told"] (qO K 2 "Walk" bH ji)):
  cc P w K mg base "told" 5 ["some","planes"] (cg K 2 Nl):=by
 refine df.of Df mM (by f_tup) rfl (λc A o s H E v=>⟨_,_,(aG (a5 (i:=2) mM.nd rfl (An rfl) (wg k (v.mono (by decide)) (by rfl) (ae (aV a_ (by rfl) B.len Bf (ae (pv 0) aD)) (ae (pv 1) aD))))
   (aG (a5 (i:=3) mM.nd rfl (An rfl) (aY g (v.mono (by decide)) (by rfl) (ae (pv 0) aD)))
   (aG (a5 (i:=4) mM.nd rfl (An rfl) (cV aD))
   (aG (kG AM (dq (cD (fq a (v.mono (by decide)) (pv 2)))) (aG (a5 (i:=5) mM.nd rfl (An rfl) (aY r (v.mono (by decide)) (by rfl) (ae (fq L (v.mono (by decide)) (pv 2)) (ae (cp (pv 2) rfl) (ae (pv 0) (ae (pv 3) aD))))))
   (aG (bY (gM Bj PySem.F.slot_list_append PySem.F.type_list_append dD (pv 4) (ae (rH (cD (pv 5)) fo fo) aD)))
   (aI (bY (eJ T (v.mono (by decide)) (pv 2) (ae (pv 5) aD)))))))
   (aI (aX (gM PySem.F.plainAttrs_str PySem.F.slot_str_join PySem.F.type_str_join WM fo (ae (pv 4) aD)))))))),
  (aU (bx (NG C (aA (bP cN (aH aC aP)) (aA aF aK))))
   (aU (bx (a8 (bV (a4 (aA aF aK)))))
   (aU (bx (dS cU))
   (aU (q_ (dR (fC (bV (gI C (by decide +kernel) aC aP)))) (aU (bx (a8 (bV (fO (aH (aM (bV (gI C (by decide +kernel) aC aP))) (aH (c_ (j:=0) C (by rfl) aC) (aH aC (aH aC aP))))))))
   (aU (Sf (a8 (Sv (fC aF) fk fk)))
   (gn C (by decide +kernel) (aA aF aK)))))
   (bt (a8 (V9 (aM fk) aC))))))),?_⟩)
 rintro ds Pr ⟨xs,n,bs,rfl,J,hn,hb,ht,h⟩;gn_on;refine⟨xs.length,n,rfl,rfl,hn,?_⟩;gp_on;gn_on;refine⟨xs,rfl,J,?_⟩;gp_on;gn_on;gp_on;gn_on;rw[AW];refine⟨λm δ=>∃(w:Wk) (rs ds:List Bool) (o:Option Sl),m=rs.length/\tD xs w rs/\ds++rs=bs/\δ=[a! (Sl.own (OV.fz (D.lst (Bo D.int xs)))),a! (Sl.own (OV.fz (D.int n))),a! (Sl.own (OV.ob a? (Bm "Walk") bH w.ts)),a! (Sl.own (OV.fz (D.lst (xs.map λx=>D.int (iV x))))),a! (Sl.own (OV.nl (ds.map λb=>OV.fz (D.str (jA b))))),o],⟨_,_,bs,[],a?,rfl,ht,rfl,rfl⟩,?_⟩;rintro m δ ⟨w,rs,ds,o,rfl,U,q,rfl⟩;fin2;refine⟨w,rfl,?_⟩;fin2
 cases U with
 |done hl=>
  rw[c? (by simp[hl])];gp_on;rw[A_]at q;subst q;fin2;refine⟨ds.map jA,by rw[AW,AW];rfl,?_,h⟩;have e:∀l:List Bool,((l.map jA).map (·.length)).sum=l.length:=by
   intro l
   induction l with
   |nil=>rfl
   |cons b l O=>
    rw[BU,BU,IZ,O,AQ,nJ];lia
  rw[e,Au];show ds.length+ds.length*0<=16777216
  lia
 | @step _ ah p u G z hf e Q h1 t=>
  rw[c! (by simp;omega)];refine⟨w,ah,p,by rw[OV.c7],e,hf,?_⟩;fin2;refine⟨Ym p,_,rfl,p,w.pl,xs,rfl,Q,J,G,z,?_⟩;have hl:ds.length<1000000:=by
   have:=congrArg Gp q;rw[AE]at this;lia
  fin2;refine⟨hl,?_⟩
  cases M:gs xs w.pl p with
  |true=>
   rw[M]at t h1 q;rw[c! rfl];refine⟨w,ah,p,b!,rfl,hf,rfl,e,G,z,h1,?_⟩;refine⟨u.length,by simp,_,u,ds++[b!],a! (Sl.own (OV.fz (D.bl b!))),rfl,t,by simpa using q,?_⟩;rw[Bc];rfl
  |false=>
   rw[M]at t h1 q;rw[c? (by decide)];refine⟨w,ah,p,b?,rfl,hf,rfl,e,G,z,h1,?_⟩;refine⟨u.length,by simp,_,u,ds++[b?],a! (Sl.own (OV.fz (D.bl b?))),rfl,t,by simpa using q,?_⟩;rw[Bc];rfl
theorem Uw:2^k<=x.natAbs↔k<iV x:=by
 unfold iV;split
 .rename_i h;subst h;simp
 .rw [<- Nat.le_log2 (by lia)];lia
def Kn (x:Int)(k:Nat)(lo hi:Int):Prop:=lo<=x/\x<=hi/\hi-lo=2^k-1/\((∃q:Int,0<q/\lo=q*2^k)∨(∃q:Int,0<q/\hi = -(q*2^k)))
theorem Zb {P:Prop}[Decidable P]:(b!=decide P)↔P:=by rw[eq_comm,decide_eq_true_eq]
theorem ä {P:Prop}[Decidable P]:(b?=decide P)↔¬ P:=by rw[eq_comm,decide_eq_false_iff_not]
theorem oZ (k:Nat):(0:Int)<2^k:=HH (by decide)
theorem og (k:Nat):(2:Int)^(k+1)=2*2^k:=by rw[J_,Es]
theorem Kn.le {lo:Int}(h:Kn x k lo hi):2^k<=(x.natAbs:Int):=by
 obtain⟨h1,h2,c,a⟩:=h;rcases a with⟨q,Q,rfl⟩ | ⟨q,Q,rfl⟩
 .have:1*2^k<=q*2^k:=BF (by lia) (by lia);lia
 .have:1*2^k<=q*2^k:=BF (by lia) (by lia);lia
theorem õ (hc:0<c)(U:∃q,u=q*c)(a:y=2*u+r)(h:r<2*c):y / c%2=1↔c<=r:=by
 obtain⟨q,rfl⟩:=U;have e:y / c=2*q+r / c:=by
  rw[a,show 2*(q*c)+r=r+2*q*c by rw[Nat.mul_assoc];lia,Nat.add_mul_div_right _ _ hc,J8]
 by_cases z:c<=r
 .have:r / c=1:=Nat.div_eq_of_lt_le (by (clear h;lia)) (by omega);clear h;lia
 .have:r / c=0:=Nat.div_eq_of_lt (by (clear h;lia));clear h;lia
theorem Kn.neg {lo:Int}(h:Kn x k lo hi):Kn (-x) k (-hi) (-lo):=by
 obtain⟨h1,h2,c,a⟩:=h;refine⟨Gq h2,Gq h1,by rw[<- c];lia,?_⟩;rcases a with⟨q,Q,e⟩ | ⟨q,Q,e⟩
 .exact .inr ⟨q,Q,by rw[e]⟩
 .exact .inl ⟨q,Q,by rw[e,Hd]⟩
theorem Um {lo:Int}:Kn (-x) k (-hi) (-lo)↔Kn x k lo hi:=⟨λh=>by have:=h.neg;rwa[Hd,Hd,Hd]at this,Kn.neg⟩
theorem Yo {lo:Int}(h1:lo<=x)(h2:x<=hi)(j:hi-lo=2^(k+1)-1)(o:0<q)(e:lo=q*2^(k+1)):
  lo > 0/\(Kn x k (lo+2^k) hi↔x.natAbs / 2^k%2=1)/\(Kn x k lo (hi-2^k)↔¬ x.natAbs / 2^k%2=1):=by
 have f:=Ji k;have h:(2:Int)^k=((2^k:Nat):Int):=rfl;unfold Kn;rw[og,h]at j e;rw[h];generalize (2^k:Nat)=c at *;obtain⟨Q,rfl⟩:∃n:Nat,q=n:=⟨q.toNat,(Ci (Kb o)).symm⟩
 have p:0<Q*c:=HE (Ja.mp o) f;have e':lo=((2*(Q*c):Nat):Int):=by rw[e];push_cast;rw[CQ]
 have f1:lo+(c:Int)=(2*(Q:Int)+1)*c:=by rw[e,Gu,DB,CQ,JU]
 have f2:lo=2*(Q:Int)*c:=by rw[e,DB,CQ]
 generalize M:Q*c=m at p e';obtain⟨a,rfl⟩:∃n:Nat,x=n:=⟨x.toNat,(Ci (by lia)).symm⟩
 have key:=õ (y:=a) (r:=a-2*m) f ⟨Q,M.symm⟩ (by clear h2 j f1 f2;omega) (by clear f1 f2;lia);rw[Int.natAbs_natCast,key];have t:(0:Int)<2*(Q:Int)+1:=by clear f1 f2;lia
 have l:(0:Int)<2*(Q:Int):=by clear f1 f2;lia
 have g1:lo+(c:Int)<=a↔c<=a-2*m:=by clear h2 j f1 f2;omega
 have g2:(a:Int)<=hi-c↔¬ c<=a-2*m:=by clear f1 f2;lia
 exact⟨by rw[f2];exact HI l (Ja.mpr f),⟨λg=>g1.mp g.1,λg=>⟨g1.mpr g,h2,by lia,.inl ⟨_,t,f1⟩⟩⟩,⟨λg=>g2.mp g.2.1,λg=>⟨h1,g2.mpr g,by lia,.inl ⟨_,l,f2⟩⟩⟩⟩
theorem Kn.bS {x:Int}{k:Nat}{p:Pa}{b:Bool}(h:Kn x (k+1) p.lo p.hi):Kn x k (p.bS k b).lo (p.bS k b).hi↔b=decide (x.natAbs / 2^k%2=1):=by
 obtain⟨h1,h2,c,g⟩:=h;unfold Pa.bS;rcases g with⟨q,Q,e⟩ | ⟨q,Q,e⟩
 .obtain ⟨f,A,a⟩:=Yo h1 h2 c Q e;rw[decide_eq_true f]
  cases b with
  |true=>rw[c! rfl,Zb,<- A]
  |false=>rw[c? (by decide),ä,<- a]
 .obtain ⟨f,A,a⟩:=Yo (x:=-x) (lo:=-p.hi) (hi:=-p.lo) (Gq h2) (Gq h1) (by rw[<- c];lia) Q (by rw[e,Hd]);have hd:decide (p.lo > 0)=false:=decide_eq_false (by lia);rw[hd];rw[JB,show -p.hi+2^k = -(p.hi-2^k) by lia,Um]at A;rw[JB,show -p.lo-2^k = -(p.lo+2^k) by lia,Um]at a
  cases b with
  |true=>rw[c? (by decide),Zb,<- A]
  |false=>rw[c! rfl,ä,<- a]
theorem Kn.signed {x:Int}{k:Nat}{p:Pa}{b:Bool}(h1:2^k<=x.natAbs)(h2:x.natAbs<2^(k+1)):Kn x k (p.signed k b).lo (p.signed k b).hi↔b=decide (x<0):=by
 have h:(2:Int)^k=((2^k:Nat):Int):=rfl;rw[J7]at h2;unfold Kn Pa.signed
 cases b with
 |true=>
  rw[c! rfl,Zb];dsimp only;constructor
  .rintro ⟨_,g1,_⟩;omega
  .intro g;exact⟨by lia,by lia,by lia,.inr ⟨1,by lia,by lia⟩⟩
 |false=>
  rw[c? (by decide),ä];dsimp only;constructor
  .rintro ⟨g1,_⟩;lia
  .intro g;exact⟨by lia,by lia,by lia,.inl ⟨1,by lia,by lia⟩⟩
def zh (k:Nat)(lo hi:Int):Prop:=hi-lo=2^k-1/\((∃q:Int,0<q/\lo=q*2^k)∨(∃q:Int,0<q/\hi = -(q*2^k)))
def Ĝ (k:Nat)(p:Pa):Prop:=0<=p.s/\p.s<p.e/\((p.a=3/\p.e=p.s+1/\zh k p.lo p.hi)∨(p.a=0/\p.lo=1-2^k/\p.hi=2^k-1))
def Vr (k:Nat)(p:Pa):Prop:=0<=p.s/\p.s<p.e/\((p.a=3/\p.e=p.s+1/\zh k p.lo p.hi)∨((p.a=0∨p.a=1)/\p.lo=1-2^k/\p.hi=2^k-1)∨(p.a=2/\p.e=p.s+1/\p.lo=1-2^k/\p.hi=2^k-1))
def uo (xs:List Int)(k:Nat)(s e:Int):Prop:=∀i:Nat,s<=i->(i:Int)<e->(xs.getD i 0).natAbs<2^k
def zr (xs:List Int)(k:Nat)(s e:Int):Prop:=∃i:Nat,s<=i/\(i:Int)<e/\2^k<=(xs.getD i 0).natAbs
def CW (xs:List Int)(k:Nat)(p:Pa):Prop:=(p.a=3->p.lo<=xs.getD p.s.toNat 0/\xs.getD p.s.toNat 0<=p.hi)/\(p.a=0->uo xs k p.s p.e)
def CA (xs:List Int)(k:Nat)(p:Pa):Prop:=(p.a=3->p.lo<=xs.getD p.s.toNat 0/\xs.getD p.s.toNat 0<=p.hi)/\(p.a≠3->uo xs (k+1) p.s p.e)/\(p.a=2->zr xs k p.s p.e)
theorem m6:¬ uo xs k s e↔zr xs k s e:=by
 constructor
 .intro h;exact LA λz=>h λi h1 h2=>IW λy=>z ⟨i,h1,h2,y⟩
 .rintro ⟨i,h1,h2,a⟩ h;have:=h i h1 h2;lia
theorem uo.mono (h:uo xs k s e)(hl:k<=l):uo xs l s e:=λi h1 h2=>AS (h i h1 h2) (Ft (by decide) hl)
theorem uo.split (h1:s<=m)(h2:m<=e):uo xs k s e↔uo xs k s m/\uo xs k m e:=by
 constructor
 .intro h;exact⟨λi a b=>h i a (by lia),λi a b=>h i (by lia) b⟩
 .rintro ⟨a,b⟩ i c d;by_cases z:(i:Int)<m
  .exact a i c z
  .exact b i (by lia) d
theorem zr.split (h1:s<=m)(h2:m<=e):zr xs k s e↔zr xs k s m∨zr xs k m e:=by
 rw[<- m6,uo.split h1 h2,<- m6,<- m6];refine⟨λz=>(Lz _).elim (λa=>.inr λb=>z ⟨a,b⟩) .inl,λz f=>?_⟩;obtain⟨a,b⟩:=f;exact z.elim (λc=>c a) λc=>c b
theorem Xy {xs:List Int}{k:Nat}{p:Pa}(l:p.a≠3)(h2:p.a≠2)(m:0<=p.s)(h1:p.s<p.e)(j:p.e<=(xs.length:Int)):gs xs (k:Int) p=b!↔zr xs k p.s p.e:=by
 unfold gs zr;rw[c? l,c? h2,FP];constructor
 .rintro ⟨x,f,g⟩;obtain⟨i,hi⟩:=DY.mp f;have h:=(Ab.mp hi).1;rw[BE]at h
  replace h:=(KQ.mp h).1
  rw[Cq h,FJ]at hi
  replace h:=Nat.add_lt_of_lt_sub h
  refine⟨p.s.toNat+i,by lia,by lia,?_⟩;rw[Ak,hi];show 2^k<=x.natAbs
  exact Uw.mpr (by have:=of_decide_eq_true g;lia)
 .rintro ⟨i,a,b,c⟩;refine⟨xs.getD i 0,DY.mpr ⟨i-p.s.toNat,?_⟩,decide_eq_true (by have:=Uw.mp c;lia)⟩;rw[Cq (by (clear c;omega)),FJ,show p.s.toNat+(i-p.s.toNat)=i by (clear m j c;lia),Ak,Ad (by lia)];rfl
theorem oB {lo:Int}:Kn x k lo hi↔zh k lo hi/\lo<=x/\x<=hi:=by
 constructor
 .rintro ⟨a,b,c,d⟩;exact⟨⟨c,d⟩,a,b⟩
 .rintro ⟨⟨c,d⟩,a,b⟩;exact⟨a,b,c,d⟩
theorem zh.bS {k:Nat}{p:Pa}{b:Bool}(h:zh (k+1) p.lo p.hi):zh k (p.bS k b).lo (p.bS k b).hi/\p.lo<=(p.bS k b).lo/\(p.bS k b).hi<=p.hi:=by
 obtain⟨f,a⟩:=h;rw[og]at f a;have g:=oZ k;unfold zh Pa.bS;generalize (2:Int)^k=c at *;split
 .rename_i B;dsimp only;refine⟨⟨by lia,?_⟩,by lia,by lia⟩;rcases a with⟨q,Q,e⟩ | ⟨q,Q,e⟩
  .exact .inl ⟨2*q+1,by lia,by rw[e,Gu,CQ,DB];lia⟩
  .exact .inr ⟨2*q,by lia,by rw[e,CQ,DB]⟩
 .rename_i B;dsimp only;refine⟨⟨by lia,?_⟩,by lia,by lia⟩;rcases a with⟨q,Q,e⟩ | ⟨q,Q,e⟩
  .exact .inl ⟨2*q,by lia,by rw[e,CQ,DB]⟩
  .exact .inr ⟨2*q+1,by lia,by rw[e,Gu,CQ,DB];lia⟩
theorem zh.signed {k:Nat}{p:Pa}{b:Bool}:zh k (p.signed k b).lo (p.signed k b).hi:=by
 unfold zh Pa.signed;split
 .exact ⟨by dsimp only;lia,.inr ⟨1,by lia,by dsimp only;lia⟩⟩
 .exact ⟨by dsimp only;lia,.inl ⟨1,by lia,by dsimp only;lia⟩⟩
theorem Xh {xs:List Int}{k:Nat}{p:Pa}{b:Bool}(c:p.a=3)(f:zh (k+1) p.lo p.hi):CW xs k (p.bS k b)↔CA xs k p/\b=gs xs (k:Int) p:=by
 have g:gs xs (k:Int) p=decide ((xs.getD p.s.toNat 0).natAbs / 2^k%2=1):=by
  unfold gs;rw[c! c];rfl
 have A:(p.bS k b).a=3/\(p.bS k b).s=p.s/\(p.bS k b).e=p.e:=by unfold Pa.bS;split<;>exact⟨rfl,rfl,rfl⟩
 obtain⟨g1,g2,g3⟩:=f.bS (b:=b);rw[g];unfold CW CA;rw[A.1,A.2.1];generalize xs.getD p.s.toNat 0=x;constructor
 .rintro ⟨h,_⟩;obtain⟨l,j⟩:=h rfl;have n:Kn x (k+1) p.lo p.hi:=oB.mpr ⟨f,by lia,by lia⟩;exact⟨⟨λ_=>⟨by lia,by lia⟩,λz=>absurd c z,λz=>by rw[c]at z;cases z⟩,n.bS.mp (oB.mpr ⟨g1,l,j⟩)⟩
 .rintro ⟨⟨h,_,_⟩,B⟩;have n:Kn x (k+1) p.lo p.hi:=oB.mpr ⟨f,h c⟩;exact⟨λ_=>(oB.mp (n.bS.mpr B)).2,λz=>by cases z⟩
theorem NY (h:0<=s):uo xs k s (s+1)↔(xs.getD s.toNat 0).natAbs<2^k:=by
 constructor
 .intro z;exact z s.toNat (by lia) (by lia)
 .intro z i a b;rw[show i=s.toNat by (clear z;lia)];exact z
theorem Wu (h:0<=s):zr xs k s (s+1)↔2^k<=(xs.getD s.toNat 0).natAbs:=by
 rw[<- m6,NY h];lia
theorem VP (h2:p.a=2)(c:0<=p.s)(j:p.e=p.s+1):CW xs k (p.signed k b)↔CA xs k p/\b=gs xs (k:Int) p:=by
 have m:gs xs (k:Int) p=decide (xs.getD p.s.toNat 0<0):=by
  unfold gs;rw[c? (by rw[h2];decide),c! h2]
 have f:(p.signed k b).a=3/\(p.signed k b).s=p.s/\(p.signed k b).e=p.e:=by unfold Pa.signed;split<;>exact⟨rfl,rfl,rfl⟩
 rw[m];unfold CW CA;rw[f.1,f.2.1,j];simp only[NY c,Wu c];generalize xs.getD p.s.toNat 0=x;constructor
 .rintro ⟨h,_⟩;have n:Kn x k (p.signed k b).lo (p.signed k b).hi:=oB.mpr ⟨zh.signed,h trivial⟩;have L:2^k<=x.natAbs:=by
   have:=n.le
   exact_mod_cast this
  have l:x.natAbs<2^(k+1):=by
   obtain⟨g,A⟩:=h trivial;have hc:(2:Int)^k=((2^k:Nat):Int):=rfl;rw[J7];unfold Pa.signed at g A;split at g
   .rename_i z;rw[c! z]at A;dsimp only at g A;clear h2 c j f;lia
   .rename_i z;rw[c? z]at A;dsimp only at g A;clear h2 c j f;lia
  exact⟨⟨(λz=>by rw[h2]at z;cases z),λ_=>l,λ_=>L⟩,(Kn.signed L l).mp n⟩
 .rintro ⟨⟨_,l,L⟩,B⟩;exact⟨λ_=>(oB.mp ((Kn.signed (L h2) (l (by rw[h2];decide))).mpr B)).2,λz=>by cases z⟩
theorem ī:(b!=b)↔b=true:=eq_comm
theorem Ŧ:(b?=b)↔¬ b=true:=by cases b<;>simp
def pW (xs:List Int)(k:Nat)(ah:List Pa):Prop:=∀r q p,ah=r++[q,p]->p.a=1->zr xs k p.s q.e
def Vs (xs:List Int)(k:Nat)(ah:List Pa):Prop:=(∀p∈ah,CA xs k p)/\pW xs k ah
theorem mY (h:p.a≠1):pW xs k (ah++[p]):=λr q c e h'=>by
 have:ah++[p]=(r++[q])++[c]:=by rw[e];simp
 obtain⟨_,f⟩:=EW this rfl;rw[E_ f |>.1]at h;exact absurd h' h
theorem lq (h:∀z∈ah,z.a≠1):pW xs k ah:=λr q p e h'=>absurd h' (h p (by rw[e];simp))
theorem rJ (h:p.a=1):pW xs k (ah++[q,p])↔zr xs k p.s q.e:=by
 constructor
 .intro z;exact z ah q p rfl h
 .intro z r q' g e _;obtain⟨_,f⟩:=EW e rfl;obtain⟨a,b⟩:=E_ f;obtain⟨c,_⟩:=E_ b;rw[<- a,<- c];exact z
theorem xw {w:Wk}(l:0<=q.s)(h1:q.s<q.e)(hn:∀z∈w.ah,z.a≠1):
  Vs xs k (w.wake q).ah↔(∀z∈w.ah,CA xs k z)/\uo xs (k+1) q.s q.e/\zr xs k q.s q.e:=by
 unfold Wk.wake Vs;split
 .dsimp only;have f:pW xs k (w.ah++[⟨2,q.s,q.e,q.lo,q.hi⟩]):=mY (by show ¬ (2:Int)=1;decide);have hc:CA xs k ⟨2,q.s,q.e,q.lo,q.hi⟩↔uo xs (k+1) q.s q.e/\zr xs k q.s q.e:=by
   unfold CA;dsimp only;exact⟨λz=>⟨z.2.1 (by decide),z.2.2 rfl⟩,λz=>⟨λy=>absurd y (by decide),λ_=>z.1,λ_=>z.2⟩⟩
  rw[Br,Bg,hc];exact⟨λz=>z.1,λz=>⟨z,f⟩⟩
 .dsimp only;have g:q.s<(q.s+q.e) / 2:=by lia
  have M:(q.s+q.e) / 2<q.e:=by lia
  generalize (q.s+q.e) / 2=m at g M;have hc:∀(a s e:Int),a≠3->a≠2->(CA xs k ⟨a,s,e,q.lo,q.hi⟩↔uo xs (k+1) s e):=by
   intro a s e n j;unfold CA;exact⟨λz=>z.2.1 n,λz=>⟨λy=>absurd y n,λ_=>z,λy=>absurd y j⟩⟩
  have f:=rJ (xs:=xs) (k:=k) (ah:=w.ah) (q:=⟨0,m,q.e,q.lo,q.hi⟩) (p:=⟨1,q.s,m,q.lo,q.hi⟩) rfl;rw[f,Br,BK,Bg,hc _ _ _ (by decide) (by decide),hc _ _ _ (by decide) (by decide)];have h:=uo.split (xs:=xs) (k:=k+1) (s:=q.s) (m:=m) (e:=q.e) (by lia) (by lia);exact⟨λ⟨⟨a,b,c⟩,d⟩=>⟨a,h.mpr ⟨c,b⟩,d⟩,λ⟨a,C,d⟩=>⟨⟨a,(h.mp C).2,(h.mp C).1⟩,d⟩⟩
theorem M1 (w:Wk)(q:Pa):(w.wake q).wk=w.wk/\(w.wake q).pl=w.pl/\(w.wake q).us=w.us/\(w.wake q).re=w.re:=by
 unfold Wk.wake;split<;>exact⟨rfl,rfl,rfl,rfl⟩
structure Ϻ (ah:List Pa) (p:Pa):Prop where
 no:∀z∈ah,z.a≠1
 zL:p.a=1->∃r q,ah=r++[q]/\q.a=0/\q.s=p.e/\q.s<q.e/\0<=q.s
def xq (xs:List Int)(k:Nat)(w:Wk):Prop:=(∀p∈w.wk,CW xs k p)/\Vs xs k w.ah
theorem xC {xs:List Int}{k:Nat}{w:Wk}{ah:List Pa}{p:Pa}{b:Bool}(U:w.pl=k)(e:w.ah=ah++[p])(hs:Vr (k+1) p)(hb:Ϻ ah p)(J:p.e<=(xs.length:Int)):
  xq xs k (w.step ah p b)↔xq xs k w/\b=gs xs (k:Int) p:=by
 obtain⟨h0,h1,h2⟩:=hs;have G:w.pl.toNat=k:=by lia
 have O:=hb.no;have t:pW xs k ah:=lq O;unfold Wk.step xq;rw[e];by_cases C:p.a=3
 .rw [c! C,G];dsimp only;have o:zh (k+1) p.lo p.hi:=by
   rcases h2 with z |z |z
   .exact z.2.2
   .rcases z.1 with y |y<;>rw[C]at y<;>cases y
   .rw [C]at z;cases z.1
  have u:pW xs k (ah++[p]):=mY (by rw[C];decide);unfold Vs;rw[Br,Bg,Xh C o,Br,Bg];exact⟨λ⟨⟨a,b,c⟩,d,_⟩=>⟨⟨a,⟨d,b⟩,u⟩,c⟩,λ⟨⟨a,⟨d,b⟩,_⟩,c⟩=>⟨⟨a,b,c⟩,d,t⟩⟩
 .rw [c? C];by_cases j:p.a=2
  .rw [c! j,G];dsimp only;have o:p.e=p.s+1:=by
    rcases h2 with z |z |z
    .rw [j]at z;cases z.1
    .rcases z.1 with y |y<;>rw[j]at y<;>cases y
    .exact z.2.1
   have u:pW xs k (ah++[p]):=mY (by rw[j];decide);unfold Vs;rw[Br,Bg,VP j h0 o,Br,Bg];exact⟨λ⟨⟨a,b,c⟩,d,_⟩=>⟨⟨a,⟨d,b⟩,u⟩,c⟩,λ⟨⟨a,⟨d,b⟩,_⟩,c⟩=>⟨⟨a,b,c⟩,d,t⟩⟩
  .rw [c? j];have h:=Xy (xs:=xs) (k:=k) C j h0 h1 J;have A:CA xs k p↔uo xs (k+1) p.s p.e:=by
    unfold CA;exact⟨λz=>z.2.1 C,λz=>⟨λy=>absurd y C,λ_=>z,λy=>absurd y j⟩⟩
   cases b with
   |true=>
    rw[c! rfl,(M1 _ _).1,xw h0 h1 O,ī,h];unfold Vs;rw[Br,Bg,A];constructor
    .rintro ⟨a,d,l,g⟩;refine⟨⟨a,⟨d,l⟩,?_⟩,g⟩;by_cases f:p.a=1
     .obtain ⟨r,q,rfl,_,q2,q3,_⟩:=hb.zL f;rw[BN];refine (rJ f).mpr ?_;obtain⟨i,i1,i2,i3⟩:=g;exact⟨i,i1,by (clear U J G i3;lia),i3⟩
     .exact mY f
    .rintro ⟨⟨a,⟨d,l⟩,_⟩,g⟩;exact⟨a,d,l,g⟩
   |false=>
    rw[c? (by decide),Ŧ,h];have v:∀lo hi:Int,CW xs k ⟨0,p.s,p.e,lo,hi⟩↔uo xs k p.s p.e:=by
     intro lo hi;unfold CW;dsimp only;exact⟨λz=>z.2 rfl,λz=>⟨λy=>absurd y (by decide),λ_=>z⟩⟩
    have L:uo xs k p.s p.e↔uo xs (k+1) p.s p.e/\¬ zr xs k p.s p.e:=by
     rw[<- m6,Ly];exact⟨λz=>⟨z.mono (by lia),z⟩,λz=>z.2⟩
    unfold Wk.calm;by_cases f:p.a=1
    .rw [c! f];obtain⟨r,q,rfl,Q,q2,q3,q0⟩:=hb.zL f;have B:CA xs k q↔uo xs (k+1) q.s q.e:=by
      unfold CA;exact⟨λz=>z.2.1 (by rw[Q];decide),λz=>⟨(λy=>by rw[Q]at y;cases y),λ_=>z,(λy=>by rw[Q]at y;cases y)⟩⟩
     have T:pW xs k (r++[q]++[p])↔zr xs k p.s q.e:=by rw[BN];exact rJ f
     have ė:=zr.split (xs:=xs) (k:=k) (s:=p.s) (m:=p.e) (e:=q.e) (by (clear U J G;lia)) (by (clear U J G;lia));rw[(M1 _ _).1,xw (by rw[CM];exact q0) (by rw[CM];exact q3) (by
      dsimp only;rw[Dk];exact λz hz=>O z (by simp[hz]))]
     unfold Wk.walked Vs;dsimp only;rw[Dk,CM,Br,Bg,v,L,T,ė,Br,Bg,Br,Bg,A,B,<- q2];constructor
     .rintro ⟨⟨a,l,n⟩,d,M,bq⟩;exact⟨⟨a,⟨⟨d,M⟩,l⟩,.inr bq⟩,n⟩
     .rintro ⟨⟨a,⟨⟨d,M⟩,l⟩,pb⟩,n⟩;exact⟨⟨a,l,n⟩,d,M,pb.elim (λz=>absurd z n) id⟩
    .rw [c? f];unfold Wk.walked Vs;dsimp only;have u:pW xs k (ah++[p]):=mY f;rw[Br,Bg,v,L,Br,Bg,A];exact⟨λ⟨⟨a,l,n⟩,d,_⟩=>⟨⟨a,⟨d,l⟩,u⟩,n⟩,λ⟨⟨a,⟨d,l⟩,_⟩,n⟩=>⟨⟨a,l,n⟩,d,t⟩⟩
def dt (xs:List Int)(w:Wk):Prop:=xq xs w.pl.toNat w
theorem qB {w:Wk}(l:0<=w.pl)(A:w.ah=[])(j:∀p∈w.wk,p.a=0∨p.a=3):dt xs w.turn↔dt xs w:=by
 unfold dt Wk.turn;split
 .dsimp only;obtain⟨k,g⟩:∃k:Nat,w.pl=k+1:=⟨(w.pl-1).toNat,by omega⟩
  rw[g,show ((k:Int)+1-1).toNat=k by lia];unfold xq Vs;rw[A];have h:pW xs k w.wk.reverse:=lq λz c=>by
   rcases j z (by simpa using c) with y |y<;>rw[y]<;>decide
  have f:pW xs (k+1) ([]:List Pa):=lq λz c=>by cases c
  have hc:∀p∈w.wk,(CA xs k p↔CW xs (k+1) p):=by
   intro p h;unfold CA CW;rcases j p h with y |y
   .rw [y];exact⟨λz=>⟨z.1,λ_=>z.2.1 (by decide)⟩,λz=>⟨z.1,λ_=>z.2 rfl,λy=>absurd y (by decide)⟩⟩
   .rw [y];exact⟨λz=>⟨z.1,λy=>absurd y (by decide)⟩,λz=>⟨z.1,λy=>absurd rfl y,λy=>absurd y (by decide)⟩⟩
  constructor
  .rintro ⟨_,a,_⟩;exact⟨λp h=>(hc p h).mp (a p (by simpa using h)),(λp h=>by cases h),f⟩
  .rintro ⟨a,_,_⟩;exact⟨(λp h=>by cases h),λp q=>(hc p (by simpa using q)).mpr (a p (by simpa using q)),h⟩
 .dsimp only;have e:w.pl=0:=by lia
  rw[e];exact Kd
theorem rl {w:Wk}(e:0<=w.pl)(h:∀p∈w.wk,p.a=0∨p.a=3):dt xs w.dW↔dt xs w:=by
 unfold Wk.dW;split
 .rename_i c;exact qB (w:={w with re:=w.re++[w.us]}) e c h
 .exact Kd
def ei:Int->List Pa->Int->Prop
 |a,[],b=>a=b
 |a,p::ps,b=>p.s=a/\p.s<p.e/\ei p.e ps b
theorem oI:∀{ps q:List Pa},ei a (ps++q) b↔∃c,ei a ps c/\ei c q b
 | [],q=>by
  constructor
  .intro h;exact⟨a,rfl,h⟩
  .rintro ⟨c,h1,h2⟩;cases (show a=c from h1);exact h2
 |p::ps,q=>by
  show (p.s=a/\p.s<p.e/\ei p.e (ps++q) b)↔∃c,(p.s=a/\p.s<p.e/\ei p.e ps c)/\ei c q b
  rw[oI];constructor
  .rintro ⟨h1,h2,c,g,f⟩;exact⟨c,⟨h1,h2,g⟩,f⟩
  .rintro ⟨c,⟨h1,h2,g⟩,f⟩;exact⟨h1,h2,c,g,f⟩
theorem fQ:∀{ps:List Pa} {a b:Int},ei a ps b->a+ps.length<=b
 | [],a,b,h=>by cases (show a=b from h);simp
 |p::ps,a,b,⟨h1,h2,c⟩=>by
  have:=fQ c;simp only[AQ];lia
theorem iZ:∀{ps:List Pa} {a b:Int} {p:Pa},ei a ps b->p∈ps->a<=p.s/\p.s<p.e/\p.e<=b
 | [],_,_,_,_,c=>by cases c
 |q :: ps,a,b,p,h,c=>by
  obtain⟨h1,h2,f⟩:=h;rcases AJ.mp c with rfl |c
  .have:=fQ f;exact⟨by lia,h2,by lia⟩
  .have:=iZ f c;exact⟨by lia,this.2.1,this.2.2⟩
theorem mn (h:ei a (xs++p::ys) b)(g:f.s=p.s)(j:f.e=p.e):ei a (xs++f::ys) b:=by
 rw[oI]at h ⊢;obtain⟨c,h1,h2,l,k⟩:=h;exact⟨c,h1,by rw[g];exact h2,by rw[g,j];exact l,by rw[j];exact k⟩
theorem yV (h:ei a (xs++p::ys) b)(h1:g.s=p.s)(h2:g.e=f.s)(l:f.e=p.e)(k:g.s<g.e)(j:f.s<f.e):ei a (xs++g::f::ys) b:=by
 rw[oI]at h ⊢;obtain⟨c,g1,g2,g3,G⟩:=h;exact⟨c,g1,by rw[h1];exact g2,k,h2.symm,j,by rw[l];exact G⟩
structure OI (m:Int) (k:Nat) (w:Wk):Prop where
 ch:ei 0 (w.wk++w.ah.reverse) m
 wk:∀p∈w.wk,Ĝ k p
 ah:∀p∈w.ah,Vr (k+1) p
 zL:∀ah p,w.ah=ah++[p]->Ϻ ah p
theorem Zj (hn:∀z∈ah,z.a≠1)(f:p.a≠1):∀h c,ah++[p]=h++[c]->Ϻ h c:=λh c e=>by
 obtain⟨rfl,g⟩:=EW e rfl;cases g;exact⟨hn,λz=>absurd z f⟩
theorem Nx (hn:∀z∈ah,z.a≠1):∀h p,ah=h++[p]->Ϻ h p:=λh p e=>
 ⟨λz c=>hn z (by rw[e];simp[c]),λz=>absurd z (hn p (by rw[e];simp))⟩
theorem qy {w:Wk}(j:0<=q.s)(h1:q.s<q.e)(Q:q.lo=1-2^(k+1)/\q.hi=2^(k+1)-1)(hc:ei 0 (w.wk++q::w.ah.reverse) m)(hw:∀p∈w.wk,Ĝ k p)(g:∀p∈w.ah,Vr (k+1) p)(hn:∀z∈w.ah,z.a≠1):OI m k (w.wake q):=by
 unfold Wk.wake;split
 .refine ⟨?_,hw,?_,?_⟩
  .rw [EJ];exact mn hc rfl rfl
  .intro p f;rcases AB.mp f with z |z
   .exact g p z
   .rw [AV.mp z];exact⟨j,h1,.inr (.inr ⟨rfl,by show q.e=q.s+1;lia,Q.1,Q.2⟩)⟩
  .exact Zj hn (by show ¬ (2:Int)=1;decide)
 .have c:q.s<(q.s+q.e) / 2:=by lia
  have h:(q.s+q.e) / 2<q.e:=by lia
  generalize (q.s+q.e) / 2=M at c h;refine⟨?_,hw,?_,?_⟩
  .rw [EJ];exact yV hc rfl rfl rfl c h
  .intro p f;rcases AB.mp f with z |z
   .exact g p z
   .rcases AJ.mp z with z |z
    .rw [z];exact⟨by show 0<=M;lia,h,.inr (.inl ⟨.inl rfl,Q.1,Q.2⟩)⟩
    .rw [AV.mp z];exact⟨j,c,.inr (.inl ⟨.inr rfl,Q.1,Q.2⟩)⟩
  .intro A l e;have e':(w.ah++[⟨0,M,q.e,q.lo,q.hi⟩])++[⟨1,q.s,M,q.lo,q.hi⟩]=A++[l]:=by rw[BN];exact e
   obtain⟨rfl,o⟩:=EW e' rfl;cases o;refine⟨λz n=>?_,λ_=>⟨w.ah,_,rfl,rfl,rfl,h,by show 0<=M;lia⟩⟩;rcases AB.mp n with y |y
   .exact hn z y
   .rw [AV.mp y];show ¬ (0:Int)=1;decide
theorem lZ {w:Wk}(S:OI m k w)(O:w.pl=k)(e:w.ah=ah++[p]):OI m k (w.step ah p b):=by
 have o:w.pl.toNat=k:=by lia
 have B:=S.zL ah p e;have A:∀z∈ah,Vr (k+1) z:=λz h=>S.ah z (by rw[e];simp[h])
 obtain⟨n,h1,h2⟩:=S.ah p (by rw[e];simp);have hc:=S.ch;rw[e,EJ]at hc;have put:∀g:Pa,g.s=p.s->g.e=p.e->Ĝ k g->OI m k {w with us:=w.us+1,ah:=ah,wk:=w.wk++[g]}:=λg G L hw=>by
  refine⟨?_,λz h=>?_,A,Nx B.no⟩
  .rw [BN];exact mn hc G L
  .rcases AB.mp h with y |y
   .exact S.wk z y
   .rw [AV.mp y];exact hw
 unfold Wk.step;by_cases C:p.a=3
 .rw [c! C,o];have c:p.e=p.s+1/\zh (k+1) p.lo p.hi:=by
   rcases h2 with z |z |z
   .exact z.2
   .rcases z.1 with y |y<;>rw[C]at y<;>cases y
   .rw [C]at z;cases z.1
  have f:(p.bS k b).a=3/\(p.bS k b).s=p.s/\(p.bS k b).e=p.e:=by unfold Pa.bS;split<;>exact⟨rfl,rfl,rfl⟩
  exact put _ f.2.1 f.2.2 ⟨by rw[f.2.1];exact n,by rw[f.2.1,f.2.2];exact h1,.inl ⟨f.1,by rw[f.2.1,f.2.2];exact c.1,(c.2.bS).1⟩⟩
 .rw [c? C];by_cases j:p.a=2
  .rw [c! j,o];have c:p.e=p.s+1:=by
    rcases h2 with z |z |z
    .rw [j]at z;cases z.1
    .rcases z.1 with y |y<;>rw[j]at y<;>cases y
    .exact z.2.1
   have f:(p.signed k b).a=3/\(p.signed k b).s=p.s/\(p.signed k b).e=p.e:=by unfold Pa.signed;split<;>exact⟨rfl,rfl,rfl⟩
   exact put _ f.2.1 f.2.2 ⟨by rw[f.2.1];exact n,by rw[f.2.1,f.2.2];exact h1,.inl ⟨f.1,by rw[f.2.1,f.2.2];exact c,zh.signed⟩⟩
  .rw [c? j];have l:p.lo=1-2^(k+1)/\p.hi=2^(k+1)-1:=by
    rcases h2 with z |z |z
    .exact absurd z.1 C
    .exact z.2
    .exact absurd z.1 j
   split
   .exact qy n h1 l hc S.wk A B.no
   .have hw:Ĝ k ⟨0,p.s,p.e,1-2^k,2^k-1⟩:=⟨n,h1,.inr ⟨rfl,rfl,rfl⟩⟩
    unfold Wk.calm;by_cases t:p.a=1
    .rw [c! t];obtain⟨r,q,rfl,Q,M,u,v⟩:=B.zL t;have J:q.lo=1-2^(k+1)/\q.hi=2^(k+1)-1:=by
      rcases (A q (by simp)).2.2 with z |z |z
      .rw [Q]at z;cases z.1
      .exact z.2
      .rw [Q]at z;cases z.1
     unfold Wk.walked;rw[Dk,CM,o];refine qy v u J ?_ (λz h=>?_) (λz h=>A z (by simp[h])) λz h=>B.no z (by simp[h])
     .rw [EJ]at hc;rw[BN];exact mn hc rfl rfl
     .rcases AB.mp h with y |y
      .exact S.wk z y
      .rw [AV.mp y];exact hw
    .rw [c? t];rw[o];exact put _ rfl rfl hw
theorem qx {w:Wk}(S:OI m k w):∀p∈w.wk,p.a=0∨p.a=3:=λp h=>by
 rcases (S.wk p h).2.2 with z |z
 .exact .inr z.1
 .exact .inl z.1
structure kZ (m:Int) (w:Wk):Prop where
 sh:OI m w.pl.toNat w
 ne:0<=w.pl->w.ah≠[]
 wh:w.pl<0->w.pl = -1/\w.ah=[]
theorem qA {w:Wk}(M:0<m)(S:OI m k w)(g:w.pl=k)(a:w.ah=[]):kZ m w.turn:=by
 have hc:=S.ch;rw[a]at hc;have hc:ei 0 (w.wk++[]) m:=hc;rw[A_]at hc;have n:w.wk≠[]:=λz=>by
  rw[z]at hc;have:(0:Int)=m:=hc;lia
 unfold Wk.turn;split
 .obtain ⟨j,rfl⟩:∃j,k=j+1:=⟨k-1,by lia⟩
  have e:(w.pl-1).toNat=j:=by lia
  refine⟨?_,λ_=>by simpa using n,λz=>?_⟩
  .rw [e];refine⟨?_,(λp h=>by cases h),λp h=>?_,?_⟩
   .rw [List.reverse_reverse];exact hc
   .have hw:=S.wk p (by simpa using h);refine⟨hw.1,hw.2.1,?_⟩;rcases hw.2.2 with z |z
    .exact .inl z
    .exact .inr (.inl ⟨.inl z.1,z.2⟩)
   .refine Nx λz c=>?_
    rcases qx S z (by simpa using c) with y |y<;>rw[y]<;>decide
  .have:w.pl-1<0:=z;lia
 .have f:k=0:=by lia
  subst f;refine⟨?_,λz=>?_,λ_=>⟨by show w.pl-1 = -1;lia,a⟩⟩
  .rw [show (w.pl-1).toNat=0 by lia];exact⟨S.ch,S.wk,S.ah,S.zL⟩
  .have:0<=w.pl-1:=z;lia
theorem ju {w:Wk}(h:0<m)(S:OI m k w)(a:w.pl=k):kZ m w.dW:=by
 unfold Wk.dW;split
 .rename_i c;exact qA (w:={w with re:=w.re++[w.us]}) h ⟨S.ch,S.wk,S.ah,S.zL⟩ a c
 .rename_i c;refine⟨by rw[show w.pl.toNat=k by lia];exact S,λ_=>c,λz=>by lia⟩
theorem oR (M:0<m)(n:Nat):kZ m (Wk.turn ⟨n,0,[],[⟨0,0,m,1-2^n,2^n-1⟩],[]⟩):=by
 refine qA M ⟨⟨rfl,M,rfl⟩,λp h=>?_,(λp h=>by cases h),λah p e=>?_⟩ rfl rfl
 .rw [AV.mp h];exact⟨Bh 0,M,.inr ⟨rfl,rfl,rfl⟩⟩
 .have:=congrArg Gp e;simp at this
theorem vw {w:Wk}:(w.step ah p b).pl=w.pl/\(w.step ah p b).us=w.us+1/\(w.step ah p b).re=w.re:=by
 unfold Wk.step Wk.calm Wk.wake Wk.walked
 repeat (any_goals split)
 all_goals exact⟨rfl,rfl,rfl⟩
theorem zG {xs:List Int}{n:Nat}(h:∀x∈xs,x.natAbs<2^n):dt xs (Wk.turn ⟨n,0,[],[⟨0,0,xs.length,1-2^n,2^n-1⟩],[]⟩):=by
 refine (qB (w:=⟨n,0,[],[⟨0,0,xs.length,1-2^n,2^n-1⟩],[]⟩) (by show 0<=(n:Int);lia) rfl (λp c=>by rw[AV.mp c];exact .inl rfl)).mpr ?_;unfold dt;show xq xs ((n:Int).toNat) _
 rw[AX];refine⟨λp c=>?_,(λp c=>by cases c),lq λz e=>by cases e⟩;rw[AV.mp c];refine⟨λz=>absurd z (by show ¬ (0:Int)=3;decide),λ_ i a b=>?_⟩;have hi:i<xs.length:=by
  have:(i:Int)<(xs.length:Int):=b;lia
 rw[Ak,Ad hi];exact h _ (BJ hi)
noncomputable def PZ (p:Pa):Nat:=if p.a=3∨p.a=2 then 1 else 3*(p.e-p.s).toNat-1
def e7 (ps:List Pa):Nat:=(ps.map PZ).sum
theorem kK (ps q:List Pa):e7 (ps++q)=e7 ps+e7 q:=by simp[e7]
theorem kJ (p:Pa):e7 [p]=PZ p:=by simp[e7]
theorem Tb (ps:List Pa):e7 ps.reverse=e7 ps:=by
 induction ps with
 |nil=>rfl
 |cons p ps h=>rw[Fv,kK,kJ];simp[e7];lia
theorem Wi (h:p.s<p.e):1<=PZ p:=by
 unfold PZ;split<;>lia
theorem ZT (h:p.s<p.e):PZ p<=3*(p.e-p.s).toNat:=by
 unfold PZ;split<;>lia
theorem rB:∀{ps:List Pa} {a b:Int},ei a ps b->(e7 ps:Int)<=3*(b-a)
 | [],a,b,h=>by cases (show a=b from h);simp[e7]
 |p::ps,a,b,⟨h1,h2,c⟩=>by
  have f:=rB c;have g:=ZT h2;have e:e7 (p::ps)=PZ p+e7 ps:=by simp[e7]
  lia
theorem xv {w:Wk}(h1:q.s<q.e)(f:q.a≠3)(h2:q.a≠2):e7 (w.wake q).ah+1<=e7 w.ah+PZ q:=by
 have Q:PZ q=3*(q.e-q.s).toNat-1:=by
  unfold PZ;rw[c? (by rintro (z |z);exact f z;exact h2 z)]
 unfold Wk.wake;split
 .dsimp only;rw[kK,kJ,Q];show e7 w.ah+1+1<=_
  clear h1;lia
 .rename_i c;dsimp only;have M:q.s<(q.s+q.e) / 2:=by lia
  have h:(q.s+q.e) / 2<q.e:=by lia
  generalize (q.s+q.e) / 2=m at M h;have e:e7 [(⟨0,m,q.e,q.lo,q.hi⟩:Pa),⟨1,q.s,m,q.lo,q.hi⟩]=(3*(q.e-m).toNat-1)+(3*(m-q.s).toNat-1):=by
   simp[e7,PZ]
  rw[kK,e,Q];lia
theorem qG {w:Wk}(S:OI m k w)(e:w.ah=ah++[p]):e7 (w.step ah p b).ah+1<=e7 w.ah:=by
 have h:=S.zL ah p e;obtain⟨n,h1,_⟩:=S.ah p (by rw[e];simp);have l:=Wi h1;rw[e,kK,kJ];unfold Wk.step;split
 .show e7 ah+1<=_;lia
 .rename_i c;split
  .show e7 ah+1<=_;lia
  .rename_i C;split
   .exact xv (w:={w with us:=w.us+1,ah:=ah}) h1 c C
   .unfold Wk.calm;split
    .rename_i f;obtain⟨r,q,rfl,a,g,Q,j⟩:=h.zL f;rw[Dk,CM,kK,kJ];refine Bz (xv Q (by rw[a];decide) (by rw[a];decide)) ?_;show e7 r+PZ q<=_
     lia
    .show e7 ah+1<=_;lia
def mu (m:Nat)(w:Wk):Nat:=if w.pl<0 then 0 else 3*m*w.pl.toNat+e7 w.ah
theorem uJ {m k:Nat}{w:Wk}(S:OI m k w)(h:w.pl=k):mu m w.dW<=3*m*k+e7 w.ah:=by
 unfold Wk.dW;split
 .rename_i c;unfold Wk.turn;split
  .rename_i C;obtain⟨j,rfl⟩:∃j,k=j+1:=⟨k-1,by have:w.pl-1>=0:=C;lia⟩
   unfold mu;dsimp only;rw[c? (by omega),Tb,show (w.pl-1).toNat=j by omega];have hc:=S.ch;rw[c]at hc;have hc:ei 0 (w.wk++[]) m:=hc;rw[A_]at hc;have:=rB hc;have e:3*m*(j+1)=3*m*j+3*m:=by rw[Nat.mul_succ]
   lia
  .rename_i C;unfold mu;dsimp only;rw[c! (by have:¬ w.pl-1>=0:=C;lia)];lia
 .unfold mu;rw[c? (by lia),show w.pl.toNat=k by lia];exact Ag _
inductive i8:Wk->List Bool->Wk->Prop
 |nil {w:Wk}:i8 w [] w
 |whole {w:Wk} {b:Bool} {bs:List Bool} (h:w.pl<0):i8 w (b::bs) w
 |step {w v:Wk} {ah:List Pa} {p:Pa} {b:Bool} {bs:List Bool} (h:0<=w.pl) (h5:w.pl<=5000) (hf:w.fits) (e:w.ah=ah++[p]) (h1:p.a=1->b=b?->ah≠[]) (t:i8 ((w.step ah p b).dW) bs v):i8 w (b::bs) v
noncomputable def Pa.sp (p:Pa):D:=.tup [.int p.lo,.int p.hi]
noncomputable def fH (w:Wk):List D:=(w.wk++w.ah.reverse).flatMap λp=>Ar (p.e-p.s).toNat p.sp
def kd:qt:=λts ds P=>∃(w v:Wk) (bs:List Bool),ts=w.ts/\ds=[.str (cK bs)]/\i8 w bs v/\P v.ts
def lM:dN:=λds P=>∃w:Wk,ds=[.obj "Walk" bH (OV.vals w.ts)]/\w.wk.length<400000/\w.ah.length<400000/\(fH w).length<=900000/\(∀p∈w.wk++w.ah,0<=p.e-p.s/\p.e-p.s<=100000)/\P (.nl ((fH w).map .fz))
def oV:dN:=λds P=>∃(bs:List Bool) (m:Int) (n:Nat) (v:Wk),ds=[.str (cK bs),.int m,.int n]/\n<=5000/\i8 (Wk.turn ⟨n,0,[],[⟨0,0,m,1-2^n,2^n-1⟩],[]⟩) bs v/\P (.ob a? "Walk" bH v.ts)
abbrev iD:A6:=dX (top 59) 5
theorem kh:aR ["self","bits","bit"] ["self","bits"] (aB iD):=by f_are
abbrev jq:A6:=dX (top 59) 4
theorem iu:aR ["self","found","part"] ["self"] (aB jq):=by f_are
abbrev l8:A6:=top 61
theorem oX:aR ["bits","many","planes","walk"] ["bits","many","planes"] (aB l8):=by f_are
theorem rW (G:fv K "Walk" "follow" "Walk.follow" iD f fd)(B:b_ mg)(KV:b7 K)(C:dY K "Walk" bH)(l:c6 P w K mg base "Walk" "is_whole" 1 ["self"] (cg K 1 ey))(k:c6 P w K mg base "Walk" "take" 4 ["self","told"] (qO K 2 "Walk" bH ji)):
  c6 P w K mg base "Walk" "follow" 5 ["self","bits"] (qO K 2 "Walk" bH kd):=by
 refine c6.of G kh (by f_tup) rfl (λc A o s H E n=>⟨_,_,(aI (dz AM rfl (ZS (pv 1)) (bB (i:=2) kh.nd rfl (An rfl)) (aG (cj (cD (fq l (n.mono (by decide)) (pv 0))) (aI S7) bM)
   (aI (bY (eJ k (n.mono (by decide)) (pv 0) (ae (ec eX (pv 2) fo (bG _)) aD))))))),
  (et (Zw aC) bD (aU (cC (fC (bV (gI C (by decide +kernel) aC aP))) Se bO)
   (gn C (by decide +kernel) (aA (aN fu aC (aM fk)) aK)))),?_⟩)
 rintro a ts ds J ⟨w,v,bs,rfl,rfl,q,h⟩;fin2;rw[qR,AW];refine⟨λi δ=>∃(j:Wk) (o:Option Sl),i8 j (bs.drop i) v/\δ=[a! (.own (.ob (a! a) "Walk" bH j.ts)),vD (.str (cK bs)),o],⟨w,a?,q,rfl⟩,?_,?_⟩
 .rintro i d δ hd ⟨j,o,g,rfl⟩;obtain⟨b,m,rfl⟩:=m7 hd;have hi:=(Ab.mp m).1;have r:bs.drop i=b::bs.drop (i+1):=by
   rw[List.drop_eq_getElem_cons hi];rw[Ad hi]at m;rw[AY m]
  rw[r]at g;simp only[gN,LP,CN,Dd];gn_on;refine⟨j,by rw[OV.c7],?_⟩;fin2
  cases g with
  |whole hl=>
   rw[c! hl];exact h
  | @step _ _ ah p _ _ z u hf e h1 t=>
   rw[c? (by lia)];gp_on;fin2;refine⟨j,ah,p,b,rfl,hf,by rw[U8],e,z,u,h1,?_⟩;exact⟨_,_,t,rfl⟩
 .rintro δ ⟨j,o,g,rfl⟩;rw[Au,List.drop_length]at g;cases g;exact⟨_,rfl,h⟩
theorem tU (z:fv K "Walk" "spans" "Walk.spans" jq f fd)(B:b_ mg)(KV:b7 K)(C:dY K "Walk" bH)(G:∃t,mg "SPAN"=a! (.int 3 t))(k:∃t,mg "END_walks"=a! (.int 2 t))(g:∃t,mg "START_walks"=a! (.int 1 t)):
  c6 P w K mg base "Walk" "spans" 1 ["self"] (cg K 1 lM):=by
 refine XG.of z iu (by f_tup) rfl (λc A o s H E J=>⟨_,_,(aG (a5 (i:=1) iu.nd rfl (An rfl) (cV aD))
   (aG (dz AM rfl (c8 (aW Wr (cp (pv 0) rfl) (rE rfl B.list rfl B.reversed (ae (cp (pv 0) rfl) aD)))) (bB (i:=2) iu.nd rfl (An rfl)) (aI (bY (gM Bj PySem.F.slot_list_extend PySem.F.type_list_extend sd (pv 1) (ae (aW Ee (cV (ae (aS aQ (pv 2) (aO (by rfl) G) (λ_ _=>rfl)) aD)) (aW dr (aS aQ (pv 2) (aO (by rfl) k) (λ_ _=>rfl)) (aS aQ (pv 2) (aO (by rfl) g) (λ_ _=>rfl)))) aD)))))
   (aI (aX (pv 1))))),
  (aU (bx (dS cU))
   (aU (et (dv (bV (V4 (c_ (j:=3) C (by rfl) aC) (aM (bV (rh (aH (c_ (j:=4) C (by rfl) aC) aP))))))) bD (Sd (bV (vW (dS (cI (a8 (bE aT aF aE)) cU)) (aM (aN b9 (bA (dm.b aT) aC (aM aE)) (bA (dm.b aT) aC (aM aE))))))))
   fJ)),?_⟩)
 rintro ds M ⟨w,rfl,h1,h2,q,u,h⟩;unfold Wk.ts;gn_on;gp_on;gn_on;rw[qi,qi];have v:∀l:List D,Bo OV.val (Bo OV.fz l)=l:=λl=>by
  rw[AW];exact Ik l
 simp only[v];rw[<- CD,<- Bc];refine⟨wj _,by lia,wj _,wj _,by simp;lia,?_⟩;have n:∀p∈w.wk++w.ah.reverse,0<=p.e-p.s/\p.e-p.s<=100000:=λp m=>u p (by simpa using m)
 unfold fH at h q;generalize w.wk++w.ah.reverse=ps at h q n;refine⟨λi δ=>∃(o:Option Sl),δ=[a! (Sl.own (OV.fz (D.obj (Bm "Walk") bH [D.int w.pl,D.int w.us,D.lst (Bo D.int w.re),D.lst (Bo Pa.d w.wk),D.lst (Bo Pa.d w.ah)]))),a! (Sl.own (OV.nl (((ps.take i).flatMap λp=>Ar (p.e-p.s).toNat p.sp).map .fz))),o],⟨a?,rfl⟩,?_,?_⟩
 .rintro i d δ hd ⟨o,rfl⟩;obtain⟨p,m,rfl⟩:=m7 hd;have hi:=(Ab.mp m).1;rw[oa];simp only[gN,CN,Dd];fin2;have r:=n p (Ai m);have L:((ps.take i).flatMap λp=>Ar (p.e-p.s).toNat p.sp).length<=900000:=by
   refine Bz ?_ q;rw[<- C6 i ps,HG,AE];simp
  refine⟨⟨r.1,by lia⟩,by rw[BA];(clear h1 h2;lia),a! (Sl.own (OV.fz (D.tup [D.int p.a,D.int p.s,D.int p.e,D.tup [D.int p.lo,D.int p.hi]]))),?_⟩;have ht:ps.take (i+1)=ps.take i++[p]:=by rw[Fu,m];rfl
  rw[ht,HG,Bc,Eh];simp only[DN,List.flatMap_nil,A_,Eh];rfl
 .rintro δ ⟨o,rfl⟩;gp_on;fin2;rw[BD];exact h
theorem yl (g:bN K mg "followed" l8 f fd)(B:b_ mg)(KV:b7 K)(C:dY K "Walk" bH)(a:ur P w K mg base "Walk" 2 ["self","many","planes"] (qO K 3 "Walk" bH fB))(l:c6 P w K mg base "Walk" "follow" 5 ["self","bits"] (qO K 2 "Walk" bH kd)):
  cc P w K mg base "followed" 6 ["bits","many","planes"] (cg K 3 oV):=by
 refine df.of g oX (by f_tup) rfl (λc A o s H E r=>⟨_,_,(aG (a5 (i:=3) oX.nd rfl (An rfl) (wg a (r.mono (by decide)) (by rfl) (ae (pv 1) (ae (pv 2) aD))))
   (aG (bY (eJ l (r.mono (by decide)) (pv 3) (ae (pv 0) aD)))
   (aI (aX (pv 3))))),
  (aU (bx (NG C (aA aF (aA aF aK))))
   (aU (gn C (by decide +kernel) (aA aF aK))
   fJ)),?_⟩)
 rintro ds j ⟨bs,m,n,v,rfl,hn,e,h⟩;gn_on;refine⟨m,n,rfl,rfl,hn,?_⟩;gp_on;gn_on;refine⟨_,v,bs,rfl,rfl,e,?_⟩;gp_on;fin2;exact h
theorem uI {w:Wk}:w.dW.us=w.us/\w.dW.re.length<=w.re.length+1/\w.dW.pl<=w.pl/\(w.dW.re.length:Int)+w.dW.pl<=w.re.length+w.pl:=by
 unfold Wk.dW;split
 .unfold Wk.turn;split
  .refine ⟨rfl,by simp,by show w.pl-1<=w.pl;lia,?_⟩;show (((w.re++[w.us]).length:Nat):Int)+(w.pl-1)<=_
   rw[AE,BX];lia
  .refine ⟨rfl,by simp,by show w.pl-1<=w.pl;lia,?_⟩;show (((w.re++[w.us]).length:Nat):Int)+(w.pl-1)<=_
   rw[AE,BX];lia
 .exact ⟨rfl,by lia,Bh _,Bh _⟩
theorem xK {m:Nat}{w:Wk}(S:kZ m w)(M:m<400000)(h:w.re.length<900000):w.fits:=by
 have:=fQ S.sh.ch;rw[AE,B4]at this;exact⟨h,by lia,by lia⟩
theorem RA {xs:List Int}{m:Nat}(f:xs.length=m)(M:0<m)(j:m<400000):∀(N:Nat) (w:Wk),mu m w<=N->kZ m w->dt xs w->w.pl<=5000->(w.re.length:Int)+w.pl<800000->
  ∃bs v,tD xs w bs/\i8 w bs v/\v.pl<0/\kZ m v/\dt xs v/\bs.length<=mu m w/\v.us=w.us+bs.length:=by
 intro N
 induction N with
 |zero=>
  intro w hN S C B hr;by_cases g:w.pl<0
  .exact ⟨[],w,.done g,.nil,g,S,C,By _,by simp⟩
  .obtain ⟨ah,p,e⟩:∃ah p,w.ah=ah++[p]:=⟨_,_,(BZ (S.ne (by lia))).symm⟩
   have:=qG (b:=b!) S.sh e;unfold mu at hN;rw[c? g]at hN;lia
 |succ N ih=>
  intro w hN S C B hr;by_cases g:w.pl<0
  .exact ⟨[],w,.done g,.nil,g,S,C,By _,by simp⟩
  .obtain ⟨k,l⟩:∃k:Nat,w.pl=k:=⟨w.pl.toNat,by lia⟩
   have G:w.pl.toNat=k:=by lia
   obtain⟨ah,p,e⟩:∃ah p,w.ah=ah++[p]:=⟨_,_,(BZ (S.ne (by lia))).symm⟩
   have n:OI m k w:=G▸S.sh;have hA:=n.ah p (by rw[e];simp);have h:=iZ (p:=p) n.ch (by rw[e];simp);have O:=n.zL ah p e;have J:=lZ (b:=gs xs (k:Int) p) n l e;obtain⟨q1,q2,q3⟩:=vw (b:=gs xs (k:Int) p);have c:(w.step ah p (gs xs (k:Int) p)).pl=k:=by rw[q1];exact l
   have S2:=ju (by lia) J c;have C1:xq xs k (w.step ah p (gs xs (k:Int) p)):=(xC l e hA O (by rw[f];exact h.2.2)).mpr ⟨by unfold dt at C;rw[G]at C;exact C,rfl⟩;have C2:dt xs (w.step ah p (gs xs (k:Int) p)).dW:=(rl (by rw[c];lia) (qx J)).mpr (by unfold dt;rw[c];exact C1);obtain⟨r1,r2,r3,r4⟩:=uI (w:=w.step ah p (gs xs (k:Int) p));have u:=uJ J c;have L:=qG (b:=gs xs (k:Int) p) n e;have hw:mu m w=3*m*k+e7 w.ah:=by unfold mu;rw[c? g,G]
   rw[ q3]at r4;obtain⟨bs,v,U,t2,T,Q,t5,A,t⟩:=ih _ (by lia) S2 C2 (by (clear f M j hN h r2 u hw;lia)) (by (clear f M j hN h u hw;lia));have hf:=xK S j (by (clear f M j hN h u hw T A t;lia));have o:p.a=1->gs xs (k:Int) p=b?->ah≠[]:=λz _=>by
    obtain⟨r,q,er,_⟩:=O.zL z;rw[er];simp
   refine⟨gs xs (k:Int) p::bs,v,?_,?_,T,Q,t5,?_,?_⟩
   .have:=tD.step (by (clear f M j hN h u hw T A t;lia)) B hf e ⟨h.1,h.2.1,by rw[f];exact h.2.2⟩ (by rw[l];exact o) (by rw[l];exact U);rw[l]at this;exact this
   .exact i8.step (by (clear f M j hN h u hw T A t;lia)) B hf e o t2
   .rw [AQ];(clear hN T t;lia)
   .rw [t,r1,AQ];lia
noncomputable def dot (x:Int):D:=.tup [.int x,.int x]
theorem Ti (k:Ĝ 0 p)(hc:CW xs 0 p)(a:p.e<=(xs.length:Int)):Ar (p.e-p.s).toNat p.sp=((xs.drop p.s.toNat).take (p.e-p.s).toNat).map dot:=by
 obtain⟨q,h1,h2⟩:=k;have hl:((xs.drop p.s.toNat).take (p.e-p.s).toNat).length=(p.e-p.s).toNat:=by
  rw[BE,Er];omega
 have key:∀x∈(xs.drop p.s.toNat).take (p.e-p.s).toNat,p.sp=dot x:=by
  intro x j;obtain⟨i,hi⟩:=DY.mp j;have l:=(Ab.mp hi).1;rw[hl]at l;rw[Cq l,FJ]at hi;have hg:xs.getD (p.s.toNat+i) 0=x:=by rw[Ak,hi];rfl
  unfold Pa.sp dot;rcases h2 with⟨m,r,⟨A,_⟩⟩ | ⟨o,A,n⟩
  .obtain ⟨g,C⟩:=hc.1 m;have f:i=0:=by (clear a hl hg g C;lia)
   subst f;rw[IY]at hg;rw[hg]at g C;have:p.hi-p.lo=0:=by simpa using A
   rw[show p.lo=x by (clear a hl hg;lia),show p.hi=x by (clear a hl hg;lia)]
  .have:=hc.2 o (p.s.toNat+i) (by (clear a hl hg;lia)) (by (clear a hl hg;lia));rw[hg]at this;have c:x=0:=by
    have:x.natAbs<1:=by simpa using this
    lia
   rw[A,n,c];rfl
 refine DP λi=>?_
 by_cases hi:i<(p.e-p.s).toNat
 .have h:i<((xs.drop p.s.toNat).take (p.e-p.s).toNat).length:=by rw[hl];exact hi
  rw[C_,c! hi,AK,Ad h,key _ (BJ h)];rfl
 .rw [Bd (by rw[BA];lia),Bd (by rw[Au];lia)]
theorem vg:∀{ps:List Pa} {a b:Int},ei a ps b->0<=a->b<=(xs.length:Int)->(∀p∈ps,Ĝ 0 p/\CW xs 0 p)->(ps.flatMap λp=>Ar (p.e-p.s).toNat p.sp)=((xs.drop a.toNat).take (b-a).toNat).map dot
 | [],a,b,h,_,_,_=>by cases (show a=b from h);simp
 |p::ps,a,b,⟨h1,h2,f⟩,m,B,k=>by
  have l:=fQ f;have c:=k p (by simp);rw[DN,vg f (by lia) B (λq Q=>k q (by simp[Q])),Ti c.1 c.2 (by lia),<- Bc];subst h1;have g:(b-p.s).toNat=(p.e-p.s).toNat+(b-p.e).toNat:=by lia
  have j:p.e.toNat=p.s.toNat+(p.e-p.s).toNat:=by (clear B l g;lia)
  rw[g,List.take_add,List.drop_drop,<- j]
theorem Pz {xs:List Int}{m:Nat}{v:Wk}(f:xs.length=m)(S:kZ m v)(C:dt xs v)(h:v.pl<0):fH v=xs.map dot:=by
 obtain⟨h1,h2⟩:=S.wh h;have e:v.pl.toNat=0:=by lia
 have c:=S.sh;rw[e]at c;unfold dt at C;rw[e]at C;have hc:=c.ch;rw[h2]at hc;unfold fH;rw[h2];have:=vg (xs:=xs) hc (by lia) (by lia) (λp a=>by
  have a:p∈v.wk:=by simpa using a
  exact⟨c.wk p a,C.1 p a⟩)
 rw[this];rw[show ((m:Int)-0).toNat=xs.length by lia];simp
theorem vf:∀{ps:List Pa} {a b:Int},ei a ps b->(ps.flatMap λp=>Ar (p.e-p.s).toNat p.sp).length=(b-a).toNat
 | [],a,b,h=>by cases (show a=b from h);simp
 |p::ps,a,b,⟨h1,h2,c⟩=>by
  have l:=fQ c;rw[DN,AE,vf c,BA];lia
theorem PD {w:Wk}(S:kZ m w)(M:m<=100000):w.wk.length<400000/\w.ah.length<400000/\(fH w).length=m/\∀p∈w.wk++w.ah,0<=p.e-p.s/\p.e-p.s<=100000:=by
 have h1:=fQ S.sh.ch;rw[AE,B4]at h1;refine⟨by lia,by lia,by unfold fH;rw[vf S.sh.ch];lia,λp h=>?_⟩;have:=iZ S.sh.ch (by simpa using h);lia
theorem Xf {w:Wk}(h:i8 w bs v)(a:v.pl<0):i8 w (bs++cs) v:=by
 induction h with
 |nil=>
  cases cs with
  |nil=>exact .nil
  |cons c cs=>exact .whole a
 |whole h=>exact .whole h
 |step h g hf e h1 t f=>exact .step h g hf e h1 (f a)
theorem oS (m n:Nat):(Wk.turn ⟨n,0,[],[⟨0,0,m,1-2^n,2^n-1⟩],[]⟩).pl=n-1/\(Wk.turn ⟨n,0,[],[⟨0,0,m,1-2^n,2^n-1⟩],[]⟩).re=[]/\(Wk.turn ⟨n,0,[],[⟨0,0,m,1-2^n,2^n-1⟩],[]⟩).us=0/\mu m (Wk.turn ⟨n,0,[],[⟨0,0,m,1-2^n,2^n-1⟩],[]⟩)<=3*m*n:=by
 unfold Wk.turn;split
 .rename_i c;refine⟨rfl,rfl,rfl,?_⟩;have c:(n:Int)-1>=0:=c;obtain⟨k,rfl⟩:∃k,n=k+1:=⟨n-1,by lia⟩
  unfold mu;rw[c? (by show ¬ ((k+1:Nat):Int)-1<0;lia)];show 3*m*(((k+1:Nat):Int)-1).toNat+e7 [_]<=_
  rw[kJ,show (((k+1:Nat):Int)-1).toNat=k by lia];unfold PZ;show 3*m*k+(3*((m:Int)-0).toNat-1)<=3*m*(k+1)
  rw[Kl];lia
 .rename_i c;have c:¬ (n:Int)-1>=0:=c;refine⟨rfl,rfl,rfl,?_⟩;unfold mu;rw[c! (by show (n:Int)-1<0;lia)];exact By _
theorem va {w:Wk}(h:i8 w as v)(h2:i8 v bs u):i8 w (as++bs) u:=by
 induction h with
 |nil=>exact h2
 |whole h=>
  cases h2 with
  |nil=>exact .whole h
  |whole _=>exact .whole h
  |step f=>lia
 |step h c hf e h1 t a=>exact .step h c hf e h1 (a h2)
theorem ql {m:Nat}(M:0<m)(j:m<400000):∀(bs:List Bool) (w:Wk),kZ m w->w.pl<=5000->(w.re.length:Int)+w.pl<800000->
  ∃(v:Wk) (u:Nat),i8 w bs v/\kZ m v/\u<=bs.length/\v.us=w.us+u/\mu m v+u<=mu m w/\(0<=v.pl->u=bs.length)/\(0<=w.pl->v.pl<0->1<=u)/\v.pl<=w.pl/\(v.re.length:Int)+v.pl<=w.re.length+w.pl/\
   ∀xs:List Int,xs.length=m->dt xs v->dt xs w/\∀ts,tD xs v ts->tD xs w (bs.take u++ts)
 | [],w,S,B,hr=>⟨w,0,.nil,S,Ag _,by simp,by lia,(λ_=>rfl),(λa b=>by lia),Bh _,Bh _,λxs g C=>⟨C,λts t=>t⟩⟩
 |b :: bs,w,S,B,hr=>by
  by_cases hp:w.pl<0
  .exact ⟨w,0,.whole hp,S,By _,by simp,by lia,(λz=>by lia),(λa _=>by lia),Bh _,Bh _,λxs g C=>⟨C,λts t=>t⟩⟩
  .obtain ⟨k,f⟩:∃k:Nat,w.pl=k:=⟨w.pl.toNat,by lia⟩
   have G:w.pl.toNat=k:=by lia
   obtain⟨ah,p,e⟩:∃ah p,w.ah=ah++[p]:=⟨_,_,(BZ (S.ne (by lia))).symm⟩
   have l:OI m k w:=G▸S.sh;have hA:=l.ah p (by rw[e];simp);have h:=iZ (p:=p) l.ch (by rw[e];simp);have hB:=l.zL ah p e;have J:=lZ (b:=b) l f e;obtain⟨Q,q2,q3⟩:=vw (w:=w) (ah:=ah) (p:=p) (b:=b);have c:(w.step ah p b).pl=k:=by rw[Q];exact f
   have S2:=ju (by lia) J c;obtain⟨r1,r2,r3,r4⟩:=uI (w:=w.step ah p b);have U:=uJ J c;have O:=qG (b:=b) l e;have hw:mu m w=3*m*k+e7 w.ah:=by unfold mu;rw[c? hp,G]
   rw[Q]at r3;rw[Q,q3]at r4;obtain⟨v,u,t1,t2,L,n,t5,t6,t7,t8,t9,A⟩:=ql M j bs _ S2 (by (clear M j h r2 U hw;lia)) (by lia);have hf:=xK S j (by lia);have o:p.a=1->b=b?->ah≠[]:=λz _=>by
    obtain⟨r,q,er,_⟩:=hB.zL z;rw[er];simp
   refine⟨v,u+1,.step (by lia) B hf e o t1,t2,by rw[AQ];lia,by rw[n,r1,q2];lia,by lia,(λz=>by rw[AQ,t6 z]),(λ_ _=>by lia),by (clear M j h U hw L n t5;lia),by (clear M j h U hw L n t5;lia),λxs g C=>?_⟩;obtain⟨c1,c2⟩:=A xs g C;have C1:xq xs k (w.step ah p b):=by
    have:=(rl (by rw[c];lia) (qx J)).mp c1;unfold dt at this;rw[c,AX]at this;exact this
   obtain⟨C0,hb⟩:=(xC f e hA hB (by rw[g];exact h.2.2)).mp C1;refine⟨by unfold dt;rw[G];exact C0,λts t=>?_⟩;have:=c2 ts t;rw[List.take_succ_cons,CY];rw[hb]at this o ⊢;have T:=tD.step (xs:=xs) (w:=w) (ah:=ah) (p:=p) (bs:=bs.take u++ts) (by lia) B hf e ⟨h.1,h.2.1,by rw[g];exact h.2.2⟩ (by rw[f];exact o) (by rw[f];exact this);rw[f]at T;exact T
theorem ny {m:Type}(f:Pa->m):∀{ps:List Pa} {a b:Int} {p:Pa} {i:Int},ei a ps b->p∈ps->p.s<=i->i<p.e->(ps.flatMap λp=>Ar (p.e-p.s).toNat (f p))[(i-a).toNat]?=a! (f p)
 | [],_,_,_,_,_,g,_,_=>by cases g
 |q :: ps,a,b,p,i,h,g,k,j=>by
  obtain⟨h1,h2,l⟩:=h;rw[DN];rcases AJ.mp g with rfl |c
  .rw [A9 (by rw[BA];lia),C_,c! (by lia)]
  .have:=(iZ l c).1;rw[Bi (by rw[BA];lia),BA];have:=ny f l c k j;rw[show (i-a).toNat-(q.e-q.s).toNat=(i-q.e).toNat by lia];exact this
theorem ig:∀{ps:List Pa} {a b i:Int},ei a ps b->a<=i->i<b->∃p∈ps,p.s<=i/\i<p.e
 | [],a,b,i,h,h1,h2=>by cases (show a=b from h);omega
 |q :: ps,a,b,i,h,g,c=>by
  obtain⟨h1,h2,k⟩:=h;by_cases h:i<q.e
  .exact ⟨q,by simp,by lia,h⟩
  .obtain ⟨p,f,j⟩:=ig k (show q.e<=i by lia) c;exact⟨p,by simp[f],j⟩
theorem ϫ {m:Nat}{w:Wk}(S:kZ m w){i:Nat}(hi:i<m):∃p∈w.wk++w.ah,p.s<=i/\(i:Int)<p.e/\(fH w)[i]?=a! p.sp:=by
 obtain⟨p,h,h1,h2⟩:=ig S.sh.ch (show (0:Int)<=i by lia) (by lia);refine⟨p,by simpa using h,h1,h2,?_⟩;have:=ny Pa.sp S.sh.ch h h1 h2;exact this
theorem P4 {w:Wk}(S:kZ m w)(g:p∈w.wk++w.ah):p.lo<=p.hi:=by
 have q:∀k:Nat,(0:Int)<2^k:=oZ
 have Q:=q w.pl.toNat;rcases AB.mp g with h |h
 .obtain ⟨f,e,c⟩:=S.sh.wk p h;rcases c with⟨_,_,a,_⟩ | ⟨_,L,l⟩<;>lia
 .obtain ⟨f,e,c⟩:=S.sh.ah p h;rcases c with⟨_,_,a,_⟩ | ⟨_,L,l⟩ | ⟨_,_,L,l⟩<;>lia
theorem Ũ {m:Nat}{v:Wk}(S:kZ m v)(h:v.pl<0):∃xs:List Int,xs.length=m/\dt xs v:=by
 obtain⟨h1,h2⟩:=S.wh h;have k:v.pl.toNat=0:=by lia
 have f:=S.sh;rw[k]at f;have hc:=f.ch;rw[h2,List.reverse_nil,A_]at hc;have at':∀p∈v.wk,∀i:Nat,p.s<=i->(i:Int)<p.e->(v.wk.flatMap λp=>Ar (p.e-p.s).toNat p.lo).getD i 0=p.lo:=λp c i a b=>by
  have:=ny Pa.lo hc c a b;rw[show ((i:Int)-0).toNat=i by lia]at this;rw[Ak,this];rfl
 refine⟨v.wk.flatMap λp=>Ar (p.e-p.s).toNat p.lo,?_,?_⟩
 .have:∀{ps:List Pa} {a b:Int},ei a ps b->(ps.flatMap λp=>Ar (p.e-p.s).toNat p.lo).length=(b-a).toNat:=by
   intro ps
   induction ps with
   |nil=>intro a b h;cases (show a=b from h);simp
   |cons p ps n=>
    rintro a b ⟨h1,h2,j⟩;have u:=fQ j;rw[DN,AE,n j,BA];lia
  rw[this hc];lia
 .unfold dt xq Vs;rw[k,h2];refine⟨λp c=>?_,(λp c=>by cases c),λr q p e=>by simp at e⟩;obtain⟨A,z,g⟩:=f.wk p c;refine⟨λa=>?_,λa i t o=>?_⟩
  .rw [at' p c p.s.toNat (by lia) (by lia)];rcases g with⟨_,_,a,_⟩ | ⟨_,l,L⟩
   .lia
   .lia
  .rw [at' p c i t o];rcases g with⟨B,_⟩ | ⟨_,l,L⟩
   .lia
   .rw [l];decide
theorem Ē {xs:List Int}{n:Nat}(h:dt xs (Wk.turn ⟨n,0,[],[⟨0,0,xs.length,1-2^n,2^n-1⟩],[]⟩)):∀x∈xs,x.natAbs<2^n:=by
 have:=(qB (w:=⟨n,0,[],[⟨0,0,xs.length,1-2^n,2^n-1⟩],[]⟩) (by show 0<=(n:Int);lia) rfl (λp c=>by rw[AV.mp c];exact .inl rfl)).mp h;unfold dt at this;have:=(this.1 _ (AV.mpr rfl)).2 rfl;intro x a;obtain⟨i,hi⟩:=DY.mp a;have l:=(Ab.mp hi).1;have:=this i (by show (0:Int)<=i;lia) (by show (i:Int)<xs.length;lia);rw[Ak,hi]at this;have h2:x.natAbs<2^(n:Int).toNat:=this;rw[AX]at h2;exact h2
noncomputable def dP (w:Wk):List (Int×Int):=(w.wk++w.ah.reverse).flatMap λp=>Ar (p.e-p.s).toNat (p.lo,p.hi)
theorem nX {m:Nat}{w:Wk}(S:kZ m w){p:Pa}{i:Nat}(h:p∈w.wk++w.ah)(h1:p.s<=i)(h2:(i:Int)<p.e):(dP w)[i]?=a! (p.lo,p.hi):=by
 have:=ny (λp=>(p.lo,p.hi)) S.sh.ch (by simpa using h) h1 h2;rw[show ((i:Int)-0).toNat=i by lia]at this;exact this
theorem l0 {m:Nat}{w:Wk}(S:kZ m w):(dP w).length=m:=by
 have:∀{ps:List Pa} {a b:Int},ei a ps b->(ps.flatMap λp=>Ar (p.e-p.s).toNat (p.lo,p.hi)).length=(b-a).toNat:=by
  intro ps
  induction ps with
  |nil=>intro a b h;cases (show a=b from h);simp
  |cons p ps f=>
   rintro a b ⟨h1,h2,c⟩;have l:=fQ c;rw[DN,AE,f c,BA];lia
 unfold dP;rw[this S.sh.ch];lia
structure Vh (G:Pa->Prop) (b:Bool):Prop where
 fig:∀k p,p.a=3->Vr (k+1) p->G p->G (p.bS k b)
 sig:∀k p,p.a=2->Vr (k+1) p->G p->G (p.signed k b)
 w2:∀k q,(q.a=0∨q.a=1)->Vr (k+1) q->G q->G ⟨2,q.s,q.e,q.lo,q.hi⟩
 w0:∀k q,(q.a=0∨q.a=1)->Vr (k+1) q->G q->∀m,q.s<=m->m<=q.e->G ⟨0,m,q.e,q.lo,q.hi⟩/\G ⟨1,q.s,m,q.lo,q.hi⟩
 calm:b=b?->∀k q,(q.a=0∨q.a=1)->Vr (k+1) q->G q->G ⟨0,q.s,q.e,1-2^k,2^k-1⟩
def uu (G:Pa->Prop)(w:Wk):Prop:=(∀p∈w.wk,G p)/\∀p∈w.ah,G p
theorem uw {G:Pa->Prop}(K:Vh G b){w:Wk}(h:uu G w)(Q:G q)(A:q.a=0∨q.a=1)(f:Vr (k+1) q):uu G (w.wake q):=by
 unfold Wk.wake;split
 .refine ⟨h.1,λp c=>?_⟩;have c:p∈w.ah++[⟨2,q.s,q.e,q.lo,q.hi⟩]:=c;rcases AB.mp c with z |z
  .exact h.2 p z
  .rw [AV.mp z];exact K.w2 k q A f Q
 .refine ⟨h.1,λp c=>?_⟩;have c:p∈w.ah++[⟨0,(q.s+q.e) / 2,q.e,q.lo,q.hi⟩,⟨1,q.s,(q.s+q.e) / 2,q.lo,q.hi⟩]:=c;have l:=f.2.1;obtain⟨g1,g2⟩:=K.w0 k q A f Q ((q.s+q.e) / 2) (by lia) (by lia);rcases AB.mp c with z |z
  .exact h.2 p z
  .rcases AJ.mp z with z |z
   .rw [z];exact g1
   .rw [AV.mp z];exact g2
theorem Py {G:Pa->Prop}(K:Vh G b){w:Wk}(S:OI m k w)(O:w.pl=k)(e:w.ah=ah++[p])(h:uu G w):uu G (w.step ah p b):=by
 have o:w.pl.toNat=k:=by lia
 have g:G p:=h.2 p (by rw[e];simp);have f:=S.ah p (by rw[e];simp);have A:∀q∈ah,G q:=λq Q=>h.2 q (by rw[e];simp[Q])
 have J:=S.zL ah p e;unfold Wk.step;split
 .rename_i t;refine⟨λq Q=>?_,A⟩;have Q:q∈w.wk++[p.bS w.pl.toNat b]:=Q;rcases AB.mp Q with z |z
  .exact h.1 q z
  .rw [AV.mp z,o];exact K.fig k p t f g
 .split
  .rename_i u;refine⟨λq Q=>?_,A⟩;have Q:q∈w.wk++[p.signed w.pl.toNat b]:=Q;rcases AB.mp Q with z |z
   .exact h.1 q z
   .rw [AV.mp z,o];exact K.sig k p u f g
  .rename_i t u;have v:p.a=0∨p.a=1:=by
    rcases f.2.2 with⟨z,_⟩ | ⟨z,_⟩ | ⟨z,_⟩
    .exact absurd z t
    .exact z
    .exact absurd z u
   split
   .exact uw K (k:=k) (w:={w with us:=w.us+1,ah:=ah}) ⟨h.1,A⟩ g v f
   .rename_i B;have B:b=false:=by simpa using B
    have hc:G ⟨0,p.s,p.e,1-2^w.pl.toNat,2^w.pl.toNat-1⟩:=by rw[o];exact K.calm B k p v f g
    have c:∀q∈w.wk++[(⟨0,p.s,p.e,1-2^w.pl.toNat,2^w.pl.toNat-1⟩:Pa)],G q:=λq Q=>by
     rcases AB.mp Q with z |z
     .exact h.1 q z
     .rw [AV.mp z];exact hc
    unfold Wk.calm;split
    .rename_i L;obtain⟨r,q,C,n,_⟩:=J.zL L;have M:q∈ah:=by rw[C];simp
     have l:ah.getLastD p=q:=by rw[C];simp
     show uu G (Wk.wake {w with us:=w.us+1,wk:=w.wk++[_],ah:=ah.dropLast} (ah.getLastD p))
     rw[l];refine uw K (k:=k) ⟨c,λz j=>A z ?_⟩ (A q M) (.inl n) (S.ah q (by rw[e];simp[M]));have j:z∈ah.dropLast:=j;exact List.dropLast_subset ah j
    .exact ⟨c,A⟩
theorem xW {G:Pa->Prop}{w:Wk}(h:uu G w):uu G w.dW:=by
 unfold Wk.dW;split
 .unfold Wk.turn;split
  .refine ⟨(λp a=>by cases a),λp a=>h.1 p ?_⟩;have a:p∈w.wk.reverse:=a;simpa using a
  .exact ⟨h.1,h.2⟩
 .exact h
theorem UI {G:Pa->Prop}{m:Nat}(M:0<m){w v:Wk}{bs:List Bool}(F:i8 w bs v):(∀b∈bs,Vh G b)->kZ m w->uu G w->uu G v:=by
 induction F with
 |nil=>exact λ_ _ h=>h
 |whole _=>exact λ_ _ h=>h
 | @step w v ah p b bs h o hf e h1 t g=>
  intro K S j;obtain⟨k,a⟩:∃k:Nat,w.pl=k:=⟨w.pl.toNat,by lia⟩
  have l:w.pl.toNat=k:=by lia
  have f:OI m k w:=l▸S.sh;have n:=ju (m:=m) (by lia) (lZ (b:=b) f a e) (by rw[vw.1];exact a);exact g (λc hc=>K c (by simp[hc])) n (xW (Py (K b (by simp)) f a e j))
noncomputable def ϴ (p:Pa):Int:=if p.lo > 0 then p.hi else p.lo
noncomputable def Xbd (p:Pa):Int:=if p.lo > 0 then p.lo else p.hi
theorem qP (p:Pa)(k:Nat)(b:Bool):(p.signed k b).s=p.s/\(p.signed k b).e=p.e/\(p.signed k b).a=3:=by
 unfold Pa.signed;split<;>exact⟨rfl,rfl,rfl⟩
theorem sU (p:Pa)(k:Nat)(b:Bool):(p.bS k b).s=p.s/\(p.bS k b).e=p.e/\(p.bS k b).a=3:=by
 unfold Pa.bS;split<;>exact⟨rfl,rfl,rfl⟩
theorem ő (c:Nat->Int):Vh (λp=>∀i:Nat,p.s<=i->(i:Int)<p.e->ϴ p=c i) b! where
 fig := λk p a3 hs h i h1 h2=>by
  obtain⟨f1,f2,_⟩:=sU p k b!;rw[f1]at h1;rw[f2]at h2;rw[<- h i h1 h2];have hp:=oZ k;by_cases hl:p.lo > 0
  .have e:p.bS k b!=⟨3,p.s,p.e,p.lo+2^k,p.hi⟩:=by
    unfold Pa.bS;rw[c! (by simp[hl])]
   rw[e];unfold ϴ;rw[c! (by show p.lo+2^k > 0;lia),c! hl]
  .have e:p.bS k b!=⟨3,p.s,p.e,p.lo,p.hi-2^k⟩:=by
    unfold Pa.bS;rw[c? (by simp[hl])]
   rw[e];unfold ϴ;rw[c? (by exact hl),c? hl]
 sig := λk p a2 hs h i h1 h2=>by
  obtain⟨f1,f2,_⟩:=qP p k b!;rw[f1]at h1;rw[f2]at h2;rw[<- h i h1 h2];have hp:=oZ k;rcases hs.2.2 with⟨z,_⟩ | ⟨z,_⟩ | ⟨_,_,l1,l2⟩
  .lia
  .lia
  .unfold ϴ Pa.signed;rw[c! rfl];show (if 1-2^k-2^k > (0:Int) then _ else (1-2^k-2^k:Int))=_
   have ϯ:=og k;rw[c? (by lia),c? (by lia),l1];lia
 w2:=λk q _ _ h=>h
 w0:=λk q _ _ h m h1 h2=>⟨λi a b=>h i (by have a:m<=i:=a;lia) b,λi a b=>h i a (by have b:(i:Int)<m:=b;lia)⟩
 calm:=λz=>by cases z
theorem WX (L U:Nat->Int)(b:Bool):Vh (λp=>∀i:Nat,p.s<=i->(i:Int)<p.e->L i<=p.lo/\p.hi<=U i) b where
 fig := λk p a3 hs h i h1 h2=>by
  obtain⟨f1,f2,f3⟩:=sU p k b;rw[f1]at h1;rw[f2]at h2;obtain⟨g1,g2⟩:=h i h1 h2;rcases hs.2.2 with⟨_,_,hk⟩ | ⟨z,_⟩ | ⟨z,_⟩
  .have:=(zh.bS (b:=b) hk).2;exact⟨by lia,by lia⟩
  .lia
  .lia
 sig := λk p a2 hs h i h1 h2=>by
  obtain⟨f1,f2,f3⟩:=qP p k b;rw[f1]at h1;rw[f2]at h2;obtain⟨g1,g2⟩:=h i h1 h2;have hp:=oZ k;have ϯ:=og k;rcases hs.2.2 with⟨z,_⟩ | ⟨z,_⟩ | ⟨_,_,l1,l2⟩
  .lia
  .lia
  .unfold Pa.signed;cases b
   .rw [c? (by decide)];exact⟨by show L i<=2^k;lia,by show (2^k+2^k-1:Int)<=U i;lia⟩
   .rw [c! rfl];exact⟨by show L i<=1-2^k-2^k;lia,by show (-2^k:Int)<=U i;lia⟩
 w2:=λk q _ _ h=>h
 w0:=λk q _ _ h m h1 h2=>⟨λi a b=>h i (by have a:m<=i:=a;lia) b,λi a b=>h i a (by have b:(i:Int)<m:=b;lia)⟩
 calm:=λ_ k q ha hs h i h1 h2=>by
  obtain⟨g1,g2⟩:=h i h1 h2;have hp:=oZ k;have ϯ:=og k;rcases hs.2.2 with⟨z,_⟩ | ⟨_,l1,l2⟩ | ⟨z,_⟩
  .lia
  .exact ⟨by show L i<=1-2^k;lia,by show (2^k-1:Int)<=U i;lia⟩
  .lia
theorem nu {w v a:Wk}{bs:List Bool}(h:i8 w bs v)(h2:i8 w bs a):v=a:=by
 induction h with
 |nil=>cases h2;rfl
 |whole h=>
  cases h2 with
  |whole _=>rfl
  |step f=>lia
 |step h j hf e h1 t c=>
  cases h2 with
  |whole f=>lia
  |step _ _ _ e' _ t'=>
   rw[e]at e';obtain⟨rfl,g⟩:=EW e' rfl;cases g;exact c t'
noncomputable def Uk (x:Int)(k:Nat):Int×Int:=
 if (x.natAbs:Int) / 2^k*2^k=0 then (1-2^k,2^k-1) else if x<0 then (1-(x.natAbs:Int) / 2^k*2^k-2^k,0-(x.natAbs:Int) / 2^k*2^k) else ((x.natAbs:Int) / 2^k*2^k,(x.natAbs:Int) / 2^k*2^k+2^k-1)
theorem Ï {x lo hi:Int}{k:Nat}(e:zh k lo hi)(h1:lo<=x)(h2:x<=hi):Uk x k=(lo,hi):=by
 obtain⟨hw,h⟩:=e;have a:=oZ k;rcases h with⟨q,h,rfl⟩ | ⟨q,h,rfl⟩
 .have c:(x.natAbs:Int)=x:=by
   have:0<=q*2^k:=Fy (by lia) (by lia);lia
  have hd:(x.natAbs:Int) / 2^k=q:=by
   rw[c];exact ((HJ (r:=x-q*2^k) a).mpr ⟨by rw[Es (2^k) q];lia,by lia,by lia⟩).1
  have p:0<q*2^k:=HI h a;unfold Uk;rw[hd,c? (by omega),c? (by lia)];rw[show q*2^k+2^k-1=hi by lia]
 .have p:0<q*2^k:=HI h a;have c:(x.natAbs:Int) = -x:=by omega
  have hd:(x.natAbs:Int) / 2^k=q:=by
   rw[c];exact ((HJ (r:=-x-q*2^k) a).mpr ⟨by rw[Es (2^k) q];lia,by lia,by lia⟩).1
  unfold Uk;rw[hd,c? (by omega),c! (by omega)];rw[show 1-q*2^k-2^k=lo by lia,show 0-q*2^k = -(q*2^k) by lia]
theorem nest {m:Nat}(M:0<m){a b:Wk}{bs:List Bool}(F:i8 a bs b)(A:kZ m a)(B:kZ m b){i:Nat}(hi:i<m):∃s t,(dP a)[i]?=a! s/\(dP b)[i]?=a! t/\s.1<=t.1/\t.1<=t.2/\t.2<=s.2:=by
 obtain⟨p,g,u,o⟩:=ig A.sh.ch (show (0:Int)<=i by lia) (by lia);obtain⟨q,h,f,Q⟩:=ig B.sh.ch (show (0:Int)<=i by lia) (by lia);have g:p∈a.wk++a.ah:=by simpa using g
 have h:q∈b.wk++b.ah:=by simpa using h
 have k:=nX A g u o;have L:=nX B h f Q;have G:uu (λr=>∀j:Nat,r.s<=j->(j:Int)<r.e->(λj=>((dP a).getD j (0,0)).1) j<=r.lo/\r.hi<=(λj=>((dP a).getD j (0,0)).2) j) a:=by
  have key:∀r∈a.wk++a.ah,∀j:Nat,r.s<=j->(j:Int)<r.e->(λj=>((dP a).getD j (0,0)).1) j<=r.lo/\r.hi<=(λj=>((dP a).getD j (0,0)).2) j:=λr C j v J=>by
   have:=nX A C v J;dsimp only;rw[Ak,this];exact⟨Bh _,Bh _⟩
  exact⟨λq h=>key q (by simp[h]),λq h=>key q (by simp[h])⟩
 have l:=UI M F (λc _=>WX _ _ c) A G;have n:(λj=>((dP a).getD j (0,0)).1) i<=q.lo/\q.hi<=(λj=>((dP a).getD j (0,0)).2) i:=by
  rcases AB.mp h with z |z
  .exact l.1 q z i f Q
  .exact l.2 q z i f Q
 dsimp only at n;rw[Ak,k]at n;exact⟨_,_,k,L,n.1,P4 B h,n.2⟩
theorem Xl {m:Nat}(h:0<m)(M:m<400000){w v:Wk}{bs:List Bool}(F:i8 w bs v)(S:kZ m w)(q:w.pl<=5000)(r:(w.re.length:Int)+w.pl<800000)(h0:w.us=0){c:Nat}(hc:c<=bs.length):
  ∃u,i8 w (bs.take c) u/\kZ m u/\i8 u (bs.drop c) v/\kZ m v/\u.us=min (c:Int) v.us/\decide (u.pl<0)=(decide (v.pl<0) && decide (v.us<=(c:Int)))/\u.pl<=w.pl/\(u.re.length:Int)+u.pl<=w.re.length+w.pl:=by
 obtain⟨u,k,o,n,l,T,A,g,a7,Q,O,U⟩:=ql h M (bs.take c) w S q r;obtain⟨v2,k2,j,J,f,G,B,b6,C,b8,t,L⟩:=ql h M (bs.drop c) u n (by lia) (by lia);have p:=va o j;rw[C6]at p;have e:=nu F p;subst e;rw[BE,FO hc]at l g;have a:u.pl<0->k2=0:=λz=>by
  have:mu m u=0:=by unfold mu;rw[c! z]
  lia
 refine⟨u,o,n,j,J,?_,?_,Q,O⟩
 .by_cases z:u.pl<0
  .have:=a z;(clear h M hc A f B;lia)
  .have:=g (by lia);(clear h M hc A f B;lia)
 .rw [<- Bool.decide_and];refine decide_eq_decide.mpr ⟨λz=>?_,λz=>?_⟩
  .have:=a z;exact⟨by (clear h M hc l T A f G B t this;lia),by (clear h M hc A f B;lia)⟩
  .by_cases y:u.pl<0
   .exact y
   .have:=g (by omega);have:=C (by omega) z.1;clear h M hc A f B;lia
theorem UY {m:Nat}(h:0<m)(M:m<400000){w u v:Wk}{bs:List Bool}{c d:Nat}(C:c<=d)(F:i8 w (bs.take c) u)(S:kZ m u)(f:u.pl<=5000)(r:(u.re.length:Int)+u.pl<800000)(g:i8 w (bs.take d) v):i8 u ((bs.take d).drop c) v:=by
 obtain⟨j,k2,B,_⟩:=ql h M ((bs.take d).drop c) u S f r;have a:=va F B;have e:bs.take c++(bs.take d).drop c=bs.take d:=by
  have:=C6 c (bs.take d);rw[List.take_take,FO C]at this;exact this
 rw[e]at a;rw[nu g a];exact B
abbrev kj:A6:=top 64
theorem vF:aR ["some"] ["some"] (aB kj):=by f_are
def mE:dN:=λds P=>∃xs:List Int,ds=[.lst (xs.map .int)]/\0<xs.length/\xs.length<=1000000/\∀M:Nat,(∃x∈xs,iV x=M)->(∀x∈xs,iV x<=M)->P (.fz (.int M))
theorem wm (n:bN K mg "planes_of" kj f fd)(B:b_ mg)(KV:b7 K)(h:cc P w K mg base "heights_of" 1 ["some"] (cg K 1 il)):
  cc P w K mg base "planes_of" 2 ["some"] (cg K 1 mE):=by
 refine df.of n vF (by f_tup) rfl (λc A o s H E r=>⟨_,_,(aI (aX (aV (lx rfl) (by rfl) B.max IS (ae (aY h (r.mono (by decide)) (by rfl) (ae (pv 0) aD)) aD)))),
  (bt (a8 (bP qr (aH (aM (bV (a4 (aA aF aK)))) aP)))),?_⟩)
 rintro ds p ⟨xs,rfl,a,g,k⟩;fin2;refine⟨xs,rfl,g,?_⟩;fin2;refine⟨xs.map λx=>(iV x:Int),by simp only[AW,BG,OV.val],by simpa using a,λM j l=>?_⟩;obtain⟨x,m,rfl⟩:=Be.mp j;refine k (iV x) ⟨x,m,rfl⟩ λy e=>?_
 have:=l (iV y) (Be.mpr ⟨y,e,rfl⟩);lia
noncomputable def uR (t m s:Int):Int:=if t-s<0 then t+s else t-s
noncomputable def uQ (t m s:Int):Int:=if m<=t+s then t-s else t+s
abbrev jn:A6:=top 29
theorem iq:aR ["at","many","stride","left","right"] ["at","many","stride"] (aB jn):=by f_are
def fI:dN:=λds P=>match ds with
 | [.int t,.int m,.int s]=>if t-s<0/\m<=t+s then P (.fz .cA) else P (.fz (.tup [.int (uR t m s),.int (uQ t m s)]))
 |_=>False
theorem tQ (a:bN K mg "neighbours" jn f fd)(B:b_ mg)(KV:b7 K):
  cc P w K mg base "neighbours" 1 ["at","many","stride"] (cg K 3 fI):=by
 refine df.of a iq (by f_tup) rfl (λc A o s H E r=>⟨_,_,(aG (a5 (i:=3) iq.nd rfl (An rfl) (aW dr (pv 0) (pv 2)))
   (aG (a5 (i:=4) iq.nd rfl (An rfl) (aW cH (pv 0) (pv 2)))
   (aG (cj (n_ (bI iT (pv 3) aJ (bG _)) (mW (bI Tp (pv 4) (pv 1) (bG _)))).pt (aI (aX rD)) bM)
   (aG (cj (bI iT (pv 3) aJ (bG _)) (aI (aX (cb (ae (pv 4) (ae (pv 4) aD))))) bM)
   (aG (cj (bI Tp (pv 4) (pv 1) (bG _)) (aI (aX (cb (ae (pv 3) (ae (pv 3) aD))))) bM)
   (aI (aX (cb (ae (pv 3) (ae (pv 4) aD)))))))))),
  (aU (bx (a8 (aN b9 aC aC)))
   (aU (bx (a8 (aN b9 aC aC)))
   (aU (cC (n9 (bL (aN dI aC (aM aE))) (bL (aN dI aC aC))) (bt (a8 rj)) bO)
   (aU (cC (bL (aN dI aC (aM aE))) (bt (a8 (cG (aA aF (aA aF aK))))) bO)
   (aU (cC (bL (aN dI aC aC)) (bt (a8 (cG (aA aF (aA aF aK))))) bO)
   (bt (a8 (cG (aA aF (aA aF aK)))))))))),?_⟩)
 intro ds e h;unfold fI at h;split at h
 .rename_i t m s';fin2;unfold uR uQ at h;by_cases h1:t-s'<0<;>by_cases h2:m<=t+s'<;>simpa[h1,h2] using h
 .exact h.elim
theorem yH (xs:List Int)(t p:Nat)(v:Int)(h:t<xs.length):(xs.set t v).getD p 0=if p=t then v else xs.getD p 0:=by
 rw[Ak,Ak,EE];by_cases e:p=t
 .subst e;rw[c! rfl,c! rfl,c! h];rfl
 .rw [c? (λz=>e z.symm),c? e]
theorem yM {F:Nat->List Int->Int}(S:Nat->Prop)(n:Nat)(c:∀t xs ys,xs.length=n->ys.length=n->S t->t<n->(∀p,p=t∨¬ S p->xs.getD p 0=ys.getD p 0)->F t xs=F t ys):
  ∀(ts:List Nat) (xs:List Int),xs.length=n->ts.Nodup->(∀t∈ts,S t/\t<n)->
   (ts.foldl (λxs t=>xs.set t (F t xs)) xs).length=n/\∀p,(ts.foldl (λxs t=>xs.set t (F t xs)) xs).getD p 0=if p∈ts then F p xs else xs.getD p 0
 | [],xs,hl,_,_=>⟨hl,λp=>by simp⟩
 |t :: ts,xs,hl,f,a=>by
  obtain⟨j,g⟩:=AG.mp f;obtain⟨st,lt⟩:=a t Ay;obtain⟨m,k⟩:=yM S n c ts (xs.set t (F t xs)) (by rw[Bk];exact hl) g λu U=>a u (Ax _ U)
  refine⟨m,λp=>?_⟩;rw[B_,k p];by_cases h:p∈ts
  .rw [c! h,c! (Ax _ h)];obtain⟨sp,l⟩:=a p (Ax _ h);refine c p _ _ (by rw[Bk];exact hl) hl sp l λq Q=>?_
   rw[yH _ _ _ _ (by lia),c?];rintro rfl;rcases Q with rfl |Q
   .exact j h
   .exact Q st
  .rw [c? h,yH _ _ _ _ (by lia)];by_cases e:p=t
   .subst e;rw[c! rfl,c! Ay]
   .rw [c? e,c?];intro z;rcases AJ.mp z with z |z
    .exact e z
    .exact h z
structure Lf where
 h:Int
 l:Int
 r:Int
 a:Int
 s:Int
structure Lf.Ok (f:Lf):Prop where
 h:f.h=0∨f.h=1
 l : -8<=f.l/\f.l<=8
 r : -8<=f.r/\f.r<=8
 a : -64<=f.a/\f.a<=64
 s:0<=f.s/\f.s<=8
noncomputable def lP (f:Lf)(x y:Int):Int:=(f.l*x+f.r*y+f.a) / 2^f.s.toNat
noncomputable def yT (h n st:Int):Nat:=(if h*st<n then (n-h*st-1) / (2*st)+1 else 0).toNat
theorem xa {st:Int}(c:0<st)(i:Nat):i<yT h n st↔h*st+(i:Int)*(2*st)<n:=by
 unfold yT;have h2:0<2*st:=by lia
 have f:0<=(i:Int)*(2*st):=Fy (by lia) (by lia);split
 .have e:=E7 (a:=(i:Int)) (b:=n-h*st-1) h2;constructor
  .intro z;lia
  .intro z;lia
 .lia
def cP (h n st:Int):List Int:=if n<=st then [] else (AF (yT h n st)).map λ(i:Nat)=>h*st+(i:Int)*(2*st)
theorem fm {st:Int}(a:0<st):t∈cP h n st↔¬ n<=st/\t<n/\∃i:Nat,t=h*st+(i:Int)*(2*st):=by
 unfold cP;split
 .rename_i hn;constructor
  .intro z;cases z
  .intro z;exact absurd hn z.1
 .rename_i hn;rw[Be];constructor
  .rintro ⟨i,hi,rfl⟩;exact⟨hn,(xa a i).mp (BV.mp hi),i,rfl⟩
  .rintro ⟨_,h1,i,rfl⟩;exact⟨i,BV.mpr ((xa a i).mpr h1),rfl⟩
theorem uO {st:Int}(a:0<st):(cP h n st).Nodup:=by
 unfold cP;split
 .exact CB
 .refine J9 _ (λi j J=>?_) List.nodup_range;intro e;have:(i:Int)*(2*st)=(j:Int)*(2*st):=by lia
  have:=Int.eq_of_mul_eq_mul_right (by lia) this;lia
theorem o9 {st:Int}(c:0<st)(a:h=0∨h=1)(ht:t∈cP h n st):(0<=t/\t<n)/\(0<=uR t n st/\uR t n st<n)/\(0<=uQ t n st/\uQ t n st<n)/\¬ (t-st<0/\n<=t+st):=by
 obtain⟨h1,h2,i,rfl⟩:=(fm c).mp ht;have hi:0<=(i:Int)*(2*st):=Fy (by lia) (by lia);have e:0<=h*st:=by rcases a with rfl |rfl<;>lia
 have key:h*st+(i:Int)*(2*st)-st<0->h*st+(i:Int)*(2*st)=0:=by
  intro z;rcases Nat.eq_zero_or_pos i with rfl |p
  .rcases a with rfl |rfl
   .simp
   .simp at z ⊢<;>omega
  .have:1*(2*st)<=(i:Int)*(2*st):=BF (by lia) (by lia);lia
 generalize h*st+(i:Int)*(2*st)=t at *;unfold uR uQ;refine⟨⟨by lia,h2⟩,?_,?_,λz=>?_⟩
 .split<;>rename_i z
  .have:=key z;lia
  .lia
 .split
  .by_cases z:t-st<0
   .have:=key z;omega
   .lia
  .lia
 .have:=key z.1;lia
theorem ow {st:Int}(c:0<st)(ht:∃i:Nat,t=h*st+(i:Int)*(2*st))(U:u=uR t n st∨u=uQ t n st):¬ ∃j:Nat,u=h*st+(j:Int)*(2*st):=by
 rintro⟨j,J⟩;obtain⟨i,hi⟩:=ht;have key:∀d:Int,d=1∨d = -1->¬ (t+d*st=h*st+(j:Int)*(2*st)):=by
  intro d hd e;have f:((j:Int)-i)*(2*st)=d*st:=by rw[Km];lia
  have a:(((j:Int)-i)*2-d)*st=0:=by rw[Km,DB];omega
  rcases Int.mul_eq_zero.mp a with z |z
  .rcases hd with rfl |rfl<;>lia
  .lia
 have k1:=key 1 (.inl rfl);have k2:=key (-1) (.inr rfl);unfold uR uQ at U;rcases U with rfl |rfl
 .split at J
  .exact k1 (by lia)
  .exact k2 (by lia)
 .split at J
  .exact k2 (by lia)
  .exact k1 (by lia)
def ik (sg:Int)(f:Lf)(st:Int)(xs:List Int)(t:Int):Int:=
 xs.getD t.toNat 0+sg*lP f (xs.getD (uR t xs.length st).toNat 0) (xs.getD (uQ t xs.length st).toNat 0)
def oQ (sg:Int)(f:Lf)(st:Int)(xs:List Int)(t:Int):List Int:=xs.set t.toNat (ik sg f st xs t)
def iU (sg:Int)(f:Lf)(st:Int)(xs:List Int):List Int:=(cP f.h xs.length st).foldl (oQ sg f st) xs
theorem u_ (sg:Int)(f:Lf)(st:Int):∀(ts:List Int) (xs:List Int),(∀t∈ts,0<=t)->ts.foldl (oQ sg f st) xs=(ts.map I_).foldl (λxs t=>xs.set t (ik sg f st xs (t:Int))) xs
 | [],_,_=>rfl
 |t::ts,xs,h=>by
  rw[BU,B_,B_,u_ sg f st ts _ λu U=>h u (Ax _ U)];have:=h t Ay;unfold oQ;rw[show ((t.toNat:Nat):Int)=t by lia]
theorem Oa {st:Int}(c:0<st)(l:f.h=0∨f.h=1)(k:Nat):
  (((cP f.h xs.length st).take k).foldl (oQ sg f st) xs).length=xs.length/\
  ∀p:Nat,(((cP f.h xs.length st).take k).foldl (oQ sg f st) xs).getD p 0=if (p:Int)∈(cP f.h xs.length st).take k then ik sg f st xs p else xs.getD p 0:=by
 by_cases hn:(xs.length:Int)<=st
 .have e:cP f.h xs.length st=[]:=c! hn;rw[e];exact⟨by simp,λp=>by simp⟩
 have n:∀t∈(cP f.h xs.length st).take k,0<=t/\t<xs.length/\t∈cP f.h xs.length st:=λt ht=>by
  have m:=Ey ht;have:=(o9 c l m).1;exact⟨this.1,this.2,m⟩
 rw[u_ sg f st _ xs λt ht=>(n t ht).1];have o:(((cP f.h xs.length st).take k).map I_).Nodup:=by
  rw[Bp,ED];refine DV (R:=λa b=>a≠b) (λ{a b} v B A e=>A ?_) ((uO c).sublist (FW _ _));have:=(n a v).1;have:=(n b B).1;lia
 obtain⟨j,G⟩:=yM (F:=λt ys=>ik sg f st ys (t:Int)) (λp=>∃i:Nat,(p:Int)=f.h*st+(i:Int)*(2*st)) xs.length (λt ys O r q ht L g=>by
   unfold ik;have m:(t:Int)∈cP f.h xs.length st:=(fm c).mpr ⟨hn,by (clear hn;lia),ht⟩;obtain⟨_,T,Q,_⟩:=o9 c l m;rw[r,q];have M:=g (uR t xs.length st).toNat (.inr λz=>ow c ht (.inl rfl) (by rw[show (((uR (t:Int) xs.length st).toNat:Nat):Int)=uR t xs.length st by omega]at z;exact z));have J:=g (uQ t xs.length st).toNat (.inr λz=>ow c ht (.inr rfl) (by rw[show (((uQ (t:Int) xs.length st).toNat:Nat):Int)=uQ t xs.length st by omega]at z;exact z));rw[M,J,g _ (.inl (by lia))]) _ xs rfl o (λt ht=>by
   obtain⟨u,U,rfl⟩:=Be.mp ht;obtain⟨h1,h2,C⟩:=n u U;obtain⟨_,_,i,hi⟩:=(fm c).mp C;exact⟨⟨i,by lia⟩,by lia⟩)
 refine⟨j,λp=>?_⟩;rw[G p];have:p∈((cP f.h xs.length st).take k).map I_↔(p:Int)∈(cP f.h xs.length st).take k:=by
  constructor
  .intro z;obtain⟨u,U,e⟩:=Be.mp z;have:=(n u U).1;rw[show (p:Int)=u by (clear c hn j;lia)];exact U
  .intro z;exact Be.mpr ⟨_,z,by (clear c hn j;lia)⟩
 by_cases g:(p:Int)∈(cP f.h xs.length st).take k
 .rw [c! g,c! (this.mpr g)]
 .rw [c? g,c? λz=>g (this.mp z)]
theorem m_ {st:Int}(a:0<st)(c:f.h=0∨f.h=1):
  (iU sg f st xs).length=xs.length/\∀p:Nat,(iU sg f st xs).getD p 0=if (p:Int)∈cP f.h xs.length st then ik sg f st xs p else xs.getD p 0:=by
 have h:=Oa (sg:=sg) (xs:=xs) a c (cP f.h xs.length st).length;rw[BD]at h;exact h
theorem UJ {xs ys:List Int}(hl:xs.length=ys.length)(h:∀p:Nat,xs.getD p 0=ys.getD p 0):xs=ys:=by
 refine IA hl λi h1 h2=>?_
 have:=h i;rw[Ak,Ak,Ad h1,Ad h2]at this;exact this
theorem Qk {sg:Int}{f:Lf}{st:Int}{xs:List Int}(a:0<st)(e:f.h=0∨f.h=1):iU (-sg) f st (iU sg f st xs)=xs:=by
 obtain⟨l,g1⟩:=m_ a e;obtain⟨L,g2⟩:=m_ (sg:=-sg) (xs:=iU sg f st xs) a e;refine UJ (L.trans l) λp=>?_
 rw[g2 p,l];by_cases c:(p:Int)∈cP f.h xs.length st
 .rw [c! c];unfold ik;obtain⟨j,g,B,_⟩:=o9 a e c;obtain⟨_,_,i,hi⟩:=(fm a).mp c;have O:¬ uR (p:Int) xs.length st∈cP f.h xs.length st:=λz=>ow a ⟨i,hi⟩ (.inl rfl) ((fm a).mp z).2.2
  have o:¬ uQ (p:Int) xs.length st∈cP f.h xs.length st:=λz=>ow a ⟨i,hi⟩ (.inr rfl) ((fm a).mp z).2.2
  rw[l,g1,g1,g1];rw[show (((p:Int).toNat:Nat):Int)=p by (clear l L;lia),c! c,show (((uR (p:Int) xs.length st).toNat:Nat):Int)=uR p xs.length st by (clear l L hi;lia),c? O,show (((uQ (p:Int) xs.length st).toNat:Nat):Int)=uQ p xs.length st by (clear l L hi;lia),c? o];unfold ik;rw[FX,show ((p:Int).toNat)=p by (clear l L;lia)];lia
 .rw [c? c,g1 p,c? c]
def cm (fs:List Lf)(st:Int)(xs:List Int):List Int:=fs.foldl (λxs f=>iU 1 f st xs) xs
def iG (fs:List Lf)(st:Int)(xs:List Int):List Int:=fs.reverse.foldl (λxs f=>iU (-1) f st xs) xs
theorem uM {st:Int}(a:0<st):∀{fs:List Lf} (xs:List Int),(∀f∈fs,f.h=0∨f.h=1)->(cm fs st xs).length=xs.length
 | [],_,_=>rfl
 |f::fs,xs,h=>by
  unfold cm;exact (uM a (iU 1 f st xs) λg hg=>h g (Ax _ hg)).trans (m_ a (h f Ay)).1
theorem pf {st:Int}(c:0<st):∀{fs:List Lf} (xs:List Int),(∀f∈fs,f.h=0∨f.h=1)->iG fs st (cm fs st xs)=xs
 | [],_,_=>rfl
 |f::fs,xs,h=>by
  have a:=pf c (iU 1 f st xs) λg hg=>h g (Ax _ hg)
  unfold iG cm at a ⊢;rw[B_,Fv,DM,a];exact Qk c (h f Ay)
section GL
variable {α β:Type}
theorem Qr (z:α)(xs:List α)(t p:Nat)(v:α)(h:t<xs.length):(xs.set t v).getD p z=if p=t then v else xs.getD p z:=by
 rw[Ak,Ak,EE];by_cases e:p=t
 .subst e;rw[c! rfl,c! rfl,c! h];rfl
 .rw [c? (λz=>e z.symm),c? e]
theorem Qw (z:α){xs ys:List α}(hl:xs.length=ys.length)(h:∀p:Nat,p<xs.length->xs.getD p z=ys.getD p z):xs=ys:=by
 refine IA hl λi h1 h2=>?_
 have:=h i h1;rw[Ak,Ak,Ad h1,Ad h2]at this;exact this
def jz (z:α)(G:α->α->α->α)(st:Int)(xs:List α)(t:Int):α:=G (xs.getD t.toNat z) (xs.getD (uR t xs.length st).toNat z) (xs.getD (uQ t xs.length st).toNat z)
def px (z:α)(G:α->α->α->α)(st:Int)(xs:List α)(t:Int):List α:=xs.set t.toNat (jz z G st xs t)
def ic (z:α)(G:α->α->α->α)(h st:Int)(xs:List α):List α:=(cP h xs.length st).foldl (px z G st) xs
theorem u5 {G:α->α->α->α}{st:Int}:∀(ts:List Int) (xs:List α),(ts.foldl (px z G st) xs).length=xs.length
 | [],_=>rfl
 |t::ts,xs=>by
  rw[B_,u5 ts];exact Bk
theorem à {G:α->α->α->α}{st:Int}(a:0<st)(j:h=0∨h=1):∀(k:Nat),
  (((cP h xs.length st).take k).foldl (px z G st) xs).length=xs.length/\
  ∀p:Nat,(((cP h xs.length st).take k).foldl (px z G st) xs).getD p z=if (p:Int)∈(cP h xs.length st).take k then jz z G st xs p else xs.getD p z
 | 0=>⟨rfl,λp=>rfl⟩
 |k + 1 => by
  obtain⟨l,g1⟩:=à a j k;by_cases g:k<(cP h xs.length st).length
  .rw [AO g,DM];have m:(cP h xs.length st)[k]∈cP h xs.length st:=BJ g;generalize ht:(cP h xs.length st)[k]=t at m ⊢;obtain⟨A,v,B,_⟩:=o9 a j m;obtain⟨_,_,i,hi⟩:=(fm a).mp m;have O:¬ uR t xs.length st∈(cP h xs.length st).take k:=λz=>ow a ⟨i,hi⟩ (.inl rfl) ((fm a).mp (Ey z)).2.2
   have o:¬ uQ t xs.length st∈(cP h xs.length st).take k:=λz=>ow a ⟨i,hi⟩ (.inr rfl) ((fm a).mp (Ey z)).2.2
   have r:¬ t∈(cP h xs.length st).take k:=λz=>by
    obtain⟨q,Q,eq⟩:=Hx.mp z;rw[BE]at Q;rw[List.getElem_take]at eq;have n:=GQ.mp (uO a) q k (by (clear l hi eq;lia)) g (by (clear l hi eq;lia));exact n (by rw[eq,ht])
   generalize ((cP h xs.length st).take k).foldl (px z G st) xs=c at l g1;have u:jz z G st c t=jz z G st xs t:=by
    unfold jz;rw[l,g1,g1,g1,show ((t.toNat:Nat):Int)=t by (clear ht l;lia),c? r,show (((uR t xs.length st).toNat:Nat):Int)=uR t xs.length st by (clear ht hi l;lia),c? O,show (((uQ t xs.length st).toNat:Nat):Int)=uQ t xs.length st by (clear ht hi l;lia),c? o]
   refine⟨by rw[B_];show (c.set _ _).length=_;rw[Bk];exact l,λp=>?_⟩;show (c.set t.toNat (jz z G st c t)).getD p z=_
   rw[Qr z c t.toNat p _ (by (clear ht;lia)),u,g1 p];by_cases e:p=t.toNat
   .have e':(p:Int)=t:=by (clear ht l;lia)
    rw[c! e,c! (by rw[e'];simp),e']
   .rw [c? e];have:((p:Int)∈(cP h xs.length st).take k++[t])↔(p:Int)∈(cP h xs.length st).take k:=by
     rw[AB,AV];constructor
     .rintro (q |q)
      .exact q
      .clear ht l;lia
     .exact .inl
    by_cases f:(p:Int)∈(cP h xs.length st).take k
    .rw [c! f,c! (this.mpr f)]
    .rw [c? f,c? λq=>f (this.mp q)]
  .rw [BS (by lia)];rw[BS (by lia)]at l g1;exact⟨l,g1⟩
theorem UB {G:α->α->α->α}{st:Int}(a:0<st)(c:h=0∨h=1):
  (ic z G h st xs).length=xs.length/\∀p:Nat,(ic z G h st xs).getD p z=if (p:Int)∈cP h xs.length st then jz z G st xs p else xs.getD p z:=by
 have q:=à (z:=z) (G:=G) (xs:=xs) a c (cP h xs.length st).length;rw[BD]at q;exact q
theorem š {R:α->β->Prop}{G:α->α->α->α}{G':β->β->β->β}{st:Int}(e:0<st)(g:h=0∨h=1)(hl:xs.length=ys.length)
  (f:∀p:Nat,p<xs.length->R (xs.getD p z) (ys.getD p y)) (k:∀a b c A B c',R a A->R b B->R c c'->R (G a b c) (G' A B c')):
  ∀p:Nat,p<xs.length->R ((ic z G h st xs).getD p z) ((ic y G' h st ys).getD p y):=by
 intro p j;obtain⟨_,g1⟩:=UB e g;obtain⟨_,g2⟩:=UB e g;rw[g1,g2,<- hl];by_cases m:(p:Int)∈cP h xs.length st
 .rw [c! m,c! m];obtain⟨o,n,l,_⟩:=o9 e g m;unfold jz;rw[<- hl];exact k _ _ _ _ _ _ (f _ (by lia)) (f _ (by (clear e l;lia))) (f _ (by (clear e;lia)))
 .rw [c? m,c? m];exact f p j
def fK (z:α)(G:Lf->α->α->α->α)(fs:List Lf)(i:Nat)(st:Int)(xs:List α):List α:=(fs.reverse.take i).foldl (λxs f=>ic z (G f) f.h st xs) xs
def d7 (z:α)(G:Lf->α->α->α->α)(fs:List Lf)(st:Int)(xs:List α):List α:=fs.reverse.foldl (λxs f=>ic z (G f) f.h st xs) xs
theorem wZ {z:α}{G:Lf->α->α->α->α}{fs:List Lf}{st:Int}{xs:List α}:fK z G fs 0 st xs=xs:=rfl
theorem yK {G:Lf->α->α->α->α}{st:Int}:fK z G fs fs.length st xs=d7 z G fs st xs:=by
 unfold fK d7;rw[BS (by simp)]
theorem w6 {G:Lf->α->α->α->α}{st:Int}(hi:i<fs.length)(h:fs[fs.length-1-i]?=a! f):fK z G fs (i+1) st xs=ic z (G f) f.h st (fK z G fs i st xs):=by
 unfold fK;have a:i<fs.reverse.length:=by simpa using hi
 have e:fs.reverse[i]=f:=by
  have:=Ce hi;rw[h,Ad a]at this;exact AY this
 rw[AO a,e,DM];rfl
theorem iW {G:α->α->α->α}{st:Int}:(ic z G h st xs).length=xs.length:=u5 _ _
theorem iX {G:Lf->α->α->α->α}{st:Int}:∀(a:List Lf) (xs:List α),(a.foldl (λxs f=>ic z (G f) f.h st xs) xs).length=xs.length
 | [],_=>rfl
 |g::a,xs=>by rw[B_,iX a,iW]
theorem yJ {G:Lf->α->α->α->α}{st:Int}:(fK z G fs i st xs).length=xs.length:=iX _ _
theorem Mz {G:Lf->α->α->α->α}{st:Int}:(d7 z G fs st xs).length=xs.length:=iX _ _
theorem u6 {R:α->β->Prop}{G:Lf->α->α->α->α}{G':Lf->β->β->β->β}{st:Int}(k:0<st):∀(e:List Lf) (xs:List α) (ys:List β),(∀f∈e,f.Ok)->xs.length=ys.length->
  (∀p:Nat,p<xs.length->R (xs.getD p z) (ys.getD p y))->(∀f:Lf,f.Ok->∀a b c A B c',R a A->R b B->R c c'->R (G f a b c) (G' f A B c'))->
  ∀p:Nat,p<xs.length->R ((e.foldl (λxs f=>ic z (G f) f.h st xs) xs).getD p z) ((e.foldl (λys f=>ic y (G' f) f.h st ys) ys).getD p y)
 | [],xs,ys,_,_,j,_=>j
 |f::e,xs,ys,ok,hl,j,l=>λp m=>by
  rw[B_,B_];have o:=ok f Ay;refine u6 k e _ _ (λg hg=>ok g (Ax _ hg)) (by rw[iW,iW,hl]) (λq Q=>?_) l p (by rw[iW];exact m);rw[iW]at Q;exact š k o.h hl j (l f o) q Q
theorem sT {R:α->β->Prop}{G:Lf->α->α->α->α}{G':Lf->β->β->β->β}{st:Int}(h:0<st)(ok:∀f∈fs,f.Ok)(hl:xs.length=ys.length)
  (e:∀p:Nat,p<xs.length->R (xs.getD p z) (ys.getD p y)) (g:∀f:Lf,f.Ok->∀a b c A B c',R a A->R b B->R c c'->R (G f a b c) (G' f A B c')):
  ∀p:Nat,p<xs.length->R ((d7 z G fs st xs).getD p z) ((d7 y G' fs st ys).getD p y):=
 u6 h fs.reverse xs ys (λf hf=>ok f (Dz.mp hf)) hl e g
end GL
abbrev hG:=Int×Int
noncomputable def jK (f:Lf)(l r:hG):hG:=
 let t (s:hG) (m:Int):hG:=if m<0 then (s.2*m,s.1*m) else (s.1*m,s.2*m)
 (((t l f.l).1+(t r f.r).1+f.a) / 2^f.s.toNat,((t l f.l).2+(t r f.r).2+f.a) / 2^f.s.toNat)
def dh (f:Lf)(x l r:hG):hG:=(x.1-(jK f l r).2,x.2-(jK f l r).1)
theorem r9 {a b m:Int}(h:a<=b)(M:0<=m):a*m<=b*m:=BF h M
theorem r_ {a b m:Int}(h:a<=b)(M:m<0):b*m<=a*m:=Int.mul_le_mul_of_nonpos_right h (by lia)
theorem S_ (n:Nat):(0:Int)<2^n:=HH (by decide)
theorem sV {a b:Int}(n:Nat)(h:a<=b):a / 2^n<=b / 2^n:=Int.ediv_le_ediv (S_ n) h
theorem Sr (hl:l.1<=L.1/\L.1<=L.2/\L.2<=l.2)(c:r.1<=a.1/\a.1<=a.2/\a.2<=r.2):
  (jK f l r).1<=(jK f L a).1/\(jK f L a).1<=(jK f L a).2/\(jK f L a).2<=(jK f l r).2:=by
 have key:∀(m:Int) (s s':hG),s.1<=s'.1/\s'.1<=s'.2/\s'.2<=s.2->(if m<0 then (s.2*m,s.1*m) else (s.1*m,s.2*m)).1<=(if m<0 then (s'.2*m,s'.1*m) else (s'.1*m,s'.2*m)).1/\
   (if m<0 then (s'.2*m,s'.1*m) else (s'.1*m,s'.2*m)).1<=(if m<0 then (s'.2*m,s'.1*m) else (s'.1*m,s'.2*m)).2/\(if m<0 then (s'.2*m,s'.1*m) else (s'.1*m,s'.2*m)).2<=(if m<0 then (s.2*m,s.1*m) else (s.1*m,s.2*m)).2:=by
  rintro m s s' ⟨h1,h2,e⟩;by_cases h:m<0
  .simp only[h];exact⟨r_ e h,r_ h2 h,r_ h1 h⟩
  .simp only[h];exact⟨r9 h1 (by lia),r9 h2 (by lia),r9 e (by lia)⟩
 obtain⟨j,n,A⟩:=key f.l l L hl;obtain⟨g,k,B⟩:=key f.r r a c;unfold jK;dsimp only;exact⟨sV _ (by lia),sV _ (by (clear hl c j A g B;lia)),sV _ (by lia)⟩
def Uu (s s':hG):Prop:=s.1<=s'.1/\s'.1<=s'.2/\s'.2<=s.2
theorem SG (A:Uu a e)(h:Uu b B)(hc:Uu c c'):Uu (dh f a b c) (dh f e B c'):=by
 obtain⟨g1,g2,g3⟩:=Sr (f:=f) h hc;unfold Uu at A ⊢;unfold dh;exact⟨by dsimp only;lia,by dsimp only;lia,by dsimp only;lia⟩
theorem PN:dh f (x,x) (l,l) (r,r)=(x+(-1)*lP f l r,x+(-1)*lP f l r):=by
 unfold dh jK lP;have e:∀m y:Int,(if m<0 then (y*m,y*m) else (y*m,y*m))=(m*y,m*y):=λm y=>by
  rw[Es y m];split<;>rfl
 dsimp only;rw[e,e];simp only[Md];lia
theorem v7 {lo:Int}(hc:0<c)(i:Nat):i<eu lo hi c↔lo+(i:Int)*c<hi:=by
 unfold eu AT;rw[c! (show c > 0 from hc)];have h:0<=(i:Int)*c:=Fy (by lia) (by lia);split
 .have e:=E7 (a:=(i:Int)) (b:=hi-lo-1) hc;have f:0<=(hi-lo-1) / c:=GF (by lia) (by lia);constructor
  .intro z;have:=e.mp (by omega);lia
  .intro z;have:=e.mpr (by lia);lia
 .simp only[Int.toNat_zero];lia
theorem wK {a b:Nat}(h:∀i,i<a↔i<b):a=b:=by
 rcases Nat.lt_trichotomy a b with z |z |z
 .exact absurd ((h a).mpr z) (B7 _)
 .exact z
 .exact absurd ((h b).mp z) (B7 _)
section PT
variable {α:Type}
end PT
theorem wW {n:Nat}{i:Int}(a:0<=i)(h:i<n):pq n i=a! i.toNat:=by
 unfold pq;rw[c! a,c! h]
theorem qs {a:Type}(z:a){g:a->D}{xs:List a}{i:Int}(c:0<=i)(h:i<xs.length):jB (xs.map g) i=a! (g (xs.getD i.toNat z)):=by
 have hi:i.toNat<xs.length:=by lia
 have e:=dw (xs:=xs.map g) (j:=i.toNat) (v:=g (xs.getD i.toNat z)) (by simp[hi])
 rwa[show ((i.toNat:Nat):Int)=i by lia]at e
theorem vq {a:Type}{xs:List a}{g:a->D}:Bo OV.val (xs.map λx=>OV.fz (g x))=xs.map g:=by
 rw[AW];rfl
theorem Xd {a:Type}{xs:List a}{g:a->D}:(xs.map g).map OV.fz=xs.map λx=>OV.fz (g x):=by
 rw[AW];rfl
theorem R0 {a c:Type}{xs:List a}{i:Nat}{v:a}{g:a->c}:(xs.map g).set i (g v)=(xs.set i v).map g:=by
 rw[JS]
theorem Wb {st:Int}(a:0<st):eu (h*st) n (2*st)=yT h n st:=by
 unfold eu yT AT;rw[c! (show 2*st > 0 by lia)]
noncomputable def yb (h n st:Int)(k:Nat):List Int:=if n<=st then [] else (AF k).map λ(i:Nat)=>h*st+(i:Int)*(2*st)
def Ϫ (n st:Int)(t:Int):D:=.tup [.int t,.int (uR t n st),.int (uQ t n st)]
abbrev fT:A6:=top 30
theorem ez:aR ["half","many","stride","found","at","pair"] ["half","many","stride"] (aB fT):=by f_are
def cZ:dN:=λds P=>match ds with
 | [.int h,.int n,.int st]=>((h=0∨h=1)/\0<st/\st<=64/\0<=n/\n<=100000)/\P (.nl ((cP h n st).map λt=>.fz (Ϫ n st t)))
 |_=>False
theorem om (v:bN K mg "lifted_places" fT f fd)(B:b_ mg)(KV:b7 K)(g:cc P w K mg base "neighbours" 1 ["at","many","stride"] (cg K 3 fI)):
  cc P w K mg base "lifted_places" 2 ["half","many","stride"] (cg K 3 cZ):=by
 refine df.of v ez (by f_tup) rfl (λc A o s H E r=>⟨_,_,(aG (a5 (i:=3) ez.nd rfl (An rfl) (cV aD))
   (aG (dz AM rfl (lp (by rfl) (by exact B.range) (ae (aW gQ (pv 0) (pv 2)) (ae (pv 1) (ae (aW gQ aJ (pv 2)) aD)))) (bB (i:=4) ez.nd rfl (An rfl)) (aG (a5 (i:=5) ez.nd rfl (An rfl) (aY g (r.mono (by decide)) (by rfl) (ae (pv 4) (ae (pv 1) (ae (pv 2) aD)))))
   (aI (cj (bI Wq (pv 5) rD (bG _)) (aI (bY (gM Bj PySem.F.slot_list_append PySem.F.type_list_append dD (pv 3) (ae (cb (ae (pv 4) (ae (aS aQ (pv 5) aJ (λ_ _=>rfl)) (ae (aS aQ (pv 5) aJ (λ_ _=>rfl)) aD)))) aD)))) bM))))
   (aI (aX (pv 3))))),
  (aU (bx (dS cU))
   (aU (et (qe (aH (aM (aN cn aC aC)) (aH aC (aH (aM (aN cn (aM aE) aC)) aP)))) bD (aU (bx (a8 (bV (a4 (aA aF (aA aF (aA aF aK)))))))
   (cC (bL (aN WD aC (aM rj))) (Sf (a8 (cG (aA aF (aA (bE aT aF aE) (aA (bE aT aF aE) aK)))))) bO)))
   fJ)),?_⟩)
 intro ds T h;unfold cZ at h;split at h
 .rename_i h' n st;obtain⟨⟨m,l,G,M,J⟩,k⟩:=h;fin2;refine⟨.inr ⟨by lia,by lia⟩,⟨by rcases m with rfl |rfl<;>lia,by rcases m with rfl |rfl<;>lia,by lia,by lia,by lia,by lia⟩,?_⟩;rw[Wb l];refine⟨λi δ=>i<=yT h' n st/\∃p O,δ=[vI h',vI n,vI st,vL ((yb h' n st i).map λt=>.fz (Ϫ n st t)),p,O],⟨By _,_,_,by unfold yb;split<;>rfl⟩,?_,?_⟩
  .rintro i d δ hd ⟨q,p,O,rfl⟩;obtain⟨hi,rfl⟩:=eU hd;have L:=(xa (h:=h') (n:=n) l i).mp hi;have C:yT h' n st<=100001:=by
    rcases Ep 100001 (yT h' n st) with z |z
    .have:=(xa (h:=h') (n:=n) l 100001).mp z;have u:0<=h'*st:=by rcases m with rfl |rfl<;>lia
     lia
    .exact z
   fin2;unfold fI;generalize ht:h'*st+(i:Int)*(2*st)=t at *
   try dsimp only
   split
   .rename_i hn;fin2;have a:n<=st:=by
     rcases Jb st n with z |z
     .exact absurd hn (o9 l m ((fm l).mpr ⟨by lia,L,i,ht.symm⟩)).2.2.2
     .exact z
    have e:∀j,yb h' n st j=[]:=λj=>c! a
    rw[e,e];exact⟨hi,_,_,rfl⟩
   .rename_i hn;fin2;have a:¬ n<=st:=λz=>hn (by
     have u:0<=(i:Int)*(2*st):=Fy (by lia) (by lia);have h1:0<=h'*st:=by rcases m with rfl |rfl<;>lia
     constructor<;>omega)
    have Q:(yb h' n st i).length=i:=by unfold yb;rw[c? a];simp
    have e:yb h' n st (i+1)=yb h' n st i++[t]:=by
     unfold yb;rw[c? a,c? a,EK,Bc,<- ht];rfl
    rw[e,Bc];exact⟨by lia,hi,_,_,rfl⟩
  .rintro δ ⟨_,p,O,rfl⟩;fin2;rw[eG];exact k
 .exact h.elim
noncomputable def zp (f:Lf):D:=.tup [.int f.h,.int f.l,.int f.r,.int f.a,.int f.s]
abbrev zW:A6:=top 31
theorem VV:aR ["lift","left","right"] ["lift","left","right"] (aB zW):=by f_are
def Np:dN:=λds P=>∃(f:Lf) (x y:Int),ds=[zp f,.int x,.int y]/\f.Ok/\P (.fz (.int (lP f x y)))
theorem Wy (e:bN K mg "gain" zW f fd)(B:b_ mg)(KV:b7 K)(g:∃t,mg "SHIFT"=a! (.int 4 t))(a:∃t,mg "ADD"=a! (.int 3 t))(L:∃t,mg "LEFT"=a! (.int 1 t))(G:∃t,mg "RIGHT"=a! (.int 2 t)):
  cc P w K mg base "gain" 1 ["lift","left","right"] (cg K 3 Np):=by
 refine df.of e VV (by f_tup) rfl (λc A o s H E j=>⟨_,_,(aI (aX (aW rK (aW cH (aW cH (aW gQ (aS aQ (pv 0) (aO (by rfl) L) (λ_ _=>rfl)) (pv 1)) (aW gQ (aS aQ (pv 0) (aO (by rfl) G) (λ_ _=>rfl)) (pv 2))) (aS aQ (pv 0) (aO (by rfl) a) (λ_ _=>rfl))) (aS aQ (pv 0) (aO (by rfl) g) (λ_ _=>rfl))))),
  (bt (a8 (aN cn (aM (aN b9 (aM (aN b9 (aM (aN cn (bA (dm.b aT) aC (aM aE)) aC)) (aM (aN cn (bA (dm.b aT) aC (aM aE)) aC)))) (bA (dm.b aT) aC (aM aE)))) (bA (dm.b aT) aC (aM aE))))),?_⟩)
 rintro ds m ⟨f,x,y,rfl,ok,k⟩;have h1:=ok.l;have h2:=ok.r;have h:=ok.s;simp only[zp];fin2;exact⟨mulL (by lia) (by lia),mulL (by lia) (by lia),h.1,k⟩
def eK (fs:List Lf):D:=.tup (fs.map zp)
noncomputable def iL (xs:List Int):D:=.lst (xs.map D.int)
noncomputable def iO (xs:List Int):OV:=.nl (xs.map λx=>.fz (.int x))
theorem z0 {st:Int}{xs:List Int}{fs:List Lf}{i:Nat}{f:Lf}(h:fs[i]?=a! f):cm (fs.take (i+1)) st xs=iU 1 f st (cm (fs.take i) st xs):=by
 obtain⟨hi,e⟩:=Ab.mp h;rw[AO hi,e];unfold cm;rw[DM];rfl
abbrev qY:A6:=top 32
theorem gu:aR ["row","ladder","stride","things","lift","at","left","right"] ["row","ladder","stride"] (aB qY):=by f_are
def fA:dN:=λds P=>∃(xs:List Int) (fs:List Lf) (st:Int),ds=[iL xs,eK fs,.int st]/\((∀f∈fs,f.Ok)/\0<st/\st<=64/\xs.length<=100000)/\P (iO (cm fs st xs))
theorem P6 (Df:bN K mg "raised" qY f fd)(B:b_ mg)(KV:b7 K)(L:∃t,mg "HALF"=a! (.int 0 t))(l:cc P w K mg base "lifted_places" 2 ["half","many","stride"] (cg K 3 cZ))(a:cc P w K mg base "gain" 1 ["lift","left","right"] (cg K 3 Np)):
  cc P w K mg base "raised" 3 ["row","ladder","stride"] (cg K 3 fA):=by
 refine df.of Df gu (by f_tup) rfl (λc A o s H E hr=>⟨_,_,(aG (a5 (i:=3) gu.nd rfl (An rfl) (iS gW (by rfl) B.list Bn (ae (pv 0) aD)))
   (aG (dz AM rfl (S' (pv 1)) (bB (i:=4) gu.nd rfl (An rfl)) (aI (dz AM rfl (c8 (aY l (hr.mono (by decide)) (by rfl) (ae (aS aQ (pv 4) (aO (by rfl) L) (λ_ _=>rfl)) (ae (aV a_ (by rfl) B.len Bf (ae (pv 0) aD)) (ae (pv 2) aD))))) (ma (n:=3) rfl (cS (bB (i:=5) gu.nd rfl (An rfl)) (cS (bB (i:=6) gu.nd rfl (An rfl)) (cS (bB (i:=7) gu.nd rfl (An rfl)) jv)))) (aI (Wf (pv 3) (pv 5) Qq (aY a (hr.mono (by decide)) (by rfl) (ae (pv 4) (ae (aS bR (pv 3) (pv 6) (λ_ _=>rfl)) (ae (aS bR (pv 3) (pv 7) (λ_ _=>rfl)) aD)))) Us fN)))))
   (aI (aX (pv 3))))),
  (aU (bx (xQ nG (aA aF aK)))
   (aU (et (Sq aF) bD (et (dv (bV (a4 (aA (bE aT aF aE) (aA (bP cN (aH aC aP)) (aA aF aK)))))) (l_ (cR bD (cR bD (cR bD js)))) (VY aC (aM (bV (fO (aH aC (aH (bA (dm.b cw) aC aC) (aH (bA (dm.b cw) aC aC) aP)))))))))
   fJ)),?_⟩)
 rintro ds Pr ⟨xs,fs,st,rfl,⟨p,C,s1,hx⟩,k⟩;simp only[iL,eK];fin2;refine⟨λi δ=>∃G v r q,δ=[vD (iL xs),vD (eK fs),vI st,a! (.own (iO (cm (fs.take i) st xs))),G,v,r,q],⟨a?,a?,a?,a?,by simp[iL,eK,iO,cm]⟩,?_,?_⟩
 .rintro i d δ hd ⟨G,v,r,q,rfl⟩;obtain⟨f,hf,rfl⟩:=m7 hd;have O:=p f (Ai hf);have m:(cm (fs.take i) st xs).length=xs.length:=uM C xs λg hg=>(p g (Ey hg)).h
  dsimp only;rw[z0 hf];generalize hc:cm (fs.take i) st xs=u at m;simp only[iL,eK,iO,zp];fin2;simp only[cZ];refine⟨⟨O.h,C,s1,by lia,by lia⟩,?_⟩;fin2;simp only[AW,BG,OV.val];rw[<- m];refine⟨λj δ=>∃v r q,δ=[vD (iL xs),vD (eK fs),vI st,a! (.own (iO (((cP f.h u.length st).take j).foldl (oQ 1 f st) u))),vD (zp f),v,r,q],⟨_,_,_,rfl⟩,?_,?_⟩
  .rintro j e δ he ⟨p2,p3,p4,rfl⟩;obtain⟨t,ht,rfl⟩:=m7 he;have M:t∈cP f.h u.length st:=Ai ht;obtain⟨Q,J⟩:=Ab.mp ht;obtain⟨b0,b1,b2,_⟩:=o9 C O.h M;have z:=(Oa (sg:=1) (f:=f) (st:=st) (xs:=u) C O.h j).1;have T:(cP f.h u.length st).take (j+1)=(cP f.h u.length st).take j++[t]:=by
    rw[AO Q,J]
   dsimp only;rw[T,DM];generalize hw:((cP f.h u.length st).take j).foldl (oQ 1 f st) u=U at z;simp only[iL,eK,iO,Ϫ,zp];fin2;refine⟨b0.1,_,W9 b0.1 (by lia),_,nK b1.1 (by lia),_,nK b2.1 (by lia),f,_,_,rfl,O,?_⟩;fin2;simp only[B_,Jk,oQ,ik,z,JU];exact⟨_,_,_,rfl⟩
  .rintro δ ⟨p2,p3,p4,rfl⟩;rw[Au,BD];exact⟨_,_,_,_,rfl⟩
 .rintro δ ⟨G,v,r,q,rfl⟩;fin2;rw[BD];exact k
noncomputable def fy (s:hG):D:=.tup [.int s.1,.int s.2]
def sL (xs:List hG):D:=.lst (xs.map fy)
def sO (xs:List hG):OV:=.nl (xs.map λs=>.fz (fy s))
theorem WQ {xs:List hG}:OV.jU (xs.map λs=>OV.fz (fy s))=true:=by
 rw[OV.kQ];simp[OV.lf,D.lf,D.jU,fy]
theorem Ml:(fy s).lf=true:=by simp[D.lf,D.jU,fy]
abbrev zU:A6:=top 10
theorem VU:aR ["one","other"] ["one","other"] (aB zU):=by f_are
def Nm:dN:=λds P=>∃a b:hG,ds=[fy a,fy b]/\P (.fz (fy (a.1+b.1,a.2+b.2)))
theorem Ww (e:bN K mg "plus" zU f fd)(B:b_ mg)(KV:b7 K):
  cc P w K mg base "plus" 1 ["one","other"] (cg K 2 Nm):=by
 refine df.of e VU (by f_tup) rfl (λc A o s H E h=>⟨_,_,(aI (aX (cb (ae (aW cH (aS aQ (pv 0) aJ (λ_ _=>rfl)) (aS aQ (pv 1) aJ (λ_ _=>rfl))) (ae (aW cH (aS aQ (pv 0) aJ (λ_ _=>rfl)) (aS aQ (pv 1) aJ (λ_ _=>rfl))) aD))))),
  (bt (a8 (cG (aA (aN b9 (bA (dm.b aT) aC (aM aE)) (bA (dm.b aT) aC (aM aE))) (aA (aN b9 (bA (dm.b aT) aC (aM aE)) (bA (dm.b aT) aC (aM aE))) aK))))),?_⟩)
 rintro ds r ⟨a,b,rfl,k⟩;simp only[fy]at k ⊢;fin2;exact k
abbrev vS:A6:=top 11
theorem R4:aR ["one","other"] ["one","other"] (aB vS):=by f_are
def xF:dN:=λds P=>∃a b:hG,ds=[fy a,fy b]/\P (.fz (fy (a.1-b.2,a.2-b.1)))
theorem Tu (e:bN K mg "minus" vS f fd)(B:b_ mg)(KV:b7 K):
  cc P w K mg base "minus" 1 ["one","other"] (cg K 2 xF):=by
 refine df.of e R4 (by f_tup) rfl (λc A o s H E h=>⟨_,_,(aI (aX (cb (ae (aW dr (aS aQ (pv 0) aJ (λ_ _=>rfl)) (aS aQ (pv 1) aJ (λ_ _=>rfl))) (ae (aW dr (aS aQ (pv 0) aJ (λ_ _=>rfl)) (aS aQ (pv 1) aJ (λ_ _=>rfl))) aD))))),
  (bt (a8 (cG (aA (aN b9 (bA (dm.b aT) aC (aM aE)) (bA (dm.b aT) aC (aM aE))) (aA (aN b9 (bA (dm.b aT) aC (aM aE)) (bA (dm.b aT) aC (aM aE))) aK))))),?_⟩)
 rintro ds r ⟨a,b,rfl,k⟩;simp only[fy]at k ⊢;fin2;exact k
noncomputable def XN (s:hG)(m:Int):hG:=if m<0 then (s.2*m,s.1*m) else (s.1*m,s.2*m)
abbrev vR:A6:=top 12
theorem R3:aR ["one","many"] ["one","many"] (aB vR):=by f_are
def xE:dN:=λds P=>∃(a:hG) (m:Int),ds=[fy a,.int m]/\(-1000000<=m/\m<=1000000)/\P (.fz (fy (XN a m)))
theorem Tr (e:bN K mg "times" vR f fd)(B:b_ mg)(KV:b7 K):
  cc P w K mg base "times" 1 ["one","many"] (cg K 2 xE):=by
 refine df.of e R3 (by f_tup) rfl (λc A o s H E r=>⟨_,_,(aG (cj (bI iT (pv 1) aJ (bG _)) (aI (aX (cb (ae (aW gQ (aS aQ (pv 0) aJ (λ_ _=>rfl)) (pv 1)) (ae (aW gQ (aS aQ (pv 0) aJ (λ_ _=>rfl)) (pv 1)) aD))))) bM)
   (aI (aX (cb (ae (aW gQ (aS aQ (pv 0) aJ (λ_ _=>rfl)) (pv 1)) (ae (aW gQ (aS aQ (pv 0) aJ (λ_ _=>rfl)) (pv 1)) aD)))))),
  (aU (cC (bL (aN dI aC (aM aE))) (bt (a8 (cG (aA (aN cn (bA (dm.b aT) aC (aM aE)) aC) (aA (aN cn (bA (dm.b aT) aC (aM aE)) aC) aK))))) bO)
   (bt (a8 (cG (aA (aN cn (bA (dm.b aT) aC (aM aE)) aC) (aA (aN cn (bA (dm.b aT) aC (aM aE)) aC) aK)))))),?_⟩)
 rintro ds g ⟨a,m,rfl,M,k⟩;simp only[fy,XN]at k ⊢;fin2;split
 .rename_i h;rw[c! h]at k;exact⟨mulR M.1 M.2,mulR M.1 M.2,k⟩
 .rename_i h;rw[c? h]at k;exact⟨mulR M.1 M.2,mulR M.1 M.2,k⟩
abbrev qZ:A6:=top 13
theorem PJ:aR ["one","shift"] ["one","shift"] (aB qZ):=by f_are
def uD:dN:=λds P=>∃(a:hG) (m:Int),ds=[fy a,.int m]/\0<=m/\P (.fz (fy (a.1 / 2^m.toNat,a.2 / 2^m.toNat)))
theorem P_ (e:bN K mg "halved" qZ f fd)(B:b_ mg)(KV:b7 K):
  cc P w K mg base "halved" 1 ["one","shift"] (cg K 2 uD):=by
 refine df.of e PJ (by f_tup) rfl (λc A o s H E r=>⟨_,_,(aI (aX (cb (ae (aW rK (aS aQ (pv 0) aJ (λ_ _=>rfl)) (pv 1)) (ae (aW rK (aS aQ (pv 0) aJ (λ_ _=>rfl)) (pv 1)) aD))))),
  (bt (a8 (cG (aA (aN cn (bA (dm.b aT) aC (aM aE)) aC) (aA (aN cn (bA (dm.b aT) aC (aM aE)) aC) aK))))),?_⟩)
 rintro ds g ⟨a,m,rfl,h,k⟩;simp only[fy]at k ⊢;fin2;exact⟨h,h,k⟩
theorem Ss:jK f l r=(((XN l f.l).1+(XN r f.r).1+f.a) / 2^f.s.toNat,((XN l f.l).2+(XN r f.r).2+f.a) / 2^f.s.toNat):=rfl
abbrev ku:A6:=top 34
theorem mO:aR ["lift","left","right","both"] ["lift","left","right"] (aB ku):=by f_are
def mI:dN:=λds P=>∃(f:Lf) (l r:hG),ds=[zp f,fy l,fy r]/\f.Ok/\P (.fz (fy (jK f l r)))
theorem wB (q:bN K mg "gain_span" ku f fd)(B:b_ mg)(KV:b7 K)(g:∃t,mg "SHIFT"=a! (.int 4 t))(L:∃t,mg "LEFT"=a! (.int 1 t))(G:∃t,mg "RIGHT"=a! (.int 2 t))(e:∃t,mg "ADD"=a! (.int 3 t))(p:cc P w K mg base "plus" 1 ["one","other"] (cg K 2 Nm))(m:cc P w K mg base "times" 1 ["one","many"] (cg K 2 xE))(h:cc P w K mg base "halved" 1 ["one","shift"] (cg K 2 uD)):
  cc P w K mg base "gain_span" 2 ["lift","left","right"] (cg K 3 mI):=by
 refine df.of q mO (by f_tup) rfl (λc A o s H E j=>⟨_,_,(aG (a5 (i:=3) mO.nd rfl (An rfl) (aY p (j.mono (by decide)) (by rfl) (ae (aY m (j.mono (by decide)) (by rfl) (ae (pv 1) (ae (aS aQ (pv 0) (aO (by rfl) L) (λ_ _=>rfl)) aD))) (ae (aY m (j.mono (by decide)) (by rfl) (ae (pv 2) (ae (aS aQ (pv 0) (aO (by rfl) G) (λ_ _=>rfl)) aD))) aD))))
   (aI (aX (aY h (j.mono (by decide)) (by rfl) (ae (aY p (j.mono (by decide)) (by rfl) (ae (pv 3) (ae (cb (ae (aS aQ (pv 0) (aO (by rfl) e) (λ_ _=>rfl)) (ae (aS aQ (pv 0) (aO (by rfl) e) (λ_ _=>rfl)) aD))) aD))) (ae (aS aQ (pv 0) (aO (by rfl) g) (λ_ _=>rfl)) aD)))))),
  (aU (bx (a8 (bV (a4 (aA (bV (a4 (aA aF (aA (bE aT aF aE) aK)))) (aA (bV (a4 (aA aF (aA (bE aT aF aE) aK)))) aK))))))
   (bt (a4 (aA (bV (a4 (aA aF (aA (cG (aA (bE aT aF aE) (aA (bE aT aF aE) aK))) aK)))) (aA (bE aT aF aE) aK))))),?_⟩)
 rintro ds u ⟨f,l,r,rfl,ok,k⟩;have h1:=ok.l;have h2:=ok.r;have n:=ok.s;simp only[zp];fin2;refine⟨l,f.l,rfl,⟨by lia,by lia⟩,r,f.r,rfl,⟨by lia,by lia⟩,XN l f.l,XN r f.r,rfl,?_⟩;fin2;refine⟨_,(f.a,f.a),rfl,_,f.s,rfl,n.1,?_⟩;rw[Ss]at k;exact k
abbrev fS:A6:=top 35
theorem c0:aR ["row","ladder","stride","things","lift","at","left","right"] ["row","ladder","stride"] (aB fS):=by f_are
def cY:dN:=λds P=>∃(xs:List hG) (fs:List Lf) (st:Int),ds=[sL xs,eK fs,.int st]/\((∀f∈fs,f.Ok)/\0<st/\st<=64/\xs.length<=100000)/\P (sO (d7 (0,0) dh fs st xs))
theorem oj (Df:bN K mg "lowered_spans" fS f fd)(B:b_ mg)(KV:b7 K)(p:∃t,mg "HALF"=a! (.int 0 t))(l:cc P w K mg base "lifted_places" 2 ["half","many","stride"] (cg K 3 cZ))(C:cc P w K mg base "minus" 1 ["one","other"] (cg K 2 xF))(a:cc P w K mg base "gain_span" 2 ["lift","left","right"] (cg K 3 mI)):
  cc P w K mg base "lowered_spans" 3 ["row","ladder","stride"] (cg K 3 cY):=by
 refine df.of Df c0 (by f_tup) rfl (λc A o s H E hr=>⟨_,_,(aG (a5 (i:=3) c0.nd rfl (An rfl) (iS gW (by rfl) B.list Bn (ae (pv 0) aD)))
   (aG (dz AM rfl (yd rfl B.reversed (ae (pv 1) aD)) (bB (i:=4) c0.nd rfl (An rfl)) (aI (dz AM rfl (c8 (aY l (hr.mono (by decide)) (by rfl) (ae (aS aQ (pv 4) (aO (by rfl) p) (λ_ _=>rfl)) (ae (aV a_ (by rfl) B.len Bf (ae (pv 0) aD)) (ae (pv 2) aD))))) (ma (n:=3) rfl (cS (bB (i:=5) c0.nd rfl (An rfl)) (cS (bB (i:=6) c0.nd rfl (An rfl)) (cS (bB (i:=7) c0.nd rfl (An rfl)) jv)))) (aI (kI (aY C (hr.mono (by decide)) (by rfl) (ae (aS bR (pv 3) (pv 5) (λ_ _=>rfl)) (ae (aY a (hr.mono (by decide)) (by rfl) (ae (pv 4) (ae (aS bR (pv 3) (pv 6) (λ_ _=>rfl)) (ae (aS bR (pv 3) (pv 7) (λ_ _=>rfl)) aD)))) aD))) (me (pv 3) (pv 5) fN))))))
   (aI (aX (pv 3))))),
  (aU (bx (xQ nG (aA aF aK)))
   (aU (et (Zx (aA aF aK)) bD (et (dv (bV (a4 (aA (bE aT aF aE) (aA (bP cN (aH aC aP)) (aA aF aK)))))) (l_ (cR bD (cR bD (cR bD js)))) (rg (fO (aH (bA (dm.b cw) aC aC) (aH (aM (bV (fO (aH aC (aH (bA (dm.b cw) aC aC) (aH (bA (dm.b cw) aC aC) aP)))))) aP))) aC)))
   fJ)),?_⟩)
 rintro ds Pr ⟨xs,fs,st,rfl,⟨oks,U,s1,Q⟩,k⟩;simp only[sL,eK];fin2;simp only[Xd];refine⟨λi δ=>∃o1 J v r,δ=[vD (sL xs),vD (eK fs),vI st,a! (.own (sO (fK (0,0) dh fs i st xs))),o1,J,v,r],⟨a?,a?,a?,a?,by simp[sL,eK,sO,wZ]⟩,?_,?_⟩
 .rintro i d δ hd ⟨o1,J,v,r,rfl⟩;rw[<- CD]at hd;obtain⟨f,hf,rfl⟩:=m7 hd;have m:i<fs.length:=by
   have:=(Ab.mp hf).1
   rwa[B4]at this
  rw[Ce m]at hf;have O:=oks f (Ai hf);have L:(fK (0,0) dh fs i st xs).length=xs.length:=yJ;dsimp only;rw[w6 m hf];generalize hc:fK (0,0) dh fs i st xs=u at L;simp only[sL,eK,sO,zp];fin2;simp only[cZ];refine⟨⟨O.h,U,s1,by lia,by lia⟩,?_⟩;fin2;simp only[AW,BG,OV.val];rw[<- L];refine⟨λj δ=>∃J v r,δ=[vD (sL xs),vD (eK fs),vI st,a! (.own (sO (((cP f.h u.length st).take j).foldl (px (0,0) (dh f) st) u))),vD (zp f),J,v,r],⟨_,_,_,rfl⟩,?_,?_⟩
  .rintro j e δ he ⟨p2,p3,p4,rfl⟩;obtain⟨t,ht,rfl⟩:=m7 he;have htm:t∈cP f.h u.length st:=Ai ht;obtain⟨hjt,T⟩:=Ab.mp ht;obtain⟨b0,b1,b2,_⟩:=o9 U O.h htm;have M:=(à (z:=((0,0):hG)) (G:=dh f) (h:=f.h) (st:=st) (xs:=u) U O.h j).1;have q:(cP f.h u.length st).take (j+1)=(cP f.h u.length st).take j++[t]:=by
    rw[AO hjt,T]
   dsimp only;rw[q,DM];generalize hw:((cP f.h u.length st).take j).foldl (px (0,0) (dh f) st) u=Xbc at M;simp only[sL,eK,sO,Ϫ,zp];fin2;simp only[vq];refine⟨_,qs (0,0) b0.1 (by (clear Q m L T;lia)),_,qs (0,0) b1.1 (by (clear Q m L T;lia)),_,qs (0,0) b2.1 (by (clear Q m L T;lia)),f,_,_,rfl,O,?_⟩;simp only[OV.lf,Ml,true_and];fin2;refine⟨_,_,rfl,?_⟩;simp only[OV.lf,Ml,true_and];refine⟨_,wW b0.1 (by (clear Q m L T;lia)),?_⟩;rw[R0 (g:=λs=>OV.fz (fy s))];simp only[B_,Jk,px,jz,M,dh];exact⟨_,_,_,rfl⟩
  .rintro δ ⟨p2,p3,p4,rfl⟩;rw[Au,BD];exact⟨_,_,_,_,rfl⟩
 .rintro δ ⟨o1,J,v,r,rfl⟩;fin2;rw[B4,Au,yK];exact k
noncomputable abbrev nv:DTb:=[("raised",fA),("lowered_spans",cY)]
section SH
variable {α β:Type}
noncomputable def tab (n:Nat)(f:Nat->β):List β:=(AF n).map f
theorem bK {f:Nat->β}:(tab n f).length=n:=by simp[tab]
theorem k9 {f:Nat->β}(h:i<n):(tab n f)[i]?=a! (f i):=by simp[tab,h]
theorem e_ {f:Nat->β}(h:i<n):(tab n f).getD i d=f i:=by simp[tab,h]
theorem dO {f g:Nat->β}(h:∀i,i<n->f i=g i):tab n f=tab n g:=B3 λi hi=>h i (BV.mp hi)
theorem fG {a:Type}{f:Nat->β}{g:β->a}:(tab n f).map g=tab n λi=>g (f i):=by simp[tab]
theorem xy (z:α)(xs:List α):tab xs.length (λi=>xs.getD i z)=xs:=by
 refine Qw z (by rw[bK]) λp h=>?_
 rw[bK]at h;rw[e_ h]
theorem nS (z:α)(h:xs.length=n):tab n (λi=>xs.getD i z)=xs:=by subst h;exact xy z xs
theorem my {f:Nat->β}:(tab n f).set i v=tab n λj=>if j=i then v else f j:=by
 refine DP λj=>?_
 rw[EE,bK];by_cases h:j<n
 .rw [k9 h,k9 h];by_cases e:i=j
  .subst e;simp[h]
  .rw [c? e,c? λz=>e z.symm]
 .have c:(tab n f)[j]?=none:=Bd (by rw[bK];lia);have a:(tab n λj=>if j=i then v else f j)[j]?=none:=Bd (by rw[bK];lia);rw[c,a];split
  .rw [c? (by lia)]
  .rfl
theorem lz {n:Nat}{f:Nat->D}{i:Int}(a:0<=i)(h:i<n):jB (tab n f) i=a! (f i.toNat):=by
 have e:=dw (xs:=tab n f) (k9 (show i.toNat<n by lia))
 rwa[show ((i.toNat:Nat):Int)=i by lia]at e
def lD (z:α)(op:List α->List α)(w st:Nat)(e:Nat->Nat->α):Nat->Nat->α:=λi j=>if i%st=0 then (op (tab w (e i))).getD j z else e i j
def lF (z:α)(op:List α->List α)(h st:Nat)(e:Nat->Nat->α):Nat->Nat->α:=λi j=>if j%st=0 then (op (tab h λi=>e i j)).getD i z else e i j
def tH (h w:Nat)(e e':Nat->Nat->α):Prop:=∀i j,i<h->j<w->e i j=e' i j
theorem xV {op:List α->List α}{w st:Nat}{e e':Nat->Nat->α}(q:tH h w e e'):tH h w (lD z op w st e) (lD z op w st e'):=λi j hi J=>by
 unfold lD;rw[dO (λj J=>q i j hi J),q i j hi J]
theorem U0 {op:List α->List α}{w st:Nat}{e e':Nat->Nat->α}(q:tH h w e e'):tH h w (lF z op h st e) (lF z op h st e'):=λi j hi J=>by
 unfold lF;rw[dO (λi hi=>q i j hi J),q i j hi J]
theorem PQ {op op':List α->List α}{w st:Nat}{e:Nat->Nat->α}(hl:∀r:List α,r.length=w->(op r).length=w)(B:∀r:List α,r.length=w->op' (op r)=r):tH h w (lD z op' w st (lD z op w st e)) e:=λi j hi J=>by
 unfold lD;by_cases q:i%st=0
 .simp only[q,if_true];rw[nS z (hl _ bK),B _ bK,e_ J]
 .simp only[q,if_false]
theorem QA {op op':List α->List α}{w st:Nat}{e:Nat->Nat->α}(hl:∀r:List α,r.length=h->(op r).length=h)(B:∀r:List α,r.length=h->op' (op r)=r):tH h w (lF z op' h st (lF z op h st e)) e:=λi j hi J=>by
 unfold lF;by_cases q:j%st=0
 .simp only[q,if_true];rw[nS z (hl _ bK),B _ bK,e_ hi]
 .simp only[q,if_false]
theorem tH.trans {w:Nat}{a b c:Nat->Nat->α}(x:tH h w a b)(y:tH h w b c):tH h w a c:=λi j hi J=>(x i j hi J).trans (y i j hi J)
theorem tH.symm {h w:Nat}{a b:Nat->Nat->α}(x:tH h w a b):tH h w b a:=λi j hi J=>(x i j hi J).symm
theorem tH.refl {w:Nat}{a:Nat->Nat->α}:tH h w a a:=λ_ _ _ _=>rfl
def pQ (z:α)(op:Nat->List α->List α)(h w:Nat):Nat->(Nat->Nat->α)->Nat->Nat->α
 | 0,e=>e
 |n+1,e=>lF z (op n) h (2^n) (lD z (op n) w (2^n) (pQ z op h w n e))
def ed (z:α)(op:Nat->List α->List α)(h w:Nat):Nat->Nat->(Nat->Nat->α)->Nat->Nat->α
 | 0,_,e=>e
 |n+1,d,e=>if d<=n then ed z op h w n d (lD z (op n) w (2^n) (lF z (op n) h (2^n) e)) else e
theorem oi {op:Nat->List α->List α}{w:Nat}:∀(n d:Nat) {e e':Nat->Nat->α},tH h w e e'->tH h w (ed z op h w n d e) (ed z op h w n d e')
 | 0,_,_,_,q=>q
 |n+1,d,e,e',q=>by
  unfold ed;split
  .exact oi n d (xV (U0 q))
  .exact q
theorem yh {up dn:Nat->List α->List α}{w:Nat}(hl:∀k (r:List α),(up k r).length=r.length)(B:∀k (r:List α),dn k (up k r)=r):
  ∀(n d:Nat) (e:Nat->Nat->α),d<=n->tH h w (ed z dn h w n d (pQ z up h w n e)) (pQ z up h w d e)
 | 0,d,e,hd=>by
  have:d=0:=by lia
  subst this;exact tH.refl
 |n + 1,d,e,hd=>by
  unfold ed;by_cases q:d<=n
  .rw [c! q];refine (oi n d ?_).trans (yh hl B n d e q);exact (xV (QA (λr a=>by rw[hl];exact a) (λr _=>B n r))).trans (PQ (λr a=>by rw[hl];exact a) (λr _=>B n r))
  .rw [c? q];have:d=n+1:=by lia
   subst this;exact tH.refl
end SH
def j0 {a:Type}(g:a->D)(h w:Nat)(e:Nat->Nat->a):List OV:=tab h λi=>.nl (tab w λj=>.fz (g (e i j)))
def tL {a:Type}(g:a->D)(h w:Nat)(e:Nat->Nat->a):List D:=tab h λi=>.lst (tab w λj=>g (e i j))
theorem jj {a:Type}{g:a->D}{w:Nat}{e:Nat->Nat->a}:(j0 g h w e).map OV.val=tL g h w e:=by
 unfold j0 tL;rw[fG];simp only[OV.val,OV.c7,fG]
theorem vC {a:Type}{g:a->D}{w:Nat}{e e':Nat->Nat->a}(q:tH h w e e'):j0 g h w e=j0 g h w e':=by
 exact dO λi hi=>by rw[dO λj J=>by rw[q i j hi J]]
structure QL (α:Type) (z:α) (g:α->D) (op:List α->List α) (n:Nat) (st:Nat) (Ϭ:D) (sp:dN):Prop where
 run:∀r:List α,r.length=n->∀Q:OV->Prop,Q (.nl ((op r).map λx=>.fz (g x)))->sp [.lst (r.map g),Ϭ,.int st] Q
 len:∀r:List α,r.length=n->(op r).length=n
 off:∀(r:List α) (i:Nat),r.length=n->i<n->i%st≠0->(op r).getD i z=r.getD i z
 lf:∀x,(g x).lf=b!
abbrev iC:A6:=top 40
theorem kg:aR ["sheet","doing","ladder","stride","i"] ["sheet","doing","ladder","stride"] (aB iC):=by f_are
def gx:ϖ:=λts ds P=>∃(a:Type) (z:a) (g:a->D) (op:List a->List a) (x:Al) (sp:dN) (l:D) (h w st:Nat) (e:Nat->Nat->a),ts=j0 g h w e/\ds=[.fn x,l,.int st]/\(x,sp)∈nv/\QL a z g op w st l sp/\0<st/\st<=64/\h<=1000/\P (j0 g h w (lD z op w st e))
theorem É {a:Type}{g:a->D}(hg:∀x,(g x).lf=b!)(xs:List a):OV.lf (.nl (xs.map λx=>.fz (g x)))=true:=by
 simp[OV.lf,OV.kQ,hg]
theorem mC {h st:Nat}(a:0<st){n:Nat}(hn:n<eu 0 h st):n*st<h:=by
 have:=(v7 (by lia) n).mp hn;rw[Dt]at this
 exact_mod_cast this
theorem qH {h st i:Nat}(a:0<st)(hi:i<h)(m:i%st=0):i<eu 0 h st*st:=by
 rcases Ep i (eu 0 h st*st) with q |q
 .exact q
 .exfalso
  have h1:eu 0 h st<=i / st:=by
   rw[Nat.le_div_iff_mul_le a];exact q
  have h2:¬ (eu 0 h st<eu 0 h st):=B7 _
  apply h2
  rw[v7 (by lia)];have c:eu 0 h st*st<h:=by lia
  have:((eu 0 h st*st:Nat):Int)<h:=by exact_mod_cast c
  rw[Dt]
  exact_mod_cast this
theorem Wc {h st:Nat}(a:0<st):eu 0 h st<=h:=by
 rcases Ep h (eu 0 h st) with q |q
 .have:=mC a q;have h2:h*1<=h*st:=Dj _ a;lia
 .exact q
theorem rV (Df:bN K mg "change_rows" iC f fd)(B:b_ mg)(KV:b7 K)(m:jX K mg "raised")(l:jX K mg "lowered_spans")(C:cc P w K mg base "raised" 3 ["row","ladder","stride"] (cg K 3 fA))(r:cc P w K mg base "lowered_spans" 3 ["row","ladder","stride"] (cg K 3 cY)):
  cc P w K mg base "change_rows" 4 ["sheet","doing","ladder","stride"] (vz K 4 gx):=by
 refine YX.of Df kg (by f_tup) rfl (λc A o s H E M=>⟨_,_,(aI (dz AM rfl (lp (by rfl) (by exact B.range) (ae aJ (ae (aV a_ (by rfl) B.len Bf (ae (pv 0) aD)) (ae (pv 3) aD)))) (bB (i:=4) kg.nd rfl (An rfl)) (aI (kI (NW (pv 1) (Na (K:=K) (n:=3) (tb:=nv) (k:=3) (by simp only[nv,BK];exact⟨⟨_,C.mono (by decide)⟩,⟨_,r.mono (by decide)⟩,λ_ h=>by cases h⟩)) (M.mono (by decide)) (ae (aS bR (pv 0) (pv 4) (λ_ _=>rfl)) (ae (pv 2) (ae (pv 3) aD)))) (me (pv 0) (pv 4) fN))))),
  (et (qe (aH (aM aE) (aH (aM (bP cN (aH aC aP))) (aH aC aP)))) bD (R_ (i:=0) N' (rg (PL (tb:=nv) (by simp only[nv,BK];exact⟨m,l,λ_ h=>by cases h⟩) (aH (bA (dm.b cw) aC aC) (aH aC (aH aC aP)))) aC))),?_⟩)
 rintro a ts ds Pr ⟨α,z,g,op,x,sp,u,h,w,st,e,rfl,rfl,O,ok,p,s1,hh,k⟩;fin2;refine⟨⟨by lia,by rw[j0,bK];lia,by lia,by lia⟩,?_⟩;rw[show ((j0 g h w e).length:Int)=(h:Int) by rw[j0,bK]];refine⟨λn δ=>n<=eu 0 h st/\∃o,δ=[a! (.own (.rt a (j0 g h w λi j=>if i%st=0/\i<n*st then (op (tab w (e i))).getD j z else e i j))),vD (.fn x),vD u,vI st,o],⟨By _,a?,?_⟩,?_,?_⟩
 .simp only[IU,EU,and_false,if_false]
 .rintro n d δ hd ⟨hn,o,rfl⟩;obtain⟨hi,rfl⟩:=eU hd;have L:=mC p hi;have t:(0+(n:Int)*(st:Int))=((n*st:Nat):Int):=by rw[Dt];exact_mod_cast rfl
  rw[t];fin2;refine⟨sp,O,?_⟩;rw[jj];refine⟨_,lz (by lia) (by exact_mod_cast L),?_⟩;rw[show ((n*st:Nat):Int).toNat=n*st by lia];have er:(D.lst (tab w λj=>g (if (n*st)%st=0/\n*st<n*st then (op (tab w (e (n*st)))).getD j z else e (n*st) j))) = .lst ((tab w (e (n*st))).map g):=by
   rw[fG];simp only[B7,and_false,if_false]
  rw[er]
  try fin2
  refine ok.run _ bK _ ?_;refine⟨É ok.lf _,n*st,?_,?_⟩
  .rw [j0,bK];have:=wW (n:=h) (i:=((n*st:Nat):Int)) (by lia) (by exact_mod_cast L)
   rwa[show ((n*st:Nat):Int).toNat=n*st by lia]at this
  .try fin2
   refine⟨hi,a! (.own (.fz (.int ((n*st:Nat):Int)))),?_⟩;have U : (j0 g h w λi j=>if i%st=0/\i<n*st then (op (tab w (e i))).getD j z else e i j).set (n*st) (.nl ((op (tab w (e (n*st)))).map λx=>.fz (g x)))=j0 g h w λi j=>if i%st=0/\i<(n+1)*st then (op (tab w (e i))).getD j z else e i j:=by
    unfold j0;rw[my];refine dO λi T=>?_
    by_cases q:i=n*st
    .subst q;rw[c! rfl];have e1:∀j,(if (n*st)%st=0/\n*st<(n+1)*st then (op (tab w (e (n*st)))).getD j z else e (n*st) j)=(op (tab w (e (n*st)))).getD j z:=λj=>c! ⟨EC _ _,by rw[DR];lia⟩
     simp only[e1];congr 1
     rw[<- fG (f:=λj=>(op (tab w (e (n*st)))).getD j z) (g:=λx=>OV.fz (g x)),nS z (ok.len _ bK)]
    .rw [c? q];congr 1
     refine dO λj _=>?_
     have:(i%st=0/\i<n*st)↔(i%st=0/\i<(n+1)*st):=by
      constructor
      .rintro ⟨Q,v⟩;exact⟨Q,by rw[DR];lia⟩
      .rintro ⟨Q,v⟩;refine⟨Q,?_⟩;have G:i=i / st*st:=by
        have:=Jj i st;rw[Q,IY,Hs]at this;exact this.symm
       have e3:i / st<n+1:=by rw[Hw p];exact v
       rcases Ep (i / st) n with y |y
       .have:(i / st+1)*st<=n*st:=HF _ y;rw[DR]at this;lia
       .have:i / st=n:=by lia
        rw[this]at G;exact absurd G q
     dsimp only;by_cases y:i%st=0/\i<n*st
     .rw [c! y,c! (this.mp y)]
     .rw [c? y,c? λJ=>y (this.mpr J)]
   rw[U]
 .rintro δ ⟨_,o,rfl⟩;rw[eG];refine⟨_,rfl,?_⟩;rw[vC (e':=lD z op w st e)]
  .exact k
  .intro i j hi hj;show (if i%st=0/\i<eu 0 h st*st then _ else _)=if i%st=0 then _ else _
   by_cases q:i%st=0
   .rw [c! ⟨q,qH p hi q⟩,c! q]
   .rw [c? λy=>q y.1,c? q]
abbrev eD:A6:=top 41
theorem d8:aR ["sheet","doing","ladder","stride","j","column","i"] ["sheet","doing","ladder","stride"] (aB eD):=by f_are
def fc:ϖ:=λts ds P=>∃(a:Type) (z:a) (g:a->D) (op:List a->List a) (x:Al) (sp:dN) (l:D) (h w st:Nat) (e:Nat->Nat->a),ts=j0 g h w e/\ds=[.fn x,l,.int st]/\(x,sp)∈nv/\QL a z g op h st l sp/\0<st/\st<=64/\0<h/\h<=1000/\w<=1000/\P (j0 g h w (lF z op h st e))
theorem o_ {i st n:Nat}(a:0<st)(Q:i%st=0)(h:i≠n*st):i<n*st↔i<(n+1)*st:=by
 constructor
 .intro y;rw[DR];lia
 .intro q;have e:i=i / st*st:=by
   have:=Jj i st;rw[Q,IY,Hs]at this;exact this.symm
  have c:i / st<n+1:=by rw[Hw a];exact q
  rcases Ep (i / st) n with y |y
  .have:(i / st+1)*st<=n*st:=HF _ y;rw[DR]at this;lia
  .have:i / st=n:=by lia
   rw[this]at e;exact absurd e h
theorem m5 (Df:bN K mg "change_columns" eD f fd)(B:b_ mg)(KV:b7 K)(u:jX K mg "raised")(l:jX K mg "lowered_spans")(C:cc P w K mg base "raised" 3 ["row","ladder","stride"] (cg K 3 fA))(r:cc P w K mg base "lowered_spans" 3 ["row","ladder","stride"] (cg K 3 cY)):
  cc P w K mg base "change_columns" 4 ["sheet","doing","ladder","stride"] (vz K 4 fc):=by
 refine YX.of Df d8 (by f_tup) rfl (λc A o s H E hr=>⟨_,_,(aI (dz AM rfl (lp (by rfl) (by exact B.range) (ae aJ (ae (aV a_ (by rfl) B.len Bf (ae (aS bR (pv 0) aJ (λ_ _=>rfl)) aD)) (ae (pv 3) aD)))) (bB (i:=4) d8.nd rfl (FC rfl)) (aG (a5 (i:=5) d8.nd rfl (An rfl) (NW (pv 1) (Na (K:=K) (n:=3) (tb:=nv) (k:=3) (by simp only[nv,BK];exact⟨⟨_,C.mono (by decide)⟩,⟨_,r.mono (by decide)⟩,λ_ h=>by cases h⟩)) (hr.mono (by decide)) (ae (d_ rfl (c8 (pv 0)) (show bX (aB eD) _ from⟨rfl,by decide +kernel,by decide +kernel,by decide +kernel⟩) (N:=["row","j"]) (ix:=[a?,a! 4]) (show cW _ _ _ _ from⟨⟨rfl,rfl,.inl rfl⟩,trivial⟩) (λ_ _ _=>(bB (i:=0) (show Bp (["row","j"]:List Al) by decide +kernel) rfl (An rfl))) (λ_ _ _=>(aS bR (pv 0) (pv 1) (λ_ _=>rfl)))) (ae (pv 2) (ae (pv 3) aD)))))
   (aI (dz AM rfl (lp (by rfl) (by exact B.range) (ae aJ (ae (aV a_ (by rfl) B.len Bf (ae (pv 0) aD)) (ae (pv 3) aD)))) (bB (i:=6) d8.nd rfl (An rfl)) (aI (kI (aS bR (pv 5) (pv 6) (λ_ _=>rfl)) (me (aS bR (pv 0) (pv 6) (λ_ _=>rfl)) (pv 4) fN)))))))),
  (et (qe (aH (aM aE) (aH (aM (bP cN (aH (bA (dm.b cw) aC (aM aE)) aP))) (aH aC aP)))) bD (aU (bx (a8 (bV (Sm (tb:=nv) (by simp only[nv,BK];exact⟨u,l,λ_ h=>by cases h⟩) (aA (bV (xP aC (a8 (NJ (bA (dm.b cw) aC aC))))) (aA aF (aA aF aK)))))))
   (et (qe (aH (aM aE) (aH (aM (bP cN (aH aC aP))) (aH aC aP)))) bD (R_ (i:=0) N' (NB (bE cw aF aF) aC aC))))),?_⟩)
 rintro a ts ds Pr ⟨α,z,g,op,x,sp,Ϭ,h,w,st,e,rfl,rfl,hm,ok,s0,s1,h0,hh,hw,k⟩;fin2;rw[jj];refine⟨_,lz (by lia) (by lia),?_⟩;fin2;rw[bK];refine⟨⟨by lia,by lia,by lia,by lia⟩,?_⟩;refine⟨λn δ=>n<=eu 0 w st/\∃o1 o2 o3,δ=[a! (.own (.rt a (j0 g h w λi j=>if j%st=0/\j<n*st then (op (tab h λi=>e i j)).getD i z else e i j))),vD (.fn x),vD Ϭ,vI st,o1,o2,o3],⟨By _,a?,a?,a?,?_⟩,?_,?_⟩
 .simp only[IU,EU,and_false,if_false]
 .rintro n d δ hd ⟨hn,o1,o2,o3,rfl⟩;obtain⟨hi,rfl⟩:=eU hd;have O:=mC s0 hi;have Xar:(0+(n:Int)*(st:Int))=((n*st:Nat):Int):=by rw[Dt];exact_mod_cast rfl
  rw[Xar];generalize hj:n*st=j at O;fin2;refine⟨sp,hm,?_⟩;rw[jj];refine f9.Ŏ (AF h) _ (λi=>.fz (g (e i j))) (by rw[C7];lia) (λi v Q q=>?_) ?_
  .have Xbj:=BV.mp v;fin2;refine⟨_,lz (by lia) (by exact_mod_cast O),?_⟩;rw[show ((j:Nat):Int).toNat=j by lia,c? λy=>by lia];exact⟨ok.lf _,q⟩
  .have e1 : (AF h).map (λi=>OV.fz (g (e i j)))=(tab h λi=>e i j).map λx=>OV.fz (g x):=by rw[fG];rfl
   rw[e1];fin2;simp only[vq];refine ok.run _ bK _ ?_;generalize U:tab h (λi=>e i j)=c;have Yy:c.length=h:=by rw[<- U];exact bK
   have hol:=ok.len c Yy;fin2;simp only[vq];refine⟨⟨by lia,by rw[j0,bK];lia,by lia,by lia⟩,?_⟩;rw[show ((j0 g h w λi J=>if J%st=0/\J<j then (op (tab h λi=>e i J)).getD i z else e i J).length:Int)=(h:Int) by rw[j0,bK]];refine⟨λm δ=>∃o3,δ=[a! (.own (.rt a (j0 g h w λi J=>if J=j/\i%st=0/\i<m*st then (op c).getD i z else if J%st=0/\J<j then (op (tab h λi=>e i J)).getD i z else e i J))),vD (.fn x),vD Ϭ,vI st,vI j,vD (.lst ((op c).map g)),o3],⟨o3,?_⟩,?_,?_⟩
   .simp only[IU,EU,and_false,if_false]
   .rintro m d δ Q_ ⟨p3,rfl⟩;obtain⟨hm',rfl⟩:=eU Q_;have t:=mC s0 hm';have T:(0+(m:Int)*(st:Int))=((m*st:Nat):Int):=by rw[Dt];exact_mod_cast rfl
    rw[T];generalize L:m*st=i at t;fin2;refine⟨_,qs z (by lia) (by rw[hol];exact_mod_cast t),?_⟩;rw[show ((i:Nat):Int).toNat=i by lia];refine⟨i,_,?_,k9 t,j,?_,?_⟩
    .rw [j0,bK];have:=wW (n:=h) (i:=((i:Nat):Int)) (by lia) (by exact_mod_cast t)
     rwa[show ((i:Nat):Int).toNat=i by lia]at this
    .rw [bK];have:=wW (n:=w) (i:=((j:Nat):Int)) (by lia) (by exact_mod_cast O)
     rwa[show ((j:Nat):Int).toNat=j by lia]at this
    .try fin2
     refine⟨vI ((i:Nat):Int),?_⟩;have es:(j0 g h w λi J=>if J=j/\i%st=0/\i<m*st then (op c).getD i z else if J%st=0/\J<j then (op (tab h λi=>e i J)).getD i z else e i J).set i (.nl ((tab w λJ=>OV.fz (g (if J=j/\i%st=0/\i<m*st then (op c).getD i z else if J%st=0/\J<j then (op (tab h λi=>e i J)).getD i z else e i J))).set j (.fz (g ((op c).getD i z))))) =
       j0 g h w λi J=>if J=j/\i%st=0/\i<(m+1)*st then (op c).getD i z else if J%st=0/\J<j then (op (tab h λi=>e i J)).getD i z else e i J:=by
      unfold j0;rw[my];refine dO λG v=>?_
      by_cases q:G=i
      .subst q;rw[c! rfl,my];congr 1
       refine dO λJ W3=>?_
       dsimp only;by_cases y:J=j
       .subst y;rw[c! rfl,c! ⟨rfl,by rw[<- L];exact EC _ _,by rw[<- L,DR];lia⟩]
       .simp only[y,false_and,if_false]
      .rw [c? q];congr 1
       refine dO λJ W3=>?_
       dsimp only;by_cases y:J=j/\G%st=0
       .have M:G≠m*st:=by rw[L];exact q
        have:=o_ (n:=m) s0 y.2 M;by_cases y2:G<m*st
        .rw [c! ⟨y.1,y.2,y2⟩,c! ⟨y.1,y.2,this.mp y2⟩]
        .rw [c? (show ¬ (J=j/\G%st=0/\G<m*st) from λp=>y2 p.2.2),c? (show ¬ (J=j/\G%st=0/\G<(m+1)*st) from λp=>y2 (this.mpr p.2.2))]
       .rw [c? (show ¬ (J=j/\G%st=0/\G<m*st) from λp=>y ⟨p.1,p.2.1⟩),c? (show ¬ (J=j/\G%st=0/\G<(m+1)*st) from λp=>y ⟨p.1,p.2.1⟩)]
     simp only[L]at es;rw[es]
   .rintro δ ⟨p3,rfl⟩;rw[eG];refine⟨hi,vI j,vD (.lst ((op c).map g)),p3,?_⟩;rw[vC (e':=λi j=>if j%st=0/\j<(n+1)*st then (op (tab h λi=>e i j)).getD i z else e i j)];intro i J v W3;dsimp only;by_cases y:J=j
    .subst y;rw[U,c! (show J%st=0/\J<(n+1)*st from⟨by rw[<- hj];exact EC _ _,by rw[<- hj,DR];lia⟩)];by_cases q:i%st=0
     .rw [c! ⟨rfl,q,qH s0 v q⟩]
     .rw [c? λp=>q p.2.1,c? (show ¬ (J%st=0/\J<J) from λp=>by lia),ok.off c i Yy v q,<- U,e_ v]
    .rw [c? λp=>y p.1];by_cases q:J%st=0
     .have M:J≠n*st:=by rw[hj];exact y
      have:=o_ (n:=n) s0 q M;rw[hj]at this;by_cases y2:J<j
      .rw [c! ⟨q,y2⟩,c! ⟨q,this.mp y2⟩]
      .rw [c? λp=>y2 p.2,c? λp=>y2 (this.mpr p.2)]
     .rw [c? λp=>q p.1,c? λp=>q p.1]
 .rintro δ ⟨_,o1,o2,o3,rfl⟩;rw[eG];refine⟨_,rfl,?_⟩;rw[vC (e':=lF z op h st e)]
  .exact k
  .intro i j hi hj;show (if j%st=0/\j<eu 0 w st*st then _ else _)=if j%st=0 then _ else _
   by_cases q:j%st=0
   .rw [c! ⟨q,qH s0 hj q⟩,c! q]
   .rw [c? λy=>q y.1,c? q]
theorem Zp (h st:Nat)(f:0<st):CU 0 h st=(AF (eu 0 h st)).map λk=>k*st:=by
 unfold CU eu AT;have c:(st:Int) > 0:=by lia
 simp only[c,if_true];by_cases a:(0:Int)<h
 .simp only[a,if_true];have e:((h:Int)-0+st-1) / st=((h:Int)-0-1) / st+1:=by
   rw[show (h:Int)-0+st-1=((h:Int)-0-1)+1*st by lia,Int.add_mul_ediv_right _ _ (by lia)]
  rw[e];refine B3 λk _=>?_
  rw[Dt,Es]
  exact_mod_cast rfl
 .simp only[a,if_false];rfl
theorem Oo {a c:Type}{f:a->Option c}{g:a->c}:∀{J:List a},(∀j∈J,f j=a! (g j))->J.filterMap f=J.map g
 | [],_=>rfl
 |j::J,h=>by
  rw[Cr (h j Ay),Oo λk e=>h k (Ax _ e),BU]
theorem uA {c:Type}{h st:Nat}{f:Nat->c}(a:0<st):mD (tab h f) st=tab (eu 0 h st) λk=>f (k*st):=by
 unfold mD;rw[bK,Zp h st a];rw[FK];refine Oo λk e=>?_
 exact k9 (mC a (BV.mp e))
theorem xZ {h:Nat}:eu 0 h (1:Nat)=h:=wK λi=>by
 rw[v7 (by decide)];simp
abbrev lb:A6:=top 45
theorem zO:aR ["sheet","k"] ["sheet","k"] (aB lb):=by f_are
def jc:dN:=λds P=>∃(a:Type) (g:a->D) (h w k:Nat) (e:Nat->Nat->a),ds=[.lst (tL g h w e),.int k]/\k<=6/\h<=1000/\w<=1000/\P (.nl (j0 g (eu 0 h (2^k:Nat)) (eu 0 w (2^k:Nat)) λi j=>e (i*2^k) (j*2^k)))
theorem Gs (m:bN K mg "thinned" lb f fd)(B:b_ mg)(KV:b7 K):
  cc P w K mg base "thinned" 1 ["sheet","k"] (cg K 2 jc):=by
 refine df.of m zO (by f_tup) rfl (λc A o s H E t=>⟨_,_,(aI (aX (d_ rfl (c8 (NU (pv 0) (aW gP aJ (pv 1)))) (show bX (aB lb) _ from⟨rfl,by decide +kernel,by decide +kernel,by decide +kernel⟩) (N:=["row","k"]) (ix:=[a?,a! 1]) (show cW _ _ _ _ from⟨⟨rfl,rfl,.inl rfl⟩,trivial⟩) (λ_ _ _=>(bB (i:=0) (show Bp (["row","k"]:List Al) by decide +kernel) rfl (An rfl))) (λ_ _ _=>(NU (pv 0) (aW gP aJ (pv 1))))))),
  (bt (dU (dv (bV (NF aF (aM (aN cn (aM aE) aC))))) bD (NF aF (aM (aN cn (aM aE) aC))))),?_⟩)
 rintro ds v ⟨n,g,h,w,k,e,rfl,r,u,hw,q⟩;have a:(1:Int)*2^((k:Int)).toNat=((2^k:Nat):Int):=by simp
 have p:0<2^k:=Fs (by decide);fin2;rw[a];refine⟨⟨by lia,by lia⟩,by exact_mod_cast p,?_⟩;simp only[tL];rw[uA p];simp only[fG,OV.val];have l:=Wc (h:=h) p;refine f9.map (AF (eu 0 h (2^k:Nat))) (λi=>D.lst (tab w λj=>g (e (i*2^k) j))) (λi=>.nl (tab (eu 0 w (2^k:Nat)) λj=>.fz (g (e (i*2^k) (j*2^k))))) (by rw[C7];lia) (λi hi Q q=>?_) ?_
 .fin2;rw[a];refine⟨⟨by lia,by lia⟩,by exact_mod_cast p,?_⟩;rw[uA p,fG];exact q
 .exact q
theorem Qt {a:Type}{z:a}{G:a->a->a->a}{h:Int}{st:Nat}{xs:List a}{p:Nat}(g:0<st)(c:h=0∨h=1)(f:p%st≠0):(ic z G h st xs).getD p z=xs.getD p z:=by
 rw[(UB (z:=z) (G:=G) (h:=h) (st:=(st:Int)) (xs:=xs) (by lia) c).2 p,c?];intro m;obtain⟨_,_,i,hi⟩:=(fm (show (0:Int)<st by lia)).mp m
 apply f
 rcases c with rfl |rfl
 .have:p=i*2*st:=by
   have e:(p:Int)=((i*2*st:Nat):Int):=by rw[hi,Int.zero_mul,Dt,<- DB];exact_mod_cast rfl
   exact_mod_cast e
  rw[this];exact EC _ _
 .have:p=(1+i*2)*st:=by
   have e:(p:Int)=(((1+i*2)*st:Nat):Int):=by rw[hi,<- DB,<- Gu];exact_mod_cast rfl
   exact_mod_cast e
  rw[this];exact EC _ _
theorem oG {a:Type}{z:a}{G:Lf->a->a->a->a}{st:Nat}{p:Nat}(e:0<st)(j:p%st≠0):∀(c:List Lf) (xs:List a),(∀f∈c,f.Ok)->(c.foldl (λxs f=>ic z (G f) f.h st xs) xs).getD p z=xs.getD p z
 | [],_,_=>rfl
 |f::c,xs,ok=>by
  rw[B_,oG e j c _ λg hg=>ok g (Ax _ hg)];exact Qt e (ok f Ay).h j
theorem S9 (h:k<=6):0<2^k/\2^k<=64:=⟨Fs (by decide),Bz (Ft (by decide) h) (by decide)⟩
theorem vB {a:Type}{g:a->D}{h w:Nat}{e:Nat->Nat->a}:j0 g (eu 0 h (2^0:Nat)) (eu 0 w (2^0:Nat)) (λi j=>e (i*2^0) (j*2^0))=j0 g h w e:=by
 rw[show (2^0:Nat)=1 by decide,xZ,xZ];simp only[Nat.mul_one]
theorem NM {st:Int}:cm fs st xs=fs.foldl (λxs f=>ic 0 ((λ(f:Lf) x l r=>x+1*lP f l r) f) f.h st xs) xs:=rfl
theorem uL {fs:List Lf}{st n:Nat}(ok:∀f∈fs,f.Ok)(s0:0<st)(s1:st<=64)(hn:n<=1000):QL Int 0 D.int (cm fs st) n st (eK fs) fA where
 run:=λr hr Q q=>⟨r,fs,st,rfl,⟨ok,by lia,by lia,by lia⟩,q⟩
 len:=λr hr=>by rw[NM,iX];exact hr
 off:=λr i hr hi hm=>oG (z:=(0:Int)) (G:=λf x l r=>x+1*lP f l r) s0 hm fs r ok
 lf:=λx=>rfl
theorem P5 {a:Type}{z:a}{op:Nat->List a->List a}{h w:Nat}{e:Nat->Nat->a}:∀{n d:Nat},n<=d->ed z op h w n d e=e
 | 0,_,_=>rfl
 |n+1,d,hd=>by
  show (if d<=n then _ else e)=e
  rw[c? (by lia)]
abbrev kl:A6:=top 43
theorem jk:aR ["lowering","wave","ladder","levels","down","sheet","k"] ["lowering","wave","ladder","levels","down"] (aB kl):=by f_are
def mF:dN:=λds P=>∃(a:Type) (z:a) (g:a->D) (op:Nat->List a->List a) (x:Al) (sp:dN) (l:D) (h w L d:Nat) (e:Nat->Nat->a),ds=[.fn x,.lst (tL g h w e),l,.int L,.int d]/\(x,sp)∈nv/\(∀k,k<L->QL a z g (op k) w (2^k) l sp/\QL a z g (op k) h (2^k) l sp)/\L<=6/\d<=6/\0<h/\h<=1000/\w<=1000/\P (.nl (j0 g h w (ed z op h w L d e)))
theorem wo (U:bN K mg "opened_by" kl f fd)(B:b_ mg)(KV:b7 K)(t:cc P w K mg base "thinned" 1 ["sheet","k"] (cg K 2 jc))(a:cc P w K mg base "change_columns" 4 ["sheet","doing","ladder","stride"] (vz K 4 fc))(r:cc P w K mg base "change_rows" 4 ["sheet","doing","ladder","stride"] (vz K 4 gx)):
  cc P w K mg base "opened_by" 5 ["lowering","wave","ladder","levels","down"] (cg K 5 mF):=by
 refine df.of U jk (by f_tup) rfl (λc A o s H E q=>⟨_,_,(aG (a5 (i:=5) jk.nd rfl (An rfl) (aY t (q.mono (by decide)) (by rfl) (ae (pv 1) (ae aJ aD))))
   (aG (dz AM rfl (PY rfl B.range (ae (aW dr (pv 3) aJ) (ae (aW dr (pv 4) aJ) (ae (ye qz aJ) aD)))) (bB (i:=6) jk.nd rfl (An rfl)) (aG (bY (aY a (q.mono (by decide)) (by rfl) (ae (pv 5) (ae (pv 0) (ae (pv 2) (ae (aW gP aJ (pv 6)) aD))))))
   (aI (bY (aY r (q.mono (by decide)) (by rfl) (ae (pv 5) (ae (pv 0) (ae (pv 2) (ae (aW gP aJ (pv 6)) aD)))))))))
   (aI (aX (pv 5))))),
  (aU (bx (a4 (aA aF (aA aE aK))))
   (aU (et (V6 (aH (aM (aN b9 aC (aM aE))) (aH (aM (aN b9 aC (aM aE))) (aH (aM (rk (aM aE))) aP)))) bD (aU (ll (aA aF (aA aF (aA (aN cn (aM aE) aC) aK))))
   (ll (aA aF (aA aF (aA (aN cn (aM aE) aC) aK))))))
   fJ)),?_⟩)
 rintro ds Pr ⟨p,z,g,op,x,sp,l,h,w,L,d,e,rfl,O,ok,l6,d6,T,v,hw,k⟩;gn_on;refine⟨p,g,h,w,0,e,rfl,by lia,v,hw,?_⟩;rw[vB];gp_on;fin2;refine⟨⟨by lia,by lia,by lia,by lia⟩,?_⟩;rw[show ((L:Int)-1-((d:Int)-1)).toNat=L-d by lia];refine⟨λn δ=>n<=L-d/\∃o e',δ=[vD (.fn x),vD (.lst (tL g h w e)),vD l,vI L,vI d,a! (.own (.nl (j0 g h w e'))),o]/\ed z op h w (L-n) d e'=ed z op h w L d e,⟨By _,a?,e,rfl,rfl⟩,?_,?_⟩
 .rintro n d' δ hd ⟨hn,o,e',rfl,j⟩;obtain⟨hi,rfl⟩:=eU hd;obtain⟨m,u⟩:∃m,L-n=m+1:=⟨L-n-1,by lia⟩
  have M:m<L:=by lia
  obtain⟨G,C⟩:=S9 (show m<=6 by lia);have Q:(L:Int)-1+(n:Int) * -1=(m:Int):=by lia
  have J:(1:Int)*2^((m:Int)).toNat=((2^m:Nat):Int):=by simp
  rw[Q];gn_on;rw[J];refine⟨⟨by omega,by lia⟩,p,z,g,op m,x,sp,l,h,w,2^m,_,rfl,rfl,O,(ok m M).2,G,C,T,v,hw,?_⟩;gp_on;fin2;rw[J];refine⟨⟨by omega,by lia⟩,p,z,g,op m,x,sp,l,h,w,2^m,_,rfl,rfl,O,(ok m M).1,G,C,v,?_⟩;refine⟨hi,_,_,rfl,?_⟩;rw[<- j,u,show L-(n+1)=m by omega];show _=if d<=m then _ else _
  rw[c! (by lia)]
 .rintro δ ⟨_,o,e',rfl,j⟩;rw[eG]at j;fin2;rw[P5 (by lia)]at j;rw[j];exact k
def RX (h w:Nat)(e:Nat->Nat->Int):D:=.lst (tL D.int h w e)
abbrev zV:A6:=top 42
theorem vJ:aR ["picture","ladder","levels","sheet","k"] ["picture","ladder","levels"] (aB zV):=by f_are
def Nn:dN:=λds P=>∃(h w:Nat) (e:Nat->Nat->Int) (fs:List Lf) (L:Nat),ds=[RX h w e,eK fs,.int L]/\(∀f∈fs,f.Ok)/\L<=6/\0<h/\h<=1000/\w<=1000/\P (.nl (j0 D.int h w (pQ 0 (λk=>cm fs (2^k:Nat)) h w L e)))
theorem Wx (z:bN K mg "laid" zV f fd)(B:b_ mg)(KV:b7 K)(r:jX K mg "raised")(t:cc P w K mg base "thinned" 1 ["sheet","k"] (cg K 2 jc))(g:cc P w K mg base "change_rows" 4 ["sheet","doing","ladder","stride"] (vz K 4 gx))(a:cc P w K mg base "change_columns" 4 ["sheet","doing","ladder","stride"] (vz K 4 fc)):
  cc P w K mg base "laid" 5 ["picture","ladder","levels"] (cg K 3 Nn):=by
 refine df.of z vJ (by f_tup) rfl (λc A o s H E m=>⟨_,_,(aG (a5 (i:=3) vJ.nd rfl (An rfl) (aY t (m.mono (by decide)) (by rfl) (ae (pv 0) (ae aJ aD))))
   (aG (dz AM rfl (eI (by rfl) (by exact B.range) (ae (pv 2) aD)) (bB (i:=4) vJ.nd rfl (An rfl)) (aG (bY (aY g (m.mono (by decide)) (by rfl) (ae (pv 3) (ae (yf (by rfl) r) (ae (pv 1) (ae (aW gP aJ (pv 4)) aD))))))
   (aI (bY (aY a (m.mono (by decide)) (by rfl) (ae (pv 3) (ae (yf (by rfl) r) (ae (pv 1) (ae (aW gP aJ (pv 4)) aD)))))))))
   (aI (aX (pv 3))))),
  (aU (bx (a4 (aA aF (aA aE aK))))
   (aU (et (gq (aH aC aP)) bD (aU (ll (aA (xT r) (aA aF (aA (aN cn (aM aE) aC) aK))))
   (ll (aA (xT r) (aA aF (aA (aN cn (aM aE) aC) aK))))))
   fJ)),?_⟩)
 rintro ds G ⟨h,w,e,fs,L,rfl,ok,C,u,j,hw,k⟩;simp only[RX];gn_on;refine⟨Int,D.int,h,w,0,e,rfl,by lia,j,hw,?_⟩;rw[vB];gp_on;fin2;refine⟨⟨by lia,by lia⟩,?_⟩;refine⟨λn δ=>n<=L/\∃o,δ=[vD (RX h w e),vD (eK fs),vI L,a! (.own (.nl (j0 D.int h w (pQ 0 (λk=>cm fs (2^k:Nat)) h w n e)))),o],⟨By _,a?,rfl⟩,?_,?_⟩
 .rintro n d δ hd ⟨hn,o,rfl⟩;obtain⟨hi,rfl⟩:=eU hd;have q:n<L:=by lia
  obtain⟨l,p⟩:=S9 (show n<=6 by lia);have v:(1:Int)*2^(0+(n:Int)*1).toNat=((2^n:Nat):Int):=by simp
  gn_on;rw[v];refine⟨⟨by (clear hw;lia),by (clear u j hw;lia)⟩,Int,0,D.int,cm fs (2^n:Nat),"raised",fA,eK fs,h,w,2^n,_,rfl,rfl,by simp[nv],uL ok l p hw,l,p,j,?_⟩;gp_on;fin2;rw[v];refine⟨⟨by (clear hw;lia),by (clear u j hw;lia)⟩,Int,0,D.int,cm fs (2^n:Nat),"raised",fA,eK fs,h,w,2^n,_,rfl,rfl,by simp[nv],uL ok l p j,l,p,u,j,hw,?_⟩;exact⟨q,_,rfl⟩
 .rintro δ ⟨_,o,rfl⟩;rw[eG,show ((L:Int)).toNat=L by lia];exact k
theorem xD {fs:List Lf}{st n:Nat}(ok:∀f∈fs,f.Ok)(s0:0<st)(s1:st<=64)(hn:n<=1000):QL hG (0,0) fy (d7 (0,0) dh fs st) n st (eK fs) cY where
 run:=λr hr Q q=>⟨r,fs,st,rfl,⟨ok,by lia,by lia,by lia⟩,q⟩
 len:=λr hr=>by rw[Mz];exact hr
 off:=λr i hr hi hm=>oG (z:=((0,0):hG)) (G:=dh) s0 hm fs.reverse r λf hf=>ok f (Dz.mp hf)
 lf:=λx=>Ml
abbrev gD:A6:=top 44
theorem pJ:aR ["sheet","ladder","levels","down"] ["sheet","ladder","levels","down"] (aB gD):=by f_are
def jE:dN:=λds P=>∃(h w:Nat) (e:Nat->Nat->hG) (fs:List Lf) (L d:Nat),ds=[.lst (tL fy h w e),eK fs,.int L,.int d]/\(∀f∈fs,f.Ok)/\L<=6/\d<=6/\0<h/\h<=1000/\w<=1000/\P (.nl (j0 fy h w (ed (0,0) (λk=>d7 (0,0) dh fs (2^k:Nat)) h w L d e)))
theorem pL {f:Ae}{fd:A8}{T:Ae}{t:LF}(v:xo K mg "opened_spans" gD f fd T #[.int 0 t])(B:b_ mg)(KV:b7 K)(n:jX K mg "lowered_spans")(p:cc P w K mg base "opened_by" 5 ["lowering","wave","ladder","levels","down"] (cg K 5 mF)):
  MX P w K mg base "opened_spans" 6 ["sheet","ladder","levels","down"] (cg K 4 jE) [.int 0]:=by
 refine YW.of (ds:=[.int 0 t]) v pJ (λ_ _ _ _ _ _ us hl=>match us,hl with | [_,_,_,_],_=>⟨_,rfl,rfl⟩) (λ_ _ _ _ _ _ us hl=>by have l:us.length=3:=(by simpa using hl);exact match us,l with | [_,_,_],_=>⟨_,rfl,rfl⟩) (.cons ⟨_,rfl⟩ (.nil)) rfl (λc A o s H E r=>⟨_,_,(aI (aX (aY p (r.mono (by decide)) (by rfl) (ae (yf (by rfl) n) (ae (pv 0) (ae (pv 1) (ae (pv 2) (ae (pv 3) aD)))))))),
  (bt (a4 (aA (xT n) (aA aF (aA aF (aA aF (aA aF aK))))))),?_⟩)
 rintro ds C ⟨h,w,e,fs,L,d,rfl,ok,m,u,q,j,hw,k⟩;fin2;refine⟨hG,(0,0),fy,λk=>d7 (0,0) dh fs (2^k:Nat),"lowered_spans",cY,eK fs,h,w,L,d,e,rfl,by simp[nv],λk z=>?_,m,u,q,j,hw,k⟩;obtain⟨g,a⟩:=S9 (show k<=6 by lia);exact⟨xD ok g a hw,xD ok g a j⟩
theorem SR {c a:Type}{R:c->a->Prop}{z:c}{y:a}{op:List c->List c}{op':List a->List a}{h w st:Nat}{e:Nat->Nat->c}{e':Nat->Nat->a}(o:∀(xs:List c) (ys:List a),xs.length=ys.length->(∀p,p<xs.length->R (xs.getD p z) (ys.getD p y))->∀p,p<xs.length->R ((op xs).getD p z) ((op' ys).getD p y))
  (q:∀i j,i<h->j<w->R (e i j) (e' i j)):∀i j,i<h->j<w->R (lD z op w st e i j) (lD y op' w st e' i j):=λi j hi J=>by
 unfold lD;split
 .refine o _ _ (by rw[bK,bK]) (λp f=>?_) j (by rw[bK];exact J);rw[bK]at f;rw[e_ f,e_ f];exact q i p hi f
 .exact q i j hi J
theorem UZ {c a:Type}{R:c->a->Prop}{z:c}{y:a}{op:List c->List c}{op':List a->List a}{h w st:Nat}{e:Nat->Nat->c}{e':Nat->Nat->a}(o:∀(xs:List c) (ys:List a),xs.length=ys.length->(∀p,p<xs.length->R (xs.getD p z) (ys.getD p y))->∀p,p<xs.length->R ((op xs).getD p z) ((op' ys).getD p y))
  (q:∀i j,i<h->j<w->R (e i j) (e' i j)):∀i j,i<h->j<w->R (lF z op h st e i j) (lF y op' h st e' i j):=λi j hi J=>by
 unfold lF;split
 .refine o _ _ (by rw[bK,bK]) (λp f=>?_) i (by rw[bK];exact hi);rw[bK]at f;rw[e_ f,e_ f];exact q p j f J
 .exact q i j hi J
theorem oh {c a:Type}{R:c->a->Prop}{z:c}{y:a}{op:Nat->List c->List c}{op':Nat->List a->List a}{h w:Nat}(o:∀(k:Nat) (xs:List c) (ys:List a),xs.length=ys.length->(∀p,p<xs.length->R (xs.getD p z) (ys.getD p y))->∀p,p<xs.length->R ((op k xs).getD p z) ((op' k ys).getD p y)):
  ∀(n d:Nat) (e:Nat->Nat->c) (e':Nat->Nat->a),(∀i j,i<h->j<w->R (e i j) (e' i j))->∀i j,i<h->j<w->R (ed z op h w n d e i j) (ed y op' h w n d e' i j)
 | 0,_,_,_,q=>q
 |n+1,d,e,e',q=>by
  unfold ed;split
  .exact oh o n d _ _ (SR (o n) (UZ (o n) q))
  .exact q
theorem yz:(0:Int)<((2^k:Nat):Int):=by
 exact_mod_cast Fs (by decide)
theorem Z4 {fs:List Lf}(ok:∀f∈fs,f.Ok){h w L d:Nat}{e e':Nat->Nat->hG}(q:∀i j,Uu (e i j) (e' i j))(i j:Nat)(hi:i<h)(J:j<w):
  Uu (ed (0,0) (λk=>d7 (0,0) dh fs (2^k:Nat)) h w L d e i j) (ed (0,0) (λk=>d7 (0,0) dh fs (2^k:Nat)) h w L d e' i j):=
 oh (R:=Uu) (z:=((0,0):hG)) (y:=((0,0):hG)) (op:=λk=>d7 (0,0) dh fs (2^k:Nat)) (op':=λk=>d7 (0,0) dh fs (2^k:Nat)) (h:=h) (w:=w)
  (λk xs ys hl r p g=>sT (R:=Uu) (z:=((0,0):hG)) (y:=((0,0):hG)) (G:=dh) (G':=dh) (fs:=fs) (xs:=xs) (ys:=ys) yz ok hl r (λf _ a b c A B c' h1 h2 l=>SG h1 h2 l) p g) L d e e' (λi j _ _=>q i j) i j hi J
theorem Z3 {fs:List Lf}(ok:∀f∈fs,f.Ok){h w L d:Nat}{e:Nat->Nat->Int}(i j:Nat)(hi:i<h)(J:j<w):
  ed (0,0) (λk=>d7 (0,0) dh fs (2^k:Nat)) h w L d (λi j=>(e i j,e i j)) i j=(ed 0 (λk=>iG fs (2^k:Nat)) h w L d e i j,ed 0 (λk=>iG fs (2^k:Nat)) h w L d e i j):=
 oh (R:=λ(s:hG) (x:Int)=>s=(x,x)) (z:=((0,0):hG)) (y:=(0:Int)) (op:=λk=>d7 (0,0) dh fs (2^k:Nat)) (op':=λk=>iG fs (2^k:Nat)) (h:=h) (w:=w)
  (λk xs ys hl g p m=>sT (R:=λ(s:hG) (x:Int)=>s=(x,x)) (z:=((0,0):hG)) (y:=(0:Int)) (G:=dh) (G':=λf x l r=>x+(-1)*lP f l r) (fs:=fs) (xs:=xs) (ys:=ys) yz ok hl g (λf _ a b c A B c' h1 h2 n=>by rw[h1,h2,n,PN]) p m) L d _ e (λi j _ _=>rfl) i j hi J
theorem z7 (h:a<=b):(2:Int)^a<=2^b:=by
 have:(2:Nat)^a<=2^b:=Ft (by decide) h
 exact_mod_cast this
theorem Xi (hd:1<=d)(h1 : -B<=q)(h2:q<=B)(h:0<=B) : -B<=q / d/\q / d<=B:=by
 constructor
 .rw [E7 (by lia)];have:B*1<=B*d:=BI hd h;rw[FX];lia
 .refine Int.ediv_le_of_le_mul (by lia) ?_;have:B*1<=B*d:=BI hd h;lia
theorem N_ (hc : -8<=c/\c<=8)(a : -B<=x/\x<=B) : -(8*B)<=c*x/\c*x<=8*B:=by
 have f:0<=B:=by lia
 rcases Int.le_total 0 c with h |h
 .have h1:c*x<=c*B:=BI a.2 h;have h2:c*B<=8*B:=BF hc.2 f;have e:c*(-B)<=c*x:=BI a.1 h;rw[Kp]at e;exact⟨by lia,by lia⟩
 .have h1:(-c)*x<=(-c)*B:=BI a.2 (by lia);have h2:(-c)*B<=8*B:=BF (by lia) f;have e:(-c)*(-B)<=(-c)*x:=BI a.1 (by lia);rw[Kp,FX,FX]at e;rw[FX,FX]at h1;rw[FX]at h2;exact⟨by lia,by lia⟩
theorem W_ (ok:f.Ok)(B:6<=b)(c : -2^b<=x/\x<=2^b)(h : -2^b<=y/\y<=2^b) : -(17*2^b)<=lP f x y/\lP f x y<=17*2^b:=by
 have e:(64:Int)<=2^b:=z7 B;have h1:=N_ ok.l c;have h2:=N_ ok.r h;have g:=ok.a;have hd:(1:Int)<=2^f.s.toNat:=z7 (By _);exact Xi hd (by lia) (by lia) (by lia)
theorem WO (ok:f.Ok)(B:6<=b){st:Int}(a:0<st)(h:∀p:Nat,-2^b<=xs.getD p 0/\xs.getD p 0<=2^b):∀p:Nat,-2^(b+5)<=(iU 1 f st xs).getD p 0/\(iU 1 f st xs).getD p 0<=2^(b+5):=λp=>by
 have e:(2:Int)^(b+5)=32*2^b:=by rw[Int.pow_add,Es];rfl
 rw[(m_ a ok.h).2 p];have c:=h p;split
 .unfold ik;have hg:=W_ ok B (h (uR (p:Int) xs.length st).toNat) (h (uQ (p:Int) xs.length st).toNat);rw[AX];exact⟨by lia,by lia⟩
 .exact ⟨by lia,by lia⟩
theorem ro {st:Int}(a:0<st):∀{fs:List Lf} {b:Nat} {xs:List Int},(∀f∈fs,f.Ok)->6<=b->(∀p:Nat,-2^b<=xs.getD p 0/\xs.getD p 0<=2^b)->∀p:Nat,-2^(b+5*fs.length)<=(cm fs st xs).getD p 0/\(cm fs st xs).getD p 0<=2^(b+5*fs.length)
 | [],b,xs,_,_,h=>h
 |f::fs,b,xs,ok,B,h=>by
  have:=ro a (fs:=fs) (b:=b+5) (xs:=iU 1 f st xs) (λg hg=>ok g (by simp[hg])) (by lia) (WO (ok f (by simp)) B a h);rw[AQ,show b+5*(fs.length+1)=b+5+5*fs.length by lia];exact this
theorem RB {f:Nat->Int}(h:∀i,-2^b<=f i/\f i<=2^b):∀p:Nat,-2^b<=(tab n f).getD p 0/\(tab n f).getD p 0<=2^b:=λp=>by
 have c:(0:Int)<2^b:=HH (by decide);by_cases a:p<n
 .rw [e_ a];exact h p
 .rw [Ak,Bd (by rw[bK];lia)];exact⟨by show -2^b<=(0:Int);lia,by show (0:Int)<=2^b;lia⟩
theorem Ug (ok:∀f∈fs,f.Ok){w:Nat}(B:6<=b){e:Nat->Nat->Int}(m:∀i j,-2^b<=e i j/\e i j<=2^b):∀(L:Nat) (i j:Nat),-2^(b+10*fs.length*L)<=pQ 0 (λk=>cm fs (2^k:Nat)) h w L e i j/\pQ 0 (λk=>cm fs (2^k:Nat)) h w L e i j<=2^(b+10*fs.length*L)
 | 0,i,j=>m i j
 |L + 1,i,j=>by
  have l:=Ug (h:=h) (w:=w) ok B m L;have g:(0:Int)<((2^L:Nat):Int):=by have:=Ji L;lia
  have up:∀{a c:Nat} {x:Int},a<=c->(-2^a<=x/\x<=2^a)->-2^c<=x/\x<=2^c:=λA n=>by
   have:=z7 A;exact⟨by (clear B g;lia),by (clear B g;lia)⟩
  have r:∀i j,-2^(b+10*fs.length*L+5*fs.length)<=lD 0 (cm fs (2^L:Nat)) w (2^L) (pQ 0 (λk=>cm fs (2^k:Nat)) h w L e) i j/\lD 0 (cm fs (2^L:Nat)) w (2^L) (pQ 0 (λk=>cm fs (2^k:Nat)) h w L e) i j<=2^(b+10*fs.length*L+5*fs.length):=λi j=>by
   unfold lD;split
   .exact ro g ok (by lia) (RB (l i)) j
   .exact up (by lia) (l i j)
  show -2^_<=lF 0 (cm fs (2^L:Nat)) h (2^L) _ i j/\lF 0 (cm fs (2^L:Nat)) h (2^L) _ i j<=_
  rw[show b+10*fs.length*(L+1)=b+10*fs.length*L+5*fs.length+5*fs.length by rw[Kl];lia];unfold lF;split
  .exact ro g ok (by lia) (RB (λi=>r i j)) i
  .exact up (by lia) (r i j)
theorem S8 (e:Nat):(0:Int)<2^e:=by
 have h1:0<(2:Nat)^e:=Fs (by decide);have h2:((2^e:Nat):Int)=(2:Int)^e:=rfl;lia
theorem Ń (hi:0<=i)(h:0<=j):Dx i j=((i.toNat|||j.toNat:Nat):Int):=by
 unfold Dx;have f:decide (0<=BL i)=false:=decide_eq_false (by unfold BL;lia);have c:decide (0<=BL j)=false:=decide_eq_false (by unfold BL;lia);have a:BL (BL i)=i:=by unfold BL;lia
 have e:BL (BL j)=j:=by unfold BL;lia
 unfold B9;rw[f,c];dsimp only;rw[a,e];unfold BL;lia
theorem Xz (n:Nat):B9 (n:Int) 1=((n%2:Nat):Int):=by
 unfold B9;rw[decide_eq_true (show (0:Int)<=(n:Int) by lia),decide_eq_true (show (0:Int)<=1 by decide)];have e:(1:Int).toNat=1:=rfl;rw[AX,e,Ij]
theorem U7 (hi:0<=i)(J:0<=j)(L:Nat):B9 (Dx i j / 2^L) 1=0↔i / 2^L%2=0/\j / 2^L%2=0:=by
 obtain⟨a,rfl⟩:=He hi;obtain⟨b,rfl⟩:=He J;rw[Ń hi J];have e:((((a:Int).toNat|||(b:Int).toNat:Nat):Int) / 2^L)=(((a|||b) / 2^L:Nat):Int):=by
  simp
 rw[e,Xz];have t:(a|||b) / 2^L%2=0↔(a / 2^L%2=0/\b / 2^L%2=0):=by
  have h:=Nat.testBit_or a b L;rw[Dn,Dn,Dn]at h;have h':=(decide_eq_decide (p:=(a|||b) / 2^L%2=1) (q:=a / 2^L%2=1∨b / 2^L%2=1)).mp (by rw[h,Bool.decide_or]);lia
 have C:((a:Int) / 2^L%2=0)↔a / 2^L%2=0:=by
  have:((a:Int) / 2^L%2)=((a / 2^L%2:Nat):Int):=by simp
  clear J e;lia
 have c:((b:Int) / 2^L%2=0)↔b / 2^L%2=0:=by
  have:((b:Int) / 2^L%2)=((b / 2^L%2:Nat):Int):=by simp
  clear hi e;lia
 rw[C,c,<- t];lia
noncomputable def Q9:Nat->Int->Int->Nat
 | 0,_,_=>0
 |n+1,i,j=>if i%2=0/\j%2=0 then 1+Q9 n (i / 2) (j / 2) else 0
theorem sx:∀(n:Nat) (i j:Int),Q9 n i j<=n
 | 0,_,_=>Ag _
 |n+1,i,j=>by
  unfold Q9;split
  .have:=sx n (i / 2) (j / 2);lia
  .lia
theorem Ot (i:Int)(L:Nat):i / 2^L / 2=i / 2^(L+1):=by
 rw[J_,Int.ediv_ediv_of_nonneg (Kb (S8 L))]
abbrev l7:A6:=top 68
theorem hQ:aR ["i","j","levels","both","level"] ["i","j","levels"] (aB l7):=by f_are
def hH:dN:=λds P=>match ds with
 | [.int i,.int j,.int n]=>(0<=i/\0<=j/\0<=n)/\P (.fz (.int (Q9 n.toNat i j)))
 |_=>False
theorem yk (r:bN K mg "level_of" l7 f fd)(B:b_ mg)(KV:b7 K)(l:jX K mg "level"):
  cc P w K mg base "level_of" 1 ["i","j","levels"] (cg K 3 hH):=by
 refine df.of r hQ (by f_tup) rfl (λc A o s H E t=>⟨_,_,(aG (a5 (i:=3) hQ.nd rfl (An rfl) (aW ń (pv 0) (pv 1)))
   (aG (a5 (i:=4) hQ.nd rfl (An rfl) aJ)
   (aG (kG AM (n_ (bI iT (pv 4) (pv 2) (bG _)) (mW (bI eX (aW Tq (aW rK (pv 3) (pv 4)) aJ) aJ (bG _)))).pt (aI (ZQ (i:=4) hQ.nd rfl (An rfl) aJ Us)))
   (aI (aX (pv 4)))))),
  (aU (bx (a8 (aN b9 aC aC)))
   (aU (bx (a8 aE))
   (aU (q_ (n9 (bL (aN dI aC aC)) (bL (aN fu (aM (aN b9 (aM (aN cn aC aC)) (aM aE))) (aM aE)))) (Zn ņ (aM aE)))
   (bt (a8 aF))))),?_⟩)
 intro ds u h;unfold hH at h;split at h
 .rename_i i j n;obtain⟨⟨hi,J,hn⟩,k⟩:=h;fin2;refine⟨λm δ=>∃L:Nat,δ=[vI i,vI j,vI n,vI (Dx i j),vI L]/\(L:Int)<=n/\m=n.toNat-L/\Q9 n.toNat i j=L+Q9 (n.toNat-L) (i / 2^L) (j / 2^L),⟨_,0,rfl,by omega,rfl,by simp⟩,?_⟩;rintro m δ ⟨L,rfl,h1,rfl,h2⟩;fin2;by_cases p:(L:Int)<n
  .rw [c! p];refine⟨by (clear h1;lia),?_⟩;rw[AX];obtain⟨q,Q⟩:∃q,n.toNat-L=q+1:=⟨n.toNat-L-1,by (clear h1;lia)⟩
   rw[Q,Q9]at h2;have g:=U7 hi J L;by_cases a:B9 (Dx i j / 2^L) 1=0
   .rw [c! a];rw[c! (g.mp a),Ot,Ot]at h2;refine⟨n.toNat-(L+1),by lia,L+1,rfl,by lia,rfl,?_⟩;rw[show n.toNat-(L+1)=q by lia];lia
   .rw [c? a];rw[c? λz=>a (g.mpr z)]at h2;rw[h2]at k;exact k
  .rw [c? p];have e:n.toNat-L=0:=by lia
   rw[e,Q9]at h2;rw[h2]at k;simpa using k
 .exact h.elim
noncomputable def zo (p:Int×Int):D:=.tup [.int p.1,.int p.2]
noncomputable def gL (i w:Nat):List (Int×Int):=(AF w).map λ(j:Nat)=>((i:Int),(j:Int))
def f7 (h w:Nat):List (Int×Int):=(AF h).flatMap λi=>gL i w
def tY (n:Nat)(p:Int×Int):Nat:=Q9 n p.1 p.2
def qk (n:Nat)(ps:List (Int×Int))(l:Nat):List (Int×Int):=ps.filter λp=>tY n p==l
def cx (h w n:Nat):List (Int×Int):=((AF (n+1)).map (qk n (f7 h w))).reverse.flatten
def nq (n:Nat)(ps:List (Int×Int)):List OV:=(AF (n+1)).map λl=>.nl ((qk n ps l).map λp=>.fz (zo p))
theorem Uz (n:Nat):nq n []=(AF (n+1)).map λ_=>OV.nl []:=rfl
theorem sJ (h:l<=n):(nq n ps)[l]?=a! (.nl ((qk n ps l).map λp=>.fz (zo p))):=by
 unfold nq;rw[AK,List.getElem?_range (by lia)];rfl
theorem Qp:(nq n ps).set (tY n p) (.nl (((qk n ps (tY n p)).map λp=>OV.fz (zo p))++[.fz (zo p)]))=nq n (ps++[p]):=by
 have h:tY n p<=n:=sx _ _ _;refine DP λl=>?_
 rw[EE];by_cases hl:l<=n
 .rw [sJ hl,sJ hl];have e:qk n (ps++[p]) l=qk n ps l++(if tY n p=l then [p] else []):=by
   unfold qk;by_cases z:tY n p=l<;>simp[z]
  rw[e];by_cases z:tY n p=l
  .rw [c! z,c! z,c! (by simp[nq];lia),Bc,z];rfl
  .rw [c? z,c? z,A_]
 .have c:(nq n ps)[l]?=none:=Bd (by simp[nq];lia);have a:(nq n (ps++[p]))[l]?=none:=Bd (by simp[nq];lia);rw[c? (by lia),c,a]
theorem Ms:(qk n ps l).length<=ps.length:=List.length_filter_le _ _
theorem oM {w:Nat}:f7 (i+1) w=f7 i w++gL i w:=by
 unfold f7;rw[EK];simp
theorem z_:gL i (j+1)=gL i j++[((i:Int),(j:Int))]:=by
 unfold gL;rw[EK,Bc];rfl
theorem uP {w:Nat}:(gL i w).length=w:=by simp[gL]
theorem zg {w:Nat}:(f7 h w).length=h*w:=by
 induction h with
 |zero=>simp[f7]
 |succ h a=>rw[oM,AE,a,uP,J6]
theorem Qo:(nq n ps).map OV.val=(AF (n+1)).map λl=>D.lst ((qk n ps l).map zo):=by
 unfold nq;rw[AW];refine B3 λl _=>?_
 show OV.val (.nl _)=_
 rw[OV.val,OV.c7,AW];rfl
theorem Ni (k:Nat)(g:Nat->Nat):∀m:Nat,k<m->((AF m).map λl=>g l+if k=l then 1 else 0).sum=((AF m).map g).sum+1
 | 0,h=>by lia
 |m + 1,h=>by
  rw[EK,Bc,Bc,EI,EI];by_cases a:k=m
  .subst a;have:((AF k).map λl=>g l+if k=l then 1 else 0)=(AF k).map g:=by
    refine B3 λl hl=>?_
    rw[c? (by have:=BV.mp hl;lia)];rfl
   rw[this];simp
   lia
  .rw [Ni k g m (by lia)];simp[a]
   lia
theorem XI:∀m:Nat,((AF m).map λ_=>0).sum=0
 | 0=>rfl
 |m+1=>by
  rw[EK,Bc,EI,XI m];rfl
theorem Oi (n:Nat):∀ps:List (Int×Int),((AF (n+1)).map λl=>(qk n ps l).length).sum=ps.length
 | []=>by
  have:((AF (n+1)).map λl=>(qk n [] l).length)=(AF (n+1)).map λ_=>0:=B3 λl _=>rfl
  exact XI _
 |p :: ps=>by
  have e:((AF (n+1)).map λl=>(qk n (p::ps) l).length)=(AF (n+1)).map λl=>(qk n ps l).length+if tY n p=l then 1 else 0:=by
   refine B3 λl _=>?_
   unfold qk;by_cases z:tY n p=l<;>simp[z]
  rw[e,Ni _ _ _ (by have:=sx n p.1 p.2;unfold tY;lia),Oi n ps];rfl
theorem h_ {w:Nat}:(cx h w n).length=h*w:=by
 unfold cx;rw[List.length_flatten,CD,List.sum_reverse,AW];exact (Oi n (f7 h w)).trans zg
theorem lI {a:Type}{xs:List (List a)}{i:Nat}{x:List a}(h:xs[i]?=a! x):(xs.take (i+1)).flatten=(xs.take i).flatten++x:=by
 obtain⟨hi,e⟩:=Ab.mp h;rw[AO hi,e];simp
abbrev mR:A6:=top 69
theorem gv:aR ["high","wide","levels","groups","i","j","ordered","group"] ["high","wide","levels"] (aB mR):=by f_are
def nY:dN:=λds P=>∃h w n:Nat,ds=[.int (h:Int),.int (w:Int),.int (n:Int)]/\(h<=100/\w<=100/\n<=100)/\P (.nl ((cx h w n).map λp=>.fz (zo p)))
theorem P7 (Df:bN K mg "places" mR f fd)(B:b_ mg)(KV:b7 K)(L:jX K mg "level")(v:cc P w K mg base "level_of" 1 ["i","j","levels"] (cg K 3 hH)):
  cc P w K mg base "places" 2 ["high","wide","levels"] (cg K 3 nY):=by
 refine df.of Df gv (by f_tup) rfl (λc A o s H E G=>⟨_,_,(aG (gJ (i:=3) gv.nd rfl (An rfl) rfl (eI (by rfl) (by exact B.range) (ae (aW cH (pv 2) aJ) aD)) (show bX (aB mR) _ from⟨rfl,by decide +kernel,by decide +kernel,by decide +kernel⟩) (N:=["level"]) (ix:=[a?]) (show cW _ _ _ _ from trivial) (λ_ _ _=>(bB (i:=0) (show Bp (["level"]:List Al) by decide +kernel) rfl (An rfl))) (λ_ _ _=>(cV aD)))
   (aG (dz AM rfl (eI (by rfl) (by exact B.range) (ae (pv 0) aD)) (bB (i:=4) gv.nd rfl (An rfl)) (aI (dz AM rfl (eI (by rfl) (by exact B.range) (ae (pv 1) aD)) (bB (i:=5) gv.nd rfl (An rfl)) (aI (bY (gM Bj PySem.F.slot_list_append PySem.F.type_list_append dD (aS bR (pv 3) (aY v (G.mono (by decide)) (by rfl) (ae (pv 4) (ae (pv 5) (ae (pv 2) aD)))) (λ_ _=>rfl)) (ae (cb (ae (pv 4) (ae (pv 5) aD))) aD)))))))
   (aG (a5 (i:=6) gv.nd rfl (An rfl) (cV aD))
   (aG (dz AM rfl (we rfl B.reversed (ae (pv 3) aD)) (bB (i:=7) gv.nd rfl (An rfl)) (aI (bY (gM Bj PySem.F.slot_list_extend PySem.F.type_list_extend sd (pv 6) (ae (pv 7) aD)))))
   (aI (aX (pv 6))))))),
  (aU (bx (dU (gq (aH (aM (aN b9 aC (aM aE))) aP)) bD (dS cU)))
   (aU (et (gq (aH aC aP)) bD (et (gq (aH aC aP)) bD (VZ (aM (bV (a4 (aA aF (aA aF (aA aF aK)))))) (a8 (cG (aA aF (aA aF aK)))))))
   (aU (bx (dS cU))
   (aU (Sa 3 (et (V7 (aA aF aK)) bD (Sd aF)))
   fJ)))),?_⟩)
 rintro ds Pr ⟨h,a,n,rfl,⟨T,hw,hn⟩,k⟩;refine R9 λN hN=>?_
 fin2;refine⟨⟨by lia,by lia⟩,f9.v8 (λ_=>.nl []) (by lia) (λi hi Q q=>by fin2;exact q) ?_⟩;rw[show ((n:Int)+1).toNat=n+1 by lia,<- Uz];gp_on;gn_on;refine⟨⟨by lia,by lia⟩,λi δ=>i<=h/\∃r O m g,δ=[vI h,vI a,vI n,vL (nq n (f7 i a)),r,O,m,g],⟨By _,_,_,_,_,rfl⟩,?_,?_⟩
 .rintro i d δ hd ⟨M,r,O,m,g,rfl⟩;obtain⟨hi,rfl⟩:=eU hd;rw[AX]at hi;fin2;refine⟨⟨by lia,by lia⟩,λj δ=>∃O,δ=[vI h,vI a,vI n,vL (nq n (f7 i a++gL i j)),vI (0+(i:Int)*1),O,m,g],⟨O,by simp[gL]⟩,?_,?_⟩
  .rintro j e δ he ⟨O,rfl⟩;obtain⟨J,rfl⟩:=eU he;rw[AX]at J;rw[show 0+(i:Int)*1=i by lia,show 0+(j:Int)*1=j by lia];fin2;simp only[hH];refine⟨⟨by lia,by lia,by lia⟩,?_⟩;fin2;rw[AX,AX];have t:Q9 n i j<=n:=sx _ _ _;refine⟨by lia,_,sJ (l:=Q9 n i j) t,?_,?_⟩
   .have h1:=Ms (n:=n) (l:=Q9 n i j) (ps:=f7 i a++gL i j);rw[AE,zg,uP]at h1;have h2:i*a<=100*100:=Dp (by lia) hw;rw[Au];lia
   .have e:=Qp (n:=n) (ps:=f7 i a++gL i j) (p:=((i:Int),(j:Int)));rw[BN,<- z_]at e;rw[<- e];exact⟨_,rfl⟩
  .rintro δ ⟨O,rfl⟩;rw[eG,AX,<- oM];exact⟨hi,_,_,_,_,rfl⟩
 rintro δ ⟨hi,r,O,m,g,rfl⟩;rw[eG,AX];gp_on;gn_on;gp_on;gn_on;rw[Qo,<- CD];generalize U:a! (Sl.own (OV.fz (D.lst ((AF (n+1)).map λl=>D.lst ((qk n (f7 h a) l).map zo)))))=C;refine⟨λi δ=>∃g,δ=[vI h,vI a,vI n,C,r,O,vL ((((((AF (n+1)).map (qk n (f7 h a))).reverse).take i).flatten).map λp=>.fz (zo p)),g],?_,?_,?_⟩
 .exact ⟨_,rfl⟩
 .rintro i d δ hd ⟨g,rfl⟩;obtain⟨l,hl,rfl⟩:=m7 hd;have u:(((AF (n+1)).map (qk n (f7 h a))).reverse)[i]?=a! (qk n (f7 h a) l):=by
   rw[<- CD,AK,hl];rfl
  dsimp only;rw[lI u];have z:((((AF (n+1)).map (qk n (f7 h a))).reverse.take i).flatten).length+(qk n (f7 h a) l).length<=10000:=by
   rw[<- AE,<- lI u];have h1:((((AF (n+1)).map (qk n (f7 h a))).reverse.take (i+1)).flatten).length<=(cx h a n).length:=by
    unfold cx
    conv=>rhs;rw[<- C6 (i+1) ((AF (n+1)).map (qk n (f7 h a))).reverse,List.flatten_append,AE]
    lia
   rw[h_]at h1;have h2:h*a<=100*100:=Dp T hw;lia
  fin2;refine⟨by lia,?_⟩;rw[AW,Bc];exact⟨_,rfl⟩
 .rintro δ ⟨g,rfl⟩;rw[Au,B4,C7,BS (by simp)];gp_on;fin2;exact k
def Uq (n:Nat)(p:Int×Int):List Int:=[0-(tY n p:Int),p.1,p.2]
def sD (n:Nat)(p q:Int×Int):Prop:=HT.lexLt (Uq n p) (Uq n q)=b!
theorem yD (h:tY n q<tY n p):sD n p q:=by
 unfold sD Uq;rw[HT.jx,c? (by lia)];exact decide_eq_true (by lia)
theorem wV (h:tY n p=tY n q)(r:p.1<q.1∨(p.1=q.1/\p.2<q.2)):sD n p q:=by
 unfold sD Uq;rw[HT.jx,c! (by lia),HT.jx];rcases r with r | ⟨h1,h2⟩
 .rw [c? (by lia)];exact decide_eq_true r
 .rw [c! h1,HT.jx,c? (by lia)];exact decide_eq_true h2
def SQ (p q:Int×Int):Prop:=p.1<q.1∨(p.1=q.1/\p.2<q.2)
theorem wM {w:Nat}:p∈gL i w↔p.1=i/\0<=p.2/\p.2<w:=by
 unfold gL;rw[Be];constructor
 .rintro ⟨j,h,rfl⟩;have:=BV.mp h;exact⟨rfl,by show (0:Int)<=(j:Int);lia,by show (j:Int)<w;lia⟩
 .rintro ⟨h1,h2,a⟩;exact⟨p.2.toNat,BV.mpr (by lia),Jh h1.symm (by show ((p.2.toNat:Nat):Int)=p.2;lia)⟩
theorem wN {w:Nat}:p∈f7 h w↔(0<=p.1/\p.1<h)/\0<=p.2/\p.2<w:=by
 unfold f7;rw[List.mem_flatMap];constructor
 .rintro ⟨i,hi,a⟩;have:=BV.mp hi;obtain⟨h1,h2⟩:=wM.mp a;exact⟨by lia,h2⟩
 .rintro ⟨h1,h2⟩;exact⟨p.1.toNat,BV.mpr (by omega),wM.mpr ⟨by lia,h2⟩⟩
theorem ZF {w:Nat}:(gL i w).Pairwise SQ:=by
 unfold gL;rw[ED];exact GI (λ{a b} h=>.inr ⟨rfl,by show (a:Int)<(b:Int);lia⟩) (Hc)
theorem U_ {w:Nat}:∀h:Nat,(f7 h w).Pairwise SQ
 | 0=>by simp[f7]
 |h+1=>by
  rw[oM,Fi];refine⟨U_ h,ZF,λp a q Q=>.inl ?_⟩;have h1:=(wN.mp a).1;have h2:=(wM.mp Q).1;lia
theorem z8 {w:Nat}:(cx h w n).Pairwise (sD n):=by
 unfold cx;rw[List.pairwise_flatten];constructor
 .intro l hl;rw[Dz,Be]at hl;obtain⟨k,_,rfl⟩:=hl;have h1:(qk n (f7 h w) k).Pairwise SQ:=(U_ h).filter _;refine DV (λ{a b} j B A=>wV ?_ A) h1;have c:tY n a=k:=by simpa using (Dq.mp j).2
  have e:tY n b=k:=by simpa using (Dq.mp B).2
  rw[c,e]
 .rw [List.pairwise_reverse,ED];refine GI (λ{a b} A x g y f=>yD ?_) (Hc);have c:tY n x=b:=by simpa using (Dq.mp g).2
  have e:tY n y=a:=by simpa using (Dq.mp f).2
  lia
theorem oY {w:Nat}(a:p∈cx h w n):(0<=p.1/\p.1<h)/\0<=p.2/\p.2<w:=by
 obtain⟨l,hl,a⟩:=Iy.mp a;rw[Dz,Be]at hl;obtain⟨k,_,rfl⟩:=hl;exact wN.mp (Dq.mp a).1
noncomputable def Qd:D->Bool
 | .int _=>b!
 |_=>b?
def xX (w:Int):D->Bool
 | .lst xs=>decide ((xs.length:Int)=w) && xs.all Qd
 |_=>b?
noncomputable def xJ (n:Nat):Bool:=decide (1<=n) && decide (n<=64)
def B2:D->Bool
 | .lst (.lst r::rs)=>xJ (rs.length+1) && xJ r.length && (D.lst r::rs).all (xX r.length)
 |_=>b?
noncomputable def Ob:D->Bool
 | .ty _=>b?
 | .fn _=>b?
 | .exc _=>b?
 | .obj _ _ _=>b?
 | .qo _ _ _ _=>b?
 |_=>b!
def okP (d:D):Prop:=Ob d=b!/\∀xs,d = .lst xs->xs.length<=1000/\∀x∈xs,Ob x=b!/\∀ys,x = .lst ys->ys.length<=1000/\∀y∈ys,Ob y=b!
abbrev kr:A6:=top 8
theorem vM:aR ["thing"] ["thing"] (aB kr):=by f_are
def gj:dN:=λds P=>∃d,ds=[d]/\Ob d=b!/\P (.fz (.bl (Qd d)))
theorem wz (a:bN K mg "is_number" kr f fd)(B:b_ mg)(KV:b7 K):
  cc P w K mg base "is_number" 1 ["thing"] (cg K 1 gj):=by
 refine df.of a vM (by f_tup) rfl (λc A o s H E r=>⟨_,_,(aI (aX (mf (aV dF (by rfl) B.isinstance Bs (ae (pv 0) (ae (eV (v:=.ty "int") (by rfl) B.int Gm (by rfl)) aD))) (kL (Cs (aV dF (by rfl) B.isinstance Bs (ae (pv 0) (ae (eV (v:=.ty "bool") (by rfl) B.bool Gd (by rfl)) aD)))))))),
  (bt (a8 (jt (bP (gX KV) (aH aC (aH (aM jL) aP))) (vX (bP (gX KV) (aH aC (aH (aM jL) aP))))))),?_⟩)
 rintro ds e ⟨d,rfl,h,k⟩
 cases d<;>first | (simp[Ob]at h;done) | (fin2;exact k)
abbrev vU:A6:=top 16
theorem R6:aR ["one","number"] ["one","number"] (aB vU):=by f_are
def kb:dN:=λds P=>∃a b n:Int,ds=[.tup [.int a,.int b],.int n]/\P (.fz (.bl (decide (a<=n) && decide (n<=b))))
theorem Tx (e:bN K mg "holds" vU f fd)(B:b_ mg)(KV:b7 K):
  cc P w K mg base "holds" 1 ["one","number"] (cg K 2 kb):=by
 refine df.of e R6 (by f_tup) rfl (λc A o s H E r=>⟨_,_,(aI (aX (Td To To (aS aQ (pv 0) aJ (λ_ _=>rfl)) (pv 1) (aS aQ (pv 0) aJ (λ_ _=>rfl))))),
  (bt (a8 (Sw dI dI (bA (dm.b aT) aC (aM aE)) aC (bA (dm.b aT) aC (aM aE))))),?_⟩)
 rintro ds g ⟨a,b,n,rfl,k⟩;fin2;by_cases h:a<=n
 .rw [c! h];rw[decide_eq_true h,BW]at k;exact k
 .rw [c? h];rw[decide_eq_false h,Fk]at k;exact k
abbrev mS:A6:=top 38
theorem PH:aR ["thing","wide"] ["thing","wide"] (aB mS):=by f_are
def uC:dN:=λds P=>∃(d:D) (w:Int),ds=[d,.int w]/\Ob d=b!/\(∀xs,d = .lst xs->xs.length<=1000/\∀x∈xs,Ob x=b!)/\P (.fz (.bl (xX w d)))
theorem vn {a:Type}{f:a->Bool}{xs:List a}:(xs.map f).all id=xs.all f:=by simp[ BG]
theorem P9 (j:bN K mg "is_row" mS f fd)(B:b_ mg)(KV:b7 K)(n:cc P w K mg base "is_number" 1 ["thing"] (cg K 1 gj)):
  cc P w K mg base "is_row" 2 ["thing","wide"] (cg K 2 uC):=by
 refine df.of j PH (by f_tup) rfl (λc A o s H E r=>⟨_,_,(aG (cj (jM (dq (cD (aV dF (by rfl) B.isinstance Bs (ae (pv 0) (ae (eV (v:=.ty "list") (by rfl) B.list Bn (by rfl)) aD))))) (iF (bI yi (aV a_ (by rfl) B.len Bf (ae (pv 0) aD)) (pv 1) (bG _)))).pt (aI (aX gO)) bM)
   (aI (aX (aV (ly rfl) (by rfl) B.all IT (ae (d_ rfl (c8 (pv 0)) (show bX (aB mS) _ from⟨rfl,by decide +kernel,by decide +kernel,by decide +kernel⟩) (N:=["number"]) (ix:=[a?]) (show cW _ _ _ _ from trivial) (λ_ _ _=>(bB (i:=0) (show Bp (["number"]:List Al) by decide +kernel) rfl (An rfl))) (λ_ _ _=>(aY n (r.mono (by decide)) (by rfl) (ae (pv 0) aD)))) aD))))),
  (aU (cC (kC (dR (fC (bP (gX KV) (aH aC (aH (aM jL) aP))))) (bL (aN yn (aM (bP cN (aH aC aP))) aC))) (bt (a8 hV)) bO)
   (bt (a8 (bP xk (aH (aM (bV (dU (dv aF) bD (a4 (aA aF aK))))) aP))))),?_⟩)
 rintro ds l ⟨d,w,rfl,g,a,k⟩
 cases d with
 |lst xs=>
  obtain⟨hl,e⟩:=a xs rfl;fin2;simp only[xX]at k;by_cases h:(xs.length:Int)=w
  .rw [decide_eq_true h]at k ⊢;simp only[EF,Dg,if_false];rw[show xs=xs.map id by simp];refine f9.map xs id (λx=>.fz (.bl (Qd x))) (by lia) (λx a Q q=>?_) ?_
   .fin2;exact⟨x,rfl,e x a,q⟩
   .fin2;refine⟨xs.map Qd,by simp only[AW,BG,OV.val],?_⟩;rw[vn];exact k
  .rw [decide_eq_false h]at k ⊢;simp only[Fj,if_true];exact k
 |_=>first | (simp[Ob]at g;done) | (fin2;exact k)
abbrev gk:A6:=top 39
theorem tM:aR ["thing"] ["thing"] (aB gk):=by f_are
def lL:dN:=λds P=>∃d:D,ds=[d]/\okP d/\P (.fz (.bl (B2 d)))
theorem RW {n:Nat}:(decide ((1:Int)<=(n:Int)) && decide ((n:Int)<=64))=xJ n:=by
 congr 1
 .exact decide_eq_decide.mpr (by omega)
 .exact decide_eq_decide.mpr (by omega)
theorem tS (G:bN K mg "is_picture" gk f fd)(B:b_ mg)(KV:b7 K)(g:MV K mg "SIZES" (D.tup [.int 1,.int 64]))(h:cc P w K mg base "holds" 1 ["one","number"] (cg K 2 kb))(C:cc P w K mg base "is_row" 2 ["thing","wide"] (cg K 2 uC)):
  cc P w K mg base "is_picture" 3 ["thing"] (cg K 1 lL):=by
 refine df.of G tM (by f_tup) rfl (λc A o s H E a=>⟨_,_,(aG (cj (jM (dq (cD (aV dF (by rfl) B.isinstance Bs (ae (pv 0) (ae (eV (v:=.ty "list") (by rfl) B.list Bn (by rfl)) aD))))) (iF (dq (cD (aY h (a.mono (by decide)) (by rfl) (ae (kM (by rfl) g) (ae (aV a_ (by rfl) B.len Bf (ae (pv 0) aD)) aD))))))).pt (aI (aX gO)) bM)
   (aG (cj (jM (dq (cD (aV dF (by rfl) B.isinstance Bs (ae (aS bR (pv 0) aJ (λ_ _=>rfl)) (ae (eV (v:=.ty "list") (by rfl) B.list Bn (by rfl)) aD))))) (iF (dq (cD (aY h (a.mono (by decide)) (by rfl) (ae (kM (by rfl) g) (ae (aV a_ (by rfl) B.len Bf (ae (aS bR (pv 0) aJ (λ_ _=>rfl)) aD)) aD))))))).pt (aI (aX gO)) bM)
   (aI (aX (aV (ly rfl) (by rfl) B.all IT (ae (d_ rfl (c8 (pv 0)) (show bX (aB gk) _ from⟨rfl,by decide +kernel,by decide +kernel,by decide +kernel⟩) (N:=["row","thing"]) (ix:=[a?,a! 0]) (show cW _ _ _ _ from⟨⟨rfl,rfl,.inl rfl⟩,trivial⟩) (λ_ _ _=>(bB (i:=0) (show Bp (["row","thing"]:List Al) by decide +kernel) rfl (An rfl))) (λ_ _ _=>(aY C (a.mono (by decide)) (by rfl) (ae (pv 0) (ae (aV a_ (by rfl) B.len Bf (ae (aS bR (pv 1) aJ (λ_ _=>rfl)) aD)) aD))))) aD)))))),
  (aU (cC (kC (dR (fC (bP (gX KV) (aH aC (aH (aM jL) aP))))) (dR (fC (bV (a4 (aA xS (aA (bP cN (aH aC aP)) aK))))))) (bt (a8 hV)) bO)
   (aU (cC (kC (dR (fC (bP (gX KV) (aH (bA (dm.b cw) aC (aM aE)) (aH (aM jL) aP))))) (dR (fC (bV (a4 (aA xS (aA (bP cN (aH (bA (dm.b cw) aC (aM aE)) aP)) aK))))))) (bt (a8 hV)) bO)
   (bt (a8 (bP xk (aH (aM (bV (dU (dv aF) bD (a4 (aA aF (aA (bP cN (aH (bA (dm.b cw) aC (aM aE)) aP)) aK)))))) aP)))))),?_⟩)
 rintro ds J ⟨d,rfl,⟨z,u⟩,k⟩
 cases d with
 |lst xs=>
  obtain⟨hl,l⟩:=u xs rfl;fin2;refine⟨1,64,_,rfl,?_⟩;fin2;rw[RW]
  cases xs with
  |nil=>exact k
  |cons x rs=>
   rw[show (x::rs).length=rs.length+1 from rfl];have t:=l x Ay;by_cases p:xJ (rs.length+1)=b!
   .rw [p];simp only[EF,Dg,if_false];refine⟨x,MT,?_⟩
    cases x with
    |lst r=>
     fin2;refine⟨1,64,_,rfl,?_⟩;fin2;rw[RW];simp only[B2,p,BW]at k;by_cases a:xJ r.length=b!
     .rw [a];rw[a,BW]at k;simp only[EF,Dg,if_false];rw[show D.lst r::rs=(D.lst r::rs).map id by simp];refine f9.map (D.lst r::rs) id (λx=>.fz (.bl (xX r.length x))) (by simp at hl ⊢;lia) (λx n Q q=>?_) ?_
      .fin2;have:=l x (by simpa using n);simp only[List.map_id_fun',id_eq,BU,Ik,MT];exact⟨x,_,rfl,this.1,this.2,q⟩
      .fin2;refine⟨(D.lst r::rs).map (xX r.length),by simp only[AW,BU,BG,OV.val],?_⟩;rw[vn];exact k
     .have j:xJ r.length=false:=by simpa using a
      rw[j];rw[j,Fk]at k;simp only[Fj,if_true];exact k
    |_=>
     have m:=t.1;simp only[B2]at k
     first | (simp[Ob]at m;done) | (fin2;exact k)
   .have e:xJ (rs.length+1)=false:=by simpa using p
    rw[e];simp only[Fj,if_true]
    cases x<;>simp only[B2,e,Fk]at k<;>exact k
 |_=>first | (simp[Ob]at z;done) | (fin2;exact k)
theorem XA {xs:List Int}:(xs.map D.int).all Qd=true:=by simp[Qd]
theorem xU {w:Nat}{f:Nat->Int}:(tab w λj=>D.int (f j))=(tab w f).map D.int:=by rw[fG]
theorem PR {xs:List Int}{w:Int}:xX w (.lst (xs.map D.int))=decide ((xs.length:Int)=w):=by
 simp only[xX,XA,FF,Au]
theorem PX {w:Nat}{e:Nat->Nat->Int}(k:0<h)(g:0<w):B2 (.lst (tL D.int h w e))=(decide (h<=64) && decide (w<=64)):=by
 obtain⟨h',rfl⟩:∃h',h=h'+1:=⟨h-1,by lia⟩
 have f:tL D.int (h'+1) w e=D.lst (tab w λj=>D.int (e 0 j))::(AF h').map λi=>D.lst (tab w λj=>D.int (e (i+1) j)):=by
  unfold tL
  conv=>lhs;unfold tab
  rw[Hb,BU,AW];rfl
 have a:(tL D.int (h'+1) w e).all (xX w)=true:=by
  rw[GZ];intro x c;obtain⟨i,_,rfl⟩:=Be.mp c;rw[xU,PR,bK];simp
 rw[f]at a ⊢;simp only[B2,bK,a,FF,Au,C7];unfold xJ;rw[decide_eq_true (show 1<=h'+1 by lia),decide_eq_true (show 1<=w by lia),BW,BW]
theorem TC (hl:xs.length<=1000)(h:∀x∈xs,Ob x=b!/\∀ys,x = .lst ys->ys.length<=1000/\∀y∈ys,Ob y=b!):okP (.lst xs):=⟨rfl,λa e=>by cases e;exact⟨hl,h⟩⟩
theorem Z7 {l:List Int}(hl:l.length<=1000):Ob (D.lst (l.map D.int))=b!/\∀ys,D.lst (l.map D.int) = .lst ys->ys.length<=1000/\∀y∈ys,Ob y=true:=⟨rfl,λys e=>by
 cases e;refine⟨by simpa using hl,λy h=>?_⟩;obtain⟨i,_,rfl⟩:=Be.mp h;rfl⟩
theorem Qb {w:Nat}{e:Nat->Nat->Int}(c:h<=100)(hw:w<=100):okP (.lst (tL D.int h w e)):=by
 refine TC (by rw[tL,bK];lia) λy a=>?_
 obtain⟨k,_,rfl⟩:=Be.mp a;rw[xU];exact Z7 (by rw[bK];lia)
noncomputable abbrev Î:List (Al×D):=[("still",.tup []),("pair",.tup [.tup [.int 1,.int (-1),.int 0,.int 0,.int 0],.tup [.int 0,.int 0,.int 1,.int 0,.int 1]]),("line",.tup [.tup [.int 1,.int (-1),.int (-1),.int 1,.int 1],.tup [.int 0,.int 1,.int 1,.int 2,.int 2]]),("long",.tup [.tup [.int 1,.int (-1),.int (-1),.int 1,.int 1],.tup [.int 0,.int 1,.int 1,.int 2,.int 2],.tup [.int 1,.int (-1),.int (-1),.int 4,.int 3]])]
def je:dN:=λds P=>∃k d,ds=[.str k]/\Î.lookup k=a! d/\P (.fz d)
abbrev kq:A6:=top 28
theorem vK:aR ["name"] ["name"] (aB kq):=by f_are
theorem wy (e:bN K mg "ladder_of" kq f fd)(B:b_ mg)(KV:b7 K)(g:Vi w K mg "LADDERS" [("still",.tup []),("pair",.tup [.tup [.int 1,.int (-1),.int 0,.int 0,.int 0],.tup [.int 0,.int 0,.int 1,.int 0,.int 1]]),("line",.tup [.tup [.int 1,.int (-1),.int (-1),.int 1,.int 1],.tup [.int 0,.int 1,.int 1,.int 2,.int 2]]),("long",.tup [.tup [.int 1,.int (-1),.int (-1),.int 1,.int 1],.tup [.int 0,.int 1,.int 1,.int 2,.int 2],.tup [.int 1,.int (-1),.int (-1),.int 4,.int 3]])]):
  cc P w K mg base "ladder_of" 1 ["name"] (cg K 1 je):=by
 refine df.of e vK (by f_tup) rfl (λc A o s H E r=>⟨_,_,(aG (cj (ZO (P1 (by rfl) g (pv 0))) (aI kH) bM)
   (aI (aX (Wn (by rfl) g (pv 0) (λ_ _=>rfl))))),
  (aU (cC (fC (PM aF)) kD bO)
   (bt (a8 (V_ aF)))),?_⟩)
 rintro ds j ⟨k,d,rfl,a,h⟩;fin2;have hn:(Î.lookup k).isNone=false:=by rw[a];rfl
 rw[show (Cg k _).isNone=b? from hn];rw[c? Az];exact⟨d,a,h⟩
def qL:dN:=λds P=>∃f:Lf,ds=[zp f]/\f.Ok/\P (.fz (.bl b!))
def mH:dN:=λds P=>∃fs:List Lf,ds=[eK fs]/\fs.length<=6/\(∀f∈fs,f.Ok)/\P (.fz (.bl b!))
def qK:dN:=λds P=>∃n:Nat,ds=[.int n,.int 2]/\n<=6/\P (.fz (.bl b!))
def gR (h w:Nat)(e:Nat->Nat->Int)(fs:List Lf)(L:Nat):List Int:=(cx h w L).map λp=>pQ 0 (λk=>cm fs (2^k:Nat)) h w L e p.1.toNat p.2.toNat
def qM:dN:=λds P=>∃(h w:Nat) (e:Nat->Nat->Int) (fs:List Lf) (L b:Nat),ds=[RX h w e,eK fs,.int L]/\fs.length<=6/\(∀f∈fs,f.Ok)/\L<=6/\0<h/\h<=64/\0<w/\w<=64/\6<=b/\b<=1000/\(∀i j,-2^b<=e i j/\e i j<=2^b)/\3*(h*w)*(b+10*fs.length*L+1)<=900000/\
 ∀(n:Nat) (bs:List Bool) (v:Wk),(∃x∈gR h w e fs L,iV x=n)->(∀x∈gR h w e fs L,iV x<=n)->n<=b+10*fs.length*L+1->tD (gR h w e fs L) (Wk.turn ⟨n,0,[],[⟨0,0,(gR h w e fs L).length,1-2^n,2^n-1⟩],[]⟩) bs->i8 (Wk.turn ⟨n,0,[],[⟨0,0,(gR h w e fs L).length,1-2^n,2^n-1⟩],[]⟩) bs v->v.pl<0->kZ (gR h w e fs L).length v->dt (gR h w e fs L) v->v.us=bs.length->bs.length<=900000->
  P (.fz (.tup [.tup [.int h,.int w,.int L,.int n,eK fs],.str (cK bs)]))
abbrev lh:A6:=top 26
theorem zR:aR ["thing"] ["thing"] (aB lh):=by f_are
abbrev hU:A6:=top 27
theorem vN:aR ["thing"] ["thing"] (aB hU):=by f_are
abbrev n7:A6:=top 77
theorem zQ:aR ["thing","at"] ["thing","at"] (aB n7):=by f_are
abbrev qb:A6:=top 80
theorem gA:aR ["picture","ladder","levels","lifts","wave","high","wide","numbers","planes"] ["picture","ladder","levels"] (aB qb):=by f_are
noncomputable def trD (q:Int×Int×Int):D:=.tup [.int q.1,.tup [.int q.2.1,.int q.2.2]]
theorem K' (J:bN K mg "is_lift" lh f fd)(B:b_ mg)(KV:b7 K)(g:MV K mg "PART_SPANS" (D.tup [.tup [.int 0,.int 1],.tup [.int (-8),.int 8],.tup [.int (-8),.int 8],.tup [.int (-64),.int 64],.tup [.int 0,.int 8]]))(u:cc P w K mg base "is_number" 1 ["thing"] (cg K 1 gj))(C:cc P w K mg base "holds" 1 ["one","number"] (cg K 2 kb)):
  cc P w K mg base "is_lift" 2 ["thing"] (cg K 1 qL):=by
 refine df.of J zR (by f_tup) rfl (λc A o s H E t=>⟨_,_,(aG (cj (jM (dq (cD (aV dF (by rfl) B.isinstance Bs (ae (pv 0) (ae (eV (v:=.ty "tuple") (by rfl) B.tuple Ef (by rfl)) aD))))) (iF (bI yi (aV a_ (by rfl) B.len Bf (ae (pv 0) aD)) (aV a_ (by rfl) B.len Bf (ae (kM (by rfl) g) aD)) (bG _)))).pt (aI (aX gO)) bM)
   (aI (aX (aV (ly rfl) (by rfl) B.all IT (ae (d_ rfl (Wh rfl B.zip (ae (pv 0) (ae (kM (by rfl) g) aD))) (show bX (aB lh) _ from⟨rfl,by decide +kernel,by decide +kernel,by decide +kernel⟩) (N:=["part","span"]) (ix:=[a?,a?]) (show cW _ _ _ _ from trivial) (λ_ _ _=>(ma (n:=2) rfl (cS (bB (i:=0) (show Bp (["part","span"]:List Al) by decide +kernel) rfl (An rfl)) (cS (bB (i:=1) (show Bp (["part","span"]:List Al) by decide +kernel) rfl (An rfl)) jv)))) (λ_ _ _=>(mf (aY u (t.mono (by decide)) (by rfl) (ae (pv 0) aD)) (kL (aY C (t.mono (by decide)) (by rfl) (ae (pv 1) (ae (pv 0) aD))))))) aD))))),
  (aU (cC (kC (dR (fC (bP (gX KV) (aH aC (aH (aM jL) aP))))) (bL (aN yn (aM (bP cN (aH aC aP))) (aM (bP cN (aH (aM xS) aP)))))) (bt (a8 hV)) bO)
   (bt (a8 (bP xk (aH (aM (bV (dU (V5 (aA aF (aA xS aK))) (l_ (cR bD (cR bD js))) (a8 (jt (bV (a4 (aA aF aK))) (bV (a4 (aA aF (aA aF aK))))))))) aP))))),?_⟩)
 rintro ds M ⟨f,rfl,ok,h⟩;unfold zp;fin2;have G:Bo (λ(p:D×D)=>D.tup [p.fst,p.snd]) ([D.int f.h,D.int f.l,D.int f.r,D.int f.a,D.int f.s].zip [D.tup [D.int 0,D.int 1],D.tup [D.int (-8),D.int 8],D.tup [D.int (-8),D.int 8],D.tup [D.int (-64),D.int 64],D.tup [D.int 0,D.int 8]])=[(f.h,0,1),(f.l,-8,8),(f.r,-8,8),(f.a,-64,64),(f.s,0,8)].map trD:=rfl;rw[G];have e:∀q∈[(f.h,(0:Int),(1:Int)),(f.l,-8,8),(f.r,-8,8),(f.a,-64,64),(f.s,0,8)],q.2.1<=q.1/\q.1<=q.2.2:=by
  intro q e;simp only[AJ,Cn,or_false]at e;have h1:=ok.h;rcases e with rfl |rfl |rfl |rfl |rfl
  .exact ⟨by show 0<=f.h;lia,by show f.h<=1;lia⟩
  .exact ok.l
  .exact ok.r
  .exact ok.a
  .exact ok.s
 generalize m:[(f.h,(0:Int),(1:Int)),(f.l,-8,8),(f.r,-8,8),(f.a,-64,64),(f.s,0,8)]=j at e;have L:j.length<=5:=by rw[<- m];exact Ag 5
 refine⟨λi δ ts=>∃k O:Option Sl,δ=[k,O]/\ts=(j.take i).map λ_=>.fz (.bl b!),⟨a?,a?,rfl,rfl⟩,?_,?_⟩
 .rintro i d δ ts hd ⟨k,O,rfl,rfl⟩;obtain⟨q,Q,rfl⟩:=m7 hd;have z:=e q (Ai Q);simp only[trD,gT,oE,u3,gN,AQ,Dr,FI,true_and,CN,Dd];fin2;refine⟨by rw[BE];lia,_,rfl,rfl,?_⟩;show if b!=b! then _ else _
  rw[c! rfl];refine⟨_,_,_,rfl,?_⟩;rw[decide_eq_true z.1,decide_eq_true z.2];refine⟨a! (Sl.own (OV.fz (D.int q.1))),a! (Sl.own (OV.fz (D.tup [D.int q.2.1,D.int q.2.2]))),rfl,?_⟩;rw[Fu,Q,Bc];rfl
 .rintro δ ts ⟨k,O,rfl,rfl⟩;fin2;refine⟨j.map λ_=>b!,by rw[BD,AW,AW];rfl,?_⟩;rw[show (j.map λ_=>b!).all id=b! by simp];exact h
theorem wA (a:bN K mg "is_ladder" hU f fd)(B:b_ mg)(KV:b7 K)(g:∃t,mg "MOST_LIFTS"=a! (.int 6 t))(l:cc P w K mg base "is_lift" 2 ["thing"] (cg K 1 qL)):
  cc P w K mg base "is_ladder" 3 ["thing"] (cg K 1 mH):=by
 refine df.of a vN (by f_tup) rfl (λc A o s H E r=>⟨_,_,(aG (cj (jM (dq (cD (aV dF (by rfl) B.isinstance Bs (ae (pv 0) (ae (eV (v:=.ty "tuple") (by rfl) B.tuple Ef (by rfl)) aD))))) (iF (bI m4 (aV a_ (by rfl) B.len Bf (ae (pv 0) aD)) (aO (by rfl) g) (bG _)))).pt (aI (aX gO)) bM)
   (aI (aX (aV (ly rfl) (by rfl) B.all IT (ae (d_ rfl (S' (pv 0)) (show bX (aB hU) _ from⟨rfl,by decide +kernel,by decide +kernel,by decide +kernel⟩) (N:=["lift"]) (ix:=[a?]) (show cW _ _ _ _ from trivial) (λ_ _ _=>(bB (i:=0) (show Bp (["lift"]:List Al) by decide +kernel) rfl (An rfl))) (λ_ _ _=>(aY l (r.mono (by decide)) (by rfl) (ae (pv 0) aD)))) aD))))),
  (aU (cC (kC (dR (fC (bP (gX KV) (aH aC (aH (aM jL) aP))))) (bL (aN dI (aM (bP cN (aH aC aP))) (aM aE)))) (bt (a8 hV)) bO)
   (bt (a8 (bP xk (aH (aM (bV (dU (Sq aF) bD (a4 (aA aF aK))))) aP))))),?_⟩)
 rintro ds e ⟨fs,rfl,hl,ok,h⟩;unfold eK;fin2;rw[c? (by lia)];refine f9.map fs zp (λ_=>.fz (.bl b!)) (by lia) (λf hf Q q=>?_) ?_
 .fin2;exact⟨f,rfl,ok f hf,q⟩
 fin2;refine⟨fs.map λ_=>b!,by simp only[AW,BG,OV.val],?_⟩;rw[show (fs.map λ_=>b!).all id=b! by simp];exact h
theorem J' (a:bN K mg "is_part" n7 f fd)(B:b_ mg)(KV:b7 K)(g:MV K mg "NUMBER_SPANS" (D.tup [.tup [.int 1,.int 64],.tup [.int 1,.int 64],.tup [.int 0,.int 6],.tup [.int 0,.int 4000]]))(u:cc P w K mg base "is_number" 1 ["thing"] (cg K 1 gj))(l:cc P w K mg base "holds" 1 ["one","number"] (cg K 2 kb)):
  cc P w K mg base "is_part" 2 ["thing","at"] (cg K 2 qK):=by
 refine df.of a zQ (by f_tup) rfl (λc A o s H E r=>⟨_,_,(aI (aX (mf (aY u (r.mono (by decide)) (by rfl) (ae (pv 0) aD)) (kL (aY l (r.mono (by decide)) (by rfl) (ae (aS aQ (kM (by rfl) g) (pv 1) (λ_ _=>rfl)) (ae (pv 0) aD))))))),
  (bt (a8 (jt (bV (a4 (aA aF aK))) (bV (a4 (aA (bE aT xS aF) (aA aF aK))))))),?_⟩)
 rintro ds e ⟨n,rfl,hn,h⟩;fin2;refine⟨_,rfl,rfl,?_⟩;show if b!=b! then _ else _
 rw[c! rfl];refine⟨0,6,n,rfl,?_⟩;rw[decide_eq_true (by lia:(0:Int)<=n),decide_eq_true (by lia:(n:Int)<=6)];exact h
theorem Tz {f:Ae}{fd:A8}{T:Ae}{Q:LF}(Df:xo K mg "coded" qb f fd T #[.none,.int 2 Q])(B:b_ mg)(KV:b7 K)(g:∃t,mg "LEVELS"=a! (.int 2 t))(u:cc P w K mg base "is_picture" 3 ["thing"] (cg K 1 lL))(a:cc P w K mg base "ladder_of" 1 ["name"] (cg K 1 je))(r:cc P w K mg base "is_ladder" 3 ["thing"] (cg K 1 mH))(C:cc P w K mg base "is_part" 2 ["thing","at"] (cg K 2 qK))(G:cc P w K mg base "laid" 5 ["picture","ladder","levels"] (cg K 3 Nn))(m:cc P w K mg base "places" 2 ["high","wide","levels"] (cg K 3 nY))(l:cc P w K mg base "planes_of" 2 ["some"] (cg K 1 mE))(O:cc P w K mg base "told" 5 ["some","planes"] (cg K 2 Nl)):
  MX P w K mg base "coded" 6 ["picture","ladder","levels"] (cg K 3 qM) [.cA,.int 2]:=by
 refine YW.of (ds:=[.none,.int 2 Q]) Df gA (λ_ _ _ _ _ _ us hl=>match us,hl with | [_,_,_],_=>⟨_,rfl,rfl⟩) (λ_ _ _ _ _ _ us hl=>by have hl':us.length=1:=(by simpa using hl);exact match us,hl' with | [_],_=>⟨_,rfl,rfl⟩) (.cons rfl (.cons ⟨_,rfl⟩ (.nil))) rfl (λc A o s H E J=>⟨_,_,(aG (cj (dq (cD (aY u (J.mono (by decide)) (by rfl) (ae (pv 0) aD)))) (aI kH) bM)
   (aG (a5 (i:=3) gA.nd rfl (An rfl) (rH (bI Z0 (pv 1) rD (bG _)) (aY a (J.mono (by decide)) (by rfl) (ae fo aD)) (pv 1)))
   (aG (cj (dq (cD (aY r (J.mono (by decide)) (by rfl) (ae (pv 3) aD)))) (aI kH) bM)
   (aG (cj (dq (cD (aY C (J.mono (by decide)) (by rfl) (ae (pv 2) (ae (aO (by rfl) g) aD))))) (aI kH) bM)
   (aG (a5 (i:=4) gA.nd rfl (FC rfl) (aY G (J.mono (by decide)) (by rfl) (ae (pv 0) (ae (pv 3) (ae (pv 2) aD)))))
   (aG (a5 (i:=5) gA.nd rfl (An rfl) (aV a_ (by rfl) B.len Bf (ae (pv 0) aD)))
   (aG (a5 (i:=6) gA.nd rfl (An rfl) (aV a_ (by rfl) B.len Bf (ae (aS bR (pv 0) aJ (λ_ _=>rfl)) aD)))
   (aG (gJ (i:=7) gA.nd rfl (An rfl) rfl (c8 (aY m (J.mono (by decide)) (by rfl) (ae (pv 5) (ae (pv 6) (ae (pv 2) aD))))) (show bX (aB qb) _ from⟨rfl,by decide +kernel,by decide +kernel,by decide +kernel⟩) (N:=["i","j","wave"]) (ix:=[a?,a?,a! 4]) (show cW _ _ _ _ from⟨⟨rfl,rfl,.inl rfl⟩,trivial⟩) (λ_ _ _=>(ma (n:=2) rfl (cS (bB (i:=0) (show Bp (["i","j","wave"]:List Al) by decide +kernel) rfl (An rfl)) (cS (bB (i:=1) (show Bp (["i","j","wave"]:List Al) by decide +kernel) rfl (An rfl)) jv)))) (λ_ _ _=>(aS bR (aS bR (pv 2) (pv 0) (λ_ _=>rfl)) (pv 1) (λ_ _=>rfl))))
   (aG (a5 (i:=8) gA.nd rfl (An rfl) (aY l (J.mono (by decide)) (by rfl) (ae (pv 7) aD)))
   (aI (aX (cb (ae (cb (ae (pv 5) (ae (pv 6) (ae (pv 2) (ae (pv 8) (ae (pv 3) aD)))))) (ae (aY O (J.mono (by decide)) (by rfl) (ae (pv 7) (ae (pv 8) aD))) aD)))))))))))))),
  (aU (cC (dR (fC (bV (a4 (aA aF aK))))) kD bO)
   (aU (bx (a8 (Sv (bL (aN À aC (aM rj))) (bV (a4 (aA fk aK))) aF)))
   (aU (cC (dR (fC (bV (a4 (aA aF aK))))) kD bO)
   (aU (cC (dR (fC (bV (a4 (aA aF (aA aE aK)))))) kD bO)
   (aU (bx (a8 (bV (a4 (aA aF (aA aF (aA aF aK)))))))
   (aU (bx (a8 (bP cN (aH aC aP))))
   (aU (bx (a8 (bP cN (aH (bA (dm.b cw) aC (aM aE)) aP))))
   (aU (bx (a8 (bV (dU (dv (bV (a4 (aA aF (aA aF (aA aF aK)))))) (l_ (cR bD (cR bD js))) (a8 (bE cw (bE cw aF aF) aF))))))
   (aU (bx (a8 (bV (a4 (aA aF aK)))))
   (bt (a8 (cG (aA (cG (aA aF (aA aF (aA aF (aA aF (aA aF aK)))))) (aA (bV (a4 (aA aF (aA aF aK)))) aK)))))))))))))),?_⟩)
 rintro ds Pr ⟨h,w,e,fs,L,b,rfl,hl,ok,hL,h0,hh,w0,hw,hb6,hb,he,hmul,k⟩;gn_on;refine⟨_,rfl,Qb (by lia) (by lia),?_⟩;have Xaq:B2 (RX h w e)=true:=by
  unfold RX;rw[PX h0 w0,decide_eq_true hh,decide_eq_true hw];rfl
 rw[Xaq];show if (!b!)=b! then _ else _
 rw[c? (by decide)];gp_on;gn_on;rw[c? (by unfold eK;exact Az)];gp_on;gn_on;refine⟨fs,rfl,hl,ok,?_⟩;show if (!b!)=b! then _ else _
 rw[c? (by decide)];gp_on;gn_on;refine⟨L,rfl,hL,?_⟩;show if (!b!)=b! then _ else _
 rw[c? (by decide)];gp_on;gn_on;refine⟨h,w,e,fs,L,rfl,ok,hL,h0,by lia,by lia,?_⟩;fin2;rw[jj];gp_on;unfold RX;gn_on;gp_on;gn_on;have hat:jB (tL D.int h w e) 0=a! (.lst (tab w λj=>D.int (e 0 j))):=by
  unfold tL;exact lz (by decide) (by lia)
 have hlen:(tL D.int h w e).length=h:=by unfold tL;exact bK
 refine⟨_,hat,?_⟩;fin2;rw[hlen,bK];gp_on;gn_on;refine⟨h,w,L,rfl,⟨by lia,by lia,by lia⟩,?_⟩;have Vp:=h_ (h:=h) (w:=w) (n:=L);have M:∀p∈cx h w L,(0<=p.1/\p.1<h)/\0<=p.2/\p.2<w:=λp hp=>oY hp
 have hbd:=Ug ok (h:=h) (w:=w) hb6 he L;have hhw:h*w<=4096:=Dp hh hw;have Xbk:0<h*w:=HE h0 w0;fin2;have ev:Bo OV.val (Bo (λp=>OV.fz (zo p)) (cx h w L))=(cx h w L).map zo:=by rw[AW];rfl
 rw[ev];unfold gR at k;generalize Xbi:pQ 0 (λk=>cm fs ((2^k:Nat):Int)) h w L e=q at k hbd;generalize cx h w L=ps at k Vp M;refine⟨λi δ ts=>∃o0 o1:Option Sl,δ=[o0,o1,vD (.lst (tL D.int h w q))]/\ts=(ps.take i).map λp=>.fz (.int (q p.1.toNat p.2.toNat)),⟨a?,a?,rfl,rfl⟩,?_,?_⟩
 .rintro i d δ ts hd ⟨o0,o1,rfl,rfl⟩;obtain⟨p,hp,rfl⟩:=m7 hd;have hi:=(Ab.mp hp).1;obtain⟨⟨p0,p1⟩,p2,p3⟩:=M p (Ai hp);simp only[zo,gT,oE,u3,gN,AQ,Dr,FI,true_and,CN,Dd];fin2;have hr1:jB (tL D.int h w q) p.1=a! (.lst (tab w λj=>D.int (q p.1.toNat j))):=by unfold tL;exact lz p0 p1
  refine⟨by rw[BE];lia,_,hr1,?_⟩;refine⟨_,lz p2 p3,?_⟩;refine⟨a! (Sl.own (OV.fz (D.int p.1))),a! (Sl.own (OV.fz (D.int p.2))),rfl,?_⟩;rw[Fu,hp,Bc];rfl
 .rintro δ ts ⟨o0,o1,rfl,rfl⟩;rw[Au,BD];fin2;have exs:(Bo OV.val (ps.map λp=>OV.fz (.int (q p.1.toNat p.2.toNat))))=(ps.map λp=>q p.1.toNat p.2.toNat).map D.int:=by rw[AW,AW];rfl
  rw[exs];have U:(ps.map λp=>q p.1.toNat p.2.toNat).length=h*w:=by rw[Au,Vp]
  have hxb:∀x∈(ps.map λp=>q p.1.toNat p.2.toNat),iV x<=b+10*fs.length*L+1:=λx hx=>by
   obtain⟨p,_,rfl⟩:=Be.mp hx;have h1:=hbd p.1.toNat p.2.toNat;have h2:=og (b+10*fs.length*L);have h3:=oZ (b+10*fs.length*L);exact Û (by lia) (by lia)
  generalize (ps.map λp=>q p.1.toNat p.2.toNat)=xs at k U hxb;gp_on;gn_on;refine⟨xs,rfl,by lia,by lia,λn hn1 hn2=>?_⟩;gp_on;have hn0:n<=b+10*fs.length*L+1:=by
   obtain⟨x,hx,e⟩:=hn1;rw[<- e];exact hxb x hx
  have Xbl:10*fs.length*L<=360:=by
   have:=Dp (Dj 10 hl) hL;lia
  have Mr:∀x∈xs,x.natAbs<2^n:=λx hx=>IW λz=>by
   have:=Uw.mp z;have:=hn2 x hx;lia
  obtain⟨q1,q2,q3,q4⟩:=oS xs.length n;obtain⟨bs,v,t1,t2,t3,t4,t5,t6,t7⟩:=RA (xs:=xs) rfl (by lia) (by lia) _ _ (Ag _) (oR (by lia) n) (zG Mr) (by lia) (by rw[q2,Dr];lia);have ė:bs.length<=900000:=by
   have:3*xs.length*n<=3*(h*w)*(b+10*fs.length*L+1):=by rw[U];exact Dj _ hn0
   lia
  fin2;refine⟨xs,n,bs,rfl,by lia,by lia,ė,t1,?_⟩;exact k n bs v hn1 hn2 hn0 t1 t2 t3 t4 t5 (by rw[t7,q3];lia) ė
abbrev iA:A6:=top 100
theorem qV:aR ["_law_script","_law_k"] ["_law_script","_law_k"] (aB iA):=by f_are
def ka:dN:=λds P=>∃(ns:List Int) (k:Int),ds=[.lst (ns.map .int),.int k]/\0<=k/\P (.fz (.int (ns.getD k.toNat 0)))
theorem rR (j:bN K mg "_law_cell_at" iA f fd)(B:b_ mg)(KV:b7 K):
  cc P w K mg base "_law_cell_at" 1 ["_law_script","_law_k"] (cg K 2 ka):=by
 refine df.of j qV (by f_tup) rfl (λc A o s H E r=>⟨_,_,(aG (cj (bI iT (pv 1) (aV a_ (by rfl) B.len Bf (ae (pv 0) aD)) (bG _)) (aI (aX (aS bR (pv 0) (pv 1) (λ_ _=>rfl)))) bM)
   (aI (aX aJ))),
  (aU (cC (bL (aN dI aC (aM (bP cN (aH aC aP))))) (bt (a8 (bE cw aF aF))) bO)
   (bt (a8 aE))),?_⟩)
 rintro ds l ⟨ns,k,rfl,g,q⟩;fin2;split
 .rename_i h;exact⟨_,nK g h,q⟩
 .rename_i h;have e:ns.getD k.toNat 0=0:=by
   have a:ns.length<=k.toNat:=by lia
   simp[List.getD,Bd a]
  rw[e]at q;exact q
abbrev tG (h w L n:Nat)(fs:List Lf):D:=.tup [.int h,.int w,.int L,.int n,eK fs]
def kc:dN:=λds P=>∃(h w L n:Nat) (fs:List Lf),ds=[tG h w L n fs]/\(h<=100/\w<=100/\L<=100)/\P (.nl ((cx h w L).map λp=>.fz (zo p)))
abbrev iB:A6:=top 78
theorem qW:aR ["head"] ["head"] (aB iB):=by f_are
theorem rS (j:bN K mg "head_places" iB f fd)(B:b_ mg)(KV:b7 K)(a:∃t,mg "HIGH"=a! (.int 0 t))(G:∃t,mg "WIDE"=a! (.int 1 t))(g:∃t,mg "LEVELS"=a! (.int 2 t))(p:cc P w K mg base "places" 2 ["high","wide","levels"] (cg K 3 nY)):
  cc P w K mg base "head_places" 3 ["head"] (cg K 1 kc):=by
 refine df.of j qW (by f_tup) rfl (λc A o s H E r=>⟨_,_,(aI (aX (aY p (r.mono (by decide)) (by rfl) (ae (aS aQ (pv 0) (aO (by rfl) a) (λ_ _=>rfl)) (ae (aS aQ (pv 0) (aO (by rfl) G) (λ_ _=>rfl)) (ae (aS aQ (pv 0) (aO (by rfl) g) (λ_ _=>rfl)) aD)))))),
  (bt (a4 (aA (bE aT aF aE) (aA (bE aT aF aE) (aA (bE aT aF aE) aK))))),?_⟩)
 rintro ds l ⟨h,w,L,n,fs,rfl,e,k⟩;fin2;exact⟨h,w,L,rfl,e,k⟩
theorem Up (h:sD n p q):p≠q:=λz=>by
 subst z;unfold sD Uq at h;simp[HT.lexLt]at h
theorem z9 {w:Nat}:(cx h w n).Nodup:=z8.imp Up
theorem yc {h w n:Nat}{p:Int×Int}(a:(0<=p.1/\p.1<h)/\0<=p.2/\p.2<w):p∈cx h w n:=by
 unfold cx;refine Iy.mpr ⟨qk n (f7 h w) (tY n p),Dz.mpr (Be.mpr ⟨tY n p,BV.mpr (Nat.lt_succ_of_le (sx _ _ _)),rfl⟩),?_⟩;exact Dq.mpr ⟨wN.mpr a,by simp⟩
def eH (h w L i j:Nat):Nat:=(cx h w L).idxOf ((i:Int),(j:Int))
theorem qh {h w L i j:Nat}(hi:i<h)(J:j<w):eH h w L i j<(cx h w L).length:=
 List.idxOf_lt_length_of_mem (yc (p:=((i:Int),(j:Int))) ⟨⟨by dsimp only;lia,by dsimp only;lia⟩,by dsimp only;lia,by dsimp only;lia⟩)
theorem rA {w:Nat}(hi:i<h)(J:j<w):(cx h w L)[eH h w L i j]?=a! ((i:Int),(j:Int)):=by
 rw[Ad (qh hi J)];exact congrArg a! (List.getElem_idxOf (qh hi J))
theorem Wg {h w L i j k:Nat}(hi:i<h)(J:j<w)(a:(cx h w L)[k]?=a! ((i:Int),(j:Int))):eH h w L i j=k:=by
 have h1:=rA (L:=L) hi J;exact (List.getElem?_inj (qh hi J) z9).mp (h1.trans a.symm)
theorem Ur {n:Nat}{i:Int}(a:0<=i)(h:i<n):pq n i=a! i.toNat:=by
 unfold pq;rw[c! a]
 try rw[c! (by omega)]
def PF (h w:Nat)(e:Nat->Nat->D):List OV:=tab h λi=>.nl (tab w λj=>.fz (e i j))
theorem VR {h w a b:Nat}{e:Nat->Nat->D}{d:D}:(PF h w e).set a (.nl ((tab w λj=>OV.fz (e a j)).set b (.fz d)))=PF h w λi j=>if i=a/\j=b then d else e i j:=by
 unfold PF;rw[my];refine dO λi hi=>?_
 by_cases q:i=a
 .subst q;rw[c! rfl,my];congr 1
  refine dO λj J=>?_
  dsimp only;by_cases y:j=b
  .rw [c! y,c! ⟨rfl,y⟩]
  .rw [c? y,c? (λz=>y z.2)]
 .rw [c? q];congr 1
  refine dO λj J=>?_
  dsimp only;rw[c? (λz=>q z.1)]
theorem Ny {h w:Nat}{e e':Nat->Nat->D}(q:∀i j,i<h->j<w->e i j=e' i j):PF h w e=PF h w e':=
 dO λi hi=>congrArg OV.nl (dO λj J=>congrArg OV.fz (q i j hi J))
theorem Rg {xs:List (Int×Int)}{ys:List hG}(e:xs.length=ys.length):(((xs.map zo).zip (ys.map fy)).map λp=>D.tup [p.1,p.2]).length=ys.length:=by
 rw[Au,Go,Au,Au,e,Nat.min_self]
def oU:dN:=λds P=>∃(h w L n:Nat) (fs:List Lf) (vs:List hG),ds=[tG h w L n fs,.lst (vs.map fy)]/\(h<=100/\w<=100/\L<=100)/\vs.length=h*w/\P (.nl (j0 fy h w λi j=>vs.getD (eH h w L i j) (0,0)))
abbrev jm:A6:=top 81
theorem hI:aR ["head","spans","sheet","place","thing"] ["head","spans"] (aB jm):=by f_are
theorem yj (Df:bN K mg "sheet_of" jm f fd)(B:b_ mg)(KV:b7 K)(g:∃t,mg "WIDE"=a! (.int 1 t))(G:∃t,mg "HIGH"=a! (.int 0 t))(l:cc P w K mg base "head_places" 3 ["head"] (cg K 1 kc)):
  cc P w K mg base "sheet_of" 4 ["head","spans"] (cg K 2 oU):=by
 refine df.of Df hI (by f_tup) rfl (λc A o s H E hr=>⟨_,_,(aG (gJ (i:=2) hI.nd rfl (An rfl) rfl (eI (by rfl) (by exact B.range) (ae (aS aQ (pv 0) (aO (by rfl) G) (λ_ _=>rfl)) aD)) (show bX (aB jm) _ from⟨rfl,by decide +kernel,by decide +kernel,by decide +kernel⟩) (N:=["i","head"]) (ix:=[a?,a! 0]) (show cW _ _ _ _ from⟨⟨rfl,rfl,.inl rfl⟩,trivial⟩) (λ_ _ _=>(bB (i:=0) (show Bp (["i","head"]:List Al) by decide +kernel) rfl (An rfl))) (λ_ _ _=>(aW Ee (cV (ae rD aD)) (aS aQ (pv 1) (aO (by rfl) g) (λ_ _=>rfl)))))
   (aG (dz AM rfl (ZR rfl B.zip (ae (aY l (hr.mono (by decide)) (by rfl) (ae (pv 0) aD)) (ae (pv 1) aD))) (ma (n:=2) rfl (cS (bB (i:=3) hI.nd rfl (An rfl)) (cS (bB (i:=4) hI.nd rfl (An rfl)) jv))) (aI (kI (pv 4) (me (aS bR (pv 2) (aS aQ (pv 3) aJ (λ_ _=>rfl)) (λ_ _=>rfl)) (aS aQ (pv 3) aJ (λ_ _=>rfl)) fN))))
   (aI (aX (pv 2))))),
  (aU (bx (dU (gq (aH (bA (dm.b aT) aC (aM aE)) aP)) bD (vW (dS (cI (a8 rj) cU)) (bA (dm.b aT) aC (aM aE)))))
   (aU (et (Zv (aA (bV (a4 (aA aF aK))) (aA aF aK))) (l_ (cR bD (cR bD js))) (NB aF (bA (dm.b aT) aC (aM aE)) (bA (dm.b aT) aC (aM aE))))
   fJ)),?_⟩)
 rintro ds Pr ⟨h,w,L,n,fs,vs,rfl,hb,hl,k⟩;obtain⟨hh,hw,hL⟩:=hb;gn_on;refine⟨⟨by lia,by lia⟩,?_⟩;refine f9.v8 (λ_=>.nl (Ar w (.fz .cA))) (by lia) (λi _ Q q=>?_) ?_
 .fin2;exact⟨⟨by lia,by lia⟩,q⟩
 have e0:(AF (h:Int).toNat).map (λ_=>OV.nl (Ar w (.fz .cA)))=PF h w λi j=>if eH h w L i j<0 then fy (vs.getD (eH h w L i j) (0,0)) else .cA:=by
  show tab h _=_
  refine dO λi _=>?_
  dsimp only;congr 1
  have:∀j:Nat,(if eH h w L i j<0 then fy (vs.getD (eH h w L i j) (0,0)) else D.cA) = .cA:=λj=>c? (EU _)
  simp only[this];unfold tab;rw[List.map_const',C7]
 rw[e0];gp_on;gn_on;refine⟨h,w,L,n,fs,rfl,⟨hh,hw,hL⟩,?_⟩;fin2;have ev:Bo OV.val (Bo (λp=>OV.fz (zo p)) (cx h w L))=(cx h w L).map zo:=by rw[AW];rfl
 rw[ev];have Vp:=h_ (h:=h) (w:=w) (n:=L);have C:=Rg (xs:=cx h w L) (ys:=vs) (by lia);refine⟨λm δ=>∃v O:Option Sl,δ=[vD (tG h w L n fs),vD (.lst (vs.map fy)),a! (.own (.nl (PF h w λi j=>if eH h w L i j<m then fy (vs.getD (eH h w L i j) (0,0)) else .cA))),v,O],⟨a?,a?,rfl⟩,?_,?_⟩
 .rintro m d δ hd ⟨v,O,rfl⟩;obtain⟨z,hz,rfl⟩:=m7 hd;rw[Co,AK,AK]at hz;obtain⟨T,M⟩:=hz;obtain⟨p,hp,hp2⟩:=GY.mp T;obtain⟨s,hs,ϯ⟩:=GY.mp M;rw[<- hp2,<- ϯ];obtain⟨⟨p0,p1⟩,p2,p3⟩:=oY (Ai hp);have hsD:vs.getD m (0,0)=s:=by rw[Ak,hs];rfl
  simp only[gT,oE,u3,gN,AQ,Dr,FI,true_and,CN,Dd];unfold zo;fin2;have r:(PF h w λi j=>if eH h w L i j<m then fy (vs.getD (eH h w L i j) (0,0)) else .cA).length=h:=bK;refine⟨p.1.toNat,tab w λj=>.fz (if eH h w L p.1.toNat j<m then fy (vs.getD (eH h w L p.1.toNat j) (0,0)) else .cA),by rw[r];exact Ur p0 p1,k9 (by lia),p.2.toNat,by rw[bK];exact Ur p2 p3,?_⟩;have hpe:p=(((p.1.toNat:Nat):Int),((p.2.toNat:Nat):Int)):=Jh (by dsimp only;lia) (by dsimp only;lia);have u:=VR (h:=h) (w:=w) (a:=p.1.toNat) (b:=p.2.toNat) (e:=λi j=>if eH h w L i j<m then fy (vs.getD (eH h w L i j) (0,0)) else .cA) (d:=fy s);have U:(PF h w λi j=>if i=p.1.toNat/\j=p.2.toNat then fy s else if eH h w L i j<m then fy (vs.getD (eH h w L i j) (0,0)) else .cA)=PF h w λi j=>if eH h w L i j<m+1 then fy (vs.getD (eH h w L i j) (0,0)) else .cA:=Ny λi j hi J=>by
   by_cases z:i=p.1.toNat/\j=p.2.toNat
   .obtain ⟨rfl,rfl⟩:=z;have hx:=Wg (L:=L) (k:=m) hi J (by rw[<- hpe];exact hp);rw[c! ⟨rfl,rfl⟩,hx,c! (by lia),hsD]
   .rw [c? z];have hne:eH h w L i j≠m:=λq=>by
     have h1:=rA (L:=L) hi J;rw[q,hp]at h1;have h2:=AY h1;exact z ⟨by rw[h2];rfl,by rw[h2];rfl⟩
    by_cases y:eH h w L i j<m
    .rw [c! y,c! (by lia)]
    .rw [c? y,c? (by lia)]
  rw[<- U,<- u];exact⟨_,_,rfl⟩
 .rintro δ ⟨v,O,rfl⟩;rw[C];gp_on;fin2;have ee:(PF h w λi j=>if eH h w L i j<vs.length then fy (vs.getD (eH h w L i j) (0,0)) else .cA)=j0 fy h w λi j=>vs.getD (eH h w L i j) (0,0):=by
   show PF h w _=PF h w _
   refine Ny λi j hi J=>?_
   have:=qh (L:=L) hi J;rw[c! (by lia)]
  rw[ee];exact k
def xG:dN:=λds P=>∃(h w L n k:Nat) (fs:List Lf) (vs:List hG),ds=[tG h w L n fs,.lst (vs.map fy),.int k]/\(∀f∈fs,f.Ok)/\(0<h/\h<=100/\w<=100/\L<=6)/\k<=L/\vs.length=h*w/\
 P (.nl (j0 fy (eu 0 h (2^k:Nat)) (eu 0 w (2^k:Nat)) λi j=>ed (0,0) (λk=>d7 (0,0) dh fs (2^k:Nat)) h w L k (λi j=>vs.getD (eH h w L i j) (0,0)) (i*2^k) (j*2^k)))
abbrev vT:A6:=top 83
theorem R5:aR ["head","spans","k"] ["head","spans","k"] (aB vT):=by f_are
theorem Tv (u:bN K mg "level" vT f fd)(B:b_ mg)(KV:b7 K)(G:∃t,mg "LADDER"=a! (.int 4 t))(g:∃t,mg "LEVELS"=a! (.int 2 t))(l:cc P w K mg base "holds" 1 ["one","number"] (cg K 2 kb))(C:cc P w K mg base "thinned" 1 ["sheet","k"] (cg K 2 jc))(p:MX P w K mg base "opened_spans" 6 ["sheet","ladder","levels","down"] (cg K 4 jE) [.int 0])(e:cc P w K mg base "sheet_of" 4 ["head","spans"] (cg K 2 oU)):
  cc P w K mg base "level" 7 ["head","spans","k"] (cg K 3 xG):=by
 refine df.of u R5 (by f_tup) rfl (λc A o s H E r=>⟨_,_,(aG (cj (dq (cD (aY l (r.mono (by decide)) (by rfl) (ae (cb (ae aJ (ae (aS aQ (pv 0) (aO (by rfl) g) (λ_ _=>rfl)) aD))) (ae (pv 2) aD))))) (aI kH) bM)
   (aI (aX (aY C (r.mono (by decide)) (by rfl) (ae (aY p.Ϲ (r.mono (by decide)) (by rfl) (ae (aY e (r.mono (by decide)) (by rfl) (ae (pv 0) (ae (pv 1) aD))) (ae (aS aQ (pv 0) (aO (by rfl) G) (λ_ _=>rfl)) (ae (aS aQ (pv 0) (aO (by rfl) g) (λ_ _=>rfl)) (ae (pv 2) aD))))) (ae (pv 2) aD)))))),
  (aU (cC (dR (fC (bV (a4 (aA (cG (aA aE (aA (bE aT aF aE) aK))) (aA aF aK)))))) kD bO)
   (bt (a4 (aA (bV (a4 (aA (bV (a4 (aA aF (aA aF aK)))) (aA (bE aT aF aE) (aA (bE aT aF aE) (aA aF aK)))))) (aA aF aK))))),?_⟩)
 rintro ds z ⟨h,w,L,n,k,fs,vs,rfl,ok,j,v,hl,hP⟩;obtain⟨q,a,hw,m⟩:=j;gn_on;refine⟨0,L,k,rfl,?_⟩;rw[decide_eq_true (by lia:(0:Int)<=k),decide_eq_true (by lia:(k:Int)<=L)];show if (!b!)=b! then _ else _
 rw[c? (by decide)];gp_on;fin2;refine⟨h,w,L,n,fs,vs,rfl,⟨a,hw,by lia⟩,hl,?_⟩;fin2;rw[jj];refine⟨h,w,_,fs,L,k,rfl,ok,m,by lia,q,by lia,by lia,?_⟩;fin2;rw[jj];exact⟨hG,fy,h,w,k,_,rfl,by lia,by lia,by lia,hP⟩
def fg (h w L:Nat)(fs:List Lf)(u:Wk):Nat->Nat->hG:=ed (0,0) (λk=>d7 (0,0) dh fs (2^k:Nat)) h w L 0 λi j=>(dP u).getD (eH h w L i j) (0,0)
theorem Nk (u:Wk):fH u=(dP u).map fy:=by
 unfold fH dP;rw[List.map_flatMap];simp only[Eh];rfl
abbrev zw (m n:Nat):Wk:=Wk.turn ⟨n,0,[],[⟨0,0,m,1-2^n,2^n-1⟩],[]⟩
theorem NA {h w L m:Nat}{fs:List Lf}(ok:∀f∈fs,f.Ok)(c:0<m)(M:m=h*w){a b:Wk}{bs:List Bool}(F:i8 a bs b)(A:kZ m a)(B:kZ m b){i j:Nat}(hi:i<h)(J:j<w):Uu (fg h w L fs a i j) (fg h w L fs b i j):=by
 refine Z4 ok (λi j=>?_) i j hi J;have k:=l0 A;have l:=l0 B;rcases Ep (eH h w L i j) m with z |z
 .obtain ⟨s,t,g,e,r⟩:=nest c F A B z;rw[Ak,Ak,g,e];exact r
 .rw [Ak,Ak,Bd (by lia),Bd (by lia)];exact⟨Bh _,Bh _,Bh _⟩
theorem Nq:∀{xs:List Int} {a:List (Int×Int)},a.map fy=xs.map dot->a=xs.map λx=>(x,x)
 | [],[],_=>rfl
 | [],s::a,h=>by cases h
 |x::xs,[],h=>by cases h
 |x::xs,s::a,h=>by
  rw[BU,BU]at h;obtain⟨h1,h2⟩:=E_ h;rw[Nq h2,BU];congr 1
  unfold fy dot at h1;simp only[D.tup.injEq,Lx,D.int.injEq,and_true]at h1;exact Jh h1.1 h1.2
theorem R1 {h w L m:Nat}{fs:List Lf}(ok:∀f∈fs,f.Ok){xs:List Int}(a:xs.length=m){v:Wk}(S:kZ m v)(C:dt xs v)(c:v.pl<0){i j:Nat}(hi:i<h)(J:j<w):
  fg h w L fs v i j=(ed 0 (λk=>iG fs (2^k:Nat)) h w L 0 (λi j=>xs.getD (eH h w L i j) 0) i j,ed 0 (λk=>iG fs (2^k:Nat)) h w L 0 (λi j=>xs.getD (eH h w L i j) 0) i j):=by
 have e:=Pz a S C c;rw[Nk]at e;unfold fg;rw[Nq e,<- Z3 ok i j hi J];congr 1
 funext i j
 rcases Ep (eH h w L i j) xs.length with z |z
 .rw [Ak,Ak,AK,Ad z];rfl
 .rw [Ak,Ak,Bd (by rw[Au];exact z),Bd z];rfl
theorem yp {h w L:Nat}{e:Nat->Nat->Int}{fs:List Lf}:(gR h w e fs L).length=h*w:=by
 unfold gR;rw[Au,h_]
def qN:dN:=λds P=>∃s:hG,ds=[fy s]/\P (.fz (.int (s.2-s.1)))
abbrev n8:A6:=top 14
theorem zS:aR ["one"] ["one"] (aB n8):=by f_are
theorem LI (a:bN K mg "breadth" n8 f fd)(B:b_ mg)(KV:b7 K):
  cc P w K mg base "breadth" 1 ["one"] (cg K 1 qN):=by
 refine df.of a zS (by f_tup) rfl (λc A o s H E r=>⟨_,_,(aI (aX (aW dr (aS aQ (pv 0) aJ (λ_ _=>rfl)) (aS aQ (pv 0) aJ (λ_ _=>rfl))))),
  (bt (a8 (aN b9 (bA (dm.b aT) aC (aM aE)) (bA (dm.b aT) aC (aM aE))))),?_⟩)
 rintro ds e ⟨s,rfl,h⟩;unfold fy;fin2;exact h
def oW:dN:=λds P=>∃xs:List hG,ds=[.lst (xs.map fy)]/\0<xs.length/\xs.length<=1000/\∀M:Int,(∃s∈xs,s.2-s.1=M)->(∀s∈xs,s.2-s.1<=M)->P (.fz (.int M))
abbrev jo:A6:=top 15
theorem xM:aR ["some"] ["some"] (aB jo):=by f_are
theorem ym (m:bN K mg "broadest" jo f fd)(B:b_ mg)(KV:b7 K)(r:cc P w K mg base "breadth" 1 ["one"] (cg K 1 qN)):
  cc P w K mg base "broadest" 2 ["some"] (cg K 1 oW):=by
 refine df.of m xM (by f_tup) rfl (λc A o s H E j=>⟨_,_,(aI (aX (aV (lx rfl) (by rfl) B.max IS (ae (d_ rfl (c8 (pv 0)) (show bX (aB jo) _ from⟨rfl,by decide +kernel,by decide +kernel,by decide +kernel⟩) (N:=["one"]) (ix:=[a?]) (show cW _ _ _ _ from trivial) (λ_ _ _=>(bB (i:=0) (show Bp (["one"]:List Al) by decide +kernel) rfl (An rfl))) (λ_ _ _=>(aY r (j.mono (by decide)) (by rfl) (ae (pv 0) aD)))) aD)))),
  (bt (a8 (bP qr (aH (aM (bV (dU (dv aF) bD (a4 (aA aF aK))))) aP)))),?_⟩)
 rintro ds p ⟨xs,rfl,a,n,h⟩;fin2;refine f9.map xs fy (λs=>.fz (.int (s.2-s.1))) (by lia) (λs _ Q q=>?_) ?_
 .fin2;exact⟨s,rfl,q⟩
 fin2;refine⟨xs.map λs=>s.2-s.1,by simp only[AW,BG,OV.val],by simpa using a,λM k l=>?_⟩;obtain⟨s,g,e⟩:=Be.mp k;exact h M ⟨s,g,e⟩ λt ht=>l _ (Be.mpr ⟨t,ht,rfl⟩)
def l3:dN:=λds P=>∃(h w L n:Nat) (fs:List Lf) (bs:List Bool) (v:Wk),ds=[tG h w L n fs,.str (cK bs)]/\h<=100/\n<=5000/\i8 (Wk.turn ⟨n,0,[],[⟨0,0,h*w,1-2^n,2^n-1⟩],[]⟩) bs v/\P (.ob a? "Walk" bH v.ts)
abbrev n6:A6:=top 79
theorem zN:aR ["head","bits"] ["head","bits"] (aB n6):=by f_are
theorem EX (e:bN K mg "walk_of" n6 f fd)(B:b_ mg)(KV:b7 K)(g:∃t,mg "PLANES"=a! (.int 3 t))(a:∃t,mg "HIGH"=a! (.int 0 t))(G:∃t,mg "WIDE"=a! (.int 1 t))(l:cc P w K mg base "followed" 6 ["bits","many","planes"] (cg K 3 oV)):
  cc P w K mg base "walk_of" 7 ["head","bits"] (cg K 2 l3):=by
 refine df.of e zN (by f_tup) rfl (λc A o s H E r=>⟨_,_,(aI (aX (aY l (r.mono (by decide)) (by rfl) (ae (pv 1) (ae (aW gQ (aS aQ (pv 0) (aO (by rfl) a) (λ_ _=>rfl)) (aS aQ (pv 0) (aO (by rfl) G) (λ_ _=>rfl))) (ae (aS aQ (pv 0) (aO (by rfl) g) (λ_ _=>rfl)) aD)))))),
  (bt (a4 (aA aF (aA (aN cn (bA (dm.b aT) aC (aM aE)) (bA (dm.b aT) aC (aM aE))) (aA (bE aT aF aE) aK))))),?_⟩)
 rintro ds m ⟨h,w,L,n,fs,bs,v,rfl,j,hn,F,k⟩;fin2;exact⟨.inl ⟨by lia,by lia⟩,bs,_,n,v,rfl,hn,F,k⟩
def YV (h w:Nat)(e:Nat->Nat->hG)(M:Int):Prop:=(∃i j,i<h/\j<w/\(e i j).2-(e i j).1=M)/\∀i j,i<h->j<w->(e i j).2-(e i j).1<=M
theorem zc {h w:Nat}{e:Nat->Nat->hG}{M f:Int}(a:YV h w e M)(b:YV h w e f):M=f:=by
 obtain⟨⟨i,j,hi,l,h1⟩,h2⟩:=a;obtain⟨⟨k,g,c,J,n⟩,m⟩:=b;have:=h2 k g c J;have:=m i j hi l;lia
theorem NL (f:Nat->Int):∀w,0<w->∃M,(∃j,j<w/\f j=M)/\∀j,j<w->f j<=M
 | 0,h=>absurd h (by decide)
 | 1,_=>⟨f 0,⟨0,by decide,rfl⟩,λj J=>by rw[show j=0 by lia];exact Bh _⟩
 |w + 2,_=>by
  obtain⟨M,⟨j,J,e⟩,a⟩:=NL f (w+1) (by lia);by_cases z:f (w+1)<=M
  .exact ⟨M,⟨j,by lia,e⟩,λi hi=>by
    by_cases y:i=w+1
    .rw [y];exact z
    .exact a i (by lia)⟩
  .exact ⟨f (w+1),⟨w+1,by lia,rfl⟩,λi hi=>by
    by_cases y:i=w+1
    .rw [y];exact Bh _
    .have:=a i (by lia);lia⟩
def mJ:dN:=λds P=>∃(h w L n:Nat) (fs:List Lf) (bs:List Bool) (c:Nat) (u:Wk),ds=[tG h w L n fs,.str (cK bs),.int c]/\(∀f∈fs,f.Ok)/\(0<h/\h<=100/\0<w/\w<=100/\L<=6)/\n<=5000/\bs.length<=1000000/\c<=bs.length/\
 i8 (zw (h*w) n) (bs.take c) u/\kZ (h*w:Nat) u/\∀M:Int,YV h w (fg h w L fs u) M->P (.fz (.int M))
abbrev qc:A6:=top 85
theorem xN:aR ["head","bits","many","spans"] ["head","bits","many"] (aB qc):=by f_are
theorem TB (Df:bN K mg "broad" qc f fd)(B:b_ mg)(KV:b7 K)(g:dY K "Walk" bH)(l:c6 P w K mg base "Walk" "spans" 1 ["self"] (cg K 1 lM))(C:cc P w K mg base "walk_of" 7 ["head","bits"] (cg K 2 l3))(r:cc P w K mg base "broadest" 2 ["some"] (cg K 1 oW))(v:cc P w K mg base "level" 7 ["head","spans","k"] (cg K 3 xG)):
  cc P w K mg base "broad" 8 ["head","bits","many"] (cg K 3 mJ):=by
 refine df.of Df xN (by f_tup) rfl (λc A o s H E z=>⟨_,_,(aG (a5 (i:=3) xN.nd rfl (An rfl) (fq l (z.mono (by decide)) (aY C (z.mono (by decide)) (by rfl) (ae (pv 0) (ae (rC RM (pv 1) NS (qg (pv 2))) aD)))))
   (aI (aX (aV (lx rfl) (by rfl) B.max IS (ae (d_ rfl (c8 (aY v (z.mono (by decide)) (by rfl) (ae (pv 0) (ae (pv 3) (ae aJ aD))))) (show bX (aB qc) _ from⟨rfl,by decide +kernel,by decide +kernel,by decide +kernel⟩) (N:=["row"]) (ix:=[a?]) (show cW _ _ _ _ from trivial) (λ_ _ _=>(bB (i:=0) (show Bp (["row"]:List Al) by decide +kernel) rfl (An rfl))) (λ_ _ _=>(aY r (z.mono (by decide)) (by rfl) (ae (pv 0) aD)))) aD))))),
  (aU (bx (a8 (bV (gI g (by decide +kernel) (aM (bV (a4 (aA aF (aA (Su aF X5 (ND aC)) aK))))) aP))))
   (Sa 3 (bt (a8 (bP qr (aH (aM (bV (dU (dv (bV (a4 (aA aF (aA aF (aA aE aK)))))) bD (a4 (aA aF aK))))) aP)))))),?_⟩)
 rintro ds Pr ⟨h,w,L,n,fs,bs,c,u,rfl,ok,⟨h0,hh,w0,hw,hL⟩,hn,hbl,hc,F,S,k⟩;have hm:h*w<=10000:=Dp hh hw;have T:=PD S (by lia);gn_on;rw[cX,xB bs hc];refine⟨by omega,h,w,L,n,fs,bs.take c,u,rfl,hh,hn,by rw[<- Int.natCast_mul];exact F,?_⟩;fin2;refine⟨u,by rw[OV.c7],T.1,T.2.1,by omega,T.2.2.2,?_⟩;rw[Nk];have hlf:OV.lf (.nl (Bo OV.fz (Bo fy (dP u))))=true:=by
  show OV.jU _=b!
  rw[AW];exact WQ
 refine⟨hlf,?_⟩;have ev:OV.val (.nl (Bo OV.fz (Bo fy (dP u)))) = .lst ((dP u).map fy):=by
  show D.lst (OV.vals _)=_
  rw[Om]
 rw[ev];gp_on;fin2;have U:=l0 S;refine⟨h,w,L,n,0,fs,dP u,rfl,ok,⟨h0,hh,by omega,hL⟩,By _,U,?_⟩;rw[vB];show f9 _ _ (OV.vals _) _ _
 rw[OV.c7,jj]
 change ∀M:Int,YV h w (fg h w L fs u) M->_ at k
 have G:ed (0,0) (λk=>d7 (0,0) dh fs ((2^k:Nat):Int)) h w L 0 (λi j=>(dP u).getD (eH h w L i j) ((0,0):hG))=fg h w L fs u:=rfl;rw[G];generalize fg h w L fs u=e at k;have O:∀i,∃M,(∃j,j<w/\(e i j).2-(e i j).1=M)/\∀j,j<w->(e i j).2-(e i j).1<=M:=λi=>NL (λj=>(e i j).2-(e i j).1) w w0
 obtain⟨p,m⟩:∃p:Nat->Int,∀i,(∃j,j<w/\(e i j).2-(e i j).1=p i)/\∀j,j<w->(e i j).2-(e i j).1<=p i:=⟨λi=>(O i).choose,λi=>(O i).choose_spec⟩
 refine f9.map (AF h) (λi=>D.lst (tab w λj=>fy (e i j))) (λi=>.fz (.int (p i))) (by rw[C7];lia) (λi _ Q q=>?_) ?_
 .fin2;refine⟨tab w λj=>e i j,by rw[fG],by rw[bK];exact w0,by rw[bK];lia,λM hM hA=>?_⟩;have hin:∀j,j<w->e i j∈tab w λj=>e i j:=λj J=>Be.mpr ⟨j,BV.mpr J,rfl⟩
  obtain⟨⟨j,J,ej⟩,t⟩:=m i;have h1:=hA _ (hin j J);obtain⟨s,hs,es⟩:=hM;obtain⟨j',W3,rfl⟩:=Be.mp hs;have h2:=t j' (BV.mp W3);have:M=p i:=by lia
  rw[this];exact q
 fin2;refine⟨(AF h).map p,by simp only[AW,BG,OV.val],by rw[Au,C7];exact h0,λM hM hA=>?_⟩;obtain⟨i,hi,rfl⟩:=Be.mp hM;have hi:=BV.mp hi;refine k _ ⟨?_,λa b ha hb=>?_⟩
 .obtain ⟨⟨j,J,ej⟩,_⟩:=m i;exact⟨i,j,hi,J,ej⟩
 .have h1:=(m a).2 b hb;have h2:=hA _ (Be.mpr ⟨a,BV.mpr ha,rfl⟩);lia
def en:dN:=λds P=>∃(h w L n:Nat) (fs:List Lf) (bs:List Bool) (c:Nat) (u:Wk) (W:Int),ds=[tG h w L n fs,.int W,.str (cK bs),.int c]/\(∀f∈fs,f.Ok)/\(0<h/\h<=100/\0<w/\w<=100/\L<=6)/\n<=5000/\bs.length<=1000000/\c<=bs.length/\
 i8 (zw (h*w) n) (bs.take c) u/\kZ (h*w:Nat) u/\∀M:Int,YV h w (fg h w L fs u) M->P (.fz (.bl (decide (M<=W))))
abbrev gG:A6:=top 87
theorem uG:aR ["head","bits","breadth","fits"] ["head","bits","breadth"] (aB gG):=by f_are
abbrev bZ:A6:=(br gG).getD 0 (.Pass ⟨0,0,0,0⟩)
theorem qX:i9 ["head","breadth","bits","many"] ["head","breadth","bits"] ["many"] (aB bZ):=⟨rfl,rfl,rfl,by decide +kernel,rfl,by decide +kernel,by decide +kernel,by decide +kernel⟩
theorem sW:∀x∈(aB bZ).names,x.2 = .free->(aB gG).names.lookup x.1=a! .cell:=by decide +kernel
theorem ke {A:AN}{outer:List Ed}{s:Af}{H:Hp}{E:XK}{f:Ae}{cd:Aa}{c:List (Al×Ae)}(e:c=dE (aB bZ) (du jT P w K mg base ["head","bits","breadth","fits"] "enough" (aB gG) f cd A outer s H E).lE.env):pV (du jT P w K mg base ["head","bits","breadth","fits"] "enough" (aB gG) f cd A outer s H E).lE c [0,2,1]:=by rw[e];exact Nz (fs:=["head","breadth","bits"]) rfl (by decide +kernel) rfl (by decide +kernel)
theorem kO {env:Ed}{c:List (Al×Ae)}(e:c=dE (aB bZ) env):c.map (·.1)=(["head","breadth","bits"]:List Al):=by rw[e];rfl
theorem rT (B:b_ mg)(KV:b7 K)(r:cc P w K mg base "broad" 8 ["head","bits","many"] (cg K 3 mJ)):
  pH P w K mg base 9 "enough.<locals>.fits" bZ ["head","breadth","bits"] (cg K 4 en):=by
 refine Xa8.of qX (λ_ _ _ _ _ us hl=>match us,hl with | [_],_=>rfl) rfl (λA outer s H f cd l hf a=>⟨_,_,(aI (aX (ec To (aY r (a.mono (by decide)) (by rfl) (ae (pv 0) (ae (pv 2) (ae (pv 3) aD)))) (pv 1) (bG _)))),
  (bt (a8 (aN dI (aM (bV (a4 (aA aF (aA aF (aA aF aK)))))) aC))),?_⟩)
 rintro ds j ⟨h,w,L,n,fs,bs,c,u,W,rfl,ok,e,hn,hl,hc,F,S,k⟩;fin2;refine⟨h,w,L,n,fs,bs,c,u,rfl,ok,e,hn,hl,hc,F,S,λM g=>?_⟩;fin2;exact k M g
noncomputable def lst (g:Int->Bool):Nat->Int->Int->Int
 | 0,_,f=>f
 |n+1,b,f=>if b<f then (if g ((b+f) / 2)=b! then lst g n b ((b+f) / 2) else lst g n ((b+f) / 2+1) f) else f
theorem m8 (g:Int->Bool):∀(n m:Nat) (b f:Int),f-b<=n->f-b<=m->lst g n b f=lst g m b f
 | 0,0,_,_,_,_=>rfl
 | 0,m+1,b,f,h,_=>by rw[lst,lst,c? (by lia)]
 |n+1,0,b,f,_,h=>by rw[lst,lst,c? (by lia)]
 |n+1,m+1,b,f,h1,h2=>by
  rw[lst,lst];split
  .rw [m8 g n m b ((b+f) / 2) (by lia) (by lia),m8 g n m ((b+f) / 2+1) f (by lia) (by lia)]
  .rfl
theorem Mi (g:Int->Bool):∀(n:Nat) (b f:Int),b<=f->f-b<=n->b<=lst g n b f/\lst g n b f<=f/\(lst g n b f=f∨g (lst g n b f)=b!)/\(lst g n b f=b∨g (lst g n b f-1)=b?)
 | 0,b,f,h,h1=>by rw[lst];exact⟨h,Bh _,.inl rfl,.inl (by lia)⟩
 |n + 1,b,f,h,h1=>by
  rw[lst];split
  .generalize k:(b+f) / 2=m;have M:b<=m:=by lia
   have j:m<f:=by lia
   split
   .rename_i hg;obtain⟨e,c,A,a⟩:=Mi g n b m M (by lia);refine⟨e,by lia,.inr ?_,a⟩;rcases A with A |A
    .rw [A];exact hg
    .exact A
   .rename_i hg;obtain⟨e,c,A,a⟩:=Mi g n (m+1) f (by lia) (by lia);refine⟨by lia,c,A,.inr ?_⟩;rcases a with a |a
    .rw [a,show m+1-1=m by lia];simpa using hg
    .exact a
  .exact ⟨h,Bh _,.inl rfl,.inl (by lia)⟩
def xH:dN:=λds P=>∃(lo hi:Int) (c:List (Al×Ae)) (cs:List D) (g:Int->Bool),ds=[.int lo,.int hi,.qo "enough.<locals>.fits" bZ c cs]/\c.map (·.1)=(["head","breadth","bits"]:List Al)/\(c.map (·.2)).Nodup/\cs.length=3/\D.jU cs=b!/\lo<=hi/\
 (∀m,lo<=m->m<hi->∀r:OV->Prop,r (.fz (.bl (g m)))->en (cs++[.int m]) r)/\P (.fz (.int (lst g (hi-lo).toNat lo hi)))
abbrev qa:A6:=top 86
theorem dZ:aR ["low","high","good","below","found","middle"] ["low","high","good"] (aB qa):=by f_are
theorem Tw (z:bN K mg "least" qa f fd)(B:b_ mg)(KV:b7 K)(e:pH P w K mg base 9 "enough.<locals>.fits" bZ ["head","breadth","bits"] (cg K 4 en)):
  cc P w K mg base "least" 10 ["low","high","good"] (cg K 3 xH):=by
 refine df.of z dZ (by f_tup) rfl (λc A o s H E u=>⟨_,_,(aG (a5 (i:=3) dZ.nd rfl (An rfl) (pv 0))
   (aG (a5 (i:=4) dZ.nd rfl (An rfl) (pv 1))
   (aG (kG AM (bI iT (pv 3) (pv 4) (bG _)) (aG (a5 (i:=5) dZ.nd rfl (An rfl) (aW di (aW cH (pv 3) (pv 4)) aJ))
   (aI (cj (cD (Tf (pv 2) e (u.mono (by decide)) (ae (pv 5) aD))) (aI (a5 (i:=4) dZ.nd rfl (An rfl) (pv 5))) (aI (a5 (i:=3) dZ.nd rfl (An rfl) (aW cH (pv 5) aJ)))))))
   (aI (aX (pv 4)))))),
  (aU (bx (a8 aF))
   (aU (bx (a8 aF))
   (aU (q_ (bL (aN dI aC aC)) (aU (bx (a8 (aN cn (aM (aN b9 aC aC)) (aM aE))))
   (cC (fC (bV (Sk (aA aF aK)))) (bx (a8 aF)) (bx (a8 (aN b9 aC (aM aE)))))))
   (bt (a8 aF))))),?_⟩)
 rintro ds J ⟨lo,hi,t,cs,g,rfl,hf,n,r,p,L,hg,k⟩;gn_on;gp_on;gn_on;gp_on;gn_on;have C:t.length=cs.length:=by rw[r,<- Au (f:=(·.1)),hf];rfl
 refine⟨λm δ=>∃(b f:Int) (o:Option Sl),δ=[vI lo,vI hi,vD (.qo "enough.<locals>.fits" bZ t cs),vI b,vI f,o]/\lo<=b/\b<=f/\f<=hi/\lst g m b f=lst g (hi-lo).toNat lo hi/\f-b=m,⟨(hi-lo).toNat,lo,hi,a?,rfl,Bh _,L,Bh _,rfl,by lia⟩,?_⟩;rintro m δ ⟨b,f,o,rfl,h1,h2,v,h,G⟩;fin2;by_cases a:b<f
 .rw [c! (by simpa using a)];refine⟨hf,by decide +kernel,n,C,p,by rw[AE,r];rfl,hg _ (by lia) (by lia) _ ⟨rfl,?_⟩⟩;fin2;obtain⟨m,rfl⟩:∃i,m=i+1:=⟨m-1,by lia⟩
  rw[lst,c! a]at h;have j:b<=(b+f) / 2:=by lia
  have l:(b+f) / 2<f:=by lia
  generalize (b+f) / 2=M at j l h
  cases q:g M with
  |true=>
   rw[q,c! rfl]at h;rw[c! rfl];exact⟨(M-b).toNat,by lia,b,M,_,rfl,h1,j,by lia,(m8 g _ _ _ _ (by lia) (by lia)).trans h,by lia⟩
  |false=>
   rw[q,c? (by decide)]at h;rw[c? (by decide)];exact⟨(f-(M+1)).toNat,by lia,M+1,f,_,rfl,by lia,by lia,v,(m8 g _ _ _ _ (by lia) (by lia)).trans h,by lia⟩
 .rw [c? (by simpa using a)];gp_on;fin2;rw[show m=0 by lia,lst]at h;rw[h];exact k
theorem WS (fs:List Lf):D.jU (fs.map zp)=true:=by
 rw[D.kQ,List.all_map,GZ];intro f _;simp[zp,D.lf,D.jU]
def Brs (h w L n:Nat)(fs:List Lf)(bs:List Bool)(B:Nat->Int):Prop:=∀c,c<=bs.length->∃u,i8 (zw (h*w) n) (bs.take c) u/\kZ (h*w:Nat) u/\YV h w (fg h w L fs u) (B c)
def UK (B:Nat->Int)(W:Int)(n:Nat):D:=if B n<=W then .int (lst (λm=>decide (B m.toNat<=W)) n 0 n) else .cA
theorem ç (B:Nat->Int)(W:Int)(n:Nat):(W<B n/\UK B W n = .cA)∨(B n<=W/\∃k:Nat,UK B W n = .int k/\k<=n/\B k<=W/\(k=0∨W<B (k-1))):=by
 unfold UK;by_cases h:B n<=W
 .rw [c! h];refine .inr ⟨h,?_⟩;obtain⟨f,e,A,a⟩:=Mi (λm=>decide (B m.toNat<=W)) n 0 n (by lia) (by lia);generalize lst (λm=>decide (B m.toNat<=W)) n 0 n=k at f e A a;obtain⟨k,rfl⟩:∃i:Nat,k=i:=⟨k.toNat,by lia⟩
  refine⟨k,rfl,by lia,?_,?_⟩
  .rcases A with A |A
   .rw [show k=n by lia];exact h
   .simpa using A
  .by_cases c:k=0
   .exact .inl c
   rcases a with a |a
   .exact .inl (by lia)
   .rw [show ((k:Int)-1).toNat=k-1 by lia]at a;exact .inr (by simpa using a)
 .rw [c? h];exact .inl ⟨by lia,rfl⟩
def la:dN:=λds P=>∃(h w L n:Nat) (fs:List Lf) (bs:List Bool) (W:Int) (B:Nat->Int),ds=[tG h w L n fs,.str (cK bs),.int W]/\(∀f∈fs,f.Ok)/\(0<h/\h<=100/\0<w/\w<=100/\L<=6)/\n<=5000/\bs.length<=1000000/\Brs h w L n fs bs B/\P (.fz (UK B W bs.length))
theorem P' {f c T:Ae}{fd:A8}(O:bN K mg "enough" gG f fd)(hc:fd.code = .ref c)(J:PySem.W.CodeHd base c T)(p:base.BuiltinsAt mg T)(B:b_ mg)(KV:b7 K)(e:pH P w K mg base 9 "enough.<locals>.fits" bZ ["head","breadth","bits"] (cg K 4 en))(a:cc P w K mg base "least" 10 ["low","high","good"] (cg K 3 xH)):
  cc P w K mg base "enough" 11 ["head","bits","breadth"] (ē K 3 T ⟨307,4,308,49⟩ "enough.<locals>.fits" la):=by
 refine Xa9.of O hc uG (sc:=aB bZ) (by f_tup) rfl (λA outer s H E r F z C l=>⟨_,_,(aG (show PS _ bZ (Ze 3 T ⟨307,4,308,49⟩ "enough.<locals>.fits" bZ C) from ZP rfl J p (λok=>yU l ok sW) uG.nd rfl (An rfl))
   (aG (cj (dq (cD (Tg (pv 3) e (r.mono (by decide)) (ke _ _ _ l) (kO l) (ae (aV dk (by rfl) B.len Bf (ae (pv 1) aD)) aD)))) (aI (aX rD)) bM)
   (aI (aX (NV a (r.mono (by decide)) (by rfl) (ke _ _ _ l) (ae aJ (ae (aV dk (by rfl) B.len Bf (ae (pv 1) aD)) (ae (pv 3) aD)))))))),
  (vV (Zs z)
   (vV (bU.x (cC (dR (fC (bV (Sn (aA (bP ij (aH aC aP)) aK))))) (bt (a8 rj)) bO))
   (bU.x (bt (Sj (q := "enough.<locals>.fits") (st:=bZ) (fs:=["head","breadth","bits"]) (kO l) (aA aE (aA (bP ij (aH aC aP)) (aA aF aK)))))))),?_⟩)
 clear l;rintro ds Pr ⟨h,w,L,n,fs,bs,W,B,rfl,ok,v,hn,hl,p,k⟩;have t:∀(c:Nat) (Q:OV->Prop),c<=bs.length->Q (.fz (.bl (decide (B c<=W))))->en [tG h w L n fs,.int W,.str (cK bs),.int c] Q:=λc Q hc q=>by
  obtain⟨u,F,S,G⟩:=p c hc;exact⟨h,w,L,n,fs,bs,c,u,W,rfl,ok,v,hn,hl,hc,F,S,λM o=>by rw[zc o G];exact q⟩
 unfold UK at k;gn_on;gp_on;gn_on;rw[cX];refine⟨by lia,t _ _ (Ag _) ?_⟩;fin2;by_cases g:B bs.length<=W
 .rw [c! g]at k;rw[decide_eq_true g];show if (!b!)=b! then _ else _
  rw[c? (by decide)];gp_on;fin2;rw[cX];refine⟨by lia,λj hf=>⟨0,bs.length,C,_,λm=>decide (B m.toNat<=W),rfl,hf,j,rfl,by simp only[tG,eK,D.jU,D.lf,FF,BW];exact WS fs,by lia,λm U h1 Q q=>?_,rfl,?_⟩⟩
  .obtain ⟨m,rfl⟩:∃i:Nat,m=i:=⟨m.toNat,by lia⟩
   exact t m Q (by lia) q
  .rw [show ((bs.length:Int)-0).toNat=bs.length by lia];exact k
 .rw [c? g]at k;rw[decide_eq_false g];show if (!b?)=b! then _ else _
  rw[c! (by decide)];exact k
theorem L1 (f:Nat->Int):∀n,0<n->∃M,(∃i,i<n/\f i=M)/\∀i,i<n->f i<=M
 | 0,h=>by lia
 | 1,_=>⟨f 0,⟨0,by lia,rfl⟩,λi hi=>by rw[show i=0 by lia];exact Bh _⟩
 |n + 2,_=>by
  obtain⟨M,⟨i,hi,e⟩,h⟩:=L1 f (n+1) (by lia);by_cases a:f (n+1)<=M
  .exact ⟨M,⟨i,by lia,e⟩,λj J=>by
    by_cases z:j=n+1
    .rw [z];exact a
    .exact h j (by lia)⟩
  .exact ⟨f (n+1),⟨n+1,by lia,rfl⟩,λj J=>by
    by_cases z:j=n+1
    .rw [z];exact Bh _
    .have:=h j (by lia);lia⟩
theorem ó {h w:Nat}(n:0<h)(g:0<w)(e:Nat->Nat->hG):∃M,YV h w e M:=by
 have row:∀i,∃M,(∃j,j<w/\(e i j).2-(e i j).1=M)/\∀j,j<w->(e i j).2-(e i j).1<=M:=λi=>L1 (λj=>(e i j).2-(e i j).1) w g
 obtain⟨R,f⟩:=Ht.mp row;obtain⟨M,⟨i,hi,rfl⟩,m⟩:=L1 R h n;obtain⟨⟨j,l,o⟩,_⟩:=f i;exact⟨R i,⟨i,j,hi,l,o⟩,λc k a J=>Ka ((f c).2 k J) (m c a)⟩
theorem ò {h w L n:Nat}{fs:List Lf}{bs:List Bool}(g:0<h)(a:0<w)(H:∀c,c<=bs.length->∃u,i8 (zw (h*w) n) (bs.take c) u/\kZ (h*w:Nat) u):∃B,Brs h w L n fs bs B:=by
 have ex:∀c:Nat,∃M:Int,c<=bs.length->∃u,i8 (zw (h*w) n) (bs.take c) u/\kZ (h*w:Nat) u/\YV h w (fg h w L fs u) M:=λc=>by
  by_cases hc:c<=bs.length
  .obtain ⟨u,F,S⟩:=H c hc;obtain⟨M,e⟩:=ó g a (fg h w L fs u);exact⟨M,λ_=>⟨u,F,S,e⟩⟩
  .exact ⟨0,λz=>absurd z hc⟩
 obtain⟨B,f⟩:=Ht.mp ex;exact⟨B,f⟩
structure Rn where
 b:Int
 i:Nat
 s:Nat
 e:Nat
noncomputable def gr (f:Nat->Int)(v:Int)(s:Nat):Nat->Nat
 | 0=>0
 |n+1=>gr f v s n+if v<f (s+n) then 1 else 0
theorem yG (f:Nat->Int)(v:Int)(s:Nat):∀n,gr f v s n<=n
 | 0=>Ag _
 |n+1=>by
  have:=yG f v s n;unfold gr;split<;>lia
theorem mj (f:Nat->Int)(v:Int)(s m:Nat):∀n,gr f v s (m+n)=gr f v s m+gr f v (s+m) n
 | 0=>rfl
 |n+1=>by
  show gr f v s (m+n)+(if v<f (s+(m+n)) then 1 else 0)=gr f v s m+(gr f v (s+m) n+if v<f (s+m+n) then 1 else 0)
  rw[mj f v s m n,Nat.add_assoc s m n];lia
theorem oF {f:Nat->Int}{v:Int}{s:Nat}:∀{n},(∀k<n,v<f (s+k))->gr f v s n=n
 | 0,_=>rfl
 |n+1,h=>by
  unfold gr;rw[oF λk a=>h k (by lia),c! (h n (by lia))]
theorem nr {f:Nat->Int}{v:Int}{s:Nat}:∀{n},(∀k<n,f (s+k)<=v)->gr f v s n=0
 | 0,_=>rfl
 |n+1,h=>by
  unfold gr;rw[nr λk a=>h k (by lia),c? (by have:=h n (by lia);lia)]
noncomputable def md (s e:Nat):Nat:=(s+e) / 2
theorem se {s e:Nat}(h:s<e):s<=md s e/\md s e<e:=by
 unfold md;lia
theorem Ō (s:Nat):md s s=s:=by
 unfold md;lia
noncomputable def fD (g:Rn->Nat):List Rn->Nat
 | []=>0
 |r::rs=>g r+fD g rs
theorem iQ (g:Rn->Nat):∀xs ys,fD g (xs++ys)=fD g xs+fD g ys
 | [],ys=>by simp[fD]
 |x::xs,ys=>by
  show g x+fD g (xs++ys)=g x+fD g xs+fD g ys
  rw[iQ g xs ys];lia
theorem qf {g h:Rn->Nat}:∀{xs},(∀r∈xs,g r<=h r)->fD g xs<=fD h xs
 | [],_=>Ag _
 |x::xs,a=>by
  have h1:=a x Ay;have h2:=qf (xs:=xs) λr c=>a r (Ax _ c)
  show g x+fD g xs<=h x+fD h xs
  lia
theorem rp:∀xs:List Rn,fD (λ_=>1) xs=xs.length
 | []=>rfl
 |x::xs=>by
  show 1+fD (λ_=>1) xs=xs.length+1
  rw[rp xs];lia
theorem rq (g h:Rn->Nat):∀xs,fD (λr=>g r+h r) xs=fD g xs+fD h xs
 | []=>rfl
 |x::xs=>by
  show g x+h x+fD (λr=>g r+h r) xs=g x+fD g xs+(h x+fD h xs)
  rw[rq g h xs];lia
abbrev rG (a:Nat->Nat->Int)(v:Int)(rs:List Rn):Nat:=fD (λr=>gr (a r.i) v r.s (r.e-r.s)) rs
abbrev rN (rs:List Rn):Nat:=fD (λr=>r.e-r.s) rs
abbrev rF (rs:List Rn):Nat:=fD (λr=>md r.s r.e-r.s) rs
noncomputable def rP (b:Int):List Rn->Nat
 | []=>0
 |x::xs=>if x.b<=b then rP b xs+1 else 0
noncomputable def l' (r:Rn):List Rn->List Rn
 | []=>[r]
 |x::xs=>if x.b<=r.b then x::l' r xs else r::x::xs
theorem NQ (r:Rn):∀rs,l' r rs=rs.take (rP r.b rs)++r::rs.drop (rP r.b rs)
 | []=>rfl
 |x::xs=>by
  unfold l' rP;split
  .rw [NQ r xs];rfl
  .rfl
theorem Yc (b:Int):∀rs,rP b rs<=rs.length
 | []=>Ag _
 |x::xs=>by
  have:=Yc b xs;unfold rP;rw[AQ];split<;>lia
def iE (a:Nat->Nat->Int)(i s e:Nat)(rs:List Rn):List Rn:=if s=e then rs else l' ⟨a i (md s e),i,s,e⟩ rs
theorem mU (g:Rn->Nat)(r:Rn):∀rs,fD g (l' r rs)=g r+fD g rs
 | []=>rfl
 |x :: xs=>by
  unfold l';split
  .show g x+fD g (l' r xs)=g r+(g x+fD g xs)
   rw[mU g r xs];lia
  .rfl
theorem kF {r y:Rn}:∀{rs:List Rn},y∈l' r rs->y=r∨y∈rs
 | [],h=>.inl (AV.mp h)
 |x :: xs,h=>by
  unfold l' at h;split at h
  .rcases AJ.mp h with z |z
   .exact .inr (z▸Ay)
   .rcases kF z with z |z
    .exact .inl z
    .exact .inr (Ax _ z)
  .rcases AJ.mp h with z |z
   .exact .inl z
   .exact .inr z
abbrev Ľ (rs:List Rn):Prop:=rs.Pairwise λx y=>x.b<=y.b
theorem NP {r:Rn}:∀{rs:List Rn},Ľ rs->Ľ (l' r rs)
 | [],_=>List.pairwise_singleton _ _
 |x :: xs,h=>by
  obtain⟨h1,h2⟩:=Eg.mp h;unfold l';split
  .rename_i c;refine Eg.mpr ⟨λy a=>?_,NP h2⟩;rcases kF a with z |z
   .rw [z];exact c
   .exact h1 y z
  .rename_i c;refine Eg.mpr ⟨λy a=>?_,h⟩;rcases AJ.mp a with z |z
   .rw [z];lia
   .have:=h1 y z;lia
theorem Yd {b:Int}:∀{rs:List Rn} {k:Nat},k<=rs.length->(∀j r,j<k->rs[j]?=a! r->r.b<=b)->(∀r,rs[k]?=a! r->b<r.b)->k=rP b rs
 | [],k,h,_,_=>by
  rw[Dr]at h;unfold rP;lia
 |x::xs,0,_,_,a=>by
  have:=a x rfl;unfold rP;rw[c? (by lia)]
 |x::xs,k+1,h1,h2,a=>by
  have:=h2 0 x (by lia) rfl;unfold rP;rw[c! this,<- Yd (k:=k) (by rw[AQ]at h1;lia) (λj r J c=>h2 (j+1) r (by lia) c) a]
structure XC (a:Nat->Nat->Int) (L:Nat->Nat) (rs:List Rn):Prop where
 ok:∀r∈rs,r.s<r.e/\r.e<=L r.i+1/\r.b=a r.i (md r.s r.e)
 so:Ľ rs
section
variable {a:Nat->Nat->Int}{L:Nat->Nat}{i s e:Nat}{rs:List Rn}{v:Int}
theorem wb (h:XC a L rs)(h1:s<=e)(h2:e<=L i+1):XC a L (iE a i s e rs):=by
 unfold iE;split
 .exact h
 .refine ⟨λr c=>?_,NP h.so⟩;rcases kF c with z |z
  .rw [z];exact⟨by show s<e;lia,h2,rfl⟩
  .exact h.ok r z
theorem rx (h1:s<=e):rN (iE a i s e rs)=(e-s)+rN rs:=by
 unfold iE;split
 .rename_i z;rw[z];show _=e-e+_;rw[FN,F8]
 .exact mU _ _ _
theorem z6 (h1:s<=e):rF (iE a i s e rs)=(md s e-s)+rF rs:=by
 unfold iE;split
 .rename_i z;rw[z];show _=md e e-e+_;rw[Ō,FN,F8]
 .exact mU _ _ _
theorem z4 (h1:s<=e):rG a v (iE a i s e rs)=gr (a i) v s (e-s)+rG a v rs:=by
 unfold iE;split
 .rename_i z;rw[z,FN];exact (F8 _).symm
 .exact mU _ _ _
end
def uq (a:Nat->Nat->Int)(L:Nat->Nat):Prop:=∀i m n,m<=n->n<=L i->a i n<=a i m
structure vo (a:Nat->Nat->Int) (L:Nat->Nat) (T:Int->Prop) (rs:List Rn) (R:Nat):Prop where
 ok:XC a L rs
 MC:R<rN rs
 tell:∀v,rG a v rs<=R↔T v
section
variable {a:Nat->Nat->Int}{L:Nat->Nat}{T:Int->Prop}{rs:List Rn}{R:Nat}{r:Rn}
theorem Og (F:uq a L)(h:r.s<r.e/\r.e<=L r.i+1/\r.b=a r.i (md r.s r.e)){v:Int}(c:v<r.b):gr (a r.i) v r.s (md r.s r.e-r.s+1)=md r.s r.e-r.s+1:=by
 have m:=se h.1;refine oF λk f=>?_
 have:=F r.i (r.s+k) (md r.s r.e) (by lia) (by lia);rw[<- h.2.2]at this;lia
theorem W5 (F:uq a L)(h:r.s<r.e/\r.e<=L r.i+1/\r.b=a r.i (md r.s r.e)){v:Int}(c:r.b<=v):gr (a r.i) v (md r.s r.e) (r.e-md r.s r.e)=0:=by
 have m:=se h.1;refine nr λk f=>?_
 have:=F r.i (md r.s r.e) (md r.s r.e+k) (by lia) (by lia);rw[<- h.2.2]at this;lia
theorem SO (F:uq a L)(h:r.s<r.e/\r.e<=L r.i+1/\r.b=a r.i (md r.s r.e)){v:Int}(c:v<r.b):md r.s r.e-r.s+1<=gr (a r.i) v r.s (r.e-r.s):=by
 have m:=se h.1;have:=Og F h c;rw[show r.e-r.s=(md r.s r.e-r.s+1)+(r.e-(md r.s r.e+1)) by lia,mj,this];lia
theorem zZ (F:uq a L)(h:r.s<r.e/\r.e<=L r.i+1/\r.b=a r.i (md r.s r.e)){v:Int}(c:r.b<=v):gr (a r.i) v r.s (r.e-r.s)=gr (a r.i) v r.s (md r.s r.e-r.s):=by
 have m:=se h.1;rw[show r.e-r.s=(md r.s r.e-r.s)+(r.e-md r.s r.e) by lia,mj,show r.s+(md r.s r.e-r.s)=md r.s r.e by lia,W5 F h c];lia
theorem ý (F:uq a L){v:Int}:∀{rs:List Rn},(∀r∈rs,r.s<r.e/\r.e<=L r.i+1/\r.b=a r.i (md r.s r.e))->(∀r∈rs,v<r.b)->rF rs+rs.length<=rG a v rs:=by
 intro rs h f;rw[<- rp rs,<- rq];exact qf λr c=>SO F (h r c) (f r c)
theorem þ (F:uq a L){v:Int}:∀{rs:List Rn},(∀r∈rs,r.s<r.e/\r.e<=L r.i+1/\r.b=a r.i (md r.s r.e))->(∀r∈rs,r.b<=v)->rG a v rs<=rF rs:=by
 intro rs h f;exact qf λr c=>by rw[zZ F (h r c) (f r c)];exact yG _ _ _ _
theorem PU (F:uq a L)(I:vo a L T (r::rs) R)(h:R<rF (r::rs)+rs.length):vo a L T (iE a r.i r.s (md r.s r.e) rs) R:=by
 have f:=I.ok.ok r Ay;have M:=se f.1;have ht:∀x∈rs,x.s<x.e/\x.e<=L x.i+1/\x.b=a x.i (md x.s x.e):=λx c=>I.ok.ok x (Ax _ c)
 obtain⟨j,g⟩:=Eg.mp I.ok.so;have eF:rF (r::rs)=md r.s r.e-r.s+rF rs:=rfl;have hN:rF rs+rs.length<=rN rs:=by
  rw[<- rp rs,<- rq];exact qf λx c=>by have:=(ht x c).1;have:=se this;lia
 refine⟨wb ⟨ht,g⟩ (by lia) (by lia),?_,λv=>?_⟩
 .rw [rx (by lia)];lia
 .rw [z4 (by lia),<- I.tell v];have G:rG a v (r::rs)=gr (a r.i) v r.s (r.e-r.s)+rG a v rs:=rfl;by_cases l:r.b<=v
  .rw [G,zZ F f l]
  .have o:=ý (v:=v) F ht λx c=>by have:=j x c;lia
   have n:=SO F f (v:=v) (by lia);have m:gr (a r.i) v r.s (md r.s r.e-r.s)=md r.s r.e-r.s:=by
    refine oF λk p=>?_
    have:=F r.i (r.s+k) (md r.s r.e) (by lia) (by lia);rw[<- f.2.2]at this;lia
   constructor
   .intro z;lia
   .intro z;lia
theorem SS (F:uq a L)(I:vo a L T (rs++[r]) R)(h2:rs≠[])(h:rF (rs++[r])+rs.length<=R):md r.s r.e+1-r.s<=R/\vo a L T (iE a r.i (md r.s r.e+1) r.e rs) (R-(md r.s r.e+1-r.s)):=by
 have c:=I.ok.ok r (by simp);have m:=se c.1;have ht:∀x∈rs,x.s<x.e/\x.e<=L x.i+1/\x.b=a x.i (md x.s x.e):=λx f=>I.ok.ok x (by simp[f])
 obtain⟨O,_,M⟩:=Fi.mp I.ok.so;have J:∀x∈rs,x.b<=r.b:=λx f=>M x f r (by simp)
 have hl:1<=rs.length:=by
  cases rs with
  |nil=>exact absurd rfl h2
  |cons x xs=>rw[AQ];exact Nat.le_add_left _ _
 have eF:rF (rs++[r])=rF rs+(md r.s r.e-r.s):=by rw[rF,iQ];rfl
 have j:rN (rs++[r])=rN rs+(r.e-r.s):=by rw[rN,iQ];rfl
 have l:∀v,rG a v (rs++[r])=rG a v rs+gr (a r.i) v r.s (r.e-r.s):=λv=>by rw[rG,iQ];rfl
 have hf:=I.MC;have lo:=λv=>Og F c (v:=v)
 have hi:=λv=>zZ F c (v:=v)
 have g:=λv=>yG (a r.i) v r.s (md r.s r.e-r.s)
 obtain⟨A,Q⟩:∃A,md r.s r.e=r.s+A:=⟨_,(Ix m.1).symm⟩
 obtain⟨G,eE⟩:∃G,r.e=md r.s r.e+1+G:=⟨_,(Ix m.2).symm⟩
 have q:md r.s r.e-r.s=A:=by rw[Q,Nat.add_sub_cancel_left]
 have p:r.e-r.s=A+1+G:=by lia
 have u:md r.s r.e+1-r.s=A+1:=by lia
 have o:r.e-(md r.s r.e+1)=G:=by lia
 have n:r.s+(A+1)=md r.s r.e+1:=by lia
 rw[q]at eF lo g hi;rw[p]at j l hi;rw[u];rw[eF]at h;rw[j]at hf;refine⟨by lia,wb ⟨ht,O⟩ m.2 c.2.1,?_,λv=>?_⟩
 .rw [rx m.2,o];clear l lo hi g n p q j eF;lia
 .rw [z4 m.2,<- I.tell v,o,l v];by_cases t:v<r.b
  .rw [mj,lo v t,n];clear l lo hi g n p q j eF m u o hf;constructor
   .intro z;lia
   .intro z;lia
  .have l1:=þ (v:=v) F ht λx f=>Ka (J x f) (KR.mp t)
   have C:=hi v (KR.mp t);have U:=g v;have B:gr (a r.i) v (md r.s r.e+1) G=0:=by
    refine nr λk hk=>?_
    have:=F r.i (md r.s r.e) (md r.s r.e+1+k) (by lia) (by lia);rw[<- c.2.2]at this;lia
   rw[B,C];clear l lo hi g n p q j eF m u o hf B C c;constructor
   .intro z;lia
   .intro z;lia
theorem ZG (F:uq a L)(I:vo a L T [r] R):r.s+R<=L r.i/\T (a r.i (r.s+R))/\∀v,v<a r.i (r.s+R)->¬ T v:=by
 have g:=I.ok.ok r Ay;have hf:R<r.e-r.s+0:=I.MC;have G:∀v,rG a v [r]=gr (a r.i) v r.s (r.e-r.s):=λv=>rfl
 refine⟨by lia,(I.tell _).mp ?_,λv f z=>?_⟩
 .rw [G,show r.e-r.s=R+(r.e-r.s-R) by lia,mj,nr (s:=r.s+R) λk h=>F r.i (r.s+R) (r.s+R+k) (by lia) (by lia)];exact yG _ _ _ _
 .have c:=(I.tell v).mpr z;rw[G,show r.e-r.s=(R+1)+(r.e-r.s-(R+1)) by lia,mj,oF λk h=>?_]at c
  .lia
  .have:=F r.i (r.s+k) (r.s+R) (by lia) (by lia);lia
end
theorem zM {h w L:Nat}{e:Nat->Nat->Int}{fs:List Lf}(ok:∀f∈fs,f.Ok){v:Wk}(S:kZ ((h*w:Nat):Int) v)(C:dt (gR h w e fs L) v)(a:v.pl<0){i j:Nat}(hi:i<h)(J:j<w):fg h w L fs v i j=(e i j,e i j):=by
 have u:∀(k:Nat) (r:List Int),(cm fs (2^k:Nat) r).length=r.length:=λk r=>by rw[NM,iX]
 have B:∀(k:Nat) (r:List Int),iG fs (2^k:Nat) (cm fs (2^k:Nat) r)=r:=λk r=>pf (by exact_mod_cast Fs (by decide)) r λf hf=>(ok f hf).h
 have o:=yh (z:=(0:Int)) (h:=h) (w:=w) (up:=λk=>cm fs (2^k:Nat)) (dn:=λk=>iG fs (2^k:Nat)) u B L 0 e (By _);rw[R1 ok yp S C a hi J];have q:tH h w (λi j=>(gR h w e fs L).getD (eH h w L i j) 0) (pQ 0 (λk=>cm fs (2^k:Nat)) h w L e):=λi j hi J=>by
  show (gR h w e fs L).getD (eH h w L i j) 0=_
  rw[Ak,gR,AK,rA hi J];rfl
 have:=((oi (z:=(0:Int)) (op:=λk=>iG fs (2^k:Nat)) L 0 q).trans o) i j hi J;rw[this];rfl
structure At (h w L n:Nat) (e:Nat->Nat->Int) (fs:List Lf) (bs:List Bool) (c:Nat) (u:Wk):Prop where
 f:i8 (zw (h*w) n) (bs.take c) u
 s:kZ ((h*w:Nat):Int) u
 us:u.us=c
 wh:decide (u.pl<0)=decide (c=bs.length)
 p5:u.pl<=5000
 re:(u.re.length:Int)+u.pl<800000
 val:∀i j,i<h->j<w->(fg h w L fs u i j).1<=e i j/\e i j<=(fg h w L fs u i j).2
theorem ύ {w:Nat}{e:Nat->Nat->Int}(ok:∀f∈fs,f.Ok)(k:0<h*w)(B:h*w<=400)(hn:n<=5000)(F:i8 (zw (h*w) n) bs v)(S:kZ ((h*w:Nat):Int) v)(l:v.pl<0)(U:v.us=bs.length)(a:∀i j,i<h->j<w->fg h w L fs v i j=(e i j,e i j))(hc:c<=bs.length):
  ∃u,At h w L n e fs bs c u:=by
 obtain⟨z,q,Q,_⟩:(zw (h*w) n).pl=(n:Int)-1/\(zw (h*w) n).re=[]/\(zw (h*w) n).us=0/\_:=oS (h*w) n;have g:=oR (m:=((h*w:Nat):Int)) (by omega) n;obtain⟨u,t,A,r,M,G,p,C,o⟩:=Xl (m:=h*w) k (by omega) F g (by omega) (by rw[q,Dr];omega) Q hc;refine⟨u,t,A,by omega,?_,by omega,by rw[q,Dr]at o;omega,λi j hi J=>?_⟩
 .rw [p,decide_eq_true l,BW];exact decide_eq_decide.mpr (by omega)
 .have:=NA (L:=L) ok k rfl r A S hi J;rw[a i j hi J]at this;exact⟨this.1,this.2.2⟩
theorem Xw {w:Nat}{e:Nat->Nat->Int}(ok:∀f∈fs,f.Ok)(a:0<h*w)(g:h*w<=400)(A:At h w L n e fs bs c u)(B:At h w L n e fs bs d U)(C:c<=d):
  i8 u ((bs.take d).drop c) U/\∀i j,i<h->j<w->Uu (fg h w L fs u i j) (fg h w L fs U i j):=by
 have M:=UY (m:=h*w) a (by omega) C A.f A.s A.p5 A.re B.f;exact⟨M,λi j hi J=>NA ok a rfl M A.s B.s hi J⟩
structure dG where
 h:Nat
 w:Nat
 L:Nat
 n:Nat
 fs:List Lf
 bs:List Bool
 B:Nat->Int
def dG.d (x:dG):D:=.tup [tG x.h x.w x.L x.n x.fs,.str (cK x.bs)]
structure dG.Ok (x:dG):Prop where
 ok:∀f∈x.fs,f.Ok
 hw:0<x.h/\x.h<=100/\0<x.w/\x.w<=100/\x.L<=6
 n:x.n<=5000
 l:x.bs.length<=1000000
 b:Brs x.h x.w x.L x.n x.fs x.bs x.B
 å:∀m n,m<=n->n<=x.bs.length->x.B n<=x.B m
 zero:x.B x.bs.length=0
 wh:∃v,i8 (zw (x.h*x.w) x.n) x.bs v/\v.pl<0/\v.us=x.bs.length
 l9:x.bs.length<=900000
 cut:∀c,c<x.bs.length->∃u,i8 (zw (x.h*x.w) x.n) (x.bs.take c) u/\0<=u.pl
def bW:List Al:=["streams","rest","runs","firsts"]
noncomputable def uK (r:Rn):D:=.tup [.int r.b,.int r.i,.int r.s,.int r.e]
def p8 (xs:List dG)(R:Int)(rs:List Rn)(f:Int):List OV:=[.fz (.lst (xs.map dG.d)),.fz (.int R),.nl ((rs.map uK).map .fz),.fz (.int f)]
noncomputable def VG:dG:=⟨0,0,0,0,[],[],λ_=>0⟩
abbrev p7 (xs:List dG)(i m:Nat):Int:=(xs.getD i VG).B m
abbrev uB (xs:List dG)(i:Nat):Nat:=(xs.getD i VG).bs.length
theorem ô {x:dG}(o:x.Ok){c:Nat}{Q:OV->Prop}(hc:c<=x.bs.length)(q:Q (.fz (.int (x.B c)))):mJ [tG x.h x.w x.L x.n x.fs,.str (cK x.bs),.int c] Q:=by
 obtain⟨u,F,S,e⟩:=o.b c hc;exact⟨x.h,x.w,x.L,x.n,x.fs,x.bs,c,u,rfl,o.ok,o.hw,o.n,o.l,hc,F,S,λM a=>by rw[zc a e];exact q⟩
theorem tz {xs:List dG}{i:Nat}{x:dG}(h:xs[i]?=a! x):jB (xs.map dG.d) (i:Int)=a! x.d:=dw (by rw[AK,h];rfl)
def gi:dN:=λds P=>∃s e:Nat,ds=[.int s,.int e]/\s<=2000000/\e<=2000000/\P (.fz (.int (md s e:Nat)))
def dg:dN:=λds P=>∃(xs:List dG) (R f:Int) (rs:List Rn) (i m:Nat) (x:dG),ds=[.obj "Search" bW (OV.vals (p8 xs R rs f)),.int i,.int m]/\xs[i]?=a! x/\x.Ok/\m<=x.bs.length/\P (.fz (.int (x.B m)))
def ip:qt:=λts ds P=>∃(xs:List dG) (R f:Int) (rs:List Rn) (i s e:Nat) (x:dG),ts=p8 xs R rs f/\ds=[.int i,.int s,.int e]/\xs[i]?=a! x/\x.Ok/\s<=e/\e<=x.bs.length+1/\rs.length<1000/\Ľ rs/\P (p8 xs R (iE (p7 xs) i s e rs) (f+(md s e-s:Nat)))
structure Vb (xs:List dG) (T:Int->Prop) (rs:List Rn) (R:Nat):Prop where
 inv:vo (p7 xs) (uB xs) T rs R
 at_:∀r∈rs,r.i<xs.length
 MC:rs.length<=100
def oN (xs:List dG):Prop:=(∀x∈xs,x.Ok)/\xs.length<=100
def iN:qt:=λts ds P=>∃(xs:List dG) (T:Int->Prop) (rs:List Rn) (R:Nat),ts=p8 xs R rs (rF rs:Nat)/\ds=[]/\oN xs/\Vb xs T rs R/\2<=rs.length/\∀(r:List Rn) (a:Nat),Vb xs T r a->rN r<rN rs->P (p8 xs a r (rF r:Nat))
def jH:ϕ:=λts ds P=>∃(xs:List dG) (T:Int->Prop) (rs:List Rn) (R:Nat),ts=p8 xs R rs (rF rs:Nat)/\ds=[]/\oN xs/\Vb xs T rs R/\∀v:Int,T v->(∀u,u<v->¬ T u)->P (.int v)
def yF (xs:List dG)(v:Int):Nat->Nat
 | 0=>0
 |k+1=>yF xs v k+gr (p7 xs k) v 0 (uB xs k+1)
def kR (xs:List dG):Nat->Nat
 | 0=>0
 |k+1=>kR xs k+uB xs k
def gz:qt:=λts ds P=>∃(xs:List dG) (t:Nat),ts=[]/\ds=[.lst (xs.map dG.d),.int t]/\oN xs/\1<=xs.length/\∀rs:List Rn,Vb xs (λv=>yF xs v xs.length<=min t (kR xs xs.length)) rs (min t (kR xs xs.length))->P (p8 xs (min t (kR xs xs.length):Nat) rs (rF rs:Nat))
def Ĵ (R:DS):DS:=λc δ=>∃(o:Option Ae) (xs:List dG) (a f:Int) (rs:List Rn) (i s e:Nat) (x:dG),δ=[a! (.own (.ob o "Search" bW (p8 xs a rs f))),vI i,vI s,vI e,a?,a?,a?,a?]/\xs[i]?=a! x/\x.Ok/\s<e/\e<=x.bs.length+1/\rs.length<1000/\Ľ rs/\
 R c [a! (.own (.ob o "Search" bW (p8 xs a (l' ⟨x.B (md s e),i,s,e⟩ rs) f))),vI i,vI s,vI e,a?,vI (md s e:Nat),vI (x.B (md s e)),vI (rP (x.B (md s e)) rs:Nat)]
theorem eM {xs:List dG}{i:Nat}{x:dG}(h:xs[i]?=a! x):xs.getD i VG=x:=by rw[Ak,h];rfl
theorem ry (r:Rn):∀rs,(l' r rs).length=rs.length+1
 | []=>rfl
 |x::xs=>by
  unfold l';split
  .rw [AQ,ry r xs,AQ]
  .rfl
theorem x8 {a:Nat->Nat->Int}(h:r∈iE a i s e rs):r=⟨a i (md s e),i,s,e⟩∨r∈rs:=by
 unfold iE at h;split at h
 .exact .inr h
 .exact kF h
theorem x9 {a:Nat->Nat->Int}:(iE a i s e rs).length<=rs.length+1:=by
 unfold iE;split
 .lia
 .rw [ry];lia
theorem sy (xs:List dG):∀k,k<=xs.length->((xs.take k).map λx:dG=>(x.bs.length:Int)).sum=kR xs k
 | 0,_=>rfl
 |k+1,h=>by
  rw[AO (by lia),Bc,EI,sy xs k (by lia)];show (kR xs k:Int)+(((xs[k]).bs.length:Int)+0)=((kR xs k+uB xs k:Nat):Int)
  rw[uB,eM (Ad (show k<xs.length by lia))];lia
theorem v_ (rs:List Rn):OV.val (.nl ((rs.map uK).map .fz)) = .lst (rs.map uK):=by
 show D.lst (OV.vals _)=_
 rw[Om]
theorem MZ {xs:List dG}(h:oN xs):uq (p7 xs) (uB xs):=λi m n M hn=>by
 cases q:xs[i]? with
 |none=>rw[uB,Ak,q]at hn;rw[p7,p7,Ak,q];exact Bh _
 |some x=>
  rw[uB,eM q]at hn;rw[p7,p7,eM q];exact (h.1 x (Ai q)).å m n M hn
abbrev km:A6:=top 96
theorem vG:aR ["start","end"] ["start","end"] (aB km):=by f_are
abbrev gF:A6:=top 95
theorem jI:aR ["stream","walk"] ["stream"] (aB gF):=by f_are
abbrev d9:A6:=dX (top 97) 0
theorem gC:aR ["self","streams","total","at"] ["self","streams","total"] (aB d9):=by f_are
abbrev eO:A6:=dX (top 97) 1
theorem ki:aR ["self","at","many"] ["self","at","many"] (aB eO):=by f_are
abbrev dQ:A6:=dX (top 97) 2
theorem eT:aR ["self","at","start","end","runs","middle","breadth","place"] ["self","at","start","end"] (aB dQ):=by f_are
abbrev fW:A6:=dX (top 97) 3
theorem eC:aR ["self","behind","run","middle"] ["self"] (aB fW):=by f_are
abbrev gH:A6:=dX (top 97) 4
theorem jJ:aR ["self","run"] ["self"] (aB gH):=by f_are
abbrev p_:A6:=top 98
theorem qT:aR ["streams","total","stream","breadth"] ["streams","total"] (aB p_):=by f_are
theorem wq (a:bN K mg "middle_of" km f fd)(B:b_ mg)(KV:b7 K):
  cc P w K mg base "middle_of" 1 ["start","end"] (cg K 2 gi):=by
 refine df.of a vG (by f_tup) rfl (λc A o s H E r=>⟨_,_,(aI (aX (aW di (aW cH (pv 0) (pv 1)) aJ))),
  (bt (a8 (aN cn (aM (aN b9 aC aC)) (aM aE)))),?_⟩)
 rintro ds j ⟨s,e,rfl,h,g,k⟩;fin2;exact k
theorem kN (e:fv K "Search" "breadth_at" "Search.breadth_at" eO f fd)(B:b_ mg)(KV:b7 K)(C:dY K "Search" bW)(g:∃t,mg "HEAD"=a! (.int 0 t))(T:∃t,mg "BITS"=a! (.int 1 t))(r:cc P w K mg base "broad" 8 ["head","bits","many"] (cg K 3 mJ)):
  c6 P w K mg base "Search" "breadth_at" 9 ["self","at","many"] (cg K 3 dg):=by
 refine XG.of e ki (by f_tup) rfl (λc A o s H E a=>⟨_,_,(aI (aX (aY r (a.mono (by decide)) (by rfl) (ae (aS aQ (aS bR (cp (pv 0) rfl) (pv 1) (λ_ _=>rfl)) (aO (by rfl) g) (λ_ _=>rfl)) (ae (aS aQ (aS bR (cp (pv 0) rfl) (pv 1) (λ_ _=>rfl)) (aO (by rfl) T) (λ_ _=>rfl)) (ae (pv 2) aD)))))),
  (bt (fO (aH (bA (dm.b aT) (bA (dm.b cw) (c_ (j:=0) C (by rfl) aC) aC) (aM aE)) (aH (bA (dm.b aT) (bA (dm.b cw) (c_ (j:=0) C (by rfl) aC) aC) (aM aE)) (aH aC aP))))),?_⟩)
 rintro ds l ⟨xs,R,f,rs,i,m,x,rfl,h,o,M,k⟩;fin2;exact⟨_,rfl,_,tz h,_,rfl,_,rfl,_,tz h,_,rfl,ô o M ⟨rfl,k⟩⟩
abbrev um (T T':Ae):Hp->Prop:=λF=>F T=a! (.kW ⟨307,4,308,49⟩ "enough.<locals>.fits")/\F T'=a! (.kW ⟨344,36,344,90⟩ "Search.put.<locals>.<lambda>")
theorem eP {T T':Ae}:lS (um T T'):=λ_ _ s h=>⟨s _ _ h.1,s _ _ h.2⟩
noncomputable def ŏ:A6->Expr
 | .Assign _ (.Call _ [_,_,l] _ _) _=>l
 |_=>.Name "" ⟨0,0,0,0⟩
def sC:Expr->Cz
 | .Lambda a _ _ _=>a
 |_=>bT (.Pass ⟨0,0,0,0⟩)
noncomputable def uX:Expr->Expr
 | .Lambda _ b _ _=>b
 |e=>e
def kS:Expr->BM
 | .Lambda _ _ s _=>s
 |_=>aB (.Pass ⟨0,0,0,0⟩)
abbrev fZ:Expr:=ŏ ((br dQ).getD 4 (.Pass ⟨0,0,0,0⟩))
noncomputable abbrev Ql:Al := "Search.put.<locals>.<lambda>"
theorem Zl:i9 ["runs","breadth","k"] ["runs","breadth"] ["k"] (aB (Uj (sC fZ) (kS fZ))):=⟨rfl,rfl,rfl,by decide +kernel,rfl,by decide +kernel,by decide +kernel,by decide +kernel⟩
def Nr (K:Aq):Sp:=VI 3 λvs H Q=>∃(l:Ae) (c:List V) (b k:Int),vs=[.ref l,.int b,.int k]/\H l=a! (.lst c)/\(k=c.length->Q (.bl b!) H)/\(k≠c.length->∃(i:Nat) (a:Ae) (y:Int) (r:List V),k=i/\c[i]?=a! (.ref a)/\lA K H a (.int y::r)/\Q (.bl (decide (b<y))) H)
theorem Z' (B:b_ mg)(g:∃t,mg "BREADTH"=a! (.int 0 t)):Vg P w K mg base 1 Ql (sC fZ) (uX fZ) (kS fZ) ["runs","breadth"] (Nr K):=by
 refine Í Zl (λ_ _ _ _ us hl=>match us,hl with | [_],_=>rfl) (λvs H Q h=>h.1) λA outer s H f cd C hf n=>⟨_,(Yl (ec eX (pv 2) (aV a_ (by rfl) B.len Bf (ae (pv 0) aD)) (bG _)) (kL (ec m4 (aS aQ (aS bR (pv 0) (pv 2) (λ_ _=>rfl)) (aO (by rfl) g) (λ_ _=>rfl)) (pv 1) (bG _)))),λvs Q h=>?_⟩
 obtain⟨_,l,e,b,k,rfl,hl,m,j⟩:=h;refine⟨_,rfl,_,rfl,l,e,rfl,.inl (eQ.of hl),rfl,_,rfl,?_⟩;by_cases c:k=e.length
 .rw [c! (by simp[c])];exact m c
 .rw [c? (by simp[c])];obtain⟨i,a,y,r,rfl,hi,ht,q⟩:=j c;exact⟨_,rfl,_,rfl,⟨l,e,i,.ref a,rfl,rfl,eQ.of hl,dw hi,a,_,0,.int y,rfl,rfl,ht,(show jB _ ((0:Nat):Int)=_ from dw rfl),_,rfl,y,b,rfl,rfl,q⟩⟩
theorem P8 (Df:bN K mg "least" qa f fd)(B:b_ mg)(T:∃t,mg "BREADTH"=a! (.int 0 t)):
  cc P w K mg base "least" 2 ["low","high","good"] (RL Ql (sC fZ) (uX fZ) (kS fZ) ["runs","breadth"] (Nr K)):=by
 refine cc.of Df dZ (by f_tup) (λvs H Q E h=>h.1) λí A outer s H vs Q E u h=>⟨_,(aG (a5 (i:=3) dZ.nd rfl (An rfl) (pv 0))
   (aG (a5 (i:=4) dZ.nd rfl (An rfl) (pv 1))
   (aG (kG AM (bI iT (pv 3) (pv 4) (bG _)) (aG (a5 (i:=5) dZ.nd rfl (An rfl) (aW di (aW cH (pv 3) (pv 4)) aJ))
   (aI (cj (cD (P0 (pv 2) (Z' P w base B T) (u.mono (by decide)) (ae (pv 5) aD))) (aI (a5 (i:=4) dZ.nd rfl (An rfl) (pv 5))) (aI (a5 (i:=3) dZ.nd rfl (An rfl) (aW cH (pv 5) aJ)))))))
   (aI (aX (pv 4)))))),?_⟩
 obtain⟨_,lo,hi,f,c,C,cl,pm,v,r,I,rfl,O,hf,j,k,l,U,e,n⟩:=h;refine⟨_,rfl,_,rfl,λm Y H=>∃(b g:Int) (o:Option V),Y=[a! (.int lo),a! (.int hi),a! (.ref f),a! (.int b),a! (.int g),o]/\I b g H/\(g-b).toNat=m,⟨_,lo,hi,a?,rfl,U,rfl⟩,?_⟩;rintro m Y q ⟨b,g,o,rfl,p,hm⟩;refine⟨_,rfl,_,rfl,b,g,rfl,rfl,_,rfl,?_⟩;dsimp only;by_cases G:b<g
 .rw [c! (by simpa using G)];obtain⟨h1,h2,L,J⟩:=e b g q G p;refine⟨λY' H'=>∃M,M<m/\∃(b g:Int) (o:Option V),Y'=[a! (.int lo),a! (.int hi),a! (.ref f),a! (.int b),a! (.int g),o]/\I b g H'/\(g-b).toNat=M,λ_ _ z=>z,?_⟩;refine⟨_,rfl,_,rfl,b,g,rfl,rfl,b+g,2,rfl,rfl,⟨by decide,by decide⟩,?_⟩;refine⟨f,c,C,cl,pm,v,r,rfl,h1,hf,j,by rw[hf];exact k,l,_,rfl,h1,h2,O,L,J _ λt H2 a=>⟨_,rfl,?_⟩⟩
  cases t with
  |true=>exact oD ⟨_,rfl,_,by lia,b,_,_,rfl,a,rfl⟩
  |false=>exact ng rfl ⟨_,rfl,_,1,rfl,rfl,_,by lia,_,g,_,rfl,a,rfl⟩
 .rw [c? (by simpa using G)];exact⟨_,rfl,n b g q G p⟩
theorem ë:∀x∈(kS fZ).names,x.2 = .free->(aB dQ).names.lookup x.1=a! .cell:=by decide +kernel
theorem Zi {A:AN}{outer:List Ed}{s:Af}{H:Hp}{E:XK}{f:Ae}{cd:Aa}{c:List (Al×Ae)}(e:c=dE (kS fZ) (du jT P w K mg base ["self","at","start","end","runs","middle","breadth","place"] "Search.put" (aB dQ) f cd A outer s H E).lE.env):pV (du jT P w K mg base ["self","at","start","end","runs","middle","breadth","place"] "Search.put" (aB dQ) f cd A outer s H E).lE c [4,6]:=by
 rw[e];exact Nz (fs:=["runs","breadth"]) (by decide +kernel) (by decide) rfl (by decide +kernel)
theorem Å {env:Ed}{c:List (Al×Ae)}(e:c=dE (kS fZ) env):c.map (·.1)=(["runs","breadth"]:List Al):=by rw[e];rfl
theorem YE {c a F H:Hp}{Y:L2.St}{δ:de}{A:Nat->List Ae}{k:Nat}(e:ER K c a F H Y δ A)(h:δ[k]?=a! a?)(v:Option V):ER K c a F H (Y.set k v) δ A:=by
 have ne:∀{j:Nat} {s:Sl},δ[j]?=a! (a! s)->(Y.set k v)[j]?=Y[j]?:=λ{j s} J=>AH λz=>by rw[<- z,h]at J;cases J
 exact⟨by rw[Bk];exact e.len,e.ext,λj t J=>by rw[ne J];exact e.own j t J,λj d J=>by rw[ne J];exact e.bw j d J,e.jN,e.kU,e.new⟩
theorem WT {C:List Ae}{H:Hp}:oA C H (lC C H)=H:=by
 funext b
 by_cases h:b∈C
 .rw [iH h]
 .rw [cE h,cT h]
theorem x6 {F:Hp}:∀{xs:List D} {vs:List V} (k:Nat),bF K F xs vs->bF K F (xs.drop k) (vs.drop k)
 |xs,vs,0,h=>h
 | [],_,k+1,h=>by cases h;exact rfl
 |x::xs,_,k+1,h=>by obtain⟨v,r,rfl,h1,h2⟩:=h;exact x6 k h2
theorem YZ {T T':Ae}{cl:List (Al×Ae)}{tr:TS}{R:DS}(CV:dY K "Search" bW)(hm:cl.map (·.1)=(["runs","breadth"]:List Al))(hR:d3 K (um T T') tr R):
  d3 K (um T T') (lY (j6 (zE K (dy 0) "runs") (gU 4)) (lY (j6 (lJ (cg K 2 gi) [] E0 (c9 (dy 2) (c9 (dy 3) gw))) (gU 5)) (lY (j6 (i' K "Search" "breadth_at" (cg K 3 dg) (dy 0) (c9 (dy 1) (c9 (dy 5) gw))) (gU 6))
   (lY (j6 (vu (RL Ql (sC fZ) (uX fZ) (kS fZ) ["runs","breadth"] (Nr K)) cl [4,6] (c9 (tC (.int 0)) (c9 (Đ (λxs H Q=>∃p ys,xs=[.ref p]/\(eQ K H p ys∨lA K H p ys)/\Q (.int ys.length) H) (c9 (dy 4) gw)) (c9 (Zd T' ⟨344,36,344,90⟩ Ql (sC fZ) (uX fZ) (kS fZ) cl) gw)))) (gU 7))
   (lY (jD (VD K "list" NO (dy 4) (c9 (dy 7) (c9 (Nb (c9 (dy 6) (c9 (dy 1) (c9 (dy 2) (c9 (dy 3) gw))))) gw)))) tr))))) (Ĵ R):=λF0 H0 hT F H Y δ De En e l w=>by
 obtain⟨o,xs,R',f,rs,i,s,n,x,rfl,hx,ok,hse,he,hl,hso,w⟩:=w;have hmd:=se hse;obtain⟨A,e⟩:=e;obtain⟨a,k,G,C,dx,fs,hv,h1,h0,cl0,na,hlk,hc,nF,nH,hr,put⟩:=e.YC (j:=2) (f := "runs") (i:=0) (xs:=rs.map uK) CV rfl rfl rfl;refine⟨_,hv,a,C,dx,fs,.ref k,rfl,h1,cl0,na,hlk,?_⟩;have L:=e.len;have ϭ:=ok.l;have E1:cv K F0 H0 F H (Y.set 4 (a! (.ref k))) _:=⟨A,YE e rfl _⟩
 refine a4 (aA aF (aA aF aK)) F0 H0 F H (Y.set 4 (a! (.ref k))) _ (λr=>r = .fz (.int (md s n:Nat))) _ E1 ⟨rfl,s,n,rfl,by lia,by lia,rfl⟩ λr v F1 H1 hr1 x1 n1=>?_
 subst hr1;obtain⟨_,⟨_,hv1⟩,_⟩:=id n1
 cases (show v = .int (md s n:Nat) from hv1)
 have E2:=E1.put x1 5 n1;refine gI CV (by decide +kernel) aC (aH aC (aH aC aP)) F0 H0 F1 H1 _ _ (λr=>r = .fz (.int (x.B (md s n)))) _ E2 ⟨rfl,rfl,rfl,xs,R',f,rs,i,md s n,x,rfl,hx,ok,by lia,rfl,rfl⟩ λr v F2 H2 O x2 n2=>?_
 subst O;obtain⟨_,⟨_,hv2⟩,_⟩:=id n2
 cases (show v = .int (x.B (md s n)) from hv2)
 have E3:=E2.put x2 6 n2;generalize x.B (md s n)=b at *;have t:=x1.trans x2;have hc2:=t.hh _ _ hc;have O:=hr.mono t.ff;have Ϯ:=hr.length;rw[Au]at Ϯ;have g4:((((Y.set 4 (a! (.ref k))).set 5 (a! (.int (md s n:Nat)))).set 6 (a! (.int b))))[4]?=a! (a! (.ref k)):=by
  rw[AH (by decide),AH (by decide),Aw (by rw[L];show 4<8;decide)]
 have g6:((((Y.set 4 (a! (.ref k))).set 5 (a! (.int (md s n:Nat)))).set 6 (a! (.int b))))[6]?=a! (a! (.int b)):=Aw (by rw[Bk,Bk,L];show 6<8;decide);have hT2:H2 T'=_:=x2.fh _ _ (t.ff _ _ (e.ext.ff _ _ hT.2));refine⟨[.ref k,.int b],⟨rfl,λi j v h1 h2=>?_⟩,_,g4,k,G,rfl,.inl (eQ.of hc2),hT2,λf c oc pm Ž H3 hn hs h1 h2 h3 Tt cf ct hcn Vq=>?_⟩
 .match i,h1,h2 with
  | 0,h1,h2=>cases h1;cases h2;exact g4
  | 1,h1,h2=>cases h1;cases h2;exact g6
 have Ę:=hs _ _ hc2;have nC:∀{z u},H3 z=a! u->z∉cl.map (·.2):=λ{z u} q y=>by rw[hcn z y]at q;cases q
 have naC:=nC Ę;have hlc:cl.length=2:=by rw[<- Au (f:=(·.1)),hm];rfl
 generalize hC:cl.map (·.2)=m at *;have J:a6 H3 (lC m (oA m Tt H3)):=λz u q=>by rw[cT (nC q),cE (nC q)];exact q
 have sF:a6 F2 (lC m (oA m Tt H3)):=λz u q=>J _ _ (hs _ _ (x2.fh _ _ q))
 have itm:∀(j:Nat) (r:Rn),rs[j]?=a! r->∃ad y,G[j]?=a! (.ref ad)/\lA K (lC m (oA m Tt H3)) ad (.int r.b::y):=λj r hj=>by
  obtain⟨v,g1,g2⟩:=O.get (i:=j) (d:=uK r) (by rw[AK,hj];rfl);obtain⟨ad,us,rfl,q1,q2⟩:=g2;obtain⟨_,y,rfl,rfl,_⟩:=q2;exact⟨ad,y,g1,sF.mL q1⟩
 refine⟨rfl,0,G.length,f,c,oc,cl,pm,Ž,[.ref k,.int b],λp g H'=>H'=oA m Tt H3/\0<=p/\p<=g/\g<=G.length/\(∀(j:Nat) (r:Rn),(j:Int)<p->rs[j]?=a! r->r.b<=b)/\(∀r,rs[g.toNat]?=a! r->b<r.b),rfl,h3,hm,by rw[hC];exact Vq,by decide,hlc,?_,?_,?_⟩
 .exact ⟨rfl,Bh _,by lia,Bh _,λj r h=>by lia,λr h=>by have:=(Ab.mp h).1;lia⟩
 .rintro p g H' hpg ⟨rfl,p0,p1,p2,p3,p4⟩;rw[hC];refine⟨by rw[cE (nC h1)];exact h1,by rw[cE (nC h2)];exact h2,λi v hv=>?_,λRr hRr=>?_⟩
  .obtain ⟨y,a',oo,u,e1,e2,e3⟩:=cf i v hv;have hin:a'∈m:=by rw[<- hC];exact Be.mpr ⟨_,Ai e1,rfl⟩
   exact⟨y,a',oo,u,e1,by rw[iH hin];exact e2,e3⟩
  .have m1:p<=(p+g) / 2:=by lia
   have m2:(p+g) / 2<g:=by lia
   generalize (p+g) / 2=q at m1 m2 hRr;obtain⟨q,rfl⟩:∃z:Nat,q=z:=⟨q.toNat,by lia⟩
   obtain⟨r,M⟩:∃r,rs[q]?=a! r:=⟨_,Ad (by lia)⟩
   obtain⟨ad,y,g1,g2⟩:=itm q r M;refine⟨rfl,k,G,b,q,rfl,J _ _ Ę,λz=>by lia,λ_=>⟨q,ad,r.b,y,rfl,g1,g2,hRr _ _ ?_⟩⟩;rw[WT];by_cases U:b<r.b
   .rw [decide_eq_true U];refine⟨rfl,p0,by simpa using m1,by simp;lia,by simpa using p3,λr' h'=>?_⟩;rw[c! rfl,AX,M]at h';cases h';exact U
   .rw [decide_eq_false U];refine⟨rfl,by simp;lia,by simp;lia,by simpa using p2,λj r' hj h'=>?_,by simpa using p4⟩;have W3:j<=q:=by simp at hj;lia
    have hle:r'.b<=r.b:=by
     rcases Ep j q with z |z
     .obtain ⟨h5,e5⟩:=Ab.mp h';obtain⟨h6,e6⟩:=Ab.mp M;have:=GQ.mp hso j q h5 h6 z;rw[e5,e6]at this;exact this
     .rw [show j=q by lia,M]at h';cases h';exact Bh _
    lia
 .rintro p g H' hpg ⟨rfl,p0,p1,p2,p3,p4⟩;obtain⟨g,rfl⟩:∃z:Nat,g=z:=⟨g.toNat,by lia⟩
  have hg:g=rP b rs:=Yd (by lia) (λj r hj h=>p3 j r (by lia) h) (λr h=>p4 r (by simpa using h));subst hg;have x3:cy F2 H2 F2 (lC m (oA m Tt H3)):=⟨a6.refl _,λz u q=>J _ _ (hs _ _ q),sF,λ_ _ z _ _=>z⟩
  have E4:=(E3.on x3).put (r:=.fz (.int (rP b rs:Nat))) (v:=.int (rP b rs:Nat)) (cy.refl sF) 7 (.fz rfl);have k4:∀u,((((Y.set 4 (a! (.ref k))).set 5 (a! (.int (md s n:Nat)))).set 6 (a! (.int b))).set 7 u)[4]?=a! (a! (.ref k)):=λu=>by rw[AH (by decide)];exact g4
  have k7:∀u,((((Y.set 4 (a! (.ref k))).set 5 (a! (.int (md s n:Nat)))).set 6 (a! (.int b))).set 7 u)[7]?=a! u:=λu=>Aw (by rw[Bk,Bk,Bk,L];show 7<8;decide)
  have hb4:=J _ _ Ę;have hrl:=Yc b rs;refine⟨_,k4 _,.inl ⟨rfl,G,eQ.of hb4⟩,_,k7 _,?_⟩;refine cG (aA aF (aA aF (aA aF (aA aF aK)))) F0 H0 F2 _ _ _ (λd=>d=uK ⟨b,i,s,n⟩) _ E4 ⟨by show 4<=1000000;decide,rfl⟩ λd v F5 H5 hd x5 r5=>?_
  subst hd;refine⟨k,G,(rP b rs:Nat),v,rfl,rfl,x5.hh _ _ hb4,by lia,by lia,qD (by lia),?_⟩;rw[AX];have hr5:=O.mono x5.ff;obtain⟨A5,e5⟩:=put F5 H5 ((l' ⟨b,i,s,n⟩ rs).map uK) (G.take (rP b rs)++v::G.drop (rP b rs)) (t.trans (x3.trans x5)) (by
   rw[NQ,Bc,Jz,BU,JA];exact bF.append (hr5.take _) ⟨v,_,rfl,r5,x6 _ hr5⟩)
  have e6:cv K F0 H0 F5 _ (Y.set 4 (a! (.ref k))) _:=⟨A5,YE e5 rfl _⟩
  have rf:=cy.refl e6.ext.fh;exact hR F0 H0 hT F5 _ _ _ De En (((e6.put (r:=.fz (.int (md s n:Nat))) rf 5 (.fz rfl)).put (r:=.fz (.int b)) rf 6 (.fz rfl)).put (r:=.fz (.int (rP b rs:Nat))) rf 7 (.fz rfl)) l w
theorem tW {f c T T':Ae}{fd:A8}(Df:fv K "Search" "put" "Search.put" dQ f fd)(hc:fd.code = .ref c)(M:PySem.W.CodeHd base c T')(U:base.BuiltinsAt mg T')(B:b_ mg)(KV:b7 K)(C:dY K "Search" bW)(G:∃t,mg "BREADTH"=a! (.int 0 t))(p:jX K mg "breadth")(l:cc P w K mg base "middle_of" 1 ["start","end"] (cg K 2 gi))(r:c6 P w K mg base "Search" "breadth_at" 9 ["self","at","many"] (cg K 3 dg))(L:cc P w K mg base "least" 2 ["low","high","good"] (RL Ql (sC fZ) (uX fZ) (kS fZ) ["runs","breadth"] (Nr K))):
  c6 P w K mg base "Search" "put" 11 ["self","at","start","end"] (pI K 4 "Search" bW (um T T') ip):=by
 refine Ϛ.of (sc:=kS fZ) Df hc eT (by f_tup) rfl (λA outer s H E u cl n=>⟨_,_,_,_,(aG (cj (bI eX (pv 2) (pv 3) (bG _)) (aI We) bM)
   (aG (a5 (i:=4) eT.nd rfl (FC rfl) (cp (pv 0) rfl))
   (aG (a5 (i:=5) eT.nd rfl (An rfl) (aY l (u.mono (by decide)) (by rfl) (ae (pv 2) (ae (pv 3) aD))))
   (aG (a5 (i:=6) eT.nd rfl (FC rfl) (eJ r (u.mono (by decide)) (pv 0) (ae (pv 1) (ae (pv 5) aD))))
   (aG (a5 (i:=7) eT.nd rfl (An rfl) (NV L (u.mono (by decide)) (by rfl) (Zi _ _ _ n) (ae aJ (ae (aV a_ (by rfl) B.len Bf (ae (pv 4) aD)) (ae (show PE _ fZ (Zd T' ⟨344,36,344,90⟩ Ql (sC fZ) (uX fZ) (kS fZ) cl) from ZV rfl M U (λok=>yU n ok ë)) aD)))))
   (aG (bY (gM Bj PySem.F.slot_list_insert PySem.F.type_list_insert Qg (pv 4) (ae (pv 7) (ae (cb (ae (pv 6) (ae (pv 1) (ae (pv 2) (ae (pv 3) aD))))) aD))))
   (aI (iR (pv 0) (aW dr (pv 5) (pv 2)) Ut)))))))),
  (bL (aN fu aC aC)),
  (YZ C (Å n)
   (bU.y (mT (j:=3) (g:=λx y=>x+y) C (by rfl) (λx y H Q q=>⟨_,_,rfl,rfl,q⟩) (aM (aN b9 aC aC))))),?_⟩)
 clear n;rintro a ts ds Pr ⟨xs,R,f,rs,i,s,e,x,rfl,rfl,v,o,z,J,hl,O,k⟩;fin2;have ea:p7 xs i=x.B:=by funext m;show (xs.getD i VG).B m=_;rw[Ak,v];rfl
 unfold iE at k;by_cases h:s=e
 .subst h;rw[c! rfl]at k;rw[c! rfl];rw[Ō,FN,Int.ofNat_zero,Int.add_zero]at k;exact k
 .rw [c? h,ea]at k;rw[c? (by lia)];refine⟨_,xs,R,f,rs,i,s,e,x,rfl,v,o,by lia,J,hl,O,?_⟩;fin2;rw[Int.ofNat_sub (se (show s<e by lia)).1]at k;exact k
theorem mi {f T T':Ae}{fd:A8}(Df:QM K "__init__" "Search.__init__" d9 f fd)(Mf:zj K mg "Search" f)(B:b_ mg)(KV:b7 K)(C:dY K "Search" bW)(g:∃t,mg "BITS"=a! (.int 1 t))(e:c6 P w K mg base "Search" "put" 11 ["self","at","start","end"] (pI K 4 "Search" bW (um T T') ip)):
  ur P w K mg base "Search" 12 ["self","streams","total"] (pI K 3 "Search" bW (um T T') gz):=by
 refine ϝ.of Df Mf gC (by f_tup) rfl (λc A o s H E p=>⟨_,_,(aG (gK (pv 0) (pv 1) rfl)
   (aG (gK (pv 0) (aV (QD rfl) (by rfl) B.min boot_min (ae (pv 2) (ae (aV lu (by rfl) B.sum IQ (ae (d_ rfl (c8 (pv 1)) (show bX (aB d9) _ from⟨rfl,by decide +kernel,by decide +kernel,by decide +kernel⟩) (N:=["stream"]) (ix:=[a?]) (show cW _ _ _ _ from trivial) (λ_ _ _=>(bB (i:=0) (show Bp (["stream"]:List Al) by decide +kernel) rfl (An rfl))) (λ_ _ _=>(aV dk (by rfl) B.len Bf (ae (aS aQ (pv 0) (aO (by rfl) g) (λ_ _=>rfl)) aD)))) aD)) aD))) rfl)
   (aG (gK (pv 0) (cV aD) rfl)
   (aG (gK (pv 0) aJ rfl)
   (aI (dz AM rfl (eI (by rfl) (by exact B.range) (ae (aV a_ (by rfl) B.len Bf (ae (pv 1) aD)) aD)) (bB (i:=3) gC.nd rfl (An rfl)) (aI (bY (eJ e (p.mono (by decide)) (pv 0) (ae (pv 3) (ae aJ (ae (aW cH (aV dk (by rfl) B.len Bf (ae (aS aQ (aS bR (pv 1) (pv 3) (λ_ _=>rfl)) (aO (by rfl) g) (λ_ _=>rfl)) aD)) aJ) aD)))))))))))),
  (cz (bU.y (gp (j:=0) C (by rfl) (a8 aF)))
   (cz (bU.y (gp (j:=1) C (by rfl) (a8 (bP Xt (aH aC (aH (aM (bP xj (aH (aM (bV (dU (dv aF) bD (a8 (bP ij (aH (bA (dm.b aT) aC (aM aE)) aP)))))) aP))) aP))))))
   (cz (bU.y (gp (j:=2) C (by rfl) (dS cU)))
   (cz (bU.y (gp (j:=3) C (by rfl) (a8 aE)))
   (zu eP (gq (aH (aM (bP cN (aH aC aP))) aP)) bD (pX eP C (by decide +kernel) (aA aF (aA aE (aA (aN b9 (aM (bP ij (aH (bA (dm.b aT) (bA (dm.b cw) aC aC) (aM aE)) aP))) (aM aE)) aK))))))))),?_⟩)
 rintro a ts ds Pr ⟨xs,O,rfl,rfl,u,h1,k⟩;gn_on;gp_on;gn_on;refine f9.map xs dG.d (λx=>.fz (.int x.bs.length)) (by have:=u.2;lia) (λx hm Q q=>?_) ?_
 .simp only[dG.d];fin2;rw[cX];exact⟨(u.1 x hm).l,q⟩
 dsimp only[OV.val];refine⟨xs.map λx=>(x.bs.length:Int),by rw[OV.c7,AW,AW];rfl,?_⟩;have J:=sy xs xs.length (Ag _);rw[BD]at J;rw[J,show min (O:Int) (kR xs xs.length:Nat)=(min O (kR xs xs.length):Nat) by lia];generalize hM:min O (kR xs xs.length)=M at k;gp_on;gn_on;gp_on;gn_on;gp_on;fin2;have U:=u.2;refine⟨⟨by lia,by lia⟩,?_⟩;rw[AX];refine⟨λi δ=>∃(rs:List Rn) (G:Option Sl),δ=[a! (.own (.ob (a! a) "Search" bW (p8 xs M rs (rF rs:Nat)))),vD (.lst (xs.map dG.d)),vI O,G]/\rs.length<=i/\XC (p7 xs) (uB xs) rs/\(∀r∈rs,r.i<xs.length)/\(∀v,rG (p7 xs) v rs=yF xs v i)/\rN rs=kR xs i+i,⟨[],a?,rfl,Ag _,⟨λ_ h=>(by cases h),E6⟩,λ_ h=>(by cases h),λ_=>rfl,rfl⟩,?_,?_⟩
 .rintro i d δ hd ⟨rs,G,rfl,hl,ok,n,hg,hn⟩;obtain⟨hi,rfl⟩:=eU hd;have m:=Ad hi;have o:=u.1 _ (BJ hi);rw[show (0:Int)+(i:Int)*1=(i:Int) by lia];fin2;refine⟨_,tz m,?_⟩;simp only[dG.d];fin2;rw[cX];have L:uB xs i=(xs[i]).bs.length:=by rw[uB,eM m]
  refine⟨o.l,xs,M,(rF rs:Nat),rs,i,0,(xs[i]).bs.length+1,xs[i],rfl,rfl,m,o,By _,Ag _,by lia,ok.so,?_⟩;refine⟨iE (p7 xs) i 0 ((xs[i]).bs.length+1) rs,vI i,?_,?_,wb ok (By _) (by rw[L];exact Ag _),λr p=>?_,λv=>?_,?_⟩
  .rw [z6 (By _),show ((rF rs:Nat):Int)+((md 0 ((xs[i]).bs.length+1)-0:Nat):Int)=((md 0 ((xs[i]).bs.length+1)-0+rF rs:Nat):Int) by lia]
  .unfold iE;rw[c? (by lia),ry];lia
  .unfold iE at p;rw[c? (by lia)]at p;rcases kF p with z |z
   .rw [z];exact hi
   .exact n r z
  .rw [z4 (By _),hg v,yF,L,Nat.sub_zero];lia
  .rw [rx (By _),hn,kR,L];lia
 .rintro δ ⟨rs,G,rfl,hl,ok,n,hg,hn⟩;rw[eG]at hl hg hn;exact⟨_,rfl,k rs ⟨⟨ok,by lia,λv=>by rw[hg v]⟩,n,by lia⟩⟩
theorem ov {f T T':Ae}{fd:A8}(Df:fv K "Search" "narrow" "Search.narrow" fW f fd)(B:b_ mg)(KV:b7 K)(C:dY K "Search" bW)(h:∃t,mg "START_sharing"=a! (.int 2 t))(n:∃t,mg "END_sharing"=a! (.int 3 t))(M:∃t,mg "STREAM"=a! (.int 1 t))(L:cc P w K mg base "middle_of" 1 ["start","end"] (cg K 2 gi))(p:c6 P w K mg base "Search" "put" 11 ["self","at","start","end"] (pI K 4 "Search" bW (um T T') ip)):
  c6 P w K mg base "Search" "narrow" 12 ["self"] (pI K 1 "Search" bW (um T T') iN):=by
 refine Ϝ.of Df eC (by f_tup) rfl (λc A o s H E U=>⟨_,_,(aG (a5 (i:=1) eC.nd rfl (An rfl) (ec iT (cp (pv 0) rfl) (aW dr (aW cH (cp (pv 0) rfl) (aV a_ (by rfl) B.len Bf (ae (cp (pv 0) rfl) aD))) aJ) (bG _)))
   (aG (a5 (i:=2) eC.nd rfl (An rfl) (gM Bj Gc Gb T6 (cp (pv 0) rfl) (ae (rH (cD (pv 1)) aJ (aW dr (aV a_ (by rfl) B.len Bf (ae (cp (pv 0) rfl) aD)) aJ)) aD)))
   (aG (a5 (i:=3) eC.nd rfl (An rfl) (aY L (U.mono (by decide)) (by rfl) (ae (aS aQ (pv 2) (aO (by rfl) h) (λ_ _=>rfl)) (ae (aS aQ (pv 2) (aO (by rfl) n) (λ_ _=>rfl)) aD))))
   (aG (iR (pv 0) (aW dr (pv 3) (aS aQ (pv 2) (aO (by rfl) h) (λ_ _=>rfl))) Mp)
   (aI (cj (cD (pv 1)) (aI (bY (eJ p (U.mono (by decide)) (pv 0) (ae (aS aQ (pv 2) (aO (by rfl) M) (λ_ _=>rfl)) (ae (aS aQ (pv 2) (aO (by rfl) h) (λ_ _=>rfl)) (ae (pv 3) aD)))))) (aG (iR (pv 0) (aW dr (aW cH (pv 3) aJ) (aS aQ (pv 2) (aO (by rfl) h) (λ_ _=>rfl))) Mp)
   (aI (bY (eJ p (U.mono (by decide)) (pv 0) (ae (aS aQ (pv 2) (aO (by rfl) M) (λ_ _=>rfl)) (ae (aW cH (pv 3) aJ) (ae (aS aQ (pv 2) (aO (by rfl) n) (λ_ _=>rfl)) aD))))))))))))),
  (cz (bU.y (bx (a8 (aN dI (c_ (j:=1) C (by rfl) aC) (aM (aN b9 (aM (aN b9 (c_ (j:=3) C (by rfl) aC) (aM (bP cN (aH (c_ (j:=2) C (by rfl) aC) aP))))) (aM aE)))))))
   (cz (bU.y (Sb (j:=2) C (by rfl) (aM (Sv (fC aF) aE (aN b9 (aM (bP cN (aH (c_ (j:=2) C (by rfl) aC) aP))) (aM aE))))))
   (cz (bU.y (bx (a8 (bV (a4 (aA (bE aT aF aE) (aA (bE aT aF aE) aK)))))))
   (cz (bU.y (mT (j:=3) (g:=λx y=>x-y) C (by rfl) (λx y H Q q=>⟨_,_,rfl,rfl,q⟩) (aM (aN b9 aC (bA (dm.b aT) aC (aM aE))))))
   (Ġ (fC aF) (pX eP C (by decide +kernel) (aA (bE aT aF aE) (aA (bE aT aF aE) (aA aF aK)))) (cz (bU.y (mT (j:=1) (g:=λx y=>x-y) C (by rfl) (λx y H Q q=>⟨_,_,rfl,rfl,q⟩) (aM (aN b9 (aM (aN b9 aC (aM aE))) (bA (dm.b aT) aC (aM aE))))))
   (pX eP C (by decide +kernel) (aA (bE aT aF aE) (aA (aN b9 aC (aM aE)) (aA (bE aT aF aE) aK)))))))))),?_⟩)
 rintro a ts ds Pr ⟨xs,T,rs,R,rfl,rfl,O,S,h2,k⟩;gn_on;refine⟨_,rfl,_,rfl,.lst (rs.map uK),congrArg a! (v_ rs),?_⟩;dsimp only[OV.val];rw[Au];gp_on;gn_on;refine⟨rs.map uK,rfl,by rw[Au];have:=S.MC;lia,?_⟩;have hF:=MZ O;by_cases hb:(R:Int)<(rF rs:Nat)+(rs.length:Int)-1
 .rw [c! hb,decide_eq_true hb]
  cases rs with
  |nil=>simp at h2
  |cons r rs=>
   rw[AQ]at hb;have J:=PU hF S.inv (by lia);have U:=S.inv.ok.ok r Ay;have hm:=se U.1;have m:=S.at_ r Ay;obtain⟨s1,s2⟩:=Eg.mp S.inv.ok.so;have MC:=S.MC;rw[AQ]at MC;have v:=Ad m;have eL:uB xs r.i=(xs[r.i]).bs.length:=by rw[uB,eM v]
   refine⟨0,uK r,rfl,rfl,?_⟩;rw[show (p8 xs R (r::rs) (rF (r::rs):Nat)).set 2 (.nl (Bo .fz ((Bo uK (r::rs)).eraseIdx 0)))=p8 xs R rs (rF (r::rs):Nat) from rfl];gp_on;simp only[uK];gn_on;refine⟨r.s,r.e,rfl,by have:=(O.1 _ (BJ m)).l;lia,by have:=(O.1 _ (BJ m)).l;lia,?_⟩;dsimp only[OV.val];gp_on;gn_on;rw[show (p8 xs R rs (rF (r::rs):Nat))[3]?=a! (.fz (.int (rF (r::rs):Nat))) from rfl];dsimp only;rw[show ∀z,(p8 xs R rs (rF (r::rs):Nat)).set 3 (.fz (.int z))=p8 xs R rs z from λ_=>rfl,show ((rF (r::rs):Nat):Int)-((md r.s r.e:Nat)-(r.s:Int))=(rF rs:Nat) by show ((md r.s r.e-r.s+rF rs:Nat):Int)-_=_;lia];gp_on;fin2;refine⟨xs,R,(rF rs:Nat),rs,r.i,r.s,md r.s r.e,xs[r.i],rfl,rfl,v,O.1 _ (BJ m),by lia,by lia,by lia,s2,?_⟩;rw[show ((rF rs:Nat):Int)+((md r.s (md r.s r.e)-r.s:Nat):Int)=(rF (iE (p7 xs) r.i r.s (md r.s r.e) rs):Nat) by rw[z6 (by lia)];lia];refine k _ R ⟨J,λx G=>?_,?_⟩ ?_
   .rcases x8 G with z |z
    .rw [z];exact m
    .exact S.at_ x (Ax _ z)
   .have:=x9 (a:=p7 xs) (i:=r.i) (s:=r.s) (e:=md r.s r.e) (rs:=rs);lia
   .rw [rx (by lia)];show _<r.e-r.s+rN rs
    lia
 .rw [c? hb,decide_eq_false hb];refine⟨.lst (rs.map uK),congrArg a! (v_ rs),?_⟩;dsimp only;obtain⟨rs,r,rfl⟩:∃us u,rs=us++[u]:=⟨rs.dropLast,rs.getLast (λz=>by rw[z]at h2;simp at h2),(BZ _).symm⟩
  rw[AE,BX]at hb h2;obtain⟨hRs,J⟩:=SS hF S.inv (λz=>by rw[z]at h2;simp at h2) (by lia);have U:=S.inv.ok.ok r (by simp);have hm:=se U.1;have m:=S.at_ r (by simp);obtain⟨s1,_,s2⟩:=Fi.mp S.inv.ok.so;have MC:=S.MC;rw[AE,BX]at MC;have v:=Ad m;have eL:uB xs r.i=(xs[r.i]).bs.length:=by rw[uB,eM v]
  have eF:rF (rs++[r])=rF rs+(md r.s r.e-r.s):=by rw[rF,iQ];rfl
  have eN:rN (rs++[r])=rN rs+(r.e-r.s):=by rw[rN,iQ];rfl
  refine⟨rs.length,uK r,by rw[Au,AE,BX];exact congrArg D.int (by lia),by rw[Bc,Bi (by rw[Au];exact Ag _),Au,FN];rfl,?_⟩;rw[show (p8 xs R (rs++[r]) (rF (rs++[r]):Nat)).set 2 (.nl (Bo .fz ((Bo uK (rs++[r])).eraseIdx rs.length)))=p8 xs R rs (rF (rs++[r]):Nat) by rw[Bc,List.eraseIdx_append_of_length_le (by rw[Au];exact Ag _),Au,FN,List.map_singleton,List.eraseIdx_cons_zero,A_];rfl];gp_on;simp only[uK];gn_on;refine⟨r.s,r.e,rfl,by have:=(O.1 _ (BJ m)).l;lia,by have:=(O.1 _ (BJ m)).l;lia,?_⟩;dsimp only[OV.val];gp_on;gn_on;rw[show (p8 xs R rs (rF (rs++[r]):Nat))[3]?=a! (.fz (.int (rF (rs++[r]):Nat))) from rfl];dsimp only;rw[show ∀z,(p8 xs R rs (rF (rs++[r]):Nat)).set 3 (.fz (.int z))=p8 xs R rs z from λ_=>rfl,show ((rF (rs++[r]):Nat):Int)-((md r.s r.e:Nat)-(r.s:Int))=(rF rs:Nat) by rw[eF];lia];gp_on;fin2;rw[show (p8 xs R rs (rF rs:Nat))[1]?=a! (.fz (.int R)) from rfl];dsimp only;rw[show ∀z,(p8 xs R rs (rF rs:Nat)).set 1 (.fz (.int z))=p8 xs z rs (rF rs:Nat) from λ_=>rfl,show (R:Int)-((md r.s r.e:Nat)+1-(r.s:Int))=((R-(md r.s r.e+1-r.s):Nat):Int) by lia];refine⟨xs,_,(rF rs:Nat),rs,r.i,md r.s r.e+1,r.e,xs[r.i],rfl,rfl,v,O.1 _ (BJ m),by lia,by lia,by lia,s1,?_⟩;rw[show ((rF rs:Nat):Int)+((md (md r.s r.e+1) r.e-(md r.s r.e+1):Nat):Int)=(rF (iE (p7 xs) r.i (md r.s r.e+1) r.e rs):Nat) by rw[z6 (by lia)];lia];refine k _ _ ⟨J,λx G=>?_,?_⟩ ?_
  .rcases x8 G with z |z
   .rw [z];exact m
   .exact S.at_ x (by simp[z])
  .have:=x9 (a:=p7 xs) (i:=r.i) (s:=md r.s r.e+1) (e:=r.e) (rs:=rs);lia
  .rw [rx (by lia),eN];lia
theorem pO {f T T':Ae}{fd:A8}(Df:fv K "Search" "found" "Search.found" gH f fd)(B:b_ mg)(KV:b7 K)(C:dY K "Search" bW)(M:∃t,mg "STREAM"=a! (.int 1 t))(g:∃t,mg "START_sharing"=a! (.int 2 t))(n:c6 P w K mg base "Search" "narrow" 12 ["self"] (pI K 1 "Search" bW (um T T') iN))(e:c6 P w K mg base "Search" "breadth_at" 9 ["self","at","many"] (cg K 3 dg)):
  c6 P w K mg base "Search" "found" 13 ["self"] (VH K 1 "Search" bW (um T T') jH):=by
 refine ϛ.of Df jJ (by f_tup) rfl (λc A o s H E G=>⟨_,_,(aG (kG AM (bI m4 (aV a_ (by rfl) B.len Bf (ae (cp (pv 0) rfl) aD)) aJ (bG _)) (aI (bY (fq n (G.mono (by decide)) (pv 0)))))
   (aG (a5 (i:=1) jJ.nd rfl (An rfl) (aS bR (cp (pv 0) rfl) aJ (λ_ _=>rfl)))
   (aI (aX (eJ e (G.mono (by decide)) (pv 0) (ae (aS aQ (pv 1) (aO (by rfl) M) (λ_ _=>rfl)) (ae (aW cH (aS aQ (pv 1) (aO (by rfl) g) (λ_ _=>rfl)) (cp (pv 0) rfl)) aD))))))),
  (cz (xu (bL (aN dI (aM (bP cN (aH (c_ (j:=2) C (by rfl) aC) aP))) (aM aE))) (pX eP C (by decide +kernel) aK))
   (cz (bU.y (bx (a8 (NJ (bA (dm.b cw) (c_ (j:=2) C (by rfl) aC) (aM aE))))))
   (bU.y (bt (gI C (by decide +kernel) aC (aH (bA (dm.b aT) aC (aM aE)) (aH (aM (aN b9 (bA (dm.b aT) aC (aM aE)) (c_ (j:=1) C (by rfl) aC))) aP))))))),?_⟩)
 rintro a ts ds Pr ⟨xs,T,rs,R,rfl,rfl,u,S,k⟩;gn_on;refine⟨λm δ=>∃(rs:List Rn) (R:Nat),δ=[a! (.own (.ob (a! a) "Search" bW (p8 xs R rs (rF rs:Nat)))),a?]/\Vb xs T rs R/\rN rs=m,⟨_,rs,R,rfl,S,rfl⟩,?_⟩;clear S;rintro m δ ⟨rs,R,rfl,S,hm⟩;fin2;refine⟨.lst (rs.map uK),congrArg a! (v_ rs),?_⟩;dsimp only;rw[Au];split
 .rename_i h;exact⟨xs,T,rs,R,rfl,rfl,u,S,by lia,λp R' U hl=>⟨rN p,by lia,p,R',rfl,U,rfl⟩⟩
 .rename_i h;have Q:=MZ u;have v:rs≠[]:=λz=>by have:=S.inv.MC;rw[z]at this;exact absurd this (EU _)
  cases rs with
  |nil=>exact absurd rfl v
  |cons r rs=>
   cases rs with
   |cons _ _=>rw[AQ,AQ]at h;lia
   |nil=>
    obtain⟨O,L,J⟩:=ZG Q S.inv;have q:=S.at_ r Ay;have l:=Ad q;rw[uB,eM l]at O;rw[p7,eM l]at L J;gp_on;gn_on;refine⟨.lst ([r].map uK),congrArg a! (v_ [r]),uK r,rfl,rfl,?_⟩;gp_on;simp only[uK];fin2;refine⟨.int R,rfl,xs,R,(rF [r]:Nat),[r],r.i,r.s+R,xs[r.i],by rw[OV.c7];rfl,l,u.1 _ (BJ q),O,rfl,k _ L J⟩
structure Vc (xs:List dG) (tot:Nat) (W:Int) (ks:List Nat):Prop where
 len:ks.length=xs.length
 at_:∀(i:Nat) (x:dG),xs[i]?=a! x->∃k,ks[i]?=a! k/\k<=x.bs.length/\k=gr x.B W 0 (x.bs.length+1)/\x.B k<=W/\(k=0∨W<x.B (k-1))
 pos:0<=W
 sum:yF xs W xs.length<=tot
 least:∀u,0<=u->yF xs u xs.length<=tot->W<=u
theorem W7 {f:Nat->Int}(F:∀m n,m<=n->n<=L->f n<=f m)(a:k<=L)(h1:f k<=v)(h2:k=0∨v<f (k-1)):gr f v 0 (L+1)=k:=by
 rw[show L+1=k+(L+1-k) by lia,mj,oF λj h=>?_,nr λj h=>?_]
 .rfl
 .have:=F k (0+k+j) (by lia) (by lia);lia
 .have:=F (0+j) (k-1) (by lia) (by lia);rcases h2 with z |z
  .lia
  .lia
theorem ό {x:dG}(o:x.Ok){m:Nat}(h:m<=x.bs.length):0<=x.B m:=by
 have:=o.å m x.bs.length h (Ag _);rw[o.zero]at this;exact this
theorem Oh {xs:List dG}(h:oN xs){v:Int}(c:v<0):∀k,k<=xs.length->yF xs v k=kR xs k+k
 | 0,_=>rfl
 |k + 1,e=>by
  have a:=Ad (show k<xs.length by lia);have o:=h.1 _ (Ai a);rw[yF,kR,Oh h c k (by lia),oF λj J=>?_]
  .lia
  .rw [uB,eM a]at J;rw[p7,eM a];have:=ό o (m:=0+j) (by lia);lia
theorem W6 {x:dG}(o:x.Ok){v:Int}(h:0<=v):gr x.B v 0 (x.bs.length+1)<=x.bs.length:=by
 have h1:=yG x.B v 0 x.bs.length;rw[gr,c? (by rw[F8,o.zero];lia)];lia
theorem Uy {xs:List dG}(h:oN xs){v:Int}(c:0<=v):∀k,k<=xs.length->yF xs v k<=kR xs k
 | 0,_=>Ag _
 |k+1,f=>by
  have a:=Ad (show k<xs.length by lia);have h1:=W6 (h.1 _ (Ai a)) c;have h2:=Uy h c k (by lia);have e:p7 xs k=(xs[k]).B:=by funext m;rw[p7,eM a]
  rw[yF,kR,e,uB,eM a];lia
theorem Oq {x:dG}(o:x.Ok){W:Int}(e:0<=W):∃k:Nat,UK x.B W x.bs.length = .int k/\k<=x.bs.length/\k=gr x.B W 0 (x.bs.length+1)/\x.B k<=W/\(k=0∨W<x.B (k-1)):=by
 rcases ç x.B W x.bs.length with⟨h,_⟩ | ⟨_,k,h1,h2,c,a⟩
 .rw [o.zero]at h;lia
 .exact ⟨k,h1,h2,(W7 o.å h2 c a).symm,c,a⟩
def MY (d:D):Prop:=∃(h w L n:Nat) (fs:List Lf) (bs:List Bool) (v:Wk),d = .tup [tG h w L n fs,.str (cK bs)]/\h<=100/\n<=5000/\bs.length<=1000000/\i8 (zw (h*w) n) bs v/\(v.pl<0->v.us<bs.length)
def XH (ds:List D):Prop:=(∀d∈ds,MY d∨∃x:dG,x.Ok/\d=x.d)/\∃d∈ds,MY d
def jG:XF:=λds P X=>∃d,ds=[d]/\((MY d/\X "NoBits")∨∃x:dG,d=x.d/\x.Ok/\P (.fz .cA))
def qI:Č:=λds P X=>(∃(xs:List dG) (t:Nat),ds=[.lst (xs.map dG.d),.int t]/\oN xs/\1<=xs.length/\∀(W:Int) (ks:List Nat),Vc xs t W ks->P (.int W) (.nl (ks.map λ(k:Nat)=>.fz (.int k))))∨∃(a:List D) (t:Nat),ds=[.lst a,.int t]/\XH a/\X "NoBits"
theorem pN (Df:bN K mg "ensure_whole" gF f fd)(B:b_ mg)(KV:b7 K){C:Ae}(T:B5 K Aj "NoBits"=a! (a! (.ref C)))(m:HW "NoBits" C [.type "ValueError",.type "Exception",.type "BaseException",.type "object"] "ValueError.__new__" mg base)(a:dY K "Walk" bH)(G:∃t,mg "HEAD"=a! (.int 0 t))(g:∃t,mg "BITS"=a! (.int 1 t))(O:cc P w K mg base "walk_of" 7 ["head","bits"] (cg K 2 l3))(c:c6 P w K mg base "Walk" "is_whole" 1 ["self"] (cg K 1 ey)):
  tF P w K mg base "ensure_whole" 8 ["stream"] (ϩ K 1 jG):=by
 refine Ϙ.of Df jI (by f_tup) rfl (λU A outer s H E r F J Q=>⟨_,_,(aG (a5 (i:=1) jI.nd rfl (An rfl) (aY O (r.mono (by decide)) (by rfl) (ae (aS aQ (pv 0) (aO (by rfl) G) (λ_ _=>rfl)) (ae (aS aQ (pv 0) (aO (by rfl) g) (λ_ _=>rfl)) aD))))
   (aI (cj (jM (dq (cD (fq c (r.mono (by decide)) (pv 1)))) (iF (bI iT (cp (pv 1) rfl) (aV dk (by rfl) B.len Bf (ae (aS aQ (pv 0) (aO (by rfl) g) (λ_ _=>rfl)) aD)) (bG _)))).pt (aI (S6 (by rfl) m PySem.F.excBase_ValueError r.hd fo)) bM))),
  (vV (bU.x (bx (a4 (aA (bE aT aF aE) (aA (bE aT aF aE) aK)))))
   (X6 (kC (dR (fC (bV (gI a (by decide +kernel) aC aP)))) (bL (aN dI (c_ (j:=1) a (by rfl) aC) (aM (bP ij (aH (bA (dm.b aT) aC (aM aE)) aP)))))) (Si T Q (aM fk)) (bU.x bO))),?_⟩)
 rintro ds Pr ⟨d,rfl,k⟩;have key:∃(h w L n:Nat) (fs:List Lf) (bs:List Bool) (v:Wk),d = .tup [tG h w L n fs,.str (cK bs)]/\h<=100/\n<=5000/\bs.length<=1000000/\i8 (zw (h*w) n) bs v/\(if v.pl<0 then if v.us<bs.length then J "NoBits" else Pr (.fz .cA) else J "NoBits"):=by
  rcases k with⟨⟨h,w,L,n,fs,bs,v,e,z,u,q,F,M⟩,k⟩ | ⟨x,e,o,k⟩
  .refine ⟨h,w,L,n,fs,bs,v,e,z,u,q,F,?_⟩;split
   .rw [c! (M (by assumption))];exact k
   .exact k
  .obtain ⟨v,F,p,hu⟩:=o.wh;exact⟨x.h,x.w,x.L,x.n,x.fs,x.bs,v,e,o.hw.2.1,o.n,o.l,F,by rw[c! p,c? (by lia)];exact k⟩
 obtain⟨h,w,L,n,fs,bs,v,rfl,z,u,q,F,k⟩:=key;gn_on;refine⟨h,w,L,n,fs,bs,v,rfl,z,u,F,?_⟩;gp_on;fin2;refine⟨v,by rw[OV.c7],rfl,?_⟩;dsimp only[OV.val];by_cases p:v.pl<0
 .rw [c! p]at k;rw[decide_eq_true p,c? (by decide)];refine⟨.int v.us,rfl,by rw[cX];exact q,?_⟩;dsimp only;rw[cX];exact k
 .rw [c? p]at k;rw[decide_eq_false p,c! (by decide)];exact k
theorem Ts {f T T':Ae}{fd:A8}(Df:bN K mg "share" p_ f fd)(B:b_ mg)(KV:b7 K)(g:dY K "Search" bW)(G:jX K mg "breadth")(r:tF P w K mg base "ensure_whole" 8 ["stream"] (ϩ K 1 jG))(O:c6 P w K mg base "Search" "found" 13 ["self"] (VH K 1 "Search" bW (um T T') jH))(e:ur P w K mg base "Search" 12 ["self","streams","total"] (pI K 3 "Search" bW (um T T') gz))(U:cc P w K mg base "enough" 11 ["head","bits","breadth"] (ē K 3 T ⟨307,4,308,49⟩ "enough.<locals>.fits" la)):
  tF P w K mg base "share" 14 ["streams","total"] (zH K 2 (um T T') qI):=by
 refine ϙ.of Df qT (by f_tup) rfl (λí A outer s H E J F Xc Q hE=>⟨_,_,_,_,_,_,_,_,(aG (dz Lq rfl (c8 (pv 0)) (bB (i:=2) qT.nd rfl (An rfl)) (aI (bY (Wp rfl r (J.mono (by decide)) (by rfl) (ae (pv 2) aD)))))
   (PSs.lE (aG (a5 (i:=3) qT.nd rfl (FC rfl) (fq O (J.mono (by decide)) (wg e (J.mono (by decide)) (by rfl) (ae (pv 0) (ae (pv 1) aD)))))
   (aI (aX (cb (ae (pv 3) (ae (d_ rfl (c8 (pv 0)) (show bX (aB p_) _ from⟨rfl,by decide +kernel,by decide +kernel,by decide +kernel⟩) (N:=["head","bits","breadth"]) (ix:=[a?,a?,a! 3]) (show cW _ _ _ _ from⟨⟨rfl,rfl,.inl rfl⟩,trivial⟩) (λ_ _ _=>(ma (n:=2) rfl (cS (bB (i:=0) (show Bp (["head","bits","breadth"]:List Al) by decide +kernel) rfl (An rfl)) (cS (bB (i:=1) (show Bp (["head","bits","breadth"]:List Al) by decide +kernel) rfl (An rfl)) jv)))) (λ_ _ _=>(aY U (J.mono (by decide)) (by rfl) (ae (pv 0) (ae (pv 1) (ae (pv 2) aD)))))) aD)))))))),
  (Rm (dv aF) bD (λF1 H1 x1=>(V1 (V2 (λc C F2 H2 a b y=>hE c C F2 H2 a b (x1.nR y)) (aA aF aK))))),
  ((zt (Y0 eP (by decide +kernel) (Vu eP g (aA aF (aA aF aK))) ⟨_,g.ex.choose_spec.1⟩)) F H Q),
  aF,((vp eP (dv aF) (l_ (cR bD (cR bD js))) (qu (λ_ h=>h.1) (aA aF (aA aF (aA aF aK))))) F H Q),?_⟩)
 rintro ds Pr h;rcases h with⟨xs,t,rfl,m,h1,k⟩ | ⟨ds',t,rfl,⟨hg,d0,W4,bd0⟩,k⟩
 .have ϭ:=m.2;gn_on;refine⟨λi δ=>∃p:Option Sl,δ=[vD (.lst (xs.map dG.d)),vI t,p,a?],⟨a?,rfl⟩,?_,?_⟩
  .rintro i d δ hd ⟨p,rfl⟩;obtain⟨x,q,rfl⟩:=m7 hd;fin2;exact⟨x.d,rfl,.inr ⟨x,rfl,m.1 x (Ai q),_,rfl⟩⟩
  rintro δ ⟨p,rfl⟩;gp_on;fin2;refine⟨xs,t,rfl,rfl,m,h1,λrs S=>⟨xs,_,rs,_,rfl,rfl,m,S,λW Q M=>?_⟩⟩;have hn:=Oh m (v:=W);have hW:0<=W:=by
   rcases Jb W 0 with z |z
   .have:=hn z xs.length (Ag _);lia
   .exact z
  clear hn;have sh:Vc xs t W (xs.map λx=>gr x.B W 0 (x.bs.length+1)):=by
   refine⟨Au _,λi x q=>?_,hW,by lia,λu hu ht=>?_⟩
   .obtain ⟨k,e1,e2,e3,e4⟩:=Oq (m.1 x (Ai q)) hW;exact⟨k,by rw[AK,q,e3];rfl,e2,e3,e4⟩
   .have h3:=Uy m hu xs.length (Ag _);rcases Jb u W with z |z
    .exact absurd (by lia) (M u z)
    .exact z
  clear Q M S;have ek:xs.map (λx=>OV.fz (UK x.B W x.bs.length))=(xs.map λx=>gr x.B W 0 (x.bs.length+1)).map λ(k:Nat)=>.fz (.int k):=by
   rw[AW];refine B3 λx hm=>?_
   obtain⟨k,e1,_,e3,_⟩:=Oq (m.1 x hm) hW;rw[e1,e3];rfl
  dsimp only;refine⟨λi δ ts=>∃o0 o1:Option Sl,δ=[o0,o1,vI W]/\ts=(xs.take i).map λx=>.fz (UK x.B W x.bs.length),⟨a?,a?,rfl,rfl⟩,?_,?_⟩
  .rintro i d δ ts hd ⟨o0,o1,rfl,rfl⟩;obtain⟨x,q,rfl⟩:=m7 hd;have hi:=(Ab.mp q).1;have o:=m.1 x (Ai q);refine⟨by rw[Au,BE];lia,?_⟩;simp only[dG.d];fin2;refine⟨x.h,x.w,x.L,x.n,x.fs,x.bs,W,x.B,rfl,o.ok,o.hw,o.n,o.l,o.b,_,_,rfl,?_⟩;rw[AO hi,Bc,(Ab.mp q).2];rfl
  .rintro δ ts ⟨o0,o1,rfl,rfl⟩;rw[Au,BD,ek];exact k W _ sh
 .obtain ⟨j,hj⟩:=Ch W4;gn_on;refine⟨λi δ=>∃p:Option Sl,δ=[vD (.lst ds'),vI t,p,a?]/\i<=j,⟨a?,rfl,By _⟩,?_,?_⟩
  .rintro i d δ hd ⟨p,rfl,hi⟩;fin2;refine⟨d,rfl,?_⟩;rcases hg d (Ai hd) with z | ⟨x,o,rfl⟩
   .exact .inl ⟨z,k⟩
   .by_cases q:i=j
    .subst q;rw[hj]at hd;cases hd;exact .inl ⟨bd0,k⟩
    .exact .inr ⟨x,rfl,o,_,rfl,by lia⟩
  .rintro δ ⟨p,rfl,hi⟩;have:=(Ab.mp hj).1;lia
theorem Ue (h1:h=0∨h=1)(h2 : -8<=l/\l<=8)(f : -8<=r/\r<=8)(e : -64<=a/\a<=64)(c:0<=s/\s<=8):(⟨h,l,r,a,s⟩:Lf).Ok:=⟨h1,h2,f,e,c⟩
theorem Ŋ (i:Int)(m:0<=i)(j:i<4):∃(k:Al) (fs:List Lf),jB [D.str "still",D.str "pair",D.str "line",D.str "long"] i=a! (.str k)/\Î.lookup k=a! (eK fs)/\fs.length<=3/\∀f∈fs,f.Ok:=by
 have g:=Ue (h:=1) (l:=-1) (r:=0) (a:=0) (s:=0) (.inr rfl) (by decide) (by decide) (by decide) (by decide);have e:=Ue (h:=0) (l:=0) (r:=1) (a:=0) (s:=1) (.inl rfl) (by decide) (by decide) (by decide) (by decide);have O:=Ue (h:=1) (l:=-1) (r:=-1) (a:=1) (s:=1) (.inr rfl) (by decide) (by decide) (by decide) (by decide);have o:=Ue (h:=0) (l:=1) (r:=1) (a:=2) (s:=2) (.inl rfl) (by decide) (by decide) (by decide) (by decide);have c:=Ue (h:=1) (l:=-1) (r:=-1) (a:=4) (s:=3) (.inr rfl) (by decide) (by decide) (by decide) (by decide);rcases (show i=0∨i=1∨i=2∨i=3 by lia) with rfl |rfl |rfl |rfl
 .exact ⟨"still",[],rfl,rfl,by decide,(λf hf=>by cases hf)⟩
 .refine ⟨"pair",[⟨1,-1,0,0,0⟩,⟨0,0,1,0,1⟩],rfl,rfl,by decide,λf hf=>?_⟩;simp only[AJ,Cn,or_false]at hf;rcases hf with rfl |rfl
  .exact g
  .exact e
 .refine ⟨"line",[⟨1,-1,-1,1,1⟩,⟨0,1,1,2,2⟩],rfl,rfl,by decide,λf hf=>?_⟩;simp only[AJ,Cn,or_false]at hf;rcases hf with rfl |rfl
  .exact O
  .exact o
 .refine ⟨"long",[⟨1,-1,-1,1,1⟩,⟨0,1,1,2,2⟩,⟨1,-1,-1,4,3⟩],rfl,rfl,by decide,λf hf=>?_⟩;simp only[AJ,Cn,or_false]at hf;rcases hf with rfl |rfl |rfl
  .exact O
  .exact o
  .exact c
theorem Oe (h:j<n):pq n (j:Int)=a! j:=by
 unfold pq;rw[c! (by omega)];simp[h]
theorem m9 {a:Type}(f:Int->a)(ys:List Int):ys.map f=tab ys.length λi=>f (ys.getD i 0):=by
 rw[<- fG (f:=λi=>ys.getD i 0) (g:=f),xy]
theorem Zh {w:Nat}{e:Nat->Nat->Int}(ok:∀f∈fs,f.Ok)(G:0<h)(hh:h<=64)(q:0<w)(hw:w<=64)(hL:L<=6)(Q:h*w<=400)(hn:n<=4000)(z:bs.length<=900000)
  (F:i8 (zw (h*w) n) bs v) (S:kZ ((h*w:Nat):Int) v) (C:dt (gR h w e fs L) v) (r:v.pl<0) (U:v.us=bs.length):∃x:dG,x.Ok/\x.d = .tup [tG h w L n fs,.str (cK bs)]:=by
 have l:0<h*w:=HE G q;have g:∀i j,i<h->j<w->fg h w L fs v i j=(e i j,e i j):=λi j hi J=>zM ok S C r hi J
 have a:∀c:Nat,c<=bs.length->∃u,At h w L n e fs bs c u:=λc hc=>ύ ok l Q (by lia) F S r U g hc
 obtain⟨B,p⟩:=ò (h:=h) (w:=w) (L:=L) (n:=n) (fs:=fs) (bs:=bs) G q λc hc=>let⟨u,A⟩:=a c hc;⟨u,A.f,A.s⟩
 refine⟨⟨h,w,L,n,fs,bs,B⟩,⟨ok,⟨G,by lia,q,by lia,hL⟩,by lia,by lia,p,λm k M o=>?_,?_,⟨v,F,r,U⟩,z,λc hc=>?_⟩,rfl⟩
 .obtain ⟨u,A⟩:=a m (Bz M o);obtain⟨u',A'⟩:=a k o;obtain⟨_,t⟩:=Xw ok l Q A A' M;obtain⟨y,f1,_,O⟩:=p m (Bz M o);obtain⟨y',f2,_,b2⟩:=p k o
  cases nu f1 A.f
  cases nu f2 A'.f
  obtain⟨⟨i,j,hi,J,T⟩,_⟩:=b2;have z1:=O.2 i j hi J;have z2:=t i j hi J;obtain⟨z3,_,z5⟩:=z2;show B k<=B m
  lia
 .obtain ⟨y,f1,_,O⟩:=p bs.length (Ag _);rw[BD]at f1
  cases nu f1 F
  obtain⟨⟨i,j,hi,J,T⟩,_⟩:=O;rw[g i j hi J]at T;show B bs.length=0
  lia
 .obtain ⟨u,A⟩:=a c (DJ hc);have:=A.wh;rw[decide_eq_false (show ¬ c=bs.length from Bq hc)]at this;exact⟨u,A.f,by simpa using this⟩
theorem ib5:∀{p:Nat},p<=4->iV ((p:Int)+1)<=2000000
 | 0,_=>by decide +kernel
 | 1,_=>by decide +kernel
 | 2,_=>by decide +kernel
 | 3,_=>by decide +kernel
 | 4,_=>by decide +kernel
 |n+5,h=>absurd h (by lia)
theorem vv:∀ks:List Nat,(ks.map λ(k:Nat)=>(k:Int)).sum=((ks.sum:Nat):Int)
 | []=>rfl
 |k::ks=>by rw[BU,IZ,vv ks,IZ];lia
theorem VE {xs:List dG}{ks:List Nat}{v:Int}(hl:ks.length=xs.length)(h:∀(i:Nat) (x:dG) (k:Nat),xs[i]?=a! x->ks[i]?=a! k->gr x.B v 0 (x.bs.length+1)<=k):∀n,n<=xs.length->yF xs v n<=(ks.take n).sum
 | 0,_=>Ag _
 |n+1,hn=>by
  have a:=Ad (show n<xs.length by lia);have c:=Ad (show n<ks.length by lia);have h1:=h n _ _ a c;have h2:=VE hl h n (by lia);have e:p7 xs n=(xs[n]).B:=by funext m;rw[p7,eM a]
  rw[AO (by lia),EI,HX,yF,e,uB,eM a];lia
theorem qE {xs:List dG}{ks:List Nat}{v:Int}(hl:ks.length=xs.length)(h:∀(i:Nat) (x:dG) (k:Nat),xs[i]?=a! x->ks[i]?=a! k->k=gr x.B v 0 (x.bs.length+1)):∀n,n<=xs.length->(ks.take n).sum=yF xs v n
 | 0,_=>rfl
 |n+1,hn=>by
  have a:=Ad (show n<xs.length by lia);have c:=Ad (show n<ks.length by lia);have h1:=h n _ _ a c;have h2:=qE hl h n (by lia);have e:p7 xs n=(xs[n]).B:=by funext m;rw[p7,eM a]
  rw[AO (by lia),EI,HX,yF,e,uB,eM a];lia
theorem ml {n:Nat}{i:Int}:D.ft n (.int i):=D.MB.ft (.inl ⟨i,rfl⟩)
theorem Xe {n:Nat}{a b c d e:Int}:D.ft (n+1) (.tup [.int a,.int b,.int c,.int d,.int e]):=.tup λy h=>by
 simp only[AJ,Cn,or_false]at h;rcases h with rfl |rfl |rfl |rfl |rfl<;>exact ml
theorem â {fs:List Lf}:D.ft 2 (eK fs):=.tup λy h=>by
 obtain⟨f,_,rfl⟩:=Be.mp h;exact Xe
theorem Ť {h w L n:Nat}{fs:List Lf}{y:D}(a:y∈[D.int h,.int w,.int L,.int n,eK fs]):D.ft 2 y:=by
 simp only[AJ,Cn,or_false]at a;rcases a with rfl |rfl |rfl |rfl |rfl
 .exact ml
 .exact ml
 .exact ml
 .exact ml
 .exact â
def jd:dN:=λds P=>∃k:Int,ds=[.int k]/\P (.fz (.bl b!))
def qJ:dN:=λds P=>∃(xs:List dG) (W:Int),ds=[.lst (xs.map dG.d),.int W]/\oN xs/\0<=W/\P (.fz (.int (yF xs W xs.length:Nat)))
def Ĳ (W:Int)(ks:List Nat):D:=.tup [.int W,.lst (ks.map λ(k:Nat)=>.int k)]
def mG:dN:=λds P=>∃(xs:List dG) (t:Nat) (W:Int) (ks:List Nat),ds=[.lst (xs.map dG.d),.int t,Ĳ W ks]/\oN xs/\Vc xs t W ks/\P (.fz (.bl b!))
def j_:dN:=λds P=>∃(a:List D) (t:Nat),ds=[.lst a,.int t]/\XH a/\P (.fz (.bl b!))
def j9:dN:=λds P=>∃(xs:List dG) (c:Int),ds=[.lst (xs.map dG.d),.int c]/\oN xs/\1<=xs.length/\∀a:List D,XH a->P (.nl (a.map .fz))
def lK:dN:=λds P=>∃(ns:List Int) (p:Nat) (c:Int),ds=[.lst (ns.map .int),.int p,.int c]/\ns.length<=63/\(∀m∈ns,iV m<=1048576)/\iV c<=1048576/\p<=4/\∀x:dG,x.Ok->P (.fz x.d)
abbrev fi:A6:=top 102
theorem ck:aR ["_law_script","_law_place","_law_cell","_law_wide","_law_most","_law_cells","_law_k","_law_at","_law_more","_law_row","_law_ladder"] ["_law_script","_law_place","_law_cell"] (aB fi):=by f_are
abbrev kn:A6:=top 101
theorem vH:aR ["_law_found"] ["_law_found"] (aB kn):=by f_are
abbrev lg:A6:=top 103
theorem zP:aR ["_law_streams","_law_most"] ["_law_streams","_law_most"] (aB lg):=by f_are
abbrev ko:A6:=top 104
theorem jl:aR ["_law_streams","_law_total","_law_found","_law_k","_law_due"] ["_law_streams","_law_total","_law_found"] (aB ko):=by f_are
abbrev iz:A6:=top 105
theorem cM:aR ["_law_streams","_law_total","_law_caught","_law_other","_law_base","e"] ["_law_streams","_law_total"] (aB iz):=by f_are
abbrev iy:A6:=top 106
theorem eo:aR ["_law_streams","_law_cell","_law_some","_law_at","_law_head","_law_bits"] ["_law_streams","_law_cell"] (aB iy):=by f_are
abbrev xO:A6:=top 107
theorem ir:aR ["_law_script","_law_many","_law_streams","_law_whole_here","_law_total","_law_handed","_law_found","_law_kept","_law_again"] ["_law_script"] (aB xO):=by f_are
theorem wt (a:bN K mg "_law_whole" kn f fd)(B:b_ mg)(KV:b7 K):
  cc P w K mg base "_law_whole" 1 ["_law_found"] (cg K 1 jd):=by
 refine df.of a vH (by f_tup) rfl (λc A o s H E h=>⟨_,_,(aI (aX (mf (aV dF (by rfl) B.isinstance Bs (ae (pv 0) (ae (eV (v:=.ty "int") (by rfl) B.int Gm (by rfl)) aD))) (kL (Cs (aV dF (by rfl) B.isinstance Bs (ae (pv 0) (ae (eV (v:=.ty "bool") (by rfl) B.bool Gd (by rfl)) aD)))))))),
  (bt (a8 (jt (bP (gX KV) (aH aC (aH (aM jL) aP))) (vX (bP (gX KV) (aH aC (aH (aM jL) aP))))))),?_⟩)
 rintro ds r ⟨i,rfl,k⟩;fin2;exact k
theorem Zf {xs:List dG}{W:Int}(h:oN xs)(c:0<=W):∃ns:List Int,xs.map (λx=>UK x.B W x.bs.length)=ns.map .int/\ns.sum=(yF xs W xs.length:Nat):=by
 refine⟨(xs.map λx=>gr x.B W 0 (x.bs.length+1)).map λ(k:Nat)=>(k:Int),?_,?_⟩
 .rw [AW,AW];refine B3 λx m=>?_
  obtain⟨k,e,_,f,_⟩:=Oq (h.1 x m) c;rw[e,f];rfl
 .have:=qE (xs:=xs) (ks:=xs.map λx=>gr x.B W 0 (x.bs.length+1)) (v:=W) (Au _) (λi x k e a=>by rw[AK,e]at a;cases a;rfl) xs.length (Ag _);rw[BS (by rw[Au];exact Ag _)]at this;rw[vv,this]
theorem G2 {f T T':Ae}{fd:A8}(C:bN K mg "_law_sum" lg f fd)(B:b_ mg)(KV:b7 K)(e:cc P w K mg base "enough" 11 ["head","bits","breadth"] (ē K 3 T ⟨307,4,308,49⟩ "enough.<locals>.fits" la)):
  cc P w K mg base "_law_sum" 12 ["_law_streams","_law_most"] (xI K 2 (um T T') qJ):=by
 refine Vl.of C zP (by f_tup) rfl (λc A o s H E r=>⟨_,_,(aI (aX (aV lu (by rfl) B.sum IQ (ae (d_ rfl (c8 (pv 0)) (show bX (aB lg) _ from⟨rfl,by decide +kernel,by decide +kernel,by decide +kernel⟩) (N:=["_law_stream_here","_law_most"]) (ix:=[a?,a! 1]) (show cW _ _ _ _ from⟨⟨rfl,rfl,.inl rfl⟩,trivial⟩) (λ_ _ _=>(bB (i:=0) (show Bp (["_law_stream_here","_law_most"]:List Al) by decide +kernel) rfl (An rfl))) (λ_ _ _=>(aY e (r.mono (by decide)) (by rfl) (ae (aS aQ (pv 0) aJ (λ_ _=>rfl)) (ae (aS aQ (pv 0) aJ (λ_ _=>rfl)) (ae (pv 1) aD)))))) aD)))),
  (Rh (λz v p=>ķ xj ((vp eP (dv aF) bD (qu (λ_ h=>h.1) (aA (bE aT aF aE) (aA (bE aT aF aE) (aA aF aK))))) z v p))),?_⟩)
 rintro ds G ⟨xs,W,rfl,a,j,k⟩;have g:=a.2;fin2;refine f9.map xs dG.d (λx=>.fz (UK x.B W x.bs.length)) (by lia) (λx m Q q=>?_) ?_
 .have o:=a.1 x m;simp only[dG.d];fin2;exact⟨x.h,x.w,x.L,x.n,x.fs,x.bs,W,x.B,rfl,o.ok,o.hw,o.n,o.l,o.b,q⟩
 obtain⟨ns,u,t⟩:=Zf a j;rw[show OV.val (.nl (xs.map λx=>.fz (UK x.B W x.bs.length))) = .lst (ns.map .int) by show D.lst (OV.vals _)=_;rw[OV.c7,AW,<- u];rfl];exact⟨ns,rfl,by rw[t];exact k⟩
theorem wu {f T T':Ae}{fd:A8}(Df:bN K mg "_law_right" ko f fd)(B:b_ mg)(KV:b7 K)(a:cc P w K mg base "_law_whole" 1 ["_law_found"] (cg K 1 jd))(e:cc P w K mg base "enough" 11 ["head","bits","breadth"] (ē K 3 T ⟨307,4,308,49⟩ "enough.<locals>.fits" la))(u:cc P w K mg base "_law_sum" 12 ["_law_streams","_law_most"] (xI K 2 (um T T') qJ)):
  cc P w K mg base "_law_right" 13 ["_law_streams","_law_total","_law_found"] (xI K 3 (um T T') mG):=by
 refine Vl.of Df jl (by f_tup) rfl (λc A o s H E r=>⟨_,_,(aG (cj (jM (dq (cD (aV dF (by rfl) B.isinstance Bs (ae (pv 2) (ae (eV (v:=.ty "tuple") (by rfl) B.tuple Ef (by rfl)) aD))))) (jM (bI yi (aV a_ (by rfl) B.len Bf (ae (pv 2) aD)) aJ (bG _)) (jM (dq (cD (aY a (r.mono (by decide)) (by rfl) (ae (aS aQ (pv 2) aJ (λ_ _=>rfl)) aD)))) (iF (bI iT (aS aQ (pv 2) aJ (λ_ _=>rfl)) aJ (bG _)))))).pt (aI (aX gO)) bM)
   (aG (cj (jM (dq (cD (aV dF (by rfl) B.isinstance Bs (ae (aS aQ (pv 2) aJ (λ_ _=>rfl)) (ae (eV (v:=.ty "list") (by rfl) B.list Bn (by rfl)) aD))))) (iF (bI yi (aV a_ (by rfl) B.len Bf (ae (aS aQ (pv 2) aJ (λ_ _=>rfl)) aD)) (aV a_ (by rfl) B.len Bf (ae (pv 0) aD)) (bG _)))).pt (aI (aX gO)) bM)
   (aG (dz AM rfl (eI (by rfl) (by exact B.range) (ae (aV a_ (by rfl) B.len Bf (ae (pv 0) aD)) aD)) (bB (i:=3) jl.nd rfl (An rfl)) (aG (a5 (i:=4) jl.nd rfl (An rfl) (aY e (r.mono (by decide)) (by rfl) (ae (aS aQ (aS bR (pv 0) (pv 3) (λ_ _=>rfl)) aJ (λ_ _=>rfl)) (ae (aS aQ (aS bR (pv 0) (pv 3) (λ_ _=>rfl)) aJ (λ_ _=>rfl)) (ae (aS aQ (pv 2) aJ (λ_ _=>rfl)) aD)))))
   (aI (cj (jM (dq (cD (aY a (r.mono (by decide)) (by rfl) (ae (aS bR (aS aQ (pv 2) aJ (λ_ _=>rfl)) (pv 3) (λ_ _=>rfl)) aD)))) (iF (bI yi (aS bR (aS aQ (pv 2) aJ (λ_ _=>rfl)) (pv 3) (λ_ _=>rfl)) (pv 4) (bG _)))).pt (aI (aX gO)) bM))))
   (aG (cj (bI m4 (aV lu (by rfl) B.sum IQ (ae (aS aQ (pv 2) aJ (λ_ _=>rfl)) aD)) (pv 1) (bG _)) (aI (aX gO)) bM)
   (aI (aX (Yl (ec eX (aS aQ (pv 2) aJ (λ_ _=>rfl)) aJ (bG _)) (kL (ec m4 (aY u (r.mono (by decide)) (by rfl) (ae (pv 0) (ae (aW dr (aS aQ (pv 2) aJ (λ_ _=>rfl)) aJ) aD))) (pv 1) (bG _)))))))))),
  (cz (bU.y (cC (kC (dR (fC (bP (gX KV) (aH aC (aH (aM jL) aP))))) (kC (bL (aN yn (aM (bP cN (aH aC aP))) (aM aE))) (kC (dR (fC (bV (a4 (aA (bE aT aF aE) aK))))) (bL (aN dI (bA (dm.b aT) aC (aM aE)) (aM aE)))))) (bt (a8 hV)) bO))
   (cz (bU.y (cC (kC (dR (fC (bP (gX KV) (aH (bA (dm.b aT) aC (aM aE)) (aH (aM jL) aP))))) (bL (aN yn (aM (bP cN (aH (bA (dm.b aT) aC (aM aE)) aP))) (aM (bP cN (aH aC aP)))))) (bt (a8 hV)) bO))
   (cz (zu eP (gq (aH (aM (bP cN (aH aC aP))) aP)) bD (cz (zt (qu (λ_ h=>h.1) (aA (bE aT (bE cw aF aF) aE) (aA (bE aT (bE cw aF aF) aE) (aA (bE aT aF aE) aK)))))
   (bU.y (cC (kC (dR (fC (bV (a4 (aA (bE cw (bE aT aF aE) aF) aK))))) (bL (aN yn (bA (dm.b cw) (bA (dm.b aT) aC (aM aE)) aC) aC))) (bt (a8 hV)) bO))))
   (cz (bU.y (cC (bL (aN dI (aM (bP xj (aH (bA (dm.b aT) aC (aM aE)) aP))) aC)) (bt (a8 hV)) bO))
   (Rh (λF0 H0 hT=>ģ (Y1 (aN fu (bA (dm.b aT) aC (aM aE)) (aM aE)) (Ĥ dI (Y5 ((pY eP (λ_ h=>h) (aA aF (aA (aN b9 (bA (dm.b aT) aC (aM aE)) (aM aE)) aK))) F0 H0 hT)) aC)))))))),?_⟩)
 rintro ds Pr ⟨xs,t,W,ks,rfl,C,g,k⟩;have Q:=C.2;have hl:=g.len;simp only[Ĳ];gn_on;rw[c? (by simp)];refine⟨W,rfl,?_⟩;dsimp only[OV.val];rw[c? (by decide),c? (by have:=g.pos;lia)];gp_on;gn_on;rw[hl,c? (by simp)];gp_on;gn_on;refine⟨⟨by lia,by lia⟩,?_⟩;rw[AX];refine⟨λi δ=>∃p O:Option Sl,δ=[vD (.lst (xs.map dG.d)),vI t,vD (Ĳ W ks),p,O],⟨a?,a?,rfl⟩,?_,?_⟩
 .rintro i d δ hd ⟨p,O,rfl⟩;obtain⟨hi,rfl⟩:=eU hd;rw[show (0:Int)+(i:Int)*1=(i:Int) by lia];have j:=Ad hi;have o:=C.1 _ (BJ hi);obtain⟨q,m,a2,G,_⟩:=g.at_ i _ j;obtain⟨k2,b1,_,b3,_⟩:=Oq o g.pos;gn_on;refine⟨_,tz j,?_⟩;simp only[dG.d,Ĳ];fin2;refine⟨_,tz j,?_⟩;simp only[dG.d];fin2;refine⟨_,_,_,_,_,_,W,(xs[i]).B,rfl,o.ok,o.hw,o.n,o.l,o.b,?_⟩;rw[b1,b3,<- G];dsimp only[OV.val];gp_on;fin2;have M:jB (ks.map λ(k:Nat)=>D.int k) i=a! (.int q):=dw (by rw[AK,m];rfl);refine⟨_,M,q,rfl,?_⟩;dsimp only[OV.val];rw[c? (by decide)];refine⟨_,M,?_⟩;dsimp only;rw[c? (by simp)];exact⟨_,_,rfl⟩
 .rintro δ ⟨p,O,rfl⟩;have J:=qE hl (λi x k e1 e2=>by obtain⟨q,m,_,G,_⟩:=g.at_ i x e1;rw[e2]at m;cases m;exact G) xs.length (Ag _);rw[<- hl,BD,hl]at J;have U:=g.sum;gp_on;simp only[Ĳ];gn_on;refine⟨ks.map λ(k:Nat)=>(k:Int),by rw[AW];rfl,?_⟩;rw[vv,c? (by lia)];gp_on;fin2;by_cases L:W=0
  .rw [c! L];exact k
  .rw [c? L];have hp:=g.pos;refine⟨xs,W-1,rfl,C,by lia,?_⟩;dsimp only[OV.val];rw[decide_eq_true (by
    rcases Ep t (yF xs (W-1) xs.length) with z |z
    .exact Ja.mpr z
    .have:=g.least (W-1) (by lia) z;lia)]
   exact k
theorem rQ {f T T':Ae}{fd:A8}(q:bN K mg "_law_refused" iz f fd)(B:b_ mg)(KV:b7 K){a:Ae}(m:mg "WaveError"=a! (.ref a))(e:∀c∈(["NoBits"]:List Al),∀C,B5 K Aj c=a! (a! (.ref C))->Ie K (.ref C) (.ref a)=a! b!)(t:ċ K "NoBits" [("NoBits",b!),("TooMany",b?)] [("ValueError",b!)])(l:mg "ValueError"=a?)(O:jX K mg "NoBits")(n:jX K mg "TooMany")(h:tF P w K mg base "share" 14 ["streams","total"] (zH K 2 (um T T') qI)):
  cc P w K mg base "_law_refused" 15 ["_law_streams","_law_total"] (xI K 2 (um T T') j_):=by
 refine Vl.of q cM (by f_tup) rfl (λc A o s H E r=>⟨_,_,(aG (a5 (i:=2) cM.nd rfl (An rfl) gO)
   (aG (a5 (i:=3) cM.nd rfl (An rfl) gO)
   (aG (a5 (i:=4) cM.nd rfl (An rfl) gO)
   (aG (Wd (ni:=5) rfl rfl (λ_ _ z=>z) h (r.mono (by decide)) (by rfl) (ae (pv 0) (ae (pv 1) aD)) (by rfl) m cM.nd rfl rfl rfl (λ_=>(aG (a5 (i:=2) cM.nd rfl (An rfl) (aV s_ (by rfl) B.isinstance Bs (ae (pv 5) (ae (yf (by rfl) O) aD))))
   (aG (a5 (i:=3) cM.nd rfl (An rfl) (aV s_ (by rfl) B.isinstance Bs (ae (pv 5) (ae (yf (by rfl) n) aD))))
   (aI (a5 (i:=4) cM.nd rfl (An rfl) (aV s_ (by rfl) B.isinstance Bs (ae (pv 5) (ae (eV (v:=.ty "ValueError") (by rfl) l pU (by rfl)) aD)))))))))
   (aI (aX (mf (pv 2) (mf (pv 4) (kL (Cs (pv 3))))))))))),
  (cz (bU.y (bx (a8 hV)))
   (cz (bU.y (bx (a8 hV)))
   (cz (bU.y (bx (a8 hV)))
   (cz (YY (cs:=["NoBits"]) eP e (aA aF (aA aF aK)) (aU (bx (a8 (bP (MQ t) (aH aC (aH (aM (xT O)) aP)))))
   (aU (bx (a8 (bP (MQ t) (aH aC (aH (aM (xT n)) aP)))))
   (bx (a8 (bP (MQ t) (aH aC (aH (aM jL) aP))))))))
   (bU.y (bt (a8 (jt aF (jt aF (vX aF)))))))))),?_⟩)
 rintro ds u ⟨j,g,rfl,p,k⟩;gn_on;gp_on;gn_on;gp_on;gn_on;gp_on;gn_on;refine .inr ⟨j,g,rfl,p,AV.mpr rfl,rfl,b!,by simp,rfl,b?,by simp,rfl,b!,by simp,?_⟩;gp_on;fin2;exact k
theorem Xu (c:oN xs)(A:a<xs.length)(h:MY d):XH ((xs.map dG.d).set a d):=by
 refine⟨λd' hd=>?_,d,List.mem_set (by rw[Au];exact A) _,h⟩;rcases GR hd with z |z
 .obtain ⟨x,m,rfl⟩:=Be.mp z;exact .inr ⟨x,c.1 x m,rfl⟩
 .rw [z];exact .inl h
theorem Xa0 {x:dG}(o:x.Ok){i:Int}(e:0<=i)(c:i<4):∃s:Al,jB [D.str "0",D.str "1",D.str "00",D.str "10"] i=a! (.str s)/\s.length<=2/\MY (.tup [tG x.h x.w x.L x.n x.fs,.str (cK x.bs++s)]):=by
 obtain⟨v,F,a,u⟩:=o.wh;have key:∀b cs,(b::cs).length<=2->MY (.tup [tG x.h x.w x.L x.n x.fs,.str (cK x.bs++cK (b::cs))]):=λb cs hl=>by
  have:=o.l9;rw[<- nU];refine⟨x.h,x.w,x.L,x.n,x.fs,x.bs++b::cs,v,rfl,o.hw.2.1,o.n,?_,Xf F a,λ_=>?_⟩
  .rw [AE];lia
  .rw [AE,AQ];lia
 rcases (show i=0∨i=1∨i=2∨i=3 by lia) with rfl |rfl |rfl |rfl
 .exact ⟨_,rfl,by decide,key b? [] (by decide)⟩
 .exact ⟨_,rfl,by decide,key b! [] (by decide)⟩
 .exact ⟨_,rfl,by decide,key b? [b?] (by decide)⟩
 .exact ⟨_,rfl,by decide,key b! [b?] (by decide)⟩
theorem rO (G:bN K mg "_law_spoiled" iy f fd)(B:b_ mg)(KV:b7 K):
  cc P w K mg base "_law_spoiled" 1 ["_law_streams","_law_cell"] (cg K 2 j9):=by
 refine df.of G eo (by f_tup) rfl (λc A o s H E J=>⟨_,_,(aG (a5 (i:=2) eo.nd rfl (An rfl) (iS gW (by rfl) B.list Bn (ae (pv 0) aD)))
   (aG (a5 (i:=3) eo.nd rfl (An rfl) (aW dA (pv 1) (aV a_ (by rfl) B.len Bf (ae (pv 2) aD))))
   (aG (kI (aS bR (pv 2) (pv 3) (λ_ _=>rfl)) (ma (n:=2) rfl (cS (bB (i:=4) eo.nd rfl (An rfl)) (cS (bB (i:=5) eo.nd rfl (An rfl)) jv))))
   (aG (cj (n_ (bI eX (aW dA (aW di (pv 1) aJ) aJ) aJ (bG _)) (mW (bI m4 (aV dk (by rfl) B.len Bf (ae (pv 5) aD)) aJ (bG _)))).pt (aI (kI (cb (ae (pv 4) (ae (rC RM (pv 5) NS (qg (aW dA (aW di (pv 1) aJ) (aV dk (by rfl) B.len Bf (ae (pv 5) aD))))) aD))) (me (pv 2) (pv 3) fN))) (aI (kI (cb (ae (pv 4) (ae (aW EV (pv 5) (aS bR (cV (ae fo (ae fo (ae fo (ae fo aD))))) (aW dA (aW di (pv 1) aJ) aJ) (λ_ _=>rfl))) aD))) (me (pv 2) (pv 3) fN))))
   (aI (aX (pv 2))))))),
  (aU (bx (xQ nG (aA aF aK)))
   (aU (bx (a8 (aN cn aC (aM (bP cN (aH aC aP))))))
   (aU (Zo (ZA aC) (l_ (cR bD (cR bD js))))
   (aU (cC (n9 (bL (aN fu (aM (aN cn (aM (aN cn aC (aM aE))) (aM aE))) (aM aE))) (bL (aN dI (aM (bP ij (aH aC aP))) (aM aE)))) (rg (a8 (cG (aA aF (aA (Su aF X5 (ND (aM (aN cn (aM (aN cn aC (aM aE))) (aM (bP ij (aH aC aP))))))) aK)))) aC) (rg (a8 (cG (aA aF (aA (aN WE aC (bA (dm.b cw) (aM (bV (dS (cI (a8 fk) (cI (a8 fk) (cI (a8 fk) (cI (a8 fk) cU))))))) (aM (aN cn (aM (aN cn aC (aM aE))) (aM aE))))) aK)))) aC))
   fJ)))),?_⟩)
 rintro ds Pr ⟨xs,c,rfl,g,h1,k⟩;have p:=g.2;gn_on;gp_on;gn_on;refine⟨by lia,?_⟩;obtain⟨a,r,t⟩:∃a:Nat,c%(xs.length:Int)=a/\a<xs.length:=⟨(c%(xs.length:Int)).toNat,by have:=FQ c (show (xs.length:Int)≠0 by lia);lia,by have:=FR c (show (0:Int)<xs.length by lia);lia⟩
 rw[r];gp_on;gn_on;have e:=Ad t;have o:=g.1 _ (BJ t);generalize xs[a]=x at e o;refine⟨x.d,dw (by rw[AK,AK,e];rfl),?_⟩;simp only[dG.d];fin2;gp_on;gn_on;have Q:=o.l9;have fin:∀d,MY d->∃j,pq xs.length (a:Int)=a! j/\N [vD (.lst (xs.map dG.d)),vI c,vL (((xs.map dG.d).map .fz).set j (.fz d)),vI a,vD (tG x.h x.w x.L x.n x.fs),vD (.str (cK x.bs))]:=λd hd=>by
  refine⟨a,Oe t,?_⟩;gp_on;fin2;rw[<- JS];exact k _ (Xu g t hd)
 obtain⟨s,C,e2,v⟩:=Xa0 o (i:=c / 8%4) (by lia) (by lia);have T:∃d,jB [D.str "0",D.str "1",D.str "00",D.str "10"] (c / 8%4)=a! d/\(match D.str (cK x.bs),d with
   | .str y,.str z=>y.length+z.length<=1000000/\∃j,pq xs.length (a:Int)=a! j/\N [vD (.lst (xs.map dG.d)),vI c,vL (((xs.map dG.d).map .fz).set j (.fz (.tup [tG x.h x.w x.L x.n x.fs,.str (y++z)]))),vI a,vD (tG x.h x.w x.L x.n x.fs),vD (.str (cK x.bs))]
   |_,_=>False):=⟨_,C,by rw[cX];lia,fin _ v⟩
 split
 .rw [cX];refine⟨o.l,?_⟩;split
  .rename_i O;obtain⟨m,q,M⟩:∃m:Nat,c / 8%(x.bs.length:Int)=m/\m<x.bs.length:=by
    have z:=FQ (c / 8) (show (x.bs.length:Int)≠0 by lia);exact⟨(c / 8%(x.bs.length:Int)).toNat,(Ci z).symm,(Int.toNat_lt z).mpr (FR (c / 8) (show (0:Int)<x.bs.length by lia))⟩
   obtain⟨u,F,U⟩:=o.cut m M;rw[q,xB _ (DJ M)];refine⟨o.l,by lia,o.l,fin _ ⟨x.h,x.w,x.L,x.n,x.fs,x.bs.take m,u,rfl,o.hw.2.1,o.n,?_,F,λz=>by lia⟩⟩;rw[BE,FO (DJ M)];have:=o.l;lia
  .exact T
 .exact T
theorem rv3:∀ys:List Int,ys.length<=3->∃e:List Int,e.length=ys.length/\(∀z∈e,z∈ys)/\(NK ys.length).filterMap (λx=>(ys.map D.int)[x]?)=e.map D.int
 | [],_=>⟨[],rfl,λ_ h=>h,rfl⟩
 | [a],_=>⟨[a],rfl,λ_ h=>h,by show (NK 1).filterMap _=_;rw[show NK 1=[0] by decide];rfl⟩
 | [a,b],_=>⟨[b,a],rfl,λz h=>by simp at h ⊢;exact h.symm,by show (NK 2).filterMap _=_;rw[show NK 2=[1,0] by decide];rfl⟩
 | [a,b,c],_=>⟨[c,b,a],rfl,λz h=>by simp at h ⊢;rcases h with h |h |h<;>simp[h],by show (NK 3).filterMap _=_;rw[show NK 3=[2,1,0] by decide];rfl⟩
 |_::_::_::_::_,h=>by simp at h
theorem tR (Df:bN K mg "_law_stream" fi f fd)(B:b_ mg)(KV:b7 K)(l:cc P w K mg base "ladder_of" 1 ["name"] (cg K 1 je))(O:MX P w K mg base "coded" 6 ["picture","ladder","levels"] (cg K 3 qM) [.cA,.int 2]):
  cc P w K mg base "_law_stream" 7 ["_law_script","_law_place","_law_cell"] (cg K 3 lK):=by
 refine df.of Df ck (by f_tup) rfl (λc A o s H E hr=>⟨_,_,(aG (a5 (i:=3) ck.nd rfl (An rfl) (aW cH (aW cH aJ (aW dA (pv 2) aJ)) (aW di (aW dA (aW di (pv 2) aJ) aJ) aJ)))
   (aG (a5 (i:=4) ck.nd rfl (FC rfl) aJ)
   (aG (cj (bI m4 (pv 1) aJ (bG _)) (aI (a5 (i:=3) ck.nd rfl (An rfl) aJ)) bM)
   (aG (cj (n_ (bI eX (pv 1) aJ (bG _)) (mW (bI eX (aW dA (aW di (pv 2) aJ) aJ) aJ (bG _)))).pt (aG (a5 (i:=3) ck.nd rfl (An rfl) aJ)
   (aI (a5 (i:=4) ck.nd rfl (FC rfl) (aW ZZ aJ aJ)))) bM)
   (aG (a5 (i:=5) ck.nd rfl (An rfl) (aW Ee (cV (ae aJ aD)) (pv 3)))
   (aG (dz AM rfl (eI (by rfl) (by exact B.range) (ae (aV a_ (by rfl) B.len Bf (ae (pv 0) aD)) aD)) (bB (i:=6) ck.nd rfl (An rfl)) (aG (a5 (i:=7) ck.nd rfl (An rfl) (aW dA (pv 6) (pv 3)))
   (aG (a5 (i:=8) ck.nd rfl (An rfl) (aW cH (aW NX (aS bR (pv 0) (pv 6) (λ_ _=>rfl)) (aW cH (pv 1) aJ)) (pv 1)))
   (aI (kI (aW dA (aW cH (aW gQ (aS bR (pv 5) (pv 7) (λ_ _=>rfl)) aJ) (pv 8)) (aW cH (aW gQ aJ (pv 4)) aJ)) (me (pv 5) (pv 7) fN))))))
   (aG (gJ (i:=9) ck.nd rfl (An rfl) rfl (c8 (pv 5)) (show bX (aB fi) _ from⟨rfl,by decide +kernel,by decide +kernel,by decide +kernel⟩) (N:=["_law_one","_law_most"]) (ix:=[a?,a! 4]) (show cW _ _ _ _ from⟨⟨rfl,rfl,.inl rfl⟩,trivial⟩) (λ_ _ _=>(bB (i:=0) (show Bp (["_law_one","_law_most"]:List Al) by decide +kernel) rfl (An rfl))) (λ_ _ _=>(aW dr (pv 0) (pv 1))))
   (aG (a5 (i:=10) ck.nd rfl (An rfl) (aY l (hr.mono (by decide)) (by rfl) (ae (aS bR (cV (ae fo (ae fo (ae fo (ae fo aD))))) (aW dA (aW di (pv 2) aJ) aJ) (λ_ _=>rfl)) aD)))
   (aG (cj (n_ (bI eX (pv 4) aJ (bG _)) (n_ (bI iT (pv 1) aJ (bG _)) (mW (bI eX (aW dA (aW dA (aW NX (pv 2) aJ) aJ) aJ) aJ (bG _))))).pt (aI (aX (aY O.Ϲ (hr.mono (by decide)) (by rfl) (ae (cV (ae (pv 9) (ae (Wj (pv 9) (ye qz aJ)) aD))) (ae (pv 10) (ae (aW dA (aW di (pv 2) aJ) aJ) aD (eW (by intro _ _ h;cases h))) (eW (by intro _ _ h;cases h))) (eW (by intro _ _ h;cases h)))))) bM)
   (aG (cj (bI eX (aW dA (aW di (pv 2) aJ) aJ) aJ (bG _)) (aI (aX (aY O.Ϲ (hr.mono (by decide)) (by rfl) (ae (d_ rfl (c8 (pv 9)) (show bX (aB fi) _ from⟨rfl,by decide +kernel,by decide +kernel,by decide +kernel⟩) (N:=["_law_one"]) (ix:=[a?]) (show cW _ _ _ _ from trivial) (λ_ _ _=>(bB (i:=0) (show Bp (["_law_one"]:List Al) by decide +kernel) rfl (An rfl))) (λ_ _ _=>(cV (ae (pv 0) aD)))) (ae (pv 10) (ae (aW dA (aW di (pv 2) aJ) aJ) aD)))))) bM)
   (aI (aX (aY O.Ϲ (hr.mono (by decide)) (by rfl) (ae (cV (ae (pv 9) aD)) (ae (pv 10) (ae (aW dA (aW di (pv 2) aJ) aJ) aD (eW (by intro _ _ h;cases h))) (eW (by intro _ _ h;cases h))) (eW (by intro _ _ h;cases h)))))))))))))))),
  (aU (bx (a8 (aN b9 (aM (aN b9 (aM aE) (aM (aN cn aC (aM aE))))) (aM (aN cn (aM (aN cn (aM (aN cn aC (aM aE))) (aM aE))) (aM aE))))))
   (aU (bx (a8 aE))
   (aU (cC (bL (aN dI aC (aM aE))) (bx (a8 aE)) bO)
   (aU (cC (n9 (bL (aN fu aC (aM aE))) (bL (aN fu (aM (aN cn (aM (aN cn aC (aM aE))) (aM aE))) (aM aE)))) (aU (bx (a8 aE))
   (bx (a8 (aN cn (aM aE) (aM aE))))) bO)
   (aU (bx (vW (dS (cI (a8 aE) cU)) aC))
   (aU (et (gq (aH (aM (bP cN (aH aC aP))) aP)) bD (aU (bx (a8 (aN cn aC aC)))
   (aU (bx (a8 (aN b9 (aM (aN cn (bA (dm.b cw) aC aC) (aM (aN b9 aC (aM aE))))) aC)))
   (rg (a8 (aN cn (aM (aN b9 (aM (aN cn (bA (dm.b cw) aC aC) (aM aE))) aC)) (aM (aN b9 (aM (aN cn (aM aE) aC)) (aM aE))))) aC))))
   (aU (bx (a8 (bV (xP aC (a8 (aN b9 aC aC))))))
   (aU (bx (a8 (bV (a4 (aA (bE cw (bV (dS (cI (a8 fk) (cI (a8 fk) (cI (a8 fk) (cI (a8 fk) cU)))))) (aN cn (aM (aN cn aC (aM aE))) (aM aE))) aK)))))
   (aU (cC (n9 (bL (aN fu aC (aM aE))) (n9 (bL (aN dI aC (aM aE))) (bL (aN fu (aM (aN cn (aM (aN cn (aM (aN cn aC (aM aE))) (aM aE))) (aM aE))) (aM aE))))) (bt (a4 (aA (bV (dS (cI (a8 aF) (cI (V3 aF (aM (rk (aM aE)))) cU)))) (aA aF (aA (aN cn (aM (aN cn aC (aM aE))) (aM aE)) aK))))) bO)
   (aU (cC (bL (aN fu (aM (aN cn (aM (aN cn aC (aM aE))) (aM aE))) (aM aE))) (bt (a4 (aA (bV (dU (dv aF) bD (dS (cI (a8 aF) cU)))) (aA aF (aA (aN cn (aM (aN cn aC (aM aE))) (aM aE)) aK))))) bO)
   (bt (a4 (aA (bV (dS (cI (a8 aF) cU))) (aA aF (aA (aN cn (aM (aN cn aC (aM aE))) (aM aE)) aK))))))))))))))),?_⟩)
 rintro ds Pr ⟨ns,p,c,rfl,hns,hb,hc,hp,k⟩;gn_on;have hw0:1<=1+c%2+c / 2%8 / 7/\1+c%2+c / 2%8 / 7<=3:=by lia
 obtain⟨g,hwd,T⟩:∃g:Nat,1+c%2+c / 2%8 / 7=g/\1<=g/\g<=3:=⟨(1+c%2+c / 2%8 / 7).toNat,by lia,by lia⟩
 rw[hwd];clear hwd hw0;gp_on;gn_on;gp_on;gn_on;have go2 : ∀g : Nat,1<=g->g<=3->N [vD (.lst (ns.map D.int)),vI p,vI c,vI g,vI 3,a?,a?,a?,a?,a?,a?]:=λg w1 M=>by
  gp_on;gn_on;have go : ∀(g m:Nat),1<=g->g<=3->m<=1000000->N [vD (.lst (ns.map D.int)),vI p,vI c,vI g,vI m,a?,a?,a?,a?,a?,a?]:=λg m w1 M hmo=>by
   gp_on;gn_on;refine⟨⟨by lia,by lia⟩,?_⟩;rw[AX];gp_on;gn_on;refine⟨⟨by lia,by lia⟩,?_⟩;rw[AX];refine⟨λi δ=>∃(cs:List Int) (o6 o7 o8:Option Sl),δ=[vD (.lst (ns.map D.int)),vI p,vI c,vI g,vI m,vL (cs.map λx=>.fz (.int x)),o6,o7,o8,a?,a?]/\cs.length=g/\∀x∈cs,0<=x/\x<=2*(m:Int),⟨Ar g 0,a?,a?,a?,by rw[Eh],BA,λx hx=>by rw[(CO.mp hx).2];lia⟩,?_,?_⟩
   .rintro i d δ hd ⟨cs,o6,o7,o8,rfl,t,r⟩;obtain⟨hi,rfl⟩:=eU hd;rw[show (0:Int)+(i:Int)*1=(i:Int) by lia];gn_on;refine⟨by lia,?_⟩;have ea:(i:Int)%(g:Int)=(i%g:Nat):=rfl;have Mr:=Nat.mod_lt i (show 0<g by lia);rw[ea];generalize i%g=a at Mr;gp_on;gn_on;have ϰ:=Ad hi;refine⟨.int ns[i],dw (by rw[AK,ϰ];rfl),?_⟩;dsimp only;have hpb:iV ((p:Int)+1)<=2000000:=ib5 hp;refine⟨⟨Bz (hb _ (BJ hi)) (by decide),hpb⟩,?_⟩;generalize ns[i]*((p:Int)+1)+p=more;gp_on;fin2;have hca:=Ad (show a<cs.length by lia);have hcb:=r _ (BJ (show a<cs.length by lia));refine⟨.int cs[a],dw (by rw[AK,hca];rfl),?_⟩;dsimp only;have h0:=FQ (cs[a]*7+more) (show (2*(m:Int)+1)≠0 by lia);have h1:=FR (cs[a]*7+more) (show (0:Int)<2*(m:Int)+1 by lia);refine⟨.inl ⟨by lia,by lia⟩,by lia,a,Oe (show a<cs.length by lia),_,_,_,_,rfl,by rw[Bk];exact t,λx hx=>?_⟩;rcases GR hx with z |z
    .exact r x z
    .rw [z];lia
   .rintro δ ⟨cs,o6,o7,o8,rfl,t,r⟩;gp_on;gn_on;refine f9.Ŏ cs D.int (λx=>.fz (.int (x-m))) (by lia) (λx _ Q q=>?_) ?_
    .fin2;exact q
    obtain⟨ys,U,u,hyb⟩:∃ys:List Int,cs.map (λx=>x-(m:Int))=ys/\ys.length=g/\∀y∈ys,-1000000<=y/\y<=1000000:=⟨_,rfl,by rw[Au,t],λy hy=>by
     obtain⟨x,hx,rfl⟩:=Be.mp hy;have:=r x hx;lia⟩
    rw[show OV.val (.nl (cs.map λx=>.fz (.int (x-(m:Int))))) = .lst (ys.map .int) by show D.lst (OV.vals _)=_;rw[OV.c7,<- U,AW,AW];rfl];clear U r t;gp_on;gn_on;obtain⟨nm,fs,q1,q2,hf3,ok⟩:=Ŋ (c / 80%4) (by lia) (by lia);refine⟨_,q1,nm,_,rfl,q2,?_⟩;obtain⟨L,J,hL3⟩:∃L:Nat,c / 320%3=L/\L<=2:=⟨(c / 320%3).toNat,by lia,by lia⟩
    dsimp only[OV.val];gp_on;have h60:10*fs.length*L<=60:=by
     have:=Dp (Dj 10 hf3) (show L<=2 by lia);lia
    have G:∀i,-2^20<=ys.getD i 0/\ys.getD i 0<=2^20:=λi=>by
     rw[Ak]
     cases q:ys[i]? with
     |none=>exact⟨by decide,by decide⟩
     |some y=>
      have:=hyb y (Ai q);exact⟨by show -2^20<=y;lia,by show y<=2^20;lia⟩
    have kW:∀(h w:Nat) (e:Nat->Nat->Int),0<h->h<=3->0<w->w<=3->(∀i j,-2^20<=e i j/\e i j<=2^20)->qM [RX h w e,eK fs,.int L] Pr:=λh w e h0 hh T hw he=>by
     have hm:h*w<=9:=Dp hh hw;refine⟨h,w,e,fs,L,20,rfl,by lia,ok,by lia,h0,by lia,T,by lia,by decide,by decide,he,?_,λn bs v _ _ hn _ F hv S C hus hbl=>?_⟩
     .have:=Dp (Dj 3 hm) (show 20+10*fs.length*L+1<=81 by lia);lia
     .have ϭ:=yp (h:=h) (w:=w) (L:=L) (e:=e) (fs:=fs);rw[ϭ]at F S;obtain⟨x,o,ex⟩:=Zh ok h0 (by lia) T (by lia) (by lia) (by lia) (by lia) (by lia) F S C hv hus;have:=k x o;rw[ex]at this;exact this
    gn_on;have nx:N [vD (.lst (ns.map D.int)),vI p,vI c,vI g,vI m,vL (cs.map λx=>.fz (.int x)),o6,o7,o8,vD (.lst (ys.map D.int)),vD (eK fs)]:=by
     gp_on;gn_on;rw[J];split
     .refine f9.map ys D.int (λy=>.nl [.fz (.int y)]) (by lia) (λy _ Q q=>?_) ?_
      .fin2;exact q
      have ev:OV.val (.nl (ys.map λy=>.nl [.fz (.int y)]))=RX g 1 λi _=>ys.getD i 0:=by
       show D.lst (OV.vals _)=D.lst _
       rw[OV.c7,AW,m9,u];rfl
      rw[ev];exact kW g 1 _ (by lia) M (by decide) (by decide) λi _=>G i
     .gp_on;fin2;rw[J];have ev:D.lst [D.lst (ys.map D.int)]=RX 1 g λ_ j=>ys.getD j 0:=by
       rw[m9,u];rfl
      rw[ev];exact kW 1 g _ (by decide) (by decide) (by lia) M λ_ j=>G j
    split
    .split
     .refine ⟨⟨Bz hc (by decide),by decide +kernel⟩,?_⟩;split
      .rw [J];obtain⟨zs,hzl,hzm,hze⟩:=rv3 ys (by lia);rw[show (Bo OV.val (Bo OV.fz (Jl (λx=>(Bo D.int ys)[x]?) (NK ys.length))))=zs.map D.int by rw[hze,AW,AW];rfl];have ev:D.lst [D.lst (ys.map D.int),D.lst (zs.map D.int)]=RX 2 g λi j=>if i=0 then ys.getD j 0 else zs.getD j 0:=by
        rw[m9,m9,hzl,u];rfl
       rw[ev];refine kW 2 g _ (by decide) (by decide) (by lia) M λi j=>?_
       split
       .exact G j
       .rw [Ak]
        cases q:zs[j]? with
        |none=>exact⟨by decide,by decide⟩
        |some y=>
         have:=hyb y (hzm y (Ai q));exact⟨by show -2^20<=y;lia,by show y<=2^20;lia⟩
      .exact nx
     .exact nx
    .exact nx
  split
  .split
   .exact go 1 1000000 (by decide) (by decide) (by decide)
   .exact go g 3 w1 M (by decide)
  .exact go g 3 w1 M (by decide)
 split
 .exact go2 1 (by decide) (by decide)
 .exact go2 g T.1 T.2
theorem VQ (h:Vc xs t W ks)(h':Vc xs t c a):W=c/\ks=a:=by
 have e:=Int.le_antisymm (h.least c h'.pos h'.sum) (h'.least W h.pos h.sum);subst e;refine⟨rfl,DP λi=>?_⟩
 cases q:xs[i]? with
 |none=>
  have:=List.getElem?_eq_none_iff.mp q;rw[Bd (by rw[h.len];exact this),Bd (by rw[h'.len];exact this)]
 |some x=>
  obtain⟨k,g,_,A,_⟩:=h.at_ i x q;obtain⟨j,f,_,B,_⟩:=h'.at_ i x q;rw[g,f,A,B]
theorem Z_ (Df:bN K mg "law" xO f fd)(B:b_ mg)(KV:b7 K)(a:cc P w K mg base "_law_cell_at" 1 ["_law_script","_law_k"] (cg K 2 ka))(t:cc P w K mg base "_law_stream" 7 ["_law_script","_law_place","_law_cell"] (cg K 3 lK))(C:tF P w K mg base "share" 14 ["streams","total"] (zH K 2 (um T T') qI))(g:cc P w K mg base "_law_right" 13 ["_law_streams","_law_total","_law_found"] (xI K 3 (um T T') mG))(r:cc P w K mg base "_law_refused" 15 ["_law_streams","_law_total"] (xI K 2 (um T T') j_))(p:cc P w K mg base "_law_spoiled" 1 ["_law_streams","_law_cell"] (cg K 2 j9))(e:cc P w K mg base "_law_whole" 1 ["_law_found"] (cg K 1 jd)):
  fR P w K mg base jT 16 f fd ["_law_script"] (p9 K T ⟨307,4,308,49⟩ "enough.<locals>.fits" T' ⟨344,36,344,90⟩ "Search.put.<locals>.<lambda>"):=by
 refine Uh Df ir (λc A o s H E j=>⟨_,_,(aG (a5 (i:=1) ir.nd rfl (An rfl) (aW cH aJ (aW dA (aY a (j.mono (by decide)) (by rfl) (ae (pv 0) (ae aJ aD))) aJ)))
   (aG (gJ (i:=2) ir.nd rfl (An rfl) rfl (eI (by rfl) (by exact B.range) (ae (pv 1) aD)) (show bX (aB xO) _ from⟨rfl,by decide +kernel,by decide +kernel,by decide +kernel⟩) (N:=["_law_k","_law_script"]) (ix:=[a?,a! 0]) (show cW _ _ _ _ from⟨⟨rfl,rfl,.inl rfl⟩,trivial⟩) (λ_ _ _=>(bB (i:=0) (show Bp (["_law_k","_law_script"]:List Al) by decide +kernel) rfl (An rfl))) (λ_ _ _=>(aY t (j.mono (by decide)) (by rfl) (ae (pv 1) (ae (pv 0) (ae (aY a (j.mono (by decide)) (by rfl) (ae (pv 1) (ae (aW cH aJ (pv 0)) aD))) aD))))))
   (aG (a5 (i:=3) ir.nd rfl (An rfl) (aV lu (by rfl) B.sum IQ (ae (d_ rfl (c8 (pv 2)) (show bX (aB xO) _ from⟨rfl,by decide +kernel,by decide +kernel,by decide +kernel⟩) (N:=["_law_stream_here"]) (ix:=[a?]) (show cW _ _ _ _ from trivial) (λ_ _ _=>(bB (i:=0) (show Bp (["_law_stream_here"]:List Al) by decide +kernel) rfl (An rfl))) (λ_ _ _=>(aV dk (by rfl) B.len Bf (ae (aS aQ (pv 0) aJ (λ_ _=>rfl)) aD)))) aD)))
   (aG (a5 (i:=4) ir.nd rfl (An rfl) (aW dA (aW di (aY a (j.mono (by decide)) (by rfl) (ae (pv 0) (ae aJ aD))) aJ) (aW cH (pv 3) aJ)))
   (aG (cj (bI eX (aW dA (aY a (j.mono (by decide)) (by rfl) (ae (pv 0) (ae aJ aD))) aJ) aJ (bG _)) (aI (a5 (i:=4) ir.nd rfl (An rfl) (aS bR (cV (ae aJ (ae (pv 3) aD))) (aW dA (aW di (aY a (j.mono (by decide)) (by rfl) (ae (pv 0) (ae aJ aD))) aJ) aJ) (λ_ _=>rfl)))) bM)
   (aG (a5 (i:=5) ir.nd rfl (An rfl) (iS gW (by rfl) B.list Bn (ae (pv 2) aD)))
   (aG (a5 (i:=6) ir.nd rfl (An rfl) (aY C.ĕ (j.mono (by decide)) (by rfl) (ae (pv 5) (ae (pv 4) aD))))
   (aG (cj (jM (dq (cD (aY g (j.mono (by decide)) (by rfl) (ae (pv 2) (ae (pv 4) (ae (pv 6) aD)))))) (iF (bI (Tn j.units) (pv 5) (pv 2) (bG _)))).pt (aI (aX gO)) bM)
   (aG (cj (dq (cD (aY r (j.mono (by decide)) (by rfl) (ae (aY p (j.mono (by decide)) (by rfl) (ae (pv 2) (ae (aY a (j.mono (by decide)) (by rfl) (ae (pv 0) (ae aJ aD))) aD))) (ae (pv 4) aD))))) (aI (aX gO)) bM)
   (aG (a5 (i:=7) ir.nd rfl (An rfl) (iS gW (by rfl) B.list Bn (ae (aS aQ (pv 6) aJ (λ_ _=>rfl)) aD)))
   (aG (a5 (i:=8) ir.nd rfl (An rfl) (aY C.ĕ (j.mono (by decide)) (by rfl) (ae (pv 5) (ae (pv 4) aD))))
   (aG (cj (bI (Tn j.units) (pv 8) (pv 6) (bG _)) (aI (aX gO)) bM)
   (aG (bY (gM Bj PySem.F.slot_list_append PySem.F.type_list_append dD (aS aQ (pv 8) aJ (λ_ _=>rfl)) (ae (ye qz aJ) aD)))
   (aI (aX (mf (ec (Z2 j.units) (aS aQ (pv 6) aJ (λ_ _=>rfl)) (pv 7) (bG _)) (kL (aY e (j.mono (by decide)) (by rfl) (ae (aS aQ (pv 6) aJ (λ_ _=>rfl)) aD))))))))))))))))))),
  (cz (bU.y (bx (a8 (aN b9 (aM aE) (aM (aN cn (aM (bV (a4 (aA aF (aA aE aK))))) (aM aE)))))))
   (cz (bU.y (bx (a8 (bV (dU (gq (aH aC aP)) bD (a4 (aA aF (aA aF (aA (bV (a4 (aA aF (aA (aN b9 (aM aE) aC) aK)))) aK)))))))))
   (cz (bU.y (bx (a8 (bP xj (aH (aM (bV (dU (dv aF) bD (a8 (bP ij (aH (bA (dm.b aT) aC (aM aE)) aP)))))) aP)))))
   (cz (bU.y (bx (a8 (aN cn (aM (aN cn (aM (bV (a4 (aA aF (aA aE aK))))) (aM aE))) (aM (aN b9 aC (aM aE)))))))
   (cz (bU.y (cC (bL (aN fu (aM (aN cn (aM (bV (a4 (aA aF (aA aE aK))))) (aM aE))) (aM aE))) (bx (a8 (bE cw (bV (dS (cI (a8 aE) (cI (a8 aF) cU)))) (aN cn (aM (aN cn (aM (bV (a4 (aA aF (aA aE aK))))) (aM aE))) (aM aE))))) bO))
   (cz (bU.y (bx (a8 (bV (xQ nG (aA aF aK))))))
   (cz (zt (Rj eP (aA aF (aA aF aK))))
   (cz (λF0 H0 hT=>XJ (ġ (Rl (Ģ (Y5 ((pY eP (λ_ h=>h) (aA aF (aA aF (aA aF aK)))) F0 H0 hT)))) (Xaa (bL (aN wJ aC aC)))) (bU.x (bt (a8 hV))) (bU.x bO))
   (cz (λF0 H0 hT=>XJ (Rl (Ģ (Y5 ((pY eP (λ_ h=>h) (aA (bV (a4 (aA aF (aA (bV (a4 (aA aF (aA aE aK)))) aK)))) (aA aF aK))) F0 H0 hT)))) (bU.x (bt (a8 hV))) (bU.x bO))
   (cz (bU.y (bx (a8 (bV (xQ nG (aA (bE aT aF aE) aK))))))
   (Ri eP (aA aF (aA aF aK)) (bL (aN wJ aC aC)) (rk (aM aE))
   (bU.y (bt (a8 (jt (aN wJ (bA (dm.b aT) aC (aM aE)) aC) (bV (a4 (aA (bE aT aF aE) aK)))))))))))))))))),?_⟩)
 intro ns hns U;have hg:∀i,iV (ns.getD i 0)<=1048576:=λi=>by
  rw[Ak]
  cases q:ns[i]? with
  |none=>decide +kernel
  |some y=>exact U y (Ai q)
 gn_on;refine⟨ns,0,rfl,by decide,?_⟩;fin2;obtain⟨m,M,m1,m3⟩:∃m:Nat,1+ns.getD 0 0%5=m/\1<=m/\m<=5:=⟨(1+ns.getD 0 0%5).toNat,by lia,by lia,by lia⟩
 rw[M];clear M;gp_on;gn_on;refine⟨⟨by lia,by lia⟩,?_⟩;rw[AX];refine⟨λi δ ts=>∃(xs:List dG) (o0:Option Sl),δ=[o0,vD (.lst (ns.map D.int))]/\ts=xs.map (λx=>.fz x.d)/\xs.length=i/\∀x∈xs,x.Ok,⟨[],a?,rfl,rfl,rfl,λ_ h=>(by cases h)⟩,?_,?_⟩
 .rintro i d δ ts hd ⟨xs,o0,rfl,rfl,hl,ok⟩;obtain⟨hi,rfl⟩:=eU hd;refine⟨by rw[Au];lia,?_⟩;rw[show (0:Int)+(i:Int)*1=(i:Int) by lia];fin2;refine⟨ns,1+i,rfl,by lia,?_⟩;fin2;refine⟨ns,i,_,rfl,hns,U,hg _,by lia,λx o=>⟨xs++[x],_,rfl,by rw[Bc];rfl,by rw[AE,hl];rfl,λy v=>?_⟩⟩;rcases AB.mp v with z |z
  .exact ok y z
  .rw [AV.mp z];exact o
 rintro δ ts ⟨xs,o0,rfl,rfl,hl,ok⟩;rw[eG]at hl;rw[show OV.val (.nl (xs.map λx=>.fz x.d)) = .lst (xs.map dG.d) by show D.lst (OV.vals _)=_;rw[OV.c7,AW];rfl];have L:oN xs:=⟨ok,by lia⟩
 clear hg;gp_on;gn_on;refine f9.map xs dG.d (λx=>.fz (.int x.bs.length)) (by lia) (λx M Q q=>?_) ?_
 .simp only[dG.d];fin2;rw[cX];exact⟨(ok x M).l,q⟩
 dsimp only[OV.val];refine⟨xs.map λx=>(x.bs.length:Int),by rw[OV.c7,AW,AW];rfl,?_⟩;have hs:=sy xs xs.length (Ag _);rw[BD]at hs;rw[hs];clear hs;generalize kR xs xs.length=S;gp_on;gn_on;refine⟨ns,4,rfl,by decide,?_⟩;fin2;refine⟨by lia,?_⟩;generalize ns.getD 4 0=c4;obtain⟨t0,ht⟩:∃t0:Nat,c4 / 4%((S:Int)+4)=t0:=⟨(c4 / 4%((S:Int)+4)).toNat,by have:=FQ (c4 / 4) (show (S:Int)+4≠0 by lia);lia⟩
 rw[ht];clear ht;gp_on;gn_on;have go:∀O:Nat,N [vD (.lst (ns.map D.int)),vI m,vD (.lst (xs.map dG.d)),vI S,vI O,a?,a?,a?,a?]:=λO=>by
  gp_on;gn_on;rw[show Bo OV.val (Bo OV.fz (xs.map dG.d))=xs.map dG.d by rw[AW];exact Ik _];gp_on;gn_on;refine .inl ⟨xs,O,rfl,L,by lia,λW ks sh=>?_⟩;fin2;rw[show Bo OV.val (ks.map λ(k:Nat)=>OV.fz (D.int k))=ks.map λ(k:Nat)=>.int k by rw[AW];rfl];have G:∀z∈ks.map λ(k:Nat)=>D.int k,∀n,D.ft n z:=λz u n=>by
   obtain⟨k,_,rfl⟩:=Be.mp u;exact ml
  gp_on;gn_on;refine⟨xs,O,W,ks,rfl,L,sh,?_⟩;dsimp only[OV.val];rw[c? (by decide)];refine⟨⟨_,.inr rfl,λz u=>?_⟩,?_⟩
  .obtain ⟨x,_,rfl⟩:=Be.mp u;refine .tup λy v=>?_
   simp only[AJ,Cn,or_false]at v;rcases v with rfl |rfl
   .exact .tup λ_ v=>Ť v
   .exact D.MB.ft (.inr (.inl ⟨_,rfl⟩))
  gp_on;gn_on;refine⟨ns,5,rfl,by decide,?_⟩;refine⟨xs,_,rfl,L,by lia,λJ U=>?_⟩;fin2;refine⟨J,O,by rw[AW];exact congrArg (λz=>[D.lst z,.int O]) (Ik J),U,?_⟩;dsimp only[OV.val];rw[c? (by decide)];gp_on;gn_on;have ek:Bo OV.val (Bo OV.fz (ks.map λ(k:Nat)=>D.int k))=ks.map λ(k:Nat)=>.int k:=by rw[AW];exact Ik _
  have ek2:Bo OV.val (ks.map λ(k:Nat)=>OV.fz (D.int k))=ks.map λ(k:Nat)=>.int k:=by rw[AW];rfl
  rw[ek];gp_on;unfold SM;fin2;refine .inl ⟨xs,O,rfl,L,by lia,λW' ks' sh'=>?_⟩;obtain⟨rfl,rfl⟩:=VQ sh sh';have hkl:=sh.len;refine⟨_,rfl,by rw[Au];lia,by decide,?_⟩;fin2;rw[ek2];refine⟨rfl,⟨_,.inl rfl,λz u=>?_⟩,⟨_,.inr rfl,λz u=>G z u 4⟩,W,rfl,rfl⟩;simp only[AJ,Cn,or_false]at u;rcases u with rfl |rfl
  .exact ml
  .exact .lst λy v=>G y v 3
 refine⟨ns,4,rfl,by decide,?_⟩;dsimp only[OV.val];refine⟨by decide,?_⟩;split
 .refine ⟨ns,4,rfl,by decide,?_⟩;dsimp only[OV.val];refine⟨⟨by decide,by decide⟩,?_⟩;rcases (show ns.getD 4 0 / 4%2=0∨ns.getD 4 0 / 4%2=1 by lia) with q |q
  .exact ⟨.int 0,by rw[show ns.getD (4:Int).toNat 0 / 4%2=0 from q];rfl,go 0⟩
  .exact ⟨.int S,by rw[show ns.getD (4:Int).toNat 0 / 4%2=1 from q];rfl,go S⟩
 .exact go t0
end
theorem Xa3 {w:AR}{K:Aq}{h:Heap}{mg:Al->Option Aa}(X:K.In h)(G:h.Ns Aj mg)
  (bb:B5 K Aj "PART_SPANS"=a! (a! (.ref q))) (ba:K.lookup q=a! ⟨.type "tuple",Vn,.seq #[.ref g,.ref f,.ref e,.ref c,.ref A] Vo,Vm⟩)
  (ai:K.lookup g=a! ⟨.type "tuple",Q1,.seq #[.int 0 M',.int 1 M_] Q7,QV⟩)
  (aj:K.lookup f=a! ⟨.type "tuple",Q0,.seq #[.int (-8) M9,.int 8 M8] Q6,QU⟩)
  (ak:K.lookup e=a! ⟨.type "tuple",QZ,.seq #[.int (-8) M7,.int 8 M6] Q5,QT⟩)
  (am:K.lookup c=a! ⟨.type "tuple",QY,.seq #[.int (-64) M5,.int 64 M4] Q4,QS⟩)
  (al:K.lookup A=a! ⟨.type "tuple",QX,.seq #[.int 0 M3,.int 8 M2] Q3,QR⟩)
  (bp:B5 K Aj "SIZES"=a! (a! (.ref Va))) (bo:K.lookup Va=a! ⟨.type "tuple",Ņ,.seq #[.int 1 Za,.int 64 Y_] ŋ,ı⟩)
  (au:B5 K Aj "NUMBER_SPANS"=a! (a! (.ref B))) (ao:K.lookup B=a! ⟨.type "tuple",Q2,.seq #[.ref M,.ref U,.ref T,.ref a] Q8,QW⟩)
  (aa:K.lookup M=a! ⟨.type "tuple",N4,.seq #[.int 1 zm,.int 64 zl] N9,Nw⟩)
  (ac:K.lookup U=a! ⟨.type "tuple",N3,.seq #[.int 1 zk,.int 64 Q] N8,Nv⟩)
  (af:K.lookup T=a! ⟨.type "tuple",N2,.seq #[.int 0 O,.int 6 J] N7,Nu⟩)
  (ag:K.lookup a=a! ⟨.type "tuple",N1,.seq #[.int 0 C,.int 4000 z] N6,Nt⟩)
  (bn:B5 K Aj "LADDERS"=a! (a! (.ref p))) (bi:K.lookup p=a! ⟨.type "dict",a?,.dict #[⟨E9 w.params "still",.str "still" Vz,.ref v⟩,⟨E9 w.params "pair",.str "pair" Vy,.ref u⟩,⟨E9 w.params "line",.str "line" Vx,.ref t⟩,⟨E9 w.params "long",.str "long" Vw,.ref r⟩] Ä,#[]⟩) (bj:(p==Fl)=b?)
  (bh:K.lookup v=a! ⟨.type "tuple",WC,.seq #[] WL,VO⟩)
  (be:K.lookup u=a! ⟨.type "tuple",WB,.seq #[.ref o,.ref n] WK,VN⟩)
  (ax:K.lookup o=a! ⟨.type "tuple",TR,.seq #[.int 1 Pw,.int (-1) Pu,.int 0 Pt,.int 0 Pq,.int 0 Pp] T5,RV⟩)
  (az:K.lookup n=a! ⟨.type "tuple",TQ,.seq #[.int 0 Po,.int 0 Pn,.int 1 Pm,.int 0 Pl,.int 1 Pk] T4,RU⟩)
  (bf:K.lookup t=a! ⟨.type "tuple",WA,.seq #[.ref m,.ref l] WJ,VM⟩)
  (ap:K.lookup m=a! ⟨.type "tuple",TN,.seq #[.int 1 Pj,.int (-1) Ph,.int (-1) Pg,.int 1 Pf,.int 1 Pe] T3,RT⟩)
  (ay:K.lookup l=a! ⟨.type "tuple",TM,.seq #[.int 0 Pd,.int 1 Pc,.int 1 Pb,.int 2 O',.int 2 O_] T2,RS⟩)
  (bg:K.lookup r=a! ⟨.type "tuple",Wz,.seq #[.ref k,.ref j,.ref L] WI,VL⟩)
  (av:K.lookup k=a! ⟨.type "tuple",TL,.seq #[.int 1 O9,.int (-1) O8,.int (-1) O7,.int 1 O6,.int 1 O5] T1,RQ⟩)
  (aw:K.lookup j=a! ⟨.type "tuple",TJ,.seq #[.int 0 O1,.int 1 OZ,.int 1 OY,.int 2 OX,.int 2 OW] TZ,RP⟩)
  (aq:K.lookup L=a! ⟨.type "tuple",TH,.seq #[.int 1 OU,.int (-1) OT,.int (-1) OS,.int 4 OR,.int 3 OQ] TY,RO⟩):
  MV K mg "PART_SPANS" (D.tup [.tup [.int 0,.int 1],.tup [.int (-8),.int 8],.tup [.int (-8),.int 8],.tup [.int (-64),.int 64],.tup [.int 0,.int 8]])/\MV K mg "SIZES" (D.tup [.int 1,.int 64])/\MV K mg "NUMBER_SPANS" (D.tup [.tup [.int 1,.int 64],.tup [.int 1,.int 64],.tup [.int 0,.int 6],.tup [.int 0,.int 4000]])/\Vi w K mg "LADDERS" [("still",.tup []),("pair",.tup [.tup [.int 1,.int (-1),.int 0,.int 0,.int 0],.tup [.int 0,.int 0,.int 1,.int 0,.int 1]]),("line",.tup [.tup [.int 1,.int (-1),.int (-1),.int 1,.int 1],.tup [.int 0,.int 1,.int 1,.int 2,.int 2]]),("long",.tup [.tup [.int 1,.int (-1),.int (-1),.int 1,.int 1],.tup [.int 0,.int 1,.int 1,.int 2,.int 2],.tup [.int 1,.int (-1),.int (-1),.int 4,.int 3]])]:=
 ⟨⟨_,Ga X G bb,λF=>⟨_,[.ref g,.ref f,.ref e,.ref c,.ref A],rfl,.inr ⟨_,_,_,ba,rfl,rfl,eS (show 5<=1000000 by decide),.cons rfl (.cons rfl (.cons rfl (.cons rfl (.cons rfl (.nil)))))⟩,⟨_,_,rfl,(t2 ai F),⟨_,_,rfl,(t2 aj F),⟨_,_,rfl,(t2 ak F),⟨_,_,rfl,(t2 am F),⟨_,_,rfl,(t2 al F),rfl⟩⟩⟩⟩⟩⟩⟩,⟨_,Ga X G bp,λF=>(t2 bo F)⟩,⟨_,Ga X G au,λF=>⟨_,[.ref M,.ref U,.ref T,.ref a],rfl,.inr ⟨_,_,_,ao,rfl,rfl,eS (show 4<=1000000 by decide),.cons rfl (.cons rfl (.cons rfl (.cons rfl (.nil))))⟩,⟨_,_,rfl,(t2 aa F),⟨_,_,rfl,(t2 ac F),⟨_,_,rfl,(t2 af F),⟨_,_,rfl,(t2 ag F),rfl⟩⟩⟩⟩⟩⟩,Xj (Ga X G bn) bi (⟨⟨_,_,rfl,rfl⟩,⟨⟨_,_,rfl,rfl⟩,⟨⟨_,_,rfl,rfl⟩,⟨⟨_,_,rfl,rfl⟩, trivial⟩⟩⟩⟩) bj (.cons (λF=>⟨_,[],rfl,.inr ⟨_,_,_,bh,rfl,rfl,eS (show 0<=1000000 by decide),.nil⟩,rfl⟩) (.cons (λF=>⟨_,[.ref o,.ref n],rfl,.inr ⟨_,_,_,be,rfl,rfl,eS (show 2<=1000000 by decide),.cons rfl (.cons rfl (.nil))⟩,⟨_,_,rfl,(t5 ax F),⟨_,_,rfl,(t5 az F),rfl⟩⟩⟩) (.cons (λF=>⟨_,[.ref m,.ref l],rfl,.inr ⟨_,_,_,bf,rfl,rfl,eS (show 2<=1000000 by decide),.cons rfl (.cons rfl (.nil))⟩,⟨_,_,rfl,(t5 ap F),⟨_,_,rfl,(t5 ay F),rfl⟩⟩⟩) (.cons (λF=>⟨_,[.ref k,.ref j,.ref L],rfl,.inr ⟨_,_,_,bg,rfl,rfl,eS (show 3<=1000000 by decide),.cons rfl (.cons rfl (.cons rfl (.nil)))⟩,⟨_,_,rfl,(t5 av F),⟨_,_,rfl,(t5 aw F),⟨_,_,rfl,(t5 aq F),rfl⟩⟩⟩⟩) (.nil)))))⟩
end Lw
namespace PySem.W.Fast
def z:=Nat
def tw8479235023224161421:=z
def tw15788730750927793622:=z
def tw7403072853869565022:=z
def tw11413269390436285548:=z
def tw2784034622974482114:=z
def tw2204970023319492219:=z
def tw259794502075311594:=z
def tw16767787478155779271:=z
def tw4568429354052166777:=z
def tw11444484557209934906:=z
def tw906610105150946058:=z
def tw16694573629115943334:=z
def tw9726124057899148531:=z
def tw1699167748755750097:=z
def tw6860673009312222197:=z
def tw12030609185185306050:=z
def tw13272529312419610194:=z
def tw12519002068812779521:=z
def tw2457533279565092470:=z
def tw11266024853443370400:=z
def tw4031779935849088844:=z
def tw16947566395564911961:=z
def tw6154070062812485079:=z
def tw9457156195813266555:=z
def tw15586651597792082706:=z
def tw15482826618008096119:=z
def tw880289820489873929:=z
def tw6473137190320539532:=z
def tw13503322454495268591:=z
def tw6730077994579887107:=z
def tw15128590945981188068:=z
def tw16035114486690527049:=z
def tw15430713746415225408:=z
def tw15285795038038304139:=z
def tw5837748012669586282:=z
def tw16762059240869712945:=z
def tw14770956474401711243:=z
def tw7102461489187150884:=z
def tw10354862938645682014:=z
def tw15590006975291142687:=z
def tw5841419723117825496:=z
def tw16994335507555427404:=z
def tw15209534128605019804:=z
def tw6575195127246972455:=z
def tw1720093327860583344:=z
def tw11290543358908205002:=z
def tw12180911808763764033:=z
def tw13112365125966585530:=z
def tw2984252345351660460:=z
def tw17387500333771594795:=z
def tw1475352260853020009:=z
def tw652815403844777189:=z
def tw14258024362092149115:=z
def tw15670038446848986283:=z
def tw4111054699782641324:=z
def tw654998276995430522:=z
def tw16073337245704917140:=z
def tw3471388463896544115:=z
def tw4136457243568550764:=z
def tw135238219745138608:=z
def tw13270253856799149830:=z
def tw15845550256065303115:=z
def tw15948686906378855237:=z
def tw11542711785467292541:=z
def tw10006393250337251481:=z
def tw11977315508299113279:=z
def tw11892652672082473668:=z
def tw8068089661767282645:=z
def tw8941953180536881460:=z
def tw2111274496827647091:=z
def tw6109731743882042800:=z
def tw12217293414821836325:=z
def tw10041978242907754994:=z
def tw5005905529925418148:=z
def tw12182867102078241145:=z
def tw14951941758366138763:=z
def tw5256535746521898610:=z
def tw2668494536515534398:=z
def tw10117468937368694948:=z
def tw13279078995981656284:=z
def tw6577754128004205312:=z
def tw12274441566308492685:=z
def tw2894477245118860754:=z
def tw4296766977785588917:=z
def tw13107502533608197181:=z
def tw2742384832072218218:=z
def tw5442810476911486506:=z
def tw15906392036241267284:=z
def tw2121864413797068656:=z
def tw6018169631492966450:=z
def tw16387644471843404937:=z
def tw17357967886933867933:=z
def tw289694120603925088:=z
def tw12876604660097390086:=z
def tw2075427594668109527:=z
def tw11111008620370166291:=z
def tw1390750948979966794:=z
def tw16559375222070728776:=z
def tw12355490101706650393:=z
def tw9814869275344755722:=z
def tw11084473572783583165:=z
def tw16565259383415729515:=z
def tw8682108663665331810:=z
def tw15564995976077334306:=z
def tw1802848625664108873:=z
def tw12908774552868170719:=z
def tw5831024048940837335:=z
def tw8181181899522915182:=z
def tw9589302987341695282:=z
def tw9001325098450737475:=z
def tw13715309821312469210:=z
def tw13285521270148243220:=z
def tw3879407759304805961:=z
def tw16390487262184402985:=z
def tw16908855409950748223:=z
def tw7515081996945713294:=z
def tw9560978803918872925:=z
def tw18428199981749415414:=z
def tw10172963492529815356:=z
def tw14188352915005306719:=z
def tw9938071420591895005:=z
def tw6118305518037130809:=z
def tw17330446487394837877:=z
def tw1207969960895510112:=z
def tw17723416153335190502:=z
def tw13488119343645435501:=z
def tw17242428132702744925:=z
def tw8815233130632383008:=z
def tw1897857739323908331:=z
def tw14543762788719940919:=z
def tw5606446478458328242:=z
def tw16351927010547838299:=z
def tw7543444204912081724:=z
def tw15840198460354457975:=z
def tw5490661519349979075:=z
def tw13211701935367386211:=z
def tw10741726888515052247:=z
def tw6150609218822801684:=z
def tw4744560785867854039:=z
def tw13570708415167206754:=z
def tw413797760214333171:=z
def tw15864714999094693666:=z
def tw7269750302258250801:=z
def tw12118828827464421184:=z
def tw6768325614374663923:=z
def tw6306361761864136997:=z
def tw10372456219126962980:=z
def tw6640917233003649801:=z
def tw4882670224840802413:=z
def tw15679881113939989350:=z
def tw4617683268635316458:=z
def tw17685019065124727329:=z
def tw17396225563654026812:=z
def tw5363688049905288123:=z
def tw20219894365349329:=z
def tw11668815460715733012:=z
def tw49400054330360318:=z
def tw5915549012984484216:=z
def tw4152214239186868859:=z
def tw13266231110418391128:=z
def tw10901391502153421953:=z
def tw11494263627397014818:=z
def tw13343804363802998803:=z
def tw16141862923770823454:=z
def tw13953973424158326929:=z
def tw8774961305439839070:=z
def tw5154515486547504370:=z
def tw5792913276197731317:=z
def tw144446400462465118:=z
def tw4251989816372150959:=z
def tw14371660160350147126:=z
def tw5402496792265483425:=z
def tw12245302868344916347:=z
def tw18169943522399315097:=z
def tw9223354930768541007:=z
def tw7715234623246695939:=z
def tw13525454767823982594:=z
def tw1722529342315859096:=z
def tw1114088630640179744:=z
def tw7825889405594402414:=z
def tw8796768494483327398:=z
def tw6754243671527250410:=z
def tw3187297265688353170:=z
def tw4018777019123944823:=z
def tw12800220049805093046:=z
def tw6954936033144226159:=z
def tw2670483449888744843:=z
def tw3795987296234477391:=z
def tw14350890678683460980:=z
def tw12941930718385133421:=z
def tw14155654693659665771:=z
def tw7529855553964426982:=z
def tw8242379779172085021:=z
def tw5090619841103386394:=z
def tw5364109957150658653:=z
def tw10923961705734596186:=z
def tw17512227568083489390:=z
def tw5719901282859803288:=z
def tw7745493087633069481:=z
def tw4110130422024491869:=z
def tw13782178894852208455:=z
def tw17749717580499618104:=z
def tw4709758406273556701:=z
def tw8422154113110097391:=z
def tw10391414411211772615:=z
def tw6154954444758017247:=z
def tw10134037489172172058:=z
def tw14380662301409603099:=z
def tw1672789866195200774:=z
def tw12694674466954184331:=z
def tw7164065681564536523:=z
def tw971071705938465898:=z
def tw2758473866552763309:=z
def tw11926451063205683737:=z
def tw4566138602895071774:=z
def tw15169730152925020449:=z
def tw17722274538834426038:=z
def tw17020712858485993797:=z
def tw1624681755778222615:=z
def tw11027307513419654029:=z
def tw6681261544857391261:=z
def tw4885222875326557143:=z
def tw9242432045348914174:=z
def tw4748399880524063471:=z
def tw7055026786934203931:=z
def tw6440109194730735477:=z
def tw3795377892348301142:=z
def tw16198102204149612406:=z
def tw18173335980070409816:=z
def tw16093121803211293882:=z
def tw2777455533044982189:=z
def tw11567663090012542910:=z
def tw2177721674066365295:=z
def tw11724727595222801924:=z
def tw16747148838738011861:=z
def tw17226027760494143533:=z
def tw14362592662197890560:=z
def tw10332758489267722473:=z
def tw1728484428622439795:=z
def tw1745261964403886673:=z
def tw3209033003430506216:=z
def tw5945451432177801668:=z
def tw16838054962373475701:=z
def tw8858868120007311367:=z
def tw297032634310658140:=z
def tw3506488980552876425:=z
def tw13848358214613561497:=z
def tw15974153167917171970:=z
def tw16066109710602638176:=z
def tw13343950550915338274:=z
def tw867452593076375639:=z
def tw18365133363314157451:=z
def tw14390364488482747476:=z
def tw756990242386950249:=z
def tw3639001769172294322:=z
def tw10281318126779928534:=z
def tw15945554644907200309:=z
def tw12123840948738589814:=z
def tw9191099468039671669:=z
def tw1330396842975158650:=z
def tw9940623224775422287:=z
def tw8492572916876134739:=z
def tw15688531765221817848:=z
def tw17534185711862898544:=z
def tw11620792672213005829:=z
def tw3030333078068250202:=z
def tw3447237088950022228:=z
def tw13189827422929299073:=z
def tw10958661002815215899:=z
def tw16400242064107723612:=z
def tw11409190492199595053:=z
def tw1963871456624016924:=z
def tw3706169156093894636:=z
def tw5808077591790823017:=z
def tw539127857201013062:=z
def tw952991320585265669:=z
def tw11204659575198703792:=z
def tw2483549193420180046:=z
def tw9495349488187056524:=z
def tw13062061243351107261:=z
def tw3300319252792676622:=z
def tw7653846080369150232:=z
def tw11644210354766060378:=z
def tw7293601801129627832:=z
def tw5683866317358582098:=z
def tw10447840934416813960:=z
def tw11455044697674306026:=z
def tw15753772561159083474:=z
def tw14976826023237872828:=z
def tw15735386098634228237:=z
def tw15512292607489072812:=z
def tw18432168334756698348:=z
def tw14441994823757581142:=z
def tw2434127914292003612:=z
def tw16773298758855923683:=z
def tw3687395812126777641:=z
def tw5892059127896398459:=z
def tw4323343759980391064:=z
def tw1523701180488559443:=z
def tw560314885028127825:=z
def tw641122758034374146:=z
def tw7447202754391259961:=z
def tw13639571934284483934:=z
def tw6925623145696388393:=z
def tw16734184974376303816:=z
def tw9974684885003253411:=z
def tw766898523302739386:=z
def tw9527632630705738696:=z
def tw12852124435174216220:=z
def tw3033409127523752392:=z
def tw1278361410410290054:=z
def tw14987199280316045029:=z
def tw9084049880749503056:=z
def tw7266340877577353762:=z
def tw3129608370812184514:=z
def tw15351352278692513735:=z
def tw2747262156136185943:=z
def tw8848904089508875299:=z
def tw2866766443001711325:=z
def tw7353570653523636637:=z
def tw16747612104698550696:=z
def tw17873745298762590299:=z
def tw81368260177901739:=z
def tw967322214885944491:=z
def tw3535299401309440398:=z
def tw3427526574428822637:=z
def tw6247149541660895424:=z
def tw15317207537428622118:=z
def tw14155958316495746788:=z
def tw13015234805291115571:=z
def tw15109350610275930270:=z
def tw14280274782664069509:=z
def tw5822832756165150303:=z
def tw6264419274227422172:=z
def tw9889463964870994909:=z
def tw13064907012516232751:=z
def tw6330300198851343520:=z
def tw9379226755251720514:=z
def tw8074261609757839861:=z
def tw3110338852766152132:=z
def tw2814891305910917808:=z
def tw15181617953898176811:=z
def tw5164148638169532851:=z
def tw16150510101485161198:=z
def tw1925752329251634572:=z
def tw9068074389618289614:=z
def tw7670983740441879711:=z
def tw15116137084408033878:=z
def tw10399312066621163977:=z
def tw6802704455537945665:=z
def tw17304363904784040946:=z
def tw4011066066510638870:=z
def tw2498469834358469867:=z
def tw14538365449972003141:=z
def tw2670915480600166792:=z
def tw7732934619909990104:=z
def tw5524490897294797706:=z
def tw1540501553868631629:=z
def tw13176910767863088576:=z
def tw15985757251577087644:=z
def tw12489023771729624022:=z
def tw7911624222254609484:=z
def tw5862140003438235080:=z
def tw8997056156899695999:=z
def tw591847767840015857:=z
def tw16972301073131627265:=z
def tw4389720537349585755:=z
def tw15770318068292385517:=z
def tw9774573920762871110:=z
def tw10579760458466180193:=z
def tw17887977343931152642:=z
def tw5105135234374280262:=z
def tw13507835635640813781:=z
def tw16790348760960685072:=z
def tw6468613317639776168:=z
def tw5925484935674232078:=z
def tw2341677949914051970:=z
def tw12670498650593202480:=z
def tw8812977417691830052:=z
def tw14284426414530910240:=z
def tw13158797016721003419:=z
def tw2689570846213900962:=z
def tw3382100297297909558:=z
def tw13846207462962197857:=z
def tw3369124741807838947:=z
def tw7848771372497620024:=z
def tw2509915611920548592:=z
def tw16150580644499307954:=z
def tw7392948277471436697:=z
def tw250842639333388706:=z
def tw7951574867363215629:=z
def tw16184049863733042836:=z
def tw16676694498540963277:=z
def tw1591415366686047574:=z
def tw14256208628908762187:=z
def tw7102863367992874908:=z
def tw9607757396466420663:=z
def tw3415921242560657065:=z
def tw11467870237843900558:=z
def tw7895469453750937933:=z
def tw3403318316372691957:=z
def tw10789934313460050934:=z
def tw9526413972143301214:=z
def tw8285400537145305155:=z
def tw6135243330620523801:=z
def tw9553987870591393977:=z
def tw5142949706049907830:=z
def tw16530893571002657870:=z
def tw17809243674595746513:=z
def tw4469690132793635794:=z
def tw17854482127758132383:=z
def tw18131879981739560759:=z
def tw8668916994715834232:=z
def tw6510233294495772447:=z
def tw13719764741849263589:=z
def tw12606396910924880005:=z
def tw8238735765620182659:=z
def tw3314002351921351202:=z
def tw16950395032715334221:=z
def tw6656254232495982131:=z
def tw11309173090269149203:=z
def tw7131840234264257304:=z
def tw2974406420165481128:=z
def tw17643120561642620815:=z
def tw11531559111276363370:=z
def tw15997216550715127332:=z
def tw14102960036711592184:=z
def tw17500052319341512609:=z
def tw12257889277595661547:=z
def tw1617631265063981710:=z
def tw11411163878238917143:=z
def tw1106520147603182613:=z
def tw16909458621013532636:=z
def tw13508711625591305990:=z
def tw10772856914246605067:=z
def tw5960057494563504360:=z
def tw17503591922356097044:=z
def tw4639806610876858007:=z
def tw145124085554904519:=z
def tw17828945163581326547:=z
def tw13499755428670268197:=z
def tw2670284182114519652:=z
def tw5891591423608977401:=z
def tw7037953688536226922:=z
def tw2635103388200278287:=z
def tw1766346187622931313:=z
def tw15152370922619449394:=z
def tw1521154995740950197:=z
def tw8414579607512547174:=z
def tw12310961968883941099:=z
def tw6247746151923029866:=z
def tw953593878243899995:=z
def tw5205211294077498991:=z
def tw4532210379864638551:=z
def tw11795304555372943466:=z
def tw8080748410863450788:=z
def tw10922194219867050632:=z
def tw18155174045379133547:=z
def tw10473537581958554589:=z
def tw14668714362527135268:=z
def tw17446130447338977355:=z
def tw16008557739693744704:=z
def tw6441793699271554134:=z
def tw1417413868108609221:=z
def tw10945771742155397071:=z
def tw5745558246848388856:=z
def tw12631822292891319260:=z
def tw13037033188547212740:=z
def tw3009970694224849722:=z
def tw6385424246649736662:=z
def tw10073853653523216083:=z
def tw18443979943586005536:=z
def tw1661827817654504279:=z
def tw12044928686897342848:=z
def tw3937235309166171904:=z
def tw18032686065374515491:=z
def tw14618796798392151429:=z
def tw16000207491856960643:=z
def tw18348003792943081044:=z
def tw296470623045849924:=z
def tw17466279876046763356:=z
def tw11683915216188887399:=z
def tw16296384183310483369:=z
def tw8568551062246450903:=z
def tw5428178518043829907:=z
def tw4183043670699197470:=z
def tw13730123528063758956:=z
def tw7211914227628701288:=z
def tw6664103535646341506:=z
def tw13706674249804513047:=z
def tw17919016982758317046:=z
def tw8083480510889934895:=z
def tw7956325824729323066:=z
def tw2823489544594776792:=z
def tw18439556778142938295:=z
def tw12429743375081035293:=z
def tw13546528123522637086:=z
def tw11680762645496213332:=z
def tw16222172148233456956:=z
def tw2390624266633347346:=z
def tw3388197748900700487:=z
def tw6250901590416699607:=z
def tw18420012261076329094:=z
def tw7329061722624284584:=z
def tw15578273994835896336:=z
def tw14701312269819601558:=z
def tw8836465275991258897:=z
def tw1423037996881091527:=z
def tw8791757285171606311:=z
def tw16178400207793095659:=z
def tw297502361717737230:=z
def tw9577745743747329290:=z
def tw18190739380253910780:=z
def tw18087544555892076019:=z
def tw2298311495772461530:=z
def tw15552651378009561808:=z
def tw12863837590682716470:=z
def tw16483660877475354987:=z
def tw16022159283608751619:=z
def tw1571090567281735288:=z
def tw9036673753336326998:=z
def tw18321981084343429511:=z
def tw13361762639814780771:=z
def tw5472277443659285811:=z
def tw2612646142394744218:=z
def tw6106925015277311489:=z
def tw17334355397863364:=z
def tw10124892992368856720:=z
def tw11107058939963383094:=z
def tw4403189791720466958:=z
def tw2919421509315129846:=z
def tw12960271292143974378:=z
def tw15158500677635295835:=z
def tw13804883950761724938:=z
def tw12632947619217911932:=z
def tw10051291384962848915:=z
def tw2987643083169421909:=z
def tw16128504636824340170:=z
def tw13786923287774490023:=z
def tw13915099534418331079:=z
def tw6591291101211247176:=z
def tw10507062186923350672:=z
def tw12541988884803280790:=z
def tw1107019800310131461:=z
def tw5470457241992380648:=z
def tw17302760667840311909:=z
def tw11975523301930181478:=z
def tw8978037425832508649:=z
def tw16174315804456699203:=z
def tw15037882120284727844:=z
def tw1404663695549946110:=z
def tw2680940092981210227:=z
def tw10976207326883412145:=z
def tw7496216959793570353:=z
def tw1970626236388861815:=z
def tw12163897452157730781:=z
def tw10823917903100127671:=z
def tw6607442630417086488:=z
def tw11728458165697665798:=z
def tw17914428468035995830:=z
def tw3445070868175695563:=z
def tw17050918776704707860:=z
def tw7774489755399535563:=z
def tw7995760301557811185:=z
def tw16784517932877340718:=z
def tw12654031297288955506:=z
def tw14082825238413310054:=z
def tw6365182376243932555:=z
def tw3247170227665207906:=z
end PySem.W.Fast
open PySem PySem.W PyProof.Rows L2 Lw
set_option maxRecDepth 100000 in
set_option maxHeartbeats 0 in
theorem PySem.Challenge.cw_liftwave_k43_share_holds : PySem.Challenge.rw_liftwave_k43_share.Holds := by
 w_on;o_law;k_head;(case hw=>w_witness2)
 k_fill
 refine L2.Mm (k:=16) (l:=PySem.Challenge.rw_liftwave_k43_share) (c:=487) (T:=483) (c':=527) (T':=523) (pos:=⟨307,4,308,49⟩) (q := "enough.<locals>.fits") (pos':=⟨344,36,344,90⟩) (q' := "Search.put.<locals>.<lambda>") rfl rfl ⟨rfl,by decide,by decide⟩ (λw h σ=>⟨PySem.W.km_in_of σ,Jr σ _ (Ax _ Ay),Jr σ _ Ay⟩) (λw h X=>⟨ls X (by k_is) (by rfl) (by decide),ls X (by k_is) (by rfl) (by decide)⟩) (λw=>⟨by kernel_rfl,by kernel_rfl⟩) (by decide) ?F
 case F=>
  intro w mg fa h X G hfa;have B:L2.b_ mg:=⟨⟨mz X G,mz X G,mz X G,mz X G,mz X G,mz X G,mz X G,mz X G,mz X G,mz X G,mz X G,mz X G⟩,mz X G,mz X G,mz X G,mz X G,mz X G,mz X G,mz X G,mz X G,mz X G,mz X G⟩
  have KV:=L2.b7.of2 X (by simp only[pk,BK,D.ϥ,Uo,HM,JC,Bool.false_or,JV,Cn,false_implies,implies_true,and_true];and_intros<;>kit_is);have cF:=Ŭ (c := "Walk") (ns:=Lw.bH) X (hn:=by simp only[Lw.bH,BK];exact⟨by k_is,by k_is,by k_is,by k_is,by k_is,λ_ h=>by cases h⟩) (h1:=by decide +kernel) (h2:=by decide);have d5:=Ŭ (c := "Search") (ns:=Lw.bW) X (hn:=by simp only[Lw.bW,BK];exact⟨by k_is,by k_is,by k_is,by k_is,λ_ h=>by cases h⟩) (h1:=by decide +kernel) (h2:=by decide);have UH:∃t,mg "HALF"=a! (.int 0 t):=⟨_,mv X G⟩
  have UD:∃t,mg "LEFT"=a! (.int 1 t):=⟨_,mv X G⟩
  have Ol:∃t,mg "RIGHT"=a! (.int 2 t):=⟨_,mv X G⟩
  have YA:∃t,mg "ADD"=a! (.int 3 t):=⟨_,mv X G⟩
  have Oj:∃t,mg "SHIFT"=a! (.int 4 t):=⟨_,mv X G⟩
  have wY:∃t,mg "MOST_LIFTS"=a! (.int 6 t):=⟨_,mv X G⟩
  have My:∃t,mg "ASKS"=a! (.int 0 t):=⟨_,mv X G⟩
  have d4:∃t,mg "START_walks"=a! (.int 1 t):=⟨_,mv X G⟩
  have eZ:∃t,mg "END_walks"=a! (.int 2 t):=⟨_,mv X G⟩
  have Mu:∃t,mg "SPAN"=a! (.int 3 t):=⟨_,mv X G⟩
  have sP:∃t,mg "WAKING"=a! (.int 0 t):=⟨_,mv X G⟩
  have kT:∃t,mg "WAKING_FIRST"=a! (.int 1 t):=⟨_,mv X G⟩
  have Mv:∃t,mg "SIGN"=a! (.int 2 t):=⟨_,mv X G⟩
  have sS:∃t,mg "FIGURE"=a! (.int 3 t):=⟨_,mv X G⟩
  have Mw:∃t,mg "HIGH"=a! (.int 0 t):=⟨_,mv X G⟩
  have Mt:∃t,mg "WIDE"=a! (.int 1 t):=⟨_,mv X G⟩
  have sR:∃t,mg "LEVELS"=a! (.int 2 t):=⟨_,mv X G⟩
  have UC:∃t,mg "PLANES"=a! (.int 3 t):=⟨_,mv X G⟩
  have UE:∃t,mg "LADDER"=a! (.int 4 t):=⟨_,mv X G⟩
  have UG:∃t,mg "HEAD"=a! (.int 0 t):=⟨_,mv X G⟩
  have Mx:∃t,mg "BITS"=a! (.int 1 t):=⟨_,mv X G⟩
  have u4:∃t,mg "BREADTH"=a! (.int 0 t):=⟨_,mv X G⟩
  have yI:∃t,mg "STREAM"=a! (.int 1 t):=⟨_,mv X G⟩
  have jO:∃t,mg "START_sharing"=a! (.int 2 t):=⟨_,mv X G⟩
  have tZ:∃t,mg "END_sharing"=a! (.int 3 t):=⟨_,mv X G⟩
  have ⟨wX,Xa,sQ,Qs⟩:=Xa3 (w:=w) X G (by k_is) (by k_is) (by k_is) (by k_is) (by k_is) (by k_is) (by k_is) (by k_is) (by k_is) (by k_is) (by k_is) (by k_is) (by k_is) (by k_is) (by k_is) (by k_is) (by k_is) (by decide +kernel) (by k_is) (by k_is) (by k_is) (by k_is) (by k_is) (by k_is) (by k_is) (by k_is) (by k_is) (by k_is) (by k_is);have D1:=fL (x := "is_number") (st:=Lw.kr) X G;have D2:=fL (x := "plus") (st:=Lw.zU) X G;have D3:=fL (x := "minus") (st:=Lw.vS) X G;have D4:=fL (x := "times") (st:=Lw.vR) X G;have D5:=fL (x := "halved") (st:=Lw.qZ) X G;have D6:=fL (x := "breadth") (st:=Lw.n8) X G;have D7:=fL (x := "broadest") (st:=Lw.jo) X G;have D8:=fL (x := "holds") (st:=Lw.vU) X G;have D9:=fL (x := "is_lift") (st:=Lw.lh) X G;have D10:=fL (x := "is_ladder") (st:=Lw.hU) X G;have D11:=fL (x := "ladder_of") (st:=Lw.kq) X G;have D12:=fL (x := "neighbours") (st:=Lw.jn) X G;have D13:=fL (x := "lifted_places") (st:=Lw.fT) X G;have D14:=fL (x := "gain") (st:=Lw.zW) X G;have D15:=fL (x := "raised") (st:=Lw.qY) X G;have D16:=fL (x := "gain_span") (st:=Lw.ku) X G;have D17:=fL (x := "lowered_spans") (st:=Lw.fS) X G;have D18:=fL (x := "is_row") (st:=Lw.mS) X G;have D19:=fL (x := "is_picture") (st:=Lw.gk) X G;have D20:=fL (x := "change_rows") (st:=Lw.iC) X G;have D21:=fL (x := "change_columns") (st:=Lw.eD) X G;have D22:=fL (x := "laid") (st:=Lw.zV) X G;have D23:=fL (x := "opened_by") (st:=Lw.kl) X G;have D24:=Ū (x := "opened_spans") (st:=Lw.gD) X G;have D25:=fL (x := "thinned") (st:=Lw.lb) X G;have D26:=fL (x := "part_of_one") (st:=Lw.iw) X G;have D27:=fL (x := "calm_span") (st:=Lw.kx) X G;have D28:=fL (x := "signed_span") (st:=Lw.iv) X G;have D29:=fL (x := "figured_span") (st:=Lw.gE) X G;have q30:=ū (c := "Walk") (q := "Walk.__init__") (st:=Lw.fV) X G;have ⟨D30,Ĉ⟩:=q30;have D31:=oH (m := "turn") (q := "Walk.turn") (st:=Lw.kz) X cF;have D32:=oH (m := "is_whole") (q := "Walk.is_whole") (st:=Lw.fU) X cF;have D33:=oH (m := "asked") (q := "Walk.asked") (st:=Lw.jr) X cF;have D34:=oH (m := "spans") (q := "Walk.spans") (st:=Lw.jq) X cF;have D35:=oH (m := "follow") (q := "Walk.follow") (st:=Lw.iD) X cF;have D36:=oH (m := "take") (q := "Walk.take") (st:=Lw.kA) X cF;have D37:=oH (m := "walk_awake") (q := "Walk.walk_awake") (st:=Lw.fj) X cF;have D38:=oH (m := "wake") (q := "Walk.wake") (st:=Lw.ky) X cF;have D39:=oH (m := "calm") (q := "Walk.calm") (st:=Lw.kB) X cF;have D40:=fL (x := "followed") (st:=Lw.l8) X G;have D41:=fL (x := "heights_of") (st:=Lw.gm) X G;have D42:=fL (x := "planes_of") (st:=Lw.kj) X G;have D43:=fL (x := "answer") (st:=Lw.q9) X G;have D44:=fL (x := "told") (st:=Lw.zT) X G;have D45:=fL (x := "level_of") (st:=Lw.l7) X G;have D46:=fL (x := "places") (st:=Lw.mR) X G;have D47:=fL (x := "is_part") (st:=Lw.n7) X G;have D48:=fL (x := "head_places") (st:=Lw.iB) X G;have D49:=fL (x := "walk_of") (st:=Lw.n6) X G;have D50:=Ū (x := "coded") (st:=Lw.qb) X G;have D51:=fL (x := "sheet_of") (st:=Lw.jm) X G;have D52:=fL (x := "level") (st:=Lw.vT) X G;have D53:=fL (x := "broad") (st:=Lw.qc) X G;have D54:=fL (x := "least") (st:=Lw.qa) X G;have D55:=fL (x := "enough") (st:=Lw.gG) X G;have D56:=fL (x := "ensure_whole") (st:=Lw.gF) X G;have D57:=fL (x := "middle_of") (st:=Lw.km) X G;have q58:=ū (c := "Search") (q := "Search.__init__") (st:=Lw.d9) X G;have ⟨D58,Vf⟩:=q58;have D59:=oH (m := "breadth_at") (q := "Search.breadth_at") (st:=Lw.eO) X d5;have D60:=oH (m := "put") (q := "Search.put") (st:=Lw.dQ) X d5;have D61:=oH (m := "narrow") (q := "Search.narrow") (st:=Lw.fW) X d5;have D62:=oH (m := "found") (q := "Search.found") (st:=Lw.gH) X d5;have D63:=fL (x := "share") (st:=Lw.p_) X G;have D64:=fL (x := "_law_cell_at") (st:=Lw.iA) X G;have D65:=fL (x := "_law_whole") (st:=Lw.kn) X G;have D66:=fL (x := "_law_stream") (st:=Lw.fi) X G;have D67:=fL (x := "_law_sum") (st:=Lw.lg) X G;have D68:=fL (x := "_law_right") (st:=Lw.ko) X G;have D69:=fL (x := "_law_refused") (st:=Lw.iz) X G;have D70:=fL (x := "_law_spoiled") (st:=Lw.iy) X G;have D71:=fL (x := "law") (st:=Lw.xO) X G;have i5:=dnx (c := "NoBits") X;have MU:=dnx (c := "TooMany") X;have nL:=dnx (c := "WaveError") X;have QO:=Xa2 (xs:=[("NoBits",b!),("TooMany",b?)]) (ts:=[("ValueError",b!)]) X i5 ⟨(by first |k_is |kts_exm |kernel_rfl),(by first |k_is |kts_exm |kernel_rfl),(by first |k_is |kts_exm |kernel_rfl),(by first |k_is |kts_exm |kernel_rfl),(by first |k_is |kts_exm |kernel_rfl),(by first |k_is |kts_exm |kernel_rfl),(by first |k_is |kts_exm |kernel_rfl),(by first |k_is |kts_exm |kernel_rfl)⟩ (by simp only[BK];exact⟨⟨_,i5,(by first |k_is |kts_exm |kernel_rfl)⟩,⟨_,MU,(by first |k_is |kts_exm |kernel_rfl)⟩,λ_ h=>by cases h⟩) (by simp only[BK];exact⟨(by first |k_is |kts_exm |kernel_rfl),λ_ h=>by cases h⟩);have Rk:=dxm X i5 nL (by first |k_is |kts_exm |kernel_rfl);have yr:=Ga X G nL;have tI:=mz (n := "ValueError") X G;have TX:=è (x := "NoBits") X G;have Qf:=è (x := "TooMany") X G;have uS:=è (x := "breadth") X G;have WH:=è (x := "least") X G;have N5:=è (x := "level") X G;have fX:=è (x := "lowered_spans") X G;have rZ:=è (x := "raised") X G
  cases hfa.symm.trans D71.here
  refine Ì D71 (λs v=>.of_eq rfl) λb KB GB BB BB'=>?_
  have Vd:=ZY KB GB i5 (by first |k_is |kts_exm |kernel_rfl);generalize L6 PySem.Challenge.rw_liftwave_k43_share=P;have ug:=rR P w b D64 B KV;have pB:=wy P w b D11 B KV Qs;have qp:=Tx P w b D8 B KV;have kX:=wz P w b D1 B KV;have U3:=P9 P w b D18 B KV kX;have xg:=tS P w b D19 B KV Xa qp U3;have QG:=K' P w b D9 B KV wX kX qp;have y_:=wA P w b D10 B KV wY QG;have QF:=J' P w b D47 B KV sQ kX qp;have oJ:=Gs P w b D25 B KV;have xc:=tQ P w b D12 B KV;have jR:=om P w b D13 B KV xc;have ñ:=Wy P w b D14 B KV Oj YA UD Ol;have yY:=P6 P w b D15 B KV UH jR ñ;have Xp:=Tu P w b D3 B KV;have ï:=Ww P w b D2 B KV;have Xo:=Tr P w b D4 B KV;have U4:=P_ P w b D5 B KV;have za:=wB P w b D16 B KV Oj UD Ol YA ï Xo U4;have jQ:=oj P w b D17 B KV UH jR Xp za;have lR:=rV P w b D20 B KV rZ fX yY jQ;have i0:=m5 P w b D21 B KV rZ fX yY jQ;have ð:=Wx P w b D22 B KV rZ oJ lR i0;have MN:=yk P w b D45 B KV N5;have y7:=P7 P w b D46 B KV N5 MN;have nA:=tT P w b D41 B KV;have yZ:=wm P w b D42 B KV nA;have pC:=wC P w b D27 B KV;have pE:=wF P w b D31 B KV cF;have jS:=ot P w b D30 Ĉ B KV cF sP pC pE;have f6:=oq P w b D32 B KV cF;have U5:=Qa P w b D43 B KV sS Mv d4 My eZ;have xi:=tV P w b D33 B KV cF;have nB:=mh P w b D37 B KV cF sS d4 eZ;have tj:=pM P w b D29 B KV;have uc:=rL P w b D28 B KV WH;have ud:=rM P w b D26 B KV eZ d4;have pD:=wD P w b D38 B KV cF Mv sP kT d4 eZ Mu ud;have zb:=wH P w b D39 B KV cF kT sP My d4 eZ pC pD;have pF:=wG P w b D36 B KV cF sS My Mv Mu nB tj uc pD zb pE;have î:=Wv P w b D44 B KV cF jS nA f6 U5 xi pF;have Xs:=Tz P w b D50 B KV sR xg pB y_ QF ð y7 yZ î;have xf:=tR P w b D66 B KV pB Xs;have ui:=rW P w b D35 B KV cF f6 pF;have MO:=yl P w b D40 B KV cF jS ui;have vh:=EX P w b D49 B KV UC Mw Mt MO;have tq:=pN P w b D56 B KV i5 Vd cF UG Mx vh f6;have pz:=wq P w b D57 B KV;have xh:=tU P w b D34 B KV cF Mu eZ d4;have QH:=LI P w b D6 B KV;have MP:=ym P w b D7 B KV QH;have y8:=wo P w b D23 B KV oJ i0 lR;have td:=pL P w b D24 B KV fX y8;have uh:=rS P w b D48 B KV Mw Mt sR y7;have MM:=yj P w b D51 B KV Mt Mw uh;have Xq:=Tv P w b D52 B KV UE sR qp oJ td MM;have OC:=TB P w b D53 B KV cF xh vh MP Xq;have f_:=kN P w b D59 B KV d5 UG Mx OC;have lQ:=rT P w b B KV OC;have Xr:=Tw P w b D54 B KV lQ;have U2:=P8 P w b D54 B u4;have nD:=tW (T:=483) P w b D60 rfl (ls KB (by k_is) (by rfl) (by decide)) BB' B KV d5 u4 uS pz f_ U2;have pT:=ov P w b D61 B KV d5 jO tZ yI pz nD;have tw:=pO P w b D62 B KV d5 yI jO pT f_;have nE:=mi P w b D58 Vf B KV d5 Mx nD;have tu:=P' P w b D55 rfl (ls KB (by k_is) (by rfl) (by decide)) BB B KV lQ Xr;have OB:=Ts P w b D63 B KV d5 uS tq tw nE tu;have pA:=wt P w b D65 B KV;have QE:=G2 (T':=523) P w b D67 B KV tu;have y9:=wu (T':=523) P w b D68 B KV pA tu QE;have uf:=rQ (T':=523) P w b D69 B KV yr Rk QO tI TX Qf OB;have ue:=rO P w b D70 B KV;exact Z_ P w b D71 B KV ug xf OB y9 uf ue pA