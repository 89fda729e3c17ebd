import PyProof.Rows.All
import Wide.All
import OpenK.AllK
import PySem.Challenge.RW_liftwave_k60_whole_beginnings
open Array renaming length_toList->B6,toList_append->Dk,append_assoc->FA,size_append->FJ,eq_empty_of_size_eq_zero->FT,getElem?_eq_getElem->GF,getElem?_toList->Ha,toList->Ji
open Bool renaming false_ne_true->AI,true_and->Cg,and_eq_true->CJ,eq_iff_iff->Dc,false_eq_true->Dj,not_true->EF,not_false->Fe,false_and->Ff,and_true->Fz,or_false->GV,or_eq_true->IH,true_or->Jx
open Classical renaming skolem->Hl,not_not->KU,em->KW,byContradiction->KY
open False renaming elim->A_
open ForInStep renaming yield->Ht
open Function renaming comp_def->BF,comp->Ig
open Iff renaming rfl->JM
open Int renaming toNat_natCast->Bf,le_refl->Br,mul_le_mul_of_nonneg_right->BE,mul_le_mul_of_nonneg_left->BN,toNat_of_nonneg->Cf,mul_left_comm->CS,emod_lt_of_pos->C8,mul_assoc->DH,mul_comm->Er,emod_nonneg->Es,le_ediv_iff_mul_le->E3,zero_add->Fd,mul_nonneg->Fq,neg_mul->FO,neg_le_neg->Gf,add_mul->Gh,natCast_mul->Gw,ediv_nonneg->Gx,fdiv_eq_ediv_of_nonneg->GK,neg_neg->G9,eq_ofNat_of_zero_le->G_,le_of_lt->Hk,pow_pos->HE,mul_pos->HF,ediv_emod_unique->HG,toNat->IF,ediv_one->IG,natAbs_neg->Jh,one_mul->Jw,pow_succ->JK,ofNat_lt->JL,sub_mul->JY,mul_one->JZ,mul_neg->J1,natAbs->Ki
open List renaming getElem?_eq_some_iff->Ab,getElem?_eq_getElem->Ah,mem_cons_of_mem->Aj,getD_eq_getElem?_getD->Al,mem_of_getElem?->An,size_toArray->Aq,mem_append->Au,replicate->Aw,range->Ax,length_map->Ay,getElem?_set_self->Az,mem_cons->AB,nodup_cons->AD,mem_cons_self->AF,length_append->AG,getElem?_set_ne->AL,mem_singleton->AM,getElem?_map->AN,nodup_append->AQ,mem_append_right->AR,getElem?_append_left->AZ,map_append->A5,mem_map->A7,map_map->A8,getElem?_eq_none->Bc,Nodup->Be,length_cons->Bg,forall_mem_singleton->Bh,append_nil->Bi,getElem?_append_right->Bk,take_succ_eq_append_getElem->Bo,length_take->Bp,forall_mem_append->Bq,map->Bu,mem_append_left->By,mem_range->Bz,length_set->BD,length_singleton->BI,length_replicate->BJ,length_range->BK,append_assoc->BL,forall_mem_cons->BQ,length_eq_zero_iff->BS,take_length->BU,take_of_length_le->BW,take_append_drop->B4,getElem?_cons_succ->B5,map_cons->B7,length_reverse->B8,foldl_cons->Ce,getElem?_take_of_lt->Ch,getElem?_reverse->Cn,map_congr_left->Cp,not_mem_nil->Ct,getElem?_zip_eq_some->Cu,lookup->Cv,filterMap_cons_some->Cz,dropLast_concat_getLast->CG,map_reverse->CI,getLastD_concat->CN,set_cons_succ->CO,nodup_nil->CP,mem_filterMap->CQ,cons_append->C7,filterMap_cons_none->C9,getElem?_replicate->Dg,set_cons_zero->Dh,mem_replicate->Di,getElem?_of_mem->Dr,dropLast_concat->Ds,mem_filter->Dw,mem_reverse->DD,lookup_cons->DF,length_drop->DG,getElem?_range->DM,foldl_append->DN,flatMap_cons->DP,ext_getElem?->DQ,mem_iff_getElem?->Ef,length_nil->Eg,getElem?_drop->Ej,mem_of_mem_take->Ex,take_add_one->ED,pairwise_map->EE,reverse_append->EM,range_succ->EN,nil_append->EO,filterMap_cons->EQ,append_inj'->ET,zip_cons_cons->EZ,map_replicate->E1,filterMap_map->E2,reverse_cons->Fo,getElem?_set->Fp,replicate_succ->Fu,any_eq_true->FH,all_eq_true->FI,take_sublist->FN,take_append_of_le_length->Ga,of_mem_zip->Gb,length_zip->Gc,length->Gd,drop_append_of_le_length->Ge,nodup_iff_pairwise_ne->GA,getElem_mem->GU,getElem?_cons_zero->G0,toArray->G5,range_succ_eq_map->G6,pairwise_lt_range->G7,drop_of_length_le->G8,sum_append->Hj,mem_iff_getElem->Hs,flatMap_append->HD,take_take->HS,foldl->HU,flatten_cons->Ie,mem_flatten->Im,filter_cons->Io,ext_getElem->Ip,foldl_nil->IP,filterMap->IQ,map_take->Jf,map_drop->Jg,map_set->Ju,map_nil->Jv,map_id->Kh
open List.Pairwise renaming imp_of_mem->DX,nil->GC,imp->GD,map->JJ
open List.Sublist renaming append->Dx,refl->DW,cons₂->Gg
open List.cons renaming inj->E4,injEq->KS
open Nat renaming le_refl->Ak,lt_of_lt_of_le->A6,zero_le->Bv,ne_of_lt->Bx,le_trans->BC,min_eq_left->BX,lt_irrefl->B3,mul_le_mul_left->Dq,testBit_eq_decide_div_mod_eq->Du,mul_comm->Dv,le_add_right->DL,add_mul->DV,mul_le_mul->Ee,mul_mod_left->EC,lt_or_ge->EL,le_of_lt->EY,pow_pos->Fl,pow_le_pow_right->Fm,reduceAdd->FD,not_lt_zero->FF,div_add_mod->FG,lt_succ_self->F_,lt_of_mul_lt_mul_left->GS,le_succ->G4,ne_of_gt->Hi,le_div_iff_mul_le->Hq,div_lt_iff_lt_mul->Hr,mul_pos->HB,mul_le_mul_right->HC,and_one_is_mod->Ic,sub_pos_of_lt->Ik,lt_succ_of_lt->Il,zero_mul->IB,lt_of_not_le->IC,le_of_eq->ID,add_zero->IE,two_pow_pos->IN,mul_add->Js,log2_lt->Jt,succ_mul->JG,pow_succ->JH,add_comm->JI,mul_one->JX,lt_min->Kg
open Nat.succ renaming inj->K9
open Ne renaming symm->Bm
open Option renaming map_some->Gv,map_eq_some_iff->GR,none->Je,getD_none->JF
open Option.some renaming inj->AV,injEq->Kf
open Or renaming inl->Ap,inr->FM
open Prod renaming ext->IM
open Prod.mk renaming injEq->Lv
open PyProof renaming noPylong_small->EK
open PyProof.Rows renaming callWith_type1->A9,boot_isinstance->Bl,boot_list->Bs,envOfC->BG,IsTupIter->BH,boot_tuple->BM,AllBare->Db,boot_reversed->DI,slot_tuple_getitem->DU,boot_bool->Eu,slot_tupleiter_next->Ey,IsTup->Ez,IntsAre->EB,OwnCls->Fy,boot_zip->F8,boot_int->F9,boot_max->Gr,boot_all->Gu,getItem_tuple->Hg,Call_->Hh,subscriptTail_builtinR->Ia,len_tuple->Ib,iadd_int->Ij,entry_tupleiter_next->IA,args_tupleiter_next->IL,boot_range->Jc,Subscript_->Jd,sorted_ints->JR,join_list->JS,isub_int->JT,callWith_builtin1->JU,boot_str->JV,tail_any->Kd,boot_min->Ke,isTrue_plain->KR,iter_tuple->Ls,isTrue_and->Lu
open PyProof.Rows.IsTup renaming typeIs->Fc,new->JW
open PySem renaming Value->Aa,Addr->Ac,wpAny_bind->Ad,Shared->Ae,FuncData->Ag,mainGlobals->Ai,Str->Am,starEach->Av,Program->AE,sizeLine->AH,wpAny->AJ,wpAny_pure->AK,boot_len->AS,World->AU,Stmt->AW,Around->AX,wpAny_field->BA,wpAny_truthy_bool->BP,wpAny_mono->BV,backTo->BY,wpAny_Call_Name_kw->BZ,wpAny_callSpecial?_slot->B9,compareOp->B_,codeAny_mono->Cj,Scope->Ck,Obj->Co,bindArgs->Cr,binaryOp->Cs,codeAny->Cw,Builtin->Cy,wpAny_seqItems->CB,wpAny_call_entry->CD,wpAny_passesOwn->CK,typeLookup_type->CL,builtinLookup_eq_fast->CT,wpAny_newObj_type->CU,sliceRange->CZ,sliceBounds->C3,sizeLine_eq->C4,rawInt->C5,isSubtype_type->C6,wpAny_specialOf->Dl,wpAny_execs_nil->Dm,callerA->Dn,wpAny_setField_rec->Dt,wpAny_of_eq->Dy,bootBuiltins->DJ,Pos->DR,wpAny_isInstance->DZ,wpAny_updateSeq->Ev,holding->EA,wpAny_setField->EG,wpAny_call->EH,Env->EJ,keywordEach->ES,wpAny_holding->EU,wpAny_attempt->EV,wpAny_pyIter_zip->E5,getMethod->E6,NameKind->E9,closureFor->Fg,call_meets->Fh,builtinsNs->Fi,assignEach->Fj,firstArgMember->FE,standAt->FK,BindsTo->FL,behindInMarks->FU,attributeBase->FV,wpAny_pyIter_range->FX,typeLookup->FY,pyNext->FZ,Result->F7,slot_list_getitem->Gi,relabel->Gj,foldedSetIterable->Gk,backToKw->Gm,Operator->Gp,wpAny_execs_cons->GG,swapsWith->GH,cellsFrom->GI,wpAny_ite_split->GW,letOwnedTupleGo->GX,ItemsOf->G1,wpAny_rule->Hb,callWith->Hc,assign->Hd,wpAny_letOwnedTupleGo_zip->Hm,wpAny_standAt->Hu,wpAny_onRaise->Hv,wpAny_getItem_list_slice->Hw,wpAny_comprehension_free->Hx,plainId_quiet->Hy,slicePick->HI,cLine->HJ,Arguments->HR,wpAny_pyNext_range_end->HV,wpAny_pyIter_rangeiter->HW,pyIter->HX,argsOk->HY,wpAny_loadName_local->Iq,seqIndex_of->Ir,compEnvC->Iu,bindL->Iv,bindC->Iw,GenState->Iy,CmpOp->Iz,wpAny_loadName_cell->II,wpAny_Name->IS,typeIs_str->IT,typeIs_int->IU,sysModules->IV,Sem->Jb,wpAny_pyIter_list->Jj,wpAny_assign_Name->Jk,getItem->Jl,Model->Jr,storeName->Jy,noFill_tuple_add->Jz,inplaceOp->JA,entryFor_of_tree->JB,codeAny_builtin->JN,wpAny_Expr_any->J2,recursionLimit->J3,newFunctionEnv->J4,isSubtype_stop->J5,entryFor->J6,Params->J_,IsPart->Ka,DefRec->Kc,wpAny_handled->Kj,signature?_of->Kk,seq_tuple_add->Kl,intBits_le_64->Km,call_list_seq->Ko,wpAny_typeOf->KE,setItem->KG,getAttr->KH,concat_meets->KI,OldK->KN,Keyword->KO,wpAny_throw->KZ,wpAny_letGo->K0,wpAny_Slice->K1,subscripted->K2,Tok->K3,Meets->K5,IsRangeIter->K8,typeOf->Lb,truthy->Lc,revObj->Ld,newExc->Le,cellOf->Lg,Slot->Lo,PlainAttrs->Lp,IsPair->Lq
open PySem.Around renaming frames_deeper->G3
open PySem.AutoListH renaming list___mul___list_int_3->KQ
open PySem.BindsTo renaming of_eq->Lr
open PySem.Builtin renaming bitNot->BR,bitAnd->Cd,bitOr->DC
open PySem.Builtin.Int renaming intBits->Gz
open PySem.Builtin.List renaming listTooLong->Ci,listSameRef->DY,listExtendWith->Fx,listLengthHint->JQ
open PySem.Builtin.Range renaming rangeSize->AT,small->Dp,rangeFitsLong->Ft
open PySem.Builtin.SmallTypes renaming newClass->EW,nextOf->Fb,newRecord->Ii
open PySem.Builtin.Str renaming strSliceIndices->BO,occurrences->CY
open PySem.Calls renaming Name_function_global->Gq,callWith_builtin->GZ,evalArgs_plain->Hf,spliced_cons->HA,spliced_nil->HQ
open PySem.Data renaming fields->Ho,cell->Ih
open PySem.DictEntry renaming refKey->KP
open PySem.Expr renaming Call->Kb
open PySem.F renaming plainAttrs_list->Bb,type_list_extend->E_,slot_list_extend->Fa
open PySem.Heap renaming get?_push_of_some->Af,get?_push_size->AA,lt_size->AY,get?_update_other->Cc,get?_update_self->Cm,size_push->DB
open PySem.IsRange renaming new->GY
open PySem.ItemsOf renaming nil->IK
open PySem.Manifest renaming find?->HP,sig_reversed->K6,owners->K7
open PySem.MeetsSeq renaming list_pop_last->K4
open PySem.Moved renaming eq_with->IJ
open PySem.NameKind renaming free->Bw,cell->E8
open PySem.Obj renaming mapSeq->CF,data_mapFields->Dd,isFreed_of_fields->E7
open PySem.PassesOwn renaming never->AO
open PySem.SeqAt renaming EqAt->Hz
open PySem.SeqAt.EqAt renaming same->FC,bool_bool->Gy,str_int->GO,of_refs->GP,int_str->GQ,str_str->Kr,str_none->Ks,str_bool->Kt,none_str->Ku,none_int->Kv,none_bool->Kw,int_none->Kx,int_int->Ky,int_bool->Kz,bool_str->KA,bool_none->KC,bool_int->KD
open PySem.SeqAt.RcAt renaming tuples->Kp,lists->Kq
open PySem.SeqAt.RcNeAt renaming tuples->JO,lists->JP
open PySem.Shared renaming heap->Ja
open PySem.Str renaming ofString->Ba,empty->Fs,append_empty->Ix,join->I_,mk->J9
open PySem.Txt renaming slice->CH,stripChars->Ew,join->FS
open PySem.Value renaming ref->Bj,type->CM,int->Eh,none->Fv,bool->Fw,str->FR,float->He,bytes->Jq
open PySem.W renaming Frag->Ar,nsIn->Cq,kia_one->C_,emptyDict->Dz,keepIn->D_,findIn->Ed,fnOf->Ep,callWith_K->EI,instObj->Fk,methodCall_KW->FW,codeIn->F6,plainGet->Gn,mg_of->Go,hasDictIn->GJ,plainGet_of->GN,plainOver->HK,methodObj->HL,kitx_list->HM,kitx_dict->HN,exmOne->HZ,lookIn->IW,kitx_tuple->IX,kitOne->IY,takerIn->Jn,makesIn->Jo,OpenLaw->Jp,handedIn->J7,CodeHd->J8,isFn->KJ,binds_K->KL,tabObj->Lh,pre_splitW->Li,envX->Lj,enter_call->Ll,callWith_F->Lm
open PySem.W.Dflts renaming none->JD,noKw->JE
open PySem.W.OpenLaw renaming prog->Ln
open PySem.W.WData renaming int->H_,weight->IZ,list->JC
open PySem.Walks renaming range->Jm
open String renaming reduceBEq->HH
open Sum renaming inr->FP,inl->FQ
open Sum.inl renaming inj->La
open Sum.inr renaming inj->K_
open True renaming intro->Et
open Array(length_toList size_append toList_append)
open Bool(and_eq_true false_eq_true)
open Int(ediv_one emod_lt_of_pos emod_nonneg mul_assoc mul_left_comm mul_nonneg neg_le_neg neg_mul neg_neg one_mul toNat_natCast toNat_of_nonneg zero_add)
open List(all_eq_true any_eq_true append_inj' append_nil cons_append dropLast_concat ext_getElem? filterMap_cons filterMap_cons_some filterMap_map flatMap_cons foldl_append foldl_cons forall_mem_append forall_mem_cons forall_mem_singleton getD_eq_getElem?_getD getElem?_append_left getElem?_append_right getElem?_cons_succ getElem?_drop getElem?_eq_getElem getElem?_eq_none getElem?_map getElem?_of_mem getElem?_range getElem?_reverse getElem?_set getElem?_set_ne getElem?_set_self getElem?_take_of_lt getElem?_zip_eq_some getElem_mem getLastD_concat length_append length_cons length_drop length_eq_zero_iff length_map length_nil length_range length_replicate length_reverse length_set length_singleton length_take length_zip lookup_cons map_append map_congr_left map_cons map_id map_map map_nil map_replicate map_reverse mem_append mem_append_left mem_append_right mem_cons mem_cons_of_mem mem_cons_self mem_filter mem_filterMap mem_iff_getElem? mem_map mem_of_getElem? mem_of_mem_take mem_range mem_replicate mem_reverse mem_singleton nil_append nodup_append nodup_cons nodup_nil not_mem_nil of_mem_zip pairwise_map range_succ reverse_append reverse_cons set_cons_succ set_cons_zero size_toArray sum_append take_add_one take_append_drop take_length take_of_length_le take_succ_eq_append_getElem take_take zip_cons_cons)
open Nat(add_zero div_add_mod le_add_right le_of_eq le_succ le_trans log2_lt lt_irrefl lt_of_lt_of_le lt_or_ge min_eq_left mul_add mul_le_mul mul_le_mul_left mul_mod_left ne_of_gt ne_of_lt not_lt_zero zero_le zero_mul)
open Option(getD_none map_some)
open PySem(boot_len)
open PySem.F(plainAttrs_list slot_list_extend type_list_extend)
open PySem.Heap(get?_push_of_some get?_push_size get?_update_other get?_update_self lt_size size_push)
open PySem.W(Frag binds_K callWith_K codeIn emptyDict excIn exmOne findIn fnOf handedIn hasDictIn instObj isFn keepIn kia_one kitOne kitx_dict kitx_list kitx_tuple lookIn makesIn methodCall_KW methodObj mg_of nsIn plainGet plainGet_of plainOver takerIn)
noncomputable section
set_option Elab.async false
set_option compiler.extract_closed false
set_option bootstrap.genMatcherCode false
set_option linter.all false
set_option maxRecDepth 100000
set_option hygiene false
local macro_rules |`(tactic|kj_on)=>`(tactic| (intro X hP hw hK hc i pins s Y H E I hf st hg;subst hP hw hK))
set_option hygiene true
namespace L2
open PySem PySem.Spec PyProof.Rows
abbrev wC:=Sum Int Am
noncomputable def US:wC->Aa->Bool
 | .inl k,v=>Value.isInt k v
 | .inr x,v=>Value.isStrOf x v
noncomputable def Ü (w:AU):wC->Int
 | .inl k=>hashInt k
 | .inr x=>hashStr w x
theorem dm:∀{k:wC} {v:Aa},US k v=true->(∃i t,k=FQ i/\v=Eh i t)∨(∃x t,k=FP x/\v=FR x t)
 | .inl i,v,h=>by
  obtain⟨t,e⟩:=Value.isInt_shape h;exact .inl ⟨i,t,rfl,e⟩
 | .inr x,v,h=>by
  obtain⟨t,e⟩:=Value.isStrOf_shape h;exact .inr ⟨x,t,rfl,e⟩
theorem Wv (a b:Int):decide ((FQ a:wC)=FQ b)=(a==b):=by
 by_cases e:a=b
 .subst e;simp
 .have h:¬ (FQ a:wC)=FQ b:=λq=>e (La q)
  rw[decide_eq_false h];exact (beq_eq_false_iff_ne.mpr e).symm
theorem Ws (a b:Am):decide ((FP a:wC)=FP b)=decide (a=b):=by
 by_cases e:a=b
 .subst e;simp
 .have h:¬ (FP a:wC)=FP b:=λq=>e (K_ q)
  rw[decide_eq_false h,decide_eq_false e]
theorem Wu (a:Int)(b:Am):decide ((FQ a:wC)=FP b)=false:=decide_eq_false (λq=>nomatch q)
theorem Wt (a:Am)(b:Int):decide ((FP a:wC)=FQ b)=false:=decide_eq_false (λq=>nomatch q)
noncomputable def vJ (prog:AE)(w:AU):PySem.KeyKind prog w wC where
 is:=US
 hash:=Ü w
 inj := λv a b ha hb=>by
  rcases dm ha with⟨i,t,rfl,rfl⟩ | ⟨x,t,rfl,rfl⟩
  .rcases dm hb with⟨j,u,rfl,e⟩ | ⟨y,u,rfl,e⟩
   .injection e with e1 _;rw[e1]
   .exact nomatch e
  .rcases dm hb with⟨j,u,rfl,e⟩ | ⟨y,u,rfl,e⟩
   .exact nomatch e
   .injection e with e1 _;rw[e1]
 byValue:=λk v h=>by
  rcases dm h with⟨i,t,rfl,rfl⟩ | ⟨x,t,rfl,rfl⟩<;>rfl
 pyHash:=λhv h=>by
  rcases dm hv with⟨i,t,rfl,rfl⟩ | ⟨x,t,rfl,rfl⟩
  .exact wpAny_pyHash_int h
  .exact wpAny_pyHash_str h
 eqBool:=λhu hv h=>by
  rcases dm hu with⟨i,t,rfl,rfl⟩ | ⟨x,t,rfl,rfl⟩
  .rcases dm hv with⟨j,u,rfl,rfl⟩ | ⟨y,u,rfl,rfl⟩
   .rw [Wv]at h;exact wpAny_eqBool_int h
   .rw [Wu]at h;exact GQ i t y u _ _ _ _ h
  .rcases dm hv with⟨j,u,rfl,rfl⟩ | ⟨y,u,rfl,rfl⟩
   .rw [Wt]at h;exact GO x t j u _ _ _ _ h
   .rw [Ws]at h;exact wpAny_eqBool_str h
 «strs»:=λk x t v h=>by
  rcases dm h with⟨i,u,rfl,e⟩ | ⟨y,u,rfl,e⟩
  .exact nomatch e
  .injection e with e1 _
   subst e1;cases v<;>rfl
inductive V where
 |cn |bl (b:Bool) |int (i:Int) |str (x:Am) |MQ (b:Array UInt8) |MH (b:UInt64) |ref (a:Ac) |ty (n:String)
 deriving DecidableEq
def cv:V->Aa->Prop
 | .cn,u=>u=Fv
 | .bl b,u=>u=Fw b
 | .int i,u=>∃t,u=Eh i t
 | .str x,u=>∃t,u=FR x t
 | .MQ b,u=>∃t,u=Jq b t
 | .MH b,u=>∃t,u=He b t
 | .ref a,u=>u=Bj a
 | .ty n,u=>u=CM n
abbrev bI:List V->List Aa->Prop:=Paired cv
theorem bI.length {xs:List V}{us:List Aa}(r:bI xs us):xs.length=us.length:=Paired.length r
theorem bI.get:∀{xs:List V} {us:List Aa} {i:Nat} {x:V},bI xs us->xs[i]?=some x->∃u,us[i]?=some u/\cv x u
 |_,_,_,_,.nil,e=>by simp at e
 |_,_,0,_,.cons r _,e=>by simp at e;subst e;exact⟨_,rfl,r⟩
 |_,_,i+1,x,.cons _ t,e=>by
  obtain⟨u,h1,h2⟩:=bI.get t e;exact⟨u,h1,h2⟩
theorem bI.set {x:V}{u:Aa}(r:cv x u):∀{xs:List V} {us:List Aa} (i:Nat),bI xs us->bI (xs.set i x) (us.set i u)
 |_,_,_,.nil=>.nil
 |_,_,0,.cons _ t=>.cons r t
 |_,_,i+1,.cons q t=>.cons q (bI.set r i t)
theorem bI.append:∀{xs ys:List V} {us w:List Aa},bI xs us->bI ys w->bI (xs++ys) (us++w)
 |_,_,_,_,.nil,s=>s
 |_,_,_,_,.cons r t,s=>.cons r (bI.append t s)
theorem bI.take:∀{xs:List V} {us:List Aa} (n:Nat),bI xs us->bI (xs.take n) (us.take n)
 |_,_,0,_=>.nil
 |_,_,_+1,.nil=>.nil
 |_,_,n+1,.cons r t=>.cons r (bI.take n t)
theorem bI.drop:∀{xs:List V} {us:List Aa} (n:Nat),bI xs us->bI (xs.drop n) (us.drop n)
 |_,_,0,r=>r
 |_,_,_+1,.nil=>.nil
 |_,_,n+1,.cons _ t=>bI.drop n t
def wu:Option V->Option Aa->Prop
 |some v,some u=>cv v u
 |none,none=>True
 |_,_=>False
def KV {a:Type}:List (a×V)->List (a×Aa)->Prop:=Paired λ(p:a×V) (q:a×Aa)=>p.1=q.1/\cv p.2 q.2
noncomputable def kV:wC->V
 | .inl i=>.int i
 | .inr x=>.str x
inductive HO where
  |lst (xs:List V)
  |tup (xs:List V)
  |dK (Yu:List (wC×V)) |dT (Yu:List (List wC×V))
  |set (S:Int->Bool) (n:Nat)
  |ins (C dx:Ac) (fs:List (Am×V))
  |own (x:Ac)
  |xd (fs:List (Am×V))
  |met (f x:Ac)
  |tR (lo hi:Int)
  |fC (o:Co) (u:HO)
  |Uj (ps:Array Aa)
 |v7 (p:DR) (q:Am)
  |ext (φ:Heap->Prop)
def rL (o:Co)(q:Am):Prop:=∃vs t,o.data = .fields vs/\vs[1]?=some (.str q t)
def VT (u:HO):Prop:=(∃xs,u = .tup xs)∨∃o c q,u = .fC o (.own c)/\rL o q
abbrev Hp:=Ac->Option HO
noncomputable def c8 (H:Hp)(a:Ac)(o:HO):Hp:=λb=>if b=a then some o else H b
theorem a9 {H:Hp}{a:Ac}{o:HO}:c8 H a o a=some o:=by unfold c8;rw[if_pos rfl]
theorem bM {H:Hp}{a b:Ac}{o:HO}(h:b≠a):c8 H a o b=H b:=by unfold c8;rw[if_neg h]
theorem fB {H:Hp}{a b:Ac}{o:HO}(h:H a=some o)(h':H b=none):a≠b:=by
 intro e;subst e;rw[h]at h';cases h'
section
variable (P:AE)(w:AU)
def eo (H:Hp)(h:Heap)(a:Ac):HO->Prop
 | .lst xs=>xs.length<=AH/\∃(T:List Aa) (n:Nat),bI xs T/\h.get? a=some {cls:=.type "list",data:=.seq T.toArray n}
 | .tup xs=>xs.length<=AH/\∃T:List Aa,bI xs T/\Ez h a T.toArray
 | .dK k=>k.length<=AH/\(a==IV)=false/\∃vs,KV k vs/\h.DictOf (vJ P w) a vs
 | .dT k=>k.length<=AH/\(a==IV)=false/\∃xs:List (List wC×Ac×Aa),
   Paired (λ(p:List wC×V) (q:List wC×Ac×Aa)=>p.1=q.1/\H q.2.1=some (.tup (p.1.map kV))/\cv p.2 q.2.2) k xs/\
   ∃o j l,h.get? a=some o/\o.ExactDict/\o.data = .dict j l/\j.toList=xs.map (entryOfKey (tupleKind (vJ P w)))/\(xs.map (·.1)).Nodup
 | .set S n=>h.SetOf (intKind P w) a S n
 | .ins C e fs=>H e=some (.own a)/\fs.length<=1000/\e≠a/\h.get? a=some (Fk C e)/\
   ∃m,h.Ns1 e m/\(∀f,wu (fs.lookup f) (m f))/\PySem.Within m (fs.map (·.1))
 | .own _=>∃o,h.get? a=some o
 | .xd fs=>∃m,h.Ns1 a m/\∀f,wu (fs.lookup f) (m f)
 | .tR lo hi=>∃t u v,h.get? a=some {cls:=.type "range",data:=.fields #[.int lo t,.int hi u,.int 1 v]}
 | .fC o u=>h.get? a=some o/\eo H h a u
 | .Uj ps=>h.get? a=some {cls:=.none,data:=.fields ps}
 | .v7 p q=>∃ps:Array Aa,h.get? a=some {cls:=.none,data:=.fields ps}/\TriplesOk ps.toList/\∀v,codeAmong p ps.toList=some v->∃c O,v = .ref c/\H c=some (.fC O (.own c))/\rL O q
 | .met f x=>h.get? a=some (HL (.ref f) (.ref x))
 | .ext g=>g h/\(∃o,h.get? a=some o)/\∀h1 h2:Heap,g h1->(∀o,h1.get? a=some o->h2.get? a=some o)->g h2
def kK (H:Hp)(h:Heap):Prop:=∀a o,H a=some o->eo P w H h a o
end
section
variable {P:AE}{w:AU}{H H':Hp}{h h':Heap}{a:Ac}{o:HO}
theorem eo.lt (x:eo P w H h a o):a<h.objs.size:=by
 cases o with
 |lst xs=>obtain⟨_,_,_,_,e⟩:=x;exact AY e
 |tup xs=>obtain⟨_,_,_,p⟩:=x;exact p.lt
 |dK k=>obtain⟨_,_,_,_,o,_,_,e,_⟩:=x;exact AY e
 |dT k=>obtain⟨_,_,_,_,o,_,_,e,_⟩:=x;exact AY e
 |set S n=>obtain⟨o,_,_,_,e,_⟩:=x;exact AY e
 |ins C g fs=>obtain⟨_,_,_,e,_⟩:=x;exact AY e
 |own y=>obtain⟨_,e⟩:=x;exact AY e
 |xd fs=>obtain⟨_,⟨_,_,_,e,_⟩,_⟩:=x;exact AY e
 |tR lo hi=>obtain⟨_,_,_,e⟩:=x;exact AY e
 |fC ob u=>obtain⟨e,_⟩:=x;exact AY e
 |Uj ps=>exact AY (show h.get? a=some _ from x)
 |v7 p q=>obtain⟨_,e,_⟩:=x;exact AY e
 |met f y=>exact AY (show h.get? a=some _ from x)
 |ext c=>obtain⟨_,⟨_,e⟩,_⟩:=x;exact AY e
theorem Paired.Yr {e c:Type}{F G:e->c->Prop}:∀{L:List e} {l:List c},Paired F L l->(∀a b,F a b->G a b)->Paired G L l
 |_,_,.nil,_=>.nil
 |_,_,.cons r t,f=>.cons (f _ _ r) (Paired.Yr t f)
theorem eo.qh (x:eo P w H h a o)(k:∀b u,(b=a∨H b=some (.own a))->h.get? b=some u->h'.get? b=some u)
  (Q:∀b,H b=some (.own a)->H' b=some (.own a)) (ht:∀b u,H b=some u->VT u->H' b=some u):eo P w H' h' a o:=by
 induction o with
 |lst xs=>obtain⟨z,T,n,r,e⟩:=x;exact⟨z,T,n,r,k _ _ (.inl rfl) e⟩
 |tup xs=>obtain⟨z,T,r,ob,e,c⟩:=x;exact⟨z,T,r,ob,k _ _ (.inl rfl) e,c⟩
 |dK l=>obtain⟨z,y,vs,r,ob,g,j,e,c⟩:=x;exact⟨z,y,vs,r,ob,g,j,k _ _ (.inl rfl) e,c⟩
 |dT l=>
  obtain⟨z,y,xs,r,ob,g,j,e,c⟩:=x;exact⟨z,y,xs,Paired.Yr r λp q z=>⟨z.1,ht _ _ z.2.1 (.inl ⟨_,rfl⟩),z.2.2⟩,ob,g,j,k _ _ (.inl rfl) e,c⟩
 |set S n=>obtain⟨ob,g,j,t,e,c⟩:=x;exact⟨ob,g,j,t,k _ _ (.inl rfl) e,c⟩
 |ins C dx fs=>
  obtain⟨d,z,ne,e,m,⟨O,g,j,B,c⟩,r⟩:=x;exact⟨Q _ d,z,ne,k _ _ (.inl rfl) e,m,⟨O,g,j,k _ _ (.inr d) B,c⟩,r⟩
 |own y=>obtain⟨ob,e⟩:=x;exact⟨ob,k _ _ (.inl rfl) e⟩
 |xd fs=>obtain⟨m,⟨O,g,j,e,c⟩,r⟩:=x;exact⟨m,⟨O,g,j,k _ _ (.inl rfl) e,c⟩,r⟩
 |tR lo hi=>obtain⟨t,u,v,e⟩:=x;exact⟨t,u,v,k _ _ (.inl rfl) e⟩
 |fC ob u L=>obtain⟨e,q⟩:=x;exact⟨k _ _ (.inl rfl) e,L q⟩
 |Uj ps=>
  have e:h.get? a=some {cls:=.none,data:=.fields ps}:=x;show h'.get? a=some {cls:=.none,data:=.fields ps}
  exact k a _ (.inl rfl) e
 |v7 p q=>
  obtain⟨ps,e,A,hc⟩:=x;exact⟨ps,k _ _ (.inl rfl) e,A,λv M=>let⟨c,J,U,B,G⟩:=hc v M;⟨c,J,U,ht _ _ B (.inr ⟨_,_,_,rfl,G⟩),G⟩⟩
 |met f y=>
  have e:h.get? a=some (HL (.ref f) (.ref y)):=x;show h'.get? a=some (HL (.ref f) (.ref y))
  exact k a _ (.inl rfl) e
 |ext φ=>obtain⟨p,⟨o,e⟩,st⟩:=x;exact⟨st _ _ p λo q=>k _ _ (.inl rfl) q,⟨o,k _ _ (.inl rfl) e⟩,st⟩
theorem kK.lt (x:kK P w H h)(e:H a=some o):a<h.objs.size:=(x a o e).lt
theorem kK.fresh (x:kK P w H h)(e:h.objs.size<=a):H a=none:=by
 cases q:H a with
 |none=>rfl
 |some u=>exact absurd (A6 (x.lt q) e) (B3 _)
theorem kK.kept (x:kK P w H h)(k:∀b u,h.get? b=some u->h'.get? b=some u):kK P w H h':=λa o e=>
 (x a o e).qh (λb u _ q=>k b u q) (λ_ q=>q) λ_ _ q _=>q
theorem kK.laid (x:kK P w H h)(k:∀b u,h.get? b=some u->h'.get? b=some u)(p:h.objs.size<=a)(new:eo P w (c8 H a o) h' a o):kK P w (c8 H a o) h':=λb u e=>by
 have hn:=x.fresh p;by_cases B:b=a
 .subst B;rw[a9]at e;cases e;exact new
 .rw [bM B]at e;exact (x b u e).qh (λc v _ q=>k c v q) (λc q=>by rw[bM (fB q hn)];exact q) λc xs q _=>by rw[bM (fB q hn)];exact q
end
def Rd (H:Hp)(a:Ac)(u:HO):Prop:=H a=some u∨∃o,H a=some (.fC o u)
theorem Rd.ok {P:AE}{w:AU}{H:Hp}{h:Heap}{a:Ac}{u:HO}(r:Rd H a u)(x:kK P w H h):eo P w H h a u:=by
 rcases r with r | ⟨o,r⟩
 .exact x a u r
 .obtain ⟨_,q⟩:=x a _ r;exact q
def Z7:Option HO->Prop
 |some (.lst _)=>True
 |some (.dK _)=>True
 |some (.dT _)=>True
 |some (.set _ _)=>True
 |some (.ins _ _ _)=>True
 |some (.ext _)=>True
 |_=>False
section
variable {P:AE}{w:AU}{H:Hp}{h h':Heap}{x e:Ac}{o':HO}
theorem kK.write (ok:kK P w H h)(mu:Z7 (H x))(f:e=x∨H e=some (.own x))(k:∀b u,b≠e->h.get? b=some u->h'.get? b=some u)(o:∃u,h'.get? e=some u)
  (new:eo P w (c8 H x o') h' x o'):kK P w (c8 H x o') h':=λb u q=>by
 have n:∀c y,H c=some (.own y)->c≠x:=λc y r z=>by subst z;rw[r]at mu;exact mu
 have t:∀c u,H c=some u->VT u->c≠x:=λc u r i z=>by subst z;rw[r]at mu;rcases i with⟨_,rfl⟩ | ⟨_,_,_,rfl,_⟩<;>exact mu
 by_cases a:b=x
 .subst a;rw[a9]at q;cases q;exact new
 .rw [bM a]at q;by_cases B:b=e
  .have Q:H b=some (.own x):=by
    rcases f with z |z
    .exact absurd (B.trans z) a
    .rw [B];exact z
   rw[q]at Q;cases Q;obtain⟨v,g⟩:=o;exact⟨v,by rw[B];exact g⟩
  .refine (ok b u q).qh (λc v hc r=>k c v ?_ r) (λc r=>by rw[bM (n c b r)];exact r) λc xs r i=>by rw[bM (t c xs r i)];exact r
   rcases hc with rfl |hc
   .exact B
   .rintro rfl;rcases f with z |z
    .exact n c b hc z
    .rw [hc]at z;cases z;exact a rfl
end
structure Un (fs ex:List Ac) (H H':Hp) (h h':Heap):Prop where
 keep:∀b o,h.get? b=some o->H b=none->b∉fs->b∉ex->h'.get? b=some o
 slot:∀b o,h.get? b=some o->H b=none->b∈fs->b∉ex->∃sl,h'.get? b=some {o with slots:=sl}
 free:∀b o,h.get? b=some o->H b=none->b∉ex->H' b=none
 there:∀b o,h.get? b=some o->b∉ex->∃o',h'.get? b=some o'
 mf:∀b xs,H b=some (.tup xs)->H' b=some (.tup xs)
 kE:∀b o u,H b=some (.fC o u)->H' b=some (.fC o u)
 mh:∀b ps,H b=some (.Uj ps)->∃more,H' b=some (.Uj (ps++more))
section
variable {fs ϸ ex ex':List Ac}{H H1 H2:Hp}{h h1 h2 h':Heap}{a x e:Ac}{o:HO}
theorem Un.any (u:Un fs ex H H1 h h1){b:Ac}{ob:Co}(q:h.get? b=some ob)(n:H b=none)(c:b∉ex):∃l,h1.get? b=some {ob with slots:=l}:=by
 by_cases B:b∈fs
 .exact u.slot b ob q n B c
 .exact ⟨ob.slots,u.keep b ob q n B c⟩
theorem Un.trans (a:Un fs ex H H1 h h1)(b:Un fs ex H1 H2 h1 h2):Un fs ex H H2 h h2 where
 keep:=λc ob q n hc hx=>b.keep c ob (a.keep c ob q n hc hx) (a.free c ob q n hx) hc hx
 slot:=λc ob q n hc hx=>by
  obtain⟨sl,e1⟩:=a.slot c ob q n hc hx;obtain⟨Š,e2⟩:=b.slot c _ e1 (a.free c ob q n hx) hc hx;exact⟨Š,e2⟩
 free:=λc ob q n hx=>by
  obtain⟨o',e1⟩:=a.there c ob q hx;exact b.free c o' e1 (a.free c ob q n hx) hx
 there:=λc ob q hx=>by
  obtain⟨o',e1⟩:=a.there c ob q hx;exact b.there c o' e1 hx
 mf:=λc xs q=>b.mf c xs (a.mf c xs q)
 kE:=λc ob xs q=>b.kE c ob xs (a.kE c ob xs q)
 mh:=λc ps q=>by
  obtain⟨m1,e1⟩:=a.mh c ps q;obtain⟨m2,e2⟩:=b.mh c _ e1;exact⟨m1++m2,by rw[e2,FA]⟩
theorem Un.kept (k:∀b u,h.get? b=some u->h'.get? b=some u):Un fs ex H H h h':=
 ⟨λb ob q _ _ _=>k b ob q,λb ob q _ _ _=>⟨ob.slots,k b ob q⟩,λ_ _ _ n _=>n,λb ob q _=>⟨ob,k b ob q⟩,λ_ _ q=>q,λ_ _ _ q=>q,λ_ ps q=>⟨#[],by rw[q];simp⟩⟩
theorem Un.refl:Un fs ex H H h h:=Un.kept λ_ _ q=>q
theorem Un.laid (k:∀b u,h.get? b=some u->h'.get? b=some u)(hp:h.objs.size<=a)(hn:H a=none):Un fs ex H (c8 H a o) h h' where
 keep:=λb u q _ _ _=>k b u q
 slot:=λb u q _ _ _=>⟨u.slots,k b u q⟩
 free:=λb u q n _=>by rw[bM (Bx (A6 (AY q) hp))];exact n
 there:=λb u q _=>⟨u,k b u q⟩
 mf:=λb xs q=>by rw[bM (fB q hn)];exact q
 kE:=λb u xs q=>by rw[bM (fB q hn)];exact q
 mh:=λb ps q=>⟨#[],by rw[bM (fB q hn),q];simp⟩
theorem Un.write (mu:Z7 (H x))(g:e=x∨H e=some (.own x))(k:∀b u,b≠e->h.get? b=some u->h'.get? b=some u)(O:∃u,h'.get? e=some u):Un fs ex H (c8 H x o) h h':=by
 have c:∀b,H b=none->b≠x:=λb n z=>by subst z;rw[n]at mu;exact mu
 have f:∀b,H b=none->b≠e:=λb n z=>by
  subst z;rcases g with r |r
  .exact c b n r
  .rw [n]at r;cases r
 have m:∀b u,H b=some u->¬ Z7 (some u)->b≠x:=λb u q nm z=>by subst z;rw[q]at mu;exact nm mu
 refine⟨λb u q n _ _=>k b u (f b n) q,λb u q n _ _=>⟨u.slots,k b u (f b n) q⟩,λb u q n _=>by rw[bM (c b n)];exact n,λb u q _=>?_,
  λb xs q=>by rw[bM (m b _ q λz=>z)];exact q,λb u xs q=>by rw[bM (m b _ q λz=>z)];exact q,λb ps q=>⟨#[],by rw[bM (m b _ q λz=>z),q];simp⟩⟩
 by_cases B:b=e
 .subst B;exact O
 .exact ⟨u,k b u B q⟩
end
noncomputable def ZK (h:Heap)(H:Hp):List Ac:=(Ax h.objs.size).filter λa=>(H a).isSome
noncomputable def m5 (h:Heap)(H:Hp):Heap:=PySem.W.hideAll h (ZK h H)
theorem ug (h:Heap)(H:Hp):(m5 h H).objs.size=h.objs.size:=PySem.W.hideAll_size _ _
theorem m4 {h:Heap}{H:Hp}{b:Ac}{o:Co}(e:h.get? b=some o)(n:H b=none):(m5 h H).get? b=some o:=
 PySem.W.hideAll_get _ e λm=>by
  have q:(H b).isSome=true:=(Dw.mp m).2;rw[n]at q;simp at q
theorem Mi {h:Heap}{H:Hp}{b:Ac}{o:Co}(e:(m5 h H).get? b=some o):h.get? b=some o/\H b=none:=by
 have e':h.get? b=some o:=PySem.W.of_hideAll (ZK h H) e;refine⟨e',?_⟩
 cases q:H b with
 |none=>rfl
 |some x=>
  have m:b∈ZK h H:=Dw.mpr ⟨Bz.mpr (AY e'),by simp[q]⟩;have z:(m5 h H).get? b=none:=PySem.W.hideAll_none (ZK h H) m;rw[z]at e;cases e
noncomputable def T_ (g h:Heap)(L:Ac):List (Ac×Co):=(Ax h.objs.size).filterMap λa=>if a=L∨(g.get? a).isSome=true then none else (h.get? a).map λo=>(a,o)
noncomputable def dg (g h:Heap)(L d:Ac):List (Ac×Co):=(T_ g h L).filter λp=>decide (p.1≠d)
structure Mod (K:Ar) (mg:Am->Option Aa) (base:Heap):Prop where
 UR:K.In base
 glob:base.Ns Ai mg
 blt:∃mb,base.Ns Fi mb/\∀x:Am,x ≠ "__name__"->mb x=DJ x
 nolimit:base.NoLimit
structure Cx where
 prog:AE
 w:AU
 K:Ar
 mg:Am->Option Aa
 base:Heap
 A:AX
 N:List Am
 s₀:Ae
 H₀:Hp
 env:EJ
 outer:List EJ
 stack:List EJ
 ex:List Ac
 fn:Am->Bool
 calm:Bool
 pn:List (Ac×Co)
 xe:Aa->Ae->Prop
noncomputable def jL (l:List EJ):List Ac:=l.filterMap (·.frame)
noncomputable abbrev Cx.fs (X:Cx):List Ac:=jL X.outer
def XG (sc:Ck)(x:Am):Prop:=sc.names.lookup x=some .local∨sc.names.lookup x=some .cell∨sc.names.lookup x=some .free
def Xo (sc:Ck)(x:Am):Prop:=sc.names.lookup x=some .local∨sc.names.lookup x=some .cell
def ċ (env:EJ)(h:Heap)(m:Am->Option Aa)(x:Am)(u:Aa):Prop:=
 (env.kindOf x=some .local/\m x=some u)∨((env.kindOf x=some .cell∨env.kindOf x=some .free)/\∃c,env.cells.lookup x=some c/\h.IsCell c (some u))
structure Cx.Ok (X:Cx):Prop where
 mod:Mod X.K X.mg X.base
 kind:X.env.scope.kind = .function
 glob:X.env.globals=Ai
 blt:X.env.builtins=Fi
 above:X.s₀.heap.objs.size<=X.env.locals
 inj:∀x y c,X.env.cells.lookup x=some c->X.env.cells.lookup y=some c->x=y
 has:∀x,(X.env.kindOf x=some .cell∨X.env.kindOf x=some .free)->∃c,X.env.cells.lookup x=some c
 TX:∀x c,X.fn x=true->X.env.cells.lookup x=some c->X.s₀.heap.objs.size<=c
 hd:X.calm=true->X.A.handled=none
 frames:X.A.frames=some X.stack
 Xs:X.stack=X.outer∨(X.stack=X.env::X.outer/\X.env.frame=some X.env.locals)
 ZY:∀b∈X.ex,b≠X.env.locals/\∀x c,X.env.cells.lookup x=some c->c≠b
 bs:∀b o,X.base.get? b=some o->X.s₀.heap.get? b=some o/\X.H₀ b=none
 Lx:X.base.objs.size<=X.s₀.heap.objs.size
 zD:∀b o,X.base.get? b=some o->b∉X.ex
 NT:∀b∈X.ex,b∉X.fs
 jK:X.s₀.heap.FunFrames X.base X.outer
 Oy:∀b∈X.fs,X.H₀ b=none
structure bA (X:Cx) (pins:List (Ac×Co)) (Y:List (Option V)) (H:Hp) (s:Ae):Prop where
 ok:X.Ok
 os:s.os=X.s₀.os
 bare:Db s.gens
 base:Un X.fs X.ex X.H₀ H X.s₀.heap s.heap
 loc:∃m,s.heap.Ns X.env.locals m/\∀(i:Nat) (x:Am) (v:V),X.N[i]?=some x->Y[i]?=some (some v)->XG X.env.scope x->∃u,cv v u/\ċ X.env s.heap m x u
 cell:∀x c,X.env.cells.lookup x=some c->∃v,s.heap.IsCell c v
 free:H X.env.locals=none
 iX:∀x c,X.env.cells.lookup x=some c->H c=none
 pin:∀p∈X.pn++pins,s.heap.get? p.1=some p.2/\H p.1=none/\p.1≠X.env.locals/\p.1∉X.fs/\∀v,p.2.data≠.cell v
 cY:kK X.prog X.w H s.heap
 len:Y.length=X.N.length
section
variable {X:Cx}{pins:List (Ac×Co)}{Y:List (Option V)}{H H':Hp}{s:Ae}{h':Heap}
theorem Cx.Ok.Ú (ok:X.Ok){b:Ac}{o:Co}(e:X.base.get? b=some o):b∉X.fs:=λh=>by
 have:=(ok.jK.mem h).1;rw[e]at this;cases this
theorem bA.bs (I:bA X pins Y H s):∀b o,X.base.get? b=some o->s.heap.get? b=some o/\H b=none:=λb o e=>
 ⟨I.base.keep b o (I.ok.bs b o e).1 (I.ok.bs b o e).2 (I.ok.Ú e) (I.ok.zD b o e),I.base.free b o (I.ok.bs b o e).1 (I.ok.bs b o e).2 (I.ok.zD b o e)⟩
theorem bA.bk (I:bA X pins Y H s):∀b o,X.base.get? b=some o->s.heap.get? b=some o:=λb o e=>(I.bs b o e).1
theorem bA.mod (I:bA X pins Y H s):Mod X.K X.mg X.base:=I.ok.mod
theorem bA.kZ (I:bA X pins Y H s):X.K.In s.heap:=I.ok.mod.UR.keeps I.bk
theorem bA.nolimit (I:bA X pins Y H s):s.heap.NoLimit:=I.ok.mod.nolimit.keeps I.bk
theorem bA.lt (I:bA X pins Y H s):X.env.locals<s.heap.objs.size:=let⟨_,hn,_⟩:=I.loc;hn.lt
theorem bA.sz (I:bA X pins Y H s):X.s₀.heap.objs.size<=s.heap.objs.size:=BC I.ok.above (EY I.lt)
theorem bA.Ù (I:bA X pins Y H s){a:Ac}(h:s.heap.objs.size<=a):a∉X.fs:=λB=>by
 obtain⟨_,o,O,_⟩:=I.ok.jK.mem B;exact absurd (A6 (AY O) (BC I.sz h)) (B3 _)
theorem bA.RE (I:bA X pins Y H s):∀x c,X.env.cells.lookup x=some c->c≠X.env.locals:=λx c e z=>by
 obtain⟨v,o,O,hd⟩:=I.cell x c e;obtain⟨m,⟨f,g,p,h,a,_⟩,_⟩:=I.loc;rw[z,h]at O;cases O;rw[a]at hd;cases hd
theorem bA.jK (I:bA X pins Y H s):s.heap.FunFrames X.base X.outer:=by
 have all:∀(l:List EJ),(∀b∈jL l,b∈X.fs)->X.s₀.heap.FunFrames X.base l->s.heap.FunFrames X.base l:=by
  intro l
  induction l with
  |nil=>intro _ _;trivial
  |cons env r f=>
   intro c hl;obtain⟨k,⟨L,o,hf,hn,O,hd⟩,g⟩:=hl;have a:L∈X.fs:=c L (by unfold jL;rw[EQ,hf];exact AF);obtain⟨j,e⟩:=I.base.slot L o O (I.ok.Oy L a) a λz=>I.ok.NT L z a
   exact⟨k,⟨L,_,hf,hn,e,hd⟩,f (λb h=>c b (by unfold jL;rw[EQ,hf];exact Aj _ h)) g⟩
 exact all X.outer (λ_ h=>h) I.ok.jK
theorem bA.stack (I:bA X pins Y H s):s.heap.FunFrames X.base X.stack:=by
 rcases I.ok.Xs with e | ⟨e,hf⟩
 .rw [e];exact I.jK
 .rw [e];obtain⟨m,hn,_⟩:=I.loc;refine .cons (by rw[I.ok.kind];decide) hf hn ?_ I.jK;exact Heap.get?_none_of_le (BC I.ok.Lx I.ok.above)
theorem bA.qe (I:bA X pins Y H s):∀b∈jL X.stack,b∈X.env.locals::X.fs:=λb h=>by
 rcases I.ok.Xs with e | ⟨e,hf⟩
 .rw [e]at h;exact Aj _ h
 .rw [e]at h;unfold jL at h;rw[EQ,hf]at h;exact h
theorem bA.mm (I:bA X pins Y H s):∀b∈jL X.stack,H b=none:=λb h=>by
 rcases AB.mp (I.qe b h) with e |h
 .rw [e];exact I.free
 .obtain ⟨_,o,O,_⟩:=I.ok.jK.mem h;exact I.base.free b o O (I.ok.Oy b h) λz=>I.ok.NT b z h
theorem bA.step {g':Array Iy}{t':Nat}{d':Drawn}{ch:List Ac}(I:bA X pins Y H s)
  (a:∀b∈ch,(b∈X.ex∨X.s₀.heap.objs.size<=b)/\b≠X.env.locals/\(∀x c,X.env.cells.lookup x=some c->c≠b)/\∀p∈X.pn++pins,p.1≠b)
  (keep:∀b o,b≠X.env.locals->b∉X.fs->b∉ch->s.heap.get? b=some o->H b=none->h'.get? b=some o)
  (slot:∀b o,b≠X.env.locals->b∈X.fs->b∉ch->s.heap.get? b=some o->H b=none->∃Q,h'.get? b=some {o with slots:=Q}) (free:∀b o,b∉ch->s.heap.get? b=some o->H b=none->H' b=none)
  (there:∀b o,b∉ch->s.heap.get? b=some o->∃j,h'.get? b=some j)
  (t:∀b xs,H b=some (.tup xs)->H' b=some (.tup xs)) (G:∀b o u,H b=some (.fC o u)->H' b=some (.fC o u)) (T:∀b ps,H b=some (.Uj ps)->∃more,H' b=some (.Uj (ps++more)))
  (ns:∀m,s.heap.Ns X.env.locals m->h'.Ns X.env.locals m) (U:kK X.prog X.w H' h') (hg:Db g'):
  bA X pins Y H' {s with heap:=h',gens:=g',drawn:=d',toks:=t'}:=by
 have A:∀b o,X.s₀.heap.get? b=some o->b≠X.env.locals:=λb o e=>Bx (A6 (AY e) I.ok.above)
 have f:∀b o,X.s₀.heap.get? b=some o->b∉X.ex->b∉ch:=λb o e h B=>by
  rcases (a b B).1 with z |z
  .exact h z
  .exact absurd (A6 (AY e) z) (B3 _)
 have L:∀x c,X.env.cells.lookup x=some c->∀v,s.heap.IsCell c v->h'.IsCell c v:=λx c e v ⟨o,O,hd⟩=>by
  have C:c∉ch:=λz=>(a c z).2.2.1 x c e rfl
  by_cases hc:c∈X.fs
  .obtain ⟨Q,q⟩:=slot c o (I.RE x c e) hc C O (I.iX x c e);exact⟨_,q,hd⟩
  .exact ⟨o,keep c o (I.RE x c e) hc C O (I.iX x c e),hd⟩
 refine⟨I.ok,I.os,hg,⟨λb o e n B h=>?_,λb o e n B h=>?_,λb o e n h=>?_,λb o e h=>?_,λb xs e=>t b xs (I.base.mf b xs e),λb o xs e=>G b o xs (I.base.kE b o xs e),λb ps e=>?_⟩,?_,λx c e=>?_,?_,λx c e=>?_,λp hp=>?_,U,I.len⟩
 .exact keep b o (A b o e) B (f b o e h) (I.base.keep b o e n B h) (I.base.free b o e n h)
 .obtain ⟨Q,g⟩:=I.base.slot b o e n B h;obtain⟨M,J⟩:=slot b _ (A b o e) B (f b o e h) g (I.base.free b o e n h);exact⟨M,J⟩
 .obtain ⟨j,g⟩:=I.base.there b o e h;exact free b j (f b o e h) g (I.base.free b o e n h)
 .obtain ⟨j,g⟩:=I.base.there b o e h;exact there b j (f b o e h) g
 .obtain ⟨m1,g⟩:=I.base.mh b ps e;obtain⟨m2,J⟩:=T b _ g;exact⟨m1++m2,by rw[J,FA]⟩
 .obtain ⟨m,hn,hl⟩:=I.loc;refine⟨m,ns m hn,λi x v g J e3=>?_⟩;obtain⟨u,r,l⟩:=hl i x v g J e3;refine⟨u,r,?_⟩;rcases l with l | ⟨k,c,e,z⟩
  .exact .inl l
  .exact .inr ⟨k,c,e,L x c e _ z⟩
 .obtain ⟨v,z⟩:=I.cell x c e;exact⟨v,L x c e v z⟩
 .obtain ⟨m,⟨o,_,_,O,_⟩,_⟩:=I.loc;exact free _ o (λz=>(a _ z).2.1 rfl) O I.free
 .obtain ⟨v,o,O,hd⟩:=I.cell x c e;exact free c o (λz=>(a c z).2.2.1 x c e rfl) O (I.iX x c e)
 .obtain ⟨e,n,ne,nf,d⟩:=I.pin p hp;have C:p.1∉ch:=λz=>(a p.1 z).2.2.2 p hp rfl
  exact⟨keep p.1 p.2 ne nf C e n,free p.1 p.2 C e n,ne,nf,d⟩
theorem bA.un {t':Nat}(I:bA X pins Y H s)(u:Un X.fs [] H H' s.heap h')(k:kK X.prog X.w H' h'):bA X pins Y H' {s with heap:=h',toks:=t'}:=by
 obtain⟨m,⟨o,j,q,O,r⟩,_⟩:=id I.loc;obtain⟨l,L⟩:=u.any O I.free (by simp);exact I.step (g':=s.gens) (d':=s.drawn) (ch:=[]) (λ_ z=>nomatch z) (λb o _ B _ e n=>u.keep b o e n B (by simp)) (λb o _ B _ e n=>u.slot b o e n B (by simp)) (λb o _ e n=>u.free b o e n (by simp)) (λb o _ e=>u.there b o e (by simp)) u.mf u.kE u.mh (λg M=>by
  obtain⟨f,a,p,h,c⟩:=M;rw[O]at h;cases h;exact⟨_,a,p,L,c⟩) k I.bare
theorem bA.call {g':Array Iy}{t':Nat}{d':Drawn}{ch:List Ac}(I:bA X pins Y H s)(u:Un (jL X.stack) ch H H' s.heap h')(k:kK X.prog X.w H' h')(hg:Db g')
  (C:∀b∈ch,(b∈X.ex∨X.s₀.heap.objs.size<=b)/\b≠X.env.locals/\(∀x c,X.env.cells.lookup x=some c->c≠b)/\∀p∈X.pn++pins,p.1≠b):
  bA X pins Y H' {s with heap:=h',gens:=g',drawn:=d',toks:=t'}:=by
 obtain⟨m,⟨o,t,v,O,r⟩,_⟩:=id I.loc;obtain⟨l,L⟩:=u.any O I.free λz=>(C _ z).2.1 rfl
 exact I.step C (λb o L B hc e n=>u.keep b o e n (λz=>(AB.mp (I.qe b z)).elim L B) hc) (λb o _ _ hc e n=>u.any e n hc) (λb o hc e n=>u.free b o e n hc) (λb o hc e=>u.there b o e hc) u.mf u.kE u.mh (λq M=>by
  obtain⟨j,a,f,h,g⟩:=M;rw[O]at h;cases h;exact⟨_,a,f,L,g⟩) k hg
theorem bA.turned {t':Nat}{t:Ac}(I:bA X pins Y H s)(k:∀b o,b≠t->s.heap.get? b=some o->h'.get? b=some o)(hn:H t=none)(h:t≠X.env.locals)
  (h1:t∈X.ex∨X.s₀.heap.objs.size<=t) (h2:∀x c,X.env.cells.lookup x=some c->c≠t) (a:∀p∈X.pn++pins,p.1≠t):bA X pins Y H {s with heap:=h',toks:=t'}:=by
 have T:∀b u,H b=some u->b≠t:=λb u e z=>by rw[z,hn]at e;cases e
 refine I.step (g':=s.gens) (d':=s.drawn) (ch:=[t]) (λb B=>?_) (λb o _ _ hc e _=>k b o (λz=>hc (by simp[z])) e) (λb o _ _ hc e _=>⟨o.slots,k b o (λz=>hc (by simp[z])) e⟩) (λ_ _ _ _ n=>n)
  (λb o hc e=>⟨o,k b o (λz=>hc (by simp[z])) e⟩) (λ_ _ e=>e) (λ_ _ _ e=>e) (λb ps e=>⟨#[],by rw[e];simp⟩) (λm M=>?_) (λb u e=>?_) I.bare
 .have e:b=t:=by simpa using B
  subst e;exact⟨h1,h,h2,a⟩
 .obtain ⟨o,f,g,O,r⟩:=M;exact⟨o,f,g,k _ o (Bm h) O,r⟩
 .refine (I.cY b u e).qh (λc v hc q=>k c v ?_ q) (λ_ q=>q) λ_ _ q _=>q
  rcases hc with z |z
  .rw [z];exact T b u e
  .exact T c _ z
theorem bA.tok (I:bA X pins Y H s)(t:Nat):bA X pins Y H {s with toks:=t}:=I.un (h':=s.heap) (t':=t) Un.refl I.cY
theorem bA.kept {t':Nat}(I:bA X pins Y H s)(k:∀b u,s.heap.get? b=some u->h'.get? b=some u):bA X pins Y H {s with heap:=h',toks:=t'}:=I.un (Un.kept k) (I.cY.kept k)
theorem bA.laid {a:Ac}{o:HO}{t':Nat}(I:bA X pins Y H s)(k:∀b u,s.heap.get? b=some u->h'.get? b=some u)(h:s.heap.objs.size<=a)(new:eo X.prog X.w (c8 H a o) h' a o):
  bA X pins Y (c8 H a o) {s with heap:=h',toks:=t'}:=I.un (Un.laid k h (I.cY.fresh h)) (I.cY.laid k h new)
theorem bA.write {x e:Ac}{o:HO}{t':Nat}(I:bA X pins Y H s)(mu:Z7 (H x))(a:e=x∨H e=some (.own x))(k:∀b u,b≠e->s.heap.get? b=some u->h'.get? b=some u)(h:∃u,h'.get? e=some u)
  (new:eo X.prog X.w (c8 H x o) h' x o):bA X pins Y (c8 H x o) {s with heap:=h',toks:=t'}:=I.un (Un.write mu a k h) (I.cY.write mu a k h new)
theorem bA.Me {n:List (Ac×Co)}(I:bA X pins Y H s)(h:∀p∈n,s.heap.get? p.1=some p.2/\H p.1=none/\p.1≠X.env.locals/\p.1∉X.fs/\∀v,p.2.data≠.cell v):bA X n Y H s:=
 ⟨I.ok,I.os,I.bare,I.base,I.loc,I.cell,I.free,I.iX,λp a=>(Au.mp a).elim (λz=>I.pin p (By _ z)) (h p),I.cY,I.len⟩
theorem xJ {N:List Am}(hN:N.Nodup){i j:Nat}{x:Am}(a:N[i]?=some x)(b:N[j]?=some x):i=j:=by
 obtain⟨h1,c⟩:=Ab.mp a;obtain⟨h2,e⟩:=Ab.mp b;exact (List.getElem_inj hN).mp (c.trans e.symm)
theorem tE {M:Jr}{A:AX}{E:Aa->Ae->Prop}{i:Nat}{x:Am}{v:V}{u:Aa}{Q:Unit->Ae->Prop}(I:bA X pins Y H s)(hN:X.N.Nodup)(hi:X.N[i]?=some x)(l:Xo X.env.scope x)(r:cv v u)
  (h:∀s',bA X pins (Y.set i (some v)) H s'->(∃a,Heap.SameBut a s.heap s'.heap/\(a=X.env.locals∨X.env.cells.lookup x=some a))->Q () s') (hf:X.fn x=true∨X.env.scope.names.lookup x=some .local:=by first |exact .inl rfl |exact .inr rfl |assumption):AJ M A (Jy X.env x u) Q E s:=by
 obtain⟨m,hn,hl⟩:=id I.loc;have õ:(X.env.scope.kind == .class || (X.env.scope.kind == .module && X.env.locals != X.env.globals))=false:=by rw[I.ok.kind];rfl
 have J:i<Y.length:=by rw[I.len];exact (Ab.mp hi).1
 have RE:=I.RE;have t:∀{a:Ac} {h':Heap},(∃o,s.heap.get? a=some o/\H a=none)->Heap.SameBut a s.heap h'->kK X.prog X.w H h':=λ{a h'} ha f b ob e=>by
  obtain⟨_,_,B⟩:=ha;refine (I.cY b ob e).qh (λc w' hc q=>(f.2 c ?_).trans q) (λ_ q=>q) λ_ _ q _=>q
  rintro rfl;rcases hc with rfl |hc
  .rw [B]at e;cases e
  .rw [B]at hc;cases hc
 rcases l with G |G
 .refine wpAny_storeName_local G hn (λh' Ī f=>?_) õ;obtain⟨oL,_,_,ź,_⟩:=id hn;refine h _ ⟨I.ok,I.os,I.bare,⟨λb o e n T l=>?_,λb o e n T l=>?_,I.base.free,λb o e l=>?_,I.base.mf,I.base.kE,I.base.mh⟩,⟨_,Ī,λj y v' g C e3=>?_⟩,λy c e=>?_,I.free,I.iX,λp hp=>?_,t ⟨oL,ź,I.free⟩ f,by simpa using I.len⟩ ⟨_,f,.inl rfl⟩
  .exact (f.2 b (Bx (A6 (AY e) I.ok.above))).trans (I.base.keep b o e n T l)
  .obtain ⟨sl,g⟩:=I.base.slot b o e n T l;exact⟨sl,(f.2 b (Bx (A6 (AY e) I.ok.above))).trans g⟩
  .obtain ⟨o',g⟩:=I.base.there b o e l;exact⟨o',(f.2 b (Bx (A6 (AY e) I.ok.above))).trans g⟩
  .by_cases L:j=i
   .subst L;rw[hi]at g;cases g;rw[Az J]at C;cases C;exact⟨u,r,.inl ⟨G,by simp⟩⟩
   .rw [AL (Bm L)]at C;obtain⟨u',r',q⟩:=hl j y v' g C e3;refine⟨u',r',?_⟩;rcases q with⟨k,e⟩ | ⟨k,c,e,z⟩
    .refine .inl ⟨k,?_⟩;have:y≠x:=λe=>L (xJ hN g (e▸hi))
     simp[this,e]
    .exact .inr ⟨k,c,e,z.sameBut f (RE y c e)⟩
  .obtain ⟨w',z⟩:=I.cell y c e;exact⟨w',z.sameBut f (RE y c e)⟩
  .obtain ⟨e,n,ne,nf,d⟩:=I.pin p hp;exact⟨(f.2 p.1 ne).trans e,n,ne,nf,d⟩
 .have O:X.fn x=true:=by
   rcases hf with z |z
   .exact z
   .rw [z]at G;cases G
  obtain⟨c,hc⟩:=I.ok.has x (.inl G);obtain⟨w',z⟩:=I.cell x c hc;refine wpAny_storeName_cell I.ok.kind G hc z (λh' Ox f=>?_);obtain⟨oc,ħ,U⟩:=id z;refine h {s with heap:=h'} ⟨I.ok,I.os,I.bare,⟨λb o e n T l=>?_,λb o e n T l=>?_,I.base.free,λb o e l=>?_,I.base.mf,I.base.kE,I.base.mh⟩,⟨m,hn.sameBut f (Bm (RE x c hc)),λj y v' g C e3=>?_⟩,λy c' e=>?_,I.free,I.iX,λp hp=>?_,t ⟨oc,ħ,I.iX x c hc⟩ f,by simpa using I.len⟩ ⟨c,f,.inr hc⟩
  .exact (f.2 b (Bx (A6 (AY e) (I.ok.TX x c O hc)))).trans (I.base.keep b o e n T l)
  .obtain ⟨sl,g⟩:=I.base.slot b o e n T l;exact⟨sl,(f.2 b (Bx (A6 (AY e) (I.ok.TX x c O hc)))).trans g⟩
  .obtain ⟨o',g⟩:=I.base.there b o e l;exact⟨o',(f.2 b (Bx (A6 (AY e) (I.ok.TX x c O hc)))).trans g⟩
  .by_cases L:j=i
   .subst L;rw[hi]at g;cases g;rw[Az J]at C;cases C;exact⟨u,r,.inr ⟨.inl G,c,hc,Ox⟩⟩
   .rw [AL (Bm L)]at C;obtain⟨u',r',q⟩:=hl j y v' g C e3;refine⟨u',r',?_⟩;rcases q with q | ⟨k,c',e,z'⟩
    .exact .inl q
    .refine .inr ⟨k,c',e,z'.sameBut f ?_⟩;rintro rfl;exact L (xJ hN g (I.ok.inj _ _ _ e hc▸hi))
  .by_cases Ĵ:c'=c
   .subst Ĵ;exact⟨_,Ox⟩
   .obtain ⟨w2,z2⟩:=I.cell y c' e;exact⟨w2,z2.sameBut f Ĵ⟩
  .obtain ⟨e,n,ne,nf,d⟩:=I.pin p hp;refine⟨(f.2 p.1 ?_).trans e,n,ne,nf,d⟩;intro q;rw[q,ħ]at e;have q':oc=p.2:=AV e;exact d w' (by rw[<- q'];exact U)
theorem jR {M:Jr}{A:AX}{E:Aa->Ae->Prop}{i:Nat}{x:Am}{v:V}{u:Aa}{Q:Unit->Ae->Prop}(I:bA X pins Y H s)(hN:X.N.Nodup)(hi:X.N[i]?=some x)(a:Xo X.env.scope x)(r:cv v u)
  (h:∀s',bA X pins (Y.set i (some v)) H s'->Q () s') (hf:X.fn x=true∨X.env.scope.names.lookup x=some .local:=by first |exact .inl rfl |exact .inr rfl |assumption):AJ M A (Jy X.env x u) Q E s:=
 tE I hN hi a r (λs' c _=>h s' c) hf
theorem bA.RI {s':Ae}{ch:List Ac}(I:bA X pins Y H s)(O:s'.os=s.os)(u:Un (jL X.stack) ch H H' s.heap s'.heap)(h:kK X.prog X.w H' s'.heap)(hg:Db s'.gens)
  (C:∀b∈ch,(b∈X.ex∨X.s₀.heap.objs.size<=b)/\b≠X.env.locals/\(∀x c,X.env.cells.lookup x=some c->c≠b)/\∀p∈X.pn++pins,p.1≠b):bA X pins Y H' s':=by
 obtain⟨h',g',d',t',o⟩:=s';have e:o=s.os:=O;subst e;exact I.call (g':=g') (t':=t') (d':=d') u h hg C
end
abbrev XK:=Aa->Option Ac->Hp->Prop
abbrev St:=List (Option V)
abbrev VK:=V->Hp->Prop
abbrev TE:=St->Hp->VK->Prop
abbrev TT:=St->Hp->(Bool->Hp->Prop)->Prop
abbrev TA:=St->Hp->(List V->Hp->Prop)->Prop
structure yA where
 nx:St->Hp->Prop
 rt:VK
 bk:St->Hp->Prop:=λ_ _=>False
 ct:St->Hp->Prop:=λ_ _=>False
abbrev TS:=yA->St->Hp->Prop
def EP (X:Cx)(pins:List (Ac×Co))(Y:St)(Q:VK)(u:Aa)(s':Ae):Prop:=∃v a,bA X pins Y a s'/\cv v u/\Q v a
def TP (X:Cx)(pins:List (Ac×Co))(Y:St)(Q:Bool->Hp->Prop)(b:Bool)(s':Ae):Prop:=∃a,bA X pins Y a s'/\Q b a
def AP (X:Cx)(pins:List (Ac×Co))(Y:St)(Q:List V->Hp->Prop)(us:List Aa)(s':Ae):Prop:=∃vs a,bA X pins Y a s'/\bI vs us/\Q vs a
def SP (X:Cx)(pins:List (Ac×Co))(D:yA)(f:Flow)(s':Ae):Prop:=
 match f with
 | .next=>∃c a,bA X pins c a s'/\D.nx c a
 | .brk=>∃c a,bA X pins c a s'/\D.bk c a
 | .cont=>∃c a,bA X pins c a s'/\D.ct c a
 | .ret u=>∃v c a,bA X pins c a s'/\cv v u/\D.rt v a
def PE (X:Cx)(e:Expr)(t:TE):Prop:=
 ∀(pins:List (Ac×Co)) (s:Ae) (Y:St) (H:Hp) (Q:VK),bA X pins Y H s->t Y H Q->AJ (model X.prog X.w) X.A (eval e X.env) (EP X pins Y Q) X.xe s
def PT (X:Cx)(e:Expr)(t:TT):Prop:=
 ∀(pins:List (Ac×Co)) (s:Ae) (Y:St) (H:Hp) (Q:Bool->Hp->Prop),bA X pins Y H s->t Y H Q->AJ (model X.prog X.w) X.A (isTrue e X.env (eval e X.env)) (TP X pins Y Q) X.xe s
def PW (X:Cx)(e:Expr)(t:TT):Prop:=
 ∀(whole:Jb Aa) (pins:List (Ac×Co)) (s:Ae) (Y:St) (H:Hp) (Q:Bool->Hp->Prop),bA X pins Y H s->t Y H Q->AJ (model X.prog X.w) X.A (isTrue e X.env whole) (TP X pins Y Q) X.xe s
theorem PW.pt {X:Cx}{e:Expr}{t:TT}(h:PW X e t):PT X e t:=h _
def PA (X:Cx)(e:List Expr)(t:TA):Prop:=
 ∀(pos:DR) (pins:List (Ac×Co)) (s:Ae) (Y:St) (H:Hp) (Q:List V->Hp->Prop),bA X pins Y H s->t Y H Q->AJ (model X.prog X.w) X.A (spliced (BY pos (Av e X.env))) (AP X pins Y Q) X.xe s
def PS (X:Cx)(st:AW)(t:TS):Prop:=
 ∀(pins:List (Ac×Co)) (s:Ae) (Y:St) (H:Hp) (D:yA),bA X pins Y H s->t D Y H->AJ (model X.prog X.w) X.A (exec st X.env) (SP X pins D) X.xe s
def PSs (X:Cx)(st:List AW)(t:TS):Prop:=
 ∀(pins:List (Ac×Co)) (s:Ae) (Y:St) (H:Hp) (D:yA),bA X pins Y H s->t D Y H->AJ (model X.prog X.w) X.A (execs st X.env) (SP X pins D) X.xe s
theorem cK {c:Type}{t:Jb c}{Q e:c->Ae->Prop}{M:Jr}{A:AX}{E:Aa->Ae->Prop}{s:Ae}(h:AJ M A t Q E s)(f:∀a s,Q a s->e a s):AJ M A t e E s:=BV h f λ_ _ x=>x
section
variable {X:Cx}
def eT (i:Nat):TE:=λY H Q=>∃v,Y[i]?=some (some v)/\Q v H
def tC (v:V):TE:=λ_ H Q=>Q v H
theorem V5 {i:Nat}{x:Am}{pos:DR}(hN:X.N[i]?=some x)(f:XG X.env.scope x)(hd:(x==("__debug__":Am))=false:=by decide)(a:(x==("__classdict__":Am))=false:=by decide):PE X (.Name x pos) (eT i):=by
 intro pins s Y H Q I h;obtain⟨v,e,h⟩:=h;obtain⟨m,hn,hl⟩:=I.loc;obtain⟨u,r,l⟩:=hl i x v hN e f;have fin:EP X pins Y Q u s:=⟨v,H,I,r,h⟩
 rcases l with⟨k,M⟩ | ⟨k,c,hc,C⟩
 .exact IS (Iq I.ok.kind k hn M fin) hd
 .rcases k with k |k
  .exact IS (II I.ok.kind k hc C fin) hd
  .exact IS (wpAny_loadName_free I.ok.kind k hc C fin a) hd
theorem aE {i j pos}:PE X (.Constant (.int i) j pos) (tC (.int i)):=λ_ _ _ H _ I h=>wpAny_Constant_int ⟨.int i,H,I.tok _,⟨_,rfl⟩,h⟩
theorem dJ {b j pos}:PE X (.Constant (.bool b) j pos) (tC (.bl b)):=λ_ _ _ H _ I h=>Constant_bool ⟨.bl b,H,I,rfl,h⟩
theorem fg {j pos}:PE X (.Constant .none j pos) (tC .cn):=λ_ _ _ H _ I h=>Constant_none ⟨.cn,H,I,rfl,h⟩
theorem f6 {x j pos}:PE X (.Constant (.str x) j pos) (tC (.str x)):=λ_ _ _ H _ I h=>Calls.Constant_str ⟨.str x,H,I.tok _,⟨_,rfl⟩,h⟩
def Gl (X:Cx)(x:Am):Prop:=X.env.kindOf x=some .globalImplicit
theorem kY {E:Aa->Ae->Prop}{pins:List (Ac×Co)}{s:Ae}{Y:St}{H:Hp}{x:Am}{u:Aa}{pos:DR}{Q:Aa->Ae->Prop}(I:bA X pins Y H s)(hg:Gl X x)(m:X.mg x=some u)(h:Q u s)
  (hd:(x==("__debug__":Am))=false:=by decide):AJ (model X.prog X.w) X.A (eval (.Name x pos) X.env) Q E s:=
 Gq I.ok.kind hg (Calls.loadGlobal_global (by rw[I.ok.glob];exact I.mod.glob.keeps I.bk) m h) hd
theorem f9 {E:Aa->Ae->Prop}{pins:List (Ac×Co)}{s:Ae}{Y:St}{H:Hp}{x:Am}{u:Aa}{pos:DR}{Q:Aa->Ae->Prop}(I:bA X pins Y H s)(hg:Gl X x)(m:X.mg x=none)(v:DJ x=some u)(h:Q u s)
  (hn:x ≠ "__name__":=by decide) (hd:(x==("__debug__":Am))=false:=by decide):AJ (model X.prog X.w) X.A (eval (.Name x pos) X.env) Q E s:=by
 obtain⟨M,h1,h2⟩:=I.mod.blt;exact Gq I.ok.kind hg (Calls.loadGlobal_builtin (by rw[I.ok.glob];exact I.mod.glob.keeps I.bk) m (by rw[I.ok.blt];exact h1.keeps I.bk) ((h2 x hn).trans v) h) hd
theorem vn {x:Am}{v:V}{u:Aa}{pos:DR}(hg:Gl X x)(m:X.mg x=some u)(r:cv v u)(hd:(x==("__debug__":Am))=false:=by decide):PE X (.Name x pos) (tC v):=
 λ_ _ _ H _ I h=>kY I hg m ⟨v,H,I,r,h⟩ hd
theorem dk {x:Am}{v:V}{u:Aa}{pos:DR}(hg:Gl X x)(m:X.mg x=none)(a:DJ x=some u)(r:cv v u)(hn:x ≠ "__name__":=by decide)(hd:(x==("__debug__":Am))=false:=by decide):PE X (.Name x pos) (tC v):=
 λ_ _ _ H _ I h=>f9 I hg m a ⟨v,H,I,r,h⟩ hn hd
variable {a b:Expr}{ta tb:TE}{pos:DR}
def tB (t:TE):TT:=λY H Q=>t Y H λx e=>∃c,x = .bl c/\Q c e
theorem bY {e:Expr}{t:TE}(h:PE X e t)(f:∀whole,isTrue e X.env whole=(do let v <- whole;FK e.pos;EA [v] (Lc v)):=by intro _;rfl):PT X e (tB t):=by
 intro pins s Y H Q I hw;refine KR (cK (h pins s Y H _ I hw) λv k z=>?_) (f _);obtain⟨x,j,g,r,c⟩:=z;obtain⟨d,rfl,q⟩:=c;cases r;exact BP ⟨j,g,q⟩
variable {tA ZM:TT}{dg:List Expr}
def X0 (t u:TT):TT:=λY H Q=>t Y H λc e=>if c=true then u Y e Q else Q false e
def ĕ (t u:TT):TT:=λY H Q=>t Y H λc e=>if c=true then Q true e else u Y e Q
def XY (t:TT):TT:=λY H Q=>t Y H λc e=>Q (!c) e
theorem mM (A:PT X a tA):PW X (.BoolOp .And [a] pos) tA:=by
 intro w pins s Y H Q I h;refine Lu (cK (A pins s Y H Q I h) λc f e=>?_)
 cases c with
 |true=>exact isTrue_and_nil e
 |false=>exact e
theorem dG (A:PT X a tA):PW X (.BoolOp .Or [a] pos) tA:=by
 intro w pins s Y H Q I h;refine isTrue_or (cK (A pins s Y H Q I h) λc f e=>?_)
 cases c with
 |false=>exact isTrue_or_nil e
 |true=>exact e
theorem qO (A:PT X a tA)(B:PW X (.BoolOp .And (b::dg) pos) ZM):PW X (.BoolOp .And (a::b::dg) pos) (X0 tA ZM):=by
 intro w pins s Y H Q I h;refine Lu (cK (A pins s Y H _ I h) λc g z=>?_);obtain⟨f,e,q⟩:=z
 cases c with
 |true=>exact B w pins g Y f Q e q
 |false=>exact⟨f,e,q⟩
theorem dX (A:PT X a tA)(B:PW X (.BoolOp .Or (b::dg) pos) ZM):PW X (.BoolOp .Or (a::b::dg) pos) (ĕ tA ZM):=by
 intro w pins s Y H Q I h;refine isTrue_or (cK (A pins s Y H _ I h) λc g z=>?_);obtain⟨f,e,q⟩:=z
 cases c with
 |true=>exact⟨f,e,q⟩
 |false=>exact B w pins g Y f Q e q
theorem cg (A:PT X a tA):PT X (.UnaryOp .Not a pos) (XY tA):=by
 intro pins s Y H Q I h;exact isTrue_not (A pins s Y H (λc e=>Q (!c) e) I h)
def Uu (ta tb:TE):TE:=λY H Q=>ta Y H λx e=>∃c,x = .bl c/\if c=true then tb Y e Q else Q (.bl false) e
def XX (ta tb:TE):TE:=λY H Q=>ta Y H λx e=>∃c,x = .bl c/\if c=true then Q (.bl true) e else tb Y e Q
def Uo (ta:TE):TE:=λY H Q=>ta Y H λx e=>∃c,x = .bl c/\Q (.bl (!c)) e
theorem jr {op}{t:TE}(h:PE X a t):PE X (.BoolOp op [a] pos) t:=λpins s Y H Q I hw=>BoolOp_one (h pins s Y H Q I hw)
theorem gW (A:PE X a ta)(B:PE X (.BoolOp .And (b::dg) pos) tb):PE X (.BoolOp .And (a::b::dg) pos) (Uu ta tb):=by
 intro pins s Y H Q I h;refine BoolOp_and (cK (A pins s Y H _ I h) λv g z=>?_);obtain⟨x,f,e,r,q⟩:=z;obtain⟨c,rfl,q⟩:=q;cases r;refine BP ?_
 cases c with
 |true=>exact B pins g Y f Q e q
 |false=>exact⟨.bl false,f,e,rfl,q⟩
theorem Yf (A:PE X a ta)(B:PE X (.BoolOp .Or (b::dg) pos) tb):PE X (.BoolOp .Or (a::b::dg) pos) (XX ta tb):=by
 intro pins s Y H Q I h;refine BoolOp_or (cK (A pins s Y H _ I h) λv g z=>?_);obtain⟨x,f,e,r,q⟩:=z;obtain⟨c,rfl,q⟩:=q;cases r;refine BP ?_
 cases c with
 |false=>exact B pins g Y f Q e q
 |true=>exact⟨.bl true,f,e,rfl,q⟩
theorem Qq (A:PE X a ta):PE X (.UnaryOp .Not a pos) (Uo ta):=by
 intro pins s Y H Q I h;refine UnaryOp_ (cK (A pins s Y H _ I h) λv g z=>?_);obtain⟨x,f,e,r,q⟩:=z;obtain⟨c,rfl,q⟩:=q;cases r;exact not_of (BP ⟨.bl (!c),f,e,rfl,q⟩)
def Ė (t:TT)(ta tb:TE):TE:=λY H Q=>t Y H λc e=>if c=true then ta Y e Q else tb Y e Q
theorem xu {c:Expr}(hc:PT X c tA)(A:PE X a ta)(B:PE X b tb):PE X (.IfExp c a b pos) (Ė tA ta tb):=by
 intro pins s Y H Q I h;refine wpAny_IfExp (cK (hc pins s Y H _ I h) λd e z=>?_);obtain⟨g,f,q⟩:=z
 cases d with
 |true=>exact A pins e Y g Q f q
 |false=>exact B pins e Y g Q f q
end
def eR (K:Ar)(H:Hp)(a:Ac)(xs:List V):Prop:=
 Rd H a (.lst xs)∨
  ∃(o:Co) (t:Array Aa) (n:Nat),K.lookup a=some o/\o.cls = .type "list"/\o.dict=none/\o.data = .seq t n/\t.size<=AH/\bI xs t.toList
def jO (K:Ar)(H:Hp)(a:Ac)(xs:List V):Prop:=
 Rd H a (.tup xs)∨
  ∃(o:Co) (t:Array Aa) (n:Nat),K.lookup a=some o/\o.cls = .type "tuple"/\o.data = .seq t n/\t.size<=AH/\bI xs t.toList
noncomputable def ć:Aa->Option V
 | .none=>some .cn
 | .bool b=>some (.bl b)
 | .int i _=>some (.int i)
 | .str x _=>some (.str x)
 | .bytes b _=>some (.MQ b)
 | .float b _=>some (.MH b)
 | .ref a=>some (.ref a)
 | .type n=>some (.ty n)
 |_=>none
theorem cv.abs {x:V}{u:Aa}(r:cv x u):ć u=some x:=by
 cases x with
 |cn=>cases r;rfl
 |bl _=>cases r;rfl
 |int _=>obtain⟨t,rfl⟩:=r;rfl
 |str _=>obtain⟨t,rfl⟩:=r;rfl
 |MQ _=>obtain⟨t,rfl⟩:=r;rfl
 |MH _=>obtain⟨t,rfl⟩:=r;rfl
 |ref _=>cases r;rfl
 |ty _=>cases r;rfl
theorem cv.inj {x y:V}{u:Aa}(r:cv x u)(q:cv y u):x=y:=AV (r.abs.symm.trans q.abs)
theorem bI.inj:∀{xs ys:List V} {us:List Aa},bI xs us->bI ys us->xs=ys
 |_,_,_,.nil,.nil=>rfl
 |_,_,_,.cons r t,.cons a t'=>by rw[r.inj a,bI.inj t t']
section
variable {X:Cx}{pins:List (Ac×Co)}{Y:St}{H:Hp}{s:Ae}{a:Ac}{xs ys:List V}
theorem eR.of {K:Ar}(h:H a=some (.lst xs)):eR K H a xs:=.inl (.inl h)
theorem bA.list (I:bA X pins Y H s)(h:eR X.K H a xs):∃t:List Aa,bI xs t/\PlainL s.heap a t.toArray/\xs.length<=AH:=by
 rcases h with h | ⟨o,t,n,k,hc,hd,c,f,r⟩
 .obtain ⟨z,t,n,r,e⟩:=h.ok I.cY;exact⟨t,r,⟨_,n,e,rfl,rfl,rfl⟩,z⟩
 .refine ⟨t.toList,r,⟨o,n,I.kZ a o k,hc,hd,c⟩,?_⟩;have e:=r.length;simp only[B6]at e;lia
theorem bA.tuple (I:bA X pins Y H s)(h:jO X.K H a xs):∃t:List Aa,bI xs t/\Ez s.heap a t.toArray/\xs.length<=AH:=by
 rcases h with h | ⟨o,t,n,k,hc,c,f,r⟩
 .obtain ⟨z,t,r,p⟩:=h.ok I.cY;exact⟨t,r,p,z⟩
 .refine ⟨t.toList,r,⟨o,I.kZ a o k,hc,n,c⟩,?_⟩;have e:=r.length;simp only[B6]at e;lia
theorem bA.xS (I:bA X pins Y H s)(h:eR X.K H a xs)(h':eR X.K H a ys):xs=ys:=by
 obtain⟨t,r,⟨o,n,e,_,_,d⟩,_⟩:=I.list h;obtain⟨its',c,⟨O,g,e',_,_,d'⟩,_⟩:=I.list h';rw[e]at e';cases e';rw[d]at d'
 injection d' with f _
 have:t=its':=by simpa using congrArg Ji f
 subst this;exact r.inj c
theorem bA.tz (I:bA X pins Y H s)(h:jO X.K H a xs)(h':jO X.K H a ys):xs=ys:=by
 obtain⟨t,r,⟨o,e,_,n,d⟩,_⟩:=I.tuple h;obtain⟨its',c,⟨O,e',_,g,d'⟩,_⟩:=I.tuple h';rw[e]at e';cases e';rw[d]at d'
 injection d' with f _
 have:t=its':=by simpa using congrArg Ji f
 subst this;exact r.inj c
end
noncomputable abbrev Cx.su (X:Cx)(E:Aa->Ae->Prop):Cx:={X with xe:=E}
noncomputable abbrev Cx.pP (X:Cx):Cx:=X.su λ_ _=>False
theorem Cx.Ok.su {X:Cx}(ok:X.Ok)(E:Aa->Ae->Prop):(X.su E).Ok:=
 ⟨ok.mod,ok.kind,ok.glob,ok.blt,ok.above,ok.inj,ok.has,ok.TX,ok.hd,ok.frames,ok.Xs,ok.ZY,ok.bs,ok.Lx,ok.zD,ok.NT,ok.jK,ok.Oy⟩
theorem Cx.Ok.jP {X:Cx}{E:Aa->Ae->Prop}(ok:(X.su E).Ok):X.Ok:=
 ⟨ok.mod,ok.kind,ok.glob,ok.blt,ok.above,ok.inj,ok.has,ok.TX,ok.hd,ok.frames,ok.Xs,ok.ZY,ok.bs,ok.Lx,ok.zD,ok.NT,ok.jK,ok.Oy⟩
section
variable {X:Cx}{pins:List (Ac×Co)}{Y:St}{H:Hp}{s:Ae}{E:Aa->Ae->Prop}
theorem bA.su (I:bA X pins Y H s)(E:Aa->Ae->Prop):bA (X.su E) pins Y H s:=⟨I.ok.su E,I.os,I.bare,I.base,I.loc,I.cell,I.free,I.iX,I.pin,I.cY,I.len⟩
theorem bA.jP (I:bA (X.su E) pins Y H s):bA X pins Y H s:=⟨I.ok.jP,I.os,I.bare,I.base,I.loc,I.cell,I.free,I.iX,I.pin,I.cY,I.len⟩
theorem SP.jP {D:yA}{f:Flow}{s':Ae}(h:SP (X.su E) pins D f s'):SP X pins D f s':=by
 cases f with
 |next=>obtain⟨a,c,I,q⟩:=h;exact⟨a,c,I.jP,q⟩
 |brk=>obtain⟨a,c,I,q⟩:=h;exact⟨a,c,I.jP,q⟩
 |cont=>obtain⟨a,c,I,q⟩:=h;exact⟨a,c,I.jP,q⟩
 |ret u=>obtain⟨v,a,c,I,r,q⟩:=h;exact⟨v,a,c,I.jP,r,q⟩
theorem PSs.pP {st:List AW}{t:TS}(h:PSs X.pP st t):PSs X st t:=λpins s Y H D I hw=>
 BV (h pins s Y H D (I.su _) hw) (λ_ _ q=>q.jP) λ_ _ z=>A_ z
end
section
variable {X:Cx}{st:AW}{dg:List AW}{t u:TS}{e:Expr}{te:TE}{pos:DR}
def Up:TS:=λD Y H=>D.nx Y H
def OS (t u:TS):TS:=λD Y H=>t {D with nx:=u D} Y H
theorem br:PSs X [] Up:=λ_ _ Y H _ I h=>Dm ⟨Y,H,I,h⟩
theorem aD (h1:PS X st t)(h2:PSs X dg u):PSs X (st::dg) (OS t u):=by
 intro pins s Y H D I h;refine GG (cK (h1 pins s Y H {D with nx:=u D} I h) λf a q=>?_)
 cases f with
 |next=>
  obtain⟨c,j,g,q⟩:=q;exact h2 pins a c j D g q
 |ret v=>exact q
 |brk=>exact q
 |cont=>exact q
theorem aF (h1:PS X st t):PSs X [st] t:=by
 intro pins s Y H D I h;refine GG (cK (h1 pins s Y H D I h) λf a q=>?_)
 cases f with
 |next=>exact Dm q
 |ret v=>exact q
 |brk=>exact q
 |cont=>exact q
def OZ:TS:=λD Y H=>D.bk Y H
theorem Qj:PS X (.Break pos) OZ:=λ_ _ Y H _ I h=>wpAny_Break ⟨Y,H,I,h⟩
theorem bA.quiet {pins:List (Ac×Co)}{Y:St}{H:Hp}{s:Ae}(I:bA X pins Y H s):interactive X.env=false:=by simp[interactive,I.ok.kind]
def jQ (te:TE):TS:=λD Y H=>te Y H λ_ a=>D.nx Y a
theorem bP (c:PE X e te)(a:GH e none pos.line X.env=pure false:=by rfl):PS X (.Expr e pos) (jQ te):=by
 intro pins s Y H D I h;refine J2 (cK (c pins s Y H _ I h) λv j z=>?_) I.quiet a;obtain⟨x,g,f,r,q⟩:=z;exact⟨Y,g,f,q⟩
def Se (te:TE):TS:=λD Y H=>te Y H D.rt
theorem aP (a:PE X e te):PS X (.Return (some e) pos) (Se te):=by
 intro pins s Y H D I h;refine wpAny_Return_some (cK (a pins s Y H _ I h) λv g z=>?_);obtain⟨x,f,c,r,q⟩:=z;exact⟨x,Y,f,c,r,q⟩
def Sf (c:TT)(t u:TS):TS:=λD Y H=>c Y H λb a=>if b=true then t D Y a else u D Y a
theorem bN {c:Expr}{a b:List AW}{T:TT}(hc:PT X c T)(A:PSs X a t)(B:PSs X b u):PS X (.If c a b pos) (Sf T t u):=by
 intro pins s Y H D I h;refine wpAny_If (cK (hc pins s Y H _ I h) λd f z=>?_);obtain⟨j,g,q⟩:=z
 cases d with
 |true=>exact A pins f Y j D g q
 |false=>exact B pins f Y j D g q
def OU:TS:=λ_ _ _=>False
theorem ko:PS X st OU:=λ_ _ _ _ _ _ h=>h.elim
end
abbrev TG:=V->St->Hp->(St->Hp->Prop)->Prop
abbrev Vk:=List V->St->Hp->(St->Hp->Prop)->Prop
def PG (X:Cx)(target:Expr)(t:TG):Prop:=
 ∀(pins:List (Ac×Co)) (s:Ae) (Y:St) (H:Hp) (v:V) (u:Aa) (Q:St->Hp->Prop),bA X pins Y H s->cv v u->t v Y H Q->
  AJ (model X.prog X.w) X.A (Hd target X.env u) (λ_ s'=>∃a c,bA X pins a c s'/\Q a c) X.xe s
def PGs (X:Cx)(ts:List Expr)(t:Vk):Prop:=
 ∀(pins:List (Ac×Co)) (s:Ae) (Y:St) (H:Hp) (vs:List V) (us:List Aa) (Q:St->Hp->Prop),bA X pins Y H s->bI vs us->t vs Y H Q->
  AJ (model X.prog X.w) X.A (assignInOrder ((Fj ts X.env).map (·.2)) us) (λ_ s'=>∃a c,bA X pins a c s'/\Q a c) X.xe s
abbrev N2:=V->V->V->Hp->(Hp->Prop)->Prop
def Xl (X:Cx)(t:N2):Prop:=
 ∀(pins:List (Ac×Co)) (s:Ae) (Y:St) (H:Hp) (o i v:V) (O a u:Aa) (Q:Hp->Prop),bA X pins Y H s->cv o O->cv i a->cv v u->t o i v H Q->
  AJ (model X.prog X.w) X.A (KG O a u) (λ_ s'=>∃c,bA X pins Y c s'/\Q c) X.xe s
abbrev XH:=V->V->Hp->VK->Prop
def Ċ (X:Cx)(op:Gp)(t:XH):Prop:=
 ∀(pins:List (Ac×Co)) (s:Ae) (Y:St) (H:Hp) (x y:V) (v u:Aa) (Q:VK),bA X pins Y H s->cv x v->cv y u->t x y H Q->
  AJ (model X.prog X.w) X.A (JA op v u) (EP X pins Y Q) X.xe s
section
variable {X:Cx}{pos:DR}
def m7 (i:Nat):TG:=λv Y H Q=>Q (Y.set i (some v)) H
theorem bf {i:Nat}{x:Am}(hN:X.N.Nodup)(hi:X.N[i]?=some x)(a:Xo X.env.scope x)(hf:X.fn x=true∨X.env.scope.names.lookup x=some .local:=by first |exact .inl rfl |exact .inr rfl |assumption):PG X (.Name x pos) (m7 i):=by
 intro pins s Y H v u Q I r h;exact Jk (jR I hN hi a r (λs' c=>⟨_,H,c,h⟩) hf)
def YS:Vk:=λvs Y H Q=>vs=[]/\Q Y H
def U4 (t:TG)(u:Vk):Vk:=λvs Y H Q=>∃v r,vs=v::r/\t v Y H λa c=>u r a c Q
theorem kT:PGs X [] YS:=by
 intro pins s Y H vs us Q I r h;obtain⟨e,h⟩:=h;subst e;exact assignInOrder_nil ⟨Y,H,I,h⟩
theorem dh {e:Expr}{a:List Expr}{t:TG}{u:Vk}(h1:PG X e t)(h2:PGs X a u)
  (g:(Fj (e::a) X.env).map (·.2)=Hd e X.env::(Fj a X.env).map (·.2):=by rfl):PGs X (e::a) (U4 t u):=by
 intro pins s Y H vs us Q I r h;obtain⟨v,n,j,h⟩:=h;subst j
 cases r with
 |cons r f=>
  rw[g];refine assignInOrder_cons (cK (h1 pins s Y H _ _ _ I r h) λ_ c z=>?_);obtain⟨k,m,l,q⟩:=z;exact h2 pins c k m _ _ Q l f q
def YR (K:Ar)(n:Nat)(t:Vk):TG:=λv Y H Q=>∃a xs,v = .ref a/\jO K H a xs/\xs.length=n/\t xs Y H Q
theorem nV {c:List Expr}{k:Nat}{t:Vk}{n:Nat}(hc:X.calm=true)(h:PGs X c t)
  (hn:(Fj c X.env).length=n:=by rfl) (T:(Fj c X.env).findIdx? (·.1)=none:=by rfl):PG X (.Tuple c k pos) (YR X.K n t):=by
 intro pins s Y H v u Q I r hw;obtain⟨a,xs,l,q,hl,hw⟩:=hw;subst l;cases r;obtain⟨g,f,ht,z⟩:=I.tuple q;refine assign_Tuple_tuple (I.ok.hd hc) ht (by simp[hn,<- hl,f.length]) T λh' j=>?_
 have m:bA X pins Y H {s with heap:=h'}:=I.kept (t':=s.toks) λb o e=>j b o (Bx (AY e)) e
 exact h pins _ Y H xs _ Q m f hw
def TB (T a:TE)(t:N2):TG:=λv Y H Q=>T Y H λo f=>a Y f λi e=>t o i v e λc=>Q Y c
theorem vm {o i:Expr}{T c:TE}{t:N2}(n:PE X o T)(hi:PE X i c)(m:Xl X t)
  (L:∀v,Hd (.Subscript o i pos) X.env v=(do
   let O <- EA [v] (eval o X.env)
   let a <- EA [v,O] (eval i X.env)
   FK pos
   EA [v,O,a] (KG O a v)
   release [v,O,a] []):=by intro _;rfl):PG X (.Subscript o i pos) (TB T c t):=by
 intro pins s Y H v u Q I r h;refine Ad (EU (cK (n pins s Y H _ I h) λO f z=>?_));obtain⟨x,G,A,j,l⟩:=z;refine Ad (EU (cK (hi pins f Y G _ A l) λa e z=>?_));obtain⟨y,C,w,g,k⟩:=z;refine Ad (Hu (Ad (EU (cK (m pins e Y C x y v O a u _ w j g r k) λ_ J z=>?_))));obtain⟨B,p,q⟩:=z;exact wpAny_release ⟨Y,B,p,q⟩
def sv (t:TE)(g:TG):TS:=λD Y H=>t Y H λx a=>g x Y a D.nx
theorem vj {t e:Expr}{T:TE}{g:TG}(f:PE X e T)(hg:PG X t g)(c:swapsWithSole [t] e pos.line X.env=pure false:=by rfl)(hw:swappedStores [t] e X.env=pure none:=by rfl)
  (h1:(Fj [t] X.env).map (·.2)=[Hd t X.env]:=by rfl):PS X (.Assign [t] e pos) (sv T g):=by
 intro pins s Y H D I h;refine wpAny_Assign_stores (cK (f pins s Y H _ I h) λv a z=>?_) c hw;obtain⟨x,k,j,r,Q⟩:=z;rw[h1];exact cK (hg pins a Y k x v _ j r Q) λ_ l q=>q
theorem a5 {i:Nat}{x:Am}{e:Expr}{t:TE}{p:DR}(hN:X.N.Nodup)(hi:X.N[i]?=some x)(a:Xo X.env.scope x)(f:PE X e t)(c:GH e (some (.Name x p)) pos.line X.env=pure false:=by rfl)(hf:X.fn x=true∨X.env.scope.names.lookup x=some .local:=by first |exact .inl rfl |exact .inr rfl |assumption):
  PS X (.Assign [.Name x p] e pos) (sv t (m7 i)):=by
 intro pins s Y H D I h;refine wpAny_Assign_Name (cK (f pins s Y H _ I h) λv m z=>?_) c;obtain⟨y,k,j,r,q⟩:=z;exact jR j hN hi a r (λl g=>⟨_,k,g,q⟩) hf
def XZ (i:Nat)(e:TE)(t:XH):TS:=λD Y H=>∃x,Y[i]?=some (some x)/\e Y H λy c=>t x y c λz a=>D.nx (Y.set i (some z)) a
theorem V1 {i:Nat}{x:Am}{e:Expr}{T:TE}{op:Gp}{t:XH}{p:DR}(hN:X.N.Nodup)(hi:X.N[i]?=some x)(o:Xo X.env.scope x)(L:PE X e T)(O:Ċ X op t)(hf:X.fn x=true∨X.env.scope.names.lookup x=some .local:=by first |exact .inl rfl |exact .inr rfl |assumption):
  PS X (.AugAssign (.Name x p) op e pos) (XZ i T t):=by
 intro pins s Y H D I h;obtain⟨v,U,h⟩:=h;obtain⟨m,hn,hl⟩:=I.loc;have n:XG X.env.scope x:=by rcases o with k |k;exact .inl k;exact .inr (.inl k)
 obtain⟨u,r,l⟩:=hl i x v hi U n;refine wpAny_AugAssign_Name ?_;have go:AJ (model X.prog X.w) X.A (eval e X.env) (λw g=>AJ (model X.prog X.w) X.A (JA op u w) (λr f=>AJ (model X.prog X.w) X.A (Jy X.env x r) (λ_=>SP X pins D .next) X.xe f) X.xe g) X.xe s:=by
  refine cK (L pins s Y H _ I h) λw q j=>?_
  obtain⟨y,H1,I1,G,J⟩:=j;refine cK (O pins q Y H1 v y u w _ I1 r G J) λz s2 j=>?_
  obtain⟨zv,H2,I2,B,Q⟩:=j;exact jR I2 hN hi o B (λs3 I3=>⟨_,H2,I3,Q⟩) hf
 rcases l with⟨a,M⟩ | ⟨a,c,hc,C⟩
 .exact Iq I.ok.kind a hn M go
 .rcases a with a |a
  .exact II I.ok.kind a hc C go
  .rcases o with k |k
   .have:X.env.scope.names.lookup x=some .free:=a;rw[k]at this;cases this
   .have:X.env.scope.names.lookup x=some .free:=a;rw[k]at this;cases this
def Ut (T a e:TE)(g:V->V->Hp->VK->Prop)(p:XH)(t:N2):TS:=λD Y H=>T Y H λo l=>a Y l λi k=>g o i k λx j=>e Y j λy h=>p x y h λz f=>t o i z f λc=>D.nx Y c
def Zu (X:Cx)(t:V->V->Hp->VK->Prop):Prop:=
 ∀(pins:List (Ac×Co)) (s:Ae) (Y:St) (H:Hp) (o i:V) (v a:Aa) (Q:VK),bA X pins Y H s->cv o v->cv i a->t o i H Q->
  AJ (model X.prog X.w) X.A (Jl v a) (EP X pins Y Q) X.xe s
theorem SS {o i e:Expr}{j k l:TE}{g:V->V->Hp->VK->Prop}{T:XH}{t:N2}{op:Gp}{p:DR}(ho:PE X o j)(hi:PE X i k)(hg:Zu X g)(he:PE X e l)(hp:Ċ X op T)(hs:Xl X t)
  (ha:∀O a new,augStore i O a new=(do EA [new,O,a] (KG O a new);release [new,O,a] [];pure .next):=by intros;rfl):PS X (.AugAssign (.Subscript o i p) op e pos) (Ut j k l g T t):=by
 intro pins s Y H D I h;refine wpAny_AugAssign_SubscriptAny (cK (ho pins s Y H _ I h) λO G z=>?_) ha;obtain⟨f,H1,I1,m,q1⟩:=z;refine cK (hi pins G Y H1 _ I1 q1) λa C z=>?_
 obtain⟨c,H2,I2,r,q2⟩:=z;refine cK (hg pins C Y H2 f c O a _ I2 m r q2) λold B z=>?_
 obtain⟨u,H3,I3,M,q3⟩:=z;refine cK (he pins B Y H3 _ I3 q3) λv A z=>?_
 obtain⟨q,H4,I4,L,q4⟩:=z;refine cK (hp pins A Y H4 u q old v _ I4 M L q4) λnew w z=>?_
 obtain⟨n,H5,I5,J,U⟩:=z;refine cK (hs pins w Y H5 f c n O a new _ I5 m r J U) λ_ s6 z=>?_
 obtain⟨H6,I6,Q⟩:=z;exact⟨Y,H6,I6,Q⟩
def á (f:Int->Int->Int):XH:=λx y H Q=>∃i j,x = .int i/\y = .int j/\Q (.int (f i j)) H
theorem Q8:Ċ X .Add (á λi j=>i+j):=by
 intro pins s Y H x y v u Q I a r h;obtain⟨i,j,c,e,q⟩:=h;subst c;subst e;obtain⟨t,rfl⟩:=a;obtain⟨t',rfl⟩:=r;exact Ij ⟨.int _,H,I.tok _,⟨_,rfl⟩,q⟩
end
section
variable {X:Cx}{pos:DR}
def yL (c:TT)(tb:TS):TS:=λD Y H=>∃W:Nat->St->Hp->Prop,(∃m,W m Y H)/\∀m Y H,W m Y H->
 c Y H λb e=>if b=true then ∃N:St->Hp->Prop,(∀a f,N a f->∃M,M<m/\W M a f)/\tb {D with nx:=N,ct:=N,bk:=D.nx} Y e else D.nx Y e
theorem mO {c:Expr}{body:List AW}{t:TT}{tb:TS}(p:PassesOwn (model X.prog X.w) X.A X.env X.xe)(hc:PT X c t)(U:PSs X body tb):PS X (.While c body [] pos) (yL t tb):=by
 intro pins s Y H D I h;obtain⟨W,⟨T,J⟩,turn⟩:=h;refine wpAny_While (codeAny_whileLoop (λn s'=>∃o B,bA X pins o B s'/\W n o B) ?_ T ⟨Y,H,I,J⟩);rintro n O ⟨g,z,I1,G⟩;refine CK p (cK (hc pins O g z _ I1 (turn n g z G)) λb L C=>?_);obtain⟨u,r,Q⟩:=C
 cases b with
 |true=>
  obtain⟨N,hN,Q⟩:=Q;refine CK p (cK (U pins L g u _ r Q) λf s3 q=>?_)
  cases f with
  |next=>
   obtain⟨a,e,l,k⟩:=q;obtain⟨m,M,j⟩:=hN a e k;exact⟨m,M,a,e,l,j⟩
  |cont=>
   obtain⟨a,e,l,k⟩:=q;obtain⟨m,M,j⟩:=hN a e k;exact⟨m,M,a,e,l,j⟩
  |brk=>exact q
  |ret v=>exact q
 |false=>
  exact Dm ⟨g,u,r,Q⟩
end
structure It where
 go:Nat->Hp->Prop
 ZH:Nat->Hp->V->Hp->Prop
 stop:Nat->Hp->Prop
def jM (X:Cx)(pins:List (Ac×Co))(H:Hp)(b:Ac):Prop:=
 H b=none/\b≠X.env.locals/\b∉X.fs/\(b∈X.ex∨X.s₀.heap.objs.size<=b)/\(∀x c,X.env.cells.lookup x=some c->c≠b)/\∀p∈X.pn++pins,p.1≠b
theorem bA.pz {X:Cx}{pins:List (Ac×Co)}{Y:St}{H a:Hp}{s:Ae}{b:Ac}(I:bA X pins Y H s)(h:s.heap.objs.size<=b)(hn:a b=none):jM X pins a b:=by
 refine⟨hn,Hi (A6 I.lt h),I.Ù h,.inr (BC I.sz h),λx c e z=>?_,λp f z=>?_⟩
 .obtain ⟨v,q⟩:=I.cell x c e;exact absurd (A6 q.lt (by rw[z];exact h)) (B3 _)
 .exact absurd (A6 (AY (I.pin p f).1) (by rw[z];exact h)) (B3 _)
structure tj (P:AE) (w:AU) (K:Ar) (tg:Expr) (J:It) (fp:List Ac) (it:Ac) (tn:Nat->Heap->Prop):Prop where
 mem:it∈fp
 obj:∀i h,tn i h->∀b∈fp,∃o,h.get? b=some o/\∀v,o.data≠.cell v
 keep:∀i h h',tn i h->(∀b∈fp,∀o,h.get? b=some o->h'.get? b=some o)->tn i h'
 item:∀(X:Cx),X.prog=P->X.w=w->X.K=K->X.calm=true->∀(i:Nat) (pins:List (Ac×Co)) (s:Ae) (Y:St) (H:Hp) (E:Aa->Ae->Prop),bA X pins Y H s->(∀b∈fp,jM X pins H b)->tn i s.heap->J.go i H->
  AJ (model P w) X.A (FZ (.ref it)) (λr s1=>∃u,r=some u/\
   AJ (model P w) X.A (GX tg (.ref it) u) (λ_ s2=>∃x H',bA X pins Y H' s2/\cv x u/\J.ZH i H x H'/\tn (i+1) s2.heap/\∀b∈fp,H' b=none) E s1) E s
 done:∀(X:Cx),X.prog=P->X.w=w->X.K=K->X.calm=true->∀(i:Nat) (pins:List (Ac×Co)) (s:Ae) (Y:St) (H:Hp) (E:Aa->Ae->Prop),bA X pins Y H s->(∀b∈fp,jM X pins H b)->tn i s.heap->J.stop i H->
  AJ (model P w) X.A (FZ (.ref it)) (λr s1=>r=none/\bA X pins Y H s1) E s
 self:∀(A:AX) (i:Nat) (s:Ae) (Q:Aa->Ae->Prop) (E:Aa->Ae->Prop),tn i s.heap->Q (.ref it) s->AJ (model P w) A (HX (.ref it)) Q E s
abbrev TI:=St->Hp->(It->Hp->Prop)->Prop
def ŉ (X:Cx)(pins:List (Ac×Co))(Y:St)(g:Expr)(R:It->Hp->Prop)(t:Aa)(c:Ae):Prop:=
 ∃(T:Ac) (f:List Ac) (n:Nat->Heap->Prop) (J:It) (a:Hp),t = .ref T/\bA X pins Y a c/\tj X.prog X.w X.K g J f T n/\n 0 c.heap/\(∀b∈f,jM X pins a b)/\R J a
def PI (X:Cx)(t iter:Expr)(a:TI):Prop:=
 ∀(pins:List (Ac×Co)) (s:Ae) (Y:St) (H:Hp) (R:It->Hp->Prop),bA X pins Y H s->a Y H R->
  AJ (model X.prog X.w) X.A (eval iter X.env) (λv c=>AJ (model X.prog X.w) X.A (HX v) (ŉ X pins Y t R) X.xe c) X.xe s
theorem oT {M:Jr}{A:AX}{E:Aa->Ae->Prop}{s:Ae}{t:Expr}{T:Ac}{u:Aa}{o:Co}{n:String}{vs:Array Aa}{Q:Unit->Ae->Prop}(O:s.heap.get? T=some o)(hc:o.cls = .type n)(hd:o.data = .fields vs)
  (hn:["enumerate","zip","dict_itemiterator","dict_reverseitemiterator","odict_iterator","itertools.zip_longest","itertools.pairwise"].contains n=false) (a:Q () s):AJ M A (GX t (.ref T) u) Q E s:=by
 cases t <;> first
  |exact AK a
  | (cases u<;>first
    |exact AK a
    | (refine Ad (wpAny_load O ?_)
       rw[hc,hd];show AJ M A (if (["enumerate","zip","dict_itemiterator","dict_reverseitemiterator","odict_iterator","itertools.zip_longest","itertools.pairwise"].contains n && vs[0]?==some (C5 _))=true then _ else _) Q E s
       rw[if_neg (by intro h;rw[hn]at h;cases h)];exact AK a))
noncomputable def Ő (K:Ar)(a:Ac):It:=
 ⟨λi H=>∃xs x,eR K H a xs/\xs[i]?=some x,λi H x c=>c=H/\∀xs,eR K H a xs->xs[i]?=some x,λi H=>∃xs,eR K H a xs/\xs.length<=i⟩
noncomputable def ŏ (K:Ar)(a:Ac):It:=
 ⟨λi H=>∃xs x,jO K H a xs/\xs[i]?=some x,λi H x c=>c=H/\∀xs,jO K H a xs->xs[i]?=some x,λi H=>∃xs,jO K H a xs/\xs.length<=i⟩
noncomputable def À (lo:Int)(n:Nat):It:=⟨λi _=>i<n,λi H x a=>a=H/\x = .int (lo+i),λi _=>n<=i⟩
theorem M6 {P:AE}{w:AU}{K:Ar}{tg:Expr}(a it:Ac):tj P w K tg (Ő K a) [it] it (λi h=>h.IsListIter it a i) where
 mem:=by simp
 obj:=λi h st b hb=>by
  have e:b=it:=by simpa using hb
  subst e;obtain⟨o,e,c,d⟩:=st;exact⟨o,e,λv z=>by rw[d]at z;cases z⟩
 keep:=λi h h' st k=>st.at λo e=>k it (by simp) o e
 item:=by
  kj_on
  obtain⟨xs,x,hq,hx⟩:=hg;obtain⟨UT,rv,p,hz⟩:=I.list hq;obtain⟨u,hu,ru⟩:=rv.get hx;obtain⟨f0,f1,f2,f3,f4,f5⟩:=hf it (by simp);refine wpAny_pyNext_list_item st p.isList (by simpa using hu) λh' uO sb=>?_
  have I1:bA X pins Y H {s with heap:=h'}:=I.turned (t':=s.toks) (λb o hb e=>(sb.2 b hb).trans e) f0 f1 f3 f4 f5;obtain⟨o,e,c,d⟩:=id uO;exact⟨u,rfl,oT (s:={s with heap:=h'}) e c d rfl ⟨x,H,I1,ru,⟨rfl,λys hy=>by rw[I.xS hy hq];exact hx⟩,uO,λb hb=>(hf b hb).1⟩⟩
 done:=by
  kj_on
  obtain⟨xs,hq,hx⟩:=hg;obtain⟨UT,rv,p,hz⟩:=I.list hq;obtain⟨f0,f1,f2,f3,f4,f5⟩:=hf it (by simp);have hl:=rv.length;exact wpAny_pyNext_list_end (I.ok.hd hc) st p.isList (by simp;lia) λh' eb=>⟨rfl,I.turned (t':=s.toks) (λb o hb e=>eb b o hb e) f0 f1 f3 f4 f5⟩
 self:=λ_ _ _ _ _ st h=>wpAny_pyIter_listiter st h
theorem yJ {P:AE}{w:AU}{K:Ar}{tg:Expr}(a it:Ac):tj P w K tg (ŏ K a) [it] it (λi h=>h.IsTupleIter it a i) where
 mem:=by simp
 obj:=λi h st b hb=>by
  have e:b=it:=by simpa using hb
  subst e;obtain⟨o,e,c,d⟩:=st;exact⟨o,e,λv z=>by rw[d]at z;cases z⟩
 keep:=λi h h' st k=>st.at λo e=>k it (by simp) o e
 item:=by
  kj_on
  obtain⟨xs,x,hq,hx⟩:=hg;obtain⟨UT,rv,p,hz⟩:=I.tuple hq;obtain⟨u,hu,ru⟩:=rv.get hx;obtain⟨f0,f1,f2,f3,f4,f5⟩:=hf it (by simp);refine wpAny_pyNext_tuple_item st (show s.heap.IsTuple a UT.toArray from p) (by simpa using hu) λh' uO sb=>?_
  have I1:bA X pins Y H {s with heap:=h'}:=I.turned (t':=s.toks) (λb o hb e=>(sb.2 b hb).trans e) f0 f1 f3 f4 f5;obtain⟨o,e,c,d⟩:=id uO;exact⟨u,rfl,oT (s:={s with heap:=h'}) e c d rfl ⟨x,H,I1,ru,⟨rfl,λys hy=>by rw[I.tz hy hq];exact hx⟩,uO,λb hb=>(hf b hb).1⟩⟩
 done:=by
  kj_on
  obtain⟨xs,hq,hx⟩:=hg;obtain⟨UT,rv,p,hz⟩:=I.tuple hq;obtain⟨f0,f1,f2,f3,f4,f5⟩:=hf it (by simp);have hl:=rv.length;exact wpAny_pyNext_tuple_end (I.ok.hd hc) st (show s.heap.IsTuple a UT.toArray from p) (by simp;lia) λh' eb=>⟨rfl,I.turned (t':=s.toks) (λb o hb e=>eb b o hb e) f0 f1 f3 f4 f5⟩
 self:=λ_ _ _ _ _ st h=>wpAny_pyIter_tupleiter st h
theorem yK {P:AE}{w:AU}{K:Ar}{tg:Expr}(it:Ac)(lo:Int)(n:Nat):tj P w K tg (À lo n) [it] it (λi h=>K8 h it (lo+(i:Nat)*1) ((n:Int)-(i:Nat)) 1) where
 mem:=by simp
 obj := λi h st b hb=>by
  have e:b=it:=by simpa using hb
  subst e;exact⟨_,st,λv z=>by
   have z':Ho _=Ih v:=z;cases z'⟩
 keep:=λi h h' st k=>k it (by simp) _ st
 item:=by
  kj_on
  obtain⟨f0,f1,f2,f3,f4,f5⟩:=hf it (by simp);have W:=Jm (prog:=X.prog) (w:=X.w) (I.ok.hd hc) it lo 1 n;refine W.item i s _ _ hg st λv h' tk hv uO kk=>?_
  obtain⟨t,rfl⟩:=hv;have I1:bA X pins Y H {s with heap:=h',toks:=tk}:=I.turned (λb o hb e=>kk b o (by simpa using hb) e) f0 f1 f3 f4 f5;refine⟨_,rfl,oT (s:={s with heap:=h',toks:=tk}) (n := "range_iterator") uO rfl rfl rfl ⟨.int (lo+i),H,I1,⟨t,?_⟩,⟨rfl,rfl⟩,uO,λb hb=>(hf b hb).1⟩⟩;rw[JZ]
 done:=by
  intro X hP hw hK hc i pins s Y H E I hf st hg;obtain⟨f0,f1,f2,f3,f4,f5⟩:=hf it (by simp);exact HV (I.ok.hd hc) st (by have:n<=i:=hg;lia) λh' eb=>⟨rfl,I.turned (t':=s.toks) (λb o hb e=>eb b o hb e) f0 f1 f3 f4 f5⟩
 self:=λ_ _ _ _ _ st h=>HW st h
section
variable {X:Cx}{tg:Expr}
def Mz (K:Ar)(t:TE):TI:=λY H R=>t Y H λx c=>∃a,x = .ref a/\(∃xs,eR K c a xs)/\R (Ő K a) c
def Yz (K:Ar)(t:TE):TI:=λY H R=>t Y H λx c=>∃a,x = .ref a/\(∃xs,jO K c a xs)/\R (ŏ K a) c
theorem cF {l:Expr}{t:TE}(hl:PE X l t):PI X tg l (Mz X.K t):=by
 intro pins s Y H R I h;refine cK (hl pins s Y H _ I h) λv c z=>?_
 obtain⟨x,j,f,r,Q⟩:=z;obtain⟨a,e,⟨xs,g⟩,q⟩:=Q;subst e;cases r;obtain⟨T,k,p,m⟩:=f.list g;refine Jj p.isList ?_;refine⟨c.heap.objs.size,[c.heap.objs.size],_,_,j,rfl,f.kept (t':=c.toks) λb o e=>Af _ e,M6 a _,⟨_,AA _ rfl,rfl,rfl⟩,λb B=>?_,q⟩;have e:b=c.heap.objs.size:=by simpa using B
 subst e;exact f.pz (Ak _) (f.cY.fresh (Ak _))
theorem Qn {l:Expr}{T:TE}(hl:PE X l T):PI X tg l (Yz X.K T):=by
 intro pins s Y H R I h;refine cK (hl pins s Y H _ I h) λv c z=>?_
 obtain⟨x,j,f,r,Q⟩:=z;obtain⟨a,e,⟨xs,g⟩,q⟩:=Q;subst e;cases r;obtain⟨t,k,p,m⟩:=f.tuple g;refine wpAny_pyIter_tuple (show c.heap.IsTuple a t.toArray from p) ?_;refine⟨c.heap.objs.size,[c.heap.objs.size],_,_,j,rfl,f.kept (t':=c.toks) λb o e=>Af _ e,yJ a _,⟨_,AA _ rfl,rfl,rfl⟩,λb B=>?_,q⟩;have e:b=c.heap.objs.size:=by simpa using B
 subst e;exact f.pz (Ak _) (f.cY.fresh (Ak _))
theorem P8 {pins:List (Ac×Co)}{Y:St}{H:Hp}{s:Ae}{R:It->Hp->Prop}{E:Aa->Ae->Prop}{lo hi:Int}{t u v:K3}{tk:Nat}(I:bA X pins Y H s)(h1 : -(2^62)<=lo)(h2:lo<2^62)(f : -(2^62)<=hi)(c:hi<2^62)
  (q:R (À lo (hi-lo).toNat) H):AJ (model X.prog X.w) X.A (HX (.ref s.heap.objs.size)) (ŉ X pins Y tg R) E {s with heap:=s.heap.push {cls:=.type "range",data:=.fields #[.int lo t,.int hi u,.int 1 v]},toks:=tk}:=by
 refine FX (GY ..) (small_one h1 h2 f c) ?_;have a:bA X pins Y H {s with heap:=s.heap.push {cls:=.type "range",data:=.fields #[.int lo t,.int hi u,.int 1 v]},toks:=tk}:=I.kept λb o e=>Af _ e
 refine⟨(s.heap.push {cls:=.type "range",data:=.fields #[.int lo t,.int hi u,.int 1 v]}).objs.size,[(s.heap.push {cls:=.type "range",data:=.fields #[.int lo t,.int hi u,.int 1 v]}).objs.size],_,_,H,rfl,
  a.kept (t':=tk) λb o e=>Af _ e,yK _ lo (hi-lo).toNat,?_,λb h=>?_,q⟩
 .have j:lo+((0:Nat):Int)*1=lo:=by simp
  have g:(((hi-lo).toNat:Nat):Int)-((0:Nat):Int)=AT lo hi 1:=by rw[rangeSize_one];split<;>lia
  rw[j,g];exact AA _ rfl
 .have e:b=(s.heap.push {cls:=.type "range",data:=.fields #[.int lo t,.int hi u,.int 1 v]}).objs.size:=by simpa using h
  subst e;exact a.pz (Ak _) (a.cY.fresh (Ak _))
def UY (t:TA):TI:=λY H R=>t Y H λvs a=>∃j:Int,vs=[.int j]/\-(2^62)<=j/\j<2^62/\R (À 0 j.toNat) a
theorem dO {a:Expr}{T:TA}{p pos:DR}(hg:Gl X "range")(m:X.mg "range"=none)(A:PA X [a] T)(k:Av [a] X.env=[(false,eval a X.env)]:=by rfl):PI X tg (.Call (.Name "range" p) [a] [] pos) (UY T):=by
 intro pins s Y H R I h;refine Hh (f9 I hg m Jc (A9 (cK (A pos pins s Y H _ I h) λus n z=>?_) k rfl));obtain⟨vs,o,l,f,Q⟩:=z;obtain⟨j,e,Q,g,q⟩:=Q;subst e
 cases f with
 |cons r c=>
  cases c;obtain⟨t,rfl⟩:=r;exact call_range_1 (P8 l (by lia) (by lia) Q g (by simpa using q))
def Sg (w:TI)(g:TG)(tb:TS):TS:=λD Y H=>w Y H λJ h=>∃W:Nat->Nat->St->Hp->Prop,(∃m,W 0 m Y h)/\∀i m Y H,W i m Y H->
 (J.stop i H/\D.nx Y H)∨(J.go i H/\∃N:St->Hp->Prop,(∀c a,N c a->∃M,M<m/\W (i+1) M c a)/\∀x a,J.ZH i H x a->g x Y a λe f=>tb {D with nx:=N,ct:=N,bk:=D.nx} e f)
noncomputable def vk (f:List Ac)(h:Heap):List (Ac×Co):=f.filterMap λb=>(h.get? b).map λo=>(b,o)
theorem js {f:List Ac}{h:Heap}{b:Ac}{o:Co}(B:b∈f)(e:h.get? b=some o):(b,o)∈vk f h:=CQ.mpr ⟨b,B,by rw[e];rfl⟩
theorem NA {f:List Ac}{h:Heap}{p:Ac×Co}(a:p∈vk f h):p.1∈f/\h.get? p.1=some p.2:=by
 obtain⟨b,B,e⟩:=CQ.mp a
 cases q:h.get? b with
 |none=>rw[q]at e;cases e
 |some o=>
  rw[q]at e;have e':(b,o)=p:=AV e;subst e';exact⟨B,q⟩
theorem bA.pinned {pins:List (Ac×Co)}{Y:St}{H:Hp}{s:Ae}{f:List Ac}(I:bA X pins Y H s)(hf:∀b∈f,jM X pins H b)(O:∀b∈f,∃o,s.heap.get? b=some o/\∀v,o.data≠.cell v):bA X (pins++vk f s.heap) Y H s:=
 I.Me λp a=>(Au.mp a).elim (λz=>I.pin p (AR _ z)) λz=>by
  obtain⟨h,e⟩:=NA z;obtain⟨c,f1,f2,_⟩:=hf p.1 h;obtain⟨o,e',d⟩:=O p.1 h;rw[e]at e';cases e';exact⟨e,c,f1,f2,d⟩
theorem bA.me {pins pl:List (Ac×Co)}{Y:St}{H:Hp}{s:Ae}(I:bA X (pins++pl) Y H s):bA X pins Y H s:=I.Me λp h=>I.pin p (AR _ (By _ h))
theorem dy {iter:Expr}{body:List AW}{wi:TI}{g:TG}{tb:TS}{pos:DR}(G:PassesOwn (model X.prog X.w) X.A X.env X.xe)(hc:X.calm=true)(hi:PI X tg iter wi)(hg:PG X tg g)(B:PSs X body tb)
  (hs:∀x,Gk iter X.env x=pure x:=by intro _;rfl):PS X (.For tg iter body [] pos) (Sg wi g tb):=by
 intro pins s Y H D I h;refine wpAny_For (cK (hi pins s Y H _ I h) λv s1 h1=>cK h1 λū s2 h2=>?_) hs;obtain⟨it,M,tn,J,H2,e,I2,T,ZN,f2,W,⟨m0,w0⟩,turn⟩:=h2;subst e;have t:∀{k:Hp},(∀b∈M,k b=none)->∀b∈M,jM X pins k b:=λhn b B=>⟨hn b B,(f2 b B).2⟩
 refine codeAny_forLoop_any (λn s'=>∃i Q k,bA X pins Q k s'/\tn i s'.heap/\(∀b∈M,k b=none)/\W i n Q k) ?_ m0 ⟨0,Y,H2,I2,ZN,λb B=>(f2 b B).1,w0⟩;rintro n s3 ⟨i,O,U,I3,p,L,w3⟩;rcases turn i n O U w3 with⟨stop,qn⟩ | ⟨go,N,hN,step⟩
 .refine CK G (cK (T.done X rfl rfl rfl hc i pins s3 O U X.xe I3 (t L) p stop) λr s4 z=>?_);obtain⟨hr,I4⟩:=z;subst hr;exact Dm ⟨O,U,I4,qn⟩
 .refine CK G (cK (T.item X rfl rfl rfl hc i pins s3 O U X.xe I3 (t L) p go) λr s4 z=>?_);obtain⟨u,hr,h4⟩:=z;subst hr;refine CK G (cK h4 λ_ s5 z=>?_);obtain⟨x,H5,I5,r5,y5,l,ϻ⟩:=z;have I5':=I5.pinned (t ϻ) (T.obj _ _ l);refine CK G (cK (hg _ s5 O H5 x u _ I5' r5 (step x H5 y5)) λ_ s6 z=>?_);obtain⟨Y6,H6,I6,q6⟩:=z;refine CK G (cK (B _ s6 Y6 H6 _ I6 q6) λf s7 q=>?_);have again:∀{a:St} {j:Hp},bA X (pins++vk M s5.heap) a j s7->N a j->∃m,m<n/\∃i Q k,bA X pins Q k s7/\tn i s7.heap/\(∀b∈M,k b=none)/\W i m Q k:=λ{a j} c C=>by
   obtain⟨m',hm,w7⟩:=hN a j C;refine⟨m',hm,i+1,a,j,c.me,T.keep _ _ _ l λb B o e=>(c.pin (b,o) (AR _ (AR _ (js B e)))).1,λb B=>?_,w7⟩;obtain⟨o,e,d⟩:=T.obj _ _ l b B;exact (c.pin (b,o) (AR _ (AR _ (js B e)))).2.1
  cases f with
  |next=>obtain⟨a,j,c,C⟩:=q;exact again c C
  |cont=>obtain⟨a,j,c,C⟩:=q;exact again c C
  |brk=>obtain⟨a,j,c,q⟩:=q;exact⟨a,j,c.me,q⟩
  |ret v=>obtain⟨x7,a,j,c,r7,q⟩:=q;exact⟨x7,a,j,c.me,r7,q⟩
end
abbrev R2:=V->V->Hp->VK->Prop
def k_ (X:Cx)(f:Aa->Aa->Jb Aa)(r:R2):Prop:=
 ∀(pins:List (Ac×Co)) (s:Ae) (Y:St) (H:Hp) (x y:V) (v u:Aa) (Q:VK),bA X pins Y H s->cv x v->cv y u->r x y H Q->
  AJ (model X.prog X.w) X.A (f v u) (EP X pins Y Q) X.xe s
def Ĉ (X:Cx)(f:Aa->Jb Aa)(r:V->Hp->VK->Prop):Prop:=
 ∀(pins:List (Ac×Co)) (s:Ae) (Y:St) (H:Hp) (x:V) (v:Aa) (Q:VK),bA X pins Y H s->cv x v->r x H Q->
  AJ (model X.prog X.w) X.A (f v) (EP X pins Y Q) X.xe s
def fT (X:Cx)(f:Aa)(r:List V->Hp->VK->Prop):Prop:=
 ∀(pins:List (Ac×Co)) (s:Ae) (Y:St) (H:Hp) (xs:List V) (us:List Aa) (Q:VK),bA X pins Y H s->bI xs us->r xs H Q->
  AJ (model X.prog X.w) X.A (call f us) (EP X pins Y Q) X.xe s
def ĉ (X:Cx)(r:V->Hp->(Bool->Hp->Prop)->Prop):Prop:=
 ∀(pins:List (Ac×Co)) (s:Ae) (Y:St) (H:Hp) (x:V) (v:Aa) (Q:Bool->Hp->Prop),bA X pins Y H s->cv x v->r x H Q->
  AJ (model X.prog X.w) X.A (Lc v) (TP X pins Y Q) X.xe s
def LK (r:R2)(t tb:TE):TE:=λY H Q=>t Y H λx c=>tb Y c λy a=>r x y a Q
def Ĕ (r:V->Hp->VK->Prop)(t:TE):TE:=λY H Q=>t Y H λx a=>r x a Q
def rI (C:Int->Int->Prop)(g:Int->Int->V):R2:=λx y H Q=>∃i j,x = .int i/\y = .int j/\C i j/\Q (g i j) H
def Nk (g:Int->Int->V):R2:=λx y H Q=>∃i j,x = .int i/\y = .int j/\Q (g i j) H
def rU (g:Int->V):V->Hp->VK->Prop:=λx H Q=>∃i,x = .int i/\Q (g i) H
section
variable {X:Cx}{a b c:Expr}{ta tb tc:TE}{pos:DR}
theorem W_ (p:PE X a ta)(B:PE X b tb){pins:List (Ac×Co)}{s:Ae}{Y:St}{H:Hp}{R:V->V->Hp->Prop}(I:bA X pins Y H s)
  (h:ta Y H λx l=>tb Y l λy e=>R x y e) {Q:Aa->Ae->Prop} {f:Aa->Aa->Jb Aa}
  (hf:∀v u k x y e,bA X pins Y e k->cv x v->cv y u->R x y e->AJ (model X.prog X.w) X.A (f v u) Q X.xe k):
  AJ (model X.prog X.w) X.A (eval a X.env) (λv j=>AJ (model X.prog X.w) X.A (eval b X.env) (λu g=>AJ (model X.prog X.w) X.A (f v u) Q X.xe g) X.xe j) X.xe s:=by
 refine cK (p pins s Y H _ I h) λv m z=>?_
 obtain⟨x,l,C,n,o⟩:=z;refine cK (B pins m Y l _ C o) λu k z=>?_
 obtain⟨y,e,t,r,q⟩:=z;exact hf v u k x y e t n r q
theorem aX {op:Gp}{r:R2}(o:k_ X (Cs op) r)(A:PE X a ta)(B:PE X b tb):PE X (.BinOp a op b pos) (LK r ta tb):=by
 intro pins s Y H Q I h;exact wpAny_BinOp (W_ A B I h λv u e x y k j g f q=>o pins e Y k x y v u Q j g f q)
theorem ku {op:UnaryOp}{r:V->Hp->VK->Prop}(o:Ĉ X (unaryOp op) r)(A:PE X a ta):PE X (.UnaryOp op a pos) (Ĕ r ta):=by
 intro pins s Y H Q I h;refine UnaryOp_ (cK (A pins s Y H _ I h) λv e z=>?_);obtain⟨x,j,g,f,q⟩:=z;exact o pins e Y j x v Q g f q
theorem Xv {f:Aa->Aa->Jb Aa}{C:Int->Int->Prop}{g:Int->Int->Int}
  (rule:∀(i j:Int) (t u:K3) (s:Ae) (Q:Aa->Ae->Prop) (E:Aa->Ae->Prop),C i j->Q (.int (g i j) s.toks) {s with toks:=s.toks+1}->AJ (model X.prog X.w) X.A (f (.int i t) (.int j u)) Q E s):
  k_ X f (rI C λi j=>.int (g i j)):=by
 intro pins s Y H x y v u Q I e r h;obtain⟨i,j,rfl,rfl,hc,q⟩:=h;obtain⟨t,rfl⟩:=e;obtain⟨t',rfl⟩:=r;exact rule i j t t' s _ _ hc ⟨.int (g i j),H,I.tok _,⟨_,rfl⟩,q⟩
theorem S4 {f:Aa->Aa->Jb Aa}{g:Int->Int->Int}
  (rule:∀(i j:Int) (t u:K3) (s:Ae) (Q:Aa->Ae->Prop) (E:Aa->Ae->Prop),Q (.int (g i j) s.toks) {s with toks:=s.toks+1}->AJ (model X.prog X.w) X.A (f (.int i t) (.int j u)) Q E s):
  k_ X f (Nk λi j=>.int (g i j)):=by
 intro pins s Y H x y v u Q I e r h;obtain⟨i,j,rfl,rfl,q⟩:=h;obtain⟨t,rfl⟩:=e;obtain⟨t',rfl⟩:=r;exact rule i j t t' s _ _ ⟨.int (g i j),H,I.tok _,⟨_,rfl⟩,q⟩
theorem S5 {f:Aa->Aa->Jb Aa}{g:Int->Int->Bool}
  (rule:∀(i j:Int) (t u:K3) (s:Ae) (Q:Aa->Ae->Prop) (E:Aa->Ae->Prop),Q (.bool (g i j)) s->AJ (model X.prog X.w) X.A (f (.int i t) (.int j u)) Q E s):
  k_ X f (Nk λi j=>.bl (g i j)):=by
 intro pins s Y H x y v u Q I e r h;obtain⟨i,j,rfl,rfl,q⟩:=h;obtain⟨t,rfl⟩:=e;obtain⟨t',rfl⟩:=r;exact rule i j t t' s _ _ ⟨.bl (g i j),H,I,rfl,q⟩
def ZC (i j:Int):Prop:=0<j/\j<1073741824
def Xq (i j:Int):Prop:=0<=j/\j<=1000000/\i.natAbs<2^64
def N8 (i j:Int):Prop:=(-(2^64)<i/\i<2^64)∨(-(2^64)<j/\j<2^64)
theorem N8.ok {i j:Int}(h:N8 i j):IntMulOk i j:=by
 rcases h with⟨h1,h2⟩ | ⟨h1,h2⟩
 .exact .of_left (Km h1 h2)
 .exact .of_right (Km h1 h2)
theorem yI (k:Nat):(0:Int)<=2^k:=by
 exact Int.natCast_nonneg _
theorem cT:k_ X (Cs .Add) (Nk λi j=>.int (i+j)):=S4 λ_ _ _ _ _ _ _ q=>add_int q
theorem dt:k_ X (Cs .Sub) (Nk λi j=>.int (i-j)):=S4 λ_ _ _ _ _ _ _ q=>sub_int q
theorem eL:k_ X (Cs .Mult) (rI N8 λi j=>.int (i*j)):=Xv λ_ _ _ _ _ _ _ hc q=>mul_int q hc.ok
theorem eE:k_ X (Cs .FloorDiv) (rI ZC λi j=>.int (i / j)):=Xv λi j _ _ _ _ _ hc q=>by
 have h1:(0:Int)<j:=hc.1;have h2:j<1073741824:=hc.2;exact floordiv_int (by lia) (by rw[GK i (by lia)];exact q) (.inl (EK (by omega)))
theorem cS:k_ X (Cs .Mod) (rI (λ_ j=>0<j) λi j=>.int (i%j)):=Xv λi j _ _ _ _ _ hc q=>by
 exact mod_int' (by lia) (by rw[Int.fmod_eq_emod_of_nonneg i (by lia)];exact q)
theorem V8:k_ X (Cs .Pow) (rI Xq λi j=>.int (i^j.toNat)):=Xv λ_ _ _ _ _ _ _ hc q=>pow_int_small hc.1 hc.2.1 hc.2.2 q
theorem gX:k_ X (Cs .LShift) (rI Xq λi j=>.int (i*2^j.toNat)):=Xv λ_ _ _ _ _ _ _ hc q=>lshift_int_small hc.1 hc.2.1 hc.2.2 q
theorem qV:k_ X (Cs .RShift) (rI (λ_ j=>0<=j) λi j=>.int (i / 2^j.toNat)):=Xv λi j _ _ _ _ _ hc q=>
 rshift_int hc (by rw[GK i (yI _)];exact q)
theorem QE:k_ X (Cs .BitAnd) (Nk λi j=>.int (Cd i j)):=S4 λ_ _ _ _ _ _ _ q=>and_int q
theorem Yi:k_ X (Cs .BitOr) (Nk λi j=>.int (DC i j)):=S4 λ_ _ _ _ _ _ _ q=>or_int q
theorem ŗ {f:Aa->Jb Aa}{g:Int->Int}
  (rule:∀(i:Int) (t:K3) (s:Ae) (Q:Aa->Ae->Prop) (E:Aa->Ae->Prop),Q (.int (g i) s.toks) {s with toks:=s.toks+1}->AJ (model X.prog X.w) X.A (f (.int i t)) Q E s):
  Ĉ X f (rU λi=>.int (g i)):=by
 intro pins s Y H x v Q I r h;obtain⟨i,rfl,q⟩:=h;obtain⟨t,rfl⟩:=r;exact rule i t s _ _ ⟨.int (g i),H,I.tok _,⟨_,rfl⟩,q⟩
theorem gy:Ĉ X (unaryOp .USub) (rU λi=>.int (-i)):=ŗ λ_ _ _ _ _ q=>neg_int q
end
noncomputable def X2:V->V->Bool
 | .cn,.cn=>true | .cn,.int _=>true | .int _,.cn=>true | .cn,.bl _=>true | .bl _,.cn=>true | .cn,.str _=>true | .str _,.cn=>true
 | .int _,.int _=>true | .bl _,.bl _=>true | .str _,.str _=>true | .MQ _,.MQ _=>true
 | .int _,.str _=>true | .str _,.int _=>true | .bl _,.str _=>true | .str _,.bl _=>true
 |_,_=>false
def Ĝ:R2:=λx y H Q=>X2 x y=true/\Q (.bl (decide (x=y))) H
def Ě:R2:=λx y H Q=>X2 x y=true/\Q (.bl (!decide (x=y))) H
theorem MK {i j:Int}:decide (V.int i=V.int j)=(i==j):=by
 rw[Dc];simp
theorem Rp {i j:Bool}:decide (V.bl i=V.bl j)=(i==j):=by
 rw[Dc];simp
theorem MJ {i j:Am}:decide (V.str i=V.str j)=(i==j):=by
 rw[Dc];simp
theorem ML {i j:Array UInt8}:decide (V.MQ i=V.MQ j)=(i.toList==j.toList):=by
 rw[Dc];cases i;cases j;simp
section
variable {X:Cx}{a b c:Expr}{ta tb tc:TE}{pos:DR}
theorem ck {pins:List (Ac×Co)}{Y:St}{H:Hp}{s:Ae}{Q:VK}{k f:Bool}(I:bA X pins Y H s)(q:Q (.bl k) H)(e:k=f):EP X pins Y Q (.bool f) s:=by
 subst e;exact⟨.bl k,H,I,rfl,q⟩
theorem fP:k_ X (B_ .Eq) Ĝ:=by
 intro pins s Y H x y v u Q I f r h;obtain⟨e,q⟩:=h
 cases x with
 |cn=>
  cases f
  cases y with
  |cn=>cases r;exact PySem.EqNone.eq_none_none (ck I q rfl)
  |bl j=>cases r;exact PySem.EqNone.eq_none_bool (ck I q rfl)
  |int j=>obtain⟨t',rfl⟩:=r;exact PySem.EqNone.eq_none_int (ck I q rfl)
  |str j=>obtain⟨t',rfl⟩:=r;exact PySem.EqNone.eq_none_str (ck I q rfl)
  |_=>exact absurd (show false=true from e) AI
 |bl i=>
  cases f
  cases y with
  |cn=>cases r;exact PySem.EqNone.eq_bool_none (ck I q rfl)
  |bl j=>cases r;exact eq_bool (ck I q Rp)
  |str j=>obtain⟨t',rfl⟩:=r;exact PySem.EqMixed.eq_bool_str (ck I q rfl)
  |_=>exact absurd (show false=true from e) AI
 |int i=>
  obtain⟨t,rfl⟩:=f
  cases y with
  |cn=>cases r;exact PySem.EqNone.eq_int_none (ck I q rfl)
  |int j=>obtain⟨t',rfl⟩:=r;exact eq_int (ck I q MK)
  |str j=>obtain⟨t',rfl⟩:=r;exact PySem.EqMixed.eq_int_str (ck I q rfl)
  |_=>exact absurd (show false=true from e) AI
 |str i=>
  obtain⟨t,rfl⟩:=f
  cases y with
  |cn=>cases r;exact PySem.EqNone.eq_str_none (ck I q rfl)
  |bl j=>cases r;exact PySem.EqMixed.eq_str_bool (ck I q rfl)
  |int j=>obtain⟨t',rfl⟩:=r;exact PySem.EqMixed.eq_str_int (ck I q rfl)
  |str j=>obtain⟨t',rfl⟩:=r;exact eq_str (ck I q MJ)
  |_=>exact absurd (show false=true from e) AI
 |MQ i=>
  obtain⟨t,rfl⟩:=f
  cases y with
  |MQ j=>obtain⟨t',rfl⟩:=r;exact PySem.W.eq_bytes (ck I q ML)
  |_=>exact absurd (show false=true from e) AI
 |_=>cases y<;>exact absurd (show false=true from e) AI
theorem jE:k_ X (B_ .NotEq) Ě:=by
 intro pins s Y H x y v u Q I f r h;obtain⟨e,q⟩:=h
 cases x with
 |cn=>
  cases f
  cases y with
  |cn=>cases r;exact PySem.EqNone.ne_none_none (ck I q rfl)
  |bl j=>cases r;exact PySem.EqNone.ne_none_bool (ck I q rfl)
  |int j=>obtain⟨t',rfl⟩:=r;exact PySem.EqNone.ne_none_int (ck I q rfl)
  |str j=>obtain⟨t',rfl⟩:=r;exact PySem.EqNone.ne_none_str (ck I q rfl)
  |_=>exact absurd (show false=true from e) AI
 |bl i=>
  cases f
  cases y with
  |cn=>cases r;exact PySem.EqNone.ne_bool_none (ck I q rfl)
  |bl j=>cases r;exact ne_bool (ck I q (congrArg not Rp))
  |str j=>obtain⟨t',rfl⟩:=r;exact PySem.EqMixed.ne_bool_str (ck I q rfl)
  |_=>exact absurd (show false=true from e) AI
 |int i=>
  obtain⟨t,rfl⟩:=f
  cases y with
  |cn=>cases r;exact PySem.EqNone.ne_int_none (ck I q rfl)
  |int j=>obtain⟨t',rfl⟩:=r;exact ne_int (ck I q (congrArg not MK))
  |str j=>obtain⟨t',rfl⟩:=r;exact PySem.EqMixed.ne_int_str (ck I q rfl)
  |_=>exact absurd (show false=true from e) AI
 |str i=>
  obtain⟨t,rfl⟩:=f
  cases y with
  |cn=>cases r;exact PySem.EqNone.ne_str_none (ck I q rfl)
  |bl j=>cases r;exact PySem.EqMixed.ne_str_bool (ck I q rfl)
  |int j=>obtain⟨t',rfl⟩:=r;exact PySem.EqMixed.ne_str_int (ck I q rfl)
  |str j=>obtain⟨t',rfl⟩:=r;exact ne_str (ck I q (congrArg not MJ))
  |_=>exact absurd (show false=true from e) AI
 |MQ i=>
  obtain⟨t,rfl⟩:=f
  cases y with
  |MQ j=>obtain⟨t',rfl⟩:=r;exact PySem.W.ne_bytes (ck I q (congrArg not ML))
  |_=>exact absurd (show false=true from e) AI
 |_=>cases y<;>exact absurd (show false=true from e) AI
theorem kx:k_ X (B_ .Lt) (Nk λi j=>.bl (decide (i<j))):=S5 λ_ _ _ _ _ _ _ q=>lt_int q
theorem mR:k_ X (B_ .LtE) (Nk λi j=>.bl (decide (i<=j))):=S5 λ_ _ _ _ _ _ _ q=>le_int q
theorem oK:k_ X (B_ .Gt) (Nk λi j=>.bl (decide (j<i))):=S5 λ_ _ _ _ _ _ _ q=>gt_int q
theorem QC:k_ X (B_ .GtE) (Nk λi j=>.bl (decide (j<=i))):=S5 λ_ _ _ _ _ _ _ q=>ge_int q
theorem Nr:k_ X (B_ .In) (λx y H Q=>∃i j,x = .str i/\y = .str j/\Q (.bl (!(CY j i 0 j.length 1).isEmpty)) H):=by
 intro pins s Y H x y v u Q I e r h;obtain⟨i,j,rfl,rfl,q⟩:=h;obtain⟨t,rfl⟩:=e;obtain⟨t',rfl⟩:=r;exact in_str (ck I q rfl)
theorem QB:k_ X (B_ .Is) (λx y H Q=>y = .cn/\Q (.bl (decide (x = .cn))) H):=by
 intro pins s Y H x y v u Q I r e h;obtain⟨rfl,q⟩:=h;cases e;refine is_none_gen (ck I q ?_);cases x<;>first
  | (cases r;rfl)
  | (obtain⟨t,rfl⟩:=r;rfl)
theorem pO:k_ X (B_ .IsNot) (λx y H Q=>y = .cn/\Q (.bl (!decide (x = .cn))) H):=by
 intro pins s Y H x y v u Q I r e h;obtain⟨rfl,q⟩:=h;cases e;refine isnot_none_gen (ck I q ?_);cases x<;>first
  | (cases r;rfl)
  | (obtain⟨t,rfl⟩:=r;rfl)
theorem be (b:Expr){op:Iz}(h:op≠.In:=by decide)(h2:op≠.NotIn:=by decide):FU op b=false:=by
 have f:(op==CmpOp.In)=false:=by cases op<;>first |rfl |exact absurd rfl h
 have e:(op==CmpOp.NotIn)=false:=by cases op<;>first |rfl |exact absurd rfl h2
 cases b<;>simp[FU,f,e]
theorem dj {op:Iz}{r:R2}(o:k_ X (B_ op) r)(A:PE X a ta)(B:PE X b tb)(m:FU op b=false):PE X (.Compare a [op] [b] pos) (LK r ta tb):=by
 intro pins s Y H Q I h;exact wpAny_Compare1 (W_ A B I h λv u e x y k j g f q=>o pins e Y k x y v u Q j g f q) m
def LJ (t:TE):TT:=λY H Q=>t Y H λx e=>∃k,x = .bl k/\Q k e
theorem bp {op:Iz}{r:R2}(O:k_ X (B_ op) r)(A:PE X a ta)(B:PE X b tb)(M:FU op b=false):PT X (.Compare a [op] [b] pos) (LJ (LK r ta tb)):=by
 intro pins s Y H Q I h;refine wpAny_isTrue_Compare1 (cK (A pins s Y H _ I h) λv g ⟨x,J,w,m,o⟩=>cK (B pins g Y J _ w o) λu f ⟨y,G,t,l,n⟩=>
  cK (O pins f Y G x y v u _ t m l n) λc L ⟨z,C,p,j,k,e,q⟩=>?_) M
 subst e;cases j;exact BP ⟨C,p,q⟩
def yO (r f:R2)(ta tb tc:TE):TE:=λY H Q=>ta Y H λx j=>tb Y j λy h=>r x y h λz e=>∃k,z = .bl k/\
 (if k=true then tc Y e λw g=>f y w g Q else Q (.bl false) e)
theorem Qt {op op':Iz}{r g:R2}(O:k_ X (B_ op) r)(o:k_ X (B_ op') g)(ha:PE X a ta)(U:PE X b tb)(hc:PE X c tc)
  (T:lastMarks [op,op'] [b,c]=false:=by with_unfolding_all rfl):PE X (.Compare a [op,op'] [b,c] pos) (yO r g ta tb tc):=by
 intro pins s Y H Q I h;refine Compare_chain (cK (ha pins s Y H _ I h) λv A ⟨x,H1,I1,G,M⟩=>chain_link (cK (U pins A Y H1 _ I1 M) λu t ⟨y,H2,I2,f,L⟩=>
  cK (O pins t Y H2 x y v u _ I2 G f L) λd p ⟨z,l,j,C,k,e,q⟩=>?_)) T
 subst e;cases C;refine BP ?_
 cases k with
 |false=>exact ite_ff ⟨.bl false,l,j,rfl,q⟩
 |true=>exact ite_tt (chain_last (cK (hc pins p Y l _ j q) λw n ⟨m,H4,I4,B,J⟩=>o pins n Y H4 y m u w Q I4 f B J))
theorem xn {op op':Iz}{r j:R2}(ho:k_ X (B_ op) r)(o:k_ X (B_ op') j)(ha:PE X a ta)(hb:PE X b tb)(hc:PE X c tc)
  (hm:lastMarks [op,op'] [b,c]=false:=by with_unfolding_all rfl):PT X (.Compare a [op,op'] [b,c] pos) (LJ (yO r j ta tb tc)):=by
 intro pins s Y H Q I h;refine isTrue_chain (cK (ha pins s Y H _ I h) λv B ⟨x,H1,I1,L,U⟩=>test_link (cK (hb pins B Y H1 _ I1 U) λu A ⟨y,H2,I2,g,T⟩=>
  cK (ho pins A Y H2 x y v u _ I2 L g T) λd t ⟨z,m,l,J,k,e,q⟩=>?_)) hm
 subst e;cases J;refine BP ?_
 cases k with
 |false=>
  obtain⟨k',e',q'⟩:=q;cases e';exact ite_ff ⟨m,l,q'⟩
 |true=>
  refine ite_tt (test_last (cK (hc pins t Y m _ l q) λw p f=>?_));obtain⟨n,H4,I4,G,O⟩:=f;refine cK (o pins p Y H4 y n u w _ I4 g G O) λd' s5 f=>?_
  obtain⟨z2,H5,I5,C,k2,e2,M⟩:=f;subst e2;cases C;exact BP ⟨H5,I5,M⟩
def Xj (K:Ar)(x:V)(H:Hp)(k:Bool):Prop:=
 match x with
 | .cn=>k=false
 | .bl b=>k=b
 | .int i=>k=(i != 0)
 | .str y=>y.length<=AH/\k=((y.length:Int) != 0)
 | .MQ y=>y.size<=AH/\k=((y.size:Int) != 0)
 | .ref p=>(∃xs,eR K H p xs/\k = !xs.isEmpty)∨(∃xs,jO K H p xs/\k = !xs.isEmpty)∨∃v,H p=some (.dK v)/\k = !v.isEmpty
 |_=>False
theorem zQ {e:Type}{k:List (e×V)}{vs:List (e×Aa)}(r:KV k vs):(!vs.isEmpty) = !k.isEmpty:=by
 cases r<;>rfl
theorem rK {xs:List V}{t:List Aa}(r:bI xs t):(!t.toArray.isEmpty) = !xs.isEmpty:=by
 cases r<;>simp
theorem l0:(AH:Nat)<2^63:=by rw[C4];decide
theorem Vu:ĉ X (λx H Q=>∃k,Xj X.K x H k/\Q k H):=by
 intro pins s Y H x v Q I g h;obtain⟨k,e,q⟩:=h;have u:AH=16777216:=C4
 cases x with
 |cn=>
  cases g;have e':k=false:=e;subst e';exact truthy_none ⟨H,I,q⟩
 |bl b=>
  cases g;have e':k=b:=e;subst e';exact BP ⟨H,I,q⟩
 |int i=>
  obtain⟨t,rfl⟩:=g;have e':k=(i != 0):=e;subst e';exact PySem.P.truthy_int ⟨H,I,q⟩
 |str y=>
  obtain⟨t,rfl⟩:=g;obtain⟨n,e'⟩:y.length<=AH/\k=((y.length:Int) != 0):=e;subst e';exact PySem.P.truthy_str (by lia) ⟨H,I.tok _,q⟩
 |MQ y=>
  obtain⟨t,rfl⟩:=g;obtain⟨n,e'⟩:y.size<=AH/\k=((y.size:Int) != 0):=e;subst e';exact PySem.W.truthy_bytes (by lia) ⟨H,I.tok _,q⟩
 |ref p=>
  cases g;have e':(∃xs,eR X.K H p xs/\k = !xs.isEmpty)∨(∃xs,jO X.K H p xs/\k = !xs.isEmpty)∨∃f,H p=some (.dK f)/\k = !f.isEmpty:=e
  rcases e' with⟨xs,j,e'⟩ | ⟨xs,j,e'⟩ | ⟨f,j,e'⟩
  .subst e';obtain⟨T,r,pl,z⟩:=I.list j;have l:=r.length;exact wpAny_truthy_list pl.isList (by simp only[Aq];lia) ⟨H,I.tok _,by rw[rK r];exact q⟩
  .subst e';obtain⟨T,r,pl,z⟩:=I.tuple j;have l:=r.length;exact truthy_tuple pl (by simp only[Aq];lia) ⟨H,I.tok _,by rw[rK r];exact q⟩
  .subst e';obtain⟨z,o,vs,r,m⟩:f.length<=AH/\(p==IV)=false/\∃vs,KV f vs/\s.heap.DictOf (vJ X.prog X.w) p vs:=I.cY p _ j
   have l:f.length=vs.length:=Paired.length r;exact wpAny_truthy_dict o m (by lia) ⟨H,I.tok _,by rw[zQ r];exact q⟩
 |_=>exact (show False from e).elim
theorem Qh (A:PE X a ta)(g:∀whole,isTrue a X.env whole=(do let v <- whole;FK a.pos;EA [v] (Lc v))):
  PT X a (λY H Q=>ta Y H λx e=>∃k,Xj X.K x e k/\Q k e):=by
 intro pins s Y H Q I h;refine KR (cK (A pins s Y H _ I h) λv f z=>?_) (g _);obtain⟨x,l,j,r,q⟩:=z;exact Vu pins f Y l x v Q j r q
theorem iM {x:V}{us:List Aa}(r:bI [x] us):∃u,us=[u]/\cv x u:=by
 cases r with
 |cons f e=>cases e;exact⟨_,rfl,f⟩
theorem LG {x y:V}{us:List Aa}(r:bI [x,y] us):∃u w,us=[u,w]/\cv x u/\cv y w:=by
 cases r with
 |cons h g=>
  cases g with
  |cons f e=>cases e;exact⟨_,_,rfl,h,f⟩
theorem yf:fT X (.builtin "abs") (λxs H Q=>∃i,xs=[.int i]/\Q (.int (if i<0 then -i else i)) H):=by
 intro pins s Y H xs us Q I r h;obtain⟨i,rfl,q⟩:=h;obtain⟨u,rfl,t,rfl⟩:=iM r;exact call_abs_int λu tk=>⟨.int (if i<0 then -i else i),H,I.tok _,⟨_,rfl⟩,q⟩
theorem om (hc:X.calm=true):fT X (.builtin "min") (λxs H Q=>∃i j,xs=[.int i,.int j]/\Q (.int (if j<i then j else i)) H):=by
 intro pins s Y H xs us Q I r h;obtain⟨i,j,rfl,q⟩:=h;obtain⟨u,w,rfl,⟨t,rfl⟩,⟨t',rfl⟩⟩:=LG r;refine min_two_ints (I.ok.hd hc) λh' tk k=>⟨_,H,I.kept k,?_,q⟩
 by_cases J:j<i
 .rw [if_pos J,if_pos J];exact⟨_,rfl⟩
 .rw [if_neg J,if_neg J];exact⟨_,rfl⟩
end
structure LA (h:Heap) (x dx C:Ac) (mA:Am->Option Aa):Prop where
 obj:h.get? x=some (Fk C dx)
 ns:h.Ns1 dx mA
 ne:dx≠x
theorem NF {h:Heap}{f:Ac}{m:Am->Option Aa}(n:h.Ns1 f m):∃O,h.get? f=some O/\∀name,IW name O=some (m name):=by
 obtain⟨o,c,p,j,hd,l,_,M⟩:=n;refine⟨o,j,λname=>?_⟩;have e:=M name;unfold nsFind findBy at e;rw[<- Array.find?_toList]at e;unfold IW;rw[hd];dsimp only;split
 .rename_i y q;rw[q]at e;exact congrArg some e
 .rename_i q;rw[q]at e;have a:c.toList.any (·.refKey)=false:=by
   rw[List.any_eq_false];intro y g;obtain⟨z,t,k⟩:=l y (Array.mem_toList_iff.mp g);simp[KP,k]
  have A:¬ c.toList.any (·.refKey)=true:=by rw[a];exact AI
  rw[if_neg A];exact congrArg some e
theorem LA.look {h:Heap}{x a C:Ac}{m:Am->Option Aa}(I:LA h x a C m):∃o,PySem.W.InstAt h x (Fk C a) C (some o)/\∀name,IW name o=some (m name):=
 let⟨o,O,hl⟩:=NF I.ns
 ⟨o,⟨I.obj,rfl,rfl,O⟩,hl⟩
section
variable {prog:AE}{w:AU}{A:AX}{E:Aa->Ae->Prop}{s:Ae}{K:Ar}{x dx C f:Ac}{mA:Am->Option Aa}{name:Am}{v:Aa}
theorem Tv {expr:Bool}{Q:Aa->Ae->Prop}(X:K.In s.heap)(I:LA s.heap x dx C mA)(hg:Gn K C name=true)(e:GJ K C=true)
  (g:Ed K (.ref C) name=some none) (c:mA name=some v) (a:J7 v=true) (h:Q v {s with toks:=s.toks+1}):
  AJ (model prog w) A (KH (.ref x) name expr) Q E s:=by
 obtain⟨o,J,hl⟩:=I.look;exact PySem.W.get_value X J (GN hg).1 (PySem.W.findObj_own e g rfl (by rw[hl,c])) a h
theorem Rh {pl:Jb Bool}{Q:Aa×List Aa->Ae->Prop}(X:K.In s.heap)(I:LA s.heap x dx C mA)(hg:Gn K C name=true)
  (hf:Ed K (.ref C) name=some (some (.ref f))) (ht:KJ K (.ref f)=true) (a:mA name=none) (h:Q (.ref f,[.ref x]) s):
  AJ (model prog w) A (E6 (.ref x) name pl) Q E s:=by
 obtain⟨o,J,hl⟩:=I.look;exact PySem.W.method_fn X J (GN hg).1 (GN hg).2 hf (beq_iff_eq.mp ht) (by show (IW name o).map (·.isSome)=some false;rw[hl,a];rfl) h
theorem Sr {ns:List Am}{Q:Unit->Ae->Prop}(X:K.In s.heap)(I:LA s.heap x dx C mA)
  (k:Ed K (.ref C) "__setattr__"=some (some (.builtin "object.__setattr__"))) (p:HK K C=true) (ht:Jn K C name=some none) (l:GJ K C=true)
  (hw:PySem.Within mA ns) (z:ns.length<=AH)
  (h:∀h',LA h' x dx C (λy=>if y=name then some v else mA y)->Heap.SameBut dx s.heap h'->Q () {s with heap:=h',toks:=s.toks+2}):
  AJ (model prog w) A (setAttr (.ref x) name v) Q E s:=by
 obtain⟨O,J,hl⟩:=I.look;refine PySem.W.set_plain X J k (PySem.W.osa_open (s:={s with toks:=s.toks+1}) X J p ht λb=>?_);obtain⟨cd,hc,e⟩:=PySem.W.any_some l;have j:s.heap.get? x=some ⟨.ref C,some dx,.plain,#[]⟩:=I.obj;refine Ad (AK (Ad (Ad (wpAny_loadPart j (Ad (PySem.W.Looks.here (s:={s with toks:=s.toks+1}) (PySem.W.looks_clsIn X hc) ?_))))));rw[e];refine AK (a:=some dx) (Ad (AK (Ad ?_)));refine wpAny_nsSet1 (s:={s with toks:=s.toks+1}) I.ns λh' n c=>?_
 obtain⟨r,m,q,o,nD,g⟩:=n.count (PySem.Within.cons name v hw);refine Ad (wpAny_lookBehind o (by rw[nD];exact pastItsLine_dict (BC g (by rw[Bg];lia))) ?_);exact AK (h _ ⟨(c.2 _ (Bm I.ne)).trans I.obj,n,I.ne⟩ c)
theorem QT {R:F7->Ae->Prop}{vs:List Aa}{k:List (Am×Aa)}(X:K.In s.heap)(m:Jo K C=true)
  (hi:Ed K (.ref C) "__init__"=some (some (.ref f))) (hf:PySem.W.typeIn K (.ref f)=some (.type "function"))
  (h:Cw (model prog w) (A.under (.builtin "type.__call__" ⟨.ref C::vs,k⟩)) (.call (.ref f) ⟨.ref (s.heap.objs.size+1)::vs,k⟩) (PySem.W.InitBack (s.heap.objs.size+1) R)
   {s with heap:=(s.heap.push Dz).push (Fk C s.heap.objs.size)}):
  Cw (model prog w) A (.call (.ref C) ⟨vs,k⟩) R s:=by
 exact PySem.W.make_core (PySem.W.makes_of X m) (PySem.W.looks_findIn X hi) (λself=>PySem.W.bind_fn X self hf) (.inl rfl) h
end
noncomputable def hH (f:Am)(v:V):List (Am×V)->List (Am×V)
 | []=>[(f,v)]
 | (g,x)::r=>if g=f then (g,v)::r else (g,x)::hH f v r
theorem oR (f g:Am)(v:V):∀fs:List (Am×V),(hH f v fs).lookup g=if g=f then some v else fs.lookup g
 | []=>by
  show Cv g [(f,v)]=_
  by_cases h:g=f
  .have B:(g==f)=true:=beq_iff_eq.mpr h;simp only[Cv,B,if_pos h]
  .have B:(g==f)=false:=beq_eq_false_iff_ne.mpr h;simp only[Cv,B,if_neg h]
 | (k,x)::r=>by
  have c:=oR f g v r;rw[show hH f v ((k,x)::r)=(if k=f then (k,v)::r else (k,x)::hH f v r) from rfl];by_cases a:k=f
  .rw [if_pos a];by_cases h:g=k
   .have B:(g==k)=true:=beq_iff_eq.mpr h;simp only[Cv,B,if_pos (h.trans a)]
   .have B:(g==k)=false:=beq_eq_false_iff_ne.mpr h;simp only[Cv,B,if_neg (λe:g=f=>h (e.trans a.symm))]
  .rw [if_neg a];by_cases h:g=k
   .have B:(g==k)=true:=beq_iff_eq.mpr h;simp only[Cv,B,if_neg (λe:g=f=>a (h.symm.trans e))]
   .have B:(g==k)=false:=beq_eq_false_iff_ne.mpr h;simp only[Cv,B];exact c
theorem og (f:Am)(v:V):∀fs:List (Am×V),f∈(hH f v fs).map (·.1)/\∀g,g∈fs.map (·.1)->g∈(hH f v fs).map (·.1)
 | []=>⟨by simp[hH],λg h=>by simp at h⟩
 | (k,x)::r=>by
  obtain⟨j,c⟩:=og f v r;rw[show hH f v ((k,x)::r)=(if k=f then (k,v)::r else (k,x)::hH f v r) from rfl];by_cases a:k=f
  .subst a;exact⟨by simp,λg h=>by simpa using h⟩
  .rw [if_neg a];refine⟨?_,λg h=>?_⟩
   .exact Aj _ j
   .rcases AB.mp h with e |e
    .exact AB.mpr (.inl e)
    .exact Aj _ (c g e)
theorem oS (f:Am)(v:V):∀fs:List (Am×V),(hH f v fs).length<=fs.length+1
 | []=>by simp[hH]
 | (k,x)::r=>by
  have a:=oS f v r;rw[show hH f v ((k,x)::r)=(if k=f then (k,v)::r else (k,x)::hH f v r) from rfl];by_cases h:k=f
  .rw [if_pos h,Bg,Bg];lia
  .rw [if_neg h,Bg,Bg];lia
theorem wu.some_of {v:V}{o:Option Aa}(r:wu (some v) o):∃u,o=some u/\cv v u:=by
 cases o with
 |none=>exact (show False from r).elim
 |some u=>exact⟨u,rfl,r⟩
theorem wu.none_of {o:Option Aa}(r:wu none o):o=none:=by
 cases o with
 |none=>rfl
 |some u=>exact (show False from r).elim
theorem NL {v:V}{u:Aa}(r:cv v u):J7 u=true:=by
 cases v with
 |cn=>cases (show u=Fv from r);rfl
 |bl b=>cases (show u=Fw b from r);rfl
 |int i=>obtain⟨t,e⟩:=(show ∃t,u=Eh i t from r);cases e;rfl
 |str x=>obtain⟨t,e⟩:=(show ∃t,u=FR x t from r);cases e;rfl
 |MQ b=>obtain⟨t,e⟩:=(show ∃t,u=Jq b t from r);cases e;rfl
 |MH b=>obtain⟨t,e⟩:=(show ∃t,u=He b t from r);cases e;rfl
 |ref a=>cases (show u=Bj a from r);rfl
 |ty n=>cases (show u=CM n from r);rfl
section
variable {P:AE}{w:AU}{H H':Hp}{h h':Heap}{a C dx:Ac}{fs ϸ:List (Am×V)}
theorem pS (o:kK P w H h)(e:H a=some (.ins C dx fs)):∃m,LA h a dx C m/\(∀f,wu (fs.lookup f) (m f))/\PySem.Within m (fs.map (·.1))/\fs.length<=1000/\H dx=some (.own a):=by
 obtain⟨d,z,ne,ob,m,n,r,q⟩:=(show eo P w H h a (.ins C dx fs) from o a _ e)
 exact⟨m,⟨ob,n,ne⟩,r,q,z,d⟩
end
structure yF (K:Ar) (C:Ac):Prop where
 pg:Gn K C Fs=true
 hd:GJ K C=true
 po:HK K C=true
 sa:Ed K (.ref C) "__setattr__"=some (some (.builtin "object.__setattr__"))
theorem yF.get {K:Ar}{C:Ac}(c:yF K C)(f:Am):Gn K C f=true:=c.pg
def jy (K:Ar)(C:Ac)(f:Am):Prop:=Ed K (.ref C) f=some none
theorem jy.XU {K:Ar}{C:Ac}{f:Am}(n:jy K C f):Jn K C f=some none:=by
 unfold Jn;rw[show Ed K (.ref C) f=some none from n];rfl
structure N6 (K:Ar) (C:Ac) (m:Am) (f:Ac):Prop where
 at_:Ed K (.ref C) m=some (some (.ref f))
 fn:KJ K (.ref f)=true
 kp:D_ K (.ref f)=true
section
variable {X:Cx}{pins:List (Ac×Co)}{Y:St}{H:Hp}{s:Ae}{a C dx:Ac}{fs:List (Am×V)}{f:Am}{v:V}{A:AX}{E:Aa->Ae->Prop}
theorem rO {b:Bool}{Q:Aa->Ae->Prop}(I:bA X pins Y H s)(e:H a=some (.ins C dx fs))(c:yF X.K C)(n:jy X.K C f)(l:fs.lookup f=some v)
  (h:∀u s',bA X pins Y H s'->cv v u->Q u s'):AJ (model X.prog X.w) A (KH (.ref a) f b) Q E s:=by
 obtain⟨m,O,r,_,_,_⟩:=pS I.cY e;obtain⟨u,g,U⟩:=wu.some_of (o:=m f) (by rw[<- l];exact r f);exact Tv I.kZ O (c.get f) c.hd n g (NL U) (h u _ (I.tok _) U)
theorem l3 {m:Am}{g:Ac}{pl:Jb Bool}{Q:Aa×List Aa->Ae->Prop}(I:bA X pins Y H s)(e:H a=some (.ins C dx fs))(c:yF X.K C)(k:N6 X.K C m g)(l:fs.lookup m=none)
  (h:Q (.ref g,[.ref a]) s):AJ (model X.prog X.w) A (E6 (.ref a) m pl) Q E s:=by
 obtain⟨M,O,r,_,_,_⟩:=pS I.cY e;have hn:M m=none:=wu.none_of (by rw[<- l];exact r m);exact Rh I.kZ O (c.get m) k.at_ k.fn hn h
theorem qs {y:V}{u:Aa}{Q:Unit->Ae->Prop}(I:bA X pins Y H s)(e:H a=some (.ins C dx fs))(c:yF X.K C)(n:jy X.K C f)(hl:fs.length<1000)(m:cv y u)
  (h:∀s',bA X pins Y (c8 H a (.ins C dx (hH f y fs))) s'->Q () s'):AJ (model X.prog X.w) A (setAttr (.ref a) f u) Q E s:=by
 obtain⟨M,O,r,k,_,l⟩:=pS I.cY e;have p:(fs.map (·.1)).length<=AH:=by rw[Ay,C4];lia
 refine Sr I.kZ O c.sa c.po n.XU c.hd k p λh' j B=>h _ ?_
 have hd:∃o,h'.get? dx=some o:=let⟨o,_,_,e',_⟩:=j.ns;⟨o,e'⟩
 refine I.write (by rw[e];exact Et) (.inr l) (λb q t z=>(B.2 b t).trans z) hd ?_;refine⟨by rw[bM O.ne];exact l,?_,O.ne,j.obj,_,j.ns,λg=>?_,λg hg=>?_⟩
 .have:=oS f y fs;lia
 .rw [oR];by_cases q:g=f
  .rw [if_pos q,if_pos q];exact m
  .rw [if_neg q,if_neg q];exact r g
 .by_cases q:g=f
  .rw [q];exact (og f y fs).1
  .refine (og f y fs).2 g (k g λz=>hg ?_);show (if g=f then some u else M g)=none
   rw[if_neg q];exact z
theorem bA.made (I:bA X pins Y H s):bA X pins Y (c8 (c8 H s.heap.objs.size (.own (s.heap.objs.size+1))) (s.heap.objs.size+1) (.ins C s.heap.objs.size []))
  {s with heap:=(s.heap.push Dz).push (Fk C s.heap.objs.size)}:=by
 have c:(s.heap.push Dz).get? s.heap.objs.size=some Dz:=AA s.heap rfl;have k:((s.heap.push Dz).push (Fk C s.heap.objs.size)).get? (s.heap.objs.size+1)=some (Fk C s.heap.objs.size):=by
  have:=AA (s.heap.push Dz) (o:=Fk C s.heap.objs.size) rfl
  rwa[DB]at this
 have j:(s.heap.push Dz).Ns s.heap.objs.size (λ_=>none):=⟨Dz,#[],_,c,rfl,(λe g=>absurd g (by simp)),λ_=>rfl⟩
 have l:=I.laid (o:=.own (s.heap.objs.size+1)) (h':=s.heap.push Dz) (t':=s.toks) (λb u q=>Af _ q) (Ak _) ⟨_,c⟩;refine l.laid (a:=s.heap.objs.size+1) (o:=.ins C s.heap.objs.size []) (t':=s.toks) (λb u q=>Af _ q) (ID (DB _ _)) ?_;have ne:s.heap.objs.size≠s.heap.objs.size+1:=Bx (F_ _);refine⟨by rw[bM ne,a9],Bv _,ne,k,λ_=>none,(Heap.Ns1.of_empty j).at λo q=>Af _ q,λ_=>Et,λy h=>absurd rfl h⟩
theorem T5 {prog:AE}{w:AU}{env:EJ}{e:Expr}{f:Am}{pos:DR}{s:Ae}{Q:Aa->Ae->Prop}(B:FV e f env (eval e env)=eval e env)
  (h:AJ (model prog w) A (eval e env) (λo c=>AJ (model prog w) A (KH o f true) Q E c) E s):AJ (model prog w) A (eval (.Attribute e f pos) env) Q E s:=
 Attribute_any_ h (by rw[arm_eval_Attribute,B])
end
def yN (K:Ar)(t:TE)(f:Am):TE:=λY H Q=>t Y H λx c=>∃a C e fs v,x = .ref a/\c a=some (.ins C e fs)/\yF K C/\jy K C f/\fs.lookup f=some v/\Q v c
def VN (K:Ar)(T t:TE)(f:Am):TS:=λD Y H=>t Y H λy g=>T Y g λx e=>∃a C c fs,x = .ref a/\e a=some (.ins C c fs)/\yF K C/\jy K C f/\fs.length<1000/\
 D.nx Y (c8 e a (.ins C c (hH f y fs)))
def Xp (X:Cx)(op:Gp)(rd:V->V->Hp->VK->Prop):Prop:=
 ∀(pins:List (Ac×Co)) (s:Ae) (Y:St) (H:Hp) (x y:V) (u v:Aa) (Q:VK),bA X pins Y H s->cv x u->cv y v->rd x y H Q->AJ (model X.prog X.w) X.A (JA op u v) (EP X pins Y Q) X.xe s
def L8 (K:Ar)(T t:TE)(rd:V->V->Hp->VK->Prop)(f:Am):TS:=λD Y H=>T Y H λx h=>∃a C j fs v,x = .ref a/\h a=some (.ins C j fs)/\yF K C/\jy K C f/\fs.lookup f=some v/\
 t Y h λy k=>rd v y k λz g=>∃e c,g a=some (.ins C e c)/\c.length<1000/\D.nx Y (c8 g a (.ins C e (hH f z c)))
section
variable {X:Cx}{o e value:Expr}{f:Am}{pos pos' M8:DR}{ta tv:TE}
theorem cu (g:PE X e ta)(B:FV e f X.env (eval e X.env)=eval e X.env):PE X (.Attribute e f pos) (yN X.K ta f):=by
 intro pins s Y H Q I h;refine T5 B (cK (g pins s Y H _ I h) λu w z=>?_);obtain⟨x,m,k,r,a,C,G,fs,v,ex,A,c,n,l,q⟩:=z;subst ex;obtain rfl:u=Bj a:=r;exact rO k A c n l λp t j U=>⟨v,m,j,U,q⟩
theorem gR (A:PE X o ta)(k:PE X value tv)(m:GH value (some (.Attribute o f pos')) pos.line X.env=pure false):PS X (.Assign [.Attribute o f pos'] value pos) (VN X.K ta tv f):=by
 intro pins s Y H D I h;refine plainObj_wpAny_Assign_Attribute (cK (k pins s Y H _ I h) λu g z=>?_) m;obtain⟨y,G,B,r,q⟩:=z;refine cK (A pins g Y G _ B q) λv L z=>?_
 obtain⟨x,O,w,j,a,C,M,fs,ex,p,c,n,l,Q⟩:=z;subst ex;obtain rfl:v=Bj a:=j;exact qs w p c n l r λJ t=>⟨Y,_,t,Q⟩
theorem tV {op:Gp}{rd:V->V->Hp->VK->Prop}(J:PE X o ta)(G:PE X value tv)(p:Xp X op rd):PS X (.AugAssign (.Attribute o f M8) op value pos) (L8 X.K ta tv rd f):=by
 intro pins s Y H D I h;refine wpAny_AugAssign_AttributeAny (cK (J pins s Y H _ I h) λO s1 g=>?_);obtain⟨x,H1,I1,t,a,C,dx,fs,v,ex,T,c,n,l,q⟩:=g;subst ex;obtain rfl:O=Bj a:=t;refine rO I1 T c n l λu k I2 U=>cK (G pins k Y H1 _ I2 q) λw j g=>?_
 obtain⟨y,H2,I3,m,B⟩:=g;refine cK (p pins j Y H2 v y u w _ I3 U m B) λw4 s4 g=>?_
 obtain⟨z,H3,I4,r,ŀ,M,A,L,Q⟩:=g;exact qs I4 A c n L r λs5 I5=>⟨Y,_,I5,Q⟩
def Ô:V->V->Hp->VK->Prop:=λx y H Q=>∃i j,x = .int i/\y = .int j/\Q (.int (i+j)) H
def Ò:V->V->Hp->VK->Prop:=λx y H Q=>∃i j,x = .int i/\y = .int j/\Q (.int (i-j)) H
theorem WB:Xp X .Add Ô:=by
 rintro pins s Y H x y u v Q I a r ⟨i,j,rfl,rfl,q⟩;obtain⟨t,rfl⟩:=(show ∃t,u=Eh i t from a)
 obtain⟨t',rfl⟩:=(show ∃t',v=Eh j t' from r)
 exact Ij ⟨.int (i+j),H,I.tok _,⟨_,rfl⟩,q⟩
theorem WA:Xp X .Sub Ò:=by
 rintro pins s Y H x y u v Q I a r ⟨i,j,rfl,rfl,q⟩;obtain⟨t,rfl⟩:=(show ∃t,u=Eh i t from a)
 obtain⟨t',rfl⟩:=(show ∃t',v=Eh j t' from r)
 exact JT ⟨.int (i-j),H,I.tok _,⟨_,rfl⟩,q⟩
end
section
variable {X:Cx}{pins:List (Ac×Co)}{Y:St}{H:Hp}{s:Ae}{A:AX}{E:Aa->Ae->Prop}{Q:Aa->Ae->Prop}{c:Aa}{b:Bool}
inductive lj (K:Ar) (H:Hp):V->Aa->Prop where
 |cn:lj K H .cn (.type "NoneType")
 |bl (x:Bool):lj K H (.bl x) (.type "bool")
 |int (i:Int):lj K H (.int i) (.type "int")
 |str (x:Am):lj K H (.str x) (.type "str")
 |MH (x:UInt64):lj K H (.MH x) (.type "float")
 |lst {a:Ac} {xs:List V} (e:H a=some (.lst xs)):lj K H (.ref a) (.type "list")
 |fC {a:Ac} {o:Co} {xs:List V} (e:H a=some (.fC o (.lst xs))):lj K H (.ref a) (.type "list")
 |tup {a:Ac} {xs:List V} (e:H a=some (.tup xs)):lj K H (.ref a) (.type "tuple")
 |dK {a:Ac} {Yu:List (wC×V)} (e:H a=some (.dK Yu)):lj K H (.ref a) (.type "dict")
 |dT {a:Ac} {Yu:List (List wC×V)} (e:H a=some (.dT Yu)):lj K H (.ref a) (.type "dict")
 |ins {a C dx:Ac} {fs:List (Am×V)} (e:H a=some (.ins C dx fs)) (cl:yF K C) (ha:Ed K (.ref C) "__class__"=some (some (.builtin "object.__class__")))
   (hn:PySem.W.specialIn K (.builtin "object.__class__") "__get__"=some (some (.builtin "getset_descriptor.__get__"))) (htk:PySem.W.takesIn K (.builtin "object.__class__")=some true)
   (hm:PySem.W.mroIn K C (.type "object")=some true):lj K H (.ref a) (.ref C)
theorem k6 {x:V}{u t:Aa}(I:bA X pins Y H s)(r:cv x u)(ty:lj X.K H x t)(e:IY X.K t c=some b)(h:∀tk,Q (.bool b) {s with toks:=tk}):
  AJ (model X.prog X.w) A (call (.builtin "isinstance") [u,c]) Q E s:=by
 cases ty with
 |cn=>cases (show u=Fv from r);exact C_ PySem.W.kitx_none I.kZ Et e (λz=>nomatch z) h
 |bl y=>cases (show u=Fw y from r);exact C_ PySem.W.kitx_bool I.kZ Et e (λz=>nomatch z) h
 |int i=>obtain⟨t,q⟩:=(show ∃t,u=Eh i t from r);cases q;exact C_ PySem.W.kitx_int I.kZ Et e (λz=>nomatch z) h
 |str y=>obtain⟨t,q⟩:=(show ∃t,u=FR y t from r);cases q;exact C_ PySem.W.kitx_str I.kZ Et e (λz=>nomatch z) h
 |MH y=>obtain⟨t,q⟩:=(show ∃t,u=He y t from r);cases q;exact C_ PySem.W.kitx_float I.kZ Et e (λz=>nomatch z) h
 | @lst a xs f=>
  cases (show u=Bj a from r)
  obtain⟨_,_,n,_,h1⟩:=(show eo X.prog X.w H s.heap a (.lst xs) from I.cY a _ f)
  exact C_ HM I.kZ ⟨_,h1,rfl⟩ e (λz=>nomatch z) h
 | @fC a ob xs f=>
  cases (show u=Bj a from r)
  obtain⟨_,_,_,n,_,h1⟩:=(show eo X.prog X.w H s.heap a (.fC ob (.lst xs)) from I.cY a _ f)
  exact C_ HM I.kZ ⟨_,h1,rfl⟩ e (λz=>nomatch z) h
 | @tup a xs f=>
  cases (show u=Bj a from r)
  obtain⟨_,_,_,p⟩:=(show eo X.prog X.w H s.heap a (.tup xs) from I.cY a _ f)
  obtain⟨o,h1,h2,_⟩:=p;exact C_ IX I.kZ ⟨o,h1,h2⟩ e (λz=>nomatch z) h
 | @dK a k f=>
  cases (show u=Bj a from r)
  obtain⟨_,_,vs,_,p⟩:=(show eo X.prog X.w H s.heap a (.dK k) from I.cY a _ f)
  obtain⟨o,j,v,h1,h2,_⟩:=p;exact C_ HN I.kZ ⟨o,h1,h2.1⟩ e (λz=>nomatch z) h
 | @dT a k f=>
  cases (show u=Bj a from r)
  obtain⟨_,_,xs,_,o,j,v,h1,h2,_⟩:=(show eo X.prog X.w H s.heap a (.dT k) from I.cY a _ f)
  exact C_ HN I.kZ ⟨o,h1,h2.1⟩ e (λz=>nomatch z) h
 | @ins a C G fs f l g hn T m=>
  cases (show u=Bj a from r)
  obtain⟨M,O,_⟩:=pS I.cY f;obtain⟨B,J,_⟩:=O.look;exact C_ (PySem.W.kitx_own (l.get _) l.hd g hn T m) I.kZ J e (λz=>nomatch z) h
end
structure cJ (k:Nat) (A:AX):Prop where
 hd:A.handled=none
 dp:A.depth+3*k+5<J3
 un:A.units+16*k+200<HJ
theorem cJ.mono {j k:Nat}{A:AX}(r:cJ k A)(h:j<=k):cJ j A:=⟨r.hd,by have:=r.dp;lia,by have:=r.un;lia⟩
theorem cJ.deeper {k:Nat}{A:AX}(r:cJ (k+1) A)(env:EJ):cJ k (A.deeper env):=
 ⟨r.hd,by have:=r.dp;show A.depth+1+3*k+5<_;lia,by have:=r.un;show A.units+3+16*k+200<_;lia⟩
theorem zH {A:AX}{C:Ac}{us:List Aa}{k:List (Am×Aa)}:(A.under (.builtin "type.__call__" ⟨.ref C::us,k⟩)).depth=A.depth+1:=by
 first |rfl |simp[ guardIds]
theorem zG {A:AX}{C:Ac}{us:List Aa}{k:List (Am×Aa)}:(A.under (.builtin "type.__call__" ⟨.ref C::us,k⟩)).units=A.units+1:=by
 first |rfl |simp[ Code.isFrame]
theorem cJ.make {k:Nat}{A:AX}(r:cJ (k+1) A)(C:Ac)(us:List Aa)(w:List (Am×Aa)):cJ k (A.under (.builtin "type.__call__" ⟨.ref C::us,w⟩)):=
 ⟨r.hd,by have:=r.dp;rw[zH];lia,by have:=r.un;rw[zG];lia⟩
theorem cJ.depth {k:Nat}{A:AX}(r:cJ k A):A.depth<J3:=by have:=r.dp;lia
theorem cJ.units {k:Nat}{A:AX}(r:cJ k A):A.units+64<HJ:=by have:=r.un;lia
def mj:TA:=λ_ H Q=>Q [] H
def iN (a:TE)(t:TA):TA:=λY H Q=>a Y H λx e=>t Y e λxs c=>Q (x::xs) c
section
variable {X:Cx}{e:Expr}{es:List Expr}{te:TE}{t:TA}{pos:DR}
theorem ay:PA X [] mj:=λ_ _ _ _ H Q I h=>HQ ⟨[],H,I,.nil,h⟩
theorem ae (A:PE X e te)(j:PA X es t)(g:Av (e::es) X.env=(false,eval e X.env)::Av es X.env:=by rfl):PA X (e::es) (iN te t):=by
 intro pos pins s Y H Q I h;rw[g];refine HA (cK (A pins s Y H _ I h) λu a z=>?_);obtain⟨x,n,l,c,f⟩:=z;refine cK (j pos pins a Y n _ l f) λus o z=>?_
 obtain⟨xs,m,k,r,q⟩:=z;exact⟨x::xs,m,k,.cons c r,q⟩
end
abbrev Sp:=List V->Hp->VK->XK->Prop
abbrev MZ:=List EJ->Hp->Ae->XK->Aa->Ae->Prop
structure lr (P:AE) (w:AU) (K:Ar) (mg:Am->Option Aa) (base:Heap) (A:AX) (outer:List EJ) (s:Ae) (H:Hp):Prop where
 frames:A.frames=some outer
 mod:Mod K mg base
 bs:∀b o,base.get? b=some o->s.heap.get? b=some o/\H b=none
 Lx:base.objs.size<=s.heap.objs.size
 jK:s.heap.FunFrames base outer
 Oy:∀b∈jL outer,H b=none
 cY:kK P w H s.heap
 bare:Db s.gens
def CE (outer:List EJ)(P:AE)(w:AU)(H:Hp)(s:Ae)(Q:VK)(u:Aa)(s':Ae):Prop:=
 ∃v a,s'.os=s.os/\Db s'.gens/\Un (jL outer) [] H a s.heap s'.heap/\kK P w a s'.heap/\cv v u/\Q v a
def CR (C:MZ)(outer:List EJ)(P:AE)(w:AU)(H:Hp)(s:Ae)(Q:VK)(E:XK)(r:F7)(s':Ae):Prop:=
 match r with
 | .ok (.ret u)=>CE outer P w H s Q u s'
 | .ok _=>False
 | .error e=>C outer H s E e s'
structure fE (P:AE) (w:AU) (K:Ar) (mg:Am->Option Aa) (base:Heap) (CX:MZ) (k:Nat) (f:Ac) (fd:Ag) (ps:List Am) (sp:Sp):Prop where
 len:∀vs H Q E,sp vs H Q E->vs.length=ps.length
 run:∀(A:AX) (outer:List EJ) (s:Ae) (H:Hp) (args:Args) (us:List Aa) (vs:List V) (Q:VK) (E:XK),cJ k A->lr P w K mg base A outer s H->FL s fd args (ps.zip us)->bI vs us->sp vs H Q E->
  Cw (model P w) A (.call (.ref f) args) (CR CX outer P w H s Q E) s
theorem fE.mono {P:AE}{w:AU}{K:Ar}{m:Am->Option Aa}{base:Heap}{C:MZ}{j k:Nat}{f:Ac}{fd:Ag}{ps:List Am}{sp:Sp}(F:fE P w K m base C j f fd ps sp)(h:j<=k):
  fE P w K m base C k f fd ps sp:=⟨F.len,λA outer s H args us vs Q E r=>F.run A outer s H args us vs Q E (r.mono h)⟩
theorem lr.make {P:AE}{w:AU}{K:Ar}{m:Am->Option Aa}{base:Heap}{A:AX}{outer:List EJ}{s:Ae}{H:Hp}(e:lr P w K m base A outer s H)(C:Ac)(us:List Aa)(k:List (Am×Aa)):
  lr P w K m base (A.under (.builtin "type.__call__" ⟨.ref C::us,k⟩)) outer s H:=⟨by first |exact e.frames | (simpa[ pushEnvs] using e.frames),e.mod,e.bs,e.Lx,e.jK,e.Oy,e.cY,e.bare⟩
section
variable {X:Cx}{pins:List (Ac×Co)}{Y:St}{H:Hp}{s s':Ae}
theorem bA.NU (I:bA X pins Y H s):lr X.prog X.w X.K X.mg X.base X.A X.stack s H:=
 ⟨I.ok.frames,I.ok.mod,I.bs,BC I.ok.Lx I.sz,I.stack,I.mm,I.cY,I.bare⟩
theorem bA.after {Q:VK}{u:Aa}(I:bA X pins Y H s)(h:CE X.stack X.prog X.w H s Q u s'):EP X pins Y Q u s':=by
 obtain⟨v,e,os,a,un,k,r,q⟩:=h;obtain⟨c,g,d,t,o⟩:=s';obtain rfl:o=s.os:=os;exact⟨v,e,I.call (h':=c) (g':=g) (d':=d) (t':=t) (ch:=[]) un k a (λb z=>absurd z (by simp)),r,q⟩
end
def qc (sp:Sp)(v:List V)(E:XK)(t:TA):TE:=λY H Q=>t Y H λvs a=>sp (vs++v) a Q E
def OW (C:Ac)(m:Am)(sp:Sp)(v:List V)(E:XK)(T:TE)(t:TA):TE:=λY H Q=>T Y H λx c=>∃a e fs,x = .ref a/\c a=some (.ins C e fs)/\fs.lookup m=none/\
 t Y c λvs f=>sp (x::(vs++v)) f Q E
def Uq (C:Ac)(sp:Sp)(c:List V)(E:XK)(t:TA):TE:=λY H Q=>t Y H λvs e=>∀x a,e x=none->e a=none->a≠x->
 sp (.ref x::(vs++c)) (c8 (c8 e a (.own x)) x (.ins C a [])) (λv f=>v = .cn/\Q (.ref x) f) E
def gf (K:Ar)(fd:Ag)(ps:List Am)(ds:List Aa):Prop:=
 ∀(s:Ae) (us:List Aa),K.In s.heap->(us++ds).length=ps.length->FL s fd ⟨us,[]⟩ (ps.zip (us++ds))
theorem gf.all {K:Ar}{fd:Ag}{ps:List Am}(h:∀us:List Aa,us.length=ps.length->Cr fd ⟨us,[]⟩=pure (ps.zip us)):gf K fd ps []:=λs us _ hl=>by
 rw[Bi]at hl ⊢;exact .of_eq (h us hl)
def l_ (C:MZ)(X:Cx)(E:XK):Prop:=∀(pins:List (Ac×Co)) (Y:St) (H:Hp) (s:Ae) (e:Aa) (s':Ae),bA X pins Y H s->C X.stack H s E e s'->X.xe e s'
section
variable {X:Cx}{CX:MZ}{k:Nat}{f C:Ac}{fd:Ag}{ps:List Am}{sp:Sp}{x_:List V}{ds:List Aa}{E:XK}{x m:Am}{p pos apos:DR}{e o:Expr}{es:List Expr}{ta:TE}{t:TA}
theorem ve {pins:List (Ac×Co)}{Y:St}{H:Hp}{s:Ae}{Q:VK}{us:List Aa}{vs:List V}(F:fE X.prog X.w X.K X.mg X.base CX k f fd ps sp)(g:cJ k X.A)(B:gf X.K fd ps ds)(hd:bI x_ ds)(c:l_ CX X E)
  (I:bA X pins Y H s) (r:bI vs us) (h:sp (vs++x_) H Q E):AJ (model X.prog X.w) X.A (call (.ref f) us) (EP X pins Y Q) X.xe s:=by
 have a:bI (vs++x_) (us++ds):=r.append hd;have hl:(us++ds).length=ps.length:=by rw[<- a.length];exact F.len _ _ _ _ h
 refine EH (Cj (F.run X.A X.stack s H ⟨us,[]⟩ (us++ds) (vs++x_) Q E g I.NU (B s us I.kZ hl) a h) λr s' q=>?_)
 cases r with
 |error e=>exact c pins Y H s e s' I q
 |ok l=>
  cases l with
  |ret u=>exact I.after q
  |next=>exact A_ q
  |brk=>exact A_ q
  |cont=>exact A_ q
theorem S0 (F:fE X.prog X.w X.K X.mg X.base CX k f fd ps sp)(g:cJ k X.A)(hg:Gl X x)(M:X.mg x=some (.ref f))(j:D_ X.K (.ref f)=true)(u:gf X.K fd ps ds)(hd:bI x_ ds)(c:l_ CX X E)
  (v:PA X (e::es) t) (B:(x==("__debug__":Am))=false:=by decide) (n:Av (e::es) X.env=(false,eval e X.env)::Av es X.env:=by rfl) (l:(BY pos (Av es X.env)).any (·.1)=false:=by rfl):
  PE X (.Call (.Name x p) (e::es) [] pos) (qc sp x_ E t):=by
 intro pins s Y H Q I h;refine BZ (kY I hg M ?_ B);refine EI I.ok.mod.UR j (cK (v pos pins s Y H _ I h) λus G z=>?_) n l;obtain⟨vs,J,a,r,q⟩:=z;refine⟨a.kZ,?_⟩;exact ve F g u hd c a r q
theorem SX {pl:Jb Bool}(U:PE X o ta)(c:yF X.K C)(M:N6 X.K C m f)(F:fE X.prog X.w X.K X.mg X.base CX k f fd ps sp)(O:cJ k X.A)(hb:gf X.K fd ps ds)(hd:bI x_ ds)(J:l_ CX X E)(ha:PA X (e::es) t)
  (T:Av (e::es) X.env=(false,eval e X.env)::Av es X.env:=by rfl) (L:(BY pos (Av es X.env)).any (·.1)=false:=by rfl)
  (ht:eval (.Call (.Attribute o m apos) (e::es) [] pos) X.env=(do
   let v <- eval o X.env
   FK apos.atName
   let (f,first) <- EA [v] (E6 v m pl)
   Hc pos f first (BY pos (Av (e::es) X.env)) (Gm pos (ES [] X.env))):=by rfl):
  PE X (.Call (.Attribute o m apos) (e::es) [] pos) (OW C m sp x_ E ta t):=by
 intro pins s Y H Q I h;refine FW (cK (U pins s Y H _ I h) λu n z=>?_) ht;obtain⟨x,H1,j,B,a,dx,fs,ex,ea,l,q⟩:=z;subst ex;obtain rfl:u=Bj a:=B;refine l3 j ea c M l ?_;refine EI (first:=[.ref a]) I.ok.mod.UR M.kp (cK (ha pos pins n Y H1 _ j q) λus s2 z=>?_) T L;obtain⟨vs,H2,g,r,G⟩:=z;refine⟨g.kZ,?_⟩;exact ve (us:=.ref a::us) (vs:=.ref a::vs) F O hb hd J g (.cons rfl r) G
theorem Qr {pl:Jb Bool}(B:PE X o ta)(c:yF X.K C)(M:N6 X.K C m f)(F:fE X.prog X.w X.K X.mg X.base CX k f fd ps sp)(n:cJ k X.A)(G:gf X.K fd ps ds)(hd:bI x_ ds)(j:l_ CX X E)
  (ht:eval (.Call (.Attribute o m apos) [] [] pos) X.env=(do
   let v <- eval o X.env
   FK apos.atName
   let (f,first) <- EA [v] (E6 v m pl)
   Hc pos f first (BY pos (Av [] X.env)) (Gm pos (ES [] X.env))):=by rfl):
  PE X (.Call (.Attribute o m apos) [] [] pos) (OW C m sp x_ E ta mj):=by
 intro pins s Y H Q I h;refine FW (cK (B pins s Y H _ I h) λu L z=>?_) ht;obtain⟨x,T,g,r,a,O,fs,ex,J,l,q⟩:=z;subst ex;obtain rfl:u=Bj a:=r;refine l3 g J c M l ?_;exact PySem.W.callWith_K0 (first:=[.ref a]) g.kZ M.kp (ve (us:=[.ref a]) (vs:=[.ref a]) F n G hd j g (.cons rfl .nil) q)
structure Mk (K:Ar) (C f:Ac):Prop where
 makes:Jo K C=true
 init:Ed K (.ref C) "__init__"=some (some (.ref f))
 fn:KJ K (.ref f)=true
 kp:D_ K (.ref C)=true
theorem P5 {pins:List (Ac×Co)}{Y:St}{H:Hp}{s:Ae}{Q:VK}{us:List Aa}{vs:List V}(M:Mk X.K C f)(F:fE X.prog X.w X.K X.mg X.base CX k f fd ps sp)(B:cJ (k+1) X.A)(G:gf X.K fd ps ds)(hd:bI x_ ds)
  (z:l_ CX X E) (I:bA X pins Y H s) (r:bI vs us)
  (h:∀x a,H x=none->H a=none->a≠x->sp (.ref x::(vs++x_)) (c8 (c8 H a (.own x)) x (.ins C a [])) (λv T=>v = .cn/\Q (.ref x) T) E):
  AJ (model X.prog X.w) X.A (call (.ref C) us) (EP X pins Y Q) X.xe s:=by
 have j:=h (s.heap.objs.size+1) s.heap.objs.size (I.cY.fresh (G4 _)) (I.cY.fresh (Ak _)) (Bx (F_ _));have c:=bA.made (C:=C) I;have g:bI (V.ref (s.heap.objs.size+1)::(vs++x_)) (Bj (s.heap.objs.size+1)::(us++ds)):=.cons rfl (r.append hd);have hl:(Bj (s.heap.objs.size+1)::us++ds).length=ps.length:=by
  have e:=g.length;rw[F.len _ _ _ _ j]at e;exact e.symm
 refine EH (QT I.kZ M.makes M.init (beq_iff_eq.mp M.fn) (Cj (F.run _ X.stack _ _ ⟨Bj (s.heap.objs.size+1)::us,[]⟩ (Bj (s.heap.objs.size+1)::(us++ds)) _ _ E (B.make C us [])
  (c.NU.make C us []) (G _ (Bj (s.heap.objs.size+1)::us) c.kZ hl) g j) λr s' q=>?_))
 cases r with
 |error e=>exact z pins Y _ _ e s' c q
 |ok L=>
  cases L with
  |ret u=>
   obtain⟨v,U,O,l,J,n⟩:=c.after q;subst J;exact⟨l,⟨V.ref (s.heap.objs.size+1),U,O,rfl,n⟩⟩
  |next=>exact A_ q
  |brk=>exact A_ q
  |cont=>exact A_ q
theorem SY (M:Mk X.K C f)(F:fE X.prog X.w X.K X.mg X.base CX k f fd ps sp)(g:cJ (k+1) X.A)(hg:Gl X x)(j:X.mg x=some (.ref C))(u:gf X.K fd ps ds)(hd:bI x_ ds)(c:l_ CX X E)
  (v:PA X (e::es) t) (B:(x==("__debug__":Am))=false:=by decide) (n:Av (e::es) X.env=(false,eval e X.env)::Av es X.env:=by rfl) (l:(BY pos (Av es X.env)).any (·.1)=false:=by rfl):
  PE X (.Call (.Name x p) (e::es) [] pos) (Uq C sp x_ E t):=by
 intro pins s Y H Q I h;refine BZ (kY I hg j ?_ B);refine EI I.ok.mod.UR M.kp (cK (v pos pins s Y H _ I h) λus G z=>?_) n l;obtain⟨vs,J,a,r,q⟩:=z;refine⟨a.kZ,?_⟩;exact P5 M F g u hd c a r q
end
section
variable {X:Cx}{CX:MZ}{k:Nat}{f C:Ac}{fd:Ag}{ps ks:List Am}{sp:Sp}{E:XK}{x m:Am}{p pos apos Ū:DR}{e o:Expr}{es:List Expr}{kws:List KO}{te ta:TE}{t tk:TA}{nm:Option Am}
variable {g:List Aa->List Aa->List Aa}{gV:List V->List V->List V}
end
structure aN (N P:List Am) (sc:Ck):Prop where
 kind:sc.kind = .function
 co:sc.isCoroutine=false
 gen:sc.isGenerator=false
 nd:N.Nodup
 pre:N.take P.length=P
 par:∀x∈P,sc.names.lookup x=some .local∨sc.names.lookup x=some .cell
 rl:∀y∈sc.names,y.2≠.free
theorem uC {kindOf:Am->Option E9}{x:Am}:∀{binds:List (Am×Aa)} {m:Am->Option Aa},(∀v,(x,v)∉binds)->Iv kindOf binds m x=m x
 | [],_,_=>rfl
 | (n,v)::r,m,h=>by
  unfold Iv;rw[uC λw hw=>h w (Aj _ hw)];split
  .have:x≠n:=by rintro rfl;exact h v AF
   simp[this]
  .rfl
theorem uE {kindOf:Am->Option E9}{x:Am}:∀{binds:List (Am×Aa)} {m:Am->Option Aa},(∀v,(x,v)∉binds)->Iw kindOf binds m x=m x
 | [],_,_=>rfl
 | (n,v)::r,m,h=>by
  unfold Iw;rw[uE λw hw=>h w (Aj _ hw)];split
  .rfl
  .have:x≠n:=by rintro rfl;exact h v AF
   simp[this]
theorem uD {kindOf:Am->Option E9}{x:Am}{v:Aa}:∀{P:List Am} {vs:List Aa} {i:Nat} {m:Am->Option Aa},P.Nodup->P[i]?=some x->vs[i]?=some v->kindOf x=some .local->
  Iv kindOf (P.zip vs) m x=some v
 | [],_,_,_,_,h,_,_=>by simp at h
 |_::_,[],_,_,_,_,h,_=>by simp at h
 |p::P,w::vs,0,m,n,h1,h2,k=>by
  simp at h1 h2;subst h1;subst h2
  show Iv kindOf ((p,w)::P.zip vs) m p=_
  unfold Iv;rw[uC λv a=>(AD.mp n).1 (Gb a).1,if_pos k];simp
 |p::P,w::vs,i+1,m,n,h1,h2,k=>by
  unfold Iv;exact uD (AD.mp n).2 h1 h2 k
theorem uF {kindOf:Am->Option E9}{x:Am}{v:Aa}:∀{P:List Am} {vs:List Aa} {i:Nat} {m:Am->Option Aa},P.Nodup->P[i]?=some x->vs[i]?=some v->kindOf x≠some .local->
  Iw kindOf (P.zip vs) m x=some v
 | [],_,_,_,_,h,_,_=>by simp at h
 |_::_,[],_,_,_,_,h,_=>by simp at h
 |p::P,w::vs,0,m,n,h1,h2,k=>by
  simp at h1 h2;subst h1;subst h2
  show Iw kindOf ((p,w)::P.zip vs) m p=_
  unfold Iw;rw[uE λv a=>(AD.mp n).1 (Gb a).1,if_neg k];simp
 |p::P,w::vs,i+1,m,n,h1,h2,k=>by
  unfold Iw;exact uF (AD.mp n).2 h1 h2 k
noncomputable def start (N:List Am)(vs:List V):St:=vs.map some++Aw (N.length-vs.length) none
noncomputable def eH (CX:MZ)(P:AE)(w:AU)(K:Ar)(mg:Am->Option Aa)(base:Heap)(N:List Am)(qual:Am)(scope:Ck)(f:Ac)(cd:Aa)(A:AX)(outer:List EJ)(s:Ae)(H:Hp)(E:XK):Cx where
 prog:=P
 w:=w
 K:=K
 mg:=mg
 base:=base
 A:=A.deeper (BG qual scope s.heap.objs.size f cd)
 N:=N
 s₀:=s
 H₀:=H
 env:=BG qual scope s.heap.objs.size f cd
 outer:=outer
 stack:=BG qual scope s.heap.objs.size f cd::outer
 ex:=[]
 calm:=true
 fn:=λ_=>true
 pn:=[]
 xe:=λe s'=>AJ (model P w) (A.deeper (BG qual scope s.heap.objs.size f cd)) (leaving (BG qual scope s.heap.objs.size f cd) e) (λ_ Î=>CX outer H s E e Î) (λe' Î=>CX outer H s E e' Î) s'
theorem rY {sc:Ck}{n:Nat}{x:Am}(h:sc.names.lookup x=some .cell):∃c,(GI n sc.names []).lookup x=some c:=by
 have q:=PySem.W.cellsFrom_some sc.names n [] (.inl h);exact Option.isSome_iff_exists.mp q
theorem NJ {G:MZ}{P:AE}{w:AU}{K:Ar}{M:Am->Option Aa}{base:Heap}{N ps:List Am}{l:Am}{scope:Ck}{f:Ac}{cd:Aa}{A:AX}{outer:List EJ}{s B:Ae}{H:Hp}{E:XK}{us:List Aa}{vs:List V}
  (S:aN N ps scope) (hd:A.handled=none) (g:lr P w K M base A outer s H) (hl:vs.length=ps.length) (r:bI vs us)
  (x:InCallC s s.heap.objs.size (Iv (BG l scope s.heap.objs.size f cd).kindOf (ps.zip us) λ_=>none) (GI (s.heap.objs.size+1) scope.names []) (Iw (BG l scope s.heap.objs.size f cd).kindOf (ps.zip us) λ_=>none) B):
  bA (eH G P w K M base N l scope f cd A outer s H E) [] (start N vs) H B:=by
 have L:ps.length<=N.length:=by have:=congrArg Gd S.pre;rw[Bp]at this;lia
 obtain⟨h1,tk,rfl,C⟩:=x.done;have o:∀b:Ac,b∉(eH G P w K M base N l scope f cd A outer s H E).ex:=λb z=>absurd (show b∈([]:List Ac) from z) (by simp)
 refine⟨⟨g.mod,S.kind,rfl,rfl,Ak _,λy z c h1 h2=>?_,λy m=>?_,λy c _ h=>?_,λ_=>hd,G3 g.frames,.inr ⟨rfl,rfl⟩,λb z=>absurd z (o b),g.bs,g.Lx,λb _ _=>o b,λb z=>absurd z (o b),g.jK,g.Oy⟩,
  rfl,g.bare,Un.kept C,⟨_,x.toInCall.ns,λi y v h1 h2 Q=>?_⟩,λy c h=>⟨_,x.cell y c h⟩,g.cY.fresh (Ak _),λy c h=>?_,λp t=>absurd (show p∈([]:List (Ac×Co)) from t) (by simp),g.cY.kept C,?_⟩
 .exact name_of_addr x.apart (PySem.mem_of_lookup h1) (PySem.mem_of_lookup h2)
 .rcases m with m |m
  .exact rY m
  .exact absurd rfl (S.rl _ (PySem.mem_of_lookup m))
 .exact EY (x.above y c (PySem.mem_of_lookup h))
 .have hi:i<vs.length:=by
   unfold start at h2;by_cases hi:i<vs.length
   .exact hi
   .rw [Bk (by simpa using hi)]at h2;rw[Dg]at h2;split at h2<;>cases h2
  have O:vs[i]?=some v:=by
   unfold start at h2;rw[AZ (by simpa using hi),AN]at h2
   cases e:vs[i]? with
   |none=>rw[e]at h2;cases h2
   |some a=>rw[e]at h2;cases h2;rfl
  obtain⟨u,U,J⟩:=r.get O;have t:ps[i]?=some y:=by
   rw[<- S.pre,Ch (by lia)];exact h1
  have j:ps.Nodup:=by rw[<- S.pre];exact S.nd.sublist (FN _ _)
  refine⟨u,J,?_⟩;rcases S.par y (An t) with k |k
  .exact .inl ⟨k,uD j t U k⟩
  .obtain ⟨c,e⟩:=rY (n:=s.heap.objs.size+1) k;refine .inr ⟨.inl k,c,e,?_⟩;have q:=x.cell y c e;rw[uF j t U (by show scope.names.lookup y≠_;rw[k];decide)]at q;exact q
 .exact g.cY.fresh (EY (x.above y c (PySem.mem_of_lookup h)))
 .unfold start;show _=N.length
  rw[AG,Ay,BJ];lia
theorem ME {C:MZ}{P:AE}{w:AU}{K:Ar}{M:Am->Option Aa}{base:Heap}{k:Nat}{f:Ac}{name a:Am}{p:HR}{body:List AW}{scope:Ck}{dV kV O pm c ct oc:Aa}{an od:Option Ac}
  {L:Array (Option Aa)} {N ps:List Am} {sp:Sp} (lk:K.lookup f=some ⟨oc,od,.func (Ep name a p body scope dV kV O pm an c ct),L⟩) (ZV:F6 K c a=true) (S:aN N ps scope)
  (len:∀vs H Q E,sp vs H Q E->vs.length=ps.length)
  (B:∀(A:AX) (outer:List EJ) (s:Ae) (H:Hp) (vs:List V) (Q:VK) (E:XK),cJ k (A.deeper (BG a scope s.heap.objs.size f c))->sp vs H Q E->
   ∃t,PSs (eH C P w K M base N a scope f c A outer s H E) body t/\t {nx:=λ_ g=>Q .cn g,rt:=Q} (start N vs) H):
  fE P w K M base C (k+1) f (Ep name a p body scope dV kV O pm an c ct) ps sp:=by
 refine⟨len,λA outer s H args us vs Q E U m hb r l=>?_⟩;have hl:=len _ _ _ _ l;have KX:K.In s.heap:=m.mod.UR.keeps λb o e=>(m.bs b o e).1
 have T:s.heap.NoLimit:=m.mod.nolimit.keeps λb o e=>(m.bs b o e).1
 have h:∀y∈ps.zip us,scope.names.lookup y.1=some .local∨(scope.names.lookup y.1=some .cell/\((GI (s.heap.objs.size+1) scope.names []).lookup y.1).isSome=true):=λ⟨n,v⟩ hy=>by
  rcases S.par n (Gb hy).1 with q |q
  .exact .inl q
  .exact .inr ⟨q,PySem.W.cellsFrom_some _ _ _ (.inl q)⟩
 refine codeAny_call_function U.depth (KX _ _ lk) rfl S.co S.gen rfl (PySem.W.codeRec_of KX ZV) (hb _ _ _ _ ?_);refine wpAny_newFunctionEnv_cells S.kind h λenv he s1 x=>?_
 subst he;refine⟨T.keeps x.toInCall.keep,codeAny_func ?_⟩;obtain⟨t,ht,hq⟩:=B A outer s H vs Q E (U.deeper _) l;have I:bA (eH C P w K M base N a scope f c A outer s H E) [] (start N vs) H s1:=NJ S U.hd m hl r x;refine BV (ht [] s1 (start N vs) H _ I hq) (λfl s' j=>?_) λe s' j=>j
 have fin:∀{z:St} {g:Hp} {v:V} {u:Aa},bA (eH C P w K M base N a scope f c A outer s H E) [] z g s'->cv v u->Q v g->CE outer P w H s Q u s':=
  λ{z g v u} J G q=>⟨v,g,J.os,J.bare,J.base,J.cY,G,q⟩
 cases fl with
 |ret u=>
  obtain⟨v,z,g,J,G,q⟩:=j;exact fin J G q
 |next=>
  obtain⟨z,g,J,q⟩:=j;exact fin (v:=V.cn) J rfl q
 |brk=>
  obtain⟨_,_,_,q⟩:=j;exact A_ q
 |cont=>
  obtain⟨_,_,_,q⟩:=j;exact A_ q
section
variable {X:Cx}{x:Am}{p pos:DR}{e:Expr}{es:List Expr}{t:TA}{id T:String}{r:List V->Hp->VK->Prop}
def ZL (r:List V->Hp->VK->Prop)(t:TA):TE:=λY H Q=>t Y H λvs a=>r vs a Q
theorem aM (hc:fT X (.builtin id) r)(hg:Gl X x)(m:X.mg x=none)(v:DJ x=some (.builtin id))(A:PA X (e::es) t)(hn:x ≠ "__name__":=by decide)(B:(x==("__debug__":Am))=false:=by decide)
  (f:Av (e::es) X.env=(false,eval e X.env)::Av es X.env:=by rfl) (l:(BY pos (Av es X.env)).any (·.1)=false:=by rfl):PE X (.Call (.Name x p) (e::es) [] pos) (ZL r t):=by
 intro pins s Y H Q I h;refine BZ (f9 I hg m v ?_ hn B);refine JU (cK (A pos pins s Y H _ I h) λus a z=>?_) f l;obtain⟨vs,j,g,c,q⟩:=z;exact hc pins a Y j vs us Q g c q
theorem kU (hc:fT X (.type T) r)(hg:Gl X x)(m:X.mg x=none)(v:DJ x=some (.type T))(A:PA X (e::es) t)(hn:x ≠ "__name__":=by decide)(B:(x==("__debug__":Am))=false:=by decide)
  (f:Av (e::es) X.env=(false,eval e X.env)::Av es X.env:=by rfl) (l:(BY pos (Av es X.env)).any (·.1)=false:=by rfl):PE X (.Call (.Name x p) (e::es) [] pos) (ZL r t):=by
 intro pins s Y H Q I h;refine BZ (f9 I hg m v ?_ hn B);refine A9 (cK (A pos pins s Y H _ I h) λus a z=>?_) f l;obtain⟨vs,j,g,c,q⟩:=z;exact hc pins a Y j vs us Q g c q
end
end L2
namespace HT
open PySem PyProof.Rows
noncomputable def lexLt:List Int->List Int->Bool
 | [],[]=>false
 | [],_::_=>true
 |_::_,[]=>false
 |x::xs,y::ys=>if x=y then lexLt xs ys else decide (x<y)
theorem jt (x y:Int)(xs ys:List Int):lexLt (x::xs) (y::ys)=if x=y then lexLt xs ys else decide (x<y):=rfl
section
open PySem.SeqAt
open PySem.AutoSeq1(wpAny_loadPart')
open PySem.MeetsSeq PySem.MeetsSeq2 PySem.MeetsSeq3
end
section
variable {prog:AE}{w:AU}{A:AX}{E:Aa->Ae->Prop}{s:Ae}
theorem TV {t b:Ac}{vs a:List Aa}{Q:Aa->Ae->Prop}(ht:Ez s.heap t vs.toArray)(B:Ez s.heap b a.toArray)(v:vs≠[])
  (h1:a=[]->Q (.ref t) s) (h2:a≠[]->Q (.ref s.heap.objs.size) {s with heap:=s.heap.push {cls:=.type "tuple",data:=.seq (vs++a).toArray}})
  (z:vs.length+a.length<=AH):AJ (model prog w) A (Cs .Add (.ref t) (.ref b)) Q E s:=by
 obtain⟨⟨cls,dd,data,L⟩,o,hc,n,hd⟩:=id ht;obtain⟨⟨j,f,data2,l⟩,h,C,g,c⟩:=id B;simp only at hc hd C c
 subst hc hd C c;have e:vs.toArray++a.toArray=(vs++a).toArray:=by simp
 by_cases hw:a=[]
 .exact KI ⟨_,o,rfl⟩ ⟨_,h,rfl⟩ Jz Kl PySem.F.slot_tuple_add PySem.F.entry_tuple_add (PySem.F.args_tuple_add_2 _ _)
   (tuple_addW1 t b vs.toArray a.toArray n g dd f L l (by simpa using v) (by simp[hw])) ⟨o,h,h1 hw⟩
 .refine KI ⟨_,o,rfl⟩ ⟨_,h,rfl⟩ Jz Kl PySem.F.slot_tuple_add PySem.F.entry_tuple_add (PySem.F.args_tuple_add_2 _ _)
   (tuple_addW2 t b vs.toArray a.toArray n g dd f L l (by simpa using v) (by simpa using hw) (by rw[Aq,Aq];exact z)) ⟨o,h,?_⟩
  rw[e];exact h2 hw
noncomputable def sD (n d:Nat):Option Int->Nat
 |none=>d
 |some v=>if v<0 then (v+(n:Int)).toNat else min v.toNat n
theorem kR (n d k:Nat):sD n d (some (k:Int))=min k n:=by
 show (if (k:Int)<0 then ((k:Int)+(n:Int)).toNat else min (k:Int).toNat n)=min k n
 rw[if_neg (by lia),Bf]
end
end HT
namespace L2
open PySem PySem.Spec PyProof.Rows
abbrev TO:=St->Hp->(Option Int->Hp->Prop)->Prop
def PO (X:Cx)(e:Option Expr)(t:TO):Prop:=
 ∀(pins:List (Ac×Co)) (s:Ae) (Y:St) (H:Hp) (Q:Option Int->Hp->Prop),bA X pins Y H s->t Y H Q->
  AJ (model X.prog X.w) X.A (evalPart e X.env) (λu s'=>∃o a,bA X pins Y a s'/\Ka u o/\Q o a) X.xe s
def LL:TO:=λ_ H Q=>Q none H
def Um (t:TE):TO:=λY H Q=>t Y H λx a=>∃i,x = .int i/\Q (some i) a
theorem rM {ns:List Int}:∀{us:List Aa},bI (ns.map V.int) us->EB us ns:=by
 induction ns with
 |nil=>intro us r;rw[Jv]at r;cases r;exact .nil
 |cons n ns h=>
  intro us r
  cases r with
  |cons c a=>
   obtain⟨t,e⟩:=c;subst e;exact .cons n t (h a)
section
variable {X:Cx}{e:Expr}{te:TE}{lo hi:Option Expr}{tl th:TO}{pos p2:DR}
theorem Md:PO X none LL:=by
 intro pins s Y H Q I h;exact AK ⟨none,H,I,.none,h⟩
theorem fK (h:PE X e te):PO X (some e) (Um te):=by
 intro pins s Y H Q I hw;refine cK (h pins s Y H _ I hw) λu g z=>?_
 obtain⟨x,f,c,r,a⟩:=z;obtain⟨i,rfl,q⟩:=a;obtain⟨t,rfl⟩:=r;exact⟨some i,f,c,.int i t,q⟩
def Xk (X:Cx)(r:V->Option Int->Option Int->Hp->VK->Prop):Prop:=
 ∀(pins:List (Ac×Co)) (s:Ae) (Y:St) (H:Hp) (x:V) (v l u:Aa) (lo hi:Option Int) (L:Ac) (Q:VK),bA X pins Y H s->cv x v->s.heap.IsSliceOf L l u .none->Ka l lo->Ka u hi->r x lo hi H Q->
  ∃T id,FY (.type T) "__getitem__"=pure (some (.builtin id))/\s.TypeIs v T/\AJ (model X.prog X.w) X.A (Jl v (.ref L)) (EP X pins Y Q) X.xe s
def È (r:V->Option Int->Option Int->Hp->VK->Prop)(te:TE)(tl th:TO):TE:=λY H Q=>te Y H λx f=>tl Y f λl c=>th Y c λu a=>r x l u a Q
theorem iT {r:V->Option Int->Option Int->Hp->VK->Prop}(t:Xk X r)(w:PE X e te)(hl:PO X lo tl)(o:PO X hi th):PE X (.Subscript e (.Slice lo hi none p2) pos) (È r te tl th):=by
 intro pins s Y H Q I h;refine Jd (cK (w pins s Y H _ I h) λv g z=>?_);obtain⟨x,O,J,j,n⟩:=z;refine K1 (cK (hl pins g Y O _ J n) λL f z=>?_);obtain⟨l,M,G,pl,m⟩:=z;refine cK (o pins f Y M _ G m) λU a z=>?_
 obtain⟨u,c,C,p,k⟩:=z;refine AK ?_;have B:bA X pins Y c {a with heap:=a.heap.push {cls:=.type "slice",data:=.fields #[L,U,.none]}}:=C.kept (t':=a.toks) λb ob q=>Af _ q
 obtain⟨T,id,A,ht,hg⟩:=t pins {a with heap:=a.heap.push {cls:=.type "slice",data:=.fields #[L,U,.none]}} Y c x v L U l u a.heap.objs.size Q B j (Heap.IsSliceOf.new ..) pl p k;exact Kd (ops:=[.ref a.heap.objs.size,v]) ht A hg (by with_unfolding_all rfl)
noncomputable def z9 (xs:List V)(lo hi:Option Int):List V:=(xs.drop (HT.sD xs.length 0 lo)).take (HT.sD xs.length xs.length hi-HT.sD xs.length 0 lo)
theorem yb (xs:List V)(lo hi:Option Int):(z9 xs lo hi).length<=xs.length:=by
 unfold z9;rw[Bp,DG];lia
def Yc (K:Ar):R2:=λx y H Q=>∃a b xs ys,x = .ref a/\y = .ref b/\jO K H a xs/\jO K H b ys/\xs≠[]/\xs.length+ys.length<=AH/\
 (ys=[]->Q (.ref a) H)/\(ys≠[]->∀p,H p=none->Q (.ref p) (c8 H p (.tup (xs++ys))))
theorem bI.vH {xs:List V}{us:List Aa}(r:bI xs us):us=[]↔xs=[]:=by
 cases r with
 |nil=>simp
 |cons _ _=>simp
theorem S3:k_ X (Cs .Add) (Yc X.K):=by
 intro pins s Y H x y v u Q I j g h;obtain⟨a,b,xs,ys,rfl,rfl,A,B,m,f,l,k⟩:=h;cases j;cases g;obtain⟨T,c,p,_⟩:=I.tuple A;obtain⟨t,r,p2,_⟩:=I.tuple B;refine HT.TV p p2 (λz=>m (c.vH.mp z)) (λz=>⟨.ref a,H,I,rfl,l (r.vH.mp z)⟩) (λz=>?_) (by rw[<- c.length,<- r.length];exact f);refine⟨.ref s.heap.objs.size,_,I.laid (t':=s.toks) (o:=.tup (xs++ys)) (λb ob q=>Af _ q) (Ak _) ?_,rfl,k (λw=>z (r.vH.mpr w)) _ (I.cY.fresh (Ak _))⟩;exact⟨by rw[AG];exact f,_,c.append r,JW _ _⟩
end
noncomputable def sT (n:Nat)(i:Int):Option Nat:=if 0<=i then (if i<n then some i.toNat else none) else if -(n:Int)<=i then some (i+n).toNat else none
noncomputable def hQ {a:Type}(xs:List a)(i:Int):Option a:=(sT xs.length i).bind λj=>xs[j]?
theorem Mx {n:Nat}{i:Int}{j:Nat}(h:sT n i=some j):seqIndex? i n=some j/\j<n/\-(n:Int)<=i/\i<n:=by
 unfold sT at h;by_cases a:0<=i
 .rw [if_pos a]at h;by_cases h1:i<n
  .rw [if_pos h1]at h;have e:i.toNat=j:=AV h;exact⟨by rw[Ir a h1,e],by lia,by lia,h1⟩
  .rw [if_neg h1]at h;cases h
 .rw [if_neg a]at h;by_cases h1 : -(n:Int)<=i
  .rw [if_pos h1]at h;have e:(i+n).toNat=j:=AV h;exact⟨by rw[seqIndex_neg (by lia) h1,e],by lia,h1,by lia⟩
  .rw [if_neg h1]at h;cases h
theorem wq {a:Type}{xs:List a}{i:Int}{v:a}(h:hQ xs i=some v):∃j,seqIndex? i xs.length=some j/\xs[j]?=some v/\j<xs.length/\-(xs.length:Int)<=i/\i<xs.length:=by
 unfold hQ at h
 cases e:sT xs.length i with
 |none=>rw[e]at h;cases h
 |some j=>
  rw[e]at h;obtain⟨h1,h2,f,c⟩:=Mx e;exact⟨j,h1,h,h2,f,c⟩
theorem d3 {a:Type}{xs:List a}{j:Nat}{v:a}(h:xs[j]?=some v):hQ xs (j:Int)=some v:=by
 have J:j<xs.length:=(Ab.mp h).1;have e:sT xs.length (j:Int)=some j:=by
  unfold sT;rw[if_pos (by lia),if_pos (by lia)];simp
 unfold hQ;rw[e];exact h
theorem yt {a:Type}(xs:List a)(v:a):hQ (xs++[v]) (-1)=some v:=by
 have hl:(xs++[v]).length=xs.length+1:=by simp
 have e:sT (xs++[v]).length (-1)=some xs.length:=by
  unfold sT;rw[ if_neg (by decide),if_pos (by lia)];congr 1
  lia
 unfold hQ;rw[e];simp
def Ub (b:Expr):Prop:=∀o i,K2 b false o i=operate [o,i] (Jl o i)
def Z' (X:Cx)(r:R2):Prop:=
 ∀(value slice:Expr) (pins:List (Ac×Co)) (s:Ae) (Y:St) (H:Hp) (x y:V) (v u:Aa) (Q:VK),bA X pins Y H s->cv x v->cv y u->r x y H Q->
  K2 slice false v u=operate [v,u] (Jl v u)->AJ (model X.prog X.w) X.A (subscriptTail value slice v u) (EP X pins Y Q) X.xe s
def Zv (X:Cx)(id:String)(r:V->List V->Hp->VK->Prop):Prop:=
 ∀(pins:List (Ac×Co)) (s:Ae) (Y:St) (H:Hp) (x:V) (xs:List V) (v:Aa) (us:List Aa) (Q:VK),bA X pins Y H s->cv x v->bI xs us->r x xs H Q->
  AJ (model X.prog X.w) X.A (call (.builtin id) (v::us)) (EP X pins Y Q) X.xe s
section
variable {X:Cx}{a b:Expr}{ta tb:TE}{pos:DR}
theorem aO {r:R2}(j:Z' X r)(A:PE X a ta)(B:PE X b tb)(g:Ub b):PE X (.Subscript a b pos) (LK r ta tb):=by
 intro pins s Y H Q I h;exact Jd (W_ A B I h λv u c x y l k f e q=>j a b pins c Y l x y v u Q k f e q (g _ _))
def SR (K:Ar):R2:=λx y H Q=>∃p xs i v,x = .ref p/\y = .int i/\eR K H p xs/\hQ xs i=some v/\Q v H
def Ya (K:Ar):R2:=λx y H Q=>∃p xs i v,x = .ref p/\y = .int i/\jO K H p xs/\hQ xs i=some v/\Q v H
def Yb:R2:=λx y H Q=>∃z i c,x = .str z/\y = .int i/\z.length<=AH/\hQ z.cps.toList i=some c/\Q (.str ⟨#[c]⟩) H
theorem ba:Z' X (SR X.K):=by
 intro value slice pins s Y H x y v u Q I l k h e;obtain⟨p,xs,i,z,rfl,rfl,m,n,q⟩:=h;cases l;obtain⟨t,rfl⟩:=k;obtain⟨T,r,pl,B⟩:=I.list m;obtain⟨j,h1,h2,C,A,o⟩:=wq n;obtain⟨w,g,c⟩:=r.get h2;have hl:=r.length;have hn:=l0;have fin:EP X pins Y Q w s:=⟨z,H,I,c,q⟩
 by_cases f:0<=i
 .have J:i.toNat=j:=by
   rw[Ir f o]at h1;exact AV h1
  exact item_listR pl.isList f (by lia) (by rw[J];simpa using g) fin e
 .have J:(i+(T.toArray.size:Int)).toNat=j:=by
   rw[seqIndex_neg (by lia) A]at h1;rw[Aq,<- hl];exact AV h1
  exact Ia pl.isList.typeIs Gi.lookup
   (wpAny_getItem_list_neg (Q:=λr s'=>r=w/\EP X pins Y Q r s') pl.isList (by lia) (by rw[Aq]<;>lia) (by lia) (by rw[J];simpa using g) ⟨rfl,fin⟩) e
theorem aS:Z' X (Ya X.K):=by
 intro value slice pins s Y H x y v u Q I f e h g;obtain⟨p,xs,i,z,rfl,rfl,k,l,q⟩:=h;cases f;obtain⟨t,rfl⟩:=e;obtain⟨T,r,pl,n⟩:=I.tuple k;obtain⟨j,h1,h2,B,A,o⟩:=wq l;obtain⟨w,m,c⟩:=r.get h2;have hl:=r.length;have hn:=l0;have fin:EP X pins Y Q w s:=⟨z,H,I,c,q⟩
 exact Ia pl.typeIs DU.lookup
  (Hg (Q:=λr s'=>r=w/\EP X pins Y Q r s') pl (by lia) (by lia) (by rw[Aq,<- hl];exact h1) (by simpa using m) ⟨rfl,fin⟩) g
theorem Ww:Z' X Yb:=by
 intro value slice pins s Y H x y v u Q I e r h f;obtain⟨z,i,c,rfl,rfl,o,g,q⟩:=h;obtain⟨t,rfl⟩:=e;obtain⟨t',rfl⟩:=r;obtain⟨j,h1,h2,p,l,k⟩:=wq g;have hl:z.cps.toList.length=z.length:=by simp[Str.length]
 rw[hl]at h1 l k;have hn:=l0;exact Kd (IT s z t) slot_str_getitem.lookup (getItem_str (by
  have n:decide (i < -(2^63:Int))=false:=decide_eq_false (by lia);have m:decide (i>=2^63)=false:=decide_eq_false (by lia);rw[n,m,GV]) (by rw[h1];simpa using h2) ⟨.str ⟨#[c]⟩,H,I.tok _,⟨_,rfl⟩,q⟩) f
theorem zF (t:List Aa)(n j:Nat)(u:Aa):CF (·.setIfInBounds j u) {cls:=.type "list",data:=.seq t.toArray n}={cls:=.type "list",data:=.seq (t.set j u).toArray n}:=by
 simp[CF]
theorem bA.lst {pins:List (Ac×Co)}{Y:St}{H:Hp}{s:Ae}{p:Ac}{xs:List V}(I:bA X pins Y H s)(h:H p=some (.lst xs)):
  ∃(t:List Aa) (n:Nat),bI xs t/\s.heap.get? p=some {cls:=.type "list",data:=.seq t.toArray n}/\xs.length<=AH:=by
 obtain⟨z,t,n,r,e⟩:=I.cY p _ h;exact⟨t,n,r,e,z⟩
theorem bA.Wi {pins:List (Ac×Co)}{Y:St}{H:Hp}{s:Ae}{p:Ac}{xs ys:List V}{T its':List Aa}{n c:Nat}{f:Co->Co}(I:bA X pins Y H s)(h:H p=some (.lst xs))
  (o:s.heap.get? p=some {cls:=.type "list",data:=.seq T.toArray n}) (hf:f {cls:=.type "list",data:=.seq T.toArray n}={cls:=.type "list",data:=.seq its'.toArray c}) (r:bI ys its') (z:ys.length<=AH) (t:Nat):
  bA X pins Y (c8 H p (.lst ys)) {s with heap:=s.heap.update p f,toks:=t}:=by
 have e:(s.heap.update p f).get? p=some {cls:=.type "list",data:=.seq its'.toArray c}:=by
  rw[Cm f o (by rw[hf]<;>rfl),hf]
 refine I.write (by rw[h];trivial) (.inl rfl) (λb u B q=>(Cc _ _ (Bm B)).trans q) ⟨_,e⟩ ?_;exact⟨z,its',c,r,e⟩
def Mb:V->V->V->Hp->(Hp->Prop)->Prop:=λo i v H Q=>∃p xs k j,o = .ref p/\i = .int k/\H p=some (.lst xs)/\sT xs.length k=some j/\Q (c8 H p (.lst (xs.set j v)))
theorem jZ:Xl X Mb:=by
 intro pins s Y H o i v C G u Q I z A w h;obtain⟨p,xs,k,j,rfl,rfl,e,J,q⟩:=h;cases z;obtain⟨t,rfl⟩:=A;obtain⟨T,n,r,O,B⟩:=I.lst e;obtain⟨h1,h2,g,f⟩:=Mx J;have hl:=r.length;have hn:=l0;have m:bA X pins Y (c8 H p (.lst (xs.set j v))) {s with heap:=s.heap.update p (CF (·.setIfInBounds j u))}:=
  I.Wi e O (zF T n j u) (r.set w j) (by rw[BD];exact B) s.toks
 by_cases l:0<=k
 .have c:k.toNat=j:=by
   rw[Ir l f]at h1;exact AV h1
  exact PySem.W.ki_setAt O l (by lia) (by rw[Aq,<- hl];exact f) (by rw[c];exact⟨_,m,q⟩)
 .have c:(k+(T.toArray.size:Int)).toNat=j:=by
   rw[seqIndex_neg (by lia) g]at h1;rw[Aq,<- hl];exact AV h1
  exact PySem.W.ki_setBack O (by lia) (by rw[Aq,<- hl];exact g) (by lia) (by rw[c];exact⟨_,m,q⟩)
theorem uR (lo hi:Option Int)(n:Nat):(C3 lo hi none n).1=((HT.sD n 0 lo:Nat):Int)/\(C3 lo hi none n).2.1=((HT.sD n n hi:Nat):Int)/\(C3 lo hi none n).2.2=1:=by
 refine⟨?_,?_,rfl⟩
 .cases lo with
  |none=>simp[C3,HT.sD]
  |some i=>
   simp only[C3,HT.sD,JF,if_true];by_cases h:i<0
   .simp only[h,if_true]<;>lia
   .simp only[h,if_false]<;>lia
 .cases hi with
  |none=>simp[C3,HT.sD]
  |some i=>
   simp only[C3,HT.sD,JF,if_true];by_cases h:i<0
   .simp only[h,if_true]<;>lia
   .simp only[h,if_false]<;>lia
theorem sx (t:List Aa)(lo hi:Option Int):HI t.toArray lo hi none=((t.drop (HT.sD t.length 0 lo)).take (HT.sD t.length t.length hi-HT.sD t.length 0 lo)).toArray:=by
 obtain⟨h1,h2,h⟩:=uR lo hi t.toArray.size;unfold HI;rw[h1,h2,h];simp only[sliceRange_one,pick_run]<;>rfl
def Ó (K:Ar):V->Option Int->Option Int->Hp->VK->Prop:=λx lo hi H Q=>∃a xs,x = .ref a/\eR K H a xs/\∀p,H p=none->Q (.ref p) (c8 H p (.lst (z9 xs lo hi)))
theorem Sn:Xk X (Ó X.K):=by
 intro pins s Y H x v L u lo hi g Q I c f pl p h;obtain⟨a,xs,rfl,e,q⟩:=h;cases c;obtain⟨t,r,ht,z⟩:=I.list e;have l:=r.length;refine⟨"list",_,Gi.lookup,ht.isList.typeIs,?_⟩;refine Hw ht.isList f pl p .none (by simp) ?_ (by rw[Aq]<;>lia);rw[sx,<- l];refine⟨.ref s.heap.objs.size,_,I.laid (t':=s.toks) (o:=.lst (z9 xs lo hi)) (λb ob q=>Af _ q) (Ak _) ?_,rfl,q _ (I.cY.fresh (Ak _))⟩;exact⟨BC (yb xs lo hi) z,_,0,(r.drop (HT.sD xs.length 0 lo)).take (HT.sD xs.length xs.length hi-HT.sD xs.length 0 lo),AA _ rfl⟩
noncomputable def U5:V->Bool
 | .cn=>true
 | .bl _=>true
 | .int _=>true
 | .str _=>true
 |_=>false
noncomputable def YV:V->V->Bool
 | .cn,.cn=>true
 | .bl a,.bl b=>a==b
 | .bl a,.int b=>(if a then 1 else 0)==b
 | .int a,.bl b=>a==(if b then 1 else 0)
 | .int a,.int b=>a==b
 | .str a,.str b=>a==b
 |_,_=>false
theorem z5 {A:AX}{s:Ae}{y x:V}{u v:Aa}(c:cv y u)(r:cv x v)(f:U5 y=true)(fx:U5 x=true):Hz A s u v (YV y x):=by
 cases y with
 |cn=>
  cases c
  cases x with
  |cn=>cases r;exact FC _
  |bl b=>cases r;exact Kw b
  |int b=>obtain⟨t,rfl⟩:=r;exact Kv b t
  |str b=>obtain⟨t,rfl⟩:=r;exact Ku b t
  |_=>exact absurd (show false=true from fx) AI
 |bl a=>
  cases c
  cases x with
  |cn=>cases r;exact KC a
  |bl b=>cases r;exact Gy a b
  |int b=>obtain⟨t,rfl⟩:=r;exact KD a b t
  |str b=>obtain⟨t,rfl⟩:=r;exact KA a b t
  |_=>exact absurd (show false=true from fx) AI
 |int a=>
  obtain⟨t',rfl⟩:=c
  cases x with
  |cn=>cases r;exact Kx a t'
  |bl b=>cases r;exact Kz a t' b
  |int b=>obtain⟨t,rfl⟩:=r;exact Ky a t' b t
  |str b=>obtain⟨t,rfl⟩:=r;exact GQ a t' b t
  |_=>exact absurd (show false=true from fx) AI
 |str a=>
  obtain⟨t',rfl⟩:=c
  cases x with
  |cn=>cases r;exact Ks a t'
  |bl b=>cases r;exact Kt a t' b
  |int b=>obtain⟨t,rfl⟩:=r;exact GO a t' b t
  |str b=>obtain⟨t,rfl⟩:=r;exact Kr a t' b t
  |_=>exact absurd (show false=true from fx) AI
 |_=>exact absurd (show false=true from f) AI
theorem aU:fT X (.builtin "len") (λxs H Q=>∃p ys,xs=[.ref p]/\(eR X.K H p ys∨jO X.K H p ys)/\Q (.int ys.length) H):=by
 intro pins s Y H xs us Q I r h;obtain⟨p,ys,rfl,c,q⟩:=h;obtain⟨u,rfl,f⟩:=iM r;cases f;have hn:=l0;rcases c with c |c
 .obtain ⟨t,e,pl,z⟩:=I.list c;have l:=e.length;exact Calls.call_len_list pl.isList (by simp only[Aq]<;>lia) ⟨.int ys.length,H,I.tok _,⟨s.toks+1,by rw[Aq,l]⟩,q⟩
 .obtain ⟨t,e,pl,z⟩:=I.tuple c;have l:=e.length;exact Ib pl (by simp only[Aq]<;>lia) ⟨.int ys.length,H,I.tok _,⟨s.toks+1,by rw[Aq,l]⟩,q⟩
theorem cG:fT X (.builtin "len") (λxs H Q=>∃z,xs=[.str z]/\z.length<=AH/\Q (.int z.length) H):=by
 intro pins s Y H xs us Q I r h;obtain⟨z,rfl,c,q⟩:=h;obtain⟨u,rfl,t,rfl⟩:=iM r;have hn:=l0;exact len_str (by lia) ⟨.int z.length,H,I.tok _,⟨_,rfl⟩,q⟩
theorem v9:fT X (.type "list") (λxs H Q=>∃p ys,xs=[.ref p]/\(eR X.K H p ys∨jO X.K H p ys)/\∀l,H l=none->Q (.ref l) (c8 H l (.lst ys))):=by
 intro pins s Y H xs us Q I r h;obtain⟨p,ys,rfl,f,q⟩:=h;obtain⟨u,rfl,j⟩:=iM r;cases j;have fin:∀(t:List Aa),bI ys t->ys.length<=AH->∀(h':Heap) (C:Nat),(∀b g,s.heap.get? b=some g->h'.get? b=some g)->
   h'.get? s.heap.objs.size=some {cls:=.type "list",dict:=none,data:=.seq t.toArray C,slots:=#[]}->EP X pins Y Q (.ref s.heap.objs.size) {s with heap:=h'}:=λt c z h' C k e=>
  ⟨.ref s.heap.objs.size,_,I.laid (t':=s.toks) k (Ak _) (show eo X.prog X.w _ h' _ (.lst ys) from⟨z,t,C,c,e⟩),rfl,q _ (I.cY.fresh (Ak _))⟩
 rcases f with f |f
 .obtain ⟨t,c,pl,z⟩:=I.list f;have L:=c.length;obtain⟨o,O,hc,n,hd⟩:=pl.isList;exact Ko p (.inl rfl) O hc hd (λh' C k e=>fin t c z h' C k e) (by simp only[Aq]<;>lia)
 .obtain ⟨t,c,pl,z⟩:=I.tuple f;have L:=c.length;obtain⟨o,O,hc,n,hd⟩:=pl;exact Ko p (.inr rfl) O hc hd (λh' C k e=>fin t c z h' C k e) (by simp only[Aq]<;>lia)
theorem sV:fT X (.type "tuple") (λxs H Q=>∃p ys,xs=[.ref p]/\((eR X.K H p ys/\∀l,H l=none->Q (.ref l) (c8 H l (.tup ys)))∨(jO X.K H p ys/\Q (.ref p) H))):=by
 intro pins s Y H xs us Q I r h;obtain⟨p,ys,rfl,h⟩:=h;obtain⟨u,rfl,j⟩:=iM r;cases j;rcases h with⟨f,q⟩ | ⟨f,q⟩
 .obtain ⟨t,c,pl,z⟩:=I.list f;have n:=c.length;refine call_tuple_list pl.isList (λh' k=>?_) (by simp only[Aq]<;>lia);have g:bA X pins Y H {s with heap:=h'}:=I.kept (t':=s.toks) k;have m:bA X pins Y (c8 H h'.objs.size (.tup ys)) {s with heap:=h'.push {cls:=.type "tuple",data:=.seq t.toArray}}:=
   g.laid (t':=s.toks) (λb o e=>Af _ e) (Ak _) (show eo X.prog X.w _ _ _ (.tup ys) from⟨z,t,c,JW _ _⟩)
  exact⟨.ref h'.objs.size,_,m,rfl,q _ (g.cY.fresh (Ak _))⟩
 .obtain ⟨t,c,pl,z⟩:=I.tuple f;exact call_tuple_same pl ⟨.ref p,H,I,rfl,q⟩
def Æ (K:Ar)(T:String)(x:V)(H:Hp):Prop:=match x with
 | .str _=>T = "str"
 | .int _=>T = "int"
 | .ref p=>(T = "list"/\∃xs,eR K H p xs)∨(T = "tuple"/\∃o,K.lookup p=some o/\o.cls = .type "tuple"/\o.dict=none)∨
   (T = "dict"/\((∃k,H p=some (.dK k))∨∃k,H p=some (.dT k)))∨(T = "set"/\∃S n,H p=some (.set S n))
 |_=>False
theorem OJ {pins:List (Ac×Co)}{Y:St}{H:Hp}{s:Ae}{T:String}{x:V}{v:Aa}(I:bA X pins Y H s)(r:cv x v)(ty:Æ X.K T x H):
  s.TypeIs v T/\∀a,v = .ref a->∃ob,s.heap.get? a=some ob/\ob.dict=none:=by
 cases x with
 |str z=>
  obtain⟨t,rfl⟩:=r
  cases (show T = "str" from ty)
  exact⟨IT s z t,λ_ e=>nomatch e⟩
 |int i=>
  obtain⟨t,rfl⟩:=r
  cases (show T = "int" from ty)
  exact⟨IU s i t,λ_ e=>nomatch e⟩
 |ref p =>
  cases r;rcases ty with⟨rfl,xs,q⟩ | ⟨rfl,o,h,hc,hd⟩ | ⟨rfl,h⟩ | ⟨rfl,S,n,h⟩
  .obtain ⟨g,_,pl,_⟩:=I.list q;refine⟨pl.isList.typeIs,λa e=>?_⟩;cases e;obtain⟨o,n,e,c,hd,_⟩:=pl;exact⟨o,e,hd⟩
  .refine ⟨⟨o,I.kZ p o h,hc⟩,λa e=>?_⟩;cases e;exact⟨o,I.kZ _ o h,hd⟩
  .have z:∃o,s.heap.get? p=some o/\o.ExactDict:=by
    rcases h with⟨k,h⟩ | ⟨k,h⟩
    .obtain ⟨_,_,_,_,o,_,_,e,ex,_⟩:=I.cY p _ h;exact⟨o,e,ex⟩
    .obtain ⟨_,_,_,_,o,_,_,e,ex,_⟩:=I.cY p _ h;exact⟨o,e,ex⟩
   obtain⟨o,e,ex⟩:=z;refine⟨⟨o,e,ex.1⟩,λa f=>?_⟩;cases f;exact⟨o,e,ex.2.1⟩
  .obtain ⟨o,_,_,_,e,ex,_⟩:=I.cY p _ h;refine⟨⟨o,e,ex.1⟩,λa f=>?_⟩;cases f;exact⟨o,e,ex.2.1⟩
 |_=>exact A_ ty
def Sh (K:Ar)(T:String)(r:V->List V->Hp->VK->Prop)(t:TE):TE:=λY H Q=>t Y H λx c=>Æ K T x c/\r x [] c Q
def Us (K:Ar)(T:String)(r:V->List V->Hp->VK->Prop)(o:TE)(t:TA):TE:=λY H Q=>o Y H λx c=>Æ K T x c/\t Y c λxs e=>r x xs e Q
variable {o e:Expr}{es:List Expr}{to:TE}{t:TA}{name:Am}{apos rX:DR}{T id:String}{r:V->List V->Hp->VK->Prop}
theorem zt (p:Lp T)(slot:Lo T name id)(c:Lb (.builtin id)=pure (.type "method_descriptor"))(m:Zv X id r)(O:PE X o to)
  (B:FV o name X.env (eval o X.env)=eval o X.env:=by rfl) (l:(apos.endLine==rX.line)=true:=by rfl):PE X (.Call (.Attribute o name apos) [] [] rX) (Sh X.K T r to):=by
 intro pins s Y H Q I h;refine wpAny_Call_method0_late B l (cK (O pins s Y H _ I h) λv j z=>?_);obtain⟨x,k,g,f,ty,q⟩:=z;obtain⟨h1,h2⟩:=OJ g f ty;exact⟨T,id,p,slot,c,h1,h2,GZ rfl (PySem.evalArgs_none (m pins j Y k x [] v [] Q g f .nil q))⟩
theorem fo (w:Lp T)(slot:Lo T name id)(c:Lb (.builtin id)=pure (.type "method_descriptor"))(M:Zv X id r)(O:PE X o to)(G:PA X (e::es) t)
  (B:FV o name X.env (eval o X.env)=eval o X.env:=by rfl)
  (f:((BY rX (Av (e::es) X.env)).all (λx => !x.1) && (Gm rX (ES [] X.env)).all (λx=>x.1.isSome)
   && decide ((e::es).length+([]:List KO).length+(if ([]:List KO).isEmpty then 0 else 1)<30))=true:=by rfl)
  (l:(apos.endLine==rX.line)=true:=by rfl) (C:Av (e::es) X.env=(false,eval e X.env)::Av es X.env:=by rfl) (p:(BY rX (Av es X.env)).any (·.1)=false:=by rfl):
  PE X (.Call (.Attribute o name apos) (e::es) [] rX) (Us X.K T r to t):=by
 intro pins s Y H Q I h;refine wpAny_Call_method_late B f l rfl (cK (O pins s Y H _ I h) λv m z=>?_);obtain⟨x,U,j,g,ty,u⟩:=z;obtain⟨h1,h2⟩:=OJ j g ty;refine⟨T,id,w,slot,c,h1,h2,?_⟩;have A:=G rX pins m Y U _ j u;rw[C]at A ⊢;refine GZ (by show (false || (BY rX (Av es X.env)).any (·.1))=false;rw[p]<;>rfl) (Hf ?_);refine cK A λus k z=>?_
 obtain⟨vs,L,J,n,q⟩:=z;exact M pins k Y L x vs v us Q J g n q
end
def Z_ (X:Cx)(id:String)(r:V->List V->Hp->VK->Prop):Prop:=
 ∀(pins:List (Ac×Co)) (s:Ae) (Y:St) (H:Hp) (x:V) (xs:List V) (v:Aa) (us:List Aa) (Q:VK),bA X pins Y H s->cv x v->bI xs us->r x xs H Q->
  AJ (model X.prog X.w) X.A (call (.builtin id) (v::us)) (EP X pins Y Q) X.xe s
theorem bI.one:∀{x:V} {us:List Aa},bI [x] us->∃u,us=[u]/\cv x u
 |_,_,.cons r .nil=>⟨_,rfl,r⟩
theorem bI.zero:∀{us:List Aa},bI [] us->us=[]
 |_,.nil=>rfl
theorem bI.dropLast {xs:List V}{us:List Aa}(h:bI xs us):bI xs.dropLast us.dropLast:=by
 induction h with
 |nil=>exact .nil
 |cons r t a=>
  cases t with
  |nil=>exact .nil
  |cons q t'=>exact .cons r a
theorem bI.rep {xs:List V}{us:List Aa}(h:bI xs us):∀k:Nat,bI (Aw k xs).flatten (Aw k us).flatten
 | 0=>.nil
 |k+1=>by
  exact bI.append h (bI.rep h k)
theorem z0 {c:Type}(l:List c):l.eraseIdx (l.length-1)=l.dropLast:=by
 induction l with
 |nil=>rfl
 |cons a r h=>
  cases r with
  |nil=>rfl
  |cons b r=>
   have e:(a::b::r).length-1=((b::r).length-1)+1:=by
    have h1:(a::b::r).length=r.length+2:=rfl;have h2:(b::r).length=r.length+1:=rfl;lia
   rw[e,List.eraseIdx_cons_succ,h]
   all_goals rfl
theorem uo (t:List Aa):∀(k:Nat) (a:List Aa),
  HU (λf c=>f++c) a.toArray (Aw k t.toArray)=(a++(Aw k t).flatten).toArray
 | 0,a=>by simp
 |k + 1,a=>by
  have e:a.toArray++t.toArray=(a++t).toArray:=by simp
  have g:(a++t)++(Aw k t).flatten=a++(Aw (k+1) t).flatten:=by
   rw[Fu,Ie,BL]
  rw[<- g,<- uo t k (a++t),<- e,Fu,Ce]
section
variable {X:Cx}{pins:List (Ac×Co)}{Y:St}{H:Hp}{s:Ae}{l b:Ac}{xs ys zs:List V}
theorem bA.Wj {t its':List Aa}{n:Nat}{f:Array Aa->Array Aa}{t':Nat}(I:bA X pins Y H s)(a:H l=some (.lst xs))
  (e:s.heap.get? l=some {cls:=.type "list",data:=.seq t.toArray n}) (hf:f t.toArray=its'.toArray) (v:bI ys its') (h:ys.length<=AH):
  bA X pins Y (c8 H l (.lst ys)) {s with heap:=s.heap.update l (CF f),toks:=t'}:=by
 have q:=PySem.IsL.update e f;rw[hf]at q;refine I.write (by rw[a];exact trivial) (.inl rfl) (λc u B U=>(Cc s.heap (CF f) (Bm B)).trans U) ⟨_,q⟩ ?_;exact⟨h,its',_,v,q⟩
theorem bA.Wl {t:List Aa}{t':Nat}(I:bA X pins Y H s)(v:bI ys t)(h:ys.length<=AH):
  bA X pins Y (c8 H s.heap.objs.size (.lst ys)) {s with heap:=s.heap.push {cls:=.type "list",data:=.seq t.toArray},toks:=t'}:=
 I.laid (λ_ _ q=>Af _ q) (Ak _) ⟨h,t,0,v,AA _ rfl⟩
theorem bA.fresh (I:bA X pins Y H s):H s.heap.objs.size=none:=I.cY.fresh (Ak _)
theorem bA.QV (I:bA X pins Y H s)(h:H l=some (.lst xs)):xs.length<=AH/\∃(t:List Aa) (n:Nat),bI xs t/\xs.length=t.length/\s.heap.get? l=some {cls:=.type "list",data:=.seq t.toArray n}:=by
 obtain⟨z,t,n,r,e⟩:=I.cY l _ h;exact⟨z,t,n,r,r.length,e⟩
theorem xI {n:Nat}(h:n<=AH):Ci n=false:=by
 exact decide_eq_false (by lia)
end
section
variable {X:Cx}
def pK:V->List V->Hp->VK->Prop:=λx vs H Q=>∃l xs y,x = .ref l/\vs=[y]/\H l=some (.lst xs)/\xs.length<AH/\Q .cn (c8 H l (.lst (xs++[y])))
theorem cM:Z_ X "list.append" pK:=by
 intro pins s Y H x vs v us Q I c f h;obtain⟨l,xs,y,rfl,rfl,a,g,q⟩:=h;cases c;obtain⟨u,rfl,U⟩:=f.one;obtain⟨z,t,n,r,hl,e⟩:=I.QV a;refine Fh F.slot_list_append ⟨_,e,rfl⟩ F.entry_list_append (F.args_list_append_2 _ _) (PySem.list_append l t.toArray n u (by rw[Aq];lia)) ⟨e,?_⟩;refine⟨.cn,_,I.Wj (its':=t++[u]) a e (by simp) (r.append (.cons U .nil)) ?_,rfl,q⟩;rw[AG,BI];lia
def VU:V->List V->Hp->VK->Prop:=λx vs H Q=>∃l xs y,x = .ref l/\vs=[]/\H l=some (.lst xs)/\xs[xs.length-1]?=some y/\Q y (c8 H l (.lst xs.dropLast))
theorem QR:Z_ X "list.pop" VU:=by
 intro pins s Y H x vs v us Q I f g h;obtain⟨l,xs,y,rfl,rfl,c,k,q⟩:=h;cases f;have U:=g.zero;subst U;obtain⟨z,t,n,r,hl,e⟩:=I.QV c;obtain⟨u,m,j⟩:=r.get k;have a:t.toArray[t.toArray.size-1]?=some u:=by
  show t.toArray[t.length-1]?=some u
  rw[<- Ha,<- hl];exact m
 refine Fh F.slot_list_pop ⟨_,e,rfl⟩ F.entry_list_pop (F.args_list_pop_1 _) (K4 l t.toArray n u a (by rw[Aq];lia)) ⟨e,?_⟩;refine⟨y,_,I.Wj (its':=t.dropLast) c e ?_ r.dropLast ?_,j,q⟩
 .rw [Aq,List.eraseIdxIfInBounds_toArray,z0]
 .rw [List.length_dropLast];lia
def X':R2:=λx y H Q=>∃l k xs,x = .ref l/\y = .int k/\H l=some (.lst xs)/\-(2^63)<=k/\k<2^63/\xs.length*k.toNat<=AH/\
 ∀p,H p=none->Q (.ref p) (c8 H p (.lst (Aw k.toNat xs).flatten))
theorem Ti {a:Type}(xs:List a)(k:Nat):(Aw k xs).flatten.length=k*xs.length:=by
 induction k with
 |zero=>simp
 |succ k h=>rw[Fu,Ie,AG,h,JG,JI]
theorem QA:k_ X (Cs .Mult) X':=by
 intro pins s Y H x y v u Q I C B h;obtain⟨l,k,xs,rfl,rfl,G,h1,h2,A,q⟩:=h;cases C;obtain⟨t,rfl⟩:=B;obtain⟨z,c,n,r,hl,e⟩:=I.QV G;have L:c.toArray.size*k.toNat<=AH:=by rw[Aq,<- hl];exact A
 have p:¬ c.toArray.size*k.toNat > (2^63-1) / 8:=by
  have:(AH:Nat)<=(2^63-1) / 8:=by decide
  lia
 have f:¬ (!Builtin.List.listFitsIndex k)=true:=by
  rw[fitsIndex_both h1 h2];exact AI
 have o:¬ Ci (c.toArray.size*k.toNat)=true:=by
  rw[xI L];exact AI
 have w:HU (λj g=>j++g) #[] (Aw (if c.toArray.isEmpty=true then 0 else k.toNat) c.toArray)=(Aw k.toNat c).flatten.toArray:=by
  have J:∀m:Nat,HU (λj g=>j++g) #[] (Aw m c.toArray)=(Aw m c).flatten.toArray:=λm=>by
   have:=uo c m [];exact this
  rw[J]
  cases c with
  |nil=>simp
  |cons a M=>rw[if_neg (by simp)]
 refine wpAny_binaryOp_repeat_ref (T := "list") (U := "int") rfl ⟨_,e,rfl⟩ (λs'=>IU s' k t) noFill_list_mul F.fills_int_mul F.slot_int_rmul repeat_list F.slot_int_index.lookup
  (Fh F.slot_int_rmul (IU s k t) F.entry_int_rmul (F.args_int_rmul_2 _ _) (int___rmul___int_list k t l c.toArray n)
   ⟨e,rfl,⟨_,e,rfl⟩,Fh F.slot_list_mul ⟨_,e,rfl⟩ F.entry_list_mul (F.args_list_mul_2 _ _) (KQ l c.toArray n k t f p o) ⟨e,?_⟩⟩)
 rw[w];exact⟨.ref _,_,I.Wl (t':=s.toks) (r.rep k.toNat) (by rw[Ti,Dv];exact A),rfl,q _ I.fresh⟩
end
section
variable {prog:AE}{w:AU}{A:AX}{E:Aa->Ae->Prop}{s:Ae}
set_option maxRecDepth 100000 in
end
section
variable {X:Cx}
end
end L2
namespace Att
open PySem PySem.W PySem.Calls PyProof.Rows
theorem pw {P:J_}{h:Heap}:∀(ns:List Int) (vs:List Aa),WellAll P h vs (ns.map H_)->EB vs ns:=by
 intro ns
 induction ns with
 |nil=>
  intro vs w;cases w;exact .nil
 |cons n ns c=>
  intro vs w
  cases w with
  |cons a b=>
   cases a;exact .cons _ _ (c _ b)
theorem tM {l:Jp}{n:Nat}(hn:l.most=some n){P:J_}{h:Heap}{args:List WData}{vals:List Aa}
  (p:l.row.toRowW.claim.pre args=true) (w:WellAll P h vals args):
  ∃a vs ns,vals=[Bj a]/\args=[JC (ns.map H_)]/\h.get? a=some {cls:=.type "list",data:=.seq vs.toArray}/\EB vs ns/\ns.length<=n:=by
 have f:WShape.hasAll [] args [.list .int]=true:=(Li p).1;have hc:l.pre.holds [] {args:=args}=true:=(Li p).2;obtain⟨d,r,rfl,h1,h2⟩:=hasAllW_cons f;obtain rfl:=hasAllW_nil h2;obtain⟨xs,rfl,m⟩:=hasW_list h1;obtain⟨ns,rfl⟩:=items_int m;have e:ns.length<=n:=by
  have c:(WTm.not (.lt (.lit (.int (n:Int))) (.len (.arg 0)))).holds [] {args:=[.list (ns.map .int)]}=true:=by
   have c:=(holds_andW hc).1;rw[hn]at c;exact c
  have g:=condW_of c (w_not (w_lt w_lit (w_len_list (w_arg rfl))));refine Nat.le_of_not_lt λq=>?_
  first
   | (rw[decide_eq_true Q]at g;exact absurd g rfl)
   | (simp at g;lia)
 cases w with
 |cons k j=>
  cases j
  cases k with
  |list o A=>exact⟨_,_,ns,rfl,rfl,o,pw ns _ A,e⟩
theorem tW (l:Jp)(args:List WData):l.row.toRowW.claim.post args (.bool true) args=true:=
 postW_of (X:=(true==true))
  (show WShape.has [] (.bool true) .bool=true by first |rfl |decide |simp[ WShape.armsAll])
  (show (WTm.eq .res (.lit (.bool true))).value [] {args:=args,res:=some (.bool true),after:=args}=some (.bool (true==true)) from w_eq_bool (w_res rfl) w_lit) rfl
theorem yr {l:Jp}{n:Nat}{q:AE}{e:List Am}{B:(Am->Option Aa)->Heap->Prop}{z:AU->Heap->Prop}{d:Kc}
  (hn:l.most=some n) (t:d.params.defaults=[])
  (call:∀(w:AU) (s₀ c:Ae) (m M:Am->Option Aa) (A:Ac) (o:Co) (pm cd O:Aa) (a:Ac) (vs:List Aa) (ns:List Int),
   Ground q e [] B w s₀ m M c.heap->z w c.heap->
   c.heap.get? A=some o->o.data = .func (docDef d.name d.params d.body d.scope pm cd O)->c.heap.CodeRec cd d.name->m d.name=some (.ref A)->
   c.heap.get? a=some {cls:=.type "list",data:=.seq vs.toArray}->EB vs ns->ns.length<=n->c.gens=#[]->
   Cw (model l.prog w) Dn (.call (.ref A) ⟨[.ref a],[]⟩) (λr s'=>r = .ok (.ret (.bool true))/\KN c.heap s'.heap/\s'.os=c.os/\Db s'.gens) c):
  WalkO q e B z l.row.toRowW d [] (λf vs=>PySem.call f vs):=by
 intro w s₀ c m M G J A o pm cd O dV kV U hd C v k hg args vals as p u Q g ύ;obtain rfl:dV = .none:=JD v t;obtain rfl:kV = .none:=JE v;obtain⟨a,vs,ns,rfl,rfl,j,h,L⟩:=tM hn p g;refine Ll (Cj (call w s₀ c m M A o pm cd O a vs ns G J U (fd_plain hd) C k j h L hg) λr s' T=>?_);obtain⟨rfl,h2,h3,h4⟩:=T;exact⟨.inl ⟨.bool true,.bool true,[],rfl,λ_=>rfl,.bool true,tW l _,λ_=>⟨GC,λ_ hm=>(nomatch hm)⟩⟩,h2,h3,h4⟩
section
variable {prog:AE}{w:AU}{A:AX}{E:Aa->Ae->Prop}{s:Ae}{K:Ar}
end
end Att
namespace L2
open PySem PySem.Spec PyProof.Rows
theorem nH:∀{vs:List Aa} {ns:List Int},EB vs ns->bI (ns.map V.int) vs
 |_,_,.nil=>.nil
 |_,_,.cons n t h=>.cons ⟨t,rfl⟩ (nH h)
def Xm (H:Hp):Prop:=∀b,H b=none∨∃o xs,H b=some (.fC o (.lst xs))
theorem Q0 {P:AE}{w:AU}{K:Ar}{M mb:Am->Option Aa}{CX:MZ}{k:Nat}{fa a:Ac}{fd:Ag}{x:Am}{sp:Sp}{c:Ae}{vs:List Aa}{ns:List Int}
  (KX:K.In c.heap) (t:c.heap.Ns Ai M) (B:c.heap.Ns Fi mb) (ö:∀x:Am,x ≠ "__name__"->mb x=DJ x) (A:c.heap.NoLimit) (hg:c.gens=#[])
  (T:c.heap.get? a=some {cls:=.type "list",data:=.seq vs.toArray}) (hi:EB vs ns) (hl:ns.length<=AH) (hr:cJ k Dn)
  (F:∀base:Heap,K.In base->base.Ns Ai M->fE P w K M base CX k fa fd [x] sp) (j:∀(s:Ae) (u:Aa),FL s fd ⟨[u],[]⟩ [(x,u)])
  (YE:∀H:Hp,Xm H->eR K H a (ns.map V.int)->sp [.ref a] H (λv _=>v = .bl true) λ_ _ _=>False)
  (ϲ:∀H e s',CX [] H c (λ_ _ _=>False) e s'->False):
  Cw (model P w) Dn (.call (.ref fa) ⟨[.ref a],[]⟩) (λr s'=>r = .ok (.ret (.bool true))/\KN c.heap s'.heap/\s'.os=c.os/\Db s'.gens) c:=by
 have rv:=nH hi;have L:=hi.length;have core : ∀H:Hp,Xm H->eR K H a (ns.map V.int)->kK P w H c.heap->(∀b,H b≠none->b=a)->(H a≠none->K.lookup a=none)->
   Cw (model P w) Dn (.call (.ref fa) ⟨[.ref a],[]⟩) (λr s'=>r = .ok (.ret (.bool true))/\KN c.heap s'.heap/\s'.os=c.os/\Db s'.gens) c:=by
  intro H hO hS p hA hK;have f:∀{b:Ac} {o:Co},c.heap.get? b=some o->H b=none->(m5 c.heap H).get? b=some o:=λe n=>m4 e n
  have U:∀{b:Ac} {o:Co} {G:Array DictEntry} {J:Nat},c.heap.get? b=some o->o.data = .dict G J->H b=none:=λ{b o G J} e d=>by
   cases q:H b with
   |none=>rfl
   |some u=>
    have e':b=a:=hA b (by rw[q];simp);subst e';rw[T]at e;cases e;have d':Data.seq vs.toArray _=Data.dict G J:=d;cases d'
  have g:∀{b:Ac} {m:Am->Option Aa},c.heap.Ns b m->(m5 c.heap H).Ns b m:=λ{b m} ⟨o,G,J,e,d,r⟩=>⟨o,G,J,f e (U e d),d,r⟩
  have C:K.In (m5 c.heap H):=λb o e=>f (KX b o e) (by
   cases q:H b with
   |none=>rfl
   |some u=>
    have e':b=a:=hA b (by rw[q];simp);subst e';rw[hK (by rw[q];simp)]at e;cases e)
  have hM:Mod K M (m5 c.heap H):=⟨C,g t,⟨mb,g B,ö⟩,let⟨mc,h1,h2⟩:=A;⟨mc,g h1,h2⟩⟩
  have e0:lr P w K M (m5 c.heap H) Dn [] c H:=⟨rfl,hM,λb o e=>Mi e,ID (ug _ _),trivial,λb B=>absurd (show b∈([]:List Ac) from B) (by simp),p,.of_eq hg⟩
  refine Cj ((F _ C (g t)).run Dn [] c H ⟨[.ref a],[]⟩ [.ref a] [.ref a] _ _ hr e0 (j c (.ref a)) (.cons rfl .nil) (YE H hO hS)) λr s' h=>?_
  cases r with
  |error e=>exact (ϲ H e s' h).elim
  |ok fl =>
   cases fl with
   |next=>exact A_ h
   |brk=>exact A_ h
   |cont=>exact A_ h
   |ret u=>
    obtain⟨v,H',os,Q,un,O,r',q⟩:=h;have q':v = .bl true:=q;subst q';obtain rfl:u=Fw true:=r';refine⟨rfl,OldK.of_keep λb o e=>?_,os,Q⟩
    cases q:H b with
    |none=>exact un.keep b o e q (by intro z;exact absurd (show b∈([]:List Ac) from z) (by simp)) (by simp)
    |some u=>
     rcases hO b with z | ⟨ob,xs,z⟩
     .rw [q]at z;cases z
     .have z2:=un.kE b ob _ z;obtain⟨e1,_⟩:=p b _ z;obtain⟨e2,_⟩:=O b _ z2;rw[e]at e1;cases e1;exact e2
 cases hk:K.lookup a with
 |some o=>
  have e:=KX a o hk;rw[T]at e;cases e;refine core (λ_=>none) (λ_=>.inl rfl) (.inr ⟨_,vs.toArray,_,hk,rfl,rfl,rfl,by rw[Aq,L];exact hl,rv⟩) (λb u z=>by have l:(none:Option HO)=some u:=z;cases l) (λb z=>absurd rfl z) λz=>absurd rfl z
 |none=>
  refine core (λb=>if b=a then some (.fC {cls:=.type "list",data:=.seq vs.toArray} (.lst (ns.map V.int))) else none) (λb=>?_) (.inl (.inr ⟨{cls:=.type "list",data:=.seq vs.toArray},if_pos rfl⟩)) (λb u z=>?_) (λb z=>?_) λ_=>hk
  .by_cases B:b=a
   .exact .inr ⟨_,_,if_pos B⟩
   .exact .inl (if_neg B)
  .by_cases B:b=a
   .have l:=(if_pos B).symm.trans z;cases l;subst B;exact⟨T,by rw[Ay];exact hl,vs,_,rv,T⟩
   .have l:=(if_neg B).symm.trans z;cases l
  .by_cases B:b=a
   .exact B
   .exact absurd (if_neg B) z
theorem ZI {l:PySem.W.OpenLaw}{n k:Nat}{q:AE}{O:List Am}{XP:(Am->Option Aa)->Heap->Prop}{B:AU->Heap->Prop}{d:Kc}{K:J_->Ar}{Q:AU->MZ}{sp:AU->Sp}{x:Am}
  (hn:l.most=some n) (r:n<=AH) (z:d.params.defaults=[]) (hr:cJ k Dn)
  (hY:∀(w:AU) (h:Heap),B w h->(K w.params).In h)
  (F:∀(w:AU) (m:Am->Option Aa) (A:Ac) (h:Heap),(K w.params).In h->h.Ns Ai m->m d.name=some (.ref A)->
   ∃fd:Ag,(∀(s:Ae) (u:Aa),FL s fd ⟨[u],[]⟩ [(x,u)])/\
    ∀base:Heap,(K w.params).In base->base.Ns Ai m->fE l.prog w (K w.params) m base (Q w) k A fd [x] (sp w))
  (p:∀(w:AU) (H:Hp) (a:Ac) (ns:List Int),ns.length<=n->Xm H->eR (K w.params) H a (ns.map V.int)->sp w [.ref a] H (λv _=>v = .bl true) λ_ _ _=>False)
  (C:∀(w:AU) (H:Hp) (s:Ae) (e:Aa) (s':Ae),Q w [] H s (λ_ _ _=>False) e s'->False):
  PySem.W.WalkO q O XP B l.row.toRowW d [] (λf vs=>PySem.call f vs):=by
 refine Att.yr hn z λw s₀ c m mb A o pm cd doc a vs ns G U ho hd ZV M j t L hg=>?_
 have J:=hY w _ U;obtain⟨fd,hb,hF⟩:=F w m A _ J G.T.g M;exact Q0 J G.T.g G.T.b G.T.builtins G.T.nolimit hg j t (BC L r) hr hF hb (λH hO hS=>p w H a ns L hO hS) λH e s'=>C w H c e s'
noncomputable def dv (s:AW)(j:Nat):AW:=match s with
 | .ClassDef _ _ _ body _ _ _ _ _ _ _=>body.getD j (.Pass ⟨0,0,0,0⟩)
 |_=>.Pass ⟨0,0,0,0⟩
noncomputable def bZ (s:AW):HR:=match s with
 | .FunctionDef _ a _ _ _ _ _ _ _ _=>a
 |_=>{posonlyargs:=[],args:=[],vararg:=none,kwonlyargs:=[],kw_defaults:=[],kwarg:=none,defaults:=[]}
noncomputable def bx (s:AW):List AW:=match s with
 | .FunctionDef _ _ b _ _ _ _ _ _ _=>b
 |_=>[]
noncomputable def aA (s:AW):Ck:=match s with
 | .FunctionDef _ _ _ _ _ _ sc _ _ _=>sc
 |_=>{kind:=.function,names:=[],isGenerator:=false,isCoroutine:=false}
abbrev l':MZ:=λ_ _ _ _ _ _=>False
abbrev E0:XK:=λ_ _ _=>False
theorem xv {X:Cx}:l_ l' X E0:=λ_ _ _ _ _ _ _ h=>h.elim
structure N7 (K:Ar) (x qual:Am) (st:AW) (f:Ac) (fd:Ag):Prop where
 ex:∃(oc:Aa) (od:Option Ac) (kV doc pm:Aa) (an:Option Ac) (XE ct:Aa) (Yg:Array (Option Aa)),
  fd=Ep x qual (bZ st) (bx st) (aA st) .none kV doc pm an XE ct/\K.lookup f=some ⟨oc,od,.func fd,Yg⟩/\F6 K XE qual=true
 kp:D_ K (.ref f)=true
section
variable {P:AE}{w:AU}{K:Ar}{mg:Am->Option Aa}{base:Heap}
theorem N7.ok {x u:Am}{st:AW}{f:Ac}{fd:Ag}{N ps:List Am}{k:Nat}{sp:Sp}(F:N7 K x u st f fd)(S:aN N ps (aA st))(len:∀vs H Q E,sp vs H Q E->vs.length=ps.length)
  (o:∀(c:Aa) (A:AX) (outer:List EJ) (s:Ae) (H:Hp) (vs:List V) (Q:VK) (E:XK),cJ k (A.deeper (BG u (aA st) s.heap.objs.size f c))->sp vs H Q E->
   ∃t,PSs (eH l' P w K mg base N u (aA st) f c A outer s H E).pP (bx st) t/\t {nx:=λ_ a=>Q .cn a,rt:=Q} (start N vs) H):fE P w K mg base l' (k+1) f fd ps sp:=by
 obtain⟨g,e,kV,O,pm,n,c,ct,l,rfl,lk,C⟩:=F.ex;refine ME lk C S len λA outer s H vs Q E r p=>?_
 obtain⟨t,h,q⟩:=o c A outer s H vs Q E r p;exact⟨t,h.pP,q⟩
theorem N7.binds {x q:Am}{st:AW}{f:Ac}{fd:Ag}{ps:List Am}(F:N7 K x q st f fd)
  (h:∀(kV o pm:Aa) (a:Option Ac) (c ct:Aa) (us:List Aa),us.length=ps.length->Cr (Ep x q (bZ st) (bx st) (aA st) .none kV o pm a c ct) ⟨us,[]⟩=pure (ps.zip us)):gf K fd ps []:=by
 obtain⟨e,O,kV,o,pm,a,c,ct,l,rfl,lk,C⟩:=F.ex;exact .all (h kV o pm a c ct)
theorem zZ {x q:Am}{st:AW}{f:Ac}{C:Aa}{e a:Option Ac}{O:Array (Option Aa)}{kV o pm v ct:Aa}(l:K.lookup f=some ⟨C,e,.func (Ep x q (bZ st) (bx st) (aA st) .none kV o pm a v ct),O⟩)
  (c:F6 K v q=true) (k:D_ K (.ref f)=true):N7 K x q st f (Ep x q (bZ st) (bx st) (aA st) .none kV o pm a v ct):=⟨⟨C,e,kV,o,pm,a,v,ct,O,rfl,l,c⟩,k⟩
end
section
variable {X:Cx}
theorem pv (i:Nat){x:Am}{pos:DR}(hN:X.N[i]?=some x:=by rfl)(v:XG X.env.scope x:=by first |exact Ap rfl |exact FM (Ap rfl) |exact FM (FM rfl))(hd:(x==("__debug__":Am))=false:=by decide)
  (h:(x==("__classdict__":Am))=false:=by decide):PE X (.Name x pos) (eT i):=V5 hN v hd h
end
theorem à {A B:Prop}(h:B):if false=true then A else B:=by
 rw[if_neg AI];exact h
theorem vU {A B:Prop}(h:A):if true=true then A else B:=by
 rw[if_pos rfl];exact h
def a6 (H a:Hp):Prop:=∀b o,H b=some o->a b=some o
theorem a6.refl (H:Hp):a6 H H:=λ_ _ h=>h
theorem a6.trans {H f e:Hp}(a:a6 H f)(b:a6 f e):a6 H e:=λc o h=>b c o (a c o h)
theorem a6.free {H a:Hp}(e:a6 H a){l:Ac}(h:a l=Je):H l=Je:=by
 cases q:H l with
 |none=>rfl
 |some o=>
  rw[e l o q]at h;cases h
theorem a6.seq {K:Ar}{H c:Hp}{a:Ac}{xs:List V}(e:a6 H c)(h:eR K H a xs):eR K c a xs:=by
 rcases h with (h | ⟨o,h⟩) |h
 .exact .inl (.inl (e _ _ h))
 .exact .inl (.inr ⟨o,e _ _ h⟩)
 .exact .inr h
end L2
set_option maxHeartbeats 4000000
namespace L2
open PySem PySem.Spec PyProof.Rows
structure bG (K:Ar) (mg:Am->Option Aa) (x:Am) (st:AW) (f:Ac) (fd:Ag):Prop where
 fn:N7 K x x st f fd
 here:mg x=some (.ref f)
structure bO (P:AE) (w:AU) (K:Ar) (mg:Am->Option Aa) (base:Heap) (x:Am) (k:Nat) (ps:List Am) (sp:Sp):Prop where
 ex:∃f fd,fE P w K mg base l' k f fd ps sp/\mg x=some (.ref f)/\D_ K (.ref f)=true/\gf K fd ps []
theorem bO.of {P:AE}{w:AU}{K:Ar}{m:Am->Option Aa}{base:Heap}{x:Am}{st:AW}{f:Ac}{fd:Ag}{N ps:List Am}{k:Nat}{sp:Sp}(D:bG K m x st f fd)(S:aN N ps (aA st))
  (B:∀(kV o pm:Aa) (a:Option Ac) (c ct:Aa) (us:List Aa),us.length=ps.length->Cr (Ep x x (bZ st) (bx st) (aA st) .none kV o pm a c ct) ⟨us,[]⟩=pure (ps.zip us))
  (len:∀vs H Q E,sp vs H Q E->vs.length=ps.length)
  (h:∀(c:Aa) (A:AX) (outer:List EJ) (s:Ae) (H:Hp) (vs:List V) (Q:VK) (E:XK),cJ k (A.deeper (BG x (aA st) s.heap.objs.size f c))->sp vs H Q E->
   ∃t,PSs (eH l' P w K m base N x (aA st) f c A outer s H E).pP (bx st) t/\t {nx:=λ_ e=>Q .cn e,rt:=Q} (start N vs) H):bO P w K m base x (k+1) ps sp:=
 ⟨f,fd,D.fn.ok S len h,D.here,D.fn.kp,D.fn.binds B⟩
theorem aQ (C:bO X.prog X.w X.K X.mg X.base x k ps sp)(r:cJ k X.A)(hg:Gl X x)(l:PA X (e::a) t)
  (B:(x==("__debug__":Am))=false:=by decide) (g:Av (e::a) X.env=(false,eval e X.env)::Av a X.env:=by rfl) (h:(BY pos (Av a X.env)).any (·.1)=false:=by rfl):
  PE X (.Call (.Name x p) (e::a) [] pos) (qc sp [] E0 t):=by
 obtain⟨f,fd,F,m,c,j⟩:=C.ex;exact S0 F r hg m c j .nil xv l B g h
def Xu (n:Nat)(R:List V->Hp->VK->Prop):Sp:=λvs H Q _=>vs.length=n/\R vs H Q
structure Blt (mg:Am->Option Aa):Prop where
 len:mg "len"=none
 range:mg "range"=none
 max:mg "max"=none
 min:mg "min"=none
 isinstance:mg "isinstance"=none
 int:mg "int"=none
 bool:mg "bool"=none
 tuple:mg "tuple"=none
 list:mg "list"=none
 all:mg "all"=none
 zip:mg "zip"=none
 reversed:mg "reversed"=none
theorem a6.new (h:H p=none): a6 H (c8 H p o):=λb u e=>by rw[bM (fB e h)];exact e
section
variable {X:Cx}{e:Expr}{es:List Expr}{te:TE}{t:TA}{pos:DR}
def Uk (t:TA):TE:=λY H Q=>t Y H λxs c=>xs.length<=AH/\∀p a,c p=none->a6 c a->a p=some (.tup xs)->Q (.ref p) a
def Ur (t:TA):TE:=λY H Q=>t Y H λxs c=>xs.length<=AH/\∀p a,c p=none->a6 c a->a p=some (.lst xs)->Q (.ref p) a
theorem bH {j}(h:PA X es t): PE X (.Tuple es j pos) (Uk t):=by
 intro pins s Y H Q I k;refine wpAny_Tuple_spliced (cK (h pos pins s Y H _ I k) λus a g=>?_);obtain⟨xs,f,c,r,z,q⟩:=g;refine⟨by rw[<- r.length];exact z,?_⟩;have hf:f a.heap.objs.size=none:=c.cY.fresh (Ak _);refine⟨.ref a.heap.objs.size,c8 f a.heap.objs.size (.tup xs),c.laid (t':=a.toks) (λb u e=>Af _ e) (Ak _) ?_,rfl,q _ _ hf (a6.new hf) a9⟩;exact⟨z,us,r,⟨_,AA _ rfl,rfl,_,rfl⟩⟩
theorem cC (h:PA X es t): PE X (.List es pos) (Ur t):=by
 intro pins s Y H Q I j;refine wpAny_List_spliced (cK (h pos pins s Y H _ I j) λus a g=>?_);obtain⟨xs,f,c,r,z,q⟩:=g;refine⟨by rw[<- r.length];exact z,?_⟩;have hf:f a.heap.objs.size=none:=c.cY.fresh (Ak _);refine⟨.ref a.heap.objs.size,c8 f a.heap.objs.size (.lst xs),c.laid (t':=a.toks) (λb u e=>Af _ e) (Ak _) ?_,rfl,q _ _ hf (a6.new hf) a9⟩;exact⟨z,us,0,r,AA _ rfl⟩
end
theorem sU {c:Bool}{A B:Prop}(hc:c=false)(h:B):if c=true then A else B:=by
 rw[hc];exact à h
noncomputable def Uc (lo c:Int)(n:Nat):It:=⟨λi _=>i<n,λi H x a=>a=H/\x = .int (lo+i*c),λi _=>n<=i⟩
theorem oz {P:AE}{w:AU}{K:Ar}{tg:Expr}(it:Ac)(lo c:Int)(n:Nat):tj P w K tg (Uc lo c n) [it] it (λi h=>K8 h it (lo+(i:Nat)*c) ((n:Int)-(i:Nat)) c) where
 mem:=by simp
 obj := λi h st b hb=>by
  have e:b=it:=by simpa using hb
  subst e;exact⟨_,st,λv z=>by
   have z':Ho _=Ih v:=z;cases z'⟩
 keep:=λi h h' st k=>k it (by simp) _ st
 item:=by
  kj_on
  obtain⟨f0,f1,f2,f3,f4,f5⟩:=hf it (by simp);have W:=Jm (prog:=X.prog) (w:=X.w) (I.ok.hd hc) it lo c n;refine W.item i s _ _ hg st λv h' tk hv uO kk=>?_
  obtain⟨t,rfl⟩:=hv;have I1:bA X pins Y H {s with heap:=h',toks:=tk}:=I.turned (λb o hb e=>kk b o (by simpa using hb) e) f0 f1 f3 f4 f5;exact⟨_,rfl,oT (s:={s with heap:=h',toks:=tk}) (n := "range_iterator") uO rfl rfl rfl ⟨.int (lo+i*c),H,I1,⟨t,rfl⟩,⟨rfl,rfl⟩,uO,λb hb=>(hf b hb).1⟩⟩
 done:=by
  intro X hP hw hK hc i pins s Y H E I hf st hg;obtain⟨f0,f1,f2,f3,f4,f5⟩:=hf it (by simp);exact HV (I.ok.hd hc) st (by have:n<=i:=hg;lia) λh' eb=>⟨rfl,I.turned (t':=s.toks) (λb o hb e=>eb b o hb e) f0 f1 f3 f4 f5⟩
 self:=λ_ _ _ _ _ st h=>HW st h
theorem yT (f : -(2^61)<=a)(A:a<2^61)(e : -(2^61)<=b)(B:b<2^61)(hc:0<c)(h:c<2^61): Dp a b c=true:=by
 have h1:0<=AT a b c/\AT a b c<=2^62:=by
  unfold AT;rw[if_pos (show c > 0 from hc)];split
  .have j:(b-a-1) / c<=b-a-1:=Int.ediv_le_self _ (by lia);have g:0<=(b-a-1) / c:=Gx (by lia) (by lia);lia
  .lia
 unfold Dp;simp only[Ft,CJ,IH,decide_eq_true_eq,show c > 0 from hc,if_true];omega
section
variable {X:Cx}{tg:Expr}
noncomputable def d5 (i j c:Int):Nat:=(AT i j c).toNat
def UX (t:TA):TI:=λY H R=>t Y H λvs a=>∃i j c:Int,vs=[.int i,.int j,.int c]/\(-(2^61)<=i/\i<2^61/\-(2^61)<=j/\j<2^61/\0<c/\c<2^29)/\R (Uc i c (d5 i j c)) a
theorem iS (hg:Gl X "range")(O:X.mg "range"=none)(ha:PA X [a,b,d] A)(M:Av [a,b,d] X.env=(false,eval a X.env)::Av [b,d] X.env:=by rfl)
  (l:(BY pos (Av [b,d] X.env)).any (·.1)=false:=by rfl):
  PI X tg (.Call (.Name "range" p) [a,b,d] [] pos) (UX A):=by
 intro pins s Y H R I h;refine Hh (f9 I hg O Jc (A9 (cK (ha pos pins s Y H _ I h) λus f w=>?_) M l));obtain⟨vs,v,I1,B,Q⟩:=w;obtain⟨i,j,c,e,⟨Q,L,J,G,n,q6⟩,q⟩:=Q;subst e
 cases B with
 |cons r g =>
  cases g with
  |cons C g=>
   cases g with
   |cons k g=>
    cases g;obtain⟨t,rfl⟩:=r;obtain⟨t',rfl⟩:=C;obtain⟨T,rfl⟩:=k;refine PySem.call_range_3 (by lia) ?_ (.inl (EK (by omega)));refine FX (GY ..) (yT Q L J G n (by lia)) ?_;have m:bA X pins Y v {f with heap:=f.heap.push {cls:=.type "range",data:=.fields #[.int i t,.int j t',.int c T]},toks:=f.toks}:=I1.kept λb o e=>Af _ e
    refine⟨(f.heap.push {cls:=.type "range",data:=.fields #[.int i t,.int j t',.int c T]}).objs.size,[(f.heap.push {cls:=.type "range",data:=.fields #[.int i t,.int j t',.int c T]}).objs.size],_,_,v,rfl,
     m.kept (t':=f.toks) λb o e=>Af _ e,oz _ i c (d5 i j c),?_,λb U=>?_,q⟩
    .have e1:i+((0:Nat):Int)*c=i:=by simp
     have u:((d5 i j c:Nat):Int)-((0:Nat):Int)=AT i j c:=by
      have z:0<=AT i j c:=by
       unfold AT;rw[if_pos (show c > 0 from n)];split
       .have u:0<=(j-i-1) / c:=Gx (by lia) (by lia);omega
       .lia
      unfold d5;lia
     rw[e1,u];exact AA _ rfl
    .have e:b=(f.heap.push {cls:=.type "range",data:=.fields #[.int i t,.int j t',.int c T]}).objs.size:=by simpa using U
     subst e;exact m.pz (Ak _) (m.cY.fresh (Ak _))
end
section
variable {X:Cx}
theorem bI.at (r:bI xs t)(h:j<t.toArray.size): ∃x,xs[j]?=some x/\cv x t.toArray[j]:=by
 have hl:=r.length;have J:j<xs.length:=by rw[Aq]at h;lia
 obtain⟨u,U,a⟩:=r.get (i:=j) (x:=xs[j]) (by simp);refine⟨xs[j],by simp,?_⟩;have e:t.toArray[j]=u:=by
  have:t[j]?=some t.toArray[j]:=by simp at h ⊢<;>try exact h
  rw[this]at U;exact AV U
 rw[e];exact a
end
noncomputable def dZ (scope:Ck)(env:EJ):List (Am×Ac):=((scope.names.filter λx=>x.2 == .free).map λx=>(x.1,(env.cells.lookup x.1).getD 0)).reverse
theorem iK (env:EJ): ∀(l:List (Am×E9)) (A:List (Am×Ac)),(∀x∈l,x.2 = .free->∃c,env.cells.lookup x.1=some c)->
  (forIn l A (λ(x:Am×E9) (r:List (Am×Ac))=>(match x with | (name,kind)=>if (kind==Bw)=true then do let a <- Lg env name;pure (Ht ((name,a)::r)) else pure (Ht r):Jb (ForInStep (List (Am×Ac)))))) =
   (pure (((l.filter λx=>x.2 == .free).map λx=>(x.1,(env.cells.lookup x.1).getD 0)).reverse++A):Jb (List (Am×Ac)))
 | [],A,_=>rfl
 | (n,k)::l,A,h=>by
  rw[List.forIn_cons];by_cases j:k = .free
  .subst j;obtain⟨c,hc⟩:=h (n,.free) AF rfl;have C:env.cells.lookup n=some c:=hc;have f:=iK env l ((n,c)::A) λx g=>h x (Aj _ g)
   have e:Lg env n=pure c:=by unfold Lg;rw[C]
   simp only[beq_self_eq_true,if_true,e,pure_bind];rw[f];simp[C]
  .have B:(k==Bw)=false:=by simpa using j
   have f:=iK env l A λx g=>h x (Aj _ g)
   simp only[B,Dj,if_false,pure_bind];rw[f];simp[B]
theorem jG (h:∀x∈scope.names,x.2 = .free->∃c,env.cells.lookup x.1=some c): Fg scope env=pure (dZ scope env):=by
 have:=iK env scope.names [] h;unfold Fg dZ;rw[Bi]at this;simp only[bind_pure];exact this
theorem m8 (x:Am): (dZ scope env).lookup x=if (scope.names.any λy=>y.1==x && y.2 == .free) then some ((env.cells.lookup x).getD 0) else none:=by
 have key:∀(l:List (Am×E9)),((l.filter λx=>x.2 == .free).map λx=>(x.1,(env.cells.lookup x.1).getD 0)).lookup x=if (l.any λy=>y.1==x && y.2 == .free) then some ((env.cells.lookup x).getD 0) else none:=by
  intro l
  induction l with
  |nil=>rfl
  |cons p l c=>
   obtain⟨n,k⟩:=p;by_cases h:(k==Bw)=true
   .rw [Io,if_pos (show ((n,k).2==Bw)=true from h),B7,DF,c];by_cases hn:n=x
    .subst hn;simp[h]
    .have h1:(x==n)=false:=by simpa using λe=>hn e.symm
     have h2:(n==x)=false:=by simpa using hn
     simp[h1,h2]
   .have a:(k==Bw)=false:=by simpa using h
    rw[Io,if_neg (show ¬ ((n,k).2==Bw)=true from h),c];simp[a]
 have rev:(dZ scope env)=((scope.names.reverse.filter λx=>x.2 == .free).map λx=>(x.1,(env.cells.lookup x.1).getD 0)):=by
  unfold dZ;rw[<- CI,<- List.filter_reverse]
 rw[rev,key,List.any_reverse]
theorem B2 {R:F7->Ae->Prop}(I:Nat->Ae->Prop)
  (turn : ∀n s,I n s->AJ (model prog w) A (FZ T) (λr a=>match r with
   |none=>R (.ok .next) a
   |some v=>AJ (model prog w) A (GX target T v) (λ_ k=>AJ (model prog w) A (Hd target env v) (λ_ j=>AJ (model prog w) A (eval L env) (λx g=>
     AJ (model prog w) A (call (.builtin "list.append") [C,x]) (λ_ c=>∃m,m<n/\I m c) (λ_ _=>False) g) (notedBy (model prog w) A env λe s'=>R (.error e) s') j) (λ_ _=>False) k) (λ_ _=>False) a) (λ_ _=>False) s)
  (n:Nat) (h:I n s): Cw (model prog w) A (.compLoop (.ListComp L [⟨target,iter,[],0⟩] scope pos) 0 T C env) R s:=by
 refine codeAny_loop rfl I (λn s u=>?_) n h;refine wpAny_noted ?_;rw[compTurn_list1];refine Ad (Hu (Ad (BV (turn n s u) (λr a l=>?_) λ_ _ f=>f.elim)))
 cases r with
 |none=>exact AK l
 |some v=>
  refine Ad (BV l (λ_ k t=>?_) λ_ _ f=>f.elim);exact Ad (BV t (λ_ j q=>Ad (Ad (BV q (λx g p=>Ad (BV p (λ_ c o=>AK (AK ⟨rfl,o⟩)) λ_ _ f=>f.elim)) λ_ _ f=>f))) λ_ _ f=>f.elim)
theorem kn (x:Am): (Gj scope env).names.lookup x=(scope.names.lookup x).map λk=>if (k==Bw && env.scope.kind == .function && env.kindOf x==some .cell)=true then E8 else k:=by
 have key:∀l:List (Am×E9),(l.map λ(n,k)=>if (k==Bw && env.scope.kind == .function && env.kindOf n==some .cell) then (n,E8) else (n,k)).lookup x =
   (l.lookup x).map λk=>if (k==Bw && env.scope.kind == .function && env.kindOf x==some .cell)=true then E8 else k:=by
  intro l
  induction l with
  |nil=>rfl
  |cons p l h=>
   obtain⟨n,k⟩:=p;rw[B7];by_cases hn:x=n
   .subst hn;by_cases hc:(k==Bw && env.scope.kind == .function && env.kindOf x==some .cell)=true
    .simp only[hc,if_true,DF,beq_self_eq_true,Gv]
    .simp only[if_neg hc,DF,beq_self_eq_true,Gv]
   .have B:(x==n)=false:=by simpa using hn
    by_cases hc:(k==Bw && env.scope.kind == .function && env.kindOf n==some .cell)=true
    .simp only[hc,if_true,DF,B];exact h
    .simp only[if_neg hc,DF,B];exact h
 exact key scope.names
noncomputable def nr (ix:List (Option Nat))(Y:St):St:=ix.map λo=>o.bind λi=>(Y[i]?).join
def cD (X:Cx)(scope:Ck):List Am->List (Option Nat)->Prop
 | [],[]=>True
 |_::N,none::ix=>cD X scope N ix
 |x::N,some i::ix=>(X.N[i]?=some x/\scope.names.lookup x=some .free/\(X.env.kindOf x=some .cell∨X.env.kindOf x=some .free))/\cD X scope N ix
 |_,_=>False
theorem cD.get:∀{N:List Am} {ix:List (Option Nat)},cD X scope N ix->N.length=ix.length/\∀(j i:Nat),ix[j]?=some (some i)->
  ∃x,N[j]?=some x/\X.N[i]?=some x/\scope.names.lookup x=some .free/\(X.env.kindOf x=some .cell∨X.env.kindOf x=some .free)
 | [],[],_=>⟨rfl,λj i h=>by simp at h⟩
 |x::N,none::ix,h=>by
  obtain⟨h1,h2⟩:=cD.get (show cD X scope N ix from h);refine⟨by simp[h1],λj i e=>?_⟩
  cases j with
  |zero=>simp at e
  |succ j=>simpa using h2 j i e
 |x :: N,some c::ix,h=>by
  obtain⟨a,h⟩:=(show _/\cD X scope N ix from h)
  obtain⟨h1,h2⟩:=cD.get h;refine⟨by simp[h1],λj i e=>?_⟩
  cases j with
  |zero=>
   simp at e
   subst e;exact⟨x,rfl,a⟩
  |succ j=>simpa using h2 j i e
 | [],_::_,h=>h.elim
 |_::_,[],h=>by cases h
structure bF (outer scope:Ck):Prop where
 kind:scope.kind = .function
 cell:∀y∈scope.names,y.2≠.cell
 free:∀y∈scope.names,y.2 = .free->outer.names.lookup y.1=some .cell∨outer.names.lookup y.1=some .free
 names:∀y∈scope.names,y.2 = .local->scope.names.lookup y.1=some .local
noncomputable abbrev Cx.tf (X:Cx)(scope:Ck)(N:List Am)(f:List Ac)(s:Ae)(H:Hp):Cx:=
 {X with N:=N,s₀:=s,H₀:=H,env:=Iu scope (dZ scope X.env) s.heap.objs.size X.env,outer:=X.stack,ex:=f,fn:=λ_=>false,pn:=[],xe:=λ_ _=>False}
section
variable {X:Cx}{pins:List (Ac×Co)}{Y:St}{H:Hp}{s:Ae}{scope:Ck}{N:List Am}{ix:List (Option Nat)}{fp:List Ac}
theorem i4 (ok:X.Ok)(S:bF X.env.scope scope)(h:(dZ scope X.env).lookup x=some c): X.env.cells.lookup x=some c:=by
 rw[m8]at h;split at h
 .rename_i A;obtain⟨y,a,e⟩:=FH.mp A;rw[CJ,beq_iff_eq,beq_iff_eq]at e;obtain⟨g,f⟩:=e;subst g;obtain⟨j,C⟩:=ok.has y.1 (S.free y a f);rw[C]at h ⊢;exact h
 .cases h
theorem yo (ok:X.Ok)(h:scope.names.lookup x=some .free)(k:X.env.kindOf x=some .cell∨X.env.kindOf x=some .free): ∃c,(dZ scope X.env).lookup x=some c/\X.env.cells.lookup x=some c:=by
 obtain⟨c,hc⟩:=ok.has x k;refine⟨c,?_,hc⟩;rw[m8,if_pos,hc]
 .rfl
 .exact FH.mpr ⟨(x,.free),PySem.mem_of_lookup h,by simp⟩
theorem bA.Zn (I:bA X pins Y H s)(S:bF X.env.scope scope)(hf:∀b∈fp,jM X pins H b)(yD:∀b∈fp,b<s.heap.objs.size): (X.tf scope N fp s H).Ok where
 mod:=I.ok.mod
 kind:=S.kind
 glob:=I.ok.glob
 blt:=I.ok.blt
 above:=Ak _
 inj:=λx y c h1 h2=>I.ok.inj x y c (i4 I.ok S h1) (i4 I.ok S h2)
 has := λx hx=>by
  have WH:(Gj scope X.env).names.lookup x=some .cell∨(Gj scope X.env).names.lookup x=some .free:=hx;rw[kn]at WH
  cases e:scope.names.lookup x with
  |none=>rw[e]at WH;simp at WH
  |some k=>
   have hm:=PySem.mem_of_lookup e;have hk:k = .free:=by
    by_cases hk:k = .free
    .exact hk
    .exfalso
     have hb:(k==Bw)=false:=by simpa using hk
     have hc:k≠.cell:=S.cell _ hm;have e2:(if (k==Bw && X.env.scope.kind == .function && X.env.kindOf x==some .cell)=true then E8 else k)=k:=if_neg (by rw[hb,Ff];exact AI);rw[e,Gv,e2]at WH;rcases WH with z |z
     .exact hc (AV z)
     .exact hk (AV z)
   subst hk;obtain⟨c,h1,_⟩:=yo I.ok e (S.free _ hm rfl);exact⟨c,h1⟩
 TX:=λx c h _=>by cases h
 hd:=I.ok.hd
 frames:=I.ok.frames
 Xs:=.inl rfl
 ZY:=λb hb=>⟨Bx (yD b hb),λx c h=>(hf b hb).2.2.2.2.1 x c (i4 I.ok S h)⟩
 bs:=I.bs
 Lx:=BC I.ok.Lx I.sz
 zD:=λb o e hb=>by
  rcases (hf b hb).2.2.2.1 with z |z
  .exact I.ok.zD b o e z
  .exact absurd (A6 (AY e) (BC I.ok.Lx z)) (B3 _)
 NT:=λb hb h=>by
  rcases AB.mp (I.qe b h) with z |z
  .exact (hf b hb).2.1 z
  .exact (hf b hb).2.2.1 z
 jK:=I.stack
 Oy:=I.mm
theorem bA.tf {m:Am->Option Aa}(I:bA X pins Y H s)(S:bF X.env.scope scope)(J:cD X scope N ix)(hf:∀b∈fp,jM X pins H b)(L:∀b∈fp,b<s.heap.objs.size)
  (A:h.Ns s.heap.objs.size m) (B:Heap.SameBut s.heap.objs.size (s.heap.push o) h): bA (X.tf scope N fp s H) [] (nr ix Y) H {s with heap:=h,toks:=t}:=by
 have keep:∀b o,s.heap.get? b=some o->h.get? b=some o:=λb o e=>B.extBut b o (Bx (AY e)) (Af _ e)
 obtain⟨hl,C⟩:=J.get;refine⟨I.Zn S hf L,rfl,I.bare,Un.kept keep,⟨m,A,λj x v e1 a e3=>?_⟩,λx c e=>?_,I.cY.fresh (Ak _),λx c e=>I.iX x c (i4 I.ok S e),λp hp=>absurd (show p∈([]:List (Ac×Co)) from hp) (by simp),I.cY.kept keep,by unfold nr;rw[Ay];exact hl.symm⟩
 .obtain ⟨i,h1,h2⟩:∃i,ix[j]?=some (some i)/\Y[i]?=some (some v):=by
   unfold nr at a;rw[AN]at a
   cases q:ix[j]? with
   |none=>rw[q]at a;cases a
   |some o=>
    rw[q]at a
    cases o with
    |none=>simp at a
    |some i=>
     refine⟨i,rfl,?_⟩
     cases Q:Y[i]? with
     |none=>simp[Q]at a
     |some o2=>simp[Q]at a;rw[a]
  obtain⟨y,T,n2,M,n⟩:=C j i h1;have w:x=y:=by rw[e1]at T;exact AV T
  subst w;obtain⟨m',Ī,G⟩:=I.loc;have g:XG X.env.scope x:=by rcases n with k |k;exact .inr (.inl k);exact .inr (.inr k)
  obtain⟨u,r,l⟩:=G i x v n2 h2 g;refine⟨u,r,.inr ⟨?_,?_⟩⟩
  .show (Gj scope X.env).names.lookup x=some .cell∨(Gj scope X.env).names.lookup x=some .free
   rw[kn,M];by_cases hc:(Bw==Bw && X.env.scope.kind == .function && X.env.kindOf x==some .cell)=true
   .left;simp only[Gv,if_pos hc]
   .right;simp only[Gv,if_neg hc]
  .obtain ⟨c,c1,c2⟩:=yo I.ok M n;refine⟨c,c1,?_⟩;rcases l with⟨U,_⟩ | ⟨_,c',f,z⟩
   .rcases n with k |k
    .rw [U]at k;cases k
    .rw [U]at k;cases k
   .rw [c2]at f;cases f;obtain⟨ob,O,hd⟩:=z;exact⟨ob,keep _ _ O,hd⟩
 .obtain ⟨v,ob,O,hd⟩:=I.cell x c (i4 I.ok S e);exact⟨v,ob,keep _ _ O,hd⟩
theorem bA.XS (I:bA X pins Y H s)(hf:∀b∈fp,jM X pins H b)(J:bA (X.tf scope N fp s H) p c a s'): bA X pins Y a s':=
 I.RI J.os J.base J.cY J.bare λb h=>⟨(hf b h).2.2.2.1,(hf b h).2.1,(hf b h).2.2.2.2.1,(hf b h).2.2.2.2.2⟩
theorem bA.um (I:bA X pins Y H s)(f:jM X pins H C)(h:Heap.SameBut C s.heap h'): bA X pins Y H {s with heap:=h'}:=
 I.turned (t':=s.toks) (λb o B e=>h.extBut b o B e) f.1 f.2.1 f.2.2.2.1 f.2.2.2.2.1 f.2.2.2.2.2
end
def dz (J:It)(D:Ac)(g:TG)(t:TE)(a:St)(H₀:Hp)(fin:Hp->Prop):Prop:=
 ∃W:Nat->Nat->St->List V->Hp->Prop,(∃m,W 0 m a [] H₀)/\∀i m Y ys H,W i m Y ys H->
  (J.stop i H/\fin H)∨(ys.length<AH/\J.go i H/\∀x f,J.ZH i H x f->g x Y f λc h=>t c h λy e=>e D=some (.lst ys)/\∃M,M<m/\W (i+1) M c (ys++[y]) (c8 e D (.lst (ys++[y]))))
def qb (w:TI)(ix:List (Option Nat))(g:TG)(t:TE):TE:=λY H Q=>w Y H λJ a=>∀D,a D=none->dz J D g t (nr ix Y) (c8 a D (.lst [])) λc=>Q (.ref D) c
section
variable {X:Cx}{tg elt iter:Expr}{scope:Ck}{N:List Am}{ix:List (Option Nat)}{wi:TI}{g:TG}{te:TE}{pos:DR}
theorem z_ {RR:Aa->Ac->F7->Ae->Prop}(hc:X.calm=true)(hi:PI X tg iter wi)(S:bF X.env.scope scope)(cap:cD X scope N ix)
  (hg:∀k s H,PG (X.tf scope N k s H) tg g) (I:bA X pins Y H s) (h:qb wi ix g te Y H Q)
  (he:∀D k f H3 U s7 Y7 H7 Q',bA X pins Y H3 f->(∀b∈k,jM X pins H3 b)->bA (X.tf scope N k f H3) U Y7 H7 s7->te Y7 H7 Q'->AJ (model X.prog X.w) X.A (eval elt (Iu scope (dZ scope X.env) f.heap.objs.size X.env)) (EP (X.tf scope N k f H3) U Y7 Q') (notedBy (model X.prog X.w) X.A (Iu scope (dZ scope X.env) f.heap.objs.size X.env) λe s'=>RR (.ref D) f.heap.objs.size (.error e) s') s7)
  (Ϭ:∀D C G s',bA X pins Y G s'->jM X pins G C->(∃m,s'.heap.Ns C m)->Q (.ref D) G->RR (.ref D) C (.ok .next) s'):
  AJ (model X.prog X.w) X.A (eval iter X.env) (λx Ì=>AJ (model X.prog X.w) X.A (HX x) (λit Ë=>AJ (model X.prog X.w) X.A (newList []) (λacc Ê=>
   AJ (model X.prog X.w) X.A (J4 scope X.env.globals (dZ scope X.env) [] X.env.qual none .none (some X.env)) (λZl É=>
    Cw (model X.prog X.w) X.A (.compStart (.ListComp elt [⟨tg,iter,[],0⟩] scope pos) 0 it acc {Zl with scope:=Gj scope X.env}) (RR acc Zl.locals) É) X.xe Ê) X.xe Ë) X.xe Ì) X.xe s:=by
 refine cK (hi pins s Y H _ I h) λv s1 h1=>cK h1 λū a h2=>?_
 obtain⟨it,k,tn,J,H2,e,I2,T,ZN,f2,R⟩:=h2;subst e;refine CU (wpAny_newFunctionEnv S.cell (by intro y hy;simp at hy) (λTu L j=>?_) S.kind);dsimp only at L j ⊢;have I3:bA X pins Y (c8 H2 a.heap.objs.size (.lst [])) {a with heap:=a.heap.push {cls:=.type "list",data:=.seq ([]:List Aa).toArray},toks:=a.toks}:=I2.Wl .nil (Bv _);have hD:H2 a.heap.objs.size=none:=I2.fresh;have ğ:∀b∈k,b<a.heap.objs.size:=λb B=>by obtain⟨o,e,_⟩:=T.obj 0 _ ZN b B;exact AY e
 obtain⟨W,⟨m0,w0⟩,turn⟩:=R a.heap.objs.size hD;generalize Ĥ:({a with heap:=a.heap.push {cls:=.type "list",data:=.seq ([]:List Aa).toArray},toks:=a.toks}:Ae)=f at I3;have e3:f.heap=a.heap.push {cls:=.type "list",data:=.seq ([]:List Aa).toArray}:=by rw[<- Ĥ]
 have Ś:f.heap.objs.size=a.heap.objs.size+1:=by rw[e3,DB]
 have f3:∀b∈k,jM X pins (c8 H2 a.heap.objs.size (.lst [])) b:=λb B=>⟨by rw[bM (Bx (ğ b B))];exact (f2 b B).1,(f2 b B).2⟩
 have Ğ:∀b∈k,b<f.heap.objs.size:=λb B=>by rw[Ś];exact Il (ğ b B)
 have q:=L;rw[<- e3]at q;have l:=j;rw[<- e3]at l;have J0:=I3.tf (t:=a.toks+([]:List (Am×Aa)).length) S cap f3 Ğ q l;have Yw:∀b o,a.heap.get? b=some o->Tu.get? b=some o:=λb o e=>j.extBut b o (by rw[DB];exact Bx (Il (AY e))) (Af _ (Af _ e))
 have LN:tn 0 Tu:=T.keep 0 _ _ ZN λb _ o e=>Yw b o e
 have O:∀{G:Hp},(∀b∈k,G b=none)->∀b∈k,jM (X.tf scope N k f (c8 H2 a.heap.objs.size (.lst []))) [] G b:=λ{G} hn b B=>by
  refine⟨hn b B,Bx (Ğ b B),λz=>?_,.inl B,λx c e=>(f2 b B).2.2.2.2.1 x c (i4 I.ok S e),λp hp=>absurd (show p∈([]:List (Ac×Co)) from hp) (by simp)⟩;rcases AB.mp (I3.qe b z) with y |y
  .exact (f2 b B).2.1 y
  .exact (f2 b B).2.2.1 y
 have loop:∀s4:Ae,s4={f with heap:=Tu,toks:=a.toks+([]:List (Am×Aa)).length}->
   Cw (model X.prog X.w) X.A (.compLoop (.ListComp elt [⟨tg,iter,[],0⟩] scope pos) 0 (.ref it) (.ref a.heap.objs.size) (Iu scope (dZ scope X.env) f.heap.objs.size X.env)) (RR (.ref a.heap.objs.size) f.heap.objs.size) s4:=by
  rintro s4 rfl;refine B2 (λn s'=>∃i Y' ys G,bA (X.tf scope N k f (c8 H2 a.heap.objs.size (.lst []))) [] Y' G s'/\tn i s'.heap/\(∀b∈k,G b=none)/\W i n Y' ys G) ?_ m0 ⟨0,_,[],_,J0,LN,λb B=>(f3 b B).1,w0⟩;rintro n s' ⟨i,Y',ys,G,I',uO,ľ,w'⟩;rcases turn i n Y' ys G w' with⟨stop,fin⟩ | ⟨hy,go,step⟩
  .refine cK (T.done (X.tf scope N k f (c8 H2 a.heap.objs.size (.lst []))) rfl rfl rfl hc i [] s' Y' G _ I' (O ľ) uO stop) λr s5 M=>?_
   obtain⟨hr,I5⟩:=M;subst hr;obtain⟨m,hn,_⟩:=I5.loc;exact Ϭ _ _ G s5 (I3.XS f3 I5) (I3.pz (Ak _) I5.free) ⟨m,hn⟩ fin
  .refine cK (T.item (X.tf scope N k f (c8 H2 a.heap.objs.size (.lst []))) rfl rfl rfl hc i [] s' Y' G _ I' (O ľ) uO go) λr s5 M=>?_
   obtain⟨u,hr,h5⟩:=M;subst hr;refine cK h5 λ_ s6 M=>?_
   obtain⟨x,H6,I6,r6,y6,Í,Ϻ⟩:=M;have I6':=I6.pinned (O Ϻ) (T.obj _ _ Í);refine cK (hg k f _ _ s6 Y' H6 x u _ I6' r6 (step x H6 y6)) λ_ s7 M=>?_
   obtain⟨Y7,H7,I7,q7⟩:=M;refine BV (he a.heap.objs.size k f _ _ s7 Y7 H7 _ I3 f3 I7 q7) (λyv s8 M=>?_) λ_ _ z=>z
   obtain⟨y,H8,I8,r8,ϑ,m',î,w8⟩:=M;refine cK (cM _ s8 Y7 H8 (.ref a.heap.objs.size) [y] (.ref a.heap.objs.size) [yv] (λ_ H9=>H9=c8 H8 a.heap.objs.size (.lst (ys++[y]))) I8 rfl (.cons r8 .nil) ⟨_,ys,y,rfl,rfl,ϑ,hy,rfl⟩) λ_ s9 M=>?_
   obtain⟨_,H9,I9,_,e9⟩:=M;subst e9;refine⟨m',î,i+1,Y7,ys++[y],_,I9.me,T.keep _ _ _ Í λb B o e=>(I9.pin (b,o) (AR _ (AR _ (js B e)))).1,λb B=>?_,w8⟩;obtain⟨o,e,_⟩:=T.obj _ _ Í b B;exact (I9.pin (b,o) (AR _ (AR _ (js B e)))).2.1
 have fin:=loop _ rfl;rw[<- Ĥ]at fin;exact codeAny_compStart_list fin (T.self _ 0 _ _ _ LN fin)
theorem uv {RR:Aa->Ac->F7->Ae->Prop}(hc:X.calm=true)(hi:PI X tg iter wi)(S:bF X.env.scope scope)(o:cD X scope N ix)
  (hg:∀k s H,PG (X.tf scope N k s H) tg g) (v:∀k s H,PE (X.tf scope N k s H) elt te) (I:bA X pins Y H s) (h:qb wi ix g te Y H Q)
  (n:∀D C r s',bA X pins Y r s'->jM X pins r C->(∃m,s'.heap.Ns C m)->Q (.ref D) r->RR (.ref D) C (.ok .next) s'):
  AJ (model X.prog X.w) X.A (eval iter X.env) (λx j=>AJ (model X.prog X.w) X.A (HX x) (λT f=>AJ (model X.prog X.w) X.A (newList []) (λl e=>
   AJ (model X.prog X.w) X.A (J4 scope X.env.globals (dZ scope X.env) [] X.env.qual none .none (some X.env)) (λc a=>
    Cw (model X.prog X.w) X.A (.compStart (.ListComp elt [⟨tg,iter,[],0⟩] scope pos) 0 T l {c with scope:=Gj scope X.env}) (RR l c.locals) a) X.xe e) X.xe f) X.xe j) X.xe s:=
 z_ hc hi S o hg I h (λD k u M p t B L G _ _ J q=>BV (v k u M p t B L G J q) (λ_ _ z=>z) λ_ _ z=>z.elim) n
theorem yp (S:bF X.env.scope scope)(ok:X.Ok): Fg scope X.env=pure (dZ scope X.env):=jG λx h e=>ok.has x.1 (S.free x h e)
theorem c5 (hc:X.calm=true)(hi:PI X tg iter wi)(S:bF X.env.scope scope)(c:cD X scope N ix)(hg:∀f s H,PG (X.tf scope N f s H) tg g)(k:∀f s H,PE (X.tf scope N f s H) elt te)
  (j:∀x,Gk iter X.env x=pure x:=by intro _;rfl): PE X (.ListComp elt [⟨tg,iter,[],0⟩] scope pos) (qb wi ix g te):=by
 intro pins s Y H Q I h;refine Hx rfl j (yp S I.ok) S.kind S.names (uv (RR:=λe C=>compPost (model X.prog X.w) X.A X.xe none (EP X pins Y Q) e C) hc hi S c hg k I h λD C o s' n l hn q=>?_);obtain⟨m,hn⟩:=hn;exact⟨m,hn,λh' a=>⟨.ref D,o,n.um l a,rfl,q⟩⟩
theorem fA (hN:X.N.Nodup)(j:X.N[i]?=some y)(L:Xo X.env.scope y)(hc:X.calm=true)(hi:PI X tg iter wi)(S:bF X.env.scope scope)(r:cD X scope N ix)
  (hg:∀n s H,PG (X.tf scope N n s H) tg g) (T:∀n s H,PE (X.tf scope N n s H) elt te)
  (c:GH (.ListComp elt [⟨tg,iter,[],0⟩] scope pos) (some (.Name y py)) p.line X.env=pure true:=by rfl)
  (M:∀x,Gk iter X.env x=pure x:=by intro _;rfl) (hf:X.fn y=true∨X.env.scope.names.lookup y=some .local:=by first |exact .inl rfl |exact .inr rfl |assumption):
  PS X (.Assign [.Name y py] (.ListComp elt [⟨tg,iter,[],0⟩] scope pos) p) (sv (qb wi ix g te) (m7 i)):=by
 intro pins s Y H D I h;rw[exec_Assign_Name_used _ _ _ _ c];refine Ad (Hu (Ad ?_));refine Ad (BV (Hx (use:=some (Hd (.Name y py) X.env)) (Q:=λ_ s'=>SP X pins D .next s') rfl M (yp S I.ok) S.kind S.names
  (uv (RR:=λt C=>compPost (model X.prog X.w) X.A X.xe (some (Hd (.Name y py) X.env)) (λ_ s'=>SP X pins D .next s') t C) hc hi S r hg T I h λl C H' s' I' o hn q=>?_)) (λ_ s' O=>AK (AK O)) λ_ _ e=>e)
 obtain⟨m,hn⟩:=hn;refine Jk (tE (v:=.ref l) I' hN j L rfl (λJ u G=>?_) hf);obtain⟨a,B,U⟩:=G;have k:C≠a:=by
  rcases U with z |z
  .rw [z];exact o.2.1
  .exact Bm (o.2.2.2.2.1 y a z)
 exact⟨m,hn.sameBut B k,λh' f=>⟨_,H',u.um o f,q⟩⟩
end
section
variable {X:Cx}
set_option exponentiation.threshold 5000 in
def UH (K:Ar):List V->Hp->VK->Prop:=λxs H Q=>∃(l:Ac) (ns:List Int),xs=[.ref l]/\eR K H l (ns.map V.int)/\0<ns.length/\∀M,M∈ns->(∀a,a∈ns->a<=M)->Q (.int M) H
theorem gw (hc:X.calm=true):fT X (.builtin "max") (UH X.K):=by
 intro pins s Y H xs us Q I r h;obtain⟨l,ns,rfl,m,c,q⟩:=h;obtain⟨u,rfl,U⟩:=iM r;cases U;obtain⟨T,g,pl,p⟩:=I.list m;have hi:EB T ns:=rM g;have hl:=pl.isList;obtain⟨ys,e⟩:=hi.allInts.items;have n:ns=ys.toList.map (·.1):=by rw[<- hi.numsOf,<- nums_intItems,<- e]
 have z:0<ys.size:=by
  have f:=c;rw[n,Ay]at f;exact f
 rw[e]at hl;refine max_intList (I.ok.hd hc) hl z λv h' tk k o=>?_
 obtain⟨t,rfl⟩:=intItems_at k;obtain⟨h1,h2⟩:=argBest_gt (numAt ys) (ys.size-1);refine⟨.int _,H,I.kept o,⟨t,rfl⟩,q _ ?_ λa A=>?_⟩
 .rw [n,numAt_eq];exact getD_mem (by rw[Ay,B6];omega)
 .rw [n]at A;obtain⟨j,J,rfl⟩:=mem_getD A;rw[Ay,B6]at J;rw[<- numAt_eq];exact h2 j (by lia)
def UK (K:Ar):V->V->Hp->VK->Prop:=λx y H Q=>∃p xs i v,x = .ref p/\y = .int i/\eR K H p xs/\0<=i/\xs[i.toNat]?=some v/\Q v H
theorem NO:Zu X (UK X.K):=by
 intro pins s Y H o i m n Q I O c h;obtain⟨p,xs,k,v,rfl,rfl,e,f,a,q⟩:=h;cases O;obtain⟨t,rfl⟩:=c;obtain⟨T,r,pl,z⟩:=I.list e;obtain⟨j,g,w⟩:=r.get a;have hn:=l0;have l:k.toNat<xs.length:=(Ab.mp a).1;exact wpAny_getItem_list pl.isList f (by lia) (by simpa using g) ⟨v,H,I,w,q⟩
end
section
variable {X:Cx}
theorem fT.imp {f:Aa}{r a:List V->Hp->VK->Prop}(h:fT X f r)(hi:∀xs H Q,a xs H Q->r xs H Q):fT X f a:=λpins s Y H xs us Q I c q=>h pins s Y H xs us Q I c (hi xs H Q q)
def Qc (K:Ar):List V->Hp->VK->Prop:=λxs H Q=>∃p ys,xs=[.ref p]/\(eR K H p ys∨jO K H p ys)/\∀l a,H l=none->a6 H a->a l=some (.lst ys)->Q (.ref l) a
def Ma (K:Ar):List V->Hp->VK->Prop:=λxs H Q=>∃p ys,xs=[.ref p]/\eR K H p ys/\∀l a,H l=none->a6 H a->a l=some (.tup ys)->Q (.ref l) a
theorem l8:fT X (.type "list") (Qc X.K):=v9.imp λxs H Q ⟨p,ys,e,h,q⟩=>⟨p,ys,e,h,λl hl=>q l _ hl (a6.new hl) a9⟩
theorem ye:fT X (.type "tuple") (Ma X.K):=sV.imp λxs H Q ⟨p,ys,e,h,q⟩=>⟨p,ys,e,.inl ⟨h,λl hl=>q l _ hl (a6.new hl) a9⟩⟩
def X9 (K:Ar):V->Option Int->Option Int->Hp->VK->Prop:=λx lo hi H Q=>∃a xs,x = .ref a/\eR K H a xs/\∀p c,H p=none->a6 H c->c p=some (.lst (z9 xs lo hi))->Q (.ref p) c
theorem Xk.imp {r c:V->Option Int->Option Int->Hp->VK->Prop}(h:Xk X r)(hi:∀x lo hi H Q,c x lo hi H Q->r x lo hi H Q):Xk X c:=λpins s Y H x v l u lo a L Q I e f pl p q=>h pins s Y H x v l u lo a L Q I e f pl p (hi _ _ _ _ _ q)
theorem qo:Xk X (X9 X.K):=Sn.imp λx lo hi H Q ⟨a,xs,e,h,q⟩=>⟨a,xs,e,h,λp c=>q p _ c (a6.new c) a9⟩
def Qf (K:Ar):R2:=λx y H Q=>∃a b xs ys,x = .ref a/\y = .ref b/\jO K H a xs/\jO K H b ys/\xs≠[]/\ys≠[]/\xs.length+ys.length<=AH/\∀p c,H p=none->a6 H c->c p=some (.tup (xs++ys))->Q (.ref p) c
theorem QD:k_ X (Cs .Add) (Qf X.K):=λpins s Y H x y v u Q I c r ⟨a,b,xs,ys,j,g,h1,h2,e,n,f,q⟩=>
 S3 pins s Y H x y v u Q I c r ⟨a,b,xs,ys,j,g,h1,h2,e,f,λz=>absurd z n,λ_ p h=>q p _ h (a6.new h) a9⟩
end
end L2
namespace PySem
namespace F
theorem oO:K7.lookup (String.ofList ['d','e','s','r','e','v','e','r'].reverse)=some K6:=by kernel_rfl
theorem gY:Lo "reversed" "__next__" "reversed.__next__":=
 .of (owner := "reversed") (n := "__next__") (by rw[CL,CT];kernel_rfl) (by decide +kernel) (by decide +kernel) (by decide +kernel)
  (by first |exact .inl (by decide +kernel) |exact .inr (by decide +kernel)) (by rw[C6];kernel_rfl)
theorem oP:J6 table "reversed.__next__"=some Cy.«reversed.__next__»:=JB (by kernel_rfl)
theorem rF (a:Aa):HY "reversed.__next__" ⟨[a],[]⟩:=by
 unfold HY;rw[Kk (id := "reversed.__next__") (n:=['_','_','t','x','e','n','_','_']) (o:=['d','e','s','r','e','v','e','r']) (by kernel_rfl) oO];kernel_rfl
theorem rD:Lo "reversed" "__iter__" "reversed.__iter__":=
 .of (owner := "reversed") (n := "__iter__") (by rw[CL,CT];kernel_rfl) (by decide +kernel) (by decide +kernel) (by decide +kernel)
  (by first |exact .inl (by decide +kernel) |exact .inr (by decide +kernel)) (by rw[C6];kernel_rfl)
theorem xP (a:Aa):HY "reversed.__iter__" ⟨[a],[]⟩:=by
 unfold HY;rw[Kk (id := "reversed.__iter__") (n:=['_','_','r','e','t','i','_','_']) (o:=['d','e','s','r','e','v','e','r']) (by kernel_rfl) oO];kernel_rfl
theorem vO:J6 table "reversed.__iter__"=some Cy.«dict_keyiterator.__iter__»:=
 entryFor_alias (id' := "dict_keyiterator.__iter__") (by kernel_rfl) (by first |rfl |decide +kernel | (unfold String.splitOn;simp +decide [String.splitOnAux])) (by decide +kernel) (by kernel_rfl)
theorem ud:mroOf (.type "reversed")=pure [.type "reversed",.type "object"]:=by rw[mroOf_type];kernel_rfl
theorem xO:FY (.type "reversed") "__new__"=pure (some (.builtin "reversed.__new__")):=by rw[CL,CT];kernel_rfl
theorem zI:Bind.madeBy (.type "reversed")=pure (some "reversed.__new__"):=madeBy_type ud xO (by decide +kernel)
theorem rz (a:Aa):checkTypeCall "reversed" ⟨[a],[]⟩=pure ():=by kernel_rfl
theorem sR (a:Aa):checkBuiltinCall "reversed.__new__" ⟨[.type "reversed",a],[]⟩=pure ():=by kernel_rfl
theorem rB:J6 table "reversed.__new__"=some Cy.«reversed.__new__»:=JB (by kernel_rfl)
theorem xM:plainId "reversed.__new__"=true:=by decide +kernel
theorem vP:((HP "reversed").bind (·.mro.findSome? λt=>(HP t).bind λb=>if b.noNew then some true else if b.attrs.any (·.1 == "__new__") then some false else none)).getD false=false:=by decide +kernel
theorem uc:isSubtype (.type "reversed") (.type "reversed")=pure true:=by rw[C6];kernel_rfl
theorem xN:FY (.type "tuple") "__reversed__"=pure none:=by rw[CL,CT];kernel_rfl
theorem vN:isSubtype (.type "tuple") (.type "dict")=pure false:=by rw[C6];kernel_rfl
end F
section
variable {prog:AE}{w:AU}{A:AX}{E:Aa->Ae->Prop}{s:Ae}
noncomputable def kz (t:Ac)(i:Int):Co:={cls:=.type "reversed",data:=.fields #[.ref t,C5 i]}
def Heap.kJ (h:Heap)(a t:Ac)(i:Int):Prop:=h.get? a=some (kz t i)
theorem Heap.kJ.typeIs {a t:Ac}{i:Int}(x:s.heap.kJ a t i):s.TypeIs (.ref a) "reversed":=⟨_,x,rfl⟩
theorem rC (a:Aa):EW "reversed" ⟨[.type "reversed",a],[]⟩=pure (.type "reversed",[a]):=by
 unfold EW;simp only[isType,F.uc,pure_bind,EF,Dj,if_false]
theorem F.zK:Lo "reversed" "__init__" "object.__init__":=
 .of (owner := "object") (n := "__init__") (by rw[CL,CT];kernel_rfl) (by decide +kernel) (by decide +kernel) (by decide +kernel)
  (by first |exact .inl (by decide +kernel) |exact .inr (by decide +kernel)) (by rw[C6];kernel_rfl)
theorem F.rE (obj a:Aa):HY "object.__init__" ⟨[obj,a],[]⟩:=by
 first |exact F.initArgs_range_1 obj a | (unfold HY;kernel_rfl)
theorem F.vQ:TypeCalled "reversed" "reversed.__new__" "object.__init__":=⟨by decide +kernel,F.vP,⟨_,_,F.ud⟩,F.zI,F.xM,F.uc,F.zK⟩
theorem QU (t:Ac)(items:Array Aa):
  MeetsIn prog w (Cy.«reversed.__new__» ⟨[.type "reversed",.ref t],[]⟩) (λA R s=>(s.heap.IsTuple t items/\items.size<=AH)/\∀tk,R (.ok (.ret (.ref s.heap.objs.size))) {s with heap:=s.heap.push (kz t ((items.size:Int)-1)),toks:=tk}):=
 .of_wp λA R s h=>by
  obtain⟨⟨ht,z⟩,h⟩:=h;have T:s.TypeIs (.ref t) "tuple":=Fc ht;unfold Cy.«reversed.__new__»;refine Ad (Dy (rC _) ?_)
  try dsimp only
  refine Ad (Dy (a:=()) (by first |rfl |kernel_rfl) ?_);refine Ad (Dy (a:=()) (by first |rfl |kernel_rfl) ?_)
  try dsimp only
  refine Ad (Dl T F.xN ?_)
  try dsimp only
  refine Ad ?_;show AJ _ _ (isInstance (.ref t) (.type "dict") >>= _) _ _ s
  refine Ad (DZ T F.vN ?_);show AJ _ _ (specialOf (.ref t) "__getitem__" >>= _) _ _ s
  refine Ad (Dl T DU.lookup ?_);show AJ _ _ (if (["tuple.__getitem__","str.__getitem__","bytes.__getitem__","bytearray.__getitem__","memoryview.__getitem__","numpy.ndarray.__getitem__","sqlite3.Row.__getitem__"].contains "tuple.__getitem__")=true then pure true else _) _ _ s
  rw[if_pos (by decide)];refine AK ?_;show AJ _ _ (if (!true)=true then _ else _) _ _ s
  rw[if_neg (by decide)];have hn:(AH:Nat)<2^63:=by rw[C4];decide
  refine Ad (Ib ht (by lia) ?_);refine Ad (Dy (a:=some (items.size:Int)) rfl ?_);show AJ _ _ (Ii (.type "reversed") [.ref t,C5 ((items.size:Int)-1)] >>= _) _ _ _
  refine Ad ?_;show AJ _ _ (newObj (.type "reversed") (.fields #[.ref t,C5 ((items.size:Int)-1)])) _ _ _
  refine CU ?_ (by size_fits);exact AK ⟨_,rfl,h _⟩
theorem lh {t:Ac}{items:Array Aa}{Q:Aa->Ae->Prop}(ht:s.heap.IsTuple t items)(z:items.size<=AH)
  (h:∀tk,Q (.ref s.heap.objs.size) {s with heap:=s.heap.push (kz t ((items.size:Int)-1)),toks:=tk}):AJ (model prog w) A (call (.type "reversed") [.ref t]) Q E s:=
 callType_newIn F.vQ (by decide) (F.rz _) (F.sR _) (λobj=>F.rE obj _) F.rB (QU t items) ⟨⟨ht,z⟩,λtk=>⟨⟨_,AA _ rfl,rfl⟩,h tk⟩⟩
theorem zJ {T t:Ac}{i:Nat}{items:Array Aa}{x:Aa}{Q:Option Aa->Ae->Prop}(hit:s.heap.kJ T t (i:Int))(ht:s.heap.IsTuple t items)(z:items.size<=AH)(h:items[i]?=some x)
  (e:∀h' tk,h'.kJ T t ((i:Int)-1)->Heap.SameBut T s.heap h'->Q (some x) {s with heap:=h',toks:=tk}):AJ (model prog w) A (FZ (.ref T)) Q E s:=by
 have c:s.TypeIs (.ref t) "tuple":=Fc ht;have hn:(AH:Nat)<2^63:=by rw[C4];decide
 have hi:i<items.size:=(Array.getElem?_eq_some_iff.mp h).1;unfold FZ;refine Ad (EV (B9 (name:=Ba "__next__") hit.typeIs F.gY
  (CD F.gY hit.typeIs F.oP ?_ (F.rF _))))
 unfold Cy.«reversed.__next__»;refine Ad (Dy (a:=(Bj T,[])) rfl ?_)
 try dsimp only
 refine Ad (BA hit rfl (x:=.ref t) rfl ?_);refine Ad (BA hit rfl (x:=C5 (i:Int)) rfl ?_);show AJ _ _ (if (i:Int)<0 then _ else _) _ _ s
 rw[if_neg (by lia)];show AJ _ _ (specialOf (.ref t) "__getitem__" >>= _) _ _ s
 refine Ad (Dl c DU.lookup ?_);show AJ _ _ (if (Option.isNone (some _))=true then _ else _) _ _ s
 rw[if_neg (by decide)];show AJ _ _ (mkInt (i:Int) >>= _) _ _ s
 refine Ad (wpAny_mkInt ?_);refine Ad (EV (Hg (j:=i) ht (by lia) (by lia) (PySem.StrLaws.seqIndex_nonneg (by lia) (by lia)) h ?_));dsimp only;refine Ad (BA hit rfl (x:=C5 (i:Int)) rfl ?_);show AJ _ _ (setField (.ref T) 1 (C5 ((i:Int)-1)) >>= _) _ _ _
 refine Ad (EG hit rfl (by simp) ?_);refine AK ⟨x,rfl,AK (e _ _ ?_ (Heap.SameBut.update ..))⟩;exact (Cm _ hit (E7 (Dd rfl _))).trans rfl
theorem ND {c t:Ac}{Q:Option Aa->Ae->Prop}(h:A.handled=none)(hit:s.heap.kJ c t (-1))
  (f:∀h',Heap.ExtBut c s.heap h'->Q none {s with heap:=h'}):AJ (model prog w) A (FZ (.ref c)) Q E s:=by
 unfold FZ;refine Ad (EV (B9 (name:=Ba "__next__") hit.typeIs F.gY
  (CD F.gY hit.typeIs F.oP ?_ (F.rF _))))
 unfold Cy.«reversed.__next__»;refine Ad (Dy (a:=(Bj c,[])) rfl ?_)
 try dsimp only
 refine Ad (BA hit rfl (x:=.ref t) rfl ?_);refine Ad (BA hit rfl (x:=C5 (-1)) rfl ?_);show AJ _ _ (if (-1:Int)<0 then _ else _) _ _ s
 rw[if_pos (by decide)];refine Ad (Hb ?_);refine Ad ?_;show AJ _ _ (setField (.ref c) 1 (C5 (-1)) >>= _) _ _ _
 refine Ad (EG hit rfl (by simp) ?_);refine EG (o:=Obj.mapFields (λa=>a.setIfInBounds 1 (C5 (-1))) (kz t (-1))) (Cm _ hit (E7 (Dd rfl _))) (Dd rfl _) (by simp) ?_;refine Ad ?_;show AJ _ _ (Le (.type "StopIteration") [] >>= _) _ _ _
 refine Ad ?_;simp only[Le,newTuple];refine Ad (CU ?_ (by size_fits));refine Ad (m:=FE _ _) (Dy (a:=Fv) (by first |rfl | (simp only[FE];rfl)) ?_);refine CU ?_ (by size_fits);simp only[raiseNew];refine Ad (Kj ?_)
 first |rw[show A.in1.handled=none from h] |rw[h]
 refine Ad (AK (KZ ?_));refine Ad (DZ (T := "StopIteration") (b:=true) ⟨_,AA _ rfl,rfl⟩ J5 ?_);refine AK (f _ ?_);refine Heap.ExtBut.push (Heap.ExtBut.push ?_ _) _;intro b o B e;exact (Cc _ _ (Bm B)).trans ((Cc _ _ (Bm B)).trans e)
theorem rA {T t:Ac}{i:Int}{Q:Aa->Ae->Prop}(hit:s.heap.kJ T t i)(h:Q (.ref T) s):AJ (model prog w) A (HX (.ref T)) Q E s:=by
 refine wpAny_pyIter_slot hit.typeIs F.rD (CD F.rD hit.typeIs F.vO ?_ (F.xP _));show AJ _ _ (ret (.ref T)) _ _ s
 exact AK ⟨_,rfl,"reversed",_,hit.typeIs,F.gY.lookup,h⟩
end
end PySem
namespace L2
open PySem PySem.Spec PyProof.Rows
noncomputable def Ŏ (K:Ar)(a:Ac)(n:Nat):It:=
 ⟨λi H=>∃xs x,jO K H a xs/\xs.length=n/\i<n/\xs[n-1-i]?=some x,λi H x c=>c=H/\∀xs,jO K H a xs->xs[n-1-i]?=some x,λi _=>n<=i⟩
theorem ON {P:AE}{w:AU}{K:Ar}{tg:Expr}(a it:Ac)(n:Nat):tj P w K tg (Ŏ K a n) [it] it (λi h=>i<=n/\h.kJ it a ((n:Int)-1-(i:Nat))) where
 mem:=by simp
 obj := λi h st b hb=>by
  have e:b=it:=by simpa using hb
  subst e;exact⟨_,st.2,λv z=>by
   have z':Ho _=Ih v:=z;cases z'⟩
 keep:=λi h h' st k=>⟨st.1,k it (by simp) _ st.2⟩
 item:=by
  kj_on
  obtain⟨xs,x,hq,hn,hi,hx⟩:=hg;obtain⟨UT,rv,p,hz⟩:=I.tuple hq;obtain⟨u,hu,ru⟩:=rv.get hx;obtain⟨f0,f1,f2,f3,f4,f5⟩:=hf it (by simp);have hl:=rv.length;have uN:s.heap.kJ it a (((n-1-i:Nat)):Int):=by
   have e:(((n-1-i:Nat)):Int)=(n:Int)-1-(i:Nat):=by lia
   rw[e];exact st.2
  refine zJ (items:=UT.toArray) uN p (by rw[Aq,<- hl];exact hz) (x:=u) (by simpa using hu) λh' tk uO sb=>?_
  have I1:bA X pins Y H {s with heap:=h',toks:=tk}:=I.turned (λb o hb e=>(sb.2 b hb).trans e) f0 f1 f3 f4 f5;have LN:h'.kJ it a ((n:Int)-1-((i+1:Nat):Int)):=by
   have e:(n:Int)-1-((i+1:Nat):Int)=(((n-1-i:Nat)):Int)-1:=by lia
   rw[e];exact uO
  exact⟨u,rfl,oT (s:={s with heap:=h',toks:=tk}) (n := "reversed") uO rfl rfl (by decide) ⟨x,H,I1,ru,⟨rfl,λys hy=>by rw[I.tz hy hq];exact hx⟩,⟨by lia,LN⟩,λb hb=>(hf b hb).1⟩⟩
 done:=by
  kj_on
  obtain⟨f0,f1,f2,f3,f4,f5⟩:=hf it (by simp);have uN:s.heap.kJ it a (-1):=by
   have h1:=st.1;have h2:n<=i:=hg;have e:(-1:Int)=(n:Int)-1-(i:Nat):=by lia
   rw[e];exact st.2
  exact ND (I.ok.hd hc) uN λh' eb=>⟨rfl,I.turned (t':=s.toks) (λb o hb e=>eb b o hb e) f0 f1 f3 f4 f5⟩
 self:=λ_ _ _ _ _ st h=>rA st.2 h
section
variable {X:Cx}{tg:Expr}
def YA (K:Ar)(t:TA):TI:=λY H R=>t Y H λvs c=>∃a xs,vs=[.ref a]/\jO K c a xs/\R (Ŏ K a xs.length) c
theorem xt {l:Expr}{T:TA}{p pos:DR}(hg:Gl X "reversed")(M:X.mg "reversed"=none)(A:PA X [l] T)(m:Av [l] X.env=[(false,eval l X.env)]:=by rfl):PI X tg (.Call (.Name "reversed" p) [l] [] pos) (YA X.K T):=by
 intro pins s Y H R I h;refine Hh (f9 I hg M DI (A9 (cK (A pos pins s Y H _ I h) λus c z=>?_) m rfl));obtain⟨vs,v,f,j,Q⟩:=z;obtain⟨a,xs,e,n,q⟩:=Q;subst e;obtain⟨u,rfl,U⟩:=iM j;cases U;obtain⟨t,r,pt,k⟩:=f.tuple n;have hl:=r.length;refine lh (items:=t.toArray) pt (by rw[Aq,<- hl];exact k) λtk=>?_
 have g:(c.heap.push (kz a ((t.toArray.size:Int)-1))).kJ c.heap.objs.size a ((xs.length:Int)-1-((0:Nat):Int)):=by
  have e:(xs.length:Int)-1-((0:Nat):Int)=(t.toArray.size:Int)-1:=by rw[Aq,hl];lia
  rw[e];exact AA _ rfl
 refine rA g ?_;refine⟨c.heap.objs.size,[c.heap.objs.size],_,_,v,rfl,f.kept λb o e=>Af _ e,ON a _ xs.length,⟨Bv _,g⟩,λb B=>?_,q⟩;have e:b=c.heap.objs.size:=by simpa using B
 subst e;exact f.pz (Ak _) (f.cY.fresh (Ak _))
end
theorem a6.lO {K:Ar}{H c:Hp}{a:Ac}{xs:List V}(e:a6 H c)(h:jO K H a xs):jO K c a xs:=by
 rcases h with (h | ⟨o,h⟩) |h
 .exact .inl (.inl (e _ _ h))
 .exact .inl (.inr ⟨o,e _ _ h⟩)
 .exact .inr h
theorem aV {X:Cx}{x:Am}{i:Int}{pos:DR}(hg:Gl X x)(h:∃t,X.mg x=some (.int i t))(hd:(x==("__debug__":Am))=false:=by decide):PE X (.Name x pos) (tC (.int i)):=by
 obtain⟨t,e⟩:=h;exact vn hg e ⟨t,rfl⟩ hd
def nv (l:Ac)(H a:Hp):Prop:=∀b o,b≠l->H b=some o->a b=some o
theorem nv.trans {l:Ac}{H f e:Hp}(a:nv l H f)(b:nv l f e):nv l H e:=λc o hc h=>b c o hc (a c o hc h)
noncomputable def pV:AW->Am
 | .FunctionDef n _ _ _ _ _ _ _ _ _=>n
 |_ => ""
noncomputable abbrev fD (q:Am)(st:AW)(l:List (Am×Ac))(o pm:Aa)(c:Ac)(t:Aa):Co:=PySem.W.fnMade (pV st) q (bZ st) (bx st) (aA st) l o pm c t
def sj (F:Hp)(c:List (Am×Ac))(vs:List V):Prop:=∀(i:Nat) (v:V),vs[i]?=some v->∃x a o u,c[i]?=some (x,a)/\F a=some (.fC o (.own a))/\o.data = .cell (some u)/\cv v u
inductive D where
 |int (i:Int) |bl (b:Bool) |cn |str (x:Am) |ty (n:String) |fn (x:Am) |tup (ds:List D) |lst (ds:List D) |Oz |exc (c:Am) |obj (c:Am) (ns:List Am) (ds:List D) |pW (q:Am) (st:AW) (cl:List (Am×Ac)) (ds:List D)
def ux (a:Ac)(c:Aa):Heap->Prop:=λh=>∃o,h.get? a=some o/\o.cls=c
mutual
def dP (K:Ar)(F:Hp):D->V->Prop
 | .int i,v=>v = .int i
 | .bl b,v=>v = .bl b
 | .cn,v=>v = .cn
 | .str x,v=>v = .str x
 | .ty n,v=>v = .ty n
 | .fn x,v=>∃f,v = .ref f/\Cq K Ai x=some (some (.ref f))
 | .tup ds,v=>∃a vs,v = .ref a/\jO K F a vs/\bE K F ds vs
 | .lst ds,v=>∃a vs,v = .ref a/\eR K F a vs/\bE K F ds vs
 | .Oz,v=>∃a,v = .ref a/\F a=some (.ext (ux a (.type "dict")))
 | .exc c,v=>∃a C,v = .ref a/\Cq K Ai c=some (some (.ref C))/\F a=some (.ext (ux a (.ref C)))
 | .obj c ns ds,v=>∃a C e vs,v = .ref a/\Cq K Ai c=some (some (.ref C))/\F a=some (.ins C e (ns.zip vs))/\ds.length<=ns.length/\bE K F ds vs
 | .pW q st l ds,v=>∃f c O o pm t vs,v = .ref f/\F f=some (.fC (fD q st l o pm c t) (.own f))/\F c=some (.fC O (.own c))/\rL O q/\bE K F ds vs/\sj F l vs
def bE (K:Ar)(F:Hp):List D->List V->Prop
 | [],vs=>vs=[]
 |d::ds,vs=>∃v r,vs=v::r/\dP K F d v/\bE K F ds r
end
section
variable {K:Ar}{F F' H H':Hp}
mutual
theorem dP.mono (s:a6 F F'): ∀{d:D} {v:V},dP K F d v->dP K F' d v
 | .int _,_,h=>h
 | .bl _,_,h=>h
 | .cn,_,h=>h
 | .str _,_,h=>h
 | .ty _,_,h=>h
 | .fn _,_,h=>h
 | .tup ds,v,h=>by
  obtain⟨a,vs,e,h1,h2⟩:=h;exact⟨a,vs,e,s.lO h1,bE.mono s h2⟩
 | .lst ds,v,h=>by
  obtain⟨a,vs,e,h1,h2⟩:=h;exact⟨a,vs,e,s.seq h1,bE.mono s h2⟩
 | .Oz,v,h=>by
  obtain⟨a,e,h1⟩:=h;exact⟨a,e,s _ _ h1⟩
 | .exc _,v,h=>by
  obtain⟨a,C,e,g,h1⟩:=h;exact⟨a,C,e,g,s _ _ h1⟩
 | .obj _ _ ds,v,h=>by
  obtain⟨a,C,r,vs,e,g,h1,hl,h2⟩:=h;exact⟨a,C,r,vs,e,g,s _ _ h1,hl,bE.mono s h2⟩
 | .pW _ _ _ ds,v,h=>by
  obtain⟨f,c,j,O,pm,t,vs,e,h1,h2,m,l,k⟩:=h;exact⟨f,c,j,O,pm,t,vs,e,s _ _ h1,s _ _ h2,m,bE.mono s l,λi v hi=>let⟨x,a,o,u,q,p,n⟩:=k i v hi;⟨x,a,o,u,q,s _ _ p,n⟩⟩
theorem bE.mono (s:a6 F F'): ∀{ds:List D} {vs:List V},bE K F ds vs->bE K F' ds vs
 | [],_,h=>h
 |d::ds,vs,h=>by
  obtain⟨v,r,e,h1,h2⟩:=h;exact⟨v,r,e,dP.mono s h1,bE.mono s h2⟩
end
theorem bE.length:∀{ds:List D} {vs:List V},bE K F ds vs->ds.length=vs.length
 | [],_,h=>by cases h;rfl
 |d::ds,vs,h=>by
  obtain⟨v,r,rfl,h1,h2⟩:=h;simp[bE.length h2]
theorem bE.get:∀{ds:List D} {vs:List V} {i:Nat} {d:D},bE K F ds vs->ds[i]?=some d->∃v,vs[i]?=some v/\dP K F d v
 | [],_,_,_,_,e=>by simp at e
 |d::ds,vs,i,d',h,e=>by
  obtain⟨v,r,rfl,h1,h2⟩:=h
  cases i with
  |zero=>simp at e;subst e;exact⟨v,rfl,h1⟩
  |succ i=>simpa using bE.get h2 e
theorem bE.get':∀{ds:List D} {vs:List V} {i:Nat} {v:V},bE K F ds vs->vs[i]?=some v->∃d,ds[i]?=some d/\dP K F d v:=λ{ds vs i v} h e=>by
 have hl:=h.length;have hi:=(Ab.mp e).1;obtain⟨a,e',r⟩:=h.get (Ah (i:=i) (by lia));rw[e]at e';cases e';exact⟨_,Ah (by lia),r⟩
theorem bE.append:∀{ds e:List D} {vs us:List V},bE K F ds vs->bE K F e us->bE K F (ds++e) (vs++us)
 | [],_,_,_,h,g=>by cases h;exact g
 |d::ds,_,_,_,h,g=>by
  obtain⟨v,r,rfl,h1,h2⟩:=h;exact⟨v,r++_,rfl,h1,bE.append h2 g⟩
theorem bE.take:∀{ds:List D} {vs:List V} (n:Nat),bE K F ds vs->bE K F (ds.take n) (vs.take n)
 | [],_,n,h=>by cases h;simp[bE]
 |d::ds,_,0,h=>by simp[bE]
 |d::ds,_,n+1,h=>by
  obtain⟨v,r,rfl,h1,h2⟩:=h;exact⟨v,r.take n,rfl,h1,bE.take n h2⟩
theorem bE.drop:∀{ds:List D} {vs:List V} (n:Nat),bE K F ds vs->bE K F (ds.drop n) (vs.drop n)
 | [],_,n,h=>by cases h;simp[bE]
 |d::ds,_,0,h=>h
 |d::ds,_,n+1,h=>by
  obtain⟨v,r,rfl,h1,h2⟩:=h;simpa using bE.drop n h2
theorem bE.of:∀{ds:List D} {vs:List V},ds.length=vs.length->(∀(i:Nat) d v,ds[i]?=some d->vs[i]?=some v->dP K F d v)->bE K F ds vs
 | [],[],_,_=>rfl
 |d::ds,v::vs,e,h=>⟨v,vs,rfl,h 0 d v rfl rfl,bE.of (by simpa using e) λi d' a f c=>h (i+1) d' a f c⟩
 | [],_::_,e,_=>by simp at e
 |_::_,[],e,_=>by simp at e
theorem bE.reverse (h:bE K F ds vs): bE K F ds.reverse vs.reverse:=by
 have hl:=h.length;refine bE.of (by simp[hl]) λi d v e a=>?_
 have h1:=(Ab.mp e).1;rw[B8]at h1;rw[Cn (by omega)]at e;rw[Cn (by lia),<- hl]at a;obtain⟨c,e',r⟩:=h.get e;rw[a]at e';cases e';exact r
theorem gv:∀{xs:List Int} {vs:List V},bE K F (xs.map D.int) vs↔vs=xs.map V.int
 | [],vs=>JM
 |x :: xs,vs=>by
  constructor
  .rintro ⟨v,r,rfl,h1,h2⟩;have h:v=V.int x:=h1;rw[h,gv.mp h2];rfl
  .rintro rfl;exact⟨_,_,rfl,rfl,gv.mpr rfl⟩
end
noncomputable def R5:HO->Bool
 | .tup _=>true
 | .fC _ _=>true
 |_=>false
inductive OV where
 |fz (d:D)
 |nl (ts:List OV)
 |rt (a:Ac) (ts:List OV)
 |fx (v:V) (d:D)
 |ob (o:Option Ac) (c:Am) (ns:List Am) (ts:List OV)
mutual
noncomputable def OV.val:OV->D
 | .fz d=>d
 | .nl ts=>.lst (OV.vals ts)
 | .rt _ ts=>.lst (OV.vals ts)
 | .fx _ d=>d
 | .ob _ c ns ts=>.obj c ns (OV.vals ts)
noncomputable def OV.vals:List OV->List D
 | []=>[]
 |t::ts=>t.val::OV.vals ts
end
theorem OV.cm:∀(ts:List OV),OV.vals ts=ts.map OV.val
 | []=>by simp[OV.vals]
 |t::ts=>by simp[OV.vals,OV.cm ts]
mutual
def gr (K:Ar)(F H:Hp):OV->V->List Ac->Prop
 | .fz d,v,A=>A=[]/\dP K F d v
 | .nl ts,v,A=>∃a vs B,v = .ref a/\A=a::B/\H a=some (.lst vs)/\bg K F H ts vs B
 | .rt a ts,v,A=>∃vs B,v = .ref a/\A=a::B/\H a=some (.lst vs)/\bg K F H ts vs B
 | .fx u d,v,A=>A=[]/\v=u/\dP K F d v
 | .ob o c ns ts,v,A=>∃a C e vs B,v = .ref a/\A=a::e::B/\Cq K Ai c=some (some (.ref C))/\(∀f,o=some f->a=f)/\H a=some (.ins C e (ns.zip vs))/\H e=some (.own a)/\ts.length<=ns.length/\bg K F H ts vs B
def bg (K:Ar)(F H:Hp):List OV->List V->List Ac->Prop
 | [],vs,A=>vs=[]/\A=[]
 |t::ts,vs,A=>∃v r B C,vs=v::r/\A=B++C/\gr K F H t v B/\bg K F H ts r C
end
section
variable {K:Ar}{F F' H H':Hp}
mutual
theorem gr.frame (s:a6 F F'): ∀{t:OV} {v:V} {A:List Ac},(∀a∈A,∀xs,H a=some xs->H' a=some xs)->gr K F H t v A->gr K F' H' t v A
 | .fz d,v,A,_,h=>⟨h.1,h.2.mono s⟩
 | .nl ts,v,A,k,h=>by
  obtain⟨a,vs,B,e,rfl,h1,h2⟩:=h;exact⟨a,vs,B,e,rfl,k a AF _ h1,bg.frame s (λb f=>k b (Aj _ f)) h2⟩
 | .rt a ts,v,A,k,h=>by
  obtain⟨vs,B,e,rfl,h1,h2⟩:=h;exact⟨vs,B,e,rfl,k a AF _ h1,bg.frame s (λb f=>k b (Aj _ f)) h2⟩
 | .fx u d,v,A,_,h=>⟨h.1,h.2.1,h.2.2.mono s⟩
 | .ob o c ns ts,v,A,k,h=>by
  obtain⟨a,C,g,vs,B,e,rfl,l,O,h1,h2,hl,j⟩:=h;exact⟨a,C,g,vs,B,e,rfl,l,O,k a (by simp) _ h1,k g (by simp) _ h2,hl,bg.frame s (λb f=>k b (by simp[f])) j⟩
theorem bg.frame (s:a6 F F'): ∀{ts:List OV} {vs:List V} {A:List Ac},(∀a∈A,∀xs,H a=some xs->H' a=some xs)->bg K F H ts vs A->bg K F' H' ts vs A
 | [],vs,A,_,h=>h
 |t::ts,vs,A,k,h=>by
  obtain⟨v,r,B,C,e,rfl,h1,h2⟩:=h;exact⟨v,r,B,C,e,rfl,gr.frame s (λb c=>k b (By _ c)) h1,bg.frame s (λb c=>k b (AR _ c)) h2⟩
end
mutual
theorem gr.sq:∀{t:OV} {v:V} {A:List Ac},gr K F H t v A->∀a∈A,∃xs,H a=some xs/\R5 xs=false
 | .fz d,v,A,h,a,f=>by rw[h.1]at f;cases f
 | .nl ts,v,A,h,a,f=>by
  obtain⟨b,vs,B,e,rfl,h1,h2⟩:=h;rcases AB.mp f with rfl |z
  .exact ⟨_,h1,rfl⟩
  .exact bg.sq h2 a z
 | .rt b ts,v,A,h,a,f=>by
  obtain⟨vs,B,e,rfl,h1,h2⟩:=h;rcases AB.mp f with rfl |z
  .exact ⟨_,h1,rfl⟩
  .exact bg.sq h2 a z
 | .fx u d,v,A,h,a,f=>by rw[h.1]at f;cases f
 | .ob o c ns ts,v,A,h,a,f=>by
  obtain⟨b,C,k,vs,B,e,rfl,j,O,h1,h2,hl,g⟩:=h;rcases AB.mp f with rfl |z
  .exact ⟨_,h1,rfl⟩
  .rcases AB.mp z with rfl |z
   .exact ⟨_,h2,rfl⟩
   .exact bg.sq g a z
theorem bg.sq:∀{ts:List OV} {vs:List V} {A:List Ac},bg K F H ts vs A->∀a∈A,∃xs,H a=some xs/\R5 xs=false
 | [],vs,A,h,a,c=>by rw[h.2]at c;cases c
 |t::ts,vs,A,h,a,c=>by
  obtain⟨v,r,B,C,e,rfl,h1,h2⟩:=h;rcases Au.mp c with z |z
  .exact gr.sq h1 a z
  .exact bg.sq h2 a z
end
mutual
theorem gr.rep (s:a6 F F'): ∀{t:OV} {v:V} {A:List Ac},(∀a∈A,∀xs,H a=some xs->F' a=some xs)->gr K F H t v A->dP K F' t.val v
 | .fz d,v,A,_,h=>h.2.mono s
 | .nl ts,v,A,k,h=>by
  obtain⟨a,vs,B,e,rfl,h1,h2⟩:=h;exact⟨a,vs,e,eR.of (k a AF _ h1),bg.rep s (λb f=>k b (Aj _ f)) h2⟩
 | .fx u d,v,A,_,h=>h.2.2.mono s
 | .ob o c ns ts,v,A,k,h=>by
  obtain⟨a,C,l,vs,B,e,rfl,j,O,h1,h2,hl,g⟩:=h;exact⟨a,C,l,vs,e,j,k a (by simp) _ h1,by rw[OV.cm,Ay];exact hl,bg.rep s (λb f=>k b (by simp[f])) g⟩
 | .rt a ts,v,A,k,h=>by
  obtain⟨vs,B,e,rfl,h1,h2⟩:=h;exact⟨a,vs,e,eR.of (k a AF _ h1),bg.rep s (λb f=>k b (Aj _ f)) h2⟩
theorem bg.rep (s:a6 F F'):∀{ts:List OV} {vs:List V} {A:List Ac},(∀a∈A,∀xs,H a=some xs->F' a=some xs)->bg K F H ts vs A->bE K F' (OV.vals ts) vs
 | [],vs,A,_,h=>h.1
 |t::ts,vs,A,k,h=>by
  obtain⟨v,r,B,C,e,rfl,h1,h2⟩:=h;exact⟨v,r,e,gr.rep s (λb c=>k b (By _ c)) h1,bg.rep s (λb c=>k b (AR _ c)) h2⟩
end
theorem bg.length:∀{ts:List OV} {vs:List V} {A:List Ac},bg K F H ts vs A->ts.length=vs.length
 | [],_,_,h=>by rw[h.1];rfl
 |t::ts,_,_,h=>by
  obtain⟨v,r,B,C,rfl,rfl,h1,h2⟩:=h;simp[bg.length h2]
theorem bg.append:∀{ts us:List OV} {vs w:List V} {A B:List Ac},bg K F H ts vs A->bg K F H us w B->bg K F H (ts++us) (vs++w) (A++B)
 | [],_,_,_,_,_,h,g=>by obtain⟨rfl,rfl⟩:=h;exact g
 |t::ts,_,_,_,_,_,h,g=>by
  obtain⟨v,r,B,C,rfl,rfl,h1,h2⟩:=h;exact⟨v,_,B,_,rfl,by rw[BL],h1,bg.append h2 g⟩
theorem bg.one (h:gr K F H t v A): bg K F H [t] [v] A:=⟨v,[],A,[],rfl,by simp,h,rfl,rfl⟩
theorem bg.focus:∀{ts:List OV} {vs:List V} {A:List Ac} {i:Nat} {t:OV},bg K F H ts vs A->ts[i]?=some t->∃v j B g,vs[i]?=some v/\A=j++(B++g)/\gr K F H t v B/\
  ∀F' H' t' c f,a6 F F'->(∀a∈j++g,∀xs,H a=some xs->H' a=some xs)->gr K F' H' t' c f->bg K F' H' (ts.set i t') (vs.set i c) (j++(f++g))
 | [],_,_,_,_,_,e=>by simp at e
 |t::ts,_,_,0,T,h,e=>by
  obtain⟨v,r,B,C,rfl,rfl,h1,h2⟩:=h;simp at e
  subst e;refine⟨v,[],B,C,rfl,rfl,h1,λF' H' t' c f s l h'=>?_⟩;exact⟨c,r,f,C,rfl,rfl,h',bg.frame s (λa k=>l a k) h2⟩
 |t::ts,_,_,i+1,T,h,e=>by
  obtain⟨v,r,B,C,rfl,rfl,h1,h2⟩:=h;obtain⟨v0,j,p,g,o,rfl,n,m⟩:=bg.focus h2 e;refine⟨v0,B++j,p,g,o,by simp,n,λF' H' t' c f s l h'=>?_⟩;refine⟨v,r.set i c,B,j++(f++g),rfl,by simp,gr.frame s (λa k=>l a (by simp[k])) h1,m F' H' t' c f s (λa k=>l a ?_) h'⟩;rcases Au.mp k with z |z<;>simp[z]
theorem bg.ZW:∀{ds:List D} {vs:List V},bE K F ds vs->bg K F H (ds.map OV.fz) vs []
 | [],_,h=>⟨h,rfl⟩
 |d::ds,_,h=>by
  obtain⟨v,r,rfl,h1,h2⟩:=h;exact⟨v,r,[],[],rfl,rfl,⟨rfl,h1⟩,bg.ZW h2⟩
end
structure cP (F H F' H':Hp):Prop where
 ff:a6 F F'
 hh:a6 H H'
 fh:a6 F' H'
 no:∀a o,F a=none->H a=some o->R5 o=false->F' a=none
theorem cP.refl (s:a6 F H): cP F H F H:=⟨a6.refl _,a6.refl _,s,λ_ _ h _ _=>h⟩
theorem cP.trans (a:cP F H g f)(b:cP g f e c): cP F H e c:=
 ⟨a.ff.trans b.ff,a.hh.trans b.hh,b.fh,λx o h1 h2 h=>b.no x o (a.no x o h1 h2 h) (a.hh _ _ h2) h⟩
def fk (K:Ar)(H c e:Hp)(r:OV)(v:V):Prop:=∃A,gr K c e r v A/\A.Nodup/\∀a∈A,H a=none/\c a=none
theorem fk.fz {K:Ar}{H a c:Hp}{d:D}{v:V}(h:dP K a d v):fk K H a c (.fz d) v:=⟨[],⟨rfl,h⟩,CP,λ_ h=>by cases h⟩
theorem fk.old {K:Ar}{f H j g:Hp}{r:OV}{v:V}(s:a6 f H)(h:fk K H j g r v):fk K f j g r v:=by
 obtain⟨A,h1,h2,e⟩:=h;exact⟨A,h1,h2,λa c=>⟨s.free (e a c).1,(e a c).2⟩⟩
theorem fk.fC {K:Ar}{F H j g:Hp}{r:OV}{v:V}(x:cP F H j g)(h:fk K H j g r v):∃c,cP F H c g/\a6 j c/\dP K c r.val v:=by
 obtain⟨A,h1,h2,f⟩:=h;refine⟨λa=>if a∈A then g a else j a,⟨λb o e=>?_,x.hh,λb o e=>?_,λa o n l m=>?_⟩,λb o e=>?_,?_⟩
 .have B:b∉A:=λz=>by rw[(x.ff.free (f b z).2)]at e;cases e
  rw[if_neg B];exact x.ff _ _ e
 .split at e
  .exact e
  .exact x.fh _ _ e
 .have k:a∉A:=λz=>by rw[(f a z).1]at l;cases l
  rw[if_neg k];exact x.no a o n l m
 .have B:b∉A:=λz=>by rw[(f b z).2]at e;cases e
  try dsimp only
  rw[if_neg B];exact e
 .refine h1.rep (λb o e=>?_) λa k xs e=>?_
  .have B:b∉A:=λz=>by rw[(f b z).2]at e;cases e
   rw[if_neg B];exact e
  .rw [if_pos k];exact e
inductive Sl where
 |own (t:OV)
 |bw (d:D)
abbrev c7:=List (Option Sl)
structure ER (K:Ar) (F0 H0 F H:Hp) (Y:St) (δ:c7) (A:Nat->List Ac):Prop where
 len:Y.length=δ.length
 ext:cP F0 H0 F H
 own:∀(i:Nat) (t:OV),δ[i]?=some (some (.own t))->∃v,Y[i]?=some (some v)/\gr K F H t v (A i)
 bw:∀(i:Nat) (d:D),δ[i]?=some (some (.bw d))->∃v,Y[i]?=some (some v)/\dP K H0 d v
 i5:∀i,(A i).Nodup
 iY:∀i j a,i≠j->a∈A i->a∉A j
 new:∀i a,a∈A i->F a=none/\H0 a=none/\∃xs,H a=some xs/\R5 xs=false
def cp (K:Ar)(c a F H:Hp)(Y:St)(δ:c7):Prop:=∃A,ER K c a F H Y δ A
section
variable {K:Ar}{F0 H0 F H F' H':Hp}{Y:St}{δ:c7}{A:Nat->List Ac}
theorem ER.on (e:ER K F0 H0 F H Y δ A)(x:cP F H F' H'): ER K F0 H0 F' H' Y δ A where
 len:=e.len
 ext:=e.ext.trans x
 own:=λi t h=>by
  obtain⟨v,h1,h2⟩:=e.own i t h;exact⟨v,h1,h2.frame x.ff λa _ xs z=>x.hh _ _ z⟩
 bw:=e.bw
 i5:=e.i5
 iY:=e.iY
 new:=λi a ha=>by
  obtain⟨h1,h2,xs,h3,h4⟩:=e.new i a ha;exact⟨x.no a _ h1 h3 h4,h2,xs,x.hh _ _ h3,h4⟩
theorem cp.on (e:cp K F0 H0 F H Y δ)(x:cP F H F' H'): cp K F0 H0 F' H' Y δ:=let⟨A,e⟩:=e;⟨A,e.on x⟩
theorem cp.ext (e:cp K F0 H0 F H Y δ): cP F0 H0 F H:=let⟨_,e⟩:=e;e.ext
theorem cp.put (e:cp K F0 H0 F H Y δ)(x:cP F H F' H')(i:Nat)(h:fk K H F' H' r v): cp K F0 H0 F' H' (Y.set i (some v)) (δ.set i (some (.own r))):=by
 obtain⟨A,e⟩:=e;obtain⟨B,l,o,g⟩:=h;have e':=e.on x;refine⟨λj=>if j=i then B else A j,by simp[e.len],e'.ext,λj t J=>?_,λj d J=>?_,λj=>?_,λj k a f h1 h2=>?_,λj a c=>?_⟩
 .by_cases z:j=i
  .subst z;rw[if_pos rfl];have hl:j<δ.length:=by
    have:=(Ab.mp J).1
    rwa[BD]at this
   rw[Az hl]at J;cases J;exact⟨v,Az (by rw[e.len];exact hl),l⟩
  .rw [if_neg z];rw[AL (Bm z)]at J ⊢;exact e'.own j t J
 .by_cases z:j=i
  .subst z;have hl:j<δ.length:=by
    have:=(Ab.mp J).1
    rwa[BD]at this
   rw[Az hl]at J;cases J
  .rw [AL (Bm z)]at J ⊢;exact e'.bw j d J
 .split
  .exact o
  .exact e.i5 j
 .have key:∀k,a∈B->a∈A k->False:=λk n m=>by
   obtain⟨_,_,xs,q,_⟩:=e.new k a m;rw[(g a n).1]at q;cases q
  split at h1
  .split at h2
   .lia
   .exact key _ h1 h2
  .split at h2
   .exact key _ h2 h1
   .exact e.iY j k a f h1 h2
 .split at c
  .exact ⟨(g a c).2,e.ext.hh.free (g a c).1,l.sq a c⟩
  .exact e'.new j a c
theorem ER.Yd (e:ER K F0 H0 F H Y δ A)(i:Nat)(h:dP K F d v): ER K F0 H0 F H (Y.set i (some v)) (δ.set i (some (.own (.fz d)))) (λj=>if j=i then [] else A j):=by
 refine⟨by simp[e.len],e.ext,λj t J=>?_,λj d J=>?_,λj=>?_,λj k a c h1 h2=>?_,λj a f=>?_⟩
 .by_cases z:j=i
  .subst z;rw[if_pos rfl];have hl:j<δ.length:=by
    have:=(Ab.mp J).1
    rwa[BD]at this
   rw[Az hl]at J;cases J;exact⟨v,Az (by rw[e.len];exact hl),rfl,h⟩
  .rw [if_neg z];rw[AL (Bm z)]at J ⊢;exact e.own j t J
 .by_cases z:j=i
  .subst z;have hl:j<δ.length:=by
    have:=(Ab.mp J).1
    rwa[BD]at this
   rw[Az hl]at J;cases J
  .rw [AL (Bm z)]at J ⊢;exact e.bw j d J
 .split
  .exact CP
  .exact e.i5 j
 .split at h1
  .cases h1
  .split at h2
   .cases h2
   .exact e.iY j k a c h1 h2
 .split at f
  .cases f
  .exact e.new j a f
end
abbrev DE:=c7->(D->Prop)->Prop
abbrev DO:=c7->(OV->Prop)->Prop
abbrev DA:=c7->(List D->Prop)->Prop
abbrev XJ:=c7->(List OV->Prop)->Prop
abbrev DT:=c7->(Bool->Prop)->Prop
structure MY where
 nx:c7->Prop
 rt:OV->Prop
 bk:c7->Prop:=λ_=>False
 ct:c7->Prop:=λ_=>False
abbrev DS:=MY->c7->Prop
section
variable (K:Ar)
def eF (t:TE)(E:DO):Prop:=∀f e F H Y δ P Q,cp K f e F H Y δ->E δ P->(∀r v c a,P r->cP F H c a->fk K H c a r v->Q v a)->t Y H Q
def cH (t:TE)(E:DE):Prop:=∀f e F H Y δ P Q,cp K f e F H Y δ->E δ P->(∀d v c a,P d->cP F H c a->dP K c d v->Q v a)->t Y H Q
def dM (t:TE)(E:DE):Prop:=∀e c F H Y δ P Q,cp K e c F H Y δ->E δ P->(∀d v f a,P d->cP F H f a->dP K a d v->Q v a)->t Y H Q
def ll (t:TT)(C:DT):Prop:=∀e c F H Y δ P Q,cp K e c F H Y δ->C δ P->(∀b f a,P b->cP F H f a->Q b a)->t Y H Q
def dN (t:TA)(E:DA):Prop:=∀f e F H Y δ P Q,cp K f e F H Y δ->E δ P->(∀ds vs c a,P ds->cP F H c a->bE K c ds vs->Q vs a)->t Y H Q
def kH (t:TA)(E:DA):Prop:=∀e c F H Y δ P Q,cp K e c F H Y δ->E δ P->(∀ds vs f a,P ds->cP F H f a->bE K a ds vs->Q vs a)->t Y H Q
def Zr (H c e:Hp)(r:List OV)(vs:List V):Prop:=∃A,bg K c e r vs A/\A.Nodup/\∀a∈A,H a=none/\c a=none
def MV (t:TA)(E:XJ):Prop:=∀f e F H Y δ P Q,cp K f e F H Y δ->E δ P->(∀r vs c a,P r->cP F H c a->Zr K H c a r vs->Q vs a)->t Y H Q
structure Lk (F0 H0:Hp) (De:MY) (E:yA):Prop where
 nx:∀F H Y δ,cp K F0 H0 F H Y δ->De.nx δ->E.nx Y H
 bk:∀F H Y δ,cp K F0 H0 F H Y δ->De.bk δ->E.bk Y H
 ct:∀F H Y δ,cp K F0 H0 F H Y δ->De.ct δ->E.ct Y H
 rt:∀F H r v,cP F0 H0 F H->fk K H0 F H r v->De.rt r->E.rt v H
def bR (t:TS)(T:DS):Prop:=∀c a F H Y δ e E,cp K c a F H Y δ->Lk K c a e E->T e δ->t E Y H
def ow (c a:Hp)(t:TS)(T:DS):Prop:=∀F H Y δ e n,cp K c a F H Y δ->Lk K c a e n->T e δ->t n Y H
def uI (f e:Hp)(t:TE)(E:DO):Prop:=∀F H Y δ P Q,cp K f e F H Y δ->E δ P->(∀r v c a,P r->cP F H c a->fk K H c a r v->Q v a)->t Y H Q
def lL (TF:Hp->Prop)(t:TS)(T:DS):Prop:=∀a c,TF a->ow K a c t T
def yx (TF:Hp->Prop)(t:TE)(E:DO):Prop:=∀a c,TF a->uI K a c t E
abbrev MT (TF:Hp->Prop):Prop:=∀F a,a6 F a->TF F->TF a
def yy (g:TG)(G:D->c7->(c7->Prop)->Prop):Prop:=∀h f F H Y δ A d v P Q,ER K h f F H Y δ A->dP K F d v->G d δ P->(∀e c j,P c->ER K h f F H e c j->(∀i a,a∈j i->a∈A i)->Q e H)->g v Y H Q
def MU (g:Vk)(G:List D->c7->(c7->Prop)->Prop):Prop:=∀h f F H Y δ A ds vs P Q,ER K h f F H Y δ A->bE K F ds vs->G ds δ P->(∀e c j,P c->ER K h f F H e c j->(∀i a,a∈j i->a∈A i)->Q e H)->g vs Y H Q
end
section
variable {K:Ar}{t ta tb tc:TE}{E Ea Eb Ec:DE}
def Z2 (E:DE):DO:=λδ P=>E δ λd=>P (.fz d)
def TM (E:DO):DE:=λδ P=>E δ λr=>P r.val
theorem aH (h:cH K t E): dM K t E:=λf a F H Y δ P Q e w q=>h f a F H Y δ P Q e w λd v g c p x r=>q d v g c p x (r.mono x.fh)
theorem aW (h:cH K t E): eF K t (Z2 E):=λf a F H Y δ P Q e w q=>h f a F H Y δ _ Q e w λd v g c p x r=>q _ v g c p x (.fz r)
theorem bB {E:DO}(h:eF K t E):cH K t (TM E):=λk g F H Y δ P Q e w q=>h k g F H Y δ _ Q e w λd v l j p x r=>by
 obtain⟨a,c,_,f⟩:=r.fC x;exact q _ v a j p c f
mutual
noncomputable def D.lf:D->Bool
 | .tup ds=>D.hI ds
 | .lst _=>false
 | .Oz=>false
 | .exc _=>false
 | .obj _ _ _=>false
 | .pW _ _ _ _=>false
 |_=>true
noncomputable def D.hI:List D->Bool
 | []=>true
 |d::ds=>d.lf && D.hI ds
end
noncomputable def l4 (F H:Hp):Hp:=λa=>match F a with
 |some o=>some o
 |none=>match H a with
  |some o=>if R5 o=true then some o else none
  |none=>none
theorem fR (s:a6 F H): cP F H (l4 F H) H:=by
 refine⟨λb o e=>?_,a6.refl _,λb o e=>?_,λa o g f c=>?_⟩
 .unfold l4;rw[e]
 .unfold l4 at e
  cases q:F b with
  |some O=>rw[q]at e;rw[<- e];exact s _ _ q
  |none=>
   rw[q]at e
   cases Q:H b with
   |none=>rw[Q]at e;cases e
   |some O=>
    rw[Q]at e;dsimp only at e;split at e
    .exact e
    .cases e
 .unfold l4;rw[g,f];dsimp only;rw[c];rfl
theorem x6 (s:a6 F H)(h:H a=some o)(hi:R5 o=true): l4 F H a=some o:=by
 unfold l4
 cases q:F a with
 |some O=>rw[s _ _ q]at h;exact h
 |none=>rw[h];dsimp only;rw[hi];rfl
theorem NR (s:a6 F H)(h:jO K H a xs): jO K (l4 F H) a xs:=by
 rcases h with (h | ⟨o,h⟩) |h
 .exact .inl (.inl (x6 s h rfl))
 .exact .inl (.inr ⟨o,x6 s h rfl⟩)
 .exact .inr h
mutual
theorem dP.lf (s:a6 F H): ∀{d:D} {v:V},dP K H d v->d.lf=true->dP K (l4 F H) d v
 | .int _,_,h,_=>h
 | .bl _,_,h,_=>h
 | .cn,_,h,_=>h
 | .str _,_,h,_=>h
 | .ty _,_,h,_=>h
 | .fn _,_,h,_=>h
 | .tup ds,v,h,z=>by
  obtain⟨a,vs,e,h1,h2⟩:=h;exact⟨a,vs,e,NR s h1,bE.lf s h2 (by simpa[D.lf] using z)⟩
 | .lst ds,v,h,z=>by simp[D.lf]at z
 | .Oz,v,h,z=>by simp[D.lf]at z
 | .exc _,v,h,z=>by simp[D.lf]at z
 | .obj _ _ _,v,h,z=>by simp[D.lf]at z
 | .pW _ _ _ _,v,h,z=>by simp[D.lf]at z
theorem bE.lf (s:a6 F H): ∀{ds:List D} {vs:List V},bE K H ds vs->D.hI ds=true->bE K (l4 F H) ds vs
 | [],_,h,_=>h
 |d::ds,vs,h,z=>by
  obtain⟨v,r,e,h1,h2⟩:=h;simp[D.hI]at z
  exact⟨v,r,e,dP.lf s h1 z.1,bE.lf s h2 z.2⟩
end
theorem D.gZ:∀(ds:List D),D.hI ds=ds.all D.lf
 | []=>rfl
 |d::ds=>by simp[D.hI,D.gZ ds]
def Ņ (E:DE):DE:=λδ P=>E δ λd=>d.lf=true/\P d
theorem L_ (h:dM K t E): cH K t (Ņ E):=λf a F H Y δ P Q e w q=>h f a F H Y δ _ Q e w λd v g c p x r=>
 q d v _ c p.2 (x.trans (fR x.fh)) (dP.lf x.fh r p.1)
def dV (i:Nat):DE:=λδ P=>match δ[i]? with
 |some (some (.own (.fz d)))=>P d
 |some (some (.own (.fx _ d)))=>P d
 |_=>False
def dB (i:Nat):DE:=λδ P=>match δ[i]? with
 |some (some (.own t))=>P t.val
 |some (some (.bw d))=>P d
 |_=>False
theorem aC:cH K (eT i) (dV i):=λc a F H Y δ P Q ⟨A,e⟩ w q=>by
 unfold dV at w;split at w
 .rename_i d hd;obtain⟨v,h1,h2⟩:=e.own i _ hd;exact⟨v,h1,q d v F H w (cP.refl e.ext.fh) h2.2⟩
 .rename_i u d hd;obtain⟨v,h1,h2⟩:=e.own i _ hd;exact⟨v,h1,q d v F H w (cP.refl e.ext.fh) h2.2.2⟩
 .exact w.elim
theorem ax:dM K (eT i) (dB i):=λf c F H Y δ P Q ⟨A,e⟩ w q=>by
 unfold dB at w;split at w
 .rename_i t hd;obtain⟨v,h1,h2⟩:=e.own i _ hd;exact⟨v,h1,q _ v F H w (cP.refl e.ext.fh) (h2.rep e.ext.fh λa _ xs z=>z)⟩
 .rename_i d hd;obtain⟨v,h1,h2⟩:=e.bw i _ hd;exact⟨v,h1,q _ v F H w (cP.refl e.ext.fh) (h2.mono e.ext.hh)⟩
 .exact w.elim
def dC (d:D):DE:=λ_ P=>P d
theorem PQ (h:∀F,dP K F d v): cH K (tC v) (dC d):=λc a F H Y δ P Q e w q=>q d v F H w (cP.refl e.ext.fh) (h _)
theorem az:cH K (tC (.int i)) (dC (.int i)):=PQ λ_=>rfl
theorem dI:cH K (tC (.bl b)) (dC (.bl b)):=PQ λ_=>rfl
theorem fZ:cH K (tC .cn) (dC .cn):=PQ λ_=>rfl
theorem fY:cH K (tC (.str x)) (dC (.str x)):=PQ λ_=>rfl
theorem fO:cH K (tC (.ty n)) (dC (.ty n)):=PQ λ_=>rfl
abbrev wz:=D->D->(D->Prop)->Prop
def yE (K:Ar)(R:R2)(r:wz):Prop:=∀F H x y v u P Q,a6 F H->dP K H x v->dP K H y u->r x y P->(∀d w c a,P d->cP F H c a->dP K c d w->Q w a)->R v u H Q
def Ŋ (K:Ar)(R:R2)(r:wz):Prop:=∀H x y v u P Q,dP K H x v->dP K H y u->r x y P->(∀d w,P d->dP K H d w->Q w H)->R v u H Q
def Zc (r:wz)(Ea Eb:DE):DE:=λδ P=>Ea δ λx=>Eb δ λy=>r x y P
theorem aJ (h:yE K R r)(A:dM K ta Ea)(B:dM K tb Eb): cH K (LK R ta tb) (Zc r Ea Eb):=λg f F H Y δ P Q e w q=>
 A g f F H Y δ _ _ e w λx v L C l c n=>B g f L C Y δ _ _ (e.on c) l λy u J z k a m=>
  h J z x y v u P _ a.fh (n.mono a.hh) m k λd w M G p j o=>q d w M G p (c.trans (a.trans j)) o
theorem a_ (h:Ŋ K R r)(A:dM K ta Ea)(B:dM K tb Eb): dM K (LK R ta tb) (Zc r Ea Eb):=λj g F H Y δ P Q e w q=>
 A j g F H Y δ _ _ e w λx v G z l c n=>B j g G z Y δ _ _ (e.on c) l λy u C f k a m=>
  h f x y v u P _ (n.mono a.hh) m k λd w p o=>q d w C f p (c.trans a) o
def VY (g:Int->Int->D):wz:=λx y P=>match x,y with
 | .int i,.int j=>P (g i j)
 |_,_=>False
def Qe (C:Int->Int->Prop)(g:Int->Int->D):wz:=λx y P=>match x,y with
 | .int i,.int j=>C i j/\P (g i j)
 |_,_=>False
theorem Mc {g:Int->Int->D}{P:D->Prop}(h:VY g x y P): ∃i j,x = .int i/\y = .int j/\P (g i j):=by
 unfold VY at h;split at h
 .exact ⟨_,_,rfl,rfl,h⟩
 .exact h.elim
theorem Qd {C:Int->Int->Prop}{g:Int->Int->D}{P:D->Prop}(h:Qe C g x y P): ∃i j,x = .int i/\y = .int j/\C i j/\P (g i j):=by
 unfold Qe at h;split at h
 .exact ⟨_,_,rfl,rfl,h.1,h.2⟩
 .exact h.elim
theorem UP {g:Int->Int->V}{g':Int->Int->D}(hg:∀F i j,dP K F (g' i j) (g i j)): yE K (Nk g) (VY g'):=λF H x y v u P Q s a r w q=>by
 obtain⟨i,j,rfl,rfl,p⟩:=Mc w;exact⟨i,j,a,r,q _ _ F H p (cP.refl s) (hg _ _ _)⟩
theorem Ö {C:Int->Int->Prop}{g:Int->Int->V}{g':Int->Int->D}(hg:∀F i j,dP K F (g' i j) (g i j)): yE K (rI C g) (Qe C g'):=λF H x y v u P Q s a r w q=>by
 obtain⟨i,j,rfl,rfl,c,p⟩:=Qd w;exact⟨i,j,a,r,c,q _ _ F H p (cP.refl s) (hg _ _ _)⟩
theorem b9 {g:Int->Int->Int}: yE K (Nk λi j=>.int (g i j)) (VY λi j=>.int (g i j)):=UP λ_ _ _=>rfl
theorem cj {C:Int->Int->Prop}{g:Int->Int->Int}: yE K (rI C λi j=>.int (g i j)) (Qe C λi j=>.int (g i j)):=Ö λ_ _ _=>rfl
theorem c0 {g:Int->Int->Bool}: yE K (Nk λi j=>.bl (g i j)) (VY λi j=>.bl (g i j)):=UP λ_ _ _=>rfl
def VZ:wz:=λx y P=>match x,y with
 | .int i,.int j=>P (.bl (decide (i=j)))
 | .str i,.str j=>P (.bl (decide (i=j)))
 | .bl i,.bl j=>P (.bl (decide (i=j)))
 |_,_=>False
def VV:wz:=λx y P=>match x,y with
 | .int i,.int j=>P (.bl (!decide (i=j)))
 | .str i,.str j=>P (.bl (!decide (i=j)))
 | .bl i,.bl j=>P (.bl (!decide (i=j)))
 |_,_=>False
theorem OF:decide (V.int i=V.int j)=decide (i=j):=by
 by_cases h:i=j
 .subst h;simp
 .rw [decide_eq_false h,decide_eq_false λz=>h (by injection z)]
theorem OE:decide (V.str i=V.str j)=decide (i=j):=by
 by_cases h:i=j
 .subst h;simp
 .rw [decide_eq_false h,decide_eq_false λz=>h (by injection z)]
theorem Uh:decide (V.bl i=V.bl j)=decide (i=j):=by
 by_cases h:i=j
 .subst h;simp
 .rw [decide_eq_false h,decide_eq_false λz=>h (by injection z)]
theorem fQ:yE K Ĝ VZ:=λF H x y v u P Q s a r w q=>by
 unfold VZ at w;split at w
 .cases a;cases r;exact⟨rfl,by rw[OF];exact q _ _ F H w (cP.refl s) rfl⟩
 .cases a;cases r;exact⟨rfl,by rw[OE];exact q _ _ F H w (cP.refl s) rfl⟩
 .cases a;cases r;exact⟨rfl,by rw[Uh];exact q _ _ F H w (cP.refl s) rfl⟩
 .exact w.elim
theorem jF:yE K Ě VV:=λF H x y v u P Q s a r w q=>by
 unfold VV at w;split at w
 .cases a;cases r;exact⟨rfl,by rw[OF];exact q _ _ F H w (cP.refl s) rfl⟩
 .cases a;cases r;exact⟨rfl,by rw[OE];exact q _ _ F H w (cP.refl s) rfl⟩
 .cases a;cases r;exact⟨rfl,by rw[Uh];exact q _ _ F H w (cP.refl s) rfl⟩
 .exact w.elim
noncomputable def D.My:D->Bool
 | .cn=>true
 |_=>false
def VW:wz:=λx y P=>match y with
 | .cn=>P (.bl x.My)
 |_=>False
def Qb:wz:=λx y P=>match y with
 | .cn=>P (.bl (!x.My))
 |_=>False
theorem uf:∀{x:D} {v:V},dP K F x v->decide (v = .cn)=x.My
 | .int _,_,h=>by rw[show _=V.int _ from h];rfl
 | .bl _,_,h=>by rw[show _=V.bl _ from h];rfl
 | .cn,_,h=>by rw[show _=V.cn from h];rfl
 | .str _,_,h=>by rw[show _=V.str _ from h];rfl
 | .ty _,_,h=>by rw[show _=V.ty _ from h];rfl
 | .fn _,_,h=>by obtain⟨f,rfl,_⟩:=h;rfl
 | .tup _,_,h=>by obtain⟨a,vs,rfl,_⟩:=h;rfl
 | .lst _,_,h=>by obtain⟨a,vs,rfl,_⟩:=h;rfl
 | .Oz,_,h=>by obtain⟨a,rfl,_⟩:=h;rfl
 | .exc _,_,h=>by obtain⟨a,C,rfl,_⟩:=h;rfl
 | .obj _ _ _,_,h=>by obtain⟨a,C,c,vs,rfl,_⟩:=h;rfl
 | .pW _ _ _ _,_,h=>by obtain⟨_,_,_,_,_,_,_,rfl,_⟩:=h;rfl
theorem QO:yE K (λx y H Q=>y = .cn/\Q (.bl (decide (x = .cn))) H) VW:=λF H x y v u P Q s a r w q=>by
 unfold VW at w;split at w
 .refine ⟨r,?_⟩;rw[uf a];exact q _ _ F H w (cP.refl s) rfl
 .exact w.elim
theorem vG:yE K (λx y H Q=>y = .cn/\Q (.bl (!decide (x = .cn))) H) Qb:=λF H x y v u P Q s a r w q=>by
 unfold Qb at w;split at w
 .refine ⟨r,?_⟩;rw[uf a];exact q _ _ F H w (cP.refl s) rfl
 .exact w.elim
def Ł (r:D->(D->Prop)->Prop)(Ea:DE):DE:=λδ P=>Ea δ λx=>r x P
def Ñ (g:Int->D):D->(D->Prop)->Prop:=λx P=>match x with
 | .int i=>P (g i)
 |_=>False
theorem gP {g:Int->Int}(h:dM K ta Ea): cH K (Ĕ (rU λi=>.int (g i)) ta) (Ł (Ñ λi=>.int (g i)) Ea):=λl j F H Y δ P Q e w q=>
 h l j F H Y δ _ _ e w λx v k f a c r=>by
  unfold Ñ at a;split at a
  .exact ⟨_,r,q _ _ k f a c rfl⟩
  .exact a.elim
def Z0 (E:DE):DT:=λδ P=>E δ λd=>match d with
 | .bl b=>P b
 |_=>False
theorem Uw (h:cH K t E): ∀(f c F H:Hp) (Y:St) (δ:c7) (P:Bool->Prop) (Q:Bool->Hp->Prop),cp K f c F H Y δ->Z0 E δ P->(∀b g a,P b->cP F H g a->Q b a)->t Y H λx a=>∃k,x = .bl k/\Q k a:=λf c F H Y δ P Q e w q=>
 h f c F H Y δ _ _ e w λd v g a p x r=>by
  split at p
  .exact ⟨_,r,q _ g a p x⟩
  .exact p.elim
theorem bh (h:cH K t E): ll K (LJ t) (Z0 E):=Uw h
theorem dQ (h:cH K t E): ll K (tB t) (Z0 E):=Uw h
section
variable {ua ub:TT}{Ca Cb:DT}
def Zd (C:DT):DT:=λδ P=>C δ λb=>P (!b)
def Zj (Ca Cb:DT):DT:=λδ P=>Ca δ λb=>if b=true then Cb δ P else P false
def ń (Ca Cb:DT):DT:=λδ P=>Ca δ λb=>if b=true then P true else Cb δ P
theorem cb (h:ll K ua Ca): ll K (XY ua) (Zd Ca):=λf a F H Y δ P Q e w q=>h f a F H Y δ _ _ e w λb g c p x=>q _ g c p x
theorem qF (h:ll K ua Ca)(g:ll K ub Cb): ll K (X0 ua ub) (Zj Ca Cb):=λf a F H Y δ P Q e w q=>h f a F H Y δ _ _ e w λb j c p x=>by
 cases b with
 |true=>exact vU (g f a j c Y δ P Q (e.on x) p λb n m l k=>q b n m l (x.trans k))
 |false=>exact sU rfl (q _ j c p x)
theorem dW (h:ll K ua Ca)(g:ll K ub Cb): ll K (ĕ ua ub) (ń Ca Cb):=λf a F H Y δ P Q e w q=>h f a F H Y δ _ _ e w λb j c p x=>by
 cases b with
 |true=>exact vU (q _ j c p x)
 |false=>exact sU rfl (g f a j c Y δ P Q (e.on x) p λb n m l k=>q b n m l (x.trans k))
def ņ (C:DT)(Ea Eb:DE):DE:=λδ P=>C δ λb=>if b=true then Ea δ P else Eb δ P
theorem UA (h:ll K ua Ca)(A:cH K ta Ea)(B:cH K tb Eb): cH K (Ė ua ta tb) (ņ Ca Ea Eb):=λk g F H Y δ P Q e w q=>h k g F H Y δ _ _ e w λb m l p x=>by
 cases b with
 |true=>exact vU (A k g m l Y δ P Q (e.on x) p λd v j f c a r=>q d v j f c (x.trans a) r)
 |false=>exact sU rfl (B k g m l Y δ P Q (e.on x) p λd v j f c a r=>q d v j f c (x.trans a) r)
end
def Vi (Ea Eb:DE):DE:=λδ P=>Ea δ λx=>match x with
 | .bl c=>if c=true then Eb δ P else P (.bl false)
 |_=>False
def Zb (Ea Eb:DE):DE:=λδ P=>Ea δ λx=>match x with
 | .bl c=>if c=true then P (.bl true) else Eb δ P
 |_=>False
def Vb (Ea:DE):DE:=λδ P=>Ea δ λx=>match x with
 | .bl c=>P (.bl (!c))
 |_=>False
theorem fb (A:cH K ta Ea)(B:cH K tb Eb): cH K (Uu ta tb) (Vi Ea Eb):=λg a F H Y δ P Q e w q=>A g a F H Y δ _ _ e w λd v h f p x r=>by
 split at p
 .rename_i c;refine⟨c,r,?_⟩
  cases c with
  |true=>exact vU (B g a h f Y δ P Q (e.on x) p λd v m l k j r=>q d v m l k (x.trans j) r)
  |false=>exact sU rfl (q _ _ h f p x rfl)
 .exact p.elim
theorem VO (A:cH K ta Ea)(B:cH K tb Eb):cH K (XX ta tb) (Zb Ea Eb):=λg a F H Y δ P Q e w q=>A g a F H Y δ _ _ e w λd v h f p x r=>by
 split at p
 .rename_i c;refine⟨c,r,?_⟩
  cases c with
  |true=>exact vU (q _ _ h f p x rfl)
  |false=>exact sU rfl (B g a h f Y δ P Q (e.on x) p λd v m l k j r=>q d v m l k (x.trans j) r)
 .exact p.elim
theorem L9 (h:cH K ta Ea): cH K (Uo ta) (Vb Ea):=λf a F H Y δ P Q e w q=>h f a F H Y δ _ _ e w λd v g c p x r=>by
 split at p
 .exact ⟨_,r,q _ _ g c p x rfl⟩
 .exact p.elim
def Ry (r a:wz)(Ea Eb Ec:DE):DE:=λδ P=>Ea δ λx=>Eb δ λy=>r x y λz=>match z with
 | .bl k=>if k=true then Ec δ λw=>a y w P else P (.bl false)
 |_=>False
theorem qK (h:yE K R r)(h':yE K R' U)(ha:dM K ta Ea)(hb:dM K tb Eb)(hc:dM K tc Ec): cH K (yO R R' ta tb tc) (Ry r U Ea Eb Ec):=λj g F H Y δ P Q e w q=>
 ha j g F H Y δ _ _ e w λx v F1 H1 J m T=>hb j g F1 H1 Y δ _ _ (e.on m) J λy u F2 H2 G f n=>
  h F2 H2 x y v u _ _ f.fh (T.mono f.hh) n G λd w A o p l O=>by
   have a:=m.trans (f.trans l);split at p
   .rename_i k;refine⟨k,O,?_⟩
    cases k with
    |true=>exact vU (hc j g A o Y δ _ _ (e.on a) p λz C F4 H4 p4 c M=>h' F4 H4 y z u C P Q c.fh (n.mono (l.hh.trans c.hh)) M p4 λd w F5 H5 p5 B L=>q d w F5 H5 p5 (a.trans (c.trans B)) L)
    |false=>exact sU rfl (q _ _ A o p a rfl)
   .exact p.elim
section
variable {a:TA}{As:DA}
def TN:DA:=λ_ P=>P []
def MM (Ea:DE)(As:DA):DA:=λδ P=>Ea δ λd=>As δ λds=>P (d::ds)
theorem aI:kH K mj TN:=λf c F H Y δ P Q e w q=>q [] [] F H w (cP.refl e.ext.fh) rfl
theorem aG:dN K mj TN:=λf c F H Y δ P Q e w q=>q [] [] F H w (cP.refl e.ext.fh) rfl
theorem aB (A:dM K ta Ea)(m:kH K a As): kH K (iN ta a) (MM Ea As):=λh g F H Y δ P Q e w q=>A h g F H Y δ _ _ e w λd v u o k f l=>
 m h g u o Y δ _ _ (e.on f) k λds vs p n j c r=>q (d::ds) (v::vs) p n j (f.trans c) ⟨v,vs,rfl,l.mono c.hh,r⟩
theorem aw (A:cH K ta Ea)(m:dN K a As): dN K (iN ta a) (MM Ea As):=λh g F H Y δ P Q e w q=>A h g F H Y δ _ _ e w λd v u o k f l=>
 m h g u o Y δ _ _ (e.on f) k λds vs p n j c r=>q (d::ds) (v::vs) p n j (f.trans c) ⟨v,vs,rfl,l.mono c.ff,r⟩
def Vd:XJ:=λ_ P=>P []
def Rv (Ea:DO)(As:XJ):XJ:=λδ P=>Ea δ λd=>As δ λds=>P (d::ds)
theorem cB:MV K mj Vd:=λf c F H Y δ P Q e w q=>q [] [] F H w (cP.refl e.ext.fh) ⟨[],⟨rfl,rfl⟩,CP,λ_ h=>by cases h⟩
theorem bU (O:eF K ta Eo)(M:MV K a Ao): MV K (iN ta a) (Rv Eo Ao):=λo n F H Y δ P Q e w q=>O o n F H Y δ _ _ e w λd v F1 H1 r g C=>
 M o n F1 H1 Y δ _ _ (e.on g) r λds vs F2 H2 p f u=>q (d::ds) (v::vs) F2 H2 p (g.trans f) (by
  obtain⟨A,l,a2,m⟩:=C;obtain⟨B,U,T,k⟩:=u;refine⟨A++B,⟨v,vs,A,B,rfl,rfl,l.frame f.ff λa _ xs e=>f.hh _ _ e,U⟩,AQ.mpr ⟨a2,T,λx L y J z=>?_⟩,λz G=>?_⟩
  .subst z;obtain⟨xs,c,_⟩:=l.sq _ L;rw[(k _ J).1]at c;cases c
  .rcases Au.mp G with h |h
   .obtain ⟨xs,c,j⟩:=l.sq _ h;exact⟨(m z h).1,f.no z _ (m z h).2 c j⟩
   .exact ⟨g.hh.free (k z h).1,(k z h).2⟩)
def Y8 (As:DA):DE:=λδ P=>As δ λds=>ds.length<=1000000/\P (.tup ds)
theorem eG (h:n<=1000000): n<=AH:=by rw[C4];lia
theorem wJ (h:n<1000000): n<AH:=by rw[C4];lia
theorem cP.new (s:a6 F H)(f:H p=none)(c:a6 H j)(h:j p=some o): cP F H (c8 F p o) j:=by
 refine⟨λb u e=>?_,c,λb u e=>?_,λb u k g l=>?_⟩
 .rw [bM λz=>by rw[z,s.free f]at e;cases e];exact e
 .by_cases B:b=p
  .subst B;rw[a9]at e;rw[<- e];exact h
  .rw [bM B]at e;exact c _ _ (s _ _ e)
 .rw [bM λz=>by rw[z,f]at g;cases g];exact k
theorem a6.yH (h:F p=none): a6 F (c8 F p o):=a6.new h
theorem bX (h:dN K a As): cH K (Uk a) (Y8 As):=λn l F H Y δ P Q e w q=>h n l F H Y δ _ _ e w λds vs u o g c r=>by
 have hl:=r.length;refine⟨eG (by lia),λp m f j k=>?_⟩;exact q _ _ _ m g.2 (c.trans (cP.new c.fh f j k)) ⟨p,vs,rfl,.inl (.inl a9),r.mono (a6.yH (c.fh.free f))⟩
def Ze (As:XJ):DO:=λδ P=>As δ λts=>ts.length<=1000000/\P (.nl ts)
theorem c9 (h:MV K a O): eF K (Ur a) (Ze O):=λC o F H Y δ P Q e w q=>h C o F H Y δ _ _ e w λts vs v G k c r=>by
 obtain⟨A,j,n,m⟩:=r;have hl:=j.length;refine⟨eG (by lia),λp u g f l=>?_⟩;refine q _ _ v u k.2 (c.trans ⟨a6.refl _,f,c.fh.trans f,λ_ _ z _ _=>z⟩) ⟨p::A,⟨p,vs,A,rfl,rfl,l,j.frame (a6.refl _) λb _ xs z=>f _ _ z⟩,AD.mpr ⟨λz=>?_,n⟩,λb B=>?_⟩
 .obtain ⟨xs,z,_⟩:=j.sq p z;rw[g]at z;cases z
 .rcases AB.mp B with rfl |B
  .exact ⟨c.hh.free g,c.fh.free g⟩
  .exact m b B
end
end
section
variable {K:Ar}{t ta tb tc:TE}{E Ea Eb Ec:DE}{a:TA}{As:DA}{Ao:XJ}
theorem bE.hQ (h:bE K F ds vs)(e:L2.hQ ds i=some d): ∃v,L2.hQ vs i=some v/\dP K F d v:=by
 unfold L2.hQ at e ⊢;rw[h.length]at e
 cases q:sT vs.length i with
 |none=>rw[q]at e;cases e
 |some j=>
  rw[q]at e;exact h.get e
def ß:wz:=λx y P=>match x,y with
 | .lst ds,.int i=>∃d,hQ ds i=some d/\P d
 |_,_=>False
def Ý:wz:=λx y P=>match x,y with
 | .tup ds,.int i=>∃d,hQ ds i=some d/\P d
 |_,_=>False
def Þ:wz:=λx y P=>match x,y with
 | .str z,.int i=>z.length<=1000000/\∃c,hQ z.cps.toList i=some c/\P (.str ⟨#[c]⟩)
 |_,_=>False
def cQ (K:Ar)(R:R2)(r:wz):Prop:=∀F H x y v u P Q,a6 F H->dP K F x v->dP K F y u->r x y P->(∀d w,P d->dP K F d w->Q w H)->R v u H Q
theorem cQ.b (h:cQ K R r): Ŋ K R r:=λH x y v u P Q e c w q=>h H H x y v u P Q (a6.refl _) e c w q
theorem bC (h:cQ K R r)(C:cH K ta Ea)(B:cH K tb Eb): cH K (LK R ta tb) (Zc r Ea Eb):=λl j F H Y δ P Q e w q=>
 C l j F H Y δ _ _ e w λx v J G n f z=>B l j J G Y δ _ _ (e.on f) n λy u k g m c o=>
  h k g x y v u P _ c.fh (z.mono c.ff) o m λd w p A=>q d w k g p (f.trans c) A
theorem bD:cQ K (SR K) ß:=λF H x y v u P Q s g f w q=>by
 unfold ß at w;split at w
 .obtain ⟨d,e,w⟩:=w;obtain⟨p,vs,rfl,h1,h2⟩:=g;obtain⟨c,e',r⟩:=h2.hQ e;exact⟨p,vs,_,c,rfl,f,s.seq h1,e',q d c w r⟩
 .exact w.elim
theorem aR:cQ K (Ya K) Ý:=λF H x y v u P Q s g f w q=>by
 unfold Ý at w;split at w
 .obtain ⟨d,e,w⟩:=w;obtain⟨p,vs,rfl,h1,h2⟩:=g;obtain⟨c,e',r⟩:=h2.hQ e;exact⟨p,vs,_,c,rfl,f,s.lO h1,e',q d c w r⟩
 .exact w.elim
theorem Wc:cQ K Yb Þ:=λF H x y v u P Q s f r w q=>by
 unfold Þ at w;split at w
 .obtain ⟨z,c,e,w⟩:=w;exact⟨_,_,c,f,r,eG z,e,q _ _ w rfl⟩
 .exact w.elim
def Vl (K:Ar)(R:List V->Hp->VK->Prop)(r:List D->(D->Prop)->Prop):Prop:=∀F H ds vs P Q,a6 F H->bE K H ds vs->r ds P->(∀d w e c,P d->cP F H e c->dP K e d w->Q w c)->R vs H Q
def Ã (K:Ar)(R:List V->Hp->VK->Prop)(r:List D->(OV->Prop)->Prop):Prop:=∀F H ds vs P Q,a6 F H->bE K F ds vs->r ds P->(∀o w e c,P o->cP F H e c->fk K H e c o w->Q w c)->R vs H Q
def Ň (r:List D->(D->Prop)->Prop)(As:DA):DE:=λδ P=>As δ λds=>r ds P
def Zi (r:List D->(OV->Prop)->Prop)(As:DA):DO:=λδ P=>As δ λds=>r ds P
theorem bt {R:List V->Hp->VK->Prop}{r:List D->(D->Prop)->Prop}(h:Vl K R r)(A:kH K a As): cH K (ZL R a) (Ň r As):=λu m F H Y δ P Q e w q=>
 A u m F H Y δ _ _ e w λds vs o l g c j=>h o l ds vs P _ c.fh j g λd w v n p f k=>q d w v n p (c.trans f) k
theorem xb {R:List V->Hp->VK->Prop}{r:List D->(OV->Prop)->Prop}(h:Ã K R r)(A:dN K a As): eF K (ZL R a) (Zi r As):=λu m F H Y δ P Q e w q=>
 A u m F H Y δ _ _ e w λds vs o l g c j=>h o l ds vs P _ c.fh j g λd w v n p f k=>q d w v n p (c.trans f) (k.old c.hh)
theorem gQ (h:bE K F [d] vs): ∃v,vs=[v]/\dP K F d v:=by
 obtain⟨v,r,rfl,h1,h2⟩:=h;exact⟨v,by rw[show r=[] from h2],h1⟩
theorem xk (h:bE K F [d,d'] vs): ∃v u,vs=[v,u]/\dP K F d v/\dP K F d' u:=by
 obtain⟨v,r,rfl,h1,h2⟩:=h;obtain⟨u,rfl,c⟩:=gQ h2;exact⟨v,u,rfl,h1,c⟩
def Wo:List D->(D->Prop)->Prop:=λds P=>match ds with
 | [.lst xs]=>P (.int xs.length)
 | [.tup xs]=>P (.int xs.length)
 |_=>False
def Wn:List D->(D->Prop)->Prop:=λds P=>match ds with
 | [.str x]=>x.length<=1000000/\P (.int x.length)
 |_=>False
theorem bV:Vl K (λxs H Q=>∃p ys,xs=[.ref p]/\(eR K H p ys∨jO K H p ys)/\Q (.int ys.length) H) Wo:=λF H ds vs P Q s r w q=>by
 unfold Wo at w;split at w
 .obtain ⟨v,rfl,p,us,rfl,h1,h2⟩:=gQ r;exact⟨p,us,rfl,.inl h1,by rw[<- h2.length];exact q _ _ F H w (cP.refl s) rfl⟩
 .obtain ⟨v,rfl,p,us,rfl,h1,h2⟩:=gQ r;exact⟨p,us,rfl,.inr h1,by rw[<- h2.length];exact q _ _ F H w (cP.refl s) rfl⟩
 .exact w.elim
theorem fN:Vl K (λxs H Q=>∃z,xs=[.str z]/\z.length<=AH/\Q (.int z.length) H) Wn:=λF H ds vs P Q s c w q=>by
 unfold Wn at w;split at w
 .obtain ⟨v,rfl,r⟩:=gQ c;exact⟨_,by rw[show v=_ from r],eG w.1,q _ _ F H w.2 (cP.refl s) rfl⟩
 .exact w.elim
def ũ:List D->(D->Prop)->Prop:=λds P=>match ds with
 | [.int i,.int j]=>P (.int (max i j))
 |_=>False
def Wh:List D->(D->Prop)->Prop:=λds P=>match ds with
 | [.int i,.int j]=>P (.int (min i j))
 |_=>False
theorem wj:Vl K (λxs H Q=>∃i j,xs=[.int i,.int j]/\Q (.int (if j<i then j else i)) H) Wh:=λF H ds vs P Q s r w q=>by
 unfold Wh at w;split at w
 .rename_i i j;obtain⟨v,u,rfl,e,c⟩:=xk r;refine⟨i,j,by rw[show v=_ from e,show u=_ from c],?_⟩;rw[show (if j<i then j else i)=min i j by split<;>lia];exact q _ _ F H w (cP.refl s) rfl
 .exact w.elim
def Xg:List D->(D->Prop)->Prop:=λds P=>match ds with
 | [.int i]=>P (.int i.natAbs)
 |_=>False
theorem RN:Vl K (λxs H Q=>∃i,xs=[.int i]/\Q (.int (if i<0 then -i else i)) H) Xg:=λF H ds vs P Q s c w q=>by
 unfold Xg at w;split at w
 .rename_i i;obtain⟨v,rfl,r⟩:=gQ c;refine⟨i,by rw[show v=_ from r],?_⟩;rw[show (if i<0 then -i else i)=(i.natAbs:Int) by split<;>lia];exact q _ _ F H w (cP.refl s) rfl
 .exact w.elim
def QY:List D->(OV->Prop)->Prop:=λds P=>match ds with
 | [.lst xs]=>P (.nl (xs.map .fz))
 | [.tup xs]=>P (.nl (xs.map .fz))
 |_=>False
theorem fk.list (f:H l=none)(g:c l=none)(h:j l=some (.lst vs))(r:bE K c ds vs): fk K H c j (.nl (ds.map .fz)) (.ref l):=
 ⟨[l],⟨l,vs,[],rfl,rfl,h,bg.ZW r⟩,by simp,λa A=>by
  have e:a=l:=by simpa using A
  rw[e];exact⟨f,g⟩⟩
theorem cP.grow (s:a6 F H)(h:a6 H c): cP F H F c:=⟨a6.refl _,h,s.trans h,λ_ _ z _ _=>z⟩
theorem wm:Ã K (Qc K) QY:=λF H ds vs P Q s r w q=>by
 unfold QY at w;split at w
 .obtain ⟨v,rfl,p,us,rfl,h1,h2⟩:=gQ r;exact⟨p,us,rfl,.inl (s.seq h1),λl e L m c=>q _ _ F e w (cP.grow s m) (fk.list L (s.free L) c h2)⟩
 .obtain ⟨v,rfl,p,us,rfl,h1,h2⟩:=gQ r;exact⟨p,us,rfl,.inr (s.lO h1),λl e L m c=>q _ _ F e w (cP.grow s m) (fk.list L (s.free L) c h2)⟩
 .exact w.elim
def Vt:List D->(OV->Prop)->Prop:=λds P=>match ds with
 | [.lst xs]=>P (.fz (.tup xs))
 |_=>False
theorem W5:Ã K (Ma K) Vt:=λF H ds vs P Q s r w q=>by
 unfold Vt at w;split at w
 .obtain ⟨v,rfl,p,us,rfl,h1,h2⟩:=gQ r;exact⟨p,us,rfl,s.seq h1,λl e L m c=>q _ _ _ e w (cP.new s L m c) (.fz ⟨l,us,rfl,.inl (.inl a9),h2.mono (a6.yH (s.free L))⟩)⟩
 .exact w.elim
abbrev Zy:=c7->(Option Int->Prop)->Prop
def N3 (K:Ar)(t:TO)(E:Zy):Prop:=∀f e F H Y δ P Q,cp K f e F H Y δ->E δ P->(∀o g c,P o->cP F H g c->Q o c)->t Y H Q
def Vc:Zy:=λ_ P=>P none
def Ń (E:DE):Zy:=λδ P=>E δ λd=>match d with
 | .int i=>P (some i)
 |_=>False
theorem Uz:N3 K LL Vc:=λf c F H Y δ P Q e w q=>q none F H w (cP.refl e.ext.fh)
theorem lD (h:dM K t E): N3 K (Um t) (Ń E):=λl j F H Y δ P Q e w q=>h l j F H Y δ _ _ e w λd v k g c f r=>by
 split at c
 .exact ⟨_,r,q _ k g c f⟩
 .exact c.elim
noncomputable def cutD (xs:List D)(lo hi:Option Int):List D:=(xs.drop (HT.sD xs.length 0 lo)).take (HT.sD xs.length xs.length hi-HT.sD xs.length 0 lo)
theorem bE.cut (h:bE K F ds vs)(lo hi:Option Int): bE K F (cutD ds lo hi) (z9 vs lo hi):=by
 unfold cutD z9;rw[h.length];exact (h.drop _).take _
def Y_ (Ea:DE)(L U:Zy):DO:=λδ P=>Ea δ λx=>L δ λlo=>U δ λhi=>match x with
 | .lst xs=>P (.nl ((cutD xs lo hi).map .fz))
 |_=>False
theorem zh (C:cH K ta Ea)(hl:N3 K T L)(B:N3 K u U): eF K (È (X9 K) ta T u) (Y_ Ea L U):=λm k F H Y δ P Q e w q=>
 C m k F H Y δ _ _ e w λx v F1 J r h z=>hl m k F1 J Y δ _ _ (e.on h) r λlo F2 G o g=>B m k F2 G Y δ _ _ ((e.on h).on g) o λhi F3 H3 j c=>by
  have f:=h.trans (g.trans c);split at j
  .obtain ⟨p,vs,rfl,h1,h2⟩:=z.mono (g.ff.trans c.ff);exact⟨p,vs,rfl,c.fh.seq h1,λl O n M A=>q _ _ F3 O j (f.trans (cP.grow c.fh M)) (fk.list (f.hh.free n) (c.fh.free n) A (h2.cut lo hi))⟩
  .exact j.elim
mutual
noncomputable def OV.lf:OV->Bool
 | .fz d=>d.lf
 | .nl ts=>OV.hI ts
 | .rt _ ts=>OV.hI ts
 | .fx _ d=>d.lf
 | .ob _ _ _ ts=>OV.hI ts
noncomputable def OV.hI:List OV->Bool
 | []=>true
 |t::ts=>t.lf && OV.hI ts
end
theorem OV.gZ:∀(ts:List OV),OV.hI ts=ts.all OV.lf
 | []=>rfl
 |d::ds=>by simp[OV.hI,OV.gZ ds]
mutual
theorem gr.lf (s:a6 F g): ∀{t:OV} {v:V} {A:List Ac},gr K g m t v A->t.lf=true->gr K (l4 F g) m t v A
 | .fz d,v,A,h,z=>⟨h.1,dP.lf s h.2 (by simpa[OV.lf] using z)⟩
 | .nl ts,v,A,h,z=>by
  obtain⟨a,vs,B,e,f,h1,h2⟩:=h;exact⟨a,vs,B,e,f,h1,bg.lf s h2 (by simpa[OV.lf] using z)⟩
 | .fx u d,v,A,h,z=>⟨h.1,h.2.1,dP.lf s h.2.2 (by simpa[OV.lf] using z)⟩
 | .rt a ts,v,A,h,z=>by
  obtain⟨vs,B,e,f,h1,h2⟩:=h;exact⟨vs,B,e,f,h1,bg.lf s h2 (by simpa[OV.lf] using z)⟩
 | .ob o c ns ts,v,A,h,z=>by
  obtain⟨a,C,l,vs,B,e,f,k,O,h1,h2,hl,j⟩:=h;exact⟨a,C,l,vs,B,e,f,k,O,h1,h2,hl,bg.lf s j (by simpa[OV.lf] using z)⟩
theorem bg.lf {F c e:Hp}(s:a6 F c):∀{ts:List OV} {vs:List V} {A:List Ac},bg K c e ts vs A->OV.hI ts=true->bg K (l4 F c) e ts vs A
 | [],_,_,h,_=>h
 |t::ts,vs,A,h,z=>by
  obtain⟨v,r,B,C,g,f,h1,h2⟩:=h;simp[OV.hI]at z
  exact⟨v,r,B,C,g,f,gr.lf s h1 z.1,bg.lf s h2 z.2⟩
end
abbrev c_:=List D->(OV->Prop)->Prop
def bL (K:Ar)(n:Nat)(sp:c_):Sp:=Xu n λvs H Q=>∃F ds P,a6 F H/\bE K F ds vs/\sp ds P/\∀r v e c,P r->cP F H e c->fk K H e c r v->Q v c
def MN (n:Nat)(sp:c_)(As:DA):DO:=λδ P=>As δ λds=>ds.length=n/\sp ds P
def RA (n:Nat)(sp:c_)(As:DA):DO:=λδ P=>As δ λds=>ds.length=n/\sp ds λr=>r.lf=true/\P r
theorem aT (A:dN K a As): eF K (qc (bL K n sp) [] E0 a) (MN n sp As):=λo k F H Y δ P Q e w q=>A o k F H Y δ _ _ e w λds vs m z f c g=>by
 rw[Bi];exact⟨by rw[<- g.length];exact f.1,m,ds,P,c.fh,g,f.2,λr v u l p h j=>q r v u l p (c.trans h) (j.old c.hh)⟩
theorem cR (L:kH K a As): eF K (qc (bL K n sp) [] E0 a) (RA n sp As):=λF0 U F H Y δ P Q e w q=>L F0 U F H Y δ _ _ e w λds vs m T h g k=>by
 rw[Bi];refine⟨by rw[<- k.length];exact h.1,T,ds,_,a6.refl _,k,h.2,λr v u H' p f J=>?_⟩;have j:a6 m u:=g.fh.trans f.ff;have c:=fR j;obtain⟨A,O,M,l⟩:=J;refine q r v (l4 m u) H' p.2 (g.trans ⟨c.ff,f.hh,c.fh.trans f.fh,λb o G C z=>?_⟩) ⟨A,O.lf j p.1,M,λb B=>⟨g.hh.free (l b B).1,c.fh.free (l b B).2⟩⟩;exact c.no b o G (f.ff _ _ C) z
end
section
variable {K:Ar}{te ti ta:TE}{E Ea Ei:DE}{Eo:DO}{t u:TS}{T U:DS}
def PC:DS:=λe δ=>e.nx δ
def Pj (T U:DS):DS:=λe δ=>T {e with nx:=U e} δ
theorem bo:bR K Up PC:=λc a F H Y δ f E e l w=>l.nx F H Y δ e w
theorem aK (h:bR K t T)(g:bR K u U): bR K (OS t u) (Pj T U):=λj f F H Y δ c E e l w=>
 h j f F H Y δ {c with nx:=U c} _ e ⟨λp o n a m k=>g j f p o n a c E m l k,l.bk,l.ct,l.rt⟩ w
def P0:DS:=λe δ=>e.bk δ
theorem Pt:bR K OZ P0:=λc a F H Y δ f E e l w=>l.bk F H Y δ e w
def VD (E:DO):DS:=λe δ=>E δ e.rt
theorem aY (h:eF K te Eo): bR K (Se te) (VD Eo):=λf a F H Y δ k j e l w=>h f a F H Y δ _ _ e w λr v g c p x n=>l.rt g c r v (e.ext.trans x) (n.old e.ext.hh) p
def Pu (i:Nat):DS:=λe δ=>match δ[i]? with
 |some (some (.own t))=>e.rt t
 |_=>False
theorem e_:bR K (Se (eT i)) (Pu i):=λf c F H Y δ g n ⟨A,e⟩ l w=>by
 unfold Pu at w;split at w
 .rename_i t ht;obtain⟨v,h1,h2⟩:=e.own i t ht;exact⟨v,h1,l.rt F H t v e.ext ⟨A i,h2,e.i5 i,λa h=>⟨(e.new i a h).2.1,(e.new i a h).1⟩⟩ w⟩
 .exact w.elim
def ę (C:DT)(T U:DS):DS:=λe δ=>C δ λb=>if b=true then T e δ else U e δ
theorem bS (h:ll K c C)(ht:bR K t T)(m:bR K u U): bR K (Sf c t u) (ę C T U):=λf a F H Y δ k n e l w=>h f a F H Y δ _ _ e w λb j g p x=>by
 cases b with
 |true=>exact vU (ht f a j g Y δ k n (e.on x) l p)
 |false=>exact sU rfl (m f a j g Y δ k n (e.on x) l p)
def Sx (i:Nat)(E:DO):DS:=λe δ=>E δ λr=>e.nx (δ.set i (some (.own r)))
theorem aZ (h:eF K te Eo): bR K (sv te (m7 i)) (Sx i Eo):=λf a F H Y δ k j e l w=>h f a F H Y δ _ _ e w λr v g c p x n=>l.nx g c _ _ (e.put x i n) p
def X5 (i:Nat)(r:wz)(E:DE):DS:=λe δ=>dV i δ λx=>E δ λy=>r x y λz=>e.nx (δ.set i (some (.own (.fz z))))
theorem VC (O:yE K R r)(h:dM K te E): bR K (XZ i te R) (X5 i r E):=λk j F H Y δ De En e l w=>by
 obtain⟨v,C,w⟩:=aC k j F H Y δ _ (λv J=>te Y J λy g=>R v y g λz f=>En.nx (Y.set i (some z)) f) e w λd v Q g p c q=>h k j Q g Y δ _ _ (e.on c) p λy u M f B a o=>O M f d y v u _ _ a.fh (q.mono (c.fh.trans a.hh |> λs=>s)) o B λz w L G A m n=>l.nx L G _ _ (((e.on c).on a).put m i (.fz n)) A
 exact⟨v,C,w⟩
def gN (i:Nat):D->c7->(c7->Prop)->Prop:=λd δ P=>P (δ.set i (some (.own (.fz d))))
theorem bj:yy K (m7 i) (gN i):=λf c F H Y δ A d v P Q e r w q=>q _ _ _ w (e.Yd i r) λj a h=>by
 split at h
 .cases h
 .exact h
def uh:List D->c7->(c7->Prop)->Prop:=λds δ P=>match ds with
 | []=>P δ
 |_=>False
def oh (G:D->c7->(c7->Prop)->Prop)(c:List D->c7->(c7->Prop)->Prop):List D->c7->(c7->Prop)->Prop:=λds δ P=>match ds with
 |d::r=>G d δ λa=>c r a P
 |_=>False
theorem kS:MU K YS uh:=λc a F H Y δ A ds vs P Q e r w q=>by
 unfold uh at w;split at w
 .exact ⟨r,q _ _ A w e λ_ _ z=>z⟩
 .exact w.elim
theorem de {G:D->c7->(c7->Prop)->Prop}{l:List D->c7->(c7->Prop)->Prop}(h:yy K g G)(C:MU K J l): MU K (U4 g J) (oh G l):=λm k F H Y δ A ds vs P Q e r w q=>by
 unfold oh at w;split at w
 .obtain ⟨v,j,rfl,h1,h2⟩:=r;exact⟨v,j,rfl,h m k F H Y δ A _ v _ _ e h1 w λO f A' o e' p=>C m k F H O f A' _ j P Q e' h2 o λM c A2 n L B=>q M c A2 n L λi a z=>p i a (B i a z)⟩
 .exact w.elim
def gT (n:Nat)(G:List D->c7->(c7->Prop)->Prop):D->c7->(c7->Prop)->Prop:=λd δ P=>match d with
 | .tup ds=>ds.length=n/\G ds δ P
 |_=>False
theorem nU {G:List D->c7->(c7->Prop)->Prop}(h:MU K g G): yy K (YR K n g) (gT n G):=λf c F H Y δ A d v P Q e r w q=>by
 unfold gT at w;split at w
 .obtain ⟨a,vs,rfl,h1,h2⟩:=r;exact⟨a,vs,rfl,e.ext.fh.lO h1,by rw[<- h2.length];exact w.1,h f c F H Y δ A _ vs P Q e h2 w.2 q⟩
 .exact w.elim
theorem ER.change {A:Nat->List Ac}(e:ER K M w F H Y δ A)(i:Nat)(p:Y[i]?=some (some v))(r:gr K F C t' v B)(G:B.Nodup)
  (n:∀b∈B,F b=none/\w b=none) (q:∀j,j≠i->∀b∈B,b∉A j) (keep:∀b o,b∉A i->H b=some o->C b=some o): cp K M w F C Y (δ.set i (some (.own t'))):=by
 have hi:i<δ.length:=by rw[<- e.len];exact (Ab.mp p).1
 refine⟨λj=>if j=i then B else A j,by simp[e.len],⟨e.ext.ff,λb o h=>?_,λb o h=>?_,e.ext.no⟩,λj t J=>?_,λj d J=>?_,λj=>?_,λj k a f h1 h2=>?_,λj a c=>?_⟩
 .exact keep b o (λz=>by rw[(e.new i b z).2.1]at h;cases h) (e.ext.hh _ _ h)
 .exact keep b o (λz=>by rw[(e.new i b z).1]at h;cases h) (e.ext.fh _ _ h)
 .by_cases z:j=i
  .subst z;rw[if_pos rfl];rw[Az hi]at J;cases J;exact⟨v,p,r⟩
  .rw [if_neg z];rw[AL (Bm z)]at J;obtain⟨u,h1,h2⟩:=e.own j t J;exact⟨u,h1,h2.frame (a6.refl _) λa c xs h=>keep a _ (e.iY j i a z c) h⟩
 .by_cases z:j=i
  .subst z;rw[Az hi]at J;cases J
  .rw [AL (Bm z)]at J;exact e.bw j d J
 .split
  .exact G
  .exact e.i5 j
 .split at h1
  .split at h2
   .lia
   .rename_i l g;exact q k g a h1 h2
  .split at h2
   .rename_i l g;exact q j l a h2 h1
   .exact e.iY j k a f h1 h2
 .split at c
  .exact ⟨(n a c).1,(n a c).2,r.sq a c⟩
  .rename_i z;obtain⟨h1,h2,xs,L,m⟩:=e.new j a c;exact⟨h1,h2,xs,keep a _ (e.iY j i a z c) L,m⟩
def VQ (i:Nat)(E:DO):DS:=λe δ=>match δ[i]? with
 |some (some (.own (.nl ts)))=>ts.length<1000000/\E δ λr=>e.nx (δ.set i (some (.own (.nl (ts++[r])))))
 |_=>False
theorem a8 (h:b≠a)(e:H b=some O): c8 H a o b=some O:=by rw[bM h];exact e
theorem nS (h:eF K te Eo): bR K (jQ (Us K "list" pK (eT i) (iN te mj))) (VQ i Eo):=λF0 H0 F H Y δ De En e l w=>by
 obtain⟨A,e⟩:=e;unfold VQ at w;split at w
 .rename_i ts hs;obtain⟨pl,w⟩:=w;obtain⟨v,hv,a,vs,B,rfl,g,ha,hB⟩:=e.own i _ hs;refine⟨_,hv,.inl ⟨rfl,_,eR.of ha⟩,?_⟩;refine h F0 H0 F H Y δ _ _ ⟨A,e⟩ w λr u F1 H1 p G n=>?_
  obtain⟨C,c1,c2,O⟩:=n;have M:=e.on G;have hl:=hB.length;refine⟨a,vs,u,rfl,rfl,G.hh _ _ ha,wJ (by lia),?_⟩;have L:bg K F1 H1 ts vs B:=hB.frame G.ff λb _ xs z=>G.hh _ _ z
  have k:=e.i5 i;rw[g]at k;obtain⟨Q,n2⟩:=AD.mp k;have f:∀j b,b∈C->b∉A j:=λj b c z=>by
   obtain⟨_,_,xs,q,_⟩:=e.new j b z;rw[(O b c).1]at q;cases q
  have m:a∉C:=λz=>f i a z (by rw[g];exact AF)
  refine l.nx F1 _ Y _ (M.change i hv (t':=.nl (ts++[r])) (B:=a::(B++C)) ⟨a,vs++[u],B++C,rfl,rfl,a9,?_⟩ ?_ ?_ ?_ ?_) p
  .exact bg.append (L.frame (a6.refl _) λb c xs z=>a8 (λq=>Q (by rw[<- q];exact c)) z) (bg.one (c1.frame (a6.refl _) λb c xs z=>a8 (λq=>m (by rw[<- q];exact c)) z))
  .refine AD.mpr ⟨λz=>?_,AQ.mpr ⟨n2,c2,λx hx y hy z=>?_⟩⟩
   .rcases Au.mp z with z |z
    .exact Q z
    .exact m z
   .subst z;exact f i x hy (by rw[g];exact Aj _ hx)
  .intro b c;have J:b∈A i∨b∈C:=by
    rw[g];rcases AB.mp c with z |z
    .exact .inl (by rw[z];exact AF)
    .rcases Au.mp z with z |z
     .exact .inl (Aj _ z)
     .exact .inr z
   rcases J with z |z
   .exact ⟨(M.new i b z).1,(M.new i b z).2.1⟩
   .exact ⟨(O b z).2,e.ext.hh.free (O b z).1⟩
  .intro j hj b c z;rcases AB.mp c with q |q
   .subst q;exact e.iY j i b hj z (by rw[g];exact AF)
   .rcases Au.mp q with q |q
    .exact e.iY j i b hj z (by rw[g];exact Aj _ q)
    .exact f j b q z
  .intro b o c q;exact a8 (λz=>c (by rw[g,z];exact AF)) q
 .exact w.elim
def X3 (i:Nat)(Ei:DE)(E:DO):DS:=λe δ=>E δ λr=>match δ[i]? with
 |some (some (.own (.nl ts)))=>Ei δ λk=>match k with
  | .int k=>∃j,sT ts.length k=some j/\e.nx (δ.set i (some (.own (.nl (ts.set j r)))))
  |_=>False
 |_=>False
theorem Pm (h:eF K te Eo)(hi:dM K ti Ei): bR K (sv te (TB (eT i) ti Mb)) (X3 i Ei Eo):=λF0 H0 F H Y δ De En e l w=>by
 refine h F0 H0 F H Y δ _ _ e w λr u F1 H1 p x1 n=>?_
 obtain⟨A,e⟩:=e;split at p
 .rename_i ts hs;have e1:=e.on x1;obtain⟨v,hv,a,vs,B,rfl,m,ha,hB⟩:=e1.own i _ hs;refine⟨_,hv,?_⟩;refine hi F0 H0 F1 H1 Y δ _ _ ⟨A,e1⟩ p λk kv F2 H2 G g r2=>?_
  split at G
  .rename_i k;obtain⟨j,J,G⟩:=G;have e2:=e1.on g;have ϩ:=g.hh _ _ ha;have ϳ:bg K F2 H2 ts vs B:=hB.frame g.ff λb _ xs z=>g.hh _ _ z
   obtain⟨C,c1,c2,c3⟩:=n;have c1':gr K F2 H2 r u C:=c1.frame g.ff λb _ xs z=>g.hh _ _ z
   have hl:=hB.length;refine⟨a,vs,k,j,rfl,r2,ϩ,by rw[<- hl];exact J,?_⟩;have Xz:j<ts.length:=by
    unfold sT at J;split at J
    .split at J
     .cases J;lia
     .cases J
    .split at J
     .cases J;lia
     .cases J
   obtain⟨v0,A1,B0,A2,f1,rfl,f3,f4⟩:=ϳ.focus (Ah Xz);have M:=e.i5 i;rw[m]at M;obtain⟨n1,n2⟩:=AD.mp M;have f:∀j b,b∈C->b∉A j:=λj b c z=>by
    obtain⟨_,_,xs,q,_⟩:=e.new j b z;rw[(c3 b c).1]at q;cases q
   have Q:a∉C:=λz=>f i a z (by rw[m];exact AF)
   have sub:∀b,b∈A1++A2->b∈A1++(B0++A2):=λb c=>by
    rcases Au.mp c with z |z<;>simp[z]
   have L:∀b,b∈a::(A1++(C++A2))->b∈A i∨b∈C:=λb c=>by
    rw[m];rcases AB.mp c with z |z
    .exact .inl (by rw[z];exact AF)
    .rcases Au.mp z with z |z
     .exact .inl (by simp[z])
     .rcases Au.mp z with z |z
      .exact .inr z
      .exact .inl (by simp[z])
   refine l.nx F2 _ Y _ (e2.change i hv (t':=.nl (ts.set j r)) (B:=a::(A1++(C++A2))) ⟨a,vs.set j u,_,rfl,rfl,a9,f4 F2 _ r u C (a6.refl _) (λb c xs z=>?_) (c1'.frame (a6.refl _) λb c xs z=>a8 (λq=>Q (by rw[<- q];exact c)) z)⟩ ?_ ?_ ?_ ?_) G
   .exact a8 (λq=>n1 (by rw[<- q];exact sub b c)) z
   .obtain ⟨m1,m2,m3⟩:=AQ.mp n2;obtain⟨k1,k2,k3⟩:=AQ.mp m2;refine AD.mpr ⟨λz=>?_,AQ.mpr ⟨m1,AQ.mpr ⟨c2,k2,λx hx y hy z=>?_⟩,λx hx y hy z=>?_⟩⟩
    .rcases Au.mp z with z |z
     .exact n1 (by simp[z])
     .rcases Au.mp z with z |z
      .exact Q z
      .exact n1 (by simp[z])
    .subst z;exact f i x hx (by rw[m];simp[hy])
    .rcases Au.mp hy with q |q
     .subst z;exact f i x q (by rw[m];simp[hx])
     .exact m3 x hx y (by simp[q]) z
   .intro b c;rcases L b c with z |z
    .exact ⟨(e2.new i b z).1,(e2.new i b z).2.1⟩
    .obtain ⟨xs,q,O⟩:=c1.sq b z;exact⟨g.no b _ (c3 b z).2 q O,e.ext.hh.free (c3 b z).1⟩
   .intro j' U1 b c z;rcases L b c with q |q
    .exact e.iY j' i b U1 z q
    .exact f j' b q z
   .intro b o c q;exact a8 (λz=>c (by rw[m,z];exact AF)) q
  .exact G.elim
 .exact p.elim
def P1 (i:Nat)(g:Int->Int->Int)(Ei E:DE):DS:=λe δ=>match δ[i]? with
 |some (some (.own (.nl ts)))=>Ei δ λk=>match k with
  | .int k=>0<=k/\∃x,ts[k.toNat]?=some (.fz (.int x))/\E δ λy=>match y with
   | .int y=>e.nx (δ.set i (some (.own (.nl (ts.set k.toNat (.fz (.int (g x y))))))))
   |_=>False
  |_=>False
 |_=>False
theorem Sz {g:Int->Int->Int}(hi:dM K ti Ei)(h:dM K te E): bR K (Ut (eT i) ti te (UK K) (á g) Mb) (P1 i g Ei E):=λF0 H0 F H Y δ De En e l w=>by
 obtain⟨A,e⟩:=e;unfold P1 at w;split at w
 .rename_i ts hs;obtain⟨v,Q,a,vs,B,rfl,m,ha,hB⟩:=e.own i _ hs;refine⟨_,Q,?_⟩;refine hi F0 H0 F H Y δ _ _ ⟨A,e⟩ w λk kv F1 H1 p C O=>?_
  split at p
  .rename_i k;obtain⟨k0,x,hx,p⟩:=p;have e1:=e.on C;have f:=C.hh _ _ ha;have J:bg K F1 H1 ts vs B:=hB.frame C.ff λb _ xs z=>C.hh _ _ z
   obtain⟨v0,A1,B0,A2,f1,rfl,L,f4⟩:=J.focus hx;obtain⟨rfl,L⟩:=L;refine⟨a,vs,k,v0,rfl,O,eR.of f,k0,f1,?_⟩;refine h F0 H0 F1 H1 Y δ _ _ ⟨A,e1⟩ p λy yv F2 H2 G r r2=>?_
   split at G
   .rename_i y;have M:=e1.on r;have Xz:k.toNat<vs.length:=(Ab.mp f1).1;refine⟨x,y,L,r2,a,vs,k,k.toNat,rfl,O,r.hh _ _ f,?_,?_⟩
    .unfold sT;rw[if_pos k0,if_pos (by lia)]
    .have n:=e.i5 i;rw[m]at n;obtain⟨n1,n2⟩:=AD.mp n;refine l.nx F2 _ Y _ (M.change i Q (t':=.nl (ts.set k.toNat (.fz (.int (g x y))))) (B:=a::(A1++([]++A2))) ⟨a,_,_,rfl,rfl,a9,f4 F2 _ (.fz (.int (g x y))) _ [] r.ff (λb c xs z=>a8 (λq=>n1 (by rw[<- q];exact c)) (r.hh _ _ z)) ⟨rfl,rfl⟩⟩ ?_ ?_ ?_ ?_) G
     .exact n
     .intro b c;exact⟨(M.new i b (by rw[m];exact c)).1,(M.new i b (by rw[m];exact c)).2.1⟩
     .intro j hj b c z;exact e.iY j i b hj z (by rw[m];exact c)
     .intro b o c q;exact a8 (λz=>c (by rw[m,z];exact AF)) q
   .exact G.elim
  .exact p.elim
 .exact w.elim
end
section
variable {K:Ar}{te ti ta tl:TE}{E Ea Ei El:DE}{Eo:DO}{t u:TS}{T U:DS}{a:TA}{As:DA}
theorem ER.rebase {A:Nat->List Ac}(e:ER K f c F H Y δ A): ER K F c F H Y δ A:=⟨e.len,⟨a6.refl _,e.ext.hh,e.ext.fh,λ_ _ z _ _=>z⟩,e.own,e.bw,e.i5,e.iY,e.new⟩
theorem cp.rebase (e:cp K f c F H Y δ): cp K F c F H Y δ:=let⟨A,e⟩:=e;⟨A,e.rebase⟩
theorem cP.p9 (x:cP h e g j)(y:cP g e F H): cP h e F H:=⟨x.ff.trans y.ff,y.hh,y.fh,λa o f c z=>y.no a o (x.no a o f c z) c z⟩
theorem cp.p9 (x:cP g c f h)(e:cp K f c F H Y δ): cp K g c F H Y δ:=let⟨A,e⟩:=e;⟨A,e.len,x.p9 e.ext,e.own,e.bw,e.i5,e.iY,e.new⟩
def Pf (C:DT)(T:DS):DS:=λe δ=>∃W:Nat->c7->Prop,(∃m,W m δ)/\∀m δ,W m δ->C δ λb=>if b=true then T {nx:=λc=>∃M,M<m/\W M c,ct:=λc=>∃M,M<m/\W M c,bk:=e.nx,rt:=e.rt} δ else e.nx δ
theorem OC {TF:Hp->Prop}(h:ll K c C)(ht:lL K TF t T): lL K TF (yL c t) (Pf C T):=λn k hT F H Y δ Q En e l w=>by
 obtain⟨W,⟨m0,w0⟩,hW⟩:=w;refine⟨λm Y H=>∃F δ,cp K n k F H Y δ/\W m δ,⟨m0,F,δ,e,w0⟩,?_⟩;rintro m A H1 ⟨F1,f,v,w1⟩;refine h n k F1 H1 A f _ _ v (hW m f w1) λb O J p x=>?_
 cases b with
 |true=>
  refine vU ⟨λG L=>∃M,M<m/\∃F δ,cp K n k F L G δ/\W M δ,λG L z=>z,?_⟩;refine ht n k hT O J A f {nx:=λj=>∃M,M<m/\W M j,ct:=λj=>∃M,M<m/\W M j,bk:=Q.nx,rt:=Q.rt} _ (v.on x) ⟨λB H3 Y3 g r ⟨M,q,o⟩=>⟨M,q,B,g,r,o⟩,l.nx,λB H3 Y3 g r ⟨M,q,o⟩=>⟨M,q,B,g,r,o⟩,l.rt⟩ p
 |false=>exact sU rfl (l.nx O J A f (v.on x) p)
theorem mK (h:ll K c C)(ht:bR K t T): bR K (yL c t) (Pf C T):=λf e=>OC (TF:=λ_=>True) h (λf e _=>ht f e) f e trivial
def Č (K:Ar)(F:Hp)(J:It)(ds:List D):Prop:=∀e c,a6 F e->a6 e c->(∀i,i<ds.length->J.go i c)/\J.stop ds.length c/\∀i x f,i<ds.length->J.ZH i c x f->∃d g,ds[i]?=some d/\cP e c g f/\dP K g d x
def lp (K:Ar)(w:TI)(I:DA):Prop:=∀g f F H Y δ P R,cp K g f F H Y δ->I δ P->(∀ds J e c,P ds->cP F H e c->Č K e J ds->R J c)->w Y H R
def č (G:D->c7->(c7->Prop)->Prop)(T:DS)(e:MY)(ds:List D)(δ:c7):Prop:=∃W:Nat->c7->Prop,W 0 δ/\
 (∀i d δ,ds[i]?=some d->W i δ->G d δ λc=>T {nx:=W (i+1),ct:=W (i+1),bk:=e.nx,rt:=e.rt} c)/\∀δ,W ds.length δ->e.nx δ
def SI (I:DA)(G:D->c7->(c7->Prop)->Prop)(T:DS):DS:=λe δ=>I δ λds=>č G T e ds δ
theorem Vq {G:D->c7->(c7->Prop)->Prop}(hi:lp K wi I)(hg:yy K g G)(ht:∀f H1,cP F0 n f H1->ow K f n t T): ow K F0 n (Sg wi g t) (SI I G T):=λF H Y δ De En e l w=>
 hi F0 n F H Y δ _ _ e w λds J f H1 p x1 hJ=>by
  have B:=(e.on x1).ext;obtain⟨W,w0,ws,wd⟩:=p;refine⟨λi m Y H=>m=ds.length-i/\i<=ds.length/\∃F δ,cp K f n F H Y δ/\W i δ,⟨ds.length,rfl,Bv _,f,δ,(e.on x1).rebase,w0⟩,?_⟩;rintro i m Y2 H2 ⟨rfl,Į,F2,h,⟨A2,z⟩,w2⟩;obtain⟨j1,j2,j3⟩:=hJ F2 H2 z.ext.ff z.ext.fh;by_cases L:i<ds.length
  .refine .inr ⟨j1 i L,λY' H'=>∃F δ,cp K f n F H' Y' δ/\W (i+1) δ,λY' H' ⟨A,M,e3,w3⟩=>⟨ds.length-(i+1),by omega,rfl,L,A,M,e3,w3⟩,λx H3 y=>?_⟩;obtain⟨d,A,hd,x3,r3⟩:=j3 i x H3 L y;refine hg f n A H3 Y2 h A2 d x _ _ (z.on x3) r3 (ws i d h hd w2) λY4 C A4 w4 e4 _=>?_
   exact ht f H1 B A H3 Y4 C {nx:=W (i+1),ct:=W (i+1),bk:=De.nx,rt:=De.rt} _ ⟨A4,e4⟩ ⟨λk q Q c o j=>⟨k,c,o,j⟩,λk q Q c o j=>l.nx k q Q c (o.p9 B) j,λk q Q c o j=>⟨k,c,o,j⟩,λk q r v x5 n5 j=>l.rt k q r v (B.p9 x5) n5 j⟩ w4
  .have O:i=ds.length:=by lia
   subst O;exact .inl ⟨j2,l.nx F2 H2 Y2 h (cp.p9 B ⟨A2,z⟩) (wd _ w2)⟩
theorem Vp {TF:Hp->Prop}{G:D->c7->(c7->Prop)->Prop}(m:MT TF)(hi:lp K w I)(hg:yy K g G)(ht:lL K TF t T): lL K TF (Sg w g t) (SI I G T):=λj c h=>Vq hi hg λe f x=>ht e c (m _ _ x.ff h)
theorem dw {G:D->c7->(c7->Prop)->Prop}(hi:lp K w I)(hg:yy K g G)(ht:bR K t T): bR K (Sg w g t) (SI I G T):=λe c=>Vp (TF:=λ_=>True) (λ_ _ _ z=>z) hi hg (λe c _=>ht e c) e c trivial
def WZ (El:DE):DA:=λδ P=>El δ λd=>match d with
 | .lst ds=>P ds
 |_=>False
def Zf (El:DE):DA:=λδ P=>El δ λd=>match d with
 | .tup ds=>P ds
 |_=>False
theorem cL (h:cH K tl El): lp K (Mz K tl) (WZ El):=λl g F H Y δ P R e w q=>h l g F H Y δ _ _ e w λd v m j p x r=>by
 split at p
 .obtain ⟨a,vs,rfl,h1,h2⟩:=r;refine⟨a,rfl,⟨vs,x.fh.seq h1⟩,q _ _ m j p x λk o f c=>?_⟩;have hl:=h2.length;have Q:=(f.trans c).seq h1;refine⟨λi hi=>⟨vs,vs[i],Q,Ah (by lia)⟩,⟨vs,Q,by lia⟩,λi x n hi y=>?_⟩;obtain⟨rfl,y⟩:=y;obtain⟨d,hd,rd⟩:=h2.get' (y vs Q);exact⟨d,k,hd,cP.refl c,rd.mono f⟩
 .exact p.elim
theorem PH (h:cH K tl El): lp K (Yz K tl) (Zf El):=λl g F H Y δ P R e w q=>h l g F H Y δ _ _ e w λd v m j p x r=>by
 split at p
 .obtain ⟨a,vs,rfl,h1,h2⟩:=r;refine⟨a,rfl,⟨vs,x.fh.lO h1⟩,q _ _ m j p x λk o f c=>?_⟩;have hl:=h2.length;have Q:=(f.trans c).lO h1;refine⟨λi hi=>⟨vs,vs[i],Q,Ah (by lia)⟩,⟨vs,Q,by lia⟩,λi x n hi y=>?_⟩;obtain⟨rfl,y⟩:=y;obtain⟨d,hd,rd⟩:=h2.get' (y vs Q);exact⟨d,k,hd,cP.refl c,rd.mono f⟩
 .exact p.elim
noncomputable def tR (lo c:Int)(n:Nat):List D:=(Ax n).map λ(i:Nat)=>D.int (lo+i*c)
theorem eC {lo c:Int}{n:Nat}:(tR lo c n).length=n:=by simp[tR]
theorem vg {lo c:Int}{n i:Nat}(h:i<n):(tR lo c n)[i]?=some (.int (lo+i*c)):=by simp[tR,h]
theorem eJ {lo c:Int}{n i:Nat}{d:D}(h:(tR lo c n)[i]?=some d):i<n/\d = .int (lo+i*c):=by
 have hi:i<n:=by
  have:=(Ab.mp h).1
  rwa[eC]at this
 rw[vg hi]at h;exact⟨hi,(AV h).symm⟩
theorem Tr {F:Hp}{lo:Int}{n:Nat}:Č K F (À lo n) (tR lo 1 n):=λe h f c=>by
 rw[eC];refine⟨λi hi=>hi,Ak _,λi x g hi y=>?_⟩;obtain⟨rfl,rfl⟩:=y;exact⟨_,e,vg hi,cP.refl c,by rw[JZ];rfl⟩
theorem xU {F:Hp}{lo c:Int}{n:Nat}:Č K F (Uc lo c n) (tR lo c n):=λf j g e=>by
 rw[eC];refine⟨λi hi=>hi,Ak _,λi x h hi y=>?_⟩;obtain⟨rfl,rfl⟩:=y;exact⟨_,f,vg hi,cP.refl e,rfl⟩
def U_ (As:DA):DA:=λδ P=>As δ λds=>match ds with
 | [.int j]=>(-(2^62)<=j/\j<2^62)/\P (tR 0 1 j.toNat)
 |_=>False
def U9 (As:DA):DA:=λδ P=>As δ λds=>match ds with
 | [.int i,.int j,.int c]=>(-(2^61)<=i/\i<2^61/\-(2^61)<=j/\j<2^61/\0<c/\c<2^29)/\P (tR i c (d5 i j c))
 |_=>False
theorem UC (h:bE K F [d,d',c] vs): ∃v u w,vs=[v,u,w]/\dP K F d v/\dP K F d' u/\dP K F c w:=by
 obtain⟨v,r,rfl,h1,h2⟩:=h;obtain⟨u,w,rfl,f,e⟩:=xk h2;exact⟨v,u,w,rfl,h1,f,e⟩
theorem fJ (h:kH K a As): lp K (UY a) (U_ As):=λj f F H Y δ P R e w q=>h j f F H Y δ _ _ e w λds vs k g p x r=>by
 split at p
 .obtain ⟨v,rfl,c⟩:=gQ r;exact⟨_,by rw[show v=_ from c],p.1.1,p.1.2,q _ _ k g p.2 x Tr⟩
 .exact p.elim
theorem mL (h:kH K a As): lp K (UX a) (U9 As):=λl j F H Y δ P R e w q=>h l j F H Y δ _ _ e w λds vs m k p x r=>by
 split at p
 .obtain ⟨v,u,z,rfl,g,f,c⟩:=UC r;exact⟨_,_,_,by rw[show v=_ from g,show u=_ from f,show z=_ from c],p.1,q _ _ m k p.2 x xU⟩
 .exact p.elim
def Za (As:DA):DA:=λδ P=>As δ λds=>match ds with
 | [.tup xs]=>P xs.reverse
 |_=>False
theorem VJ (h:dN K a As):lp K (YA K a) (Za As):=λl g F H Y δ P R e w q=>h l g F H Y δ _ _ e w λds vs m j p x r=>by
 split at p
 .obtain ⟨v,rfl,a,us,rfl,h1,h2⟩:=gQ r;have hl:=h2.length;refine⟨a,us,rfl,x.fh.lO h1,q _ _ m j p x λk o f c=>?_⟩;have Q:=(f.trans c).lO h1;rw[B8];refine⟨λi hi=>⟨us,us[us.length-1-i]'(by omega),Q,rfl,by lia,Ah (by omega)⟩,by show us.length<=_;lia,λi x n hi y=>?_⟩;obtain⟨rfl,y⟩:=y;obtain⟨d,hd,rd⟩:=h2.get' (y us Q);refine⟨d,k,?_,cP.refl c,rd.mono f⟩;rw[Cn hi,hl];exact hd
 .exact p.elim
noncomputable def Ly (ix:List (Option Nat))(δ:c7):c7:=ix.map λo=>match o with
 |none=>none
 |some i=>match δ[i]? with
  |some (some (.own (.fz d)))=>some (.own (.fz d))
  |some (some (.own (.fx _ d)))=>some (.own (.fz d))
  |some (some (.own t))=>some (.bw t.val)
  |some (some (.bw d))=>some (.bw d)
  |_=>none
def eQ (G:D->c7->(c7->Prop)->Prop)(Eo:DO)(ds:List D)(δ:c7)(P:OV->Prop):Prop:=∃W:Nat->c7->List OV->Prop,W 0 δ []/\
 (∀i d δ ts,ds[i]?=some d->W i δ ts->ts.length<1000000/\G d δ λc=>Eo c λr=>W (i+1) c (ts++[r]))/\∀δ ts,W ds.length δ ts->P (.nl ts)
def Rx (I:DA)(ix:List (Option Nat))(G:D->c7->(c7->Prop)->Prop)(Eo:DO):DO:=λδ P=>I δ λds=>eQ G Eo ds (Ly ix δ) P
theorem ER.tf {A:Nat->List Ac}(e:ER K n m F H Y δ A)(ix:List (Option Nat))(s:a6 H l): ER K F H F l (nr ix Y) (Ly ix δ) (λ_=>[]):=by
 have get:∀(j:Nat) (s:Sl),(Ly ix δ)[j]?=some (some s)->∃(i:Nat) (v:V),(nr ix Y)[j]?=some (some v)/\Y[i]?=some (some v)/\((∃d,s = .own (.fz d)/\dP K F d v)∨∃d,s = .bw d/\dP K H d v):=by
  intro j s c;unfold Ly at c;rw[AN]at c
  cases q:ix[j]? with
  |none=>rw[q]at c;cases c
  |some o=>
   rw[q]at c
   cases o with
   |none=>cases c
   |some i=>
    have fin:∀v,Y[i]?=some (some v)->(nr ix Y)[j]?=some (some v):=λv k=>by
     unfold nr;rw[AN,q];simp[k]
    have J:=AV c;dsimp only at J;split at J
    .rename_i d hd;cases J;obtain⟨v,h1,h2⟩:=e.own i _ hd;exact⟨i,v,fin v h1,h1,.inl ⟨d,rfl,h2.2⟩⟩
    .rename_i u d hd;cases J;obtain⟨v,h1,h2⟩:=e.own i _ hd;exact⟨i,v,fin v h1,h1,.inl ⟨d,rfl,h2.2.2⟩⟩
    .rename_i t _ _ hd;cases J;obtain⟨v,h1,h2⟩:=e.own i _ hd;exact⟨i,v,fin v h1,h1,.inr ⟨_,rfl,h2.rep e.ext.fh λa _ xs z=>z⟩⟩
    .rename_i d hd;cases J;obtain⟨v,h1,h2⟩:=e.bw i _ hd;exact⟨i,v,fin v h1,h1,.inr ⟨_,rfl,h2.mono e.ext.hh⟩⟩
    .cases J
 refine⟨by simp[nr,Ly],cP.grow e.ext.fh s,λj t c=>?_,λj d c=>?_,λ_=>CP,(λ_ _ _ _ h=>by cases h),(λ_ _ h=>by cases h)⟩
 .obtain ⟨i,v,h1,h2,f⟩:=get j _ c;rcases f with⟨d,f,g⟩ | ⟨d,f,_⟩
  .cases f;exact⟨v,h1,rfl,g⟩
  .cases f
 .obtain ⟨i,v,h1,h2,f⟩:=get j _ c;rcases f with⟨d',f,g⟩ | ⟨d',f,g⟩
  .cases f
  .cases f;exact⟨v,h1,g⟩
theorem R_ {TF:Hp->Prop}{G:D->c7->(c7->Prop)->Prop}(mo:MT TF)(hi:lp K wi I)(hg:yy K g G)(he:yx K TF te Eo): yx K TF (qb wi ix g te) (Rx I ix G Eo):=λF0 H0 hT F H Y δ P Q e w q=>
 hi F0 H0 F H Y δ _ _ e w λds J F1 H1 p x1 hJ=>by
  intro L hL;obtain⟨A,e⟩:=e.on x1;obtain⟨W,w0,ws,wd⟩:=p;have f1:a6 F1 H1:=x1.fh;have ϫ:=mo _ _ e.ext.ff hT;refine⟨λi m Y ys H=>m=ds.length-i/\i<=ds.length/\∃F δ ts B,ER K F1 H1 F H Y δ (λ_=>[])/\W i δ ts/\F L=none/\H L=some (.lst ys)/\bg K F H ts ys B/\(L::B).Nodup/\∀b∈B,H1 b=none/\F b=none,
   ⟨ds.length,rfl,Bv _,F1,_,[],[],e.tf ix (a6.new hL),w0,f1.free hL,a9,⟨rfl,rfl⟩,by simp,λ_ h=>by cases h⟩,?_⟩
  rintro i m Y2 ys H2 ⟨rfl,Į,F2,Ä,ts,B,e2,w2,l1,l2,hr,nd,nw⟩;obtain⟨j1,j2,j3⟩:=hJ F2 H2 e2.ext.ff e2.ext.fh;by_cases l:i<ds.length
  .obtain ⟨d0,YK⟩:∃d,ds[i]?=some d:=⟨_,Ah l⟩
   have hl:=hr.length;refine .inr ⟨wJ (by have:=(ws i d0 Ä ts YK w2).1;lia),j1 i l,λx H3 y=>?_⟩;obtain⟨d,F3,hd,x3,r3⟩:=j3 i x H3 l y;refine hg F1 H1 F3 H3 Y2 Ä (λ_=>[]) d x _ _ (e2.on x3) r3 (ws i d Ä ts hd w2).2 λY4 O A4 w4 e4 sub=>?_
   have YY:ER K F1 H1 F3 H3 Y4 O (λ_=>[]):=by
    have:A4=λ_=>[]:=funext λk=>List.eq_nil_iff_forall_not_mem.mpr λb f=>by cases sub k b f
    rw[this]at e4;exact e4
   refine he F1 H1 ϫ F3 H3 Y4 O _ _ ⟨_,YY⟩ w4 λr v F5 H5 p5 x5 n5=>?_
   have c:=x3.trans x5;have l5:=c.hh _ _ l2;have Ġ:=c.no L _ l1 l2 rfl;refine⟨l5,ds.length-(i+1),by lia,rfl,l,F5,O,ts++[r],?_⟩;obtain⟨C,c1,c2,c3⟩:=n5;obtain⟨n1,n2⟩:=AD.mp nd;have YM:L∉C:=λz=>by
    have q:=(c3 L z).1;rw[x3.hh _ _ l2]at q;cases q
   have û:∀b,b∈B->b∉C:=λb f z=>by
    obtain⟨xs,q,M⟩:=hr.sq b f;have:=(c3 b z).1;rw[x3.hh _ _ q]at this;cases this
   have n:=YY.on x5;refine⟨B++C,⟨n.len,⟨n.ext.ff,λb o h=>?_,λb o h=>?_,n.ext.no⟩,λj t hj=>?_,n.bw,n.i5,n.iY,λ_ _ h=>by cases h⟩,p5,Ġ,a9,?_,?_,λb f=>?_⟩
   .exact a8 (λz=>by rw[z,hL]at h;cases h) (n.ext.hh _ _ h)
   .exact a8 (λz=>by rw[z,Ġ]at h;cases h) (n.ext.fh _ _ h)
   .obtain ⟨u,h1,h2⟩:=n.own j t hj;exact⟨u,h1,h2.frame (a6.refl _) λ_ z=>by cases z⟩
   .exact bg.append (hr.frame c.ff λb f xs z=>a8 (λq=>n1 (by rw[<- q];exact f)) (c.hh _ _ z)) (bg.one (c1.frame (a6.refl _) λb f xs z=>a8 (λq=>YM (by rw[<- q];exact f)) z))
   .refine AD.mpr ⟨λz=>?_,AQ.mpr ⟨n2,c2,λx hx y hy z=>by subst z;exact û x hx hy⟩⟩;rcases Au.mp z with z |z
    .exact n1 z
    .exact YM z
   .rcases Au.mp f with z |z
    .obtain ⟨xs,qq,M⟩:=hr.sq b z;exact⟨(nw b z).1,c.no b _ (nw b z).2 qq M⟩
    .exact ⟨(e2.ext.hh.trans x3.hh).free (c3 b z).1,(c3 b z).2⟩
  .have ð:i=ds.length:=by lia
   subst ð;refine .inl ⟨j2,q _ _ F2 H2 (wd _ _ w2) (x1.trans e2.ext) ⟨L::B,⟨L,ys,B,rfl,rfl,l2,hr⟩,nd,λb f=>?_⟩⟩;rcases AB.mp f with rfl |z
   .exact ⟨x1.hh.free hL,l1⟩
   .exact ⟨x1.hh.free (nw b z).1,(nw b z).2⟩
noncomputable def dD (N:List Am)(ds:List D):c7:=ds.map (λd=>some (.own (.fz d)))++Aw (N.length-ds.length) none
theorem cz {G:D->c7->(c7->Prop)->Prop}(hi:lp K w I)(hg:yy K g G)(h:eF K te Eo): eF K (qb w ix g te) (Rx I ix G Eo):=λe c=>R_ (TF:=λ_=>True) (λ_ _ _ z=>z) hi hg (λe c _=>h e c) e c trivial
theorem fu (s:a6 F H)(h:bE K F ds vs): ER K F H F H (start N vs) (dD N ds) (λ_=>[]):=by
 have hl:=h.length;refine⟨by simp[start,dD,hl],cP.refl s,λi t hi=>?_,λi d hi=>?_,λ_=>CP,(λ_ _ _ _ h=>by cases h),(λ_ _ h=>by cases h)⟩
 .unfold dD at hi;by_cases z:i<ds.length
  .rw [AZ (by simpa using z),AN,Ah z]at hi;simp at hi
   subst hi;obtain⟨v,h1,h2⟩:=h.get (Ah z);refine⟨v,?_,rfl,h2⟩;unfold start;rw[AZ (by simp;lia),AN,h1];rfl
  .rw [Bk (by simpa using z)]at hi;have:=An hi;rw[Di]at this;cases this.2
 .unfold dD at hi;by_cases z:i<ds.length
  .rw [AZ (by simpa using z),AN]at hi;simp at hi
  .rw [Bk (by simpa using z)]at hi;have:=An hi;rw[Di]at this;cases this.2
end
theorem cE.of {P:AE}{w:AU}{K:Ar}{m:Am->Option Aa}{base:Heap}{x:Am}{st:AW}{f:Ac}{fd:Ag}{N ps:List Am}{k n:Nat}{sp:c_}(M:bG K m x st f fd)(S:aN N ps (aA st))
  (G:∀(kV O pm:Aa) (L:Option Ac) (c ct:Aa) (us:List Aa),us.length=ps.length->Cr (Ep x x (bZ st) (bx st) (aA st) .none kV O pm L c ct) ⟨us,[]⟩=pure (ps.zip us)) (hn:n=ps.length)
  (o:∀(c:Aa) (A:AX) (outer:List EJ) (s:Ae) (H:Hp) (E:XK),cJ k (A.deeper (BG x (aA st) s.heap.objs.size f c))->
   ∃t T,PSs (eH l' P w K m base N x (aA st) f c A outer s H E).pP (bx st) t/\bR K t T/\∀ds a,sp ds a->T {nx:=λ_=>a (.fz .cn),rt:=a} (dD N ds)):bO P w K m base x (k+1) ps (bL K n sp):=
 bO.of M S G (λvs H Q E h=>by rw[<- hn];exact h.1) λc A outer s H vs Q E C h=>by
  obtain⟨_,F,ds,a,B,j,g,u⟩:=h;obtain⟨t,T,h1,h2,J⟩:=o c A outer s H E C;refine⟨t,h1,h2 F H F H (start N vs) (dD N ds) {nx:=λ_=>a (.fz .cn),rt:=a} _ ⟨_,fu B j⟩ ⟨λq l Y δ e p=>?_,λ_ _ _ _ _ z=>z.elim,λ_ _ _ _ _ z=>z.elim,λq l r v x n p=>u r v q l p x n⟩ (J ds a g)⟩;exact u _ _ q l p e.ext (.fz rfl)
section
variable {X:Cx}{K:Ar}
noncomputable def D.ZJ:D->String
 | .int _ => "int"
 | .bl _ => "bool"
 | .cn => "NoneType"
 | .str _ => "str"
 | .ty _ => "type"
 | .fn _ => "function"
 | .tup _ => "tuple"
 | .lst _ => "list"
 | .Oz => "dict"
 | .exc _ => "exception"
 | .obj _ _ _ => "object"
 | .pW _ _ _ _ => "function"
def UJ (K:Ar):List V->Hp->VK->Prop:=λxs H Q=>∃d v n b,xs=[v,.ty n]/\dP K H d v/\((∀m,d≠.ty m)/\(∀x,d≠.fn x)/\(∀x,d≠.exc x)/\(∀c ns ds,d≠.obj c ns ds)/\∀a b c e,d≠.pW a b c e)/\IY K (.type d.ZJ) (.type n)=some b/\Q (.bl b) H
theorem cw:fT X (.builtin "isinstance") (UJ X.K):=by
 intro pins s Y H xs us Q I r h;obtain⟨d,x,n,b,rfl,f,⟨T,l,hex,A⟩,e,q⟩:=h;obtain⟨u,G,rfl,g,m⟩:=LG r;cases m;have fin:∀tk,EP X pins Y Q (.bool b) {s with toks:=tk}:=λtk=>⟨.bl b,H,I.tok tk,rfl,q⟩
 cases d with
 |int i=>cases f;exact k6 I g (lj.int i) e fin
 |bl i=>cases f;exact k6 I g (lj.bl i) e fin
 |cn=>cases f;exact k6 I g lj.cn e fin
 |str i=>cases f;exact k6 I g (lj.str i) e fin
 |ty i=>exact absurd rfl (T i)
 |fn i=>exact absurd rfl (l i)
 |tup ds=>
  obtain⟨a,vs,rfl,h1,h2⟩:=f
  cases (show u=Bj a from g)
  obtain⟨t,v,p,C⟩:=I.tuple h1;obtain⟨o,k,j,_⟩:=p;exact C_ IX I.kZ ⟨o,k,j⟩ e (λz=>nomatch z) fin
 |lst ds=>
  obtain⟨a,vs,rfl,h1,h2⟩:=f
  cases (show u=Bj a from g)
  obtain⟨t,v,p,C⟩:=I.list h1;obtain⟨o,k,j,_⟩:=p.isList;exact C_ HM I.kZ ⟨o,k,j⟩ e (λz=>nomatch z) fin
 |Oz=>
  obtain⟨a,rfl,h1⟩:=f
  cases (show u=Bj a from g)
  obtain⟨⟨o,k,j⟩,_,_⟩:=I.cY a _ h1;exact C_ HN I.kZ ⟨o,k,j⟩ e (λz=>nomatch z) fin
 |exc c=>exact absurd rfl (hex c)
 |obj c ns ds=>exact absurd rfl (A.1 c ns ds)
 |pW k j B w=>exact absurd rfl (A.2 k j B w)
noncomputable def Q4 (d:D)(n:String):Bool:=match d with
 | .int _=>n == "int"
 | .bl _=>n == "bool" ||n == "int"
 | .str _=>n == "str"
 | .tup _=>n == "tuple"
 | .lst _=>n == "list"
 |_=>false
noncomputable def mY:List String:=["int","bool","str","tuple","list"]
structure bQ (K:Ar):Prop where
 all:∀d:D,((∀m,d≠.ty m)/\(∀x,d≠.fn x)/\(∀x,d≠.exc x)/\(∀c ns ds,d≠.obj c ns ds)/\∀a b c e,d≠.pW a b c e)->∀n∈mY,IY K (.type d.ZJ) (.type n)=some (Q4 d n)
def Wz:List D->(D->Prop)->Prop:=λds P=>match ds with
 | [.ty _,.ty _]=>False
 | [.fn _,.ty _]=>False
 | [.exc _,.ty _]=>False
 | [.obj _ _ _,.ty _]=>False
 | [.pW _ _ _ _,.ty _]=>False
 | [d,.ty n]=>n∈mY/\P (.bl (Q4 d n))
 |_=>False
theorem eh (KT:bQ K): Vl K (UJ K) Wz:=λF H ds vs P Q s r w q=>by
 unfold Wz at w;split at w
 .exact w.elim
 .exact w.elim
 .exact w.elim
 .exact w.elim
 .exact w.elim
 .rename_i d n h1 o h2 l k;obtain⟨v,u,rfl,j,g⟩:=xk r;have ht:∀m,d≠.ty m:=λm z=>h1 m z
  have hf:∀m,d≠.fn m:=λm z=>o m z
  have f:∀m,d≠.exc m:=λm z=>h2 m z
  have h:(∀c ns ds,d≠.obj c ns ds)/\∀a b c e,d≠.pW a b c e:=⟨λc ns ds z=>l c ns ds z,λa b c e z=>k a b c e z⟩
  exact⟨d,v,n,_,by rw[show u=_ from g],j,⟨ht,hf,f,h⟩,KT.all d ⟨ht,hf,f,h⟩ n w.1,q _ _ F H w.2 (cP.refl s) rfl⟩
 .exact w.elim
theorem Yk {g:Int->Int->Int}: yE K (á g) (VY λi j=>.int (g i j)):=λF H x y v u P Q s a r w q=>by
 obtain⟨i,j,rfl,rfl,p⟩:=Mc w;exact⟨i,j,a,r,q _ _ F H p (cP.refl s) rfl⟩
theorem Lz {c:Type}{a:c}{xs:List c}:hQ (a::xs) 0=some a:=d3 rfl
theorem Xe {c:Type}{a b:c}{xs:List c}:hQ (a::b::xs) 1=some b:=d3 rfl
theorem Xd {e:Type}{a b c:e}{xs:List e}:hQ (a::b::c::xs) 2=some c:=d3 rfl
theorem Xc {e:Type}{a b c d:e}{xs:List e}:hQ (a::b::c::d::xs) 3=some d:=d3 rfl
theorem Xb {f:Type}{a b c d e:f}{xs:List f}:hQ (a::b::c::d::e::xs) 4=some e:=d3 rfl
theorem nu {xs:List Int}{i:Int}(a:0<=i)(h:i<xs.length):hQ (xs.map D.int) i=some (.int (xs.getD i.toNat 0)):=by
 have hi:i.toNat<xs.length:=by lia
 have e:=d3 (xs:=xs.map D.int) (j:=i.toNat) (v:=.int (xs.getD i.toNat 0)) (by simp[hi])
 rwa[show ((i.toNat:Nat):Int)=i by lia]at e
theorem MD {ds:List D}:OV.vals (ds.map OV.fz)=ds:=by
 rw[OV.cm];simp[BF,OV.val]
theorem mulL (h1 : -1000000<=i)(h2:i<=1000000): N8 i j:=.inl ⟨by lia,by lia⟩
theorem mulR {i j:Int}(h1 : -1000000<=j)(h2:j<=1000000):N8 i j:=.inr ⟨by lia,by lia⟩
theorem mV {c a:Type}{xs:List c}{f:c->a}{i:Nat}{d:a}(h:(xs.map f)[i]?=some d):∃x,xs[i]?=some x/\d=f x:=by
 rw[AN]at h
 cases q:xs[i]? with
 |none=>rw[q]at h;cases h
 |some x=>rw[q]at h;exact⟨x,rfl,(AV h).symm⟩
theorem Sb {xs:List Int}:Bu OV.val (xs.map λx=>OV.fz (D.int x))=xs.map D.int:=by
 rw[A8];rfl
theorem Tw {xs:List Int}{i:Int}(a:0<=i)(h:i<xs.length):(xs.map λx=>OV.fz (D.int x))[i.toNat]?=some (.fz (.int (xs.getD i.toNat 0))):=by
 have hi:i.toNat<xs.length:=by lia
 simp[hi]
theorem Ss {xs:List Int}{i:Nat}{v:Int}:(xs.map λx=>OV.fz (D.int x)).set i (.fz (.int v))=(xs.set i v).map λx=>OV.fz (D.int x):=by
 rw[Ju]
theorem T6:(xs.map λx=>OV.fz (D.int x))++[.fz (.int v)]=(xs++[v]).map λx=>OV.fz (D.int x):=by
 rw[A5];rfl
theorem Th {xs:List Int}:OV.hI (xs.map λx=>OV.fz (D.int x))=true:=by
 rw[OV.gZ];simp[OV.lf,D.lf]
theorem WR {xs:List Int}:(xs.map D.int).map OV.fz=xs.map λx=>OV.fz (D.int x):=by
 rw[A8];rfl
theorem Wr:("int"∈mY)=True:=eq_true (by decide)
theorem Tp:("bool"∈mY)=True:=eq_true (by decide)
theorem Wq:("str"∈mY)=True:=eq_true (by decide)
theorem Q2:("tuple"∈mY)=True:=eq_true (by decide)
theorem To:("list"∈mY)=True:=eq_true (by decide)
theorem Yo:(Ki 10<2^64)=True:=eq_true (by decide)
theorem eQ.map {a:Type}{O:DO}{o:Option Sl}{dg:c7}{P:OV->Prop}(xs:List a)(g:a->D)(f:a->OV)(hn:xs.length<=1000000)
  (h:∀x∈xs,∀Q:OV->Prop,Q (f x)->O (some (.own (.fz (g x)))::dg) Q) (k:P (.nl (xs.map f))):eQ (gN 0) O (xs.map g) (o::dg) P:=by
 refine⟨λi δ ts=>∃o,δ=o::dg/\ts=(xs.take i).map f,⟨o,rfl,rfl⟩,?_,?_⟩
 .rintro i d δ ts hd ⟨o,rfl,rfl⟩;obtain⟨x,c,rfl⟩:=mV hd;obtain⟨hi,e⟩:=Ab.mp c;refine⟨by rw[Ay,Bp];lia,h x (An c) _ ⟨_,rfl,?_⟩⟩;rw[Bo hi,e,A5];rfl
 .rintro δ ts ⟨o,rfl,rfl⟩;rw[Ay,BU];exact k
theorem eQ.tR {O:DO}{o:Option Sl}{dg:c7}{P:OV->Prop}{lo c:Int}{n:Nat}(f:Nat->OV)(hn:n<=1000000)
  (h:∀i,i<n->∀Q:OV->Prop,Q (f i)->O (some (.own (.fz (.int (lo+i*c))))::dg) Q) (k:P (.nl ((Ax n).map f))):eQ (gN 0) O (tR lo c n) (o::dg) P:=
 eQ.map (Ax n) _ f (by simpa using hn) (λi hi Q q=>h i (Bz.mp hi) Q q) k
theorem Ph (h:∀N:c7->Prop,(∀a,U e a->N a)->T {e with nx:=N} δ): Pj T U e δ:=h _ λ_ z=>z
end
end L2
namespace PySem
open AutoSeq1
noncomputable abbrev ue (T:String)(o:Option Ac)(xs:Array Aa)(k:Nat)(l:Array (Option Aa)):Co:={cls:=.type T,dict:=o,data:=.seq xs k,slots:=l}
theorem rG (l b:Ac)(xs ys:Array Aa)(k m:Nat)(o:Option Ac)(L:Array (Option Aa))(c:¬(!xs.isEmpty && Ci (xs.size+ys.size))=true)(h1:xs.size<=AH)(h2:xs.size+ys.size<=AH+1):
  K5 (Cy.«list.extend» ⟨[.ref l,.ref b],[]⟩) (λ_ R s=>s.heap.get? l=some (ue "list" none xs k #[])/\s.heap.get? b=some (ue "list" o ys m L)/\R (.ok (.ret .none)) {s with heap:=s.heap.update l (CF (·++ys)),toks:=s.toks}):=by
 refine .of_wp λprog w A R s h=>?_
 obtain⟨e,a,fin⟩:=h;have room:(xs++ys).size<=AH+1:=by
  rw[FJ];exact h2
 wp_walk using (Ev e rfl (_hz':=room)),wpAny_loadPart' e,wpAny_loadPart' a
 exact⟨_,rfl,fin⟩
theorem pj (l b:Ac)(xs ys:Array Aa)(k m:Nat)(o:Option Ac)(L:Array (Option Aa))(c:¬(!xs.isEmpty && Ci (xs.size+ys.size))=true)(h1:xs.size<=AH)(h2:xs.size+ys.size<=AH+1):
  K5 (Cy.«list.extend» ⟨[.ref l,.ref b],[]⟩) (λ_ R s=>s.heap.get? l=some (ue "list" none xs k #[])/\s.heap.get? b=some (ue "tuple" o ys m L)/\R (.ok (.ret .none)) {s with heap:=s.heap.update l (CF (·++ys)),toks:=s.toks}):=by
 refine .of_wp λprog w A R s h=>?_
 obtain⟨e,a,fin⟩:=h;have room:(xs++ys).size<=AH+1:=by
  rw[FJ];exact h2
 wp_walk using (Ev e rfl (_hz':=room)),wpAny_loadPart' e,wpAny_loadPart' a
 exact⟨_,rfl,fin⟩
theorem xQ (l b:Ac)(xs ys:Array Aa)(k m:Nat)(O o:Option Ac)(L M:Array (Option Aa))(f:xs.size+ys.size<=AH):
  K5 (Cy.«list.__add__» ⟨[.ref l,.ref b],[]⟩) (λ_ R s=>s.heap.get? l=some (ue "list" O xs k L)/\s.heap.get? b=some (ue "list" o ys m M)/\R (.ok (.ret (.ref s.heap.objs.size))) {s with heap:=s.heap.push {cls:=.type "list",data:=.seq (xs++ys)},toks:=s.toks}):=by
 refine .of_wp λprog w A R s h=>?_
 obtain⟨a,e,fin⟩:=h;have c:=sub_list_list
 wp_walk using wpAny_loadPart' a,wpAny_loadPart' e
 exact⟨_,rfl,fin⟩
end PySem
namespace L2
open PySem PySem.Spec PyProof.Rows
section
variable {X:Cx}{K:Ar}
def xl (K:Ar):V->List V->Hp->VK->Prop:=λx vs H Q=>∃l b xs z,x = .ref l/\vs=[.ref b]/\H l=some (.lst xs)/\(eR K H b z∨jO K H b z)/\xs.length+z.length<=AH/\Q .cn (c8 H l (.lst (xs++z)))
theorem ry:Z_ X "list.extend" (xl X.K):=by
 intro pins s Y H x vs v us Q I C G h;obtain⟨l,b,xs,f,rfl,rfl,w,B,M,q⟩:=h;cases C;obtain⟨u,rfl,U⟩:=G.one;cases U;obtain⟨z,t,n,r,hl,e⟩:=I.QV w;have room:∀ys:List Aa,ys.length=f.length->t.toArray.size+ys.toArray.size<=AH:=λys a=>by rw[Aq,Aq];lia
 have fits:∀ys:List Aa,ys.length=f.length->¬ (!t.toArray.isEmpty && Ci (t.toArray.size+ys.toArray.size))=true:=λys a=>by
  rw[xI (room ys a),Bool.and_false];exact AI
 have fin:∀ys:List Aa,bI f ys->EP X pins Y Q .none {s with heap:=s.heap.update l (CF (·++ys.toArray)),toks:=s.toks}:=λys c=>
  ⟨.cn,_,I.Wj (its':=t++ys) w e (by simp) (r.append c) (by rw[AG];omega),rfl,q⟩
 rcases B with B |B
 .obtain ⟨ys,c,⟨o,m,p,k,L,j⟩,_⟩:=I.list B;obtain⟨J,g,A,O⟩:=o;subst k j;have a:=c.length;exact Fh F.slot_list_extend ⟨_,e,rfl⟩ F.entry_list_extend (F.args_list_extend_2 _ _) (rG l b t.toArray ys.toArray n m g O (fits ys a.symm) (by rw[Aq];lia) (by have:=room ys a.symm;lia)) ⟨e,p,fin ys c⟩
 .obtain ⟨ys,c,⟨o,p,k,m,j⟩,_⟩:=I.tuple B;obtain⟨J,g,A,O⟩:=o;subst k j;have a:=c.length;exact Fh F.slot_list_extend ⟨_,e,rfl⟩ F.entry_list_extend (F.args_list_extend_2 _ _) (pj l b t.toArray ys.toArray n m g O (fits ys a.symm) (by rw[Aq];lia) (by have:=room ys a.symm;lia)) ⟨e,p,fin ys c⟩
def Qg (K:Ar):R2:=λx y H Q=>∃l b xs z,x = .ref l/\y = .ref b/\eR K H l xs/\eR K H b z/\xs.length+z.length<=AH/\∀p a,H p=none->a6 H a->a p=some (.lst (xs++z))->Q (.ref p) a
theorem vp:k_ X (Cs .Add) (Qg X.K):=by
 intro pins s Y H x y v u Q I g f h;obtain⟨l,b,xs,zs,rfl,rfl,M,L,hz,q⟩:=h;cases g;cases f;obtain⟨T,r,⟨o,n,e,C,o2,B⟩,_⟩:=I.list M;obtain⟨t,a,⟨G,J,c,m,p2,k⟩,_⟩:=I.list L;obtain⟨oc,z,w,O⟩:=o;obtain⟨pc,j,A,p⟩:=G;subst C B m k;have l1:=r.length;have l2:=a.length;refine PySem.concat_meets ⟨_,e,rfl⟩ ⟨_,c,rfl⟩ PySem.noFill_list_add PySem.seq_list_add F.slot_list_add F.entry_list_add (F.args_list_add_2 _ _) (xQ l b T.toArray t.toArray n J z j O p (by rw[Aq,Aq];lia)) ⟨e,c,?_⟩;have U:T.toArray++t.toArray=(T++t).toArray:=by simp
 rw[U];exact⟨.ref _,_,I.Wl (t':=s.toks) (r.append a) (by rw[AG];omega),rfl,q _ _ I.fresh (a6.new I.fresh) a9⟩
def Vf (a B:DE):DO:=λδ P=>a δ λx=>B δ λy=>match x,y with
 | .lst xs,.lst ys=>xs.length+ys.length<=1000000/\P (.nl ((xs++ys).map .fz))
 |_,_=>False
theorem L7 (G:cH K t Ea)(C:cH K tb Eb): eF K (LK (Qg K) t tb) (Vf Ea Eb):=λn m F H Y δ P Q e w q=>
 G n m F H Y δ _ _ e w λx v U J o k z=>C n m U J Y δ _ _ (e.on k) o λy u T H2 f a r=>by
  have c:=k.trans a;split at f
  .obtain ⟨p,vs,rfl,h1,h2⟩:=z.mono a.ff;obtain⟨A,g,rfl,j,h⟩:=r;have l1:=h2.length;have l2:=h.length;exact⟨p,A,vs,g,rfl,rfl,a.fh.seq h1,a.fh.seq j,eG (by lia),λl O L M B=>q _ _ T O f.2 (c.trans (cP.grow a.fh M)) (fk.list (c.hh.free L) (a.fh.free L) B (h2.append h))⟩
  .exact f.elim
noncomputable def ō (K:Ar)(a:Ac)(n:Nat):It:=
 ⟨λi H=>∃xs x,eR K H a xs/\xs.length=n/\i<n/\xs[n-1-i]?=some x,λi H x c=>c=H/\∀xs,eR K H a xs->xs[n-1-i]?=some x,λi _=>n<=i⟩
theorem M5 (a it:Ac)(n:Nat): tj P w K tg (ō K a n) [it] it (λi h=>i<=n/\h.IsRevIter it a ((n:Int)-1-(i:Nat))) where
 mem:=by simp
 obj:=λi h st b hb=>by
  have e:b=it:=by simpa using hb
  subst e;obtain⟨_,o,ho,_,hd⟩:=st;exact⟨o,ho,λv z=>by rw[hd]at z;cases z⟩
 keep:=λi h h' st k=>⟨st.1,st.2.at λo e=>k it (by simp) o e⟩
 item:=by
  kj_on
  obtain⟨xs,x,hq,hn,hi,hx⟩:=hg;obtain⟨UT,rv,p,hz⟩:=I.list hq;obtain⟨u,hu,ru⟩:=rv.get hx;obtain⟨f0,f1,f2,f3,f4,f5⟩:=hf it (by simp);have uN:s.heap.IsRevIter it a (((n-1-i:Nat)):Int):=by
   have e:(((n-1-i:Nat)):Int)=(n:Int)-1-(i:Nat):=by lia
   rw[e];exact st.2
  refine PySem.wpAny_pyNext_rev_item uN p.isList (by simpa using hu) λh' uO sb=>?_
  have I1:bA X pins Y H {s with heap:=h',toks:=s.toks}:=I.turned (t':=s.toks) (λb o hb e=>(sb.2 b hb).trans e) f0 f1 f3 f4 f5;have LN:h'.IsRevIter it a ((n:Int)-1-((i+1:Nat):Int)):=by
   have e:(n:Int)-1-((i+1:Nat):Int)=(((n-1-i:Nat)):Int)-1:=by lia
   rw[e];exact uO
  obtain⟨o,ho,Ox,xV⟩:=id LN;exact⟨u,rfl,oT (s:={s with heap:=h',toks:=s.toks}) (n := "list_reverseiterator") ho Ox xV rfl ⟨x,H,I1,ru,⟨rfl,λys hy=>by rw[I.xS hy hq];exact hx⟩,⟨by lia,LN⟩,λb hb=>(hf b hb).1⟩⟩
 done:=by
  intro X hP hw hK hc i pins s Y H E I hf st hg;obtain⟨f0,f1,f2,f3,f4,f5⟩:=hf it (by simp);have uN:s.heap.IsRevIter it a (-1):=by
   have h2:n<=i:=hg;have e:(-1:Int)=(n:Int)-1-(i:Nat):=by lia
   rw[e];exact st.2
  exact PySem.wpAny_pyNext_rev_end (I.ok.hd hc) uN λh' eb=>⟨rfl,I.turned (t':=s.toks) (λb o hb e=>eb b o hb e) f0 f1 f3 f4 f5⟩
 self:=λ_ _ _ _ _ st h=>PySem.wpAny_pyIter_revIter st.2 h
def UZ (K:Ar)(t:TA):TI:=λY H R=>t Y H λvs c=>∃a xs,vs=[.ref a]/\eR K c a xs/\R (ō K a xs.length) c
theorem vl (hg:Gl X "reversed")(M:X.mg "reversed"=none)(A:PA X [l] T)(k:Av [l] X.env=[(false,eval l X.env)]:=by rfl): PI X G (.Call (.Name "reversed" p) [l] [] pos) (UZ X.K T):=by
 intro pins s Y H R I h;refine Hh (f9 I hg M DI (A9 (cK (A pos pins s Y H _ I h) λus c z=>?_) k rfl));obtain⟨vs,n,f,j,Q⟩:=z;obtain⟨a,xs,e,m,q⟩:=Q;subst e;obtain⟨u,rfl,U⟩:=iM j;cases U;obtain⟨t,r,pt,v⟩:=f.list m;have hl:=r.length;refine PySem.call_reversed_list pt.isList ?_;have g:(c.heap.push (Ld a ((t.toArray.size:Int)-1))).IsRevIter c.heap.objs.size a ((xs.length:Int)-1-((0:Nat):Int)):=by
  have e:(xs.length:Int)-1-((0:Nat):Int)=(t.toArray.size:Int)-1:=by rw[Aq];lia
  rw[e];exact⟨_,AA _ rfl,rfl,rfl⟩
 refine PySem.wpAny_pyIter_revIter g ?_;refine⟨c.heap.objs.size,[c.heap.objs.size],_,_,n,rfl,f.kept (t':=c.toks) λb o e=>Af _ e,M5 a _ xs.length,⟨Bv _,g⟩,λb B=>?_,q⟩;have e:b=c.heap.objs.size:=by simpa using B
 subst e;exact f.pz (Ak _) (f.cY.fresh (Ak _))
def U' (A:DA):DA:=λδ P=>A δ λds=>match ds with
 | [.lst xs]=>P xs.reverse
 |_=>False
theorem SG (h:dN K a A): lp K (UZ K a) (U' A):=λl g F H Y δ P R e w q=>h l g F H Y δ _ _ e w λds vs m j p x r=>by
 split at p
 .obtain ⟨v,rfl,a,us,rfl,h1,h2⟩:=gQ r;have hl:=h2.length;refine⟨a,us,rfl,x.fh.seq h1,q _ _ m j p x λk o f c=>?_⟩;have Q:=(f.trans c).seq h1;rw[B8];refine⟨λi hi=>⟨us,us[us.length-1-i]'(by omega),Q,rfl,by lia,Ah (by omega)⟩,by show us.length<=_;lia,λi x n hi y=>?_⟩;obtain⟨rfl,y⟩:=y;obtain⟨d,hd,rd⟩:=h2.get' (y us Q);refine⟨d,k,?_,cP.refl c,rd.mono f⟩;rw[Cn hi,hl];exact hd
 .exact p.elim
theorem ER.fC {A:Nat->List Ac}(e:ER K L G F H Y δ A)(i:Nat)(hi:δ[i]?=some (some (.own t))): ∃M,cp K L G M H Y (δ.set i (some (.own (.fz t.val)))):=by
 obtain⟨v,r,w⟩:=e.own i t hi;have l:=(Ab.mp hi).1;have m:a6 F λa=>if a∈A i then H a else F a:=λb o z=>by
  have B:b∉A i:=λy=>by rw[(e.new i b y).1]at z;cases z
  dsimp only;rw[if_neg B];exact z
 refine⟨λa=>if a∈A i then H a else F a,λj=>if j=i then [] else A j,by simp[e.len],⟨e.ext.ff.trans m,e.ext.hh,λb o z=>?_,λb o n f g=>?_⟩,λj u h=>?_,λj d h=>?_,λj=>?_,λj k a J h1 h2=>?_,λj a c=>?_⟩
 .split at z
  .exact z
  .exact e.ext.fh _ _ z
 .have B:b∉A i:=λy=>by rw[(e.new i b y).2.1]at f;cases f
  rw[if_neg B];exact e.ext.no b o n f g
 .by_cases z:j=i
  .subst z;rw[if_pos rfl];rw[Az l]at h;cases h;exact⟨v,r,rfl,w.rep m λa c xs q=>by rw[if_pos c];exact q⟩
  .rw [if_neg z];rw[AL (Bm z)]at h;obtain⟨p,h1,h2⟩:=e.own j u h;exact⟨p,h1,h2.frame m λa _ xs q=>q⟩
 .by_cases z:j=i
  .subst z;rw[Az l]at h;cases h
  .rw [AL (Bm z)]at h;exact e.bw j d h
 .split
  .exact CP
  .exact e.i5 j
 .split at h1
  .cases h1
  .split at h2
   .cases h2
   .exact e.iY j k a J h1 h2
 .split at c
  .cases c
  .rename_i z;obtain⟨h1,h2,C⟩:=e.new j a c;refine⟨?_,h2,C⟩;rw[if_neg λy=>e.iY j i a z c y];exact h1
def VM (i:Nat)(T:DS):DS:=λe δ=>match δ[i]? with
 |some (some (.own t))=>T e (δ.set i (some (.own (.fz t.val))))
 |_=>False
theorem zg (i:Nat)(h:bR K t T): bR K t (VM i T):=λc a F H Y δ g n ⟨A,e⟩ l w=>by
 unfold VM at w;split at w
 .rename_i u U;obtain⟨f,e'⟩:=e.fC i U;exact h c a f H Y _ g n e' l w
 .exact w.elim
def P4 (i:Nat)(a:DE)(E:DO):DS:=λe δ=>match δ[i]? with
 |some (some (.own (.nl ts)))=>a δ λk=>match k with
  | .int k=>0<=k/\∃us,ts[k.toNat]?=some (.nl us)/\us.length<1000000/\E δ λr=>e.nx (δ.set i (some (.own (.nl (ts.set k.toNat (.nl (us++[r])))))))
  |_=>False
 |_=>False
theorem eM {a:Type}{xs:List a}{i:Nat}{v:a}(h:xs[i]?=some v):xs.set i v=xs:=by
 obtain⟨hi,e⟩:=Ab.mp h;rw[<- e];exact List.set_getElem_self hi
theorem SA {i:Nat}{ti te:TE}{Ei:DE}{Eo:DO}(hi:dM K ti Ei)(h:eF K te Eo):bR K (jQ (Us K "list" pK (LK (SR K) (eT i) ti) (iN te mj))) (P4 i Ei Eo):=λF0 H0 F H Y δ De En e l w=>by
 obtain⟨A,e⟩:=e;unfold P4 at w;split at w
 .rename_i ts hs;obtain⟨v,hv,a,vs,B,rfl,eA,ha,hB⟩:=e.own i _ hs;refine⟨_,hv,?_⟩;refine hi F0 H0 F H Y δ _ _ ⟨A,e⟩ w λk kv F1 H1 p x1 r1=>?_
  split at p
  .rename_i k;obtain⟨k0,us,hk,NK,p⟩:=p;have e1:=e.on x1;have ĸ:=x1.hh _ _ ha;have ϴ:bg K F1 H1 ts vs B:=hB.frame x1.ff λb _ xs z=>x1.hh _ _ z
   obtain⟨v0,A1,B0,A2,f1,rfl,f3,f4⟩:=ϴ.focus hk;obtain⟨c,ws,B1,rfl,rfl,hc,Q⟩:=f3;have Ć:hQ vs k=some (.ref c):=by
    have:=d3 f1
    rwa[show ((k.toNat:Nat):Int)=k by lia]at this
   refine⟨a,vs,k,.ref c,rfl,r1,eR.of ĸ,Ć,.inl ⟨rfl,_,eR.of hc⟩,?_⟩;refine h F0 H0 F1 H1 Y δ _ _ ⟨A,e1⟩ p λr u F2 H2 p2 t n=>?_
   obtain⟨C,c1,c2,c3⟩:=n;have e2:=e1.on t;have hl:=Q.length;refine⟨c,ws,u,rfl,rfl,t.hh _ _ hc,wJ (by lia),?_⟩;have G:=e.i5 i;rw[eA]at G;have hA:A i=a::(A1++(c::B1++A2)):=eA;obtain⟨L,n2⟩:=AD.mp G;obtain⟨m1,m2,M⟩:=AQ.mp n2;obtain⟨q1,q2,q3⟩:=AQ.mp m2;obtain⟨s1,s2⟩:=AD.mp q1;have J:∀j b,b∈C->b∉A j:=λj b f z=>by
    obtain⟨_,_,xs,q,_⟩:=e1.new j b z;rw[(c3 b f).1]at q;cases q
   have U:c∈A i:=by rw[hA];simp
   have ù:a≠c:=λz=>L (by rw[z];simp)
   have T:c∉C:=λz=>J i c z U
   have off:∀b∈A1++A2,b≠c:=λb f z=>by
    subst z;rcases Au.mp f with y |y
    .exact M b y b (by simp) rfl
    .exact q3 b (by simp) b y rfl
   have O:∀b,b∈a::(A1++(c::(B1++C)++A2))->b∈A i∨b∈C:=λb f=>by
    rw[hA];simp only[AB,Au,C7]at f ⊢;rcases f with z |z |z | (z |z) |z<;>simp[z]
   have WU:=f4 F2 (c8 H2 c (.lst (ws++[u]))) (.nl (us++[r])) (.ref c) (c::(B1++C)) t.ff (λb f xs z=>a8 (off b f) (t.hh _ _ z))
    ⟨c,ws++[u],B1++C,rfl,rfl,a9,bg.append (Q.frame t.ff λb f xs z=>a8 (λy=>s1 (by rw[<- y];exact f)) (t.hh _ _ z)) (bg.one (c1.frame (a6.refl _) λb f xs z=>a8 (λy=>T (by rw[<- y];exact f)) z))⟩
   rw[eM f1]at WU;refine l.nx F2 _ Y _ (e2.change i hv (t':=.nl (ts.set k.toNat (.nl (us++[r])))) (B:=a::(A1++(c::(B1++C)++A2))) ⟨a,vs,_,rfl,rfl,a8 ù (t.hh _ _ ĸ),WU⟩ ?_ ?_ ?_ ?_) p2
   .have dC:∀x∈C,∀y∈A i,x≠y:=λx m y g z=>J i x m (by rw[z];exact g)
    rw[hA]at dC;simp only[C7,AD,AQ,AB,Au,not_or]at G L n2 m1 m2 M q1 q2 q3 s1 s2 ⊢;refine⟨⟨L.1,L.2.1,⟨L.2.2.1,λz=>dC a z a (by simp) rfl⟩,L.2.2.2⟩,m1,⟨⟨⟨s1,T⟩,λz=>?_⟩,⟨s2,c2,λx m y g z=>dC y g x (by simp[m]) z.symm⟩,q2,λx m y g z=>?_⟩,λx m y g z=>?_⟩
    .exact q3 c (by simp) c z rfl
    .rcases m with m |m
     .exact q3 x (by simp[m]) y g z
     .exact dC x m y (by simp[g]) z
    .rcases g with g | (g |g) |g
     .exact M x m y (by simp[g]) z
     .exact M x m y (by simp[g]) z
     .exact dC y g x (by simp[m]) z.symm
     .exact M x m y (by simp[g]) z
   .intro b f;rcases O b f with z |z
    .exact ⟨(e2.new i b z).1,(e2.new i b z).2.1⟩
    .exact ⟨(c3 b z).2,e1.ext.hh.free (c3 b z).1⟩
   .intro j hj b f z;rcases O b f with y |y
    .exact e.iY j i b hj z y
    .exact J j b y z
   .intro b o f q;exact a8 (λz=>f (by rw[z];exact U)) q
  .exact p.elim
 .exact w.elim
def VP (i:Nat)(E:DE):DS:=λe δ=>match δ[i]? with
 |some (some (.own (.nl ts)))=>E δ λd=>match d with
  | .lst ds=>ts.length+ds.length<=1000000/\e.nx (δ.set i (some (.own (.nl (ts++ds.map .fz)))))
  | .tup ds=>ts.length+ds.length<=1000000/\e.nx (δ.set i (some (.own (.nl (ts++ds.map .fz)))))
  |_=>False
 |_=>False
theorem Pq (h:cH K T E): bR K (jQ (Us K "list" (xl K) (eT i) (iN T mj))) (VP i E):=λF0 H0 F H Y δ De En e l w=>by
 obtain⟨A,e⟩:=e;unfold VP at w;split at w
 .rename_i ts hs;obtain⟨v,L,a,vs,B,rfl,k,r,M⟩:=e.own i _ hs;refine⟨_,L,.inl ⟨rfl,_,eR.of r⟩,?_⟩;refine h F0 H0 F H Y δ _ _ ⟨A,e⟩ w λd u G O p g J=>?_
  have C:=e.on g;have hl:=M.length;have t:bg K G O ts vs B:=M.frame g.ff λb _ xs z=>g.hh _ _ z
  have n:=e.i5 i;rw[k]at n;obtain⟨U,n2⟩:=AD.mp n;have fin:∀(ds:List D) (us:List V),bE K G ds us->De.nx (δ.set i (some (.own (.nl (ts++ds.map .fz)))))->En.nx Y (c8 O a (.lst (vs++us))):=λds us hu p=>by
   refine l.nx G _ Y _ (C.change i L (t':=.nl (ts++ds.map .fz)) (B:=a::(B++[])) ⟨a,vs++us,B++[],rfl,rfl,a9,?_⟩ ?_ ?_ ?_ ?_) p
   .exact bg.append (t.frame (a6.refl _) λb f xs z=>a8 (λq=>U (by rw[<- q];exact f)) z) (bg.ZW hu)
   .rw [Bi];exact n
   .intro b f;rw[Bi,<- k]at f;exact⟨(C.new i b f).1,(C.new i b f).2.1⟩
   .intro j hj b f z;rw[Bi,<- k]at f;exact e.iY j i b hj z f
   .intro b o f q;exact a8 (λz=>f (by rw[k,z];exact AF)) q
  split at p
  .obtain ⟨c,us,rfl,m,Q⟩:=J;have:=Q.length;exact⟨a,c,vs,us,rfl,rfl,g.hh _ _ r,.inl (g.fh.seq m),eG (by lia),fin _ us Q p.2⟩
  .obtain ⟨c,us,rfl,m,Q⟩:=J;have:=Q.length;exact⟨a,c,vs,us,rfl,rfl,g.hh _ _ r,.inr (g.fh.lO m),eG (by lia),fin _ us Q p.2⟩
  .exact p.elim
 .exact w.elim
end
def RH:wz:=λx y P=>match x,y with
 | .tup xs,.tup ys=>xs≠[]/\ys≠[]/\xs.length+ys.length<=1000000/\P (.tup (xs++ys))
 |_,_=>False
mutual
noncomputable def D.eqb:D->D->Bool
 | .int i,.int j=>decide (i=j)
 | .str x,.str y=>decide (x=y)
 | .cn,.cn=>true
 | .bl a,.bl b=>a==b
 | .bl a,.int j=>decide ((if a then 1 else 0)=j)
 | .int i,.bl b=>decide (i=if b then 1 else 0)
 | .tup xs,.tup ys=>D.WV xs ys
 | .lst xs,.lst ys=>D.WV xs ys
 |_,_=>false
noncomputable def D.WV:List D->List D->Bool
 | [],[]=>true
 |x::xs,y::ys=>D.eqb x y && D.WV xs ys
 |_,_=>false
end
def Xf:List D->(D->Prop)->Prop:=λds P=>match ds with
 | [.lst xs]=>∃bs:List Bool,xs=bs.map D.bl/\P (.bl (bs.all id))
 |_=>False
def QS:List D->(D->Prop)->Prop:=λds P=>match ds with
 | [.lst xs]=>∃ns:List Int,xs=ns.map D.int/\0<ns.length/\∀M:Int,M∈ns->(∀a∈ns,a<=M)->P (.int M)
 |_=>False
def Rq (E:DE):DT:=λδ P=>E δ λd=>match d with
 | .bl b=>P b
 | .int i=>P (decide (i≠0))
 | .lst xs=>P (!xs.isEmpty)
 | .tup xs=>P (!xs.isEmpty)
 | .cn=>P false
 |_=>False
def Uy (i:Nat)(a M E:DE):DS:=λe δ=>E δ λd=>match δ[i]? with
 |some (some (.own (.nl ts)))=>a δ λk=>match k with
  | .int k=>∃j us,sT ts.length k=some j/\ts[j]?=some (.nl us)/\M δ λm=>match m with
   | .int m=>∃l,sT us.length m=some l/\e.nx (δ.set i (some (.own (.nl (ts.set j (.nl (us.set l (.fz d))))))))
   |_=>False
  |_=>False
 |_=>False
noncomputable def mq {a:Type}(xs:List a)(c:Int):List a:=(CZ 0 xs.length c).filterMap (xs[·]?)
def U7 (a C:DE):DO:=λδ P=>a δ λx=>C δ λc=>match x,c with
 | .lst xs,.int c=>0<c/\P (.nl ((mq xs c).map .fz))
 |_,_=>False
section
variable {K:Ar}{X:Cx}
theorem SK {t tb:TE}{A B:DE}(ha:cH K t A)(hb:cH K tb B):cH K (LK (Qf K) t tb) (Zc RH A B):=λn m F H Y δ P Q e w q=>
 ha n m F H Y δ _ _ e w λx v F1 H1 o k C=>hb n m F1 H1 Y δ _ _ (e.on k) o λy u F2 H2 f c r=>by
  have g:=k.trans c;unfold RH at f;split at f
  .obtain ⟨p,vs,rfl,h1,h2⟩:=C.mono c.ff;obtain⟨G,a,rfl,j,h⟩:=r;obtain⟨O,J,hz,f⟩:=f;have l1:=h2.length;have l2:=h.length;have U:vs≠[]:=λz=>O (BS.mp (by rw[l1,z];rfl))
   have T:a≠[]:=λz=>J (BS.mp (by rw[l2,z];rfl))
   exact⟨p,G,vs,a,rfl,rfl,c.fh.lO h1,c.fh.lO j,U,T,eG (by lia),λl H' L M lq=>q _ _ _ H' f (g.trans (cP.new c.fh L M lq)) ⟨l,vs++a,rfl,.inl (.inl a9),(h2.append h).mono (a6.yH (c.fh.free L))⟩⟩
  .exact f.elim
end
structure bT (mg:Am->Option Aa):Prop extends Blt mg where
 abs:mg "abs"=none
 any:mg "any"=none
 sum:mg "sum"=none
 sorted:mg "sorted"=none
 set:mg "set"=none
 enumerate:mg "enumerate"=none
 dict:mg "dict"=none
 str:mg "str"=none
 divmod:mg "divmod"=none
 ord:mg "ord"=none
abbrev Á:=List (Am×c_)
def z7 (i n:Nat)(tb:Á)(A:DA):DO:=λδ P=>match δ[i]? with
 |some (some (.own (.fz (.fn x))))=>∃sp,(x,sp)∈tb/\A δ λds=>ds.length=n/\sp ds P
 |_=>False
def vZ (i n:Nat)(tb:Á)(A:DA):DO:=λδ P=>match δ[i]? with
 |some (some (.own (.fz (.fn x))))=>∃sp,(x,sp)∈tb/\A δ λds=>ds.length=n/\sp ds λr=>r.lf=true/\P r
 |_=>False
abbrev Zz:=List OV->List D->(List OV->Prop)->Prop
def vd (i n:Nat)(sp:Zz)(A:DA):DS:=λe δ=>match δ[i]? with
 |some (some (.own (.nl ts)))=>A δ λds=>ds.length+1=n/\sp ts ds λt=>e.nx (δ.set i (some (.own (.nl t))))
 |_=>False
noncomputable def i7 (N:List Am)(a:Ac)(ts:List OV)(ds:List D):c7:=some (.own (.rt a ts))::(ds.map (λd=>some (.own (.fz d)))++Aw (N.length-(ds.length+1)) none)
def VB (i:Nat)(T:DS):DS:=λe δ=>match δ[i]? with
 |some (some (.own (.rt a ts)))=>T {e with nx:=λc=>match c[i]? with
   |some (some (.own (.nl t)))=>e.nx (c.set i (some (.own (.rt a t))))
   |_=>False} (δ.set i (some (.own (.nl ts))))
 |_=>False
def gB (i:Nat):D->c7->(c7->Prop)->Prop:=λd δ P=>P (δ.set i (some (.bw d)))
def Rw (l:DE)(ix:List (Option Nat))(o:DO):DO:=λδ P=>l δ λd=>match d with
 | .lst ds=>eQ (gB 0) o ds (Ly ix δ) P
 |_=>False
section
variable {K:Ar}{X:Cx}{mg:Am->Option Aa}
def ny (K:Ar)(mg:Am->Option Aa)(x:Am):Prop:=∃f,Cq K Ai x=some (some (.ref f))/\mg x=some (.ref f)
def Ę (K:Ar)(x:Am):TE:=λY H Q=>∃f,Cq K Ai x=some (some (.ref f))/\Q (.ref f) H
theorem Qs (hg:Gl X x)(h:ny X.K X.mg x)(hd:(x==("__debug__":Am))=false:=by decide): PE X (.Name x pos) (Ę X.K x):=by
 rintro pins s Y H Q I ⟨f,e,q⟩;obtain⟨g,a,c⟩:=h;rw[e]at a;cases a;exact vn (v:=.ref f) hg c rfl hd pins s Y H Q I q
theorem PN (h:ny K mg x): cH K (Ę K x) (dC (.fn x)):=λg c F H Y δ P Q e w q=>by
 obtain⟨f,a,_⟩:=h;exact⟨f,a,q _ _ F H w (cP.refl e.ext.fh) ⟨f,rfl,a⟩⟩
def yQ (mg:Am->Option Aa)(i:Nat)(tb:List (Am×Sp))(t:TA):TE:=λY H Q=>∃x sp f,(x,sp)∈tb/\mg x=some (.ref f)/\Y[i]?=some (some (.ref f))/\t Y H λvs a=>sp vs a Q E0
theorem Mg (hn:PE X (.Name y p) (eT i))(C:∀x sp,(x,sp)∈tb->∃ps,bO X.prog X.w X.K X.mg X.base x k ps sp)(J:cJ k X.A)(U:PA X (e::a) t)
  (O:Av (e::a) X.env=(false,eval e X.env)::Av a X.env:=by rfl) (l:(BY pos (Av a X.env)).any (·.1)=false:=by rfl):
  PE X (.Call (.Name y p) (e::a) [] pos) (yQ X.mg i tb t):=by
 rintro pins s Y H Q I ⟨x,sp,f,M,g,G,h⟩;obtain⟨ps,⟨f',fd,F,m,L,T⟩⟩:=C x sp M;rw[g]at m;cases m;refine BZ (cK (hn pins s Y H (λv c=>v = .ref f/\c=H) I ⟨_,G,rfl,rfl⟩) λu o z=>?_);obtain⟨v,c,n,B,e1,e2⟩:=z;subst e1 e2;cases B;refine EI n.ok.mod.UR L (cK (U pos pins o Y c _ n h) λus s2 z=>?_) O l;obtain⟨vs,H2,j,r,q⟩:=z;refine⟨j.kZ,?_⟩;exact ve F J T .nil xv j r (by rw[Bi];exact q)
theorem bO.mono (C:bO P w K mg base x j ps sp)(h:j<=k): bO P w K mg base x k ps sp:=by
 obtain⟨f,fd,F,a,b,c⟩:=C.ex;exact⟨f,fd,F.mono h,a,b,c⟩
noncomputable def Ç (K:Ar)(n:Nat)(tb:Á):List (Am×Sp):=tb.map λp=>(p.1,bL K n p.2)
theorem LI (h:∀p∈tb,∃ps,bO P w K mg base p.1 k ps (bL K n p.2)): ∀x sp,(x,sp)∈Ç K n tb->∃ps,bO P w K mg base x k ps sp:=λx sp m=>by
 obtain⟨p,a,e⟩:=A7.mp m;cases e;exact h p a
theorem Pz (hN:∀p∈tb,ny K mg p.1)(z:dN K a M): eF K (yQ mg i (Ç K n tb) a) (z7 i n tb M):=λJ B F H Y δ P Q e w q=>by
 unfold z7 at w;split at w
 .rename_i x t;obtain⟨A,e⟩:=e;obtain⟨v,u,_,f,rfl,hf⟩:=e.own i _ t;obtain⟨sp,m,w⟩:=w;obtain⟨O,j,o⟩:=hN _ m;rw[hf]at j;cases j;refine⟨x,bL K n sp,f,A7.mpr ⟨_,m,rfl⟩,o,u,?_⟩;refine z J B F H Y δ _ _ ⟨A,e⟩ w λds vs G T g c h=>?_
  exact⟨by rw[<- h.length];exact g.1,G,ds,P,c.fh,h,g.2,λr v L C p k l=>q r v L C p (c.trans k) (l.old c.hh)⟩
 .exact w.elim
theorem Ng (hN:∀p∈tb,ny K mg p.1)(ha:kH K a As): eF K (yQ mg i (Ç K n tb) a) (vZ i n tb As):=λF0 H0 F H Y δ P Q e w q=>by
 unfold vZ at w;split at w
 .rename_i x T;obtain⟨A,e⟩:=e;obtain⟨v,U,_,f,rfl,hf⟩:=e.own i _ T;obtain⟨sp,M,w⟩:=w;obtain⟨f',m,O⟩:=hN _ M;rw[hf]at m;cases m;refine⟨x,bL K n sp,f,A7.mpr ⟨_,M,rfl⟩,O,U,?_⟩;refine ha F0 H0 F H Y δ _ _ ⟨A,e⟩ w λds vs u H1 j h l=>?_
  refine⟨by rw[<- l.length];exact j.1,H1,ds,_,a6.refl _,l,j.2,λr v z H' p g L=>?_⟩;have k:a6 u z:=h.fh.trans g.ff;have c:=fR k;obtain⟨A,a1,a2,t⟩:=L;refine q r v (l4 u z) H' p.2 (h.trans ⟨c.ff,g.hh,c.fh.trans g.fh,λb o J G C=>?_⟩) ⟨A,a1.lf k p.1,a2,λb B=>⟨h.hh.free (t b B).1,c.fh.free (t b B).2⟩⟩;exact c.no b o J (g.ff _ _ G) C
 .exact w.elim
def uQ (K:Ar)(n:Nat)(sp:Zz):Sp:=Xu n λvs H Q=>∃F a ts v B dg ds P,vs=V.ref a::dg/\a6 F H/\H a=some (.lst v)/\bg K F H ts v B/\(a::B).Nodup/\(∀b∈a::B,F b=none)/\bE K F ds dg/\sp ts ds P/\
 ∀t f e c g,P t->a6 F f->a6 f e->(∀b o,b∉a::B->H b=some o->e b=some o)->(∀b o,F b=none->H b=some o->R5 o=false->b∉a::B->f b=none)->e a=some (.lst c)->bg K f e t c g->(a::g).Nodup->
  (∀b∈a::g,f b=none/\(b∈a::B∨H b=none))->Q .cn e
theorem kQ (ha:dN K a As): bR K (jQ (qc (uQ K n sp) [] E0 (iN (eT i) a))) (vd i n sp As):=λF0 H0 F H Y δ De En e l w=>by
 obtain⟨A,e⟩:=e;unfold vd at w;split at w
 .rename_i ts hs;obtain⟨v,hv,p,vs,B,rfl,g,hp,hB⟩:=e.own i _ hs;refine⟨_,hv,?_⟩;refine ha F0 H0 F H Y δ _ _ ⟨A,e⟩ w λds us F1 H1 w1 G r1=>?_
  show uQ K n sp ((V.ref p::us)++[]) H1 (λ_ H2=>En.nx Y H2) E0
  rw[Bi];have c:=e.on G;have Q:=e.i5 i;rw[g]at Q;have T:i<δ.length:=(Ab.mp hs).1;refine⟨by rw[Bg,<- r1.length];exact w1.1,F1,p,ts,vs,B,us,ds,_,rfl,G.fh,G.hh _ _ hp,hB.frame G.ff λb _ xs z=>G.hh _ _ z,Q,λb f=>(c.new i b (by rw[g];exact f)).1,r1,w1.2,?_⟩;intro M7 F' H' Vr B' pt sF sH keep O L U Wg r;refine l.nx F' H' Y _ ⟨λj=>if j=i then p::B' else A j,?_⟩ pt;refine⟨by simp[e.len],⟨c.ext.ff.trans sF,λb o h=>?_,sH,λb o h1 h2 h3=>?_⟩,λj t J=>?_,λj d J=>?_,λj=>?_,λj k b XA h1 h2=>?_,λj b f=>?_⟩
  .exact keep b o (λz=>by rw[(c.new i b (by rw[g];exact z)).2.1]at h;cases h) (c.ext.hh _ _ h)
  .exact O b o (c.ext.no b o h1 h2 h3) (c.ext.hh _ _ h2) h3 (λz=>by rw[(c.new i b (by rw[g];exact z)).2.1]at h2;cases h2)
  .by_cases z:j=i
   .subst z;rw[if_pos rfl];rw[Az T]at J;cases J;exact⟨_,hv,p,Vr,B',rfl,rfl,L,U⟩
   .rw [if_neg z];rw[AL (Bm z)]at J;obtain⟨u,h1,h2⟩:=c.own j t J;exact⟨u,h1,h2.frame sF λb f xs q=>keep b _ (λy=>e.iY j i b z f (by rw[g];exact y)) q⟩
  .by_cases z:j=i
   .subst z;rw[Az T]at J;cases J
   .rw [AL (Bm z)]at J;exact c.bw j d J
  .split
   .exact Wg
   .exact e.i5 j
  .have key:∀k,k≠i->b∈p::B'->b∈A k->False:=λk hk z1 C=>by
    rcases (r b z1).2 with y |y
    .exact e.iY k i b hk C (by rw[g];exact y)
    .obtain ⟨_,_,xs,q,_⟩:=c.new k b C;rw[y]at q;cases q
   split at h1
   .split at h2
    .lia
    .rename_i z1 C;exact key k C h1 h2
   .split at h2
    .rename_i z1 C;exact key j z1 h2 h1
    .exact e.iY j k b XA h1 h2
  .split at f
   .have hh:H0 b=none:=by
     rcases (r b f).2 with y |y
     .exact (c.new i b (by rw[g];exact y)).2.1
     .exact c.ext.hh.free y
    refine⟨(r b f).1,hh,?_⟩;rcases AB.mp f with y |y
    .rw [y];exact⟨_,L,rfl⟩
    .exact U.sq b y
   .rename_i z;obtain⟨h1,h2,xs,h3,m⟩:=c.new j b f;have M:b∉p::B:=λy=>e.iY j i b z f (by rw[g];exact y)
    exact⟨O b _ h1 h3 m M,h2,xs,keep b _ M h3,m⟩
 .exact w.elim
theorem Vn.of {P:AE}{w:AU}{base:Heap}{x:Am}{st:AW}{f:Ac}{fd:Ag}{N ps:List Am}{k n:Nat}{sp:Zz}(Df:bG K mg x st f fd)(S:aN N ps (aA st))
  (g:∀(kV U pm:Aa) (an:Option Ac) (C ct:Aa) (us:List Aa),us.length=ps.length->Cr (Ep x x (bZ st) (bx st) (aA st) .none kV U pm an C ct) ⟨us,[]⟩=pure (ps.zip us)) (hn:n=ps.length)
  (O:∀(C:Aa) (A:AX) (outer:List EJ) (s:Ae) (H:Hp) (E:XK),cJ k (A.deeper (BG x (aA st) s.heap.objs.size f C))->
   ∃t T,PSs (eH l' P w K mg base N x (aA st) f C A outer s H E).pP (bx st) t/\bR K t T/\∀(a:Ac) ts ds m,sp ts ds m->T {nx:=λδ=>∃c,δ[0]?=some (some (.own (.rt a c)))/\m c,rt:=λ_=>False} (i7 N a ts ds)):bO P w K mg base x (k+1) ps (uQ K n sp):=
 bO.of Df S g (λvs H Q E h=>by rw[<- hn];exact h.1) λC A outer s H vs Q E hr h=>by
  obtain⟨_,F,a,ts,u,B,dg,ds,m,rfl,hs,ha,hB,M,L,r,J,hq⟩:=h;obtain⟨t,T,h1,h2,h3⟩:=O C A outer s H E hr;have hl:=r.length;have er : ER K F (λb=>if b∈a::B then none else H b) F H (start N (V.ref a::dg)) (i7 N a ts ds) (λj=>if j=0 then a::B else []):=by
   refine⟨by simp[start,i7,hl],⟨a6.refl _,λb o z=>?_,hs,λ_ _ z _ _=>z⟩,λi t hi=>?_,λi d hi=>?_,λj=>?_,λj k b XA y1 y2=>?_,λj b g=>?_⟩
   .split at z
    .cases z
    .exact z
   .unfold i7 at hi
    cases i with
    |zero=>
     simp at hi
     subst hi;exact⟨.ref a,rfl,u,B,rfl,rfl,ha,hB⟩
    |succ i=>
     rw[B5]at hi;by_cases z:i<ds.length
     .rw [AZ (by simpa using z),AN,Ah z]at hi;simp at hi
      subst hi;obtain⟨v,g1,g2⟩:=r.get (Ah z);refine⟨v,?_,rfl,g2⟩;unfold start;rw[B7,C7,B5,AZ (by simp;lia),AN,g1];rfl
     .rw [Bk (by simpa using z)]at hi;have:=An hi;rw[Di]at this;cases this.2
   .unfold i7 at hi
    cases i with
    |zero=>simp at hi
    |succ i=>
     rw[B5]at hi;by_cases z:i<ds.length
     .rw [AZ (by simpa using z),AN]at hi;simp at hi
     .rw [Bk (by simpa using z)]at hi;have:=An hi;rw[Di]at this;cases this.2
   .split
    .exact M
    .exact CP
   .split at y1
    .split at y2
     .lia
     .cases y2
    .cases y1
   .split at g
    .refine ⟨L b g,if_pos g,?_⟩;rcases AB.mp g with y |y
     .rw [y];exact⟨_,ha,rfl⟩
     .exact hB.sq b y
    .cases g
  refine⟨t,h1,h2 F _ F H (start N (V.ref a::dg)) (i7 N a ts ds) {nx:=λδ=>∃c,δ[0]?=some (some (.own (.rt a c)))/\m c,rt:=λ_=>False} _ ⟨_,er⟩ ⟨λF' H' Y δ e p=>?_,λ_ _ _ _ _ z=>z.elim,λ_ _ _ _ _ z=>z.elim,λ_ _ _ _ _ _ z=>z.elim⟩ (h3 a ts ds m J)⟩;obtain⟨A',e⟩:=e;obtain⟨c,h0,hp⟩:=p;obtain⟨v,hv,G,B',rfl,eA,g1,g2⟩:=e.own 0 _ h0;have l:=e.i5 0;rw[eA]at l;refine hq c F' H' G B' hp e.ext.ff e.ext.fh (λb o y z=>?_) (λb o y1 y2 y3 y4=>?_) g1 g2 l (λb g=>?_)
  .exact e.ext.hh b o (by rw[if_neg y];exact z)
  .exact e.ext.no b o y1 (by rw[if_neg y4];exact y2) y3
  .obtain ⟨z1,z2,_⟩:=e.new 0 b (by rw[eA];exact g);refine⟨z1,?_⟩;by_cases q:b∈a::B
   .exact .inl q
   .rw [if_neg q]at z2;exact .inr z2
def Zw (t:TS):Prop:=∀E Y H,t {E with nx:=λa c=>a=Y->E.nx a c} Y H->t E Y H
theorem Wd {E:yA}{Y:St}:(λa=>Y=Y->E.nx Y a)=E.nx Y:=funext λa=>propext ⟨λz=>z rfl,λz _=>z⟩
theorem Mu {e t T:TE}{r:N2}:Zw (sv e (TB t T r)):=λE Y H h=>by
 have h':e Y H λx f=>t Y f λo c=>T Y c λi a=>r o i x a (λg=>Y=Y->E.nx Y g):=h
 rw[Wd]at h';exact h'
theorem cp.XO (e:cp K k g F H Y δ)(h:δ[i]?=some (some (.own (.rt a ts)))): Y[i]?=some (some (.ref a))/\cp K k g F H Y (δ.set i (some (.own (.nl ts)))):=by
 obtain⟨A,e⟩:=e;obtain⟨v,c,vs,B,rfl,f,h1,h2⟩:=e.own i _ h;have l:i<δ.length:=(Ab.mp h).1;refine⟨c,A,by simp[e.len],e.ext,λj t J=>?_,λj d J=>?_,e.i5,e.iY,e.new⟩
 .by_cases z:j=i
  .subst z;rw[Az l]at J;cases J;exact⟨_,c,a,vs,B,rfl,f,h1,h2⟩
  .rw [AL (Bm z)]at J;exact e.own j t J
 .by_cases z:j=i
  .subst z;rw[Az l]at J;cases J
  .rw [AL (Bm z)]at J;exact e.bw j d J
theorem cp.X7 (e:cp K m k F H Y δ)(h:δ[i]?=some (some (.own (.nl ts))))(c:Y[i]?=some (some (.ref a))): cp K m k F H Y (δ.set i (some (.own (.rt a ts)))):=by
 obtain⟨A,e⟩:=e;obtain⟨v,f,n,vs,B,rfl,g,h1,h2⟩:=e.own i _ h;rw[c]at f;cases f;have l:i<δ.length:=(Ab.mp h).1;refine⟨A,by simp[e.len],e.ext,λj t J=>?_,λj d J=>?_,e.i5,e.iY,e.new⟩
 .by_cases z:j=i
  .subst z;rw[Az l]at J;cases J;exact⟨_,c,vs,B,rfl,g,h1,h2⟩
  .rw [AL (Bm z)]at J;exact e.own j t J
 .by_cases z:j=i
  .subst z;rw[Az l]at J;cases J
  .rw [AL (Bm z)]at J;exact e.bw j d J
theorem Pl (hl:Zw t)(h:bR K t T): bR K t (VB i T):=λn m F H Y δ o E e l w=>by
 unfold VB at w;split at w
 .rename_i a ts r;obtain⟨g,e'⟩:=e.XO r;have lk:Lk K n m {o with nx:=λc=>match c[i]? with |some (some (.own (.nl f)))=>o.nx (c.set i (some (.own (.rt a f)))) |_=>False} {E with nx:=λk z=>k=Y->E.nx k z}:=by
   refine⟨λA v B q u p Q=>?_,l.bk,l.ct,l.rt⟩;subst Q;dsimp only at p;split at p
   .rename_i f j;exact l.nx A v _ _ (u.X7 j g) p
   .exact p.elim
  exact hl E Y H (h n m F H Y _ _ _ e' lk w)
 .exact w.elim
end
section
variable {K:Ar}{X:Cx}
theorem ER.Ye {A:Nat->List Ac}(e:ER K c a F H Y δ A)(i:Nat)(h:dP K a d v): ER K c a F H (Y.set i (some v)) (δ.set i (some (.bw d))) A:=by
 refine⟨by simp[e.len],e.ext,λj t J=>?_,λj d' J=>?_,e.i5,e.iY,e.new⟩
 .by_cases z:j=i
  .subst z;have l:j<δ.length:=by
    have:=(Ab.mp J).1
    rwa[BD]at this
   rw[Az l]at J;cases J
  .rw [AL (Bm z)]at J ⊢;exact e.own j t J
 .by_cases z:j=i
  .subst z;have l:j<δ.length:=by
    have:=(Ab.mp J).1
    rwa[BD]at this
   rw[Az l]at J;cases J;exact⟨v,Az (by rw[e.len];exact l),h⟩
  .rw [AL (Bm z)]at J ⊢;exact e.bw j d' J
theorem Pw (hl:dM K tl El)(he:eF K te Eo): eF K (qb (Mz K tl) ix (m7 0) te) (Rw El ix Eo):=λF0 H0 F H Y δ P Q e w q=>
 hl F0 H0 F H Y δ _ _ e w λd v F1 H1 p l r1=>by
  split at p
  case h_2=>exact p.elim
  rename_i ds;obtain⟨aL,c,rfl,T,O⟩:=r1;have ĥ:=O.length;refine⟨aL,rfl,⟨c,T⟩,?_⟩;intro L hL;obtain⟨A,e⟩:=e.on l;obtain⟨W,w0,ws,wd⟩:=p;have f1:a6 F1 H1:=l.fh;refine⟨λi m Y ys H=>m=ds.length-i/\i<=ds.length/\∃F δ ts B,ER K F1 H1 F H Y δ (λ_=>[])/\W i δ ts/\F L=none/\H L=some (.lst ys)/\bg K F H ts ys B/\(L::B).Nodup/\∀b∈B,H1 b=none/\F b=none,
   ⟨ds.length,rfl,Bv _,F1,_,[],[],e.tf ix (a6.new hL),w0,f1.free hL,a9,⟨rfl,rfl⟩,by simp,λ_ h=>by cases h⟩,?_⟩
  rintro i m Y2 ys H2 ⟨rfl,Į,F2,k,ts,B,e2,w2,l1,l2,J,nd,nw⟩;have n:=e2.ext.hh.seq T;by_cases U:i<ds.length
  .obtain ⟨d0,YK⟩:∃d,ds[i]?=some d:=⟨_,Ah U⟩
   have hl:=J.length;refine .inr ⟨wJ (by have:=(ws i d0 k ts YK w2).1;lia),⟨c,c[i]'(by lia),n,Ah (by lia)⟩,λx H3 y=>?_⟩;obtain⟨rfl,y⟩:=y;obtain⟨d,hd,r3⟩:=O.get' (y c n);have x3:=cP.refl e2.ext.fh;have w4:=(ws i d k ts hd w2).2;have YY:=e2.Ye 0 r3;refine he F1 H1 F2 _ _ _ _ _ ⟨_,YY⟩ w4 λr v F5 H5 p5 x5 n5=>?_
   have a:=x3.trans x5;have l5:=a.hh _ _ l2;have G:=a.no L _ l1 l2 rfl;refine⟨l5,ds.length-(i+1),by lia,rfl,U,F5,k.set 0 (some (.bw d)),ts++[r],?_⟩;obtain⟨C,c1,c2,c3⟩:=n5;obtain⟨n1,n2⟩:=AD.mp nd;have YM:L∉C:=λz=>by
    have q:=(c3 L z).1;rw[x3.hh _ _ l2]at q;cases q
   have û:∀b,b∈B->b∉C:=λb f z=>by
    obtain⟨xs,q,M⟩:=J.sq b f;have:=(c3 b z).1;rw[x3.hh _ _ q]at this;cases this
   have g:=YY.on x5;refine⟨B++C,⟨g.len,⟨g.ext.ff,λb o h=>?_,λb o h=>?_,g.ext.no⟩,λj t hj=>?_,g.bw,g.i5,g.iY,λ_ _ h=>by cases h⟩,p5,G,a9,?_,?_,λb f=>?_⟩
   .exact a8 (λz=>by rw[z,hL]at h;cases h) (g.ext.hh _ _ h)
   .exact a8 (λz=>by rw[z,G]at h;cases h) (g.ext.fh _ _ h)
   .obtain ⟨u,h1,h2⟩:=g.own j t hj;exact⟨u,h1,h2.frame (a6.refl _) λ_ z=>by cases z⟩
   .exact bg.append (J.frame a.ff λb f xs z=>a8 (λq=>n1 (by rw[<- q];exact f)) (a.hh _ _ z)) (bg.one (c1.frame (a6.refl _) λb f xs z=>a8 (λq=>YM (by rw[<- q];exact f)) z))
   .refine AD.mpr ⟨λz=>?_,AQ.mpr ⟨n2,c2,λx hx y hy z=>by subst z;exact û x hx hy⟩⟩;rcases Au.mp z with z |z
    .exact n1 z
    .exact YM z
   .rcases Au.mp f with z |z
    .obtain ⟨xs,qq,M⟩:=J.sq b z;exact⟨(nw b z).1,a.no b _ (nw b z).2 qq M⟩
    .exact ⟨(e2.ext.hh.trans x3.hh).free (c3 b z).1,(c3 b z).2⟩
  .have ð:i=ds.length:=by lia
   subst ð;refine .inl ⟨⟨c,n,by lia⟩,q _ _ F2 H2 (wd _ _ w2) (l.trans e2.ext) ⟨L::B,⟨L,ys,B,rfl,rfl,l2,J⟩,nd,λb f=>?_⟩⟩;rcases AB.mp f with rfl |z
   .exact ⟨l.hh.free hL,l1⟩
   .exact ⟨l.hh.free (nw b z).1,(nw b z).2⟩
def UN (K:Ar):List V->Hp->VK->Prop:=λxs H Q=>∃(l:Ac) (bs:List Bool),xs=[.ref l]/\eR K H l (bs.map V.bl)/\Q (.bl (bs.all id)) H
theorem uB:∀{bs:List Bool} {us:List Aa},bI (bs.map V.bl) us->∀{i:Nat} {v:Aa},us[i]?=some v->∃b,bs[i]?=some b/\v = .bool b
 | [],_,.nil,i,v,e=>by simp at e
 |b::bs,u::us,.cons r t,0,v,e=>by
  simp at e
  subst e;exact⟨b,rfl,r⟩
 |b::bs,u::us,.cons r t,i+1,v,e=>by
  obtain⟨B,h1,h2⟩:=uB t e;exact⟨B,h1,h2⟩
theorem gx (hc:X.calm=true): fT X (.builtin "all") (UN X.K):=by
 intro pins s Y H xs us Q I r h;obtain⟨l,bs,rfl,f,q⟩:=h;obtain⟨u,rfl,U⟩:=iM r;cases U;obtain⟨t,a,pl,z⟩:=I.list f;have hl:=pl.isList;have hn:=a.length;rw[Ay]at hn;have L:l<s.heap.objs.size:=by obtain⟨_,e,_⟩:=hl;exact AY e
 refine call_all_walk (Jj hl ?_);refine⟨s.heap.objs.size,[s.heap.objs.size,l],[s.heap.objs.size],t.toArray.size,_,_,λi=>(bs[i]?).getD true,rfl,Walks.list (A:=X.A.in1) (I.ok.hd hc) _ l (Bx L) t.toArray,
  ⟨⟨_,AA _ rfl,rfl,rfl⟩,hl.push _⟩,λi v s' g j hP c=>?_,λh' tk k=>?_⟩
 .obtain ⟨b,e,rfl⟩:=uB a (by simpa using hP);simp only[e]at c;exact BP c
 .have e:((Ax t.toArray.size).all λi=>(bs[i]?).getD true)=bs.all id:=by
   rw[Aq,<- hn];exact LSm.range_all bs
  rw[e];exact⟨.bl _,H,I.kept (t':=tk) (LSm.kept_iter k),rfl,q⟩
theorem qM:∀{bs:List Bool} {vs:List V},bE K F (bs.map D.bl) vs->vs=bs.map V.bl
 | [],vs,h=>h
 |b::bs,vs,h=>by
  obtain⟨v,r,rfl,h1,h2⟩:=h;rw[show v=V.bl b from h1,qM h2];rfl
theorem ot:Vl K (UN K) Xf:=λF H ds vs P Q s r w q=>by
 unfold Xf at w;split at w
 .obtain ⟨bs,rfl,w⟩:=w;obtain⟨v,rfl,p,us,rfl,h1,h2⟩:=gQ r;have e:=qM h2;subst e;exact⟨p,bs,rfl,h1,q _ _ F H w (cP.refl s) rfl⟩
 .exact w.elim
theorem Wx (h:sT n k=some j): j<n:=by
 unfold sT at h;split at h
 .split at h
  .cases h;lia
  .cases h
 .split at h
  .cases h;lia
  .cases h
theorem L3 (h:cH K te E)(hk:dM K tk Ek)(hm:dM K tm Em): bR K (sv te (TB (LK (SR K) (eT i) tk) tm Mb)) (Uy i Ek Em E):=λF0 H0 F H Y δ De En e l w=>by
 refine h F0 H0 F H Y δ _ _ e w λd u F1 H1 p x1 rd=>?_
 obtain⟨A,e⟩:=e;split at p
 .rename_i ts hs;have e1:=e.on x1;obtain⟨v,hv,a,vs,B,rfl,eA,ha,hB⟩:=e1.own i _ hs;refine⟨_,hv,?_⟩;refine hk F0 H0 F1 H1 Y δ _ _ ⟨A,e1⟩ p λk kv F2 H2 C n r2=>?_
  split at C
  .rename_i k;obtain⟨j,us,hj,hu,C⟩:=C;have e2:=e1.on n;have M:=n.hh _ _ ha;have Q:bg K F2 H2 ts vs B:=hB.frame n.ff λb _ xs z=>n.hh _ _ z
   have ό:=Q.length;obtain⟨v0,A1,B0,A2,f1,rfl,f3,f4⟩:=Q.focus hu;obtain⟨c,r,C0,rfl,rfl,hc,J⟩:=f3;have Ć:hQ vs k=some (.ref c):=by
    unfold hQ;rw[<- ό,hj];exact f1
   refine⟨a,vs,k,.ref c,rfl,r2,eR.of M,Ć,?_⟩;refine hm F0 H0 F2 H2 Y δ _ _ ⟨A,e2⟩ C λm mv U H3 t g r3=>?_
   split at t
   .rename_i m;obtain⟨q,hq,t⟩:=t;have e3:=e2.on g;have ϋ:=J.length;refine⟨c,r,m,q,rfl,r3,g.hh _ _ hc,by rw[<- ϋ];exact hq,?_⟩;have ĥ:=Wx hq;have G:bg K U H3 us r C0:=J.frame g.ff λb _ xs z=>g.hh _ _ z
    obtain⟨w0,C1,D0,C2,g1,rfl,g3,g4⟩:=G.focus (Ah ĥ);have L:=e.i5 i;rw[eA]at L;have hA:A i=a::(A1++(c::(C1++(D0++C2))++A2)):=eA;obtain⟨n1,n2⟩:=AD.mp L;obtain⟨m1,m2,m3⟩:=AQ.mp n2;obtain⟨q1,q2,q3⟩:=AQ.mp m2;obtain⟨s1,s2⟩:=AD.mp q1;have ù:a≠c:=λz=>n1 (by rw[z];simp)
    have off:∀b∈A1++A2,b≠c:=λb f z=>by
     subst z;rcases Au.mp f with y |y
     .exact m3 b y b (by simp) rfl
     .exact q3 b (by simp) b y rfl
    have O:∀b∈C1++C2,b≠c:=λb f z=>by
     subst z
     apply s1
     rcases Au.mp f with y |y<;>simp[y]
    have š:dP K U d u:=rd.mono (n.ff.trans g.ff);have Ϸ:=g4 U (c8 H3 c (.lst (r.set q u))) (.fz d) u [] (a6.refl _) (λb f xs z=>a8 (O b f) z) ⟨rfl,š⟩;have T:=f4 U (c8 H3 c (.lst (r.set q u))) (.nl (us.set q (.fz d))) (.ref c) (c::(C1++([]++C2))) g.ff (λb f xs z=>a8 (off b f) (g.hh _ _ z)) ⟨c,r.set q u,_,rfl,rfl,a9,Ϸ⟩;rw[eM f1]at T;have sub:(a::(A1++(c::(C1++([]++C2))++A2))).Sublist (A i):=by
     rw[hA];exact Gg _ (Dx (DW _) (Dx (Gg _ (Dx (DW _) (Dx (List.nil_sublist _) (DW _)))) (DW _)))
    refine l.nx U _ Y _ (e3.change i hv (t':=.nl (ts.set j (.nl (us.set q (.fz d))))) (B:=a::(A1++(c::(C1++([]++C2))++A2))) ⟨a,vs,_,rfl,rfl,a8 ù (g.hh _ _ M),T⟩ ?_ ?_ ?_ ?_) t
    .exact (e.i5 i).sublist sub
    .intro b f;exact⟨(e3.new i b (sub.subset f)).1,(e3.new i b (sub.subset f)).2.1⟩
    .intro j' U1 b f z;exact e.iY j' i b U1 z (sub.subset f)
    .intro b o f q';exact a8 (λz=>f (by rw[hA,z];simp)) q'
   .exact t.elim
  .exact C.elim
 .exact p.elim
def UE (K:Ar):V->Int->Hp->VK->Prop:=λx c H Q=>∃a xs,x = .ref a/\eR K H a xs/\0<c/\∀p e,H p=none->a6 H e->e p=some (.lst (mq xs c))->Q (.ref p) e
def Ul (r:V->Int->Hp->VK->Prop)(t T:TE):TE:=λY H Q=>t Y H λx e=>T Y e λc a=>∃i,c = .int i/\r x i a Q
theorem nG (h:bI xs us): ∀(J:List Nat),bI (J.filterMap (xs[·]?)) (J.filterMap (us.toArray[·]?))
 | []=>.nil
 |j :: J=>by
  have c:=nG h J;by_cases g:j<xs.length
  .obtain ⟨u,U,r⟩:=h.get (i:=j) (x:=xs[j]) (by simp);have a:xs[j]?=some xs[j]:=by simp
   have e:us.toArray[j]?=some u:=by simpa using U
   rw[Cz a,Cz e];exact .cons r c
  .have f:¬ j<us.length:=by rw[<- h.length];exact g
   have a:xs[j]?=none:=by simp;lia
   have e:us.toArray[j]?=none:=by simp;lia
   rw[C9 a,C9 e];exact c
theorem Mf (L:PE X e k)(hc:PE X c C): PE X (.Subscript e (.Slice none none (some c) p2) pos) (Ul (UE X.K) k C):=by
 intro pins s Y H Q I h;refine Jd (cK (L pins s Y H _ I h) λv m g=>?_);obtain⟨x,H1,U,u,A⟩:=g;refine K1 ?_;refine AK ?_;refine AK ?_;refine cK (hc pins m Y H1 _ U A) λvc f g=>?_
 obtain⟨y,H3,O,n,i,M,w⟩:=g;subst M;obtain⟨a,xs,rfl,J,hi,q⟩:=w;obtain⟨tk,rfl⟩:=n;cases u;have j:bA X pins Y H3 {f with heap:=f.heap.push {cls:=.type "slice",data:=.fields #[.none,.none,.int i tk]}}:=O.kept (t':=f.toks) λb ob q=>Af _ q
 obtain⟨t,r,pl,G⟩:=j.list J;have hn:=r.length;have B:C3 none none (some i) t.toArray.size=(0,(xs.length:Int),i):=by
  unfold C3;simp[hi,hn]
 have p:HI t.toArray none none (some i)=((CZ 0 xs.length i).filterMap (t.toArray[·]?)).toArray:=by
  unfold HI;rw[B]
 refine Kd (T := "list") (ops:=[.ref a,.ref f.heap.objs.size]) pl.isList.typeIs Gi.lookup ?_ (by with_unfolding_all rfl);refine Hw pl.isList (Heap.IsSliceOf.new ..) .none .none (.int i tk) (by intro z;injection z with z;lia) ?_ (by rw[Aq]<;>lia);rw[p];have l:(mq xs i).length<=xs.length:=by
  have h1:=slicePick_size_le t.toArray none none (some i);rw[p,Aq,Aq]at h1;have h2:=(nG r (CZ 0 xs.length i)).length;show ((CZ 0 xs.length i).filterMap (xs[·]?)).length<=_
  lia
 have hf:=j.cY.fresh (Ak _);refine⟨.ref _,_,j.laid (t':=f.toks) (o:=.lst (mq xs i)) (λb ob q=>Af _ q) (Ak _) ?_,rfl,q _ _ hf (a6.new hf) a9⟩;exact⟨BC l G,_,0,nG r (CZ 0 xs.length i),AA _ rfl⟩
theorem bE.pick (h:bE K F ds vs): ∀(J:List Nat),bE K F (J.filterMap (ds[·]?)) (J.filterMap (vs[·]?))
 | []=>rfl
 |j :: J=>by
  have a:=bE.pick h J;have hl:=h.length;by_cases g:j<ds.length
  .obtain ⟨v,c,r⟩:=h.get (i:=j) (d:=ds[j]) (by simp);have e:ds[j]?=some ds[j]:=by simp
   rw[Cz e,Cz c];exact⟨v,_,rfl,r,a⟩
  .have e:ds[j]?=none:=by simp;lia
   have f:vs[j]?=none:=by simp;lia
   rw[C9 e,C9 f];exact a
theorem bE.step (h:bE K F ds vs)(c:Int): bE K F (mq ds c) (mq vs c):=by
 unfold mq;rw[h.length];exact h.pick _
theorem L5 (A:cH K T U)(hc:dM K t O): eF K (Ul (UE K) T t) (U7 U O):=λk j F H Y δ P Q e w q=>
 A k j F H Y δ _ _ e w λx v J z m h n=>hc k j J z Y δ _ _ (e.on h) m λc u G H2 g a r=>by
  have f:=h.trans a;split at g
  .obtain ⟨C,g⟩:=g;obtain⟨p,vs,rfl,h1,h2⟩:=n.mono a.ff;exact⟨_,r,p,vs,rfl,a.fh.seq h1,C,λl B L M o=>q _ _ G B g (f.trans (cP.grow a.fh M)) (fk.list (f.hh.free L) (a.fh.free L) o (h2.step _))⟩
  .exact g.elim
structure wy (K:Ar) (mg:Am->Option Aa) (x:Am) (st:AW) (f:Ac) (fd:Ag) (T:Ac) (items:Array Aa):Prop where
 ex:∃(oc:Aa) (od:Option Ac) (kV doc pm:Aa) (an:Option Ac) (XE ct:Aa) (Yg:Array (Option Aa)),
  fd=Ep x x (bZ st) (bx st) (aA st) (.ref T) kV doc pm an XE ct/\K.lookup f=some ⟨oc,od,.func fd,Yg⟩/\F6 K XE x=true
 tup:∃o n,K.lookup T=some o/\o.data = .seq items n
 kp:D_ K (.ref f)=true
 here:mg x=some (.ref f)
structure LC (P:AE) (w:AU) (K:Ar) (mg:Am->Option Aa) (base:Heap) (x:Am) (k:Nat) (ps:List Am) (sp:Sp) (x_:List V):Prop where
 ex:∃f fd ds,fE P w K mg base l' k f fd ps sp/\mg x=some (.ref f)/\D_ K (.ref f)=true/\gf K fd ps []/\gf K fd ps ds/\bI x_ ds
theorem LC.ň {m:Am->Option Aa}(C:LC P w K m base x k ps sp v): bO P w K m base x k ps sp:=by
 obtain⟨f,fd,ds,a,b,c,d,_⟩:=C.ex;exact⟨f,fd,a,b,c,d⟩
theorem Vm.of {P:AE}{w:AU}{M:Am->Option Aa}{base:Heap}{x:Am}{st:AW}{f T:Ac}{items:Array Aa}{fd:Ag}{N ps:List Am}{k n:Nat}{sp:c_}{ds:List Aa}{j:List V}(q:wy K M x st f fd T items)(S:aN N ps (aA st))
  (hb:∀(kV O pm:Aa) (g:Option Ac) (c ct:Aa) (us:List Aa),us.length=ps.length->∃k,Cr (Ep x x (bZ st) (bx st) (aA st) (.ref T) kV O pm g c ct) ⟨us,[]⟩=seqItems? (.ref T) >>= k/\k (some items)=pure (ps.zip us))
  (L:∀(kV O pm:Aa) (g:Option Ac) (c ct:Aa) (us:List Aa),(us++ds).length=ps.length->∃k,Cr (Ep x x (bZ st) (bx st) (aA st) (.ref T) kV O pm g c ct) ⟨us,[]⟩=seqItems? (.ref T) >>= k/\k (some items)=pure (ps.zip (us++ds)))
  (hv:bI j ds) (hn:n=ps.length)
  (B:∀(c:Aa) (A:AX) (outer:List EJ) (s:Ae) (H:Hp) (E:XK),cJ k (A.deeper (BG x (aA st) s.heap.objs.size f c))->
   ∃t T,PSs (eH l' P w K M base N x (aA st) f c A outer s H E).pP (bx st) t/\bR K t T/\∀ds a,sp ds a->T {nx:=λ_=>a (.fz .cn),rt:=a} (dD N ds)):LC P w K M base x (k+1) ps (bL K n sp) j:=by
 obtain⟨oc,od,kV,O,pm,g,c,ct,Yg,rfl,lk,J⟩:=q.ex;obtain⟨o,m,ht,hs⟩:=q.tup;refine⟨f,_,ds,ME lk J S (λvs H Q E h=>by rw[<- hn];exact h.1) (λA outer s H vs Q E hr h=>?_),q.here,q.kp,λs us KX hl=>?_,λs us KX hl=>?_,hv⟩
 .obtain ⟨_,F,l,a,C,G,u,hq⟩:=h;obtain⟨t,T',h1,h2,h3⟩:=B c A outer s H E hr;refine⟨t,h1.pP,h2 F H F H (start N vs) (dD N l) {nx:=λ_=>a (.fz .cn),rt:=a} _ ⟨_,fu C G⟩ ⟨λF' H' Y δ e p=>?_,λ_ _ _ _ _ z=>z.elim,λ_ _ _ _ _ z=>z.elim,λF' H' r v x n p=>hq r v F' H' p x n⟩ (h3 l a u)⟩;exact hq _ _ F' H' p e.ext (.fz rfl)
 .rw [Bi]at hl ⊢;obtain⟨k',e1,U⟩:=hb kV O pm g c ct us hl;exact KL KX rfl ht hs e1 U
 .obtain ⟨k',e1,U⟩:=L kV O pm g c ct us hl;exact KL KX rfl ht hs e1 U
end
def U8 (A:DA):DA:=λδ P=>A δ λds=>match ds with
 | [.int i,.int j,.int c]=>c = -1/\(-(2^61)<=i/\i<2^61/\-(2^61)<=j/\j<2^61)/\P (tR i (-1) (i-j).toNat)
 |_=>False
section
variable {X:Cx}{K:Ar}{tg:Expr}
theorem xi {i j:Int}:AT i j (-1)=((i-j).toNat:Int):=by
 unfold AT;rw[if_neg (by decide)];split
 .rw [show (-(-1):Int)=1 by decide];lia
 .lia
theorem yU {a b:Int}(h1 : -(2^61)<=a)(h2:a<2^61)(c : -(2^61)<=b)(h:b<2^61):Dp a b (-1)=true:=by
 unfold Dp;rw[xi];simp only[Ft,CJ,IH,decide_eq_true_eq,show ¬ ((-1:Int) > 0) from by decide,if_false];omega
def UW (t:TA):TI:=λY H R=>t Y H λvs a=>∃i j:Int,vs=[.int i,.int j,.int (-1)]/\(-(2^61)<=i/\i<2^61/\-(2^61)<=j/\j<2^61)/\R (Uc i (-1) (i-j).toNat) a
theorem Nm {a b d:Expr}{A:TA}{p pos:DR}(hg:Gl X "range")(M:X.mg "range"=none)(J:PA X [a,b,d] A)(C:Av [a,b,d] X.env=(false,eval a X.env)::Av [b,d] X.env:=by rfl)
  (l:(BY pos (Av [b,d] X.env)).any (·.1)=false:=by rfl):
  PI X tg (.Call (.Name "range" p) [a,b,d] [] pos) (UW A):=by
 intro pins s Y H R I h;refine Hh (f9 I hg M Jc (A9 (cK (J pos pins s Y H _ I h) λus c z=>?_) C l));obtain⟨vs,m,U,n,Q⟩:=z;obtain⟨i,j,e,⟨Q,B,w,v⟩,q⟩:=Q;subst e
 cases n with
 |cons r f=>
  cases f with
  |cons u f=>
   cases f with
   |cons g f=>
    cases f;obtain⟨t,rfl⟩:=r;obtain⟨t',rfl⟩:=u;obtain⟨T,rfl⟩:=g;refine PySem.call_range_3 (by lia) ?_ (.inl (EK (by decide)));refine FX (GY ..) (yU Q B w v) ?_;have k:bA X pins Y m {c with heap:=c.heap.push {cls:=.type "range",data:=.fields #[.int i t,.int j t',.int (-1) T]},toks:=c.toks}:=U.kept λb o e=>Af _ e
    refine⟨(c.heap.push {cls:=.type "range",data:=.fields #[.int i t,.int j t',.int (-1) T]}).objs.size,[(c.heap.push {cls:=.type "range",data:=.fields #[.int i t,.int j t',.int (-1) T]}).objs.size],_,_,m,rfl,
     k.kept (t':=c.toks) λb o e=>Af _ e,oz _ i (-1) (i-j).toNat,?_,λb G=>?_,q⟩
    .have O:i+((0:Nat):Int)*(-1)=i:=by simp
     have L:(((i-j).toNat:Nat):Int)-((0:Nat):Int)=AT i j (-1):=by rw[xi];simp
     rw[O,L];exact AA _ rfl
    .have e:b=(c.heap.push {cls:=.type "range",data:=.fields #[.int i t,.int j t',.int (-1) T]}).objs.size:=by simpa using G
     subst e;exact k.pz (Ak _) (k.cY.fresh (Ak _))
theorem SF {a:TA}{A:DA}(h:kH K a A):lp K (UW a) (U8 A):=λn l F H Y δ P R e w q=>h n l F H Y δ _ _ e w λds vs o m p x r=>by
 split at p
 .obtain ⟨v,u,z,rfl,g,f,c⟩:=UC r;obtain⟨rfl,k,j⟩:=p;exact⟨_,_,by rw[show v=_ from g,show u=_ from f,show z=_ from c],k,q _ _ o m j x xU⟩
 .exact p.elim
end
theorem eQ.Û {a:Type}{O:DO}{o:Option Sl}{dg:c7}{P:OV->Prop}(xs:List a)(g:a->D)(f:a->OV)(hn:xs.length<=1000000)
  (h:∀x∈xs,∀Q:OV->Prop,Q (f x)->O (some (.bw (g x))::dg) Q) (k:P (.nl (xs.map f))):eQ (gB 0) O (xs.map g) (o::dg) P:=by
 refine⟨λi δ ts=>∃o,δ=o::dg/\ts=(xs.take i).map f,⟨o,rfl,rfl⟩,?_,?_⟩
 .rintro i d δ ts hd ⟨o,rfl,rfl⟩;obtain⟨x,c,rfl⟩:=mV hd;obtain⟨hi,e⟩:=Ab.mp c;refine⟨by rw[Ay,Bp];lia,h x (An c) _ ⟨_,rfl,?_⟩⟩;rw[Bo hi,e,A5];rfl
 .rintro δ ts ⟨o,rfl,rfl⟩;rw[Ay,BU];exact k
noncomputable def i6 (i:Int):Nat:=if i=0 then 0 else i.natAbs.log2+1
theorem Tt:i6 (i.natAbs:Int)=i6 i:=by
 unfold i6;by_cases h:i=0
 .subst h;rfl
 .rw [if_neg h,if_neg (by lia)];rfl
theorem WD (h1 : -(2^n)<i)(h2:i<2^n): i6 i<=n:=by
 unfold i6;split
 .exact Bv _
 .have h:((2^n:Nat):Int)=(2:Int)^n:=rfl;have hn:i.natAbs<2^n:=by omega
  have:i.natAbs.log2<n:=(Jt (by lia)).mpr hn;lia
section
variable {K:Ar}{X:Cx}
theorem WE:Gz i=i6 i:=by
 unfold Gz i6;by_cases h:i=0
 .subst h;rfl
 .simp
theorem oy:∀(ns:List Int),(∀m∈ns,i6 m<=PySem.W.WData.weightAll (ns.map PySem.W.WData.int))
 | [],m,h=>by cases h
 |n :: ns,m,h=>by
  rw[B7];simp only[PySem.W.WData.weightAll];rcases AB.mp h with rfl |h
  .have:i6 m=PySem.W.WData.weight (PySem.W.WData.int m):=by
    unfold i6;simp only[PySem.W.WData.weight];by_cases z:m=0
    .subst z;rfl
    .simp
   lia
  .have:=oy ns m h;lia
end
end L2
namespace Att
open PySem PySem.W PySem.Calls PyProof.Rows
theorem wo {l:Jp}{n:Nat}{q:AE}{e:List Am}{T:(Am->Option Aa)->Heap->Prop}{Q:AU->Heap->Prop}{d:Kc}
  (hn:l.most=some n) (z:d.params.defaults=[])
  (call:∀(w:AU) (s₀ c:Ae) (g M:Am->Option Aa) (A:Ac) (o:Co) (pm cd O:Aa) (a:Ac) (vs:List Aa) (ns:List Int),
   Ground q e [] T w s₀ g M c.heap->Q w c.heap->
   c.heap.get? A=some o->o.data = .func (docDef d.name d.params d.body d.scope pm cd O)->c.heap.CodeRec cd d.name->g d.name=some (.ref A)->
   c.heap.get? a=some {cls:=.type "list",data:=.seq vs.toArray}->EB vs ns->ns.length<=n->(∀m∈ns,L2.i6 m<=1048576)->c.gens=#[]->
   Cw (model l.prog w) Dn (.call (.ref A) ⟨[.ref a],[]⟩) (λr s'=>r = .ok (.ret (.bool true))/\KN c.heap s'.heap/\s'.os=c.os/\Db s'.gens) c):
  WalkO q e T Q l.row.toRowW d [] (λf vs=>PySem.call f vs):=by
 intro w s₀ c g M G U A o pm cd O dV kV ho hd C J u hg args vals as p h hrd k ύ;obtain rfl:dV = .none:=JD J z;obtain rfl:kV = .none:=JE J;obtain⟨a,vs,ns,rfl,rfl,j,t,L⟩:=tM hn p k;have B:∀m∈ns,L2.i6 m<=1048576:=λm v=>by
  have h1:=L2.oy ns m v;have h2:IZ (JC (ns.map H_))<=2^20:=by
   simp only[WData.layableAll,List.all_cons,WData.layable,CJ,decide_eq_true_eq]at h;exact h.1.2
  simp only[IZ]at h2;lia
 refine Ll (Cj (call w s₀ c g M A o pm cd O a vs ns G U ho (fd_plain hd) C u j t L B hg) λr s' hq=>?_);obtain⟨rfl,h2,h3,h4⟩:=hq;exact⟨.inl ⟨.bool true,.bool true,[],rfl,λ_=>rfl,.bool true,tW l _,λ_=>⟨GC,λ_ v=>(nomatch v)⟩⟩,h2,h3,h4⟩
end Att
namespace L2
open PySem PySem.Spec PyProof.Rows
section
variable {X:Cx}{K:Ar}{mg:Am->Option Aa}
end
def Vh (E:DE):DE:=λδ P=>E δ λd=>match d with
 | .int i=>P (.int (i6 i))
 |_=>False
section
variable {X:Cx}{K:Ar}
def UM:V->List V->Hp->VK->Prop:=λx xs H Q=>∃i,x = .int i/\xs=[]/\Q (.int (i6 i)) H
theorem Tf:Zv X "int.bit_length" UM:=by
 intro pins s Y H x vs v us Q I r a h;obtain⟨i,rfl,rfl,q⟩:=h;obtain⟨t,rfl⟩:=r;cases a;refine call_int_bit_length ?_;rw[WE];exact⟨.int _,H,I.tok _,⟨_,rfl⟩,q⟩
theorem SM (h:dM K t E): cH K (Sh K "int" UM t) (Vh E):=λl j F H Y δ P Q e w q=>h l j F H Y δ _ _ e w λd v k g a c r=>by
 split at a
 .have f:v=_:=r;subst f;exact⟨rfl,_,rfl,rfl,q _ _ k g a c rfl⟩
 .exact a.elim
theorem k8:Vl K (UH K) QS:=λF H ds vs P Q s r w q=>by
 unfold QS at w;split at w
 .obtain ⟨ns,rfl,hn,w⟩:=w;obtain⟨v,rfl,p,us,rfl,h1,h2⟩:=gQ r;rw[gv]at h2;subst h2;exact⟨p,ns,rfl,h1,hn,λM h A=>q _ _ F H (w M h A) (cP.refl s) rfl⟩
 .exact w.elim
end
section
variable {K:Ar}{mg:Am->Option Aa}
end
section
variable {X:Cx}{K:Ar}
end
section
variable {X:Cx}{K:Ar}
end
def Y5 (A:DA):DA:=λδ P=>A δ λds=>match ds with
 | [.lst xs,.lst ys]=>P ((xs.zip ys).map λp=>D.tup [p.1,p.2])
 |_=>False
section
variable {X:Cx}{K:Ar}{mg:Am->Option Aa}
theorem bA.pC {pins:List (Ac×Co)}{Y:St}{H:Hp}{s:Ae}{h':Heap}{t':Nat}{L:List Ac}(I:bA X pins Y H s)(k:∀b o,b∉L->s.heap.get? b=some o->h'.get? b=some o)(f:∀b∈L,jM X pins H b):bA X pins Y H {s with heap:=h',toks:=t'}:=by
 have g:∀b u,H b=some u->b∉L:=λb u e z=>by
  obtain⟨a,_⟩:=f b z;rw[a]at e;cases e
 refine I.step (g':=s.gens) (d':=s.drawn) (λb B=>?_) (λb o _ _ hc e _=>k b o hc e) (λb o _ _ hc e _=>⟨o.slots,k b o hc e⟩) (λ_ _ _ _ n=>n)
  (λb o hc e=>⟨o,k b o hc e⟩) (λ_ _ e=>e) (λ_ _ _ e=>e) (λb ps e=>⟨#[],by rw[e];simp⟩) (λm M=>?_) (λb u e=>?_) I.bare
 .obtain ⟨a,p,A,l,j,h⟩:=f b B;exact⟨l,p,j,h⟩
 .obtain ⟨o,t,w,O,r⟩:=M;refine⟨o,t,w,k _ o (λz=>?_) O,r⟩;obtain⟨a,p,_⟩:=f _ z;exact p rfl
 .refine (I.cY b u e).qh (λc v hc q=>k c v ?_ q) (λ_ q=>q) λ_ _ q _=>q
  rcases hc with z |z
  .rw [z];exact g b u e
  .exact g c _ z
noncomputable def ŋ (K:Ar)(A a:Ac)(xs ys:List V):It:=
 ⟨λi H=>eR K H A xs/\eR K H a ys/\i<xs.length/\i<ys.length,λi H x c=>∃p y1 y2,x = .ref p/\H p=none/\a6 H c/\xs[i]?=some y1/\ys[i]?=some y2/\c p=some (.tup [y1,y2]),λi H=>eR K H A xs/\eR K H a ys/\(xs.length<=i∨ys.length<=i)⟩
theorem ie {h:Heap}{l z:Ac}{xs:Array Aa}{o:Co}(hl:h.IsList l xs)(e:h.get? z=some o)(hc:o.cls≠.type "list"):l≠z:=λq=>by
 subst q;obtain⟨O,a,c,_⟩:=hl;rw[e]at a;cases a;exact hc c
structure Xi (z TI TO i1 i2:Ac):Prop where
 TIz:TI≠z
 TOz:TO≠z
 i1z:i1≠z
 i2z:i2≠z
 TITO:TI≠TO
 TIi1:TI≠i1
 TIi2:TI≠i2
 TOi1:TO≠i1
 TOi2:TO≠i2
 i12:i1≠i2
theorem R9 (n:Nat):Xi (n+4) (n+2) (n+3) n (n+1):=
 ⟨λq=>by have q:(n+2:Nat)=n+4:=q;lia,λq=>by have q:(n+3:Nat)=n+4:=q;lia,λq=>by have q:(n+0:Nat)=n+4:=q;lia,λq=>by have q:(n+1:Nat)=n+4:=q;lia,λq=>by have q:(n+2:Nat)=n+3:=q;lia,λq=>by have q:(n+2:Nat)=n+0:=q;lia,λq=>by have q:(n+2:Nat)=n+1:=q;lia,λq=>by have q:(n+3:Nat)=n+0:=q;lia,λq=>by have q:(n+3:Nat)=n+1:=q;lia,λq=>by have q:(n+0:Nat)=n+1:=q;lia⟩
theorem tw {h:Heap}{z TI TO e c g f:Ac}{xs ys:Array Aa}{a b:Aa}{k1 k2:Nat}{n C:Ac}(D:Xi z TI TO e c)(j:IsZip h z TI TO .none)(T:Lq h TO a b)(h1:h.IsListIter e n k1)(h2:h.IsListIter c C k2)(L:h.IsList g xs)(l:h.IsList f ys):ZipApart z TI TO e c g f:=by
 obtain⟨O,m,Q,_⟩:=h1;obtain⟨o,k,q,_⟩:=h2;exact⟨D.TIz,D.TOz,D.i1z,D.i2z,D.TITO,D.TIi1,D.TIi2,D.TOi1,D.TOi2,D.i12,ie L j (by simp),ie L T (by simp),ie L m (by rw[Q];simp),ie L k (by rw[q];simp),
  ie l j (by simp),ie l T (by simp),ie l m (by rw[Q];simp),ie l k (by rw[q];simp)⟩
theorem OM {P:AE}{w:AU}{K:Ar}{elts:List Expr}{x1:Nat}{M8:DR}(a1 a2 z TI TO i1 i2:Ac)(xs ys:List V)(D:Xi z TI TO i1 i2):
  tj P w K (.Tuple elts x1 M8) (ŋ K a1 a2 xs ys) [z,TI,TO,i1,i2] z (λi h=>IsZip h z TI TO .none/\Lq h TI (.ref i1) (.ref i2)/\(∃a b,Lq h TO a b)/\h.IsListIter i1 a1 i/\h.IsListIter i2 a2 i) where
 mem:=by simp
 obj:=λi h st b hb=>by
  obtain⟨h1,h2,⟨a,b',h3⟩,⟨o4,q4,_,r4⟩,⟨o5,q5,_,r5⟩⟩:=st;have WO:b=z∨b=TI∨b=TO∨b=i1∨b=i2:=by simpa using hb
  rcases WO with q |q |q |q |q
  .subst q;exact⟨_,h1,λv q=>by cases q⟩
  .subst q;exact⟨_,h2,λv q=>by cases q⟩
  .subst q;exact⟨_,h3,λv q=>by cases q⟩
  .subst q;exact⟨_,q4,λv q=>by rw[r4]at q;cases q⟩
  .subst q;exact⟨_,q5,λv q=>by rw[r5]at q;cases q⟩
 keep:=λi h h' st k=>by
  obtain⟨h1,h2,⟨a,b',h3⟩,h4,h5⟩:=st;exact⟨k z (by simp) _ h1,k TI (by simp) _ h2,⟨a,b',k TO (by simp) _ h3⟩,h4.at λo q=>k i1 (by simp) o q,h5.at λo q=>k i2 (by simp) o q⟩
 item := by
  kj_on
  obtain⟨h1,h2,⟨a,b',h3⟩,h4,h5⟩:=st;obtain⟨WI,Xx,ϙ,Ϙ⟩:=hg;obtain⟨Wy,VR,p1,â⟩:=I.list WI;obtain⟨Yx,X6,p2,ġ⟩:=I.list Xx;obtain⟨u1,å,Ð⟩:=VR.get (i:=i) (x:=xs[i]) (by simp);obtain⟨u2,ä,Ï⟩:=X6.get (i:=i) (x:=ys[i]) (by simp);refine wpAny_pyNext_zip_item (tw D h1 h3 h4 h5 p1.isList p2.isList) h1 h2 h3 h4 h5 p1.isList p2.isList (by simpa using å) (by simpa using ä) λh' g1 g2 g3 g4 g5 g6 g7=>?_
  refine⟨_,rfl,Hm g1 λYP k1 k2=>?_⟩;have YI:=I.cY.fresh (Ak _);have I0:bA X pins Y (c8 H s.heap.objs.size (.tup [xs[i],ys[i]])) {s with heap:=s.heap.push {cls:=.type "tuple",data:=.seq #[u1,u2]},toks:=s.toks}:=
   I.laid (t':=s.toks) (o:=.tup [xs[i],ys[i]]) (λb ob q=>Af _ q) (Ak _) ⟨eG (n:=2) (by decide),[u1,u2],.cons Ð (.cons Ï .nil),⟨_,AA _ rfl,rfl,_,rfl⟩⟩
  have old:∀b∈[z,TI,TO,i1,i2],b≠s.heap.objs.size:=λb hb q=>by
   have WO:b=z∨b=TI∨b=TO∨b=i1∨b=i2:=by simpa using hb
   have yD:b<s.heap.objs.size:=by
    rcases WO with y |y |y |y |y
    .rw [y];exact AY h1
    .rw [y];exact AY h2
    .rw [y];exact AY h3
    .obtain ⟨o,r1,_⟩:=h4;rw[y];exact AY r1
    .obtain ⟨o,r1,_⟩:=h5;rw[y];exact AY r1
   rw[q]at yD;exact B3 _ yD
  have fe:∀b∈[z,TI,TO,i1,i2],jM X pins (c8 H s.heap.objs.size (.tup [xs[i],ys[i]])) b:=λb hb=>by
   obtain⟨q0,q1,q2,q3,q4,q5⟩:=hf b hb;refine⟨?_,q1,q2,q3,q4,q5⟩;rw[bM]
   .exact q0
   .exact old b hb
  have I1 : bA X pins Y (c8 H s.heap.objs.size (.tup [xs[i],ys[i]])) {s with heap:=YP,toks:=s.toks}:=by
   have:=I0.pC (h':=YP) (t':=s.toks) (L:=[z,TO,i1,i2]) (λb o hb q=>?_) (λb hb=>fe b (by
    have WO:b=z∨b=TO∨b=i1∨b=i2:=by simpa using hb
    rcases WO with y |y |y |y<;>simp[y]))
   .exact this
   .have bz:b≠z:=λy=>hb (by simp[y])
    have ø:h'.get? b=some o:=by
     by_cases y:b=s.heap.objs.size
     .subst y;rw[AA _ rfl]at q;rw[<- q];exact g5
     .rw [Heap.get?_push_ne _ _ _ y]at q;exact g7 b o bz (λy=>hb (by simp[y])) (λy=>hb (by simp[y])) (λy=>hb (by simp[y])) q
    exact k2.extBut b o bz ø
  have ú:h'.get? TI=_:=g7 TI _ D.TIz D.TITO D.TIi1 D.TIi2 h2;refine⟨.ref s.heap.objs.size,_,I1,rfl,⟨_,xs[i],ys[i],rfl,YI,a6.new YI,by simp,by simp,a9⟩,⟨k1,k2.extBut _ _ D.TIz ú,⟨_,_,k2.extBut _ _ D.TOz g2⟩,g3.extBut k2.extBut D.i1z,g4.extBut k2.extBut D.i2z⟩,λb hb=>(fe b hb).1⟩
 done:=by
  kj_on
  obtain⟨h1,h2,⟨a,b',h3⟩,h4,h5⟩:=st;obtain⟨WI,Xx,hi⟩:=hg;obtain⟨Wy,VR,p1,â⟩:=I.list WI;obtain⟨Yx,X6,p2,ġ⟩:=I.list Xx;have ϒ:=VR.length;have Ĭ:=X6.length;refine wpAny_pyNext_zip_end (I.ok.hd hc) (tw D h1 h3 h4 h5 p1.isList p2.isList) h1 h2 h3 h4 h5 p1.isList p2.isList (by
   rcases hi with q |q
   .exact .inl (by simp;lia)
   .exact .inr (by simp;lia)) λh' eb=>⟨rfl,I.pC (t':=s.toks) (L:=[z,TO,i1,i2]) (λb o hb q=>eb b o (λy=>hb (by simp[y])) (λy=>hb (by simp[y])) (λy=>hb (by simp[y])) (λy=>hb (by simp[y])) q) (λb hb=>hf b (by
    have WO:b=z∨b=TO∨b=i1∨b=i2:=by simpa using hb
    rcases WO with y |y |y |y<;>simp[y]))⟩
 self:=λ_ _ _ _ _ st h=>by
  obtain⟨h1,_⟩:=st;exact E5 h1 h
def Yy (K:Ar)(t:TA):TI:=λY H R=>t Y H λvs c=>∃A a xs ys,vs=[.ref A,.ref a]/\eR K c A xs/\eR K c a ys/\R (ŋ K A a xs ys) c
theorem V2 {T:List Expr}{v:Nat}{t:DR}{l m:Expr}{A:TA}{p pos:DR}(hg:Gl X "zip")(hm:X.mg "zip"=none)(ha:PA X [l,m] A)(U:Av [l,m] X.env=(false,eval l X.env)::Av [m] X.env:=by rfl)(hp:(BY pos (Av [m] X.env)).any (·.1)=false:=by rfl):PI X (.Tuple T v t) (.Call (.Name "zip" p) [l,m] [] pos) (Yy X.K A):=by
 intro pins s Y H R I h;refine Hh (f9 I hg hm F8 (A9 (cK (ha pos pins s Y H _ I h) λus a z=>?_) U hp));obtain⟨vs,o,c,G,J⟩:=z;obtain⟨a1,a2,xs,ys,e,j,Q,q⟩:=J;subst e;obtain⟨u1,u2,rfl,u,r⟩:=LG G;cases u;cases r;obtain⟨n,C,g,O⟩:=c.list j;obtain⟨k,w,f,M⟩:=c.list Q;refine PySem.call_zip_2 g.isList f.isList λh' g1 g2 g3 g4 g5 g6 g7=>?_
 have I2:bA X pins Y o {a with heap:=h',toks:=a.toks}:=c.kept (t':=a.toks) g7;refine E5 (s:={a with heap:=h',toks:=a.toks}) g1 ?_;refine⟨a.heap.objs.size+4,[a.heap.objs.size+4,a.heap.objs.size+2,a.heap.objs.size+3,a.heap.objs.size,a.heap.objs.size+1],_,_,o,rfl,I2,OM a1 a2 _ _ _ _ _ xs ys ?_,⟨g1,g2,⟨_,_,g3⟩,g4,g5⟩,λb hb=>?_,q⟩
 .exact R9 _
 have L:a.heap.objs.size<=b:=by
  have B:b=a.heap.objs.size+4∨b=a.heap.objs.size+2∨b=a.heap.objs.size+3∨b=a.heap.objs.size∨b=a.heap.objs.size+1:=by simpa using hb
  rcases B with y |y |y |y |y
  .rw [y];exact DL _ _
  .rw [y];exact DL _ _
  .rw [y];exact DL _ _
  .rw [y];exact Ak _
  .rw [y];exact DL _ _
 exact c.pz L (c.cY.fresh L)
theorem VI {a:TA}{B:DA}(h:dN K a B):lp K (Yy K a) (Y5 B):=λF0 H0 F H Y δ P R e w q=>h F0 H0 F H Y δ _ _ e w λds vs F' H' p x r=>by
 split at p
 .rename_i xs ys;obtain⟨v1,v2,rfl,⟨O,U,rfl,h1,h2⟩,⟨J,u,rfl,k1,k2⟩⟩:=xk r;have G:=h2.length;have C:=k2.length;refine⟨O,J,U,u,rfl,x.fh.seq h1,x.fh.seq k1,q _ _ F' H' p x λF1 H1 g c=>?_⟩;have f:=(g.trans c).seq h1;have Q:=(g.trans c).seq k1;have L:((xs.zip ys).map λp=>D.tup [p.1,p.2]).length=min xs.length ys.length:=by simp
  refine⟨λi hi=>⟨f,Q,by lia,by lia⟩,⟨f,Q,by lia⟩,λi x H2 hi y=>?_⟩;obtain⟨t,y1,y2,rfl,ht,M,m,l,T⟩:=y;obtain⟨A,o,k⟩:=h2.get' m;obtain⟨v,n,j⟩:=k2.get' l;refine⟨.tup [A,v],c8 F1 t (.tup [y1,y2]),?_,cP.new c ht M T,t,[y1,y2],rfl,.inl (.inl a9),?_⟩
  .rw [AN,Cu (z:=(A,v)) |>.mpr ⟨o,n⟩];rfl
  .exact ⟨_,_,rfl,(k.mono g).mono (a6.yH (c.free ht)),_,_,rfl,(j.mono g).mono (a6.yH (c.free ht)),rfl⟩
 .exact p.elim
end
def Va (o:DO)(B:DE):DO:=λδ P=>o δ λr=>match r with
 | .nl [.fz d]=>B δ λy=>match y with
  | .int k=>(0<=k/\k<=1000000)/\P (.nl (Aw k.toNat (.fz d)))
  |_=>False
 |_=>False
section
variable {X:Cx}{K:Ar}{mg:Am->Option Aa}
theorem bE.rep (h:dP K F d v): ∀n:Nat,bE K F (Aw n d) (Aw n v)
 | 0=>rfl
 |n+1=>⟨v,Aw n v,rfl,h,bE.rep h n⟩
theorem L6 (J:eF K t Eo)(G:dM K tb Eb): eF K (LK X' t tb) (Va Eo Eb):=λm j F H Y δ P Q e w q=>
 J m j F H Y δ _ _ e w λr v F1 H1 g h o=>by
  split at g
  .rename_i d;obtain⟨A0,⟨p,vs,B,rfl,rfl,A,O⟩,a2,a3⟩:=o;obtain⟨v0,r0,B1,C,rfl,rfl,⟨_,rd⟩,M,_⟩:=O;subst M;refine G m j F1 H1 Y δ _ _ (e.on h) g λy u F2 H2 f a n=>?_
   split at f
   .rename_i k;obtain⟨⟨k0,k1⟩,z⟩:=f;have c:=h.trans a;cases n;refine⟨p,k,[v0],rfl,rfl,a.hh _ _ A,by lia,by lia,eG (by simp;omega),λl L=>?_⟩;have U:(Aw k.toNat [v0]).flatten=Aw k.toNat v0:=List.flatten_replicate_singleton;rw[U];have T:(Aw k.toNat d).map OV.fz=Aw k.toNat (OV.fz d):=E1;refine q _ _ F2 _ z (c.trans (cP.grow a.fh (a6.new L))) ?_;rw[<- T];exact fk.list (c.hh.free L) (a.fh.free L) a9 (bE.rep (rd.mono a.ff) _)
   .exact f.elim
  .exact g.elim
end
section
variable {prog:AE}{w:AU}{A:AX}{E:Aa->Ae->Prop}{s:Ae}
end
section
variable {X:Cx}{K:Ar}{tg:Expr}
end
section
variable {X:Cx}{K:Ar}
theorem bF.rl {outer sc:Ck}(h1:sc.kind = .function)(h2:∀y∈sc.names,y.2≠.cell)(c:∀y∈sc.names,y.2≠.free)(a:∀y∈sc.names,y.2 = .local->sc.names.lookup y.1=some .local):bF outer sc:=
 ⟨h1,h2,λy h e=>absurd e (c y h),a⟩
end
section
variable {prog:AE}{w:AU}{A:AX}{E:Aa->Ae->Prop}{s:Ae}
end
section
variable {X:Cx}{K:Ar}{mg:Am->Option Aa}
end
def ł (A:DA):DE:=λδ P=>A δ λds=>match ds with
 | [.lst xs]=>D.hI xs=true/\P (.tup xs)
 |_=>False
def Vg (a B:DE):DO:=λδ P=>a δ λx=>B δ λy=>match x,y with
 | .lst xs,.lst ys=>D.hI xs=true/\D.hI ys=true/\xs.length+ys.length<=1000000/\P (.nl ((xs++ys).map .fz))
 |_,_=>False
section
variable {X:Cx}{K:Ar}{mg:Am->Option Aa}
theorem ER.drop {g f F H:Hp}{Y:St}{δ:c7}{A:Nat->List Ac}(e:ER K g f F H Y δ A)(i:Nat):ER K g f F H Y (δ.set i none) (λj=>if j=i then [] else A j):=by
 have off:∀(j:Nat) (s:Sl),(δ.set i none)[j]?=some (some s)->j≠i/\δ[j]?=some (some s):=λj s h=>by
  by_cases z:j=i
  .subst z;have hi:j<δ.length:=by
    have:=(Ab.mp h).1
    rwa[BD]at this
   rw[Az hi]at h;cases h
  .rw [AL (Bm z)]at h;exact⟨z,h⟩
 refine⟨by simp[e.len],e.ext,λj t h=>?_,λj d h=>e.bw j d (off j _ h).2,λj=>?_,λj k a J h1 h2=>?_,λj a c=>?_⟩
 .obtain ⟨z,h⟩:=off j _ h;rw[if_neg z];exact e.own j t h
 .split
  .exact CP
  .exact e.i5 j
 .split at h1
  .cases h1
  .split at h2
   .cases h2
   .exact e.iY j k a J h1 h2
 .split at c
  .cases c
  .exact e.new j a c
theorem wN {e:Expr}{dg:List Expr}{env:EJ}(h:∀a p,e≠.Starred a p):Av (e::dg) env=(false,eval e env)::Av dg env:=by
 rw[Av];exact h
def yw (K:Ar)(mg:Am->Option Aa)(x:Am)(d:D):Prop:=∃a,mg x=some (.ref a)/\∀F,dP K F d (.ref a)
def ė (K:Ar)(d:D):TE:=λ_ H Q=>∀v,(∀F,dP K F d v)->Q v H
theorem gU (hg:Gl X x)(m:yw X.K X.mg x d)(hd:(x==("__debug__":Am))=false:=by decide): PE X (.Name x pos) (ė X.K d):=by
 intro pins s Y H Q I h;obtain⟨a,e,r⟩:=m;exact vn (v:=.ref a) hg e rfl hd pins s Y H Q I (h _ r)
theorem qJ:cH K (ė K d) (dC d):=λc a F H Y δ P Q e w q=>λv r=>q d v F H w (cP.refl e.ext.fh) (r F)
theorem SD {t tb:TE}{A B:DE}(T:dM K t A)(O:dM K tb B):eF K (LK (Qg K) t tb) (Vg A B):=λm k F H Y δ P Q e w q=>
 T m k F H Y δ _ _ e w λx v F1 H1 z h G=>O m k F1 H1 Y δ _ _ (e.on h) z λy u F2 H2 f g C=>by
  have a:=h.trans g;have c:=fR a.fh;split at f
  .obtain ⟨r,o,w5,n⟩:=f;obtain⟨p,vs,rfl,h1,h2⟩:=G.mono g.hh;obtain⟨J,us,rfl,U,j⟩:=C;have l1:=h2.length;have l2:=j.length;refine⟨p,J,vs,us,rfl,rfl,h1,U,eG (by lia),λl H' L M lk=>?_⟩;exact q _ _ _ H' n (a.trans (c.trans (cP.grow c.fh M))) (fk.list (a.hh.free L) (c.fh.free L) lk ((bE.lf a.fh h2 r).append (bE.lf a.fh j o)))
  .exact f.elim
end
open PySem PySem.Spec PyProof.Rows PyProof.V PySem.W
section
variable {P:AE}{w:AU}{H:Hp}{h:Heap}{a:Ac}{o:HO}
theorem eo.at:∀{o:HO},eo P w H h a o->∃u,h.get? a=some u
 | .lst _,x=>by obtain⟨_,_,_,_,e⟩:=x;exact⟨_,e⟩
 | .tup _,x=>by obtain⟨_,_,_,ob,e,_⟩:=x;exact⟨_,e⟩
 | .dK _,x=>by obtain⟨_,_,_,_,o,_,_,e,_⟩:=x;exact⟨_,e⟩
 | .dT _,x=>by obtain⟨_,_,_,_,o,_,_,e,_⟩:=x;exact⟨_,e⟩
 | .set _ _,x=>by obtain⟨o,_,_,_,e,_⟩:=x;exact⟨_,e⟩
 | .ins _ _ _,x=>by obtain⟨_,_,_,e,_⟩:=x;exact⟨_,e⟩
 | .own _,x=>x
 | .xd _,x=>by obtain⟨_,⟨O,_,_,e,_⟩,_⟩:=x;exact⟨_,e⟩
 | .tR _ _,x=>by obtain⟨_,_,_,e⟩:=x;exact⟨_,e⟩
 | .fC _ _,x=>⟨_,x.1⟩
 | .Uj _,x=>⟨_,x⟩
 | .v7 _ _,x=>by obtain⟨_,e,_⟩:=x;exact⟨_,e⟩
 | .met _ _,x=>⟨_,x⟩
 | .ext _,x=>x.2.1
end
def RZ (P:AE)(w:AU):MZ:=λouter H s E e s'=>∃(a C:Ac) (A:Aa) (B:Heap) (c:Hp),e = .ref a/\E (.ref C) none c/\Heap.FlyingW B outer a (.ref C) A s'.heap/\
 (∀b o,s'.heap.get? b=some o->b∉jL outer->((∃O,s.heap.get? b=some O)∨∃u,c b=some u)->B.get? b=some o)/\Un (jL outer) [] H c s.heap s'.heap/\kK P w c s'.heap/\Db s'.gens/\s'.os=s.os/\c a=none
section
variable {P:AE}{w:AU}{K:Ar}{mg:Am->Option Aa}{base:Heap}{N:List Am}{qual:Am}{scope:Ck}{f:Ac}{cd:Aa}{A:AX}{outer:List EJ}{s:Ae}{H:Hp}{E:XK}
theorem zO {pins:List (Ac×Co)}{Y:St}{H1 p:Hp}{G s':Ae}{a C0:Ac}{a0:Aa}{B h7:Heap}{Z:List Ac}(I:bA (eH (RZ P w) P w K mg base N qual scope f cd A outer s H E) pins Y H1 G)
  (hE:E (.ref C0) none p) (C:Heap.FlyingW B outer a (.ref C0) a0 h7)
  (g:∀b o,s'.heap.get? b=some o->b∉jL (BG qual scope s.heap.objs.size f cd::outer)->b∉Z->((∃J,G.heap.get? b=some J)∨∃u,p b=some u)->B.get? b=some o)
  (l:∀b o,b∈jL (BG qual scope s.heap.objs.size f cd::outer)->s'.heap.get? b=some o->∃sl,h7.get? b=some {o with slots:=sl})
  (hZ:∀b∈Z,s.heap.objs.size<=b/\p b=none)
  (un:Un (jL (BG qual scope s.heap.objs.size f cd::outer)) [] H1 p G.heap s'.heap) (L:kK P w p s'.heap) (bare:Db s'.gens) (Xy:s'.os=G.os) (í:p a=none):
  RZ P w outer H s E (.ref a) {s' with heap:=h7}:=by
 have h:Un (jL outer) [] H H1 s.heap G.heap:=I.base;have sup:∀b,b∈jL outer->b∈jL (BG qual scope s.heap.objs.size f cd::outer):=λb j=>by
  obtain⟨e,T,hf⟩:=CQ.mp j;exact CQ.mpr ⟨e,Aj _ T,hf⟩
 have old:∀b o,s.heap.get? b=some o->b∉jL outer->b∉jL (BG qual scope s.heap.objs.size f cd::outer):=λb o q j z=>by
  obtain⟨e,T,hf⟩:=CQ.mp z;rcases AB.mp T with rfl |T
  .rw [<- AV hf]at q;exact absurd (AY q) (B3 _)
  .exact j (CQ.mpr ⟨e,T,hf⟩)
 have hu:∀b u,p b=some u->b∉jL (BG qual scope s.heap.objs.size f cd::outer)/\b∉Z:=λb u e=>by
  refine⟨λz=>?_,λz=>by rw[(hZ b z).2]at e;cases e⟩;obtain⟨_,o,ho,_⟩:=I.stack.mem z;rw[un.free b o ho (I.mm b z) (by simp)]at e;cases e
 have lt:∀b o,s.heap.get? b=some o->b∉Z:=λb o q z=>absurd (AY q) (Nat.not_lt.mpr (hZ b z).1)
 refine⟨a,C0,a0,B,p,rfl,hE,C,λb o q j hc=>?_,⟨λb o q n j m=>?_,λb o q n j m=>?_,λb o q n m=>?_,λb o q m=>?_,λb xs e=>un.mf b xs (h.mf b xs e),λb o u e=>un.kE b o u (h.kE b o u e),λb ps e=>?_⟩,λb u e=>?_,bare,Xy.trans I.os,í⟩
 .have key:∃O,B.get? b=some O:=by
   rcases hc with⟨J,r⟩ | ⟨u,r⟩
   .obtain ⟨t,Q⟩:=h.there b J r (by simp);obtain⟨O,k⟩:=un.there b t Q (by simp);exact⟨O,g b O k (old b J r j) (lt b J r) (.inl ⟨t,Q⟩)⟩
   .obtain ⟨O,k⟩:=(L b u r).at
    exact⟨O,g b O k (hu b u r).1 (hu b u r).2 (.inr ⟨u,r⟩)⟩
  obtain⟨O,k⟩:=key;have:=C.1 b O k;rw[q]at this;cases this;exact k
 .have Q:=h.keep b o q n j m;exact C.1 b o (g b o (un.keep b o Q (h.free b o q n m) (old b o q j) (by simp)) (old b o q j) (lt b o q) (.inl ⟨o,Q⟩))
 .obtain ⟨sl,Q⟩:=h.slot b o q n j m;obtain⟨sl2,k⟩:=un.slot b _ Q (h.free b o q n m) (sup b j) (by simp);obtain⟨ş,q3⟩:=l b _ (sup b j) k;exact⟨ş,q3⟩
 .obtain ⟨t,Q⟩:=h.there b o q m;exact un.free b t Q (h.free b o q n m) (by simp)
 .obtain ⟨t,Q⟩:=h.there b o q m;obtain⟨O,k⟩:=un.there b t Q (by simp);by_cases j:b∈jL (BG qual scope s.heap.objs.size f cd::outer)
  .obtain ⟨sl,q3⟩:=l b O j k;exact⟨_,q3⟩
  .exact ⟨_,C.1 _ _ (g b O k j (lt b o q) (.inl ⟨t,Q⟩))⟩
 .obtain ⟨more,e1⟩:=h.mh b ps e;obtain⟨M,e2⟩:=un.mh b _ e1;exact⟨more++M,by rw[e2,FA]⟩
 .refine (L b u e).qh (λc v hc q=>?_) (λ_ q=>q) λ_ _ q _=>q
  have ô:∃u,p c=some u:=by
   rcases hc with rfl |hc
   .exact ⟨_,e⟩
   .exact ⟨_,hc⟩
  obtain⟨u',U⟩:=ô;exact C.1 _ _ (g c v q (hu c u' U).1 (hu c u' U).2 (.inr ⟨u',U⟩))
theorem vh {pins:List (Ac×Co)}{Y:St}{j:Hp}{c:Ae}{C a:Ac}{args:List Aa}{h2:Heap}(I:bA (eH (RZ P w) P w K mg base N qual scope f cd A outer s H E) pins Y j c)(g:Heap.MadeExcOf c.heap h2 a (.ref C) args)
  (n:E (.ref C) none j):(eH (RZ P w) P w K mg base N qual scope f cd A outer s H E).xe (.ref a) {c with heap:=h2}:=by
 refine wpAny_leaves_madeW (base:=hideAll c.heap (jL (BG qual scope s.heap.objs.size f cd::outer))) I.ok.frames rfl (λb o q=>of_hideAll _ q) (PySem.W.funFrames_hide I.stack λe m b B=>CQ.mpr ⟨e,m,B⟩) g λh' t l r p k=>?_
 refine zO (s':=c) (Z:=[]) I n l (λb o q B _ _=>hideAll_get _ q B) (λb o B q=>?_) (λ_ z=>by cases z) Un.refl I.cY I.bare rfl ?_
 .obtain ⟨_,v,h,hd⟩:=I.stack.mem B;rw[q]at h;cases h;exact k b o (g.keeps b o q) hd
 .cases q:j a with
  |none=>rfl
  |some u=>
   obtain⟨o,O⟩:=(I.cY a u q).at
   rw[g.new]at O;cases O
def OT (t:TE)(c:Hp->Prop):TS:=λ_ Y H=>t Y H λx a=>[x].length<=AH/\c a
theorem xo (hg:Gl (eH (RZ P w) P w K mg base N qual scope f cd A outer s H E) x)(O:Fy x C M n mg base)(FB:ExcBaseFacts B n t M)
  (v:(A.deeper (BG qual scope s.heap.objs.size f cd)).handled=none) (z:PE (eH (RZ P w) P w K mg base N qual scope f cd A outer s H E) a p) (hd:(x==("__debug__":Am))=false:=by decide)
  (k:Av [a] (BG qual scope s.heap.objs.size f cd)=[(false,eval a (BG qual scope s.heap.objs.size f cd))]:=by rfl):
  PS (eH (RZ P w) P w K mg base N qual scope f cd A outer s H E) (.Raise (some (.Call (.Name x np) [a] [] c)) none pos) (OT p λU=>E (.ref C) none U):=by
 intro pins j Y L D I h;obtain⟨tl,J,nm,q,bs,hdct,sn,sub,ab,col,dd,k0,k1,k2,k3,k5,mN,G,hN,l,T⟩:=O.obj;refine wpAny_Raise_call_subT (nm:=nm) (q:=q) (N:=J) (bs:=bs) (hdct:=hdct) (sn:=sn) (sub:=sub) (ab:=ab) (col:=col) (dd:=dd) (k0:=k0) (k1:=k1) (k2:=k2) (k3:=k3) (k5:=k5)
  FB (T.hasType FB.hasBase) v ?_ l (kY I hg O.bound ⟨rfl,?_⟩ hd)
 .show (BY c (Av [a] (BG qual scope s.heap.objs.size f cd))).any (·.1)=false
  rw[k];rfl
 .have m:=(ae z ay k) c pins j Y L (λvs o=>vs.length<=AH/\E (.ref C) none o) I h
  change AJ _ _ (spliced (BY c (Av [a] (BG qual scope s.heap.objs.size f cd)))) _ _ j at m
  show AJ _ _ (evalArgs (.ref C) true (BY c (Av [a] (BG qual scope s.heap.objs.size f cd))) []) _ _ j
  rw[k]at m ⊢;refine Hf (BV m (λus s2 h2=>?_) λ_ _ y=>y);obtain⟨vs,o,g,r,hl,Q⟩:=h2;refine⟨rfl,?_,g.bk _ _ G,hN.keeps g.bk,T.keeps g.bk,λh' e u=>vh g u Q⟩;rw[<- r.length];exact hl
end
noncomputable abbrev Cx.WN (X:Cx)(a:Ac):Cx:={X with A:=X.A.mark (some (.ref a)),calm:=false,xe:=λ_ _=>False}
section
variable {X:Cx}{pins:List (Ac×Co)}{Y:St}{H:Hp}{s:Ae}
theorem bA.WN (I:bA X pins Y H s)(a:Ac): bA (X.WN a) pins Y H s:=
 ⟨⟨I.ok.mod,I.ok.kind,I.ok.glob,I.ok.blt,I.ok.above,I.ok.inj,I.ok.has,I.ok.TX,(λz=>by cases z),I.ok.frames,I.ok.Xs,I.ok.ZY,I.ok.bs,I.ok.Lx,I.ok.zD,I.ok.NT,I.ok.jK,I.ok.Oy⟩,I.os,I.bare,I.base,I.loc,I.cell,I.free,I.iX,I.pin,I.cY,I.len⟩
theorem bA.XR (ok:X.Ok)(I:bA (X.WN a) pins Y H s): bA X pins Y H s:=⟨ok,I.os,I.bare,I.base,I.loc,I.cell,I.free,I.iX,I.pin,I.cY,I.len⟩
theorem bA.RG {j:Hp}{s':Ae}{B:Heap}{a C:Ac}{a0:Aa}{h6:Heap}(I:bA X pins Y H s)(fl:Heap.FlyingW B X.stack a (.ref C) a0 s'.heap)
  (g:∀b o,s'.heap.get? b=some o->b∉jL X.stack->((∃O,s.heap.get? b=some O)∨∃u,j b=some u)->B.get? b=some o) (un:Un (jL X.stack) [] H j s.heap s'.heap) (cY:kK X.prog X.w j s'.heap) (M:Db s'.gens) (Xy:s'.os=s.os) (í:j a=none)
  (J:Heap.FlyingW B X.stack a (.ref C) a0 h6) (sm:s'.heap.UpToSlots h6):bA X pins Y (c8 j a (.ext (ux a (.ref C)))) {s' with heap:=h6}:=by
 have r:∀b∈jL X.stack,j b=none:=λb h=>by
  obtain⟨_,o,ho,_⟩:=I.stack.mem h;exact un.free b o ho (I.mm b h) (by simp)
 have f:∀b∈jL X.stack,∀o,s'.heap.get? b=some o->∀vs,o.data≠.fields vs:=λb h o q=>by
  obtain⟨_,T,A,hd⟩:=fl.2.2.1.mem h;rw[q]at A;cases A;exact hd
 have p:∀b o,s'.heap.get? b=some o->b∉jL X.stack->((∃O,s.heap.get? b=some O)∨∃u,j b=some u)->h6.get? b=some o:=λb o q h hc=>J.1 b o (g b o q h hc)
 obtain⟨oe,ws,t,m,Ÿ,_⟩:=J.first
 have Ų:s.heap.get? a=none:=by
  cases q:s.heap.get? a with
  |none=>rfl
  |some O=>
   obtain⟨T,q'⟩:=un.there a O q (by simp);by_cases h:a∈jL X.stack
   .obtain ⟨ť,œ,ϡ,_,xV,_⟩:=fl.first
    exact absurd xV (f a h ť ϡ œ)
   .have:=g a T q' h (.inl ⟨O,q⟩);rw[fl.2.1]at this;cases this
 have G:∀b u,j b=some u->b≠a:=λb u e z=>by rw[z,í]at e;cases e
 refine I.RI (ch:=[]) Xy ⟨λb o q n h l=>?_,λb o q n h l=>?_,λb o q n l=>?_,λb o q l=>?_,λb xs e=>?_,λb o u e=>?_,λb ps e=>?_⟩ (λb u e=>?_) M (λb z=>absurd z (by simp))
 .exact p b o (un.keep b o q n h l) h (.inl ⟨o,q⟩)
 .obtain ⟨sl,Q⟩:=un.slot b o q n h l;obtain⟨L,q2⟩:=sm b _ Q (f b h _ Q);exact⟨L,q2⟩
 .rw [bM λz=>by rw[z,Ų]at q;cases q];exact un.free b o q n l
 .obtain ⟨T,Q⟩:=un.there b o q l;by_cases h:b∈jL X.stack
  .obtain ⟨L,q2⟩:=sm b _ Q (f b h _ Q);exact⟨_,q2⟩
  .exact ⟨_,p b T Q h (.inl ⟨o,q⟩)⟩
 .have:=un.mf b xs e;rw[bM (G b _ this)];exact this
 .have:=un.kE b o u e;rw[bM (G b _ this)];exact this
 .obtain ⟨more,this⟩:=un.mh b ps e;exact⟨more,by rw[bM (G b _ this)];exact this⟩
 .by_cases h:b=a
  .subst h;rw[a9]at e;cases e;refine⟨⟨oe,t,m⟩,⟨oe,t⟩,λh1 h2 zz k=>?_⟩;obtain⟨o,e1,e2⟩:=zz;exact⟨o,k o e1,e2⟩
  .rw [bM h]at e;refine (cY b u e).qh (λc v hc q=>?_) (λc q=>by rw[bM (G c _ q)];exact q) λc xs q _=>by rw[bM (G c _ q)];exact q
   have U:∃u,j c=some u:=by
    rcases hc with rfl |hc
    .exact ⟨_,e⟩
    .exact ⟨_,hc⟩
   exact p c v q (λz=>by obtain⟨u,hu⟩:=U;rw[r c z]at hu;cases hu) (.inr U)
end
section
variable {X:Cx}
end
open PySem PySem.Spec PyProof.Rows
abbrev wD:=List OV->List D->(List OV->Prop)->Prop
def Zh (c:Am)(ns:List Am)(j:Nat)(E:DE):DE:=λδ P=>E δ λd=>match d with
 | .obj C n ds=>C=c/\n=ns/\∃x,ds[j]?=some x/\P x
 |_=>False
def PR (c:Am)(ns:List Am)(i j:Nat)(O:DO):DS:=λe δ=>match δ[i]? with
 |some (some (.own (.ob o C n ts)))=>C=c/\n=ns/\j<ts.length/\O δ λr=>e.nx (δ.set i (some (.own (.ob o c ns (ts.set j r)))))
 |_=>False
def PV (c:Am)(ns:List Am)(i j:Nat)(O:DO):DS:=λe δ=>match δ[i]? with
 |some (some (.own (.ob o C n ts)))=>C=c/\n=ns/\j=ts.length/\O δ λr=>e.nx (δ.set i (some (.own (.ob o c ns (ts++[r])))))
 |_=>False
def PX (c:Am)(ns:List Am)(i j:Nat)(g:Int->Int->Int)(E:DE):DS:=λe δ=>match δ[i]? with
 |some (some (.own (.ob o C n ts)))=>C=c/\n=ns/\match ts[j]? with
  |some (.fz (.int x))=>E δ λd=>match d with
   | .int y=>e.nx (δ.set i (some (.own (.ob o c ns (ts.set j (.fz (.int (g x y))))))))
   |_=>False
  |_=>False
 |_=>False
def PY (c:Am)(ns:List Am)(i j:Nat)(O:DO):DS:=λe δ=>match δ[i]? with
 |some (some (.own (.ob o C n ts)))=>C=c/\n=ns/\match ts[j]? with
  |some (.nl us)=>us.length<1000000/\O δ λr=>e.nx (δ.set i (some (.own (.ob o c ns (ts.set j (.nl (us++[r])))))))
  |_=>False
 |_=>False
def PU (c:Am)(ns:List Am)(i j k:Nat):DS:=λe δ=>match δ[i]? with
 |some (some (.own (.ob o C n ts)))=>C=c/\n=ns/\∃us d,ts[j]?=some (.nl (us++[.fz d]))/\e.nx ((δ.set i (some (.own (.ob o c ns (ts.set j (.nl us)))))).set k (some (.own (.fz d))))
 |_=>False
def PF (c:Am)(ns:List Am)(i n:Nat)(sp:wD)(A:DA):DS:=λe δ=>match δ[i]? with
 |some (some (.own (.ob o C a ts)))=>C=c/\a=ns/\A δ λds=>ds.length+1=n/\sp ts ds λt=>e.nx (δ.set i (some (.own (.ob o c ns t))))
 |_=>False
def qI (c:Am)(ns:List Am)(i j:Nat)(sp:wD):DS:=λe δ=>match δ[i]? with
 |some (some (.own (.ob o C n ts)))=>C=c/\n=ns/\∃us d,ts[j]?=some (.nl (us++[.fz d]))/\sp (ts.set j (.nl us)) [d] λt=>e.nx (δ.set i (some (.own (.ob o c ns t))))
 |_=>False
def Rt (c:Am)(ns:List Am)(n:Nat)(sp:c_)(E:DE)(A:DA):DO:=λδ P=>E δ λd=>match d with
 | .obj C a fs=>C=c/\a=ns/\A δ λds=>ds.length+1=n/\sp (.obj c ns fs::ds) λr=>r.lf=true/\P r
 |_=>False
def Ru (c:Am)(ns:List Am)(n:Nat)(sp:wD)(A:DA):DO:=λδ P=>A δ λds=>ds.length+1=n/\sp [] ds λts=>P (.ob none c ns ts)
noncomputable def gA (N:List Am)(c:Am)(ns:List Am)(a:Ac)(ts:List OV)(ds:List D):c7:=some (.own (.ob (some a) c ns ts))::(ds.map (λd=>some (.own (.fz d)))++Aw (N.length-(ds.length+1)) none)
section
theorem lZ:∀{ns:List Am} {vs:List V} {j:Nat},ns.Nodup->ns[j]?=some f->(ns.zip vs).lookup f=vs[j]?
 | [],_,_,_,h=>by simp at h
 |g::ns,[],j,_,_=>rfl
 |g::ns,v::vs,0,a,h=>by
  simp at h
  subst h;simp
 |g :: ns,v::vs,j+1,a,h=>by
  have h':ns[j]?=some f:=h;obtain⟨e,c⟩:=AD.mp a;have n:(f==g)=false:=by
   rw[beq_eq_false_iff_ne];intro z;exact e (by rw[<- z];exact An h')
  simp only[EZ,Cv,n];exact lZ c h'
theorem ed:∀{ns:List Am} {vs:List V},f∉ns->(ns.zip vs).lookup f=none
 | [],_,_=>rfl
 |g::ns,[],_=>rfl
 |g :: ns,v::vs,h=>by
  have n:(f==g)=false:=by
   rw[beq_eq_false_iff_ne];intro z;exact h (by rw[z];exact AF)
  simp only[EZ,Cv,n];exact ed λz=>h (Aj _ z)
theorem qP:∀{ns:List Am} {vs:List V} {j:Nat},ns.Nodup->ns[j]?=some f->j<vs.length->hH f u (ns.zip vs)=ns.zip (vs.set j u)
 | [],_,_,_,h,_=>by simp at h
 |g::ns,[],j,_,_,h=>by simp at h
 |g::ns,v::vs,0,a,h,_=>by
  simp at h
  subst h;simp[hH]
 |g::ns,v::vs,j+1,a,h,hl=>by
  have h':ns[j]?=some f:=h;obtain⟨e,c⟩:=AD.mp a;have n:¬ g=f:=λz=>e (by rw[z];exact An h')
  simp only[EZ,hH,if_neg n,CO];rw[qP c h' (by simpa using hl)]
theorem xm:∀{ns:List Am} {vs:List V},ns.Nodup->ns[vs.length]?=some f->hH f u (ns.zip vs)=ns.zip (vs++[u])
 | [],_,_,h=>by simp at h
 |g::ns,[],a,h=>by
  simp at h
  subst h;simp[hH]
 |g::ns,v::vs,a,h=>by
  have h':ns[vs.length]?=some f:=h;obtain⟨e,c⟩:=AD.mp a;have n:¬ g=f:=λz=>e (by rw[z];exact An h')
  simp only[EZ,hH,if_neg n,C7];rw[xm c h']
theorem QP {g f A B:List Ac}(h:(g++(f++A)).Nodup)(h1:B.Nodup)(h2:∀b∈B,b∈f∨b∉g++(f++A)):(g++(B++A)).Nodup:=by
 obtain⟨j,M,m⟩:=AQ.mp h;obtain⟨k,Q,q⟩:=AQ.mp M;refine AQ.mpr ⟨j,AQ.mpr ⟨h1,Q,λx c y e z=>?_⟩,λx c y e z=>?_⟩
 .rcases h2 x c with a |a
  .exact q x a y e z
  .exact a (by rw[z];simp[e])
 .rcases Au.mp e with a |a
  .rcases h2 y a with w |w
   .exact m x c y (by simp[w]) z
   .exact w (by rw[<- z];simp[c])
  .exact m x c y (by simp[a]) z
end
structure du (K:Ar) (c:Am) (ns:List Am):Prop where
 ex:∃C,Cq K Ai c=some (some (.ref C))/\yF K C/\(∀f∈ns,jy K C f)
 nd:ns.Nodup
 Ă:ns.length<1000
structure fq (K:Ar) (c m q:Am) (st:AW) (f:Ac) (fd:Ag):Prop where
 fn:N7 K m q st f fd
 cl:∃C,Cq K Ai c=some (some (.ref C))/\yF K C/\N6 K C m f
structure c6 (P:AE) (w:AU) (K:Ar) (mg:Am->Option Aa) (base:Heap) (c m:Am) (k:Nat) (ps:List Am) (sp:Sp):Prop where
 ex:∃C f fd,Cq K Ai c=some (some (.ref C))/\yF K C/\N6 K C m f/\fE P w K mg base l' k f fd ps sp/\gf K fd ps []
structure MX (K:Ar) (mg:Am->Option Aa) (c:Am) (f:Ac):Prop where
 cl:∃C,Cq K Ai c=some (some (.ref C))/\Mk K C f/\mg c=some (.ref C)
structure sk (P:AE) (w:AU) (K:Ar) (mg:Am->Option Aa) (base:Heap) (c:Am) (k:Nat) (ps:List Am) (sp:Sp):Prop where
 ex:∃C f fd,Cq K Ai c=some (some (.ref C))/\Mk K C f/\mg c=some (.ref C)/\fE P w K mg base l' k f fd ps sp/\gf K fd ps []
def iq (K:Ar)(c m:Am)(sp:Sp)(a:TE)(t:TA):TE:=λY H Q=>∃C,Cq K Ai c=some (some (.ref C))/\OW C m sp [] E0 a t Y H Q
def yM (K:Ar)(c:Am)(sp:Sp)(t:TA):TE:=λY H Q=>∃C,Cq K Ai c=some (some (.ref C))/\Uq C sp [] E0 t Y H Q
section
variable {X:Cx}{c m:Am}{k:Nat}{ps:List Am}{sp:Sp}{o e:Expr}{es:List Expr}{ta:TE}{t:TA}{p pos apos:DR}
theorem fi (C:c6 X.prog X.w X.K X.mg X.base c m k ps sp)(r:cJ k X.A)(g:PE X o ta)(j:PA X (e::es) t)
  (T:Av (e::es) X.env=(false,eval e X.env)::Av es X.env:=by rfl) (l:(BY pos (Av es X.env)).any (·.1)=false:=by rfl)
  (ht:eval (.Call (.Attribute o m apos) (e::es) [] pos) X.env=(do
   let v <- eval o X.env
   FK apos.atName
   let (f,first) <- EA [v] (E6 v m pl)
   Hc pos f first (BY pos (Av (e::es) X.env)) (Gm pos (ES [] X.env))):=by rfl):
  PE X (.Call (.Attribute o m apos) (e::es) [] pos) (iq X.K c m sp ta t):=by
 rintro pins s Y H Q I ⟨q,a,h⟩;obtain⟨C,f,fd,n,L,M,F,B⟩:=C.ex;rw[n]at a;cases a;exact SX g L M F r B .nil xv j T l ht pins s Y H Q I h
theorem di (C:c6 X.prog X.w X.K X.mg X.base c m k ps sp)(r:cJ k X.A)(g:PE X o ta)
  (ht:eval (.Call (.Attribute o m apos) [] [] pos) X.env=(do
   let v <- eval o X.env
   FK apos.atName
   let (f,first) <- EA [v] (E6 v m pl)
   Hc pos f first (BY pos (Av [] X.env)) (Gm pos (ES [] X.env))):=by rfl):
  PE X (.Call (.Attribute o m apos) [] [] pos) (iq X.K c m sp ta mj):=by
 rintro pins s Y H Q I ⟨n,a,h⟩;obtain⟨C,f,fd,j,l,M,F,B⟩:=C.ex;rw[j]at a;cases a;exact Qr g l M F r B .nil xv (ht:=ht) pins s Y H Q I h
theorem pM (C:sk X.prog X.w X.K X.mg X.base c k ps sp)(r:cJ (k+1) X.A)(hg:Gl X c)(q:PA X (e::es) t)
  (B:(c==("__debug__":Am))=false:=by decide) (j:Av (e::es) X.env=(false,eval e X.env)::Av es X.env:=by rfl) (l:(BY pos (Av es X.env)).any (·.1)=false:=by rfl):
  PE X (.Call (.Name c p) (e::es) [] pos) (yM X.K c sp t):=by
 rintro pins s Y H Q I ⟨v,a,h⟩;obtain⟨C,f,fd,u,M,g,F,n⟩:=C.ex;rw[u]at a;cases a;exact SY M F r hg g n .nil xv q B j l pins s Y H Q I h
end
section
variable {K:Ar}{c f m:Am}{ns:List Am}{i j:Nat}{ta te:TE}{E:DE}{Eo:DO}
theorem dr (l:du K c ns)(hf:ns[j]?=some f)(h:dM K ta E): dM K (yN K ta f) (Zh c ns j E):=λM G F H Y δ P Q e w q=>h M G F H Y δ _ _ e w λd v J B g n o=>by
 split at g
 .obtain ⟨rfl,rfl,x,p,g⟩:=g;obtain⟨a,C,z,vs,rfl,t,h1,hl,h2⟩:=o;obtain⟨O,k,L,A⟩:=l.ex;rw[t]at k;cases k;obtain⟨u,U,r⟩:=h2.get p;exact⟨a,C,z,_,u,rfl,h1,L,A f (An hf),by rw[lZ l.nd hf];exact U,q _ _ J B g n r⟩
 .exact g.elim
theorem ER.obj {A:Nat->List Ac}(e:ER K F0 u F H Y δ A)(Q:Y[i]?=some (some (.ref a)))(q:A i=a::g::B)
  (h0:Cq K Ai c=some (some (.ref C))) (T:∀J,o=some J->a=J) (h1:r a=some (.ins C g (ns.zip v))) (h2:r g=some (.own a)) (hl:t.length<=ns.length) (h3:bg K F r t v k) (L:k.Nodup)
  (G:∀b∈k,b∈B∨(F b=none/\u b=none/\∀j,b∉A j)) (keep:∀b o,b∉A i->H b=some o->r b=some o): cp K F0 u F r Y (δ.set i (some (.own (.ob o c ns t)))):=by
 have p:=e.i5 i;rw[q]at p;obtain⟨w,O⟩:=AD.mp p;obtain⟨M,n4⟩:=AD.mp O;have l:∀b,b∈a::g::k->b∈A i∨(F b=none/\u b=none/\∀j,b∉A j):=λb h=>by
  rw[q];rcases AB.mp h with z |z
  .exact .inl (by simp[z])
  .rcases AB.mp z with z |z
   .exact .inl (by simp[z])
   .rcases G b z with y |y
    .exact .inl (by simp[y])
    .exact .inr y
 have n:∀b,b∈A i->b∉B->b∉k:=λb h hn z=>by
  rcases G b z with y |y
  .exact hn y
  .exact y.2.2 i h
 refine e.change i Q (t':=.ob o c ns t) (B:=a::g::k) ⟨a,C,g,v,k,rfl,rfl,h0,T,h1,h2,hl,h3⟩ ?_ ?_ ?_ keep
 .refine AD.mpr ⟨λz=>?_,AD.mpr ⟨λz=>?_,L⟩⟩
  .rcases AB.mp z with z |z
   .exact w (by simp[z])
   .exact n a (by simp[q]) (λy=>w (by simp[y])) z
  .exact n g (by simp[q]) M z
 .intro b h;rcases l b h with z |z
  .exact ⟨(e.new i b z).1,(e.new i b z).2.1⟩
  .exact ⟨z.1,z.2.1⟩
 .intro j U b h z;rcases l b h with y |y
  .exact e.iY j i b U z y
  .exact y.2.2 j z
theorem va (CV:du K c ns)(hf:ns[j]?=some f)(h:eF K te Eo):bR K (VN K (eT i) te f) (PR c ns i j Eo):=λF0 H0 F H Y δ De En e l w=>by
 obtain⟨A,e⟩:=e;unfold PR at w;split at w
 .rename_i o c' O ts hs;obtain⟨rfl,rfl,hj,w⟩:=w;obtain⟨v,hv,a,C,dx,vs,B,rfl,M,h0,ho,h1,h2,hl,h3⟩:=e.own i _ hs;obtain⟨C',L,cl,na⟩:=CV.ex;rw[h0]at L;cases L;refine h F0 H0 F H Y δ _ _ ⟨A,e⟩ w λr u F1 H1 p t n=>?_
  obtain⟨C0,c1,c2,U⟩:=n;have e1:=e.on t;have hlen:=h3.length;refine⟨_,hv,a,C,dx,_,rfl,t.hh _ _ h1,cl,na f (An hf),?_,?_⟩
  .have:=CV.Ă;rw[Gc];lia
  rw[qP CV.nd hf (by lia)];have Q:bg K F1 H1 ts vs B:=h3.frame t.ff λb _ xs z=>t.hh _ _ z
  obtain⟨v0,A1,B0,A2,f1,rfl,f3,f4⟩:=Q.focus (Ah hj);have G:=e.i5 i;rw[M]at G;obtain⟨n1,n2⟩:=AD.mp G;obtain⟨n3,n4⟩:=AD.mp n2;have k:∀j b,b∈C0->b∉A j:=λj b g z=>by
   obtain⟨_,_,xs,q,_⟩:=e.new j b z;rw[(U b g).1]at q;cases q
  have J:=k i;have off:∀b,b∈A1++(B0++A2)->b≠a:=λb g z=>n1 (by rw[<- z];exact Aj _ g)
  have sub:∀b,b∈A1++A2->b∈A1++(B0++A2):=λb g=>by
   rcases Au.mp g with z |z<;>simp[z]
  have T:=f4 F1 (c8 H1 a (.ins C dx (O.zip (vs.set j u)))) r u C0 (a6.refl _) (λb g xs z=>a8 (off b (sub b g)) z) (c1.frame (a6.refl _) λb g xs z=>a8 (λy=>J b g (by rw[M,y];simp)) z);refine l.nx F1 _ Y _ (e1.obj hv M h0 ho a9 (a8 (λz=>n1 (by rw[<- z];simp)) (t.hh _ _ h2)) (by rw[BD];exact hl) T (QP n4 c2 λb g=>.inr λz=>J b g (by rw[M];simp only[AB];exact .inr (.inr z))) (λb g=>?_) λb o' g z=>a8 (λy=>g (by rw[M,y];simp)) z) p;rcases Au.mp g with z |z
  .exact .inl (by simp[z])
  .rcases Au.mp z with z |z
   .exact .inr ⟨(U b z).2,e.ext.hh.free (U b z).1,λj=>k j b z⟩
   .exact .inl (by simp[z])
 .exact w.elim
theorem ib (CV:du K c ns)(hf:ns[j]?=some f)(h:eF K te Eo): bR K (VN K (eT i) te f) (PV c ns i j Eo):=λF0 H0 F H Y δ De En e l w=>by
 obtain⟨A,e⟩:=e;unfold PV at w;split at w
 .rename_i o c' T ts hs;obtain⟨rfl,rfl,hj,w⟩:=w;obtain⟨v,hv,a,C,dx,vs,B,rfl,Q,h0,ho,h1,h2,hl,h3⟩:=e.own i _ hs;obtain⟨C',O,cl,na⟩:=CV.ex;rw[h0]at O;cases O;refine h F0 H0 F H Y δ _ _ ⟨A,e⟩ w λr u F1 H1 p G n=>?_
  obtain⟨C0,c1,c2,c3⟩:=n;have e1:=e.on G;have L:=h3.length;refine⟨_,hv,a,C,dx,_,rfl,G.hh _ _ h1,cl,na f (An hf),?_,?_⟩
  .have:=CV.Ă;rw[Gc];lia
  have t:=hf;rw[hj,L]at t;rw[xm CV.nd t];have U:bg K F1 H1 ts vs B:=h3.frame G.ff λb _ xs z=>G.hh _ _ z
  have J:=e.i5 i;rw[Q]at J;obtain⟨n1,n2⟩:=AD.mp J;obtain⟨n3,n4⟩:=AD.mp n2;have k:∀j b,b∈C0->b∉A j:=λj b g z=>by
   obtain⟨_,_,xs,q,_⟩:=e.new j b z;rw[(c3 b g).1]at q;cases q
  have M:=k i;have off:∀b,b∈B->b≠a:=λb g z=>n1 (by rw[<- z];exact Aj _ g)
  have yD:=(Ab.mp t).1;have WU:bg K F1 (c8 H1 a (.ins C dx (T.zip (vs++[u])))) (ts++[r]) (vs++[u]) (B++C0):=bg.append (U.frame (a6.refl _) λb g xs z=>a8 (off b g) z) (bg.one (c1.frame (a6.refl _) λb g xs z=>a8 (λy=>M b g (by rw[Q,y];simp)) z));refine l.nx F1 _ Y _ (e1.obj hv Q h0 ho a9 (a8 (λz=>n1 (by rw[<- z];simp)) (G.hh _ _ h2)) (by rw[AG,BI];lia) WU (AQ.mpr ⟨n4,c2,λx hx y hy z=>M y hy (by rw[Q,<- z];simp[hx])⟩) (λb g=>?_) λb o' g z=>a8 (λy=>g (by rw[Q,y];simp)) z) p;rcases Au.mp g with z |z
  .exact .inl z
  .exact .inr ⟨(c3 b z).2,e.ext.hh.free (c3 b z).1,λj=>k j b z⟩
 .exact w.elim
theorem L4 {g:Int->Int->Int}{rd:V->V->Hp->VK->Prop}(J:du K c ns)(hf:ns[j]?=some f)(L:∀x y H Q,Q (.int (g x y)) H->rd (.int x) (.int y) H Q)(h:dM K te E): bR K (L8 K (eT i) te rd f) (PX c ns i j g E):=λF0 H0 F H Y δ De En e l w=>by
 obtain⟨A,e⟩:=e;unfold PX at w;split at w
 .rename_i o c' n ts hs;obtain⟨rfl,rfl,w⟩:=w;obtain⟨x,hx,w⟩:∃x,ts[j]?=some (.fz (.int x))/\E δ λd=>match d with
   | .int y=>De.nx (δ.set i (some (.own (.ob o c' n (ts.set j (.fz (.int (g x y))))))))
   |_=>False:=by
   split at w
   .exact ⟨_,by assumption,w⟩
   .exact w.elim
  obtain⟨v,hv,a,C,U,vs,B,rfl,T,h0,ho,h1,h2,hl,h3⟩:=e.own i _ hs;obtain⟨C',G,cl,na⟩:=J.ex;rw[h0]at G;cases G;obtain⟨v0,A1,B0,A2,f1,eB,⟨f3,O⟩,f4⟩:=h3.focus hx;subst f3
  cases (show v0=V.int x from O)
  refine⟨_,hv,a,C,U,_,_,rfl,h1,cl,na f (An hf),(by rw[lZ J.nd hf];exact f1),?_⟩;refine h F0 H0 F H Y δ _ _ ⟨A,e⟩ w λd u F1 H1 p k ru=>?_
  split at p
  .rename_i y
   cases (show u=V.int y from ru)
   have e1:=e.on k;refine L _ _ _ _ ⟨U,_,k.hh _ _ h1,?_,?_⟩
   .have:=J.Ă;rw[Gc];lia
   rw[qP J.nd hf (Ab.mp f1).1];have r:=e.i5 i;rw[T]at r;obtain⟨n1,n2⟩:=AD.mp r;obtain⟨n3,n4⟩:=AD.mp n2;subst eB;have M:=f4 F1 (c8 H1 a (.ins C U (n.zip (vs.set j (.int (g x y)))))) (.fz (.int (g x y))) (.int (g x y)) [] k.ff (λb t xs z=>a8 (λq=>n1 (by rw[<- q];exact Aj _ t)) (k.hh _ _ z)) ⟨rfl,rfl⟩;exact l.nx F1 _ Y _ (e1.obj hv T h0 ho a9 (a8 (λz=>n1 (by rw[<- z];simp)) (k.hh _ _ h2)) (by rw[BD];exact hl) M n4 (λb t=>.inl t) λb o' t z=>a8 (λy=>t (by rw[T,y];simp)) z) p
  .exact p.elim
 .exact w.elim
theorem kP (CV:du K c ns)(hf:ns[j]?=some f)(h:eF K te Eo):bR K (jQ (Us K "list" pK (yN K (eT i) f) (iN te mj))) (PY c ns i j Eo):=λF0 H0 F H Y δ De En e l w=>by
 obtain⟨A,e⟩:=e;unfold PY at w;split at w
 .rename_i o c' Yl ts hs;obtain⟨rfl,rfl,w⟩:=w;obtain⟨us,hx,NK,w⟩:∃us,ts[j]?=some (.nl us)/\us.length<1000000/\Eo δ λr=>De.nx (δ.set i (some (.own (.ob o c' Yl (ts.set j (.nl (us++[r]))))))):=by
   split at w
   .exact ⟨_,by assumption,w⟩
   .exact w.elim
  obtain⟨v,hv,a,C,dx,vs,B,rfl,T,h0,ho,h1,h2,hl,h3⟩:=e.own i _ hs;obtain⟨C',O,cl,na⟩:=CV.ex;rw[h0]at O;cases O;obtain⟨v0,A1,B0,A2,f1,rfl,f3,f4⟩:=h3.focus hx;obtain⟨t,U,B1,rfl,rfl,hc,L⟩:=f3;refine⟨_,hv,a,C,dx,_,.ref t,rfl,h1,cl,na f (An hf),(by rw[lZ CV.nd hf];exact f1),.inl ⟨rfl,_,eR.of hc⟩,?_⟩;refine h F0 H0 F H Y δ _ _ ⟨A,e⟩ w λr u F1 H1 p G n=>?_
  obtain⟨C0,c1,c2,c3⟩:=n;have e1:=e.on G;have Ŭ:=L.length;refine⟨t,U,u,rfl,rfl,G.hh _ _ hc,wJ (by lia),?_⟩;have M:=e.i5 i;rw[T]at M;obtain⟨n1,n2⟩:=AD.mp M;obtain⟨n3,n4⟩:=AD.mp n2;have g:∀j b,b∈C0->b∉A j:=λj b k z=>by
   obtain⟨_,_,xs,q,_⟩:=e.new j b z;rw[(c3 b k).1]at q;cases q
  have J:t∈A i:=by rw[T];simp
  obtain⟨m1,m2,m3⟩:=AQ.mp n4;obtain⟨q1,q2,q3⟩:=AQ.mp m2;obtain⟨s1,s2⟩:=AD.mp q1;have off:∀b∈A1++A2,b≠t:=λb k z=>by
   subst z;rcases Au.mp k with y |y
   .exact m3 b y b (by simp) rfl
   .exact q3 b (by simp) b y rfl
  have Ϩ:a≠t:=λz=>n1 (by rw[z];simp)
  have ó:dx≠t:=λz=>n3 (by rw[z];simp)
  have Q:=f4 F1 (c8 H1 t (.lst (U++[u]))) (.nl (us++[r])) (.ref t) (t::(B1++C0)) G.ff (λb k xs z=>a8 (off b k) (G.hh _ _ z))
   ⟨t,U++[u],B1++C0,rfl,rfl,a9,bg.append (L.frame G.ff λb k xs z=>a8 (λy=>s1 (by rw[<- y];exact k)) (G.hh _ _ z)) (bg.one (c1.frame (a6.refl _) λb k xs z=>a8 (λy=>g i b k (by rw[y];exact J)) z))⟩
  rw[eM f1]at Q;refine l.nx F1 _ Y _ (e1.obj hv T h0 ho (a8 Ϩ (G.hh _ _ h1)) (a8 ó (G.hh _ _ h2)) (by rw[BD];exact hl) Q (QP n4 ?_ λb k=>?_) (λb k=>?_) λb o' k z=>a8 (λy=>k (by rw[y];exact J)) z) p
  .refine AD.mpr ⟨λz=>?_,AQ.mpr ⟨s2,c2,λx hx y hy z=>g i y hy (by rw[T,<- z];simp[hx])⟩⟩;rcases Au.mp z with y |y
   .exact s1 y
   .exact g i t y J
  .rcases AB.mp k with y |y
   .exact .inl (by simp[y])
   .rcases Au.mp y with y |y
    .exact .inl (by simp[y])
    .exact .inr λz=>g i b y (by rw[T];simp only[AB];exact .inr (.inr z))
  .simp only[Au,AB]at k;rcases k with z | (z |z |z) |z
   .exact .inl (by simp[z])
   .exact .inl (by simp[z])
   .exact .inl (by simp[z])
   .exact .inr ⟨(c3 b z).2,e.ext.hh.free (c3 b z).1,λj=>g j b z⟩
   .exact .inl (by simp[z])
 .exact w.elim
theorem ER.YT {A:Nat->List Ac}(e:ER K F0 H0 F H Y δ A)(CV:du K c ns)(hf:ns[j]?=some f)(hs:δ[i]?=some (some (.own (.ob o c ns ts))))(hx:ts[j]?=some (.nl (us++[.fz d]))):
  ∃a g k y C G fs,Y[i]?=some (some (.ref a))/\H a=some (.ins C G fs)/\Cq K Ai c=some (some (.ref C))/\yF K C/\jy K C f/\fs.lookup f=some (.ref g)/\H g=some (.lst k)/\k[k.length-1]?=some y/\dP K F d y/\(c8 H g (.lst k.dropLast)) a=some (.ins C G fs)/\
   cp K F0 H0 F (c8 H g (.lst k.dropLast)) Y (δ.set i (some (.own (.ob o c ns (ts.set j (.nl us)))))):=by
 obtain⟨v,hv,a,C,G,vs,B,rfl,J,h0,ho,h1,h2,hl,h3⟩:=e.own i _ hs;obtain⟨C',q,cl,na⟩:=CV.ex;rw[h0]at q;cases q;obtain⟨v0,A1,B0,A2,f1,rfl,f3,f4⟩:=h3.focus hx;obtain⟨g,k,M,rfl,rfl,hc,l⟩:=f3;obtain⟨w,y,rfl,L,Q,O,eB⟩:∃w y,k=w++[y]/\∃L,bg K F H us w L/\dP K F d y/\M=L:=by
  clear f4 h3 hx J hc f1
  induction us generalizing k M with
  |nil=>
   obtain⟨v,r,B,C,rfl,rfl,g1,g2,g3⟩:=l;subst g2 g3;exact⟨[],v,rfl,[],⟨rfl,rfl⟩,g1.2,by rw[g1.1];rfl⟩
  |cons t us ih=>
   obtain⟨v,r,B,C,rfl,rfl,g1,g2⟩:=l;obtain⟨w,y,rfl,L,k1,k2,rfl⟩:=ih _ _ g2;exact⟨v::w,y,rfl,B++C,⟨v,w,B,C,rfl,rfl,g1,k1⟩,k2,rfl⟩
 subst eB;have n:=e.i5 i;rw[J]at n;obtain⟨n1,n2⟩:=AD.mp n;obtain⟨n3,n4⟩:=AD.mp n2;have U:g∈A i:=by rw[J];simp
 obtain⟨m1,m2,m3⟩:=AQ.mp n4;obtain⟨q1,q2,q3⟩:=AQ.mp m2;obtain⟨s1,s2⟩:=AD.mp q1;have off:∀b∈A1++A2,b≠g:=λb h z=>by
  subst z;rcases Au.mp h with y |y
  .exact m3 b y b (by simp) rfl
  .exact q3 b (by simp) b y rfl
 have p:a≠g:=λz=>n1 (by rw[z];simp)
 have T:G≠g:=λz=>n3 (by rw[z];simp)
 have edl:(w++[y]).dropLast=w:=by simp
 have u:=f4 F (c8 H g (.lst (w++[y]).dropLast)) (.nl us) (.ref g) (g::M) (a6.refl _) (λb h xs z=>a8 (off b h) z) ⟨g,(w++[y]).dropLast,M,rfl,rfl,a9,by
  rw[edl];exact Q.frame (a6.refl _) λb h xs z=>a8 (λy=>s1 (by rw[<- y];exact h)) z⟩
 rw[eM f1]at u;refine⟨a,g,w++[y],y,C,G,_,hv,h1,h0,cl,na f (An hf),(by rw[lZ CV.nd hf];exact f1),hc,by simp,O,a8 p h1,?_⟩;exact e.obj hv J h0 ho (a8 p h1) (a8 T h2) (by rw[BD];exact hl) u n4 (λb h=>.inl h) λb o' h z=>a8 (λy=>h (by rw[y];exact U)) z
theorem Sy (z:du K c ns)(hf:ns[j]?=some f): bR K (sv (Sh K "list" VU (yN K (eT i) f)) (m7 k)) (PU c ns i j k):=λO M F H Y δ T Q e l w=>by
 obtain⟨A,e⟩:=e;unfold PU at w;split at w
 .rename_i o J n ts t;obtain⟨rfl,rfl,us,d,q,w⟩:=w;obtain⟨a,B,g,y,C,u,fs,v,h1,G,L,h,hl,hc,p,r,_,e'⟩:=e.YT z hf t q;refine⟨_,v,a,C,u,fs,.ref B,rfl,h1,L,h,hl,.inl ⟨rfl,_,eR.of hc⟩,B,g,y,rfl,rfl,hc,p,?_⟩;exact l.nx F _ _ _ (e'.put (cP.refl e'.ext.fh) k (.fz r)) w
 .exact w.elim
def Sm (K:Ar)(n:Nat)(c:Am)(ns:List Am)(SP:Hp->wD):Sp:=Xu n λvs H Q=>∃F a C g ts v B dg ds P,vs=V.ref a::dg/\Cq K Ai c=some (some (.ref C))/\a6 F H/\H a=some (.ins C g (ns.zip v))/\H g=some (.own a)/\ts.length<=ns.length/\bg K F H ts v B/\
 (a::g::B).Nodup/\(∀b∈a::g::B,F b=none)/\bE K F ds dg/\SP F ts ds P/\
 ∀t l h e k p,P t->a6 F l->a6 l h->(∀b o,b∉a::g::B->H b=some o->h b=some o)->(∀b o,F b=none->H b=some o->R5 o=false->b∉a::g::B->l b=none)->h a=some (.ins C e (ns.zip k))->h e=some (.own a)->t.length<=ns.length->bg K l h t k p->
  (a::e::p).Nodup->(∀b∈a::e::p,l b=none/\(b∈a::g::B∨H b=none))->Q .cn h
abbrev nC (K:Ar)(n:Nat)(c:Am)(ns:List Am)(sp:wD):Sp:=Sm K n c ns λ_=>sp
theorem O5 (e:cp K F0 H0 F H Y δ)(hs:δ[i]?=some (some (.own (.ob o c ns ts))))(YC:Y[i]?=some (some (.ref p)))(l:Lk K F0 H0 De En)(hn:ds.length+1=n)
  (r:bE K F ds us) {SP:Hp->wD} (YE:SP F ts ds λU=>De.nx (δ.set i (some (.own (.ob o c ns U))))): Sm K n c ns SP (.ref p::us) H (λ_ H2=>En.nx Y H2) E0:=by
 obtain⟨A,e⟩:=e;obtain⟨v,hv,a,C,dx,vs,B,rfl,w,h0,ho,h1,h2,hl,L⟩:=e.own i _ hs;rw[YC]at hv;cases hv;have Ow:=e.i5 i;rw[w]at Ow;have yD:i<δ.length:=(Ab.mp hs).1;refine⟨by rw[Bg,<- r.length];exact hn,F,p,C,dx,ts,vs,B,us,ds,_,rfl,h0,e.ext.fh,h1,h2,hl,L,Ow,λb g=>(e.new i b (by rw[w];exact g)).1,r,YE,?_⟩;intro U F' H' Q Vr B' pt sF sH keep O WJ xV WK R6 Wg G;refine l.nx F' H' Y _ ⟨λj=>if j=i then p::Q::B' else A j,?_⟩ pt;refine⟨by simp[e.len],⟨e.ext.ff.trans sF,λb o h=>?_,sH,λb o h1 h2 L=>?_⟩,λj t J=>?_,λj d J=>?_,λj=>?_,λj k b XA h1 h2=>?_,λj b g=>?_⟩
 .exact keep b o (λz=>by rw[(e.new i b (by rw[w];exact z)).2.1]at h;cases h) (e.ext.hh _ _ h)
 .exact O b o (e.ext.no b o h1 h2 L) (e.ext.hh _ _ h2) L (λz=>by rw[(e.new i b (by rw[w];exact z)).2.1]at h2;cases h2)
 .by_cases z:j=i
  .subst z;rw[if_pos rfl];rw[Az yD]at J;cases J;exact⟨_,YC,p,C,Q,Vr,B',rfl,rfl,h0,ho,WJ,xV,WK,R6⟩
  .rw [if_neg z];rw[AL (Bm z)]at J;obtain⟨u,h1,h2⟩:=e.own j t J;exact⟨u,h1,h2.frame sF λb g xs q=>keep b _ (λy=>e.iY j i b z g (by rw[w];exact y)) q⟩
 .by_cases z:j=i
  .subst z;rw[Az yD]at J;cases J
  .rw [AL (Bm z)]at J;exact e.bw j d J
 .split
  .exact Wg
  .exact e.i5 j
 .have key:∀k,k≠i->b∈p::Q::B'->b∈A k->False:=λk hk z1 T=>by
   rcases (G b z1).2 with y |y
   .exact e.iY k i b hk T (by rw[w];exact y)
   .obtain ⟨_,_,xs,q,_⟩:=e.new k b T;rw[y]at q;cases q
  split at h1
  .split at h2
   .lia
   .rename_i z1 T;exact key k T h1 h2
  .split at h2
   .rename_i z1 T;exact key j z1 h2 h1
   .exact e.iY j k b XA h1 h2
 .split at g
  .have hh:H0 b=none:=by
    rcases (G b g).2 with y |y
    .exact (e.new i b (by rw[w];exact y)).2.1
    .exact e.ext.hh.free y
   refine⟨(G b g).1,hh,?_⟩;rcases AB.mp g with y |y
   .rw [y];exact⟨_,WJ,rfl⟩
   .rcases AB.mp y with y |y
    .rw [y];exact⟨_,xV,rfl⟩
    .exact R6.sq b y
  .rename_i z;obtain⟨h1,h2,xs,L,M⟩:=e.new j b g;have YG:b∉p::dx::B:=λy=>e.iY j i b z g (by rw[w];exact y)
   exact⟨O b _ h1 L M YG,h2,xs,keep b _ YG L,M⟩
theorem gp (CV:du K c ns)(M:m∉ns)(u:dN K a O): bR K (jQ (iq K c m (nC K n c ns sp) (eT i) a)) (PF c ns i n sp O):=λL J F H Y δ De En e l w=>by
 unfold PF at w;split at w
 .rename_i o c' t ts k;obtain⟨rfl,rfl,w⟩:=w;obtain⟨A,e⟩:=e;obtain⟨v,h,p,C,G,vs,B,rfl,U,z,Q,h1,h2,hl,T⟩:=e.own i _ k;refine⟨C,z,_,h,p,G,_,rfl,h1,ed M,?_⟩;refine u L J F H Y δ _ _ ⟨A,e⟩ w λds us F1 H1 g q r=>?_
  rw[Bi];exact O5 (SP:=λ_=>sp) ⟨A,e.on q⟩ k h l g.1 r g.2
 .exact w.elim
theorem zf (CV:du K c ns)(hf:ns[j]?=some f)(Q:m∉ns): bR K (jQ (iq K c m (nC K 2 c ns sp) (eT i) (iN (Sh K "list" VU (yN K (eT i) f)) mj))) (qI c ns i j sp):=λF0 H0 F H Y δ De En e l w=>by
 unfold qI at w;split at w
 .rename_i o c' n ts g;obtain⟨rfl,rfl,us,d,O,w⟩:=w;obtain⟨A,e⟩:=e;obtain⟨v,h,p,C',r,vs,B,rfl,eA,q,ho,k,U,T,h3⟩:=e.own i _ g;obtain⟨a,z,G,y,C,dx,fs,u,h1,h0,cl,L,hl,hc,M,J,h1b,e'⟩:=e.YT CV hf g O;rw[h]at u;cases u;refine⟨C',q,_,h,p,r,_,rfl,k,ed Q,?_⟩;refine⟨_,h,p,C,dx,fs,.ref z,rfl,h1,cl,L,hl,.inl ⟨rfl,_,eR.of hc⟩,z,G,y,rfl,rfl,hc,M,?_⟩;have t:i<δ.length:=(Ab.mp g).1;exact O5 (SP:=λ_=>sp) (δ:=δ.set i (some (.own (.ob o c' n (ts.set j (.nl us)))))) e' (Az t) h l (ds:=[d]) rfl (show bE K F [d] [y] from⟨y,[],rfl,J,rfl⟩) (by simpa only[List.set_set] using w)
 .exact w.elim
theorem dH (CV:du K c ns)(hm:m∉ns)(h:dM K te E)(ha:kH K a As): eF K (iq K c m (bL K n sp) te a) (Rt c ns n sp E As):=λF0 H0 F H Y δ P Q e w q=>by
 have key:(∃C,Cq K Ai c=some (some (.ref C)))->iq K c m (bL K n sp) te a Y H Q:=λ⟨C,U⟩=>by
  refine⟨C,U,?_⟩;refine h F0 H0 F H Y δ _ _ e w λd v F1 H1 k G O=>?_
  split at k
  .rename_i c' B fs;obtain⟨rfl,rfl,k⟩:=k;have z:=O;obtain⟨p,C',dx,vs,rfl,h0,h1,hl,h2⟩:=O;rw[U]at h0;cases h0;refine⟨p,dx,_,rfl,h1,ed hm,?_⟩;refine ha F0 H0 F1 H1 Y δ _ _ (e.on G) k λds us F2 H2 J u M=>?_
   rw[Bi];have g:=G.trans u;refine⟨by rw[Bg,<- M.length];exact J.1,H2,.obj c' B fs::ds,_,a6.refl _,⟨.ref p,us,rfl,z.mono u.hh,M⟩,J.2,λr v F' H' p t r'=>?_⟩;have L:a6 F2 F':=u.fh.trans t.ff;have l:=fR L;obtain⟨A,a1,a2,a3⟩:=r';refine q r v (l4 F2 F') H' p.2 (g.trans ⟨l.ff,t.hh,l.fh.trans t.fh,λb o z1 z2 z3=>?_⟩) ⟨A,a1.lf L p.1,a2,λb T=>⟨g.hh.free (a3 b T).1,l.fh.free (a3 b T).2⟩⟩;exact l.no b o z1 (t.ff _ _ z2) z3
  .exact k.elim
 exact key ⟨_,CV.ex.choose_spec.1⟩
theorem Sa {SP:Hp->wD}(CV:du K c ns)(ha:dN K a As)(hS:∀F ds P,a6 F0 F->sp [] ds P->SP F [] ds P): uI K F0 H0 (yM K c (Sm K n c ns SP) a) (Ru c ns n sp As):=λF H Y δ P Q e w q=>by
 obtain⟨C,J,_⟩:=CV.ex;refine⟨C,J,ha F0 H0 F H Y δ _ _ e w λds us F1 T w1 g r1=>λx t r hd k=>?_⟩;rw[Bi];have p:a6 T (c8 (c8 T t (.own x)) x (.ins C t [])):=λb o z=>a8 (λy=>by rw[y,r]at z;cases z) (a8 (λy=>by rw[y,hd]at z;cases z) z)
 refine⟨by rw[Bg,<- r1.length];exact w1.1,F1,x,C,t,[],[],[],us,ds,_,rfl,J,g.fh.trans p,(by rw[List.zip_nil_right];exact a9),a8 k a9,Bv _,⟨rfl,rfl⟩,?_,λb B=>?_,r1,hS F1 ds _ (e.ext.ff.trans g.ff) w1.2,?_⟩
 .simp only[AD,AB,Ct,or_false,not_false_eq_true,CP,and_true];exact λz=>k z.symm
 .rcases AB.mp B with z |z
  .rw [z];exact g.fh.free r
  .rw [AM.mp z];exact g.fh.free hd
 intro M7 F' H' l v B' pt sF sH keep O A G L M u h;have s1:∀b o,T b=some o->b∉x::t::([]:List Ac):=λb o z y=>by
  rcases AB.mp y with y |y
  .rw [y,r]at z;cases z
  .rw [AM.mp y,hd]at z;cases z
 refine⟨rfl,q _ _ F' H' pt (g.trans ⟨sF,λb o z=>keep b o (s1 b o z) (p _ _ z),sH,λb o z1 U z3=>O b o z1 (p _ _ U) z3 (s1 b o U)⟩) ⟨x::l::B',⟨x,C,l,v,B',rfl,rfl,J,(λ_ z=>by cases z),A,G,L,M⟩,u,λb B=>⟨?_,(h b B).1⟩⟩⟩;rcases (h b B).2 with y |y
 .rcases AB.mp y with y |y
  .rw [y];exact g.hh.free r
  .rw [AM.mp y];exact g.hh.free hd
 .exact g.hh.free (p.free y)
theorem pI (C:du K c ns)(A:dN K a e): eF K (yM K c (nC K n c ns sp) a) (Ru c ns n sp e):=λk g=>Sa C A λ_ _ _ _ h=>h
end
section
variable {P:AE}{w:AU}{K:Ar}{mg:Am->Option Aa}{base:Heap}{c m q:Am}{ns:List Am}{st:AW}{f:Ac}{fd:Ag}{N ps:List Am}{k n:Nat}
theorem tG {F H:Hp}{a C g:Ac}{ts:List OV}{e dg:List V}{B:List Ac}{ds:List D}(M:Cq K Ai c=some (some (.ref C)))(J:a6 F H)(A:H a=some (.ins C g (ns.zip e)))(hd:H g=some (.own a))(l:ts.length<=ns.length)(G:bg K F H ts e B)(u:(a::g::B).Nodup)(r:∀b∈a::g::B,F b=none)(h:bE K F ds dg):
  ER K F (λb=>if b∈a::g::B then none else H b) F H (start N (V.ref a::dg)) (gA N c ns a ts ds) (λj=>if j=0 then a::g::B else []):=by
 have hl:=h.length;refine⟨by simp[start,gA,hl],⟨a6.refl _,λb o z=>?_,J,λ_ _ z _ _=>z⟩,λi t hi=>?_,λi d hi=>?_,λj=>?_,λj k b L y1 y2=>?_,λj b p=>?_⟩
 .split at z
  .cases z
  .exact z
 .unfold gA at hi
  cases i with
  |zero=>
   simp at hi
   subst hi;exact⟨.ref a,rfl,a,C,g,e,B,rfl,rfl,M,(λ_ z=>AV z),A,hd,l,G⟩
  |succ i=>
   rw[B5]at hi;by_cases z:i<ds.length
   .rw [AZ (by simpa using z),AN,Ah z]at hi;simp at hi
    subst hi;obtain⟨v,g1,g2⟩:=h.get (Ah z);refine⟨v,?_,rfl,g2⟩;unfold start;rw[B7,C7,B5,AZ (by simp;lia),AN,g1];rfl
   .rw [Bk (by simpa using z)]at hi;have:=An hi;rw[Di]at this;cases this.2
 .unfold gA at hi
  cases i with
  |zero=>simp at hi
  |succ i=>
   rw[B5]at hi;by_cases z:i<ds.length
   .rw [AZ (by simpa using z),AN]at hi;simp at hi
   .rw [Bk (by simpa using z)]at hi;have:=An hi;rw[Di]at this;cases this.2
 .split
  .exact u
  .exact CP
 .split at y1
  .split at y2
   .lia
   .cases y2
  .cases y1
 .split at p
  .refine ⟨r b p,if_pos p,?_⟩;rcases AB.mp p with y |y
   .rw [y];exact⟨_,A,rfl⟩
   .rcases AB.mp y with y |y
    .rw [y];exact⟨_,hd,rfl⟩
    .exact G.sq b y
  .cases p
theorem QN {SP:Hp->wD}(Fn:N7 K m q st f fd)(S:aN N ps (aA st))(hn:n=ps.length)
  (O:∀(j:Aa) (A:AX) (outer:List EJ) (s:Ae) (H:Hp) (E:XK),cJ k (A.deeper (BG q (aA st) s.heap.objs.size f j))->
   ∃t T,PSs (eH l' P w K mg base N q (aA st) f j A outer s H E).pP (bx st) t/\∀(F H0:Hp) (a:Ac) ts ds r,SP F ts ds r->ow K F H0 t T/\T {nx:=λδ=>∃g,δ[0]?=some (some (.own (.ob (some a) c ns g)))/\r g,rt:=λ_=>False} (gA N c ns a ts ds)):
  fE P w K mg base l' (k+1) f fd ps (Sm K n c ns SP):=
 Fn.ok S (λvs H Q E h=>by rw[<- hn];exact h.1) λj A outer s H vs Q E hr h=>by
  obtain⟨_,F,a,C,dx,ts,Ŗ,B,dg,ds,r,rfl,hC,hs,ha,hd,L,hB,U,M,J,G,hq⟩:=h;obtain⟨t,T,h1,h2⟩:=O j A outer s H E hr;obtain⟨h2,h3⟩:=h2 F (λb=>if b∈a::dx::B then none else H b) a ts ds r G;have er:=tG (N:=N) hC hs ha hd L hB U M J;refine⟨t,h1,h2 F H (start N (V.ref a::dg)) (gA N c ns a ts ds) {nx:=λδ=>∃g,δ[0]?=some (some (.own (.ob (some a) c ns g)))/\r g,rt:=λ_=>False} _ ⟨_,er⟩ ⟨λF' H' Y δ e p=>?_,λ_ _ _ _ _ z=>z.elim,λ_ _ _ _ _ z=>z.elim,λ_ _ _ _ _ _ z=>z.elim⟩ h3⟩;obtain⟨A',e⟩:=e;obtain⟨g,h0,hp⟩:=p;obtain⟨v,hv,a',C',ŀ,u,B',rfl,eA,g0,go,g1,g2,g3,g4⟩:=e.own 0 _ h0;obtain rfl:=go a rfl;rw[hC]at g0;cases g0;have l:=e.i5 0;rw[eA]at l;refine hq g F' H' ŀ u B' hp e.ext.ff e.ext.fh (λb o y z=>?_) (λb o y1 y2 y3 y4=>?_) g1 g2 g3 g4 l (λb hb=>?_)
  .exact e.ext.hh b o (by rw[if_neg y];exact z)
  .exact e.ext.no b o y1 (by rw[if_neg y4];exact y2) y3
  .obtain ⟨z1,z2,_⟩:=e.new 0 b (by rw[eA];exact hb);refine⟨z1,?_⟩;by_cases q:b∈a'::dx::B
   .exact .inl q
   .rw [if_neg q]at z2;exact .inr z2
theorem c6.of (g:fq K c m q st f fd)(S:aN N ps (aA st))
  (B:∀(kV O pm:Aa) (G:Option Ac) (v ct:Aa) (us:List Aa),us.length=ps.length->Cr (Ep m q (bZ st) (bx st) (aA st) .none kV O pm G v ct) ⟨us,[]⟩=pure (ps.zip us)) (hn:n=ps.length)
  (o:∀(v:Aa) (A:AX) (outer:List EJ) (s:Ae) (H:Hp) (E:XK),cJ k (A.deeper (BG q (aA st) s.heap.objs.size f v))->
   ∃t T,PSs (eH l' P w K mg base N q (aA st) f v A outer s H E).pP (bx st) t/\bR K t T/\∀(a:Ac) ts ds r,sp ts ds r->T {nx:=λδ=>∃e,δ[0]?=some (some (.own (.ob (some a) c ns e)))/\r e,rt:=λ_=>False} (gA N c ns a ts ds)):
  c6 P w K mg base c m (k+1) ps (nC K n c ns sp):=by
 obtain⟨C,l,L,M⟩:=g.cl;exact⟨C,f,fd,l,L,M,QN (SP:=λ_=>sp) g.fn S hn λz A u s H E j=>let⟨t,T,h1,h2,p⟩:=o z A u s H E j;⟨t,T,h1,λF J a ts ds r h=>⟨h2 F J,p a ts ds r h⟩⟩,g.fn.binds B⟩
theorem sk.of (g:N7 K m q st f fd)(L:MX K mg c f)(S:aN N ps (aA st))
  (B:∀(kV O pm:Aa) (J:Option Ac) (v ct:Aa) (us:List Aa),us.length=ps.length->Cr (Ep m q (bZ st) (bx st) (aA st) .none kV O pm J v ct) ⟨us,[]⟩=pure (ps.zip us)) (hn:n=ps.length)
  (o:∀(v:Aa) (A:AX) (outer:List EJ) (s:Ae) (H:Hp) (E:XK),cJ k (A.deeper (BG q (aA st) s.heap.objs.size f v))->
   ∃t T,PSs (eH l' P w K mg base N q (aA st) f v A outer s H E).pP (bx st) t/\bR K t T/\∀(a:Ac) ts ds r,sp ts ds r->T {nx:=λδ=>∃e,δ[0]?=some (some (.own (.ob (some a) c ns e)))/\r e,rt:=λ_=>False} (gA N c ns a ts ds)):
  sk P w K mg base c (k+1) ps (nC K n c ns sp):=by
 obtain⟨C,p,M,l⟩:=L.cl;exact⟨C,f,fd,p,M,l,QN (SP:=λ_=>sp) g S hn λG A u s H E j=>let⟨t,T,h1,h2,z⟩:=o G A u s H E j;⟨t,T,h1,λF Q a ts ds r h=>⟨h2 F Q,z a ts ds r h⟩⟩,g.binds B⟩
theorem LB.of (G:fq K c m q st f fd)(S:aN N ps (aA st))
  (hb:∀(kV O pm:Aa) (an:Option Ac) (a ct:Aa) (us:List Aa),us.length=ps.length->Cr (Ep m q (bZ st) (bx st) (aA st) .none kV O pm an a ct) ⟨us,[]⟩=pure (ps.zip us)) (hn:n=ps.length)
  (o:∀(a:Aa) (A:AX) (outer:List EJ) (s:Ae) (H:Hp) (E:XK),cJ k (A.deeper (BG q (aA st) s.heap.objs.size f a))->
   ∃t T,PSs (eH l' P w K mg base N q (aA st) f a A outer s H E).pP (bx st) t/\bR K t T/\∀ds g,sp ds g->T {nx:=λ_=>g (.fz .cn),rt:=g} (dD N ds)): c6 P w K mg base c m (k+1) ps (bL K n sp):=by
 obtain⟨C,hC,cl,U⟩:=G.cl;refine⟨C,f,fd,hC,cl,U,G.fn.ok S (λvs H Q E h=>by rw[<- hn];exact h.1) λa A outer s H vs Q E M h=>?_,G.fn.binds hb⟩;obtain⟨_,F,ds,g,L,l,j,J⟩:=h;obtain⟨t,T,h1,h2,h3⟩:=o a A outer s H E M;refine⟨t,h1,h2 F H F H (start N vs) (dD N ds) {nx:=λ_=>g (.fz .cn),rt:=g} _ ⟨_,fu L l⟩ ⟨λB u Y δ e p=>?_,λ_ _ _ _ _ z=>z.elim,λ_ _ _ _ _ z=>z.elim,λB u r v x n p=>J r v B u p x n⟩ (h3 ds g j)⟩;exact J _ _ B u p e.ext (.fz rfl)
end
end L2
namespace PySem
section
variable {prog:AE}{w:AU}{A:AX}{E:Aa->Ae->Prop}{s:Ae}
theorem zM:FY (.type "list_reverseiterator") "__len__"=pure none:=by rw[CL];kernel_rfl
theorem QW:FY (.type "list_reverseiterator") "__length_hint__"=pure (some (.builtin "list_reverseiterator.__length_hint__")):=by rw[CL];kernel_rfl
theorem p6 {I l:Ac}{i:Int}{Q:Bool->Ae->Prop}(r:s.heap.IsRevIter I l i)(h:Q false s):AJ (model prog w) A (JQ (.ref I)) Q E s:=by
 refine Ad (Dl r.typeIs zM ?_);refine Ad (Dl r.typeIs QW ?_);generalize c:("list_reverseiterator.__length_hint__":String)=e
 wp_delta
 subst c;refine Ad (DZ (T := "list_reverseiterator") (b:=true) r.typeIs (by rw[C6];kernel_rfl) ?_);refine GW (λa=>absurd a (by decide)) (λ_=>?_);refine GW (λ_=>?_) (λa=>absurd (by decide +kernel) a);exact AK h
theorem nF {R:F7->Ae->Prop}{I l:Ac}{items:Array Aa}(u:A.handled=none)(r:s.heap.IsRevIter I l ((items.size:Int)-1))(hl:s.heap.IsList l items)(t:items.size<=2^24)
  (S:Ac) (res:Aa) (c:Nat) (G:s.heap.get? S=some {cls:=.type "list",data:=.seq #[] c}) (j:S≠I) (n:S≠l) (L:l≠I)
  (J:∀h' tk a C,(∀b o,b≠S->b≠I->s.heap.get? b=some o->h'.get? b=some o)->h'.get? S=some {cls:=.type "list",dict:=none,data:=.seq a C,slots:=#[]}->
   G1 (λi v=>items[items.size-1-i]?=some v) a items.size->R (.ok (.ret res)) {s with heap:=h',toks:=tk}):
  AJ (model prog w) A.in1 (Fx (.ref S) (.ref I) res)
   (λfin s'=>match fin with | .done f=>R (.ok f) s' | .again C=>C.quiet=true/\Cw (model prog w) A C R s') (λe s'=>R (.error e) s') s:=by
 have p:S∉[I,l]:=λm=>by
  rcases AB.mp m with e |e
  .exact j e
  .exact n (AM.mp e)
 have W:=(Walks.listRev (prog:=prog) (w:=w) (A:=A.in1) u I l L items).toS;refine Ad (KE r.typeIs ?_);have h1:DY (.ref S) (.ref I)=false:=by simp[DY,j]
 have h2:(CM "list_reverseiterator"==CM "list")=false:=rfl;have M:(CM "list_reverseiterator"==CM "tuple")=false:=rfl;simp only[h1,if_false];refine Ad (wpAny_pyIter_revIter r ?_);refine Ad (EU (p6 r ?_));refine GW (λk=>absurd k (by decide)) (λ_=>AK ⟨Hy F.plain_extend_loop _,?_⟩);refine codeAny_extend_loopS W (by rw[C4];omega) S p res items.size 0 _ #[] c rfl (Bv _) ⟨Bv _,by simpa using r,hl⟩ G (IK _) λs' a C m q g=>?_
 rw[IJ m];refine J s'.heap s'.toks a C (λb o z B e=>m.heap b o (λh=>?_) e) q g;rcases AB.mp h with e' |h
 .exact z e'
 .exact B (AM.mp h)
theorem la {R:F7->Ae->Prop}{I l:Ac}{items:Array Aa}(u:A.handled=none)(r:s.heap.IsRevIter I l ((items.size:Int)-1))(hl:s.heap.IsList l items)(n:items.size<=2^24)
  (S:Ac) (p:s.heap.get? S=some {cls:=.type "list",data:=.seq #[]}) (g:S≠I) (L:S≠l) (j:l≠I)
  (z:∀h' tk a c,(∀b o,b≠S->b≠I->s.heap.get? b=some o->h'.get? b=some o)->h'.get? S=some {cls:=.type "list",dict:=none,data:=.seq a c,slots:=#[]}->
   G1 (λi v=>items[items.size-1-i]?=some v) a items.size->R (.ok (.ret .none)) {s with heap:=h',toks:=tk}):
  AJ (model prog w) A.in1 (Cy.«list.__init__» ⟨[.ref S,.ref I],[]⟩)
   (λfin s'=>match fin with | .done f=>R (.ok f) s' | .again c=>c.quiet=true/\Cw (model prog w) A c R s') (λe s'=>R (.error e) s') s:=by
 refine Ad ?_;refine Ad (CB p rfl (AK ?_));refine Ad (Ev p rfl ?_);have h:=Cm (CF (λ_=>(#[]:Array Aa))) p rfl;have t:∀b o,b≠S->s.heap.get? b=some o->(s.heap.update S (CF (λ_=>(#[]:Array Aa)))).get? b=some o:=
  λb o B e=>(Cc _ _ (Bm B)).trans e
 refine nF u (r.at λo e=>t I o (Bm g) e) (hl.at λo e=>t l o (Bm L) e) n S .none _ h g L j λh' tk a c q m C=>?_
 exact z h' tk a c (λb o B k e=>q b o B k (t b o B e)) m C
theorem sW {Q:Aa->Ae->Prop}{I l:Ac}{items:Array Aa}(p:A.handled=none)(r:s.heap.IsRevIter I l ((items.size:Int)-1))(hl:s.heap.IsList l items)(n:items.size<=2^24)(L:l≠I)
  (q:∀h' tk a j,(∀b o,b≠I->s.heap.get? b=some o->h'.get? b=some o)->
   h'.get? s.heap.objs.size=some {cls:=.type "list",dict:=none,data:=.seq a j,slots:=#[]}->G1 (λi v=>items[items.size-1-i]?=some v) a items.size->Q (.ref s.heap.objs.size) {s with heap:=h',toks:=tk}):
  AJ (model prog w) A (call (.type "list") [.ref I]) Q E s:=by
 refine callType_codes (Q₁:=λobj c=>obj = .ref s.heap.objs.size/\c={s with heap:=s.heap.push {cls:=.type "list",data:=.seq #[]}}) F.called_list (F.typeCall_list_1 _) F.entry_list_init
  (code_list_new _ ⟨rfl,rfl⟩) λobj c h=>?_
 obtain⟨rfl,rfl⟩:=h;have k:(s.heap.push {cls:=.type "list",data:=.seq #[]}).get? s.heap.objs.size=some {cls:=.type "list",data:=.seq #[]}:=AA _ rfl;obtain⟨t,f,_⟩:=id r;obtain⟨ol,O,_⟩:=id hl;refine⟨⟨_,k,rfl⟩,F.args_list_init_2 _ _,la (A:=A.in1) p (r.at λo e=>Af _ e) (hl.at λo e=>Af _ e) n _ k (Bm (Bx (AY f))) (Bm (Bx (AY O))) L λh' tk a j m g C=>?_⟩;exact⟨rfl,q h' tk a j (λb o B e=>m b o (Bx (AY e)) B (Af _ e)) g C⟩
end
end PySem
namespace L2
open PySem PySem.Spec PyProof.Rows
def ya (A:DA):DO:=λδ P=>A δ λds=>match ds with
 | [.lst xs]=>D.hI xs=true/\xs.length<=1000000/\P (.nl (xs.reverse.map .fz))
 |_=>False
section
variable {X:Cx}{K:Ar}
def wI (K:Ar)(t:TA):TE:=λY H Q=>t Y H λvs c=>∃a xs,vs=[.ref a]/\eR K c a xs/\xs.length<=1000000/\∀p e,c p=none->a6 c e->e p=some (.lst xs.reverse)->Q (.ref p) e
theorem OG (r:bI xs t)(h:G1 (λi v=>t.toArray[t.toArray.size-1-i]?=some v) c t.toArray.size): bI xs.reverse c.toList:=by
 have g:bI xs.reverse t.reverse:=by
  clear h
  induction r with
  |nil=>exact .nil
  |cons a r f=>
   rw[Fo,Fo];exact f.append (.cons a .nil)
 have e:c.toList=t.reverse:=by
  obtain⟨h1,h2⟩:=h;have j:c.size=t.length:=h1;refine DQ λi=>?_
  by_cases hi:i<t.length
  .rw [Cn hi];have A:i<c.size:=by lia
   have q:=h2 i c[i] (by simp);rw[Ha,GF A,<- q];simp
  .rw [Bc (by simp;lia),Bc (by simp;lia)]
 rw[e];exact g
theorem qS (hg:Gl X "list")(hm:X.mg "list"=none)(hc:X.calm=true)(m:X.mg "reversed"=none)(ha:PA X [a] v)(G:Gl X "reversed":=by rfl)
  (C:Av [a] X.env=[(false,eval a X.env)]:=by rfl)
  (g:Av [Kb (.Name "reversed" k) [a] [] O] X.env=[(false,eval (Kb (.Name "reversed" k) [a] [] O) X.env)]:=by rfl):
  PE X (.Call (.Name "list" p) [.Call (.Name "reversed" k) [a] [] O] [] pos) (wI X.K v):=by
 intro pins s Y H Q I h;refine Hh (f9 I hg hm Bs (A9 ?_ g rfl));refine HA ?_;refine Hh (f9 I G m DI (A9 (cK (ha O pins s Y H _ I h) λus c n=>?_) C rfl));obtain⟨vs,H1,j,w,B⟩:=n;obtain⟨l,xs,e,J,f,q⟩:=B;subst e;obtain⟨u,rfl,U⟩:=iM w;cases U;obtain⟨t,r,pt,hz⟩:=j.list J;have hl:=r.length;refine PySem.call_reversed_list pt.isList ?_;refine HQ ?_;have I2:bA X pins Y H1 {c with heap:=c.heap.push (Ld l ((t.toArray.size:Int)-1)),toks:=c.toks}:=j.kept λb o e=>Af _ e
 obtain⟨ol,L,_⟩:=id pt.isList;have T:=AY L;refine PySem.sW (I.ok.hd hc) ⟨_,AA _ rfl,rfl,rfl⟩ (pt.isList.at λo e=>Af _ e) (by rw[Aq];lia) (Bx T) λh' tk A c' hk M hit=>?_
 have hf:=I2.cY.fresh (Ak _);have z:(c.heap.push (Ld l ((t.toArray.size:Int)-1))).objs.size=c.heap.objs.size+1:=by simp
 refine⟨.ref _,_,j.laid (t':=tk) (o:=.lst xs.reverse) (λb o e=>hk b o (Bx (AY e)) (Af _ e)) (by rw[z];exact G4 _) ⟨?_,A.toList,c',OG r hit,?_⟩,rfl,q _ _ hf (a6.new hf) a9⟩
 .rw [B8];exact eG f
 .simpa using M
theorem qG (h:kH K a A): eF K (wI K a) (ya A):=λu n F H Y δ P Q e w q=>h u n F H Y δ _ _ e w λds vs t l f c r=>by
 split at f
 .obtain ⟨v,rfl,⟨a,us,rfl,h1,h2⟩⟩:=gQ r;refine⟨a,us,rfl,h1,by rw[<- h2.length];exact f.2.1,λp o g m j=>?_⟩;have k:=(bE.lf c.fh h2 f.1).reverse;refine q _ _ (l4 t l) o f.2.2 (c.trans ((fR c.fh).trans (cP.grow (fR c.fh).fh m))) ?_;exact fk.list (c.hh.free g) ((fR c.fh).fh.free g) j k
 .exact f.elim
end
def Ve (E L:DE):DE:=λδ P=>E δ λd=>match d with
 | .str x=>L δ λl=>match l with
  | .lst ds=>∃ys:List Am,ds=ys.map D.str/\(ys.map (·.length)).sum+ys.length*x.length<=16777216/\P (.str (FS x ys))
  |_=>False
 |_=>False
section
variable {X:Cx}{K:Ar}
def UI (K:Ar):V->List V->Hp->VK->Prop:=λx vs H Q=>∃sep p xs,∃ys:List Am,x = .str sep/\vs=[.ref p]/\eR K H p xs/\xs=ys.map V.str/\(ys.map (·.length)).sum+ys.length*sep.length<=16777216/\Q (.str (FS sep ys)) H
theorem ml:∀{ys:List Am} {us:List Aa},bI (ys.map V.str) us->StrsAre us ys
 | [],us,r=>by rw[Jv]at r;cases r;exact .nil
 |y :: ys,us,r=>by
  cases r with
  |cons c a=>
   obtain⟨t,e⟩:=c;subst e;exact .cons y t (ml a)
theorem Td:Zv X "str.join" (UI X.K):=by
 intro pins s Y H x xs v us Q I a r h;obtain⟨sep,p,z,ys,rfl,rfl,e,rfl,B,q⟩:=h;obtain⟨t,rfl⟩:=a;obtain⟨u,rfl,U⟩:=iM r;cases U;obtain⟨T,c,pt,f⟩:=I.list e;refine JS pt.isList (by simpa using ml c) B λt' k=>⟨.str _,H,I.tok k,⟨_,rfl⟩,q⟩
def P':V->Option Int->Option Int->Hp->VK->Prop:=λx lo hi H Q=>∃z,x = .str z/\z.length<=AH/\Q (.str (CH z lo hi)) H
theorem yV:Xk X P':=by
 intro pins s Y H x v L g lo hi j Q I r c pl U h;obtain⟨z,rfl,a,q⟩:=h;obtain⟨t,rfl⟩:=r;refine⟨"str",_,F.slot_str_getitem.lookup,IT _ _ _,?_⟩;have fin:∀t' k,EP X pins Y Q (.str (CH z lo hi) t') {s with toks:=k}:=λt' k=>⟨.str _,H,I.tok k,⟨_,rfl⟩,q⟩
 have p:∀{v:Aa} {o:Option Int},Ka v o->∃l:Option (Int×K3),v=partValue l/\l.map (·.1)=o:=λh=>by
  cases h with
  |none=>exact⟨none,rfl,rfl⟩
  |int i t=>exact⟨some (i,t),rfl,rfl⟩
 obtain⟨l,rfl,f⟩:=p pl;obtain⟨u,rfl,e⟩:=p U;subst f e;exact wpAny_getItem_str_slice (st:=none) c rfl (post_val_or_str ⟨BC (Txt.slice_le z _ _) a,λt' k=>fin t' k⟩)
theorem SJ (h:dM K t E)(A:dM K T L): cH K (Us K "str" (UI K) t (iN T mj)) (Ve E L):=λk j F H Y δ P Q e w q=>h k j F H Y δ _ _ e w λd v J C f g o=>by
 split at f
 .rename_i x
  cases (show v=V.str x from o)
  refine⟨rfl,A k j J C Y δ _ _ (e.on g) f λl u G z c m n=>?_⟩;split at c
  .obtain ⟨ys,rfl,B,c⟩:=c;obtain⟨a,us,rfl,h1,h2⟩:=n;have U:us=ys.map V.str:=by
    clear h1 B c
    induction ys generalizing us with
    |nil=>exact h2
    |cons y ys p=>
     obtain⟨v,r,rfl,g1,g2⟩:=h2;rw[p _ g2,show v=V.str y from g1];rfl
   exact⟨x,a,us,ys,rfl,rfl,h1,U,B,q _ _ G z c (g.trans m) rfl⟩
  .exact c.elim
 .exact f.elim
def Y9 (E:DE)(L U:Zy):DE:=λδ P=>E δ λd=>L δ λlo=>U δ λhi=>match d with
 | .str z=>z.length<=1000000/\P (.str (CH z lo hi))
 |_=>False
theorem zj (m:cH K A J)(hl:N3 K T L)(u:N3 K t U): cH K (È P' A T t) (Y9 J L U):=λg f F H Y δ P Q e w q=>
 m g f F H Y δ _ _ e w λd v G p l c r=>hl g f G p Y δ _ _ (e.on c) l λlo C o k h=>u g f C o Y δ _ _ (e.on (c.trans h)) k λhi B n a j=>by
  split at a
  .rename_i z
   cases (show v=V.str z from r)
   exact⟨z,rfl,eG a.1,q _ _ B n a.2 (c.trans (h.trans j)) rfl⟩
  .exact a.elim
theorem mZ:∀{ds:List D} {vs:List V},bE K F ds vs->vs.isEmpty=ds.isEmpty
 | [],vs,h=>by cases (show vs=[] from h);rfl
 |d::ds,vs,h=>by obtain⟨v,r,rfl,_⟩:=h;rfl
theorem Pg (h:dM K t E): ll K (λY H Q=>t Y H λx c=>∃k,Xj K x c k/\Q k c) (Rq E):=λm l F H Y δ P Q e w q=>h m l F H Y δ _ _ e w λd v j c f g r=>by
 split at f
 .cases r;exact⟨_,rfl,q _ j c f g⟩
 .rename_i i;cases r;refine⟨_,rfl,q _ j c ?_ g⟩;rw[show (i != 0)=decide (i≠0) by rw[Dc];simp];exact f
 .obtain ⟨a,vs,rfl,h1,h2⟩:=r;exact⟨_,.inl ⟨vs,h1,by rw[mZ h2]⟩,q _ j c f g⟩
 .obtain ⟨a,vs,rfl,h1,h2⟩:=r;exact⟨_,.inr (.inl ⟨vs,h1,by rw[mZ h2]⟩),q _ j c f g⟩
 .cases r;exact⟨_,rfl,q _ j c f g⟩
 .exact f.elim
end
noncomputable def iQ (x:Am):List Am:=x.cps.toList.map λc=>⟨#[c]⟩
def WY (E:DE):DA:=λδ P=>E δ λd=>match d with
 | .str x=>P ((iQ x).map D.str)
 |_=>False
section
variable {X:Cx}{K:Ar}
noncomputable def Ō (x:Am):It:=⟨λi _=>i<x.cps.size,λi H v a=>a=H/\∃c,x.cps[i]?=some c/\v = .str ⟨#[c]⟩,λi _=>x.cps.size<=i⟩
theorem wH (it:Ac)(x:Am)(t:K3): tj P w K tg (Ō x) [it] it (λi h=>i<=x.cps.size/\(h.IsStrIter it "str_ascii_iterator" x t i∨h.IsStrIter it "str_iterator" x t i)) where
 mem:=by simp
 obj:=λi h st b hb=>by
  have e:b=it:=by simpa using hb
  subst e;rcases st.2 with⟨o,ho,_,hd⟩ | ⟨o,ho,_,hd⟩
  .exact ⟨o,ho,λv z=>by rw[hd]at z;cases z⟩
  .exact ⟨o,ho,λv z=>by rw[hd]at z;cases z⟩
 keep:=λi h h' st k=>⟨st.1,st.2.imp (λ⟨o,e,r⟩=>⟨o,k it (by simp) o e,r⟩) (λ⟨o,e,r⟩=>⟨o,k it (by simp) o e,r⟩)⟩
 item:=by
  intro X hP hw hK hc i pins s Y H E I hf st hg;have hi:i<x.cps.size:=hg;obtain⟨f0,f1,f2,f3,f4,f5⟩:=hf it (by simp);have hx:x.cps[i]?=some x.cps[i]:=GF hi;rcases st.2 with uN |uN
  .refine PySem.wpAny_pyNext_ascii_item uN hx λh' LN sb=>?_
   have I1:bA X pins Y H {s with heap:=h',toks:=s.toks+1}:=I.turned (t':=s.toks+1) (λb o hb e=>(sb.2 b hb).trans e) f0 f1 f3 f4 f5;obtain⟨o,ho,Ox,xV⟩:=id LN;exact⟨_,rfl,oT (s:={s with heap:=h',toks:=s.toks+1}) (n := "str_ascii_iterator") ho Ox xV rfl ⟨.str ⟨#[x.cps[i]]⟩,H,I1,⟨_,rfl⟩,⟨rfl,_,hx,rfl⟩,⟨by lia,.inl LN⟩,λb hb=>(hf b hb).1⟩⟩
  .refine PySem.wpAny_pyNext_wide_item uN hx λh' LN sb=>?_
   have I1:bA X pins Y H {s with heap:=h',toks:=s.toks+1}:=I.turned (t':=s.toks+1) (λb o hb e=>(sb.2 b hb).trans e) f0 f1 f3 f4 f5;obtain⟨o,ho,Ox,xV⟩:=id LN;exact⟨_,rfl,oT (s:={s with heap:=h',toks:=s.toks+1}) (n := "str_iterator") ho Ox xV rfl ⟨.str ⟨#[x.cps[i]]⟩,H,I1,⟨_,rfl⟩,⟨rfl,_,hx,rfl⟩,⟨by lia,.inr LN⟩,λb hb=>(hf b hb).1⟩⟩
 done:=by
  intro X hP hw hK hc i pins s Y H E I hf st hg;obtain⟨f0,f1,f2,f3,f4,f5⟩:=hf it (by simp);have hx:x.cps[i]?=none:=Array.getElem?_eq_none hg;rcases st.2 with uN |uN
  .exact PySem.wpAny_pyNext_ascii_end (I.ok.hd hc) uN hx λh' eb=>⟨rfl,I.turned (t':=s.toks) (λb o hb e=>eb b o hb e) f0 f1 f3 f4 f5⟩
  .exact PySem.wpAny_pyNext_wide_end (I.ok.hd hc) uN hx λh' eb=>⟨rfl,I.turned (t':=s.toks) (λb o hb e=>eb b o hb e) f0 f1 f3 f4 f5⟩
 self:=λ_ _ _ _ _ st h=>by
  rcases st.2 with uN |uN
  .exact PySem.wpAny_pyIter_striter_ascii uN h
  .exact PySem.wpAny_pyIter_striter_wide uN h
def WG (t:TE):TI:=λY H R=>t Y H λv a=>∃x,v = .str x/\R (Ō x) a
theorem Qo (g:PE X l T): PI X G l (WG T):=by
 intro pins s Y H R I h;refine cK (g pins s Y H _ I h) λu a z=>?_
 obtain⟨v,f,c,r,Q⟩:=z;obtain⟨x,e,q⟩:=Q;subst e;obtain⟨t,rfl⟩:=r
 cases A:x.cps.all (· < 128)
 .refine PySem.wpAny_pyIter_wide A ?_;refine⟨a.heap.objs.size,[a.heap.objs.size],_,_,f,rfl,c.kept (t':=a.toks) λb o e=>Af _ e,wH a.heap.objs.size x t,⟨Bv _,.inr ⟨_,AA _ rfl,rfl,rfl⟩⟩,λb B=>?_,q⟩;have e:b=a.heap.objs.size:=by simpa using B
  subst e;exact c.pz (Ak _) (c.cY.fresh (Ak _))
 .refine PySem.wpAny_pyIter_ascii A ?_;refine⟨a.heap.objs.size,[a.heap.objs.size],_,_,f,rfl,c.kept (t':=a.toks) λb o e=>Af _ e,wH a.heap.objs.size x t,⟨Bv _,.inl ⟨_,AA _ rfl,rfl,rfl⟩⟩,λb B=>?_,q⟩;have e:b=a.heap.objs.size:=by simpa using B
  subst e;exact c.pz (Ak _) (c.cY.fresh (Ak _))
theorem PJ (h:dM K t E): lp K (WG t) (WY E):=λk f F H Y δ P R e w q=>h k f F H Y δ _ _ e w λd v l g p x r=>by
 split at p
 .rename_i z
  cases (show v=V.str z from r)
  refine⟨z,rfl,q _ _ l g p x λj o m a=>?_⟩;have hl:((iQ z).map D.str).length=z.cps.size:=by simp[iQ]
  rw[hl];refine⟨λi hi=>hi,Ak _,λi v n hi y=>?_⟩;obtain⟨rfl,c,hc,rfl⟩:=y;refine⟨.str ⟨#[c]⟩,j,?_,cP.refl a,rfl⟩;simp[iQ,hc]
 .exact p.elim
end
section
variable {X:Cx}{K:Ar}
end
section
variable {K:Ar}{c f:Am}{ns:List Am}{j:Nat}{ta:TE}{E:DE}
end
section
variable {X:Cx}{tg elt iter cd:Expr}{scope:Ck}{N:List Am}{ix:List (Option Nat)}{wi:TI}{g:TG}{tc:TT}{te:TE}{pos:DR}
end
section
variable {K:Ar}{te:TE}{Eo:DO}
end
theorem nE {x y:Nat}(h:x≠y):(show Ac from x)≠(show Ac from y):=h
section
variable {prog:AE}{w:AU}{A:AX}{E:Aa->Ae->Prop}{s:Ae}
end
section
variable {X:Cx}{K:Ar}{mg:Am->Option Aa}
end
section
variable {X:Cx}{K:Ar}
theorem md:∀{us:List Aa} {ns:List Int},EB us ns->bI (ns.map V.int) us
 |_,_,.nil=>.nil
 |_,_,.cons n t h=>.cons ⟨t,rfl⟩ (md h)
def P_ (K:Ar):List V->Hp->VK->Prop:=λxs H Q=>∃p,∃ns:List Int,xs=[.ref p]/\eR K H p (ns.map V.int)/\ns.length<64/\∀(l:Ac) (a:Hp) (m:List Int),H l=none->a6 H a->a l=some (.lst (m.map V.int))->m.Perm ns->m.Pairwise (·<=·)->Q (.ref l) a
theorem D':fT X (.builtin "sorted") (P_ X.K):=by
 intro pins s Y H xs us Q I r h;obtain⟨p,ns,rfl,c,hl,q⟩:=h;obtain⟨u,rfl,U⟩:=iM r;cases U;obtain⟨t,v,pl,k⟩:=I.list c;have hi:EB t ns:=rM v;have l:=v.length;rw[Ay]at l;refine JR pl.isList hi (by lia) λo m g a A=>?_
 obtain⟨e,f⟩:=sortedAll_at s.heap t o;have hn:H (s.heap.objs.size+1)=none:=I.cY.fresh (G4 _);have n:=a.length_eq;have j:bA X pins Y (c8 H (s.heap.objs.size+1) (.lst (m.map V.int))) {s with heap:=sortedAll s.heap t o,toks:=s.toks}:=
  I.laid (λ_ _ z=>sortedAll_old z) (G4 _) ⟨BC (by rw[Ay];lia:(m.map V.int).length<=64) (eG (by decide)),o.toList,e,md g,by rw[Array.toArray_toList];exact f⟩
 exact⟨.ref _,_,j,rfl,q _ _ m hn (a6.new hn) a9 a A⟩
def O6:List D->(OV->Prop)->Prop:=λds P=>match ds with
 | [.lst xs]=>∃ns:List Int,xs=ns.map D.int/\ns.length<64/\∀m:List Int,m.Perm ns->m.Pairwise (·<=·)->P (.nl ((m.map D.int).map .fz))
 |_=>False
theorem T3:Ã K (P_ K) O6:=λF H ds vs P Q s r w q=>by
 unfold O6 at w;split at w
 .obtain ⟨ns,rfl,hl,w⟩:=w;obtain⟨v,rfl,p,us,rfl,h1,h2⟩:=gQ r;have e:=gv.mp h2;subst e;exact⟨p,ns,rfl,s.seq h1,hl,λl f M L m a c A=>q _ _ F f (w M c A) (cP.grow s m) (fk.list L (s.free L) a (gv.mpr rfl))⟩
 .exact w.elim
end
abbrev TK:=V->St->Hp->(Bool->Hp->Prop)->Prop
section
variable {X:Cx}{K:Ar}{a e e':Expr}{es:List Expr}{op op':Iz}{ops:List Iz}{r:R2}{ta te:TE}{tk:TK}{pos:DR}
end
abbrev DK:=D->c7->(Bool->Prop)->Prop
section
variable {K:Ar}{ta te:TE}{E Ea:DE}{tk:TK}{k:DK}{R:R2}{r:wz}
end
def PD:DS:=λ_ _=>False
section
variable {X:Cx}{K:Ar}{st:AW}{sts:List AW}
theorem kj:bR K OU PD:=λ_ _ _ _ _ _ _ _ _ _ w=>w.elim
end
abbrev P2 (h:Heap)(t:Ac)(a b:Aa):Prop:=h.get? t=some {cls:=.type "tuple",data:=.seq #[a,b]}
abbrev Zt (h:Heap)(b:Nat)(v:Aa):Prop:=IsZip h (b+4) (b+2) (b+3) v
theorem gg (x:BH h a t i)(e:∀o,h.get? a=some o->h'.get? a=some o): BH h' a t i:=let⟨o,O,r⟩:=x;⟨o,e _ O,r⟩
section
variable {prog:AE}{w:AU}{A:AX}{E:Aa->Ae->Prop}{s:Ae}
theorem rm {Q:Aa->Ae->Prop}(hi:BH s.heap T t i)(ht:Ez s.heap t c)(j:c[i]?=some x)(q:∀g,BH g T t (i+1)->Heap.SameBut T s.heap g->Q x {s with heap:=g}): AJ (model prog w) A (Fb (.ref T)) Q E s:=by
 obtain⟨o,a,h,O⟩:=id hi;obtain⟨p,f,_,n,e⟩:=ht;refine Ad (B9 (name:=Ba "__next__") hi.typeIs Ey (CD Ey hi.typeIs IA ?_ (IL _)));show AJ _ _ (field (.ref T) 0 >>= _) _ _ s
 refine Ad (BA a O (x:=.ref t) rfl ?_);refine Ad (BA a O (x:=.int i 0) rfl ?_);refine Ad (CB f e ?_);simp only[j,Bf];refine Ad (EG a O (by simp) (AK ⟨x,rfl,AK (q _ ?_ (Heap.SameBut.update ..))⟩));exact⟨_,Cm _ a (E7 (Dd O _)),(Obj.cls_mapFields ..).trans h,by rw[Dd O];simp[C5]⟩
theorem NC {a t:Ac}{i:Nat}{T:Array Aa}{Q:Aa->Ae->Prop}(h:A.handled=none)(hi:BH s.heap a t i)(ht:Ez s.heap t T)(k:T[i]?=none)(q:∀g e,Heap.ExtBut a s.heap g->(∃o,g.get? e=some o/\o.cls = .type "StopIteration")->E (.ref e) {s with heap:=g}):AJ (model prog w) A (Fb (.ref a)) Q E s:=by
 obtain⟨o,c,l,O⟩:=id hi;obtain⟨p,j,_,n,f⟩:=ht;refine Ad (B9 (name:=Ba "__next__") hi.typeIs Ey (CD Ey hi.typeIs IA ?_ (IL _)));show AJ _ _ (field (.ref a) 0 >>= _) _ _ s
 refine Ad (BA c O (x:=.ref t) rfl ?_);refine Ad (BA c O (x:=.int i 0) rfl ?_);refine Ad (CB j f ?_);simp only[k,Bf];refine Ad (Hb (Ad (EG c O (by simp) ?_)));refine Ad ?_;simp only[ Le];refine Ad (CU ?_ (by size_fits));refine Ad (m:=FE _ _) (Dy (by first |rfl | (simp only[FE];rfl)) ?_);refine CU ?_ (by size_fits);simp only[raiseNew];refine Ad (Kj ?_);first |rw[show A.in1.handled=none from h] |rw[h]
 exact Ad (AK (KZ (q _ _ (((Heap.SameBut.update ..).extBut.push _).push _) ⟨_,AA _ rfl,rfl⟩)))
theorem Qy {t:Ac}{a b x:Aa}{k:Nat}{Q:Unit->Ae->Prop}(ht:P2 s.heap t a b)
  (q:∀g,g.get? t=some {cls:=.type "tuple",data:=.seq ((#[a,b]:Array Aa).setIfInBounds k x)}->Heap.SameBut t s.heap g->Q () {s with heap:=g}):AJ (model prog w) A (updateSeq t (·.setIfInBounds k x)) Q E s:=by
 refine Ev ht rfl (q _ ?_ (Heap.SameBut.update ..));rw[Cm _ ht rfl];simp[CF]
theorem M1 {Q:Aa->Ae->Prop}(hb:n<b/\L<b)
  (Z:Zt s.heap b .none) (I0:P2 s.heap (b+2) (.ref b) (.ref (b+1))) (O0:P2 s.heap (b+3) a1 a2) (w1:BH s.heap b n k) (w2:BH s.heap (b+1) L k)
  (p1:Ez s.heap n xs) (p2:Ez s.heap L ys) (e1:xs[k]?=some x) (e2:ys[k]?=some y)
  (q:∀g,Zt g b (C5 s.heap.objs.size)->P2 g (b+3) x y->BH g b n (k+1)->BH g (b+1) L (k+1)->P2 g s.heap.objs.size x y->g.objs.size=s.heap.objs.size+1->
   (∀c o,c≠b+4->c≠b+3->c≠b->c≠b+1->s.heap.get? c=some o->g.get? c=some o)->Q (.ref s.heap.objs.size) {s with heap:=g}):
  AJ (model prog w) A (Cy.«zip.__next__» ⟨[.ref (b+4)],[]⟩) (λr s'=>∃v,r = .done (.ret v)/\Q v s') E s:=by
 obtain⟨b1,b2⟩:=hb;have off:∀l:Nat,l<b->l≠b+4/\l≠b+3/\l≠b:=λl h=>⟨by lia,by lia,by lia⟩
 obtain⟨a14,_,_⟩:=off n b1;obtain⟨a24,a23,a20⟩:=off L b2;show AJ _ _ (field (.ref (b+4)) 2 >>= _) _ _ _
 refine Ad (BA Z rfl (x:=.bool false) rfl ?_);refine Ad (BA Z rfl (x:=.ref (b+2)) rfl (Ad (CB I0 rfl ?_)));refine Ad ?_;refine Ad (BA Z rfl rfl (AK ?_));simp only[if_true];refine Ad (Hb (Ad (BA Z rfl (x:=.ref (b+3)) rfl (Ad (Dt Z (by simp) λg1 Z1 f1=>?_)))));refine Ad ?_;refine Ad (Ad (Hv ?_));refine Ad (rm (w1.extBut f1.extBut (nE (by lia))) (p1.extBut f1.extBut a14) e1 λg2 v1 f2=>AK ?_);have O2:P2 g2 (b+3) a1 a2:=f2.extBut _ _ (nE (by lia)) (f1.extBut _ _ (nE (by lia)) O0);refine Ad (CB O2 rfl (Ad (Qy O2 λg3 O3 m=>Ad (K0 (AK ?_)))));refine Ad (Ad (Hv ?_));refine Ad (rm (((w2.extBut f1.extBut (nE (by lia))).extBut f2.extBut (nE (by lia))).extBut m.extBut (nE (by lia))) (((p2.extBut f1.extBut a24).extBut f2.extBut a20).extBut m.extBut a23) e2 λg4 v2 u=>AK ?_);have O4:P2 g4 (b+3) x a2:=u.extBut _ _ (nE (by lia)) O3;refine Ad (CB O4 rfl (Ad (Qy O4 λG O p=>Ad (K0 (AK (AK ?_))))))
 replace O:P2 G (b+3) x y:=O
 refine Ad (CB O rfl (Ad (wpAny_newTuple ?_)));have f:G.objs.size=s.heap.objs.size:=by rw[p.1,u.1,m.1,f2.1,f1.1]
 have Z5:Zt G b .ellipsis:=p.extBut _ _ (nE (by lia)) (u.extBut _ _ (nE (by lia)) (m.extBut _ _ (nE (by lia)) (f2.extBut _ _ (nE (by lia)) Z1)));have keep:∀c o,c≠b+4->c≠b+3->c≠b->c≠b+1->s.heap.get? c=some o->G.get? c=some o:=λc o C J c3 U e=>
  p.extBut _ _ J (u.extBut _ _ U (m.extBut _ _ J (f2.extBut _ _ c3 (f1.extBut _ _ C e))))
 have m1:BH G b n (k+1):=((v1.extBut m.extBut (nE (by lia))).extBut u.extBut (nE (by lia))).extBut p.extBut (nE (by lia));have m2:BH G (b+1) L (k+1):=v2.extBut p.extBut (nE (by lia));have t:b+4<G.objs.size:=AY Z5;refine Ad ?_;have Z8:Zt (G.push {cls:=.type "tuple",data:=.seq #[x,y]}) b .ellipsis:=Af _ Z5;refine Ad (Dt Z8 (by simp) λg9 Z9 M=>?_);refine Dt Z9 (by simp) λa B j=>?_
 have up:∀c o,c≠b+4->G.get? c=some o->a.get? c=some o:=λc o C e=>j.extBut _ _ C (M.extBut _ _ C (Af _ e))
 have T:P2 a G.objs.size x y:=j.extBut _ _ (Hi t) (M.extBut _ _ (Hi t) (AA _ rfl));have z:a.objs.size=G.objs.size+1:=by rw[j.1,M.1,DB]
 rw[f]at B T z;refine AK ⟨_,rfl,?_⟩;rw[f];exact q a B (up _ _ (nE (by lia)) O) (gg m1 λo e=>up _ o (nE (by lia)) e) (gg m2 λo e=>up _ o (nE (by lia)) e) T z λc o C J c3 U e=>up c o C (keep c o C J c3 U e)
theorem M0 {b k:Nat}{l:Ac}{xs:Array Aa}{r:Aa}{Q:Fin->Ae->Prop}(t:A.handled=none)(B:l<b)(Z:Zt s.heap b .none)(L:P2 s.heap (b+2) (.ref b) r)(m:BH s.heap b l k)(p:Ez s.heap l xs)(v:xs[k]?=none)
  (q:∀g e,(∀c o,c≠b+4->c≠b->s.heap.get? c=some o->g.get? c=some o)->(∃o,g.get? e=some o/\o.cls = .type "StopIteration")->E (.ref e) {s with heap:=g}):AJ (model prog w) A (Cy.«zip.__next__» ⟨[.ref (b+4)],[]⟩) Q E s:=by
 have a:l≠b+4:=Bx (A6 B (DL b 4));show AJ _ _ (field (.ref (b+4)) 2 >>= _) _ _ _
 refine Ad (BA Z rfl (x:=.bool false) rfl ?_);refine Ad (BA Z rfl (x:=.ref (b+2)) rfl (Ad (CB L rfl ?_)));refine Ad ?_;refine Ad (BA Z rfl rfl (AK ?_));simp only[if_true];refine Ad (Hb (Ad (BA Z rfl (x:=.ref (b+3)) rfl (Ad (Dt Z (by simp) λg1 J f1=>?_)))));refine Ad ?_;refine Ad (Ad (Hv ?_));refine Ad (NC t (m.extBut f1.extBut (nE (by lia))) (p.extBut f1.extBut a) v λg2 e f2 u=>?_);obtain⟨n,O,f⟩:=u;have j:Zt g2 b .ellipsis:=f2 _ _ (nE (by lia)) J;have z:e≠b+4:=λy=>by subst y;rw[j]at O;cases O;simp at f
 exact Dt j (by simp) λg3 _ h=>q g3 e (λc o C G y=>h.extBut _ _ C (f2 _ _ G (f1.extBut _ _ C y))) ⟨n,h.extBut _ _ z O,f⟩
theorem Ta {Q:Option Aa->Ae->Prop}(h:L<b/\l<b)
  (Z:Zt s.heap b .none) (G:P2 s.heap (b+2) (.ref b) (.ref (b+1))) (O:P2 s.heap (b+3) M J) (e:BH s.heap b L k) (a:BH s.heap (b+1) l k)
  (f:Ez s.heap L xs) (p:Ez s.heap l ys) (m:xs[k]?=some x) (j:ys[k]?=some y)
  (q:∀g,Zt g b (C5 s.heap.objs.size)->P2 g (b+3) x y->BH g b L (k+1)->BH g (b+1) l (k+1)->P2 g s.heap.objs.size x y->g.objs.size=s.heap.objs.size+1->
   (∀c o,c≠b+4->c≠b+3->c≠b->c≠b+1->s.heap.get? c=some o->g.get? c=some o)->Q (some (.ref s.heap.objs.size)) {s with heap:=g}): AJ (model prog w) A (FZ (.ref (b+4))) Q E s:=by
 have t:s.TypeIs (.ref (b+4)) "zip":=⟨_,Z,rfl⟩
 exact Ad (EV (B9 (name:=Ba "__next__") t F.slot_zip_next (CD F.slot_zip_next t F.entry_zip_next
  (M1 h Z G O e a f p m j λg B z v u r n C=>AK (q g B z v u r n C)) (F.args_zip_next_1 _))))
theorem xG {Q:Option Aa->Ae->Prop}(h:A.handled=none)(B:l<b)(Z:Zt s.heap b .none)(m:P2 s.heap (b+2) (.ref b) n)(a:BH s.heap b l k)(p:Ez s.heap l xs)(j:xs[k]?=none)
  (q:∀g,(∀c o,c≠b+4->c≠b->s.heap.get? c=some o->g.get? c=some o)->Q none {s with heap:=g}): AJ (model prog w) A (FZ (.ref (b+4))) Q E s:=by
 have t:s.TypeIs (.ref (b+4)) "zip":=⟨_,Z,rfl⟩
 refine Ad (EV (B9 (name:=Ba "__next__") t F.slot_zip_next (CD F.slot_zip_next t F.entry_zip_next (M0 h B Z m a p j λg e k1 k2=>?_) (F.args_zip_next_1 _))));obtain⟨o,f,O⟩:=k2;exact Ad (DZ (T := "StopIteration") ⟨o,f,O⟩ J5 (AK (q _ k1)))
end
noncomputable abbrev Å (l:Ac):Co:={cls:=.type "tuple_iterator",data:=.fields #[.ref l,.int 0 0]}
noncomputable abbrev ZG (h:Heap)(l:Ac):Heap:=h.push (Å l)
noncomputable abbrev ZF (h:Heap)(L l:Ac):Heap:=(ZG h L).push (Å l)
noncomputable abbrev ZE (h:Heap)(l L:Ac):Heap:=(ZF h l L).push {cls:=.type "tuple",data:=.seq #[.ref h.objs.size,.ref (ZG h l).objs.size]}
noncomputable abbrev ZD (h:Heap)(L l:Ac):Heap:=(ZE h L l).push {cls:=.type "tuple",data:=.seq #[.none,.none]}
noncomputable abbrev Xr (h:Heap)(L l:Ac):Heap:=(ZD h L l).push {cls:=.type "zip",data:=.fields #[.none,.bool false,.bool false,.ref (ZF h L l).objs.size,.ref (ZE h L l).objs.size]}
theorem OA (l L:Ac)(xs ys:Array Aa): K5 (Cy.«zip.__new__» ⟨[.type "zip",.ref l,.ref L],[]⟩) (λ_ R s=>Ez s.heap l xs/\Ez s.heap L ys/\R (.ok (.ret (.ref (ZD s.heap l L).objs.size))) {s with heap:=Xr s.heap l L}):=
 .of_wp λprog w A R s h=>by
  obtain⟨p,g,d,tk,os⟩:=s;obtain⟨c,a,h⟩:=h;have u:=sub_zip;have e:Ez (Ja ⟨p,g,d,tk,os⟩) l xs:=c;have n:Ez (Ja ⟨p.push (Å l),g,d,tk,os⟩) L ys:=IsTup.push a _
  wp_walk using Ls e,Ls n
  exact⟨_,rfl,h⟩
theorem NW {prog:AE}{w:AU}{A:AX}{E:Aa->Ae->Prop}{s:Ae}{l L:Ac}{xs ys:Array Aa}{Q:Aa->Ae->Prop}(a:Ez s.heap l xs)(p:Ez s.heap L ys)
  (q:∀g,Zt g s.heap.objs.size .none->P2 g (s.heap.objs.size+2) (.ref s.heap.objs.size) (.ref (s.heap.objs.size+1))->P2 g (s.heap.objs.size+3) .none .none->BH g s.heap.objs.size l 0->BH g (s.heap.objs.size+1) L 0->
   (∀c o,s.heap.get? c=some o->g.get? c=some o)->Q (.ref (s.heap.objs.size+4)) {s with heap:=g}):AJ (model prog w) A (call (.type "zip") [.ref l,.ref L]) Q E s:=by
 refine callType_new F.called_zip rfl (F.typeCall_zip_2 _ _) (F.newCall_zip_2 _ _) (λo=>F.args_object_init_3 o _ _) F.entry_zip_new (OA l L xs ys) ⟨a,p,?_⟩;have y1:(ZG s.heap l).objs.size=s.heap.objs.size+1:=DB ..;have y2:(ZF s.heap l L).objs.size=s.heap.objs.size+2:=by rw[DB,y1]
 have y3:(ZE s.heap l L).objs.size=s.heap.objs.size+3:=by rw[DB,y2]
 have y4:(ZD s.heap l L).objs.size=s.heap.objs.size+4:=by rw[DB,y3]
 have on:∀{h:Heap} {o O:Co} {c:Ac},h.get? c=some o->(h.push O).get? c=some o:=λe=>Af _ e
 have k5:(Xr s.heap l L).get? (ZD s.heap l L).objs.size=some _:=AA _ rfl;have k:(Xr s.heap l L).get? (ZE s.heap l L).objs.size=some _:=on (AA _ rfl);have k3:(Xr s.heap l L).get? (ZF s.heap l L).objs.size=some _:=on (on (AA _ rfl));have k2:(Xr s.heap l L).get? (ZG s.heap l).objs.size=some _:=on (on (on (AA _ rfl)));have k1:(Xr s.heap l L).get? s.heap.objs.size=some _:=on (on (on (on (AA _ rfl))));rw[y2,y3,y4]at k5;rw[y3]at k;rw[y1,y2]at k3;rw[y1]at k2;rw[y4];exact⟨⟨_,k5,rfl⟩,q _ k5 k3 k ⟨_,k1,rfl,rfl⟩ ⟨_,k2,rfl,rfl⟩ λc o e=>on (on (on (on (on e))))⟩
def U6 (A:DA):DA:=λδ P=>A δ λds=>match ds with
 | [.tup xs,.tup ys]=>xs.length<=ys.length/\P ((xs.zip ys).map λp=>D.tup [p.1,p.2])
 |_=>False
section
variable {X:Cx}{K:Ar}{mg:Am->Option Aa}
noncomputable def Zx (K:Ar)(a A:Ac)(xs ys:List V):It:=
 ⟨λi H=>jO K H a xs/\jO K H A ys/\i<xs.length/\i<ys.length,λi H x c=>∃p y1 y2,x = .ref p/\H p=none/\a6 H c/\xs[i]?=some y1/\ys[i]?=some y2/\c p=some (.tup [y1,y2]),λi H=>jO K H a xs/\xs.length<=i⟩
theorem WS (h:c∈[b+4,b+2,b+3,b,b+1]): c=b+4∨c=b+2∨c=b+3∨c=b∨c=b+1:=by simpa using h
theorem M4 (a1 a2:Ac)(b:Nat)(xs ys:List V)(hb:a1<b/\a2<b):
  tj P w K (.Tuple elts x1 M8) (Zx K a1 a2 xs ys) [b+4,b+2,b+3,b,b+1] (b+4) (λi h=>Zt h b .none/\P2 h (b+2) (.ref b) (.ref (b+1))/\(∃c d,P2 h (b+3) c d)/\BH h b a1 i/\BH h (b+1) a2 i) where
 mem:=by simp
 obj:=λi h st c hc=>by
  obtain⟨h1,h2,⟨_,_,h3⟩,⟨o4,q4,_,r4⟩,⟨o5,q5,_,r5⟩⟩:=st;rcases WS hc with q |q |q |q |q
  .rw [q];exact⟨_,h1,λv q=>by cases q⟩
  .rw [q];exact⟨_,h2,λv q=>by cases q⟩
  .rw [q];exact⟨_,h3,λv q=>by cases q⟩
  .rw [q];exact⟨_,q4,λv q=>by rw[r4]at q;cases q⟩
  .rw [q];exact⟨_,q5,λv q=>by rw[r5]at q;cases q⟩
 keep:=λi h h' st k=>by
  obtain⟨h1,h2,⟨c,d,h3⟩,h4,h5⟩:=st;exact⟨k _ (by simp) _ h1,k _ (by simp) _ h2,⟨c,d,k _ (by simp) _ h3⟩,gg h4 λo q=>k _ (by simp) o q,gg h5 λo q=>k _ (by simp) o q⟩
 item := by
  kj_on
  obtain⟨h1,h2,⟨c,d,h3⟩,h4,h5⟩:=st;obtain⟨WI,Xx,ϙ,Ϙ⟩:=hg;obtain⟨Wy,VR,p1,â⟩:=I.tuple WI;obtain⟨Yx,X6,p2,ġ⟩:=I.tuple Xx;obtain⟨u1,å,Ð⟩:=VR.get (i:=i) (x:=xs[i]) (by simp);obtain⟨u2,ä,Ï⟩:=X6.get (i:=i) (x:=ys[i]) (by simp);refine Ta hb h1 h2 h3 h4 h5 p1 p2 (by simpa using å) (by simpa using ä) λh' g1 g2 g3 g4 g6 g7 g8=>?_
  refine⟨_,rfl,Hm g1 λYP k1 k2=>?_⟩;have YI:=I.cY.fresh (Ak _);have I0:bA X pins Y (c8 H s.heap.objs.size (.tup [xs[i],ys[i]])) {s with heap:=s.heap.push {cls:=.type "tuple",data:=.seq #[u1,u2]},toks:=s.toks}:=
   I.laid (t':=s.toks) (o:=.tup [xs[i],ys[i]]) (λb ob q=>Af _ q) (Ak _) ⟨eG (n:=2) (by decide),[u1,u2],.cons Ð (.cons Ï .nil),⟨_,AA _ rfl,rfl,_,rfl⟩⟩
  have old:∀c∈[b+4,b+2,b+3,b,b+1],c≠s.heap.objs.size:=λc hc q=>by
   have yD:c<s.heap.objs.size:=by
    rcases WS hc with y |y |y |y |y
    .rw [y];exact AY h1
    .rw [y];exact AY h2
    .rw [y];exact AY h3
    .obtain ⟨o,r1,_⟩:=h4;rw[y];exact AY r1
    .obtain ⟨o,r1,_⟩:=h5;rw[y];exact AY r1
   rw[q]at yD;exact B3 _ yD
  have fe:∀c∈[b+4,b+2,b+3,b,b+1],jM X pins (c8 H s.heap.objs.size (.tup [xs[i],ys[i]])) c:=λc hc=>by
   obtain⟨q0,q1,q2,q3,q4,q5⟩:=hf c hc;refine⟨?_,q1,q2,q3,q4,q5⟩;rw[bM]
   .exact q0
   .exact old c hc
  have I1 : bA X pins Y (c8 H s.heap.objs.size (.tup [xs[i],ys[i]])) {s with heap:=YP,toks:=s.toks}:=by
   have:=I0.pC (h':=YP) (t':=s.toks) (L:=[b+4,b+3,b,b+1]) (λc o hb q=>?_) (λc hc=>fe c (by
    have Ox:c=b+4∨c=b+3∨c=b∨c=b+1:=by simpa using hc
    rcases Ox with y |y |y |y<;>simp[y]))
   .exact this
   .have bz:c≠b+4:=λy=>hb (by simp[y])
    have ø:h'.get? c=some o:=by
     by_cases y:c=s.heap.objs.size
     .subst y;rw[AA _ rfl]at q;rw[<- q];exact g6
     .rw [Heap.get?_push_ne _ _ _ y]at q;exact g8 c o bz (λy=>hb (by simp[y])) (λy=>hb (by simp[y])) (λy=>hb (by simp[y])) q
    exact k2.extBut c o bz ø
  have hT:P2 h' (b+2) _ _:=g8 (b+2) _ (nE (by lia)) (nE (by lia)) (nE (by lia)) (nE (by lia)) h2;refine⟨.ref s.heap.objs.size,_,I1,rfl,⟨_,xs[i],ys[i],rfl,YI,a6.new YI,by simp,by simp,a9⟩,⟨k1,k2.extBut _ _ (nE (by lia)) hT,⟨_,_,k2.extBut _ _ (nE (by lia)) g2⟩,g3.extBut k2.extBut (nE (by lia)),g4.extBut k2.extBut (nE (by lia))⟩,λc hc=>(fe c hc).1⟩
 done:=by
  kj_on
  obtain⟨h1,h2,_,h4,_⟩:=st;obtain⟨WI,hi⟩:=hg;obtain⟨Wy,VR,p1,â⟩:=I.tuple WI;have ϒ:=VR.length;refine xG (I.ok.hd hc) hb.1 h1 h2 h4 p1 (by simp;lia) λh' eb=>⟨rfl,I.pC (t':=s.toks) (L:=[b+4,b]) (λc o hb q=>eb c o (λy=>hb (by simp[y])) (λy=>hb (by simp[y])) q) (λc hc=>hf c (by
    have Ox:c=b+4∨c=b:=by simpa using hc
    rcases Ox with y |y<;>simp[y]))⟩
 self:=λ_ _ _ _ _ st h=>by
  obtain⟨h1,_⟩:=st;exact E5 h1 h
def UU (K:Ar)(t:TA):TI:=λY H R=>t Y H λvs c=>∃A a xs ys,vs=[.ref A,.ref a]/\jO K c A xs/\jO K c a ys/\R (Zx K A a xs ys) c
theorem SV (hg:Gl X "zip")(hm:X.mg "zip"=none)(ha:PA X [l,m] A)(O:Av [l,m] X.env=(false,eval l X.env)::Av [m] X.env:=by rfl)(U:(BY pos (Av [m] X.env)).any (·.1)=false:=by rfl): PI X (.Tuple n x1 o) (.Call (.Name "zip" p) [l,m] [] pos) (UU X.K A):=by
 intro pins s Y H R I h;refine Hh (f9 I hg hm F8 (A9 (cK (ha pos pins s Y H _ I h) λus a z=>?_) O U));obtain⟨vs,v,f,C,G⟩:=z;obtain⟨a1,a2,xs,ys,e,g,Q,q⟩:=G;subst e;obtain⟨u1,u2,rfl,u,r⟩:=LG C;cases u;cases r;obtain⟨k,B,T,M⟩:=f.tuple g;obtain⟨j,w,t,J⟩:=f.tuple Q;refine NW T t λh' g1 g2 g3 g4 g5 g7=>?_
 have I2:bA X pins Y v {a with heap:=h',toks:=a.toks}:=f.kept (t':=a.toks) g7;refine E5 (s:={a with heap:=h',toks:=a.toks}) g1 ?_;refine⟨a.heap.objs.size+4,_,_,_,v,rfl,I2,M4 a1 a2 a.heap.objs.size xs ys ⟨T.lt,t.lt⟩,⟨g1,g2,⟨_,_,g3⟩,g4,g5⟩,λc hc=>?_,q⟩;have L:a.heap.objs.size<=c:=by
  rcases WS hc with y |y |y |y |y<;>(rw[y];first |exact DL _ _ |exact Ak _)
 exact f.pz L (f.cY.fresh L)
theorem SE (h:dN K a As): lp K (UU K a) (U6 As):=λF0 H0 F H Y δ P R e w q=>h F0 H0 F H Y δ _ _ e w λds vs F' H' p x r=>by
 split at p
 .rename_i xs ys;obtain⟨B,p⟩:=p;obtain⟨v1,v2,rfl,⟨O,U,rfl,h1,h2⟩,⟨J,u,rfl,k1,k2⟩⟩:=xk r;have G:=h2.length;have C:=k2.length;refine⟨O,J,U,u,rfl,x.fh.lO h1,x.fh.lO k1,q _ _ F' H' p x λF1 H1 f c=>?_⟩;have Q:=(f.trans c).lO h1;have m:=(f.trans c).lO k1;have L:((xs.zip ys).map λp=>D.tup [p.1,p.2]).length=xs.length:=by simp;lia
  refine⟨λi hi=>⟨Q,m,by lia,by lia⟩,⟨Q,by lia⟩,λi x H2 hi y=>?_⟩;obtain⟨t,y1,y2,rfl,ht,M,l,k,T⟩:=y;obtain⟨A,o,j⟩:=h2.get' l;obtain⟨v,n,g⟩:=k2.get' k;refine⟨.tup [A,v],c8 F1 t (.tup [y1,y2]),?_,cP.new c ht M T,t,[y1,y2],rfl,.inl (.inl a9),?_⟩
  .rw [AN,Cu (z:=(A,v)) |>.mpr ⟨o,n⟩];rfl
  .exact ⟨_,_,rfl,(j.mono f).mono (a6.yH (c.free ht)),_,_,rfl,(g.mono f).mono (a6.yH (c.free ht)),rfl⟩
 .exact p.elim
end
section
variable {X:Cx}{K:Ar}{x:Am}{kds:List (Am×D)}{i:Expr}{ty:TE}{pos pos':DR}
end
section
variable {M:Jr}{A:AX}{E:Aa->Ae->Prop}{s:Ae}
end
section
variable {X:Cx}{pins:List (Ac×Co)}{Y:St}{H:Hp}{s:Ae}{scope:Ck}{N:List Am}{ix:List (Option Nat)}{fp:List Ac}{z:Am}
end
section
variable {X:Cx}{tg elt iter:Expr}{scope:Ck}{N:List Am}{ix:List (Option Nat)}{wi:TI}{g:TG}{te:TE}{pos:DR}{z:Am}
end
section
variable {X:Cx}
end
section
variable {K:Ar}
end
noncomputable def g1 {c:Type}(l r:List c):List c->List c->List c
 | [a],[b]=>a::(l++b::r)
 |_,_=>[]
section
variable {P:AE}{w:AU}{K:Ar}{mg:Am->Option Aa}{base:Heap}{x:Am}{k:Nat}{ps:List Am}{sp:Sp}{d0 d1:V}
end
section
variable {X:Cx}{x:Am}{k:Nat}{ps:List Am}{sp:Sp}{d0 d1:V}{e c:Expr}{t tk:TA}{p pos kp:DR}{nm:Am}
end
section
variable {K:Ar}
end
section
variable {K:Ar}
end
section
variable {K:Ar}{F0 H0 F H F' H':Hp}{Y:St}{δ:c7}{A:Nat->List Ac}{i:Nat}
theorem ER.swap {t t':OV}{v:V}{Bn:List Ac}(e:ER K F0 H0 F H Y δ A)(O:δ[i]?=some (some (.own t)))(p:Y[i]?=some (some v))(G:a6 F F')(L:a6 F' H')(keep:∀b o,b∉A i->H b=some o->H' b=some o)
  (n:∀b o,F b=none->H b=some o->R5 o=false->b∉A i->F' b=none) (r:gr K F' H' t' v Bn) (M:Bn.Nodup) (w:∀b∈Bn,F' b=none/\(b∈A i∨H b=none)):cp K F0 H0 F' H' Y (δ.set i (some (.own t'))):=by
 have l:i<δ.length:=(Ab.mp O).1;refine⟨λj=>if j=i then Bn else A j,?_⟩;refine⟨by simp[e.len],⟨e.ext.ff.trans G,λb o h=>?_,L,λb o h1 h2 f=>?_⟩,λj t J=>?_,λj d J=>?_,λj=>?_,λj k b C h1 h2=>?_,λj b B=>?_⟩
 .exact keep b o (λz=>by rw[(e.new i b z).2.1]at h;cases h) (e.ext.hh _ _ h)
 .exact n b o (e.ext.no b o h1 h2 f) (e.ext.hh _ _ h2) f (λz=>by rw[(e.new i b z).2.1]at h2;cases h2)
 .by_cases z:j=i
  .subst z;rw[if_pos rfl];rw[Az l]at J;cases J;exact⟨_,p,r⟩
  .rw [if_neg z];rw[AL (Bm z)]at J;obtain⟨u,h1,h2⟩:=e.own j t J;exact⟨u,h1,h2.frame G λb B xs q=>keep b _ (λy=>e.iY j i b z B y) q⟩
 .by_cases z:j=i
  .subst z;rw[Az l]at J;cases J
  .rw [AL (Bm z)]at J;exact e.bw j d J
 .split
  .exact M
  .exact e.i5 j
 .have key:∀k,k≠i->b∈Bn->b∈A k->False:=λk Q g a=>by
   rcases (w b g).2 with y |y
   .exact e.iY k i b Q a y
   .obtain ⟨_,_,xs,q,_⟩:=e.new k b a;rw[y]at q;cases q
  split at h1
  .split at h2
   .lia
   .rename_i g a;exact key k a h1 h2
  .split at h2
   .rename_i g a;exact key j g h2 h1
   .exact e.iY j k b C h1 h2
 .split at B
  .have T:H0 b=none:=by
    rcases (w b B).2 with y |y
    .exact (e.new i b y).2.1
    .exact e.ext.hh.free y
   exact⟨(w b B).1,T,r.sq b B⟩
  .rename_i z;obtain⟨h1,h2,xs,f,m⟩:=e.new j b B;have c:b∉A i:=λy=>e.iY j i b z B y
   exact⟨n b _ h1 f m c,h2,xs,keep b _ c f,m⟩
end
def zi (c:Am)(ns:List Am)(i j:Nat)(C:Am)(a:List Am)(n:Nat)(sp:wD)(A:DA):DS:=λg δ=>match δ[i]? with
 |some (some (.own (.ob o f e ts)))=>f=c/\e=ns/\∃O t,ts[j]?=some (.ob O C a t)/\A δ λds=>ds.length+1=n/\sp t ds λT=>g.nx (δ.set i (some (.own (.ob o c ns (ts.set j (.ob O C a T))))))
 |_=>False
section
variable {K:Ar}{c f m c2:Am}{ns Xw:List Am}{i j:Nat}
theorem Po {n:Nat}{sp:wD}{a:TA}{As:DA}(CV:du K c ns)(CV2:du K c2 Xw)(hf:ns[j]?=some f)(hm:m∉Xw)(ha:dN K a As):bR K (jQ (iq K c2 m (nC K n c2 Xw sp) (yN K (eT i) f) a)) (zi c ns i j c2 Xw n sp As):=λF0 H0 F H Y δ De En e l w=>by
 unfold zi at w;split at w
 .rename_i o c' Yl ts hs;obtain⟨rfl,rfl,o2,Ř,hx,w⟩:=w;obtain⟨A,e⟩:=e;obtain⟨v,hv,p,C,J,vs,B,rfl,eA,h0,ho,h1,h2,hl,h3⟩:=e.own i _ hs;obtain⟨C',YN,cl,na⟩:=CV.ex;rw[h0]at YN;cases YN;obtain⟨v0,G,B0,u,f1,rfl,f3,f4⟩:=h3.focus hx;obtain⟨g,C2,k,ŕ,O,rfl,rfl,ý,Ż,Ľ,϶,Ĭ,ϵ⟩:=f3;refine⟨C2,ý,_,hv,p,C,J,_,.ref g,rfl,h1,cl,na f (An hf),(by rw[lZ CV.nd hf];exact f1),g,k,_,rfl,Ľ,ed hm,?_⟩;refine ha F0 H0 F H Y δ _ _ ⟨A,e⟩ w λds us F1 H1 w1 L r1=>?_
  rw[Bi];have e1:=e.on L;have Ow:=e.i5 i;rw[eA]at Ow;obtain⟨n1,n2⟩:=AD.mp Ow;obtain⟨n3,n4⟩:=AD.mp n2;obtain⟨m1,m2,m3⟩:=AQ.mp n4;obtain⟨q1,q2,q3⟩:=AQ.mp m2;have M:∀b,b∈g::k::O->b∈A i:=λb h=>by
   rw[eA];exact Aj _ (Aj _ (AR _ (By _ h)))
  refine⟨by rw[Bg,<- r1.length];exact w1.1,F1,g,C2,k,Ř,ŕ,O,us,ds,_,rfl,ý,e1.ext.fh,L.hh _ _ Ľ,L.hh _ _ ϶,Ĭ,ϵ.frame L.ff λb _ xs z=>L.hh _ _ z,q1,λb h=>(e1.new i b (M b h)).1,r1,w1.2,?_⟩;intro M7 F' H' r Vr Q pt sF sH keep T WJ xV WK R6 Wg U;have off:∀b,b∈G++u->b∉g::k::O:=λb h z=>by
   rcases Au.mp h with y |y
   .exact m3 b y b (By _ z) rfl
   .exact q3 b z b y rfl
  have é:p∉g::k::O:=λz=>n1 (Aj _ (AR _ (By _ z)))
  have ò:J∉g::k::O:=λz=>n3 (AR _ (By _ z))
  have WU:=f4 F' H' (.ob o2 c2 Xw M7) (.ref g) (g::r::Q) (L.ff.trans sF) (λb h xs z=>keep b _ (off b h) (L.hh _ _ z)) ⟨g,C2,r,Vr,Q,rfl,rfl,ý,Ż,WJ,xV,WK,R6⟩;rw[eM f1]at WU;have fresh:∀b,b∈g::r::Q->b∉g::k::O->H1 b=none:=λb h hn=>by
   rcases (U b h).2 with y |y
   .exact absurd y hn
   .exact y
  have hold:∀b,b∈A i->∃xs,H1 b=some xs:=λb h=>by
   obtain⟨_,_,xs,q,_⟩:=e1.new i b h;exact⟨xs,q⟩
  have WL:∀b,b∈p::J::(G++u)->b∈A i:=λb h=>by
   rw[eA];rcases AB.mp h with y |y
   .simp [y]
   .rcases AB.mp y with y |y
    .simp [y]
    .rcases Au.mp y with y |y<;>simp[y]
  have t:∀b,b∈p::J::(G++u)->b∉g::r::Q:=λb h z=>by
   have hn:b∉g::k::O:=by
    rcases AB.mp h with y |y
    .rw [y];exact é
    .rcases AB.mp y with y |y
     .rw [y];exact ò
     .exact off b y
   obtain⟨xs,Ģ⟩:=hold b (WL b h);rw[fresh b z hn]at Ģ;cases Ģ
  refine l.nx F' H' Y _ (e1.swap hs hv sF sH (λb o' h z=>keep b o' (λy=>h (M b y)) z) (λb o' z1 z2 z3 z4=>T b o' z1 z2 z3 λy=>z4 (M b y)) (t':=.ob o c' Yl (ts.set j (.ob o2 c2 Xw M7))) (Bn:=p::J::(G++((g::r::Q)++u)))
   ⟨p,C,J,vs,G++((g::r::Q)++u),rfl,rfl,h0,ho,keep _ _ é (L.hh _ _ h1),keep _ _ ò (L.hh _ _ h2),by rw[BD];exact hl,WU⟩ ?_ ?_) pt
  .have nm:(G++((g::r::Q)++u)).Nodup:=by
    refine AQ.mpr ⟨m1,AQ.mpr ⟨Wg,q2,λx hx y hy z=>?_⟩,λx hx y hy z=>?_⟩
    .exact t y (Aj _ (Aj _ (AR _ hy))) (z▸hx)
    .rcases Au.mp hy with y' |y'
     .exact t x (Aj _ (Aj _ (By _ hx))) (z▸y')
     .exact m3 x hx y (AR _ y') z
   have mid:∀b,b∈G++((g::r::Q)++u)->b∈G++u∨b∈g::r::Q:=λb h=>by
    rcases Au.mp h with y |y
    .exact .inl (By _ y)
    .rcases Au.mp y with y |y
     .exact .inr y
     .exact .inl (AR _ y)
   have up:∀b,b∈G++u->b∈G++((g::k::O)++u):=λb h=>by
    rcases Au.mp h with y |y
    .exact By _ y
    .exact AR _ (AR _ y)
   refine AD.mpr ⟨λz=>?_,AD.mpr ⟨λz=>?_,nm⟩⟩
   .rcases AB.mp z with z |z
    .exact n1 (by rw[z];exact AF)
    .rcases mid p z with y |y
     .exact n1 (Aj _ (up p y))
     .exact t p AF y
   .rcases mid J z with y |y
    .exact n3 (up J y)
    .exact t J (Aj _ AF) y
  .intro b h;have old:b∈p::J::(G++u)->F' b=none/\(b∈A i∨H1 b=none):=λy=>by
    have hn:b∉g::k::O:=by
     rcases AB.mp y with y |y
     .rw [y];exact é
     .rcases AB.mp y with y |y
      .rw [y];exact ò
      .exact off b y
    obtain⟨g1,g2,xs,g3,g4⟩:=e1.new i b (WL b y);exact⟨T b _ g1 g3 g4 hn,.inl (WL b y)⟩
   rcases AB.mp h with y |y
   .exact old (by rw[y];exact AF)
   .rcases AB.mp y with y |y
    .exact old (by rw[y];exact Aj _ AF)
    .rcases Au.mp y with y |y
     .exact old (Aj _ (Aj _ (By _ y)))
     .rcases Au.mp y with y |y
      .refine ⟨(U b y).1,?_⟩;rcases (U b y).2 with z |z
       .exact .inl (M b z)
       .exact .inr z
      .exact old (Aj _ (Aj _ (AR _ y)))
 .exact w.elim
end
end L2
namespace PySem
def so (t:Array Aa)(P:Nat->Aa->Prop)(a:Array Aa)(i:Nat):Prop:=∃new:Array Aa,a=t++new/\G1 P new i
section
variable {prog:AE}{w:AU}{A:AX}{R:F7->Ae->Prop}{I:Ac}{fp wr:List Ac}{G:Array Iy->Array Iy->Prop}{n:Nat}{P:Nat->Aa->Prop}{St:Nat->Ae->Prop}
theorem yq (t:Array Aa)(W:WalksS prog w A.in1 I fp wr G n P St)(hn:t.size+n<=AH)(S:Ac)(p:S∉fp)(res:Aa):
  ∀(k i:Nat) (s:Ae) (f:Array Aa) (c:Nat),n-i=k->i<=n->St i s->s.heap.get? S=some {cls:=.type "list",dict:=none,data:=.seq f c,slots:=#[]}->so t P f i->
  (∀s' a O,Moved (S::wr) G s s'->s'.heap.get? S=some {cls:=.type "list",dict:=none,data:=.seq a O,slots:=#[]}->so t P a n->R (.ok (.ret res)) s')->
  Cw (model prog w) A (.builtin "list.extend.loop" ⟨[.ref S,.ref I,res],[]⟩) R s:=by
 have Q:S∉wr:=λh=>p (W.sub _ h)
 have up:∀b∈wr,b∈S::wr:=λb B=>Aj _ B
 intro k
 induction k with
 |zero=>
  intro i s f c hk hi T z C J;obtain rfl:i=n:=by lia
  refine JN F.entry_extend_loop ?_;exact Ad (W.done s _ _ T λs' M=>AK (J s' f c (M.mono up) (M.heap S _ Q z) C))
 |succ k U=>
  intro i s f c hk hi T z C J;have L:i<n:=by lia
  refine JN F.entry_extend_loop ?_;refine Ad (W.item i s _ _ L T λv s' hP l M=>?_);have r:=M.heap S _ Q z;obtain⟨new,rfl,g⟩:=C;have hsz:(t++new).size=t.size+i:=by rw[FJ,g.1]
  refine Ad ?_;refine Ev r rfl (AK ⟨Hy F.plain_extend_loop _,U (i+1) _ ((t++new).push v) _ (by lia) L (W.frame _ s' _ s'.toks l (Ak _) λb B o e=>?_) (Cm _ r rfl) ⟨new.push v,by simp,g.push hP⟩ λu a O m q j=>?_⟩)
  .exact (Cc _ _ (λh:S=b=>p (by rw[h];exact B))).trans e
  .refine J u a O (Moved.trans W.gtrans ((M.mono up).then_heap (by first |exact Ak _ |exact G4 _ |omega) λb o B e=>?_) m) q j;exact (Cc _ _ (λh:S=b=>B (by rw[h];exact AF))).trans e
end
section
variable {prog:AE}{w:AU}{A:AX}{E:Aa->Ae->Prop}{s:Ae}
theorem ma {R:F7->Ae->Prop}(r:A.handled=none)(x:Am)(t:K3)(S:Ac)(res:Aa)(c:Array Aa)(j:Nat)(q:s.heap.get? S=some {cls:=.type "list",data:=.seq c j})
  (u:∀h' tk a C,(∀b o,b≠S->s.heap.get? b=some o->h'.get? b=some o)->h'.get? S=some {cls:=.type "list",dict:=none,data:=.seq a C,slots:=#[]}->
   so c (SignAt x) a x.cps.size->R (.ok (.ret res)) {s with heap:=h',toks:=tk}) (hn:c.size+x.cps.size<=AH):
  AJ (model prog w) A.in1 (Fx (.ref S) (.str x t) res)
   (λfin s'=>match fin with | .done f=>R (.ok f) s' | .again C=>C.quiet=true/\Cw (model prog w) A C R s') (λe s'=>R (.error e) s') s:=by
 have n:S≠s.heap.objs.size:=Bx (AY q);have l:S∉[s.heap.objs.size]:=λm=>n (AM.mp m)
 refine Ad (KE (T := "str") (v:=.str x t) rfl ?_);have h1:DY (.ref S) (.str x t)=false:=rfl;have h2:(CM "str"==CM "list")=false:=rfl;have z:(CM "str"==CM "tuple")=false:=rfl;refine Ad (wpAny_pyIter_str λo St W k=>?_);refine Ad (EU ?_);refine Ad (Dl (T := "str") (v:=.str x t) rfl F.str_len ?_);refine Ad (DZ (T := "str") (v:=.str x t) (b:=true) rfl (by rw[C6];kernel_rfl) ?_);refine AK ?_;refine AK ⟨Hy F.plain_extend_loop _,yq c (W A.in1 r).toS hn _ l _ x.cps.size 0 _ _ _ rfl (Bv _) k (Af _ q) ⟨#[],rfl,IK _⟩ λs' a C m p g=>?_⟩;rw[IJ m];refine u s'.heap s'.toks a C (λb ob B e=>m.heap b ob (λh=>?_) (Af _ e)) p g;rcases AB.mp h with e' |h
 .exact B e'
 .exact absurd (AY e) (by rw[AM.mp h];exact B3 _)
end
end PySem
namespace L2
open PySem PySem.Spec PyProof.Rows
section
variable {X:Cx}
def UL:V->List V->Hp->VK->Prop:=λx vs H Q=>∃l t xs,x = .ref l/\vs=[.str t]/\H l=some (.lst xs)/\xs.length+t.cps.size<=AH/\Q .cn (c8 H l (.lst (xs++(iQ t).map V.str)))
theorem M3 {x:Am}{a:Array Aa}(h:G1 (SignAt x) a x.cps.size):bI ((iQ x).map V.str) a.toList:=by
 have key:∀(cs:List Nat) (us:List Aa),us.length=cs.length->(∀(j:Nat) (u:Aa),us[j]?=some u->∃c t,cs[j]?=some c/\u=FR ⟨#[c]⟩ t)->bI ((cs.map λc=>(⟨#[c]⟩:Am)).map V.str) us:=by
  intro cs
  induction cs with
  |nil=>
   intro us hl _;rw[BS.mp hl];exact .nil
  |cons c cs g=>
   intro us hl U
   match us,hl with
   |u::us,hl=>
    obtain⟨C,t,f,e⟩:=U 0 u rfl;cases f;exact .cons ⟨t,e⟩ (g us (by simpa using hl) λj w J=>U (j+1) w J)
 refine key x.cps.toList a.toList h.1 λj u J=>?_
 obtain⟨c,t,f,e⟩:=h.2 j u (by simpa using J);exact⟨c,t,by simpa using f,e⟩
theorem Te (hc:X.calm=true):Z_ X "list.extend" UL:=by
 intro pins s Y H x vs v us Q I j m h;obtain⟨l,t,xs,rfl,rfl,g,p,q⟩:=h;cases j;obtain⟨u,rfl,U⟩:=m.one;obtain⟨tk,rfl⟩:=U;obtain⟨z,T,n,r,hl,e⟩:=I.QV g;refine EH (codeAny_call_builtin F.slot_list_extend.plain F.entry_list_extend (F.slot_list_extend.check _ _ _ _ _ _ _ _ ⟨_,e,rfl⟩ (F.args_list_extend_2 _ _) ?_));refine ma (R:=wants (EP X pins Y Q) X.xe) (I.ok.hd hc) t tk l .none T.toArray n e (λh' k A M G a c=>?_) (by rw[Aq];lia);obtain⟨new,rfl,w⟩:=c;have B:=r.append (M3 w);have L:T.toArray++new=(T++new.toList).toArray:=by simp
 rw[L]at a;have f:(xs++(iQ t).map V.str).length<=AH:=by
  rw[AG,Ay,iQ,Ay];exact p
 exact⟨.cn,_,I.write (o:=.lst (xs++(iQ t).map V.str)) (by rw[g];exact trivial) (.inl rfl) (λb u J C=>G b u J C) ⟨_,a⟩ ⟨f,T++new.toList,M,B,a⟩,rfl,q⟩
def P9:V->List V->Hp->VK->Prop:=λx vs H Q=>∃a b,x = .str a/\vs=[.str b]/\a.length<=AH/\Q (.str (Ew a b)) H
theorem QQ:Zv X "str.strip" P9:=by
 intro pins s Y H x xs v us Q I c r h;obtain⟨a,b,rfl,rfl,z,q⟩:=h;obtain⟨t,rfl⟩:=c;obtain⟨u,rfl,U⟩:=iM r;obtain⟨t',rfl⟩:=U;exact PySem.W.KXw.stripChars rfl z λT k=>⟨.str _,H,I.tok k,⟨_,rfl⟩,q⟩
end
def Rr (E c:DE):DE:=λδ P=>E δ λd=>match d with
 | .str x=>c δ λl=>match l with
  | .str y=>x.length<=1000000/\P (.str (Ew x y))
  |_=>False
 |_=>False
def zk (c:Am)(ns:List Am)(i j:Nat)(E:DE):DS:=λe δ=>match δ[i]? with
 |some (some (.own (.ob o C n ts)))=>C=c/\n=ns/\∃us,ts[j]?=some (.nl us)/\E δ λd=>match d with
  | .str x=>us.length+x.cps.size<=1000000/\e.nx (δ.set i (some (.own (.ob o c ns (ts.set j (.nl (us++(iQ x).map λs=>.fz (.str s))))))))
  |_=>False
 |_=>False
section
variable {K:Ar}{c f:Am}{ns:List Am}{i j:Nat}
theorem PM (h:dM K t E)(A:dM K T L): cH K (Us K "str" P9 t (iN T mj)) (Rr E L):=λn m F H Y δ P Q e w q=>h n m F H Y δ _ _ e w λd v G B g k p=>by
 split at g
 .rename_i x
  cases (show v=V.str x from p)
  refine⟨rfl,A n m G B Y δ _ _ (e.on k) g λl u C z a o r=>?_⟩;split at a
  .rename_i y
   cases (show u=V.str y from r)
   exact⟨x,y,rfl,rfl,eG a.1,q _ _ C z a.2 (k.trans o) rfl⟩
  .exact a.elim
 .exact g.elim
theorem tS {F:Hp}:∀(a:List Am),bE K F (a.map D.str) (a.map V.str)
 | []=>rfl
 |s::a=>⟨_,_,rfl,rfl,tS a⟩
theorem Pp {T:TE}{E:DE}(CV:du K c ns)(hf:ns[j]?=some f)(h:cH K T E):bR K (jQ (Us K "list" UL (yN K (eT i) f) (iN T mj))) (zk c ns i j E):=λF0 H0 F H Y δ De En e l w=>by
 obtain⟨A,e⟩:=e;unfold zk at w;split at w
 .rename_i o c' Yl ts hs;obtain⟨rfl,rfl,us,hx,w⟩:=w;obtain⟨v,U,a,C,dx,vs,B,rfl,O,h0,ho,h1,h2,hl,h3⟩:=e.own i _ hs;obtain⟨C',r,cl,na⟩:=CV.ex;rw[h0]at r;cases r;obtain⟨v0,A1,B0,A2,f1,rfl,f3,f4⟩:=h3.focus hx;obtain⟨g,G,B1,rfl,rfl,hc,n⟩:=f3;refine⟨_,U,a,C,dx,_,.ref g,rfl,h1,cl,na f (An hf),(by rw[lZ CV.nd hf];exact f1),.inl ⟨rfl,_,eR.of hc⟩,?_⟩;refine h F0 H0 F H Y δ _ _ ⟨A,e⟩ w λd u F1 H1 p m ru=>?_
  split at p
  .rename_i x
   cases (show u=V.str x from ru)
   have e1:=e.on m;have Ŭ:=n.length;refine⟨g,x,G,rfl,rfl,m.hh _ _ hc,eG (by lia),?_⟩;have q:=e.i5 i;rw[O]at q;obtain⟨n1,n2⟩:=AD.mp q;obtain⟨n3,Q⟩:=AD.mp n2;have L:g∈A i:=by rw[O];simp
   obtain⟨m1,m2,m3⟩:=AQ.mp Q;obtain⟨q1,q2,q3⟩:=AQ.mp m2;obtain⟨s1,s2⟩:=AD.mp q1;have off:∀b∈A1++A2,b≠g:=λb k z=>by
    subst z;rcases Au.mp k with y |y
    .exact m3 b y b (by simp) rfl
    .exact q3 b (by simp) b y rfl
   have M:a≠g:=λz=>n1 (by rw[z];simp)
   have J:dx≠g:=λz=>n3 (by rw[z];simp)
   have em:(iQ x).map (λs=>OV.fz (.str s))=((iQ x).map D.str).map OV.fz:=by rw[A8];rfl
   have t:=f4 F1 (c8 H1 g (.lst (G++(iQ x).map V.str))) (.nl (us++(iQ x).map λs=>.fz (.str s))) (.ref g) (g::(B1++[])) m.ff (λb k xs z=>a8 (off b k) (m.hh _ _ z))
    ⟨g,G++(iQ x).map V.str,B1++[],rfl,rfl,a9,by
     rw[em];exact bg.append (n.frame m.ff λb k xs z=>a8 (λy=>s1 (by rw[<- y];exact k)) (m.hh _ _ z)) (bg.ZW (tS _))⟩
   rw[eM f1,Bi]at t;exact l.nx F1 _ Y _ (e1.obj U O h0 ho (a8 M (m.hh _ _ h1)) (a8 J (m.hh _ _ h2)) (by rw[BD];exact hl) t Q (λb k=>.inl k) λb o' k z=>a8 (λy=>k (by rw[y];exact L)) z) p.2
  .exact p.elim
 .exact w.elim
end
end L2
namespace PySem.W
open PySem PySem.Spec PySem.Calls PyProof.Rows Builtin Builtin.ObjectAttr Builtin.Getset_descriptor
section
variable {prog:AE}{w:AU}{A:AX}{E:Aa->Ae->Prop}{s:Ae}{K:Ar}{x D:Ac}{ox:Co}
end
end PySem.W
namespace L2
open PySem PySem.Spec PyProof.Rows PyProof.V PySem.W
section
variable {X:Cx}
end
section
variable {K:Ar}{F0 H0:Hp}{t u:TS}{T U:DS}
theorem bR.x (h:bR K t T): ow K F0 H0 t T:=λF H Y δ e n=>h F0 H0 F H Y δ e n
theorem dq (h:ow K F0 H0 t T)(g:ow K F0 H0 u U): ow K F0 H0 (OS t u) (Pj T U):=λF H Y δ c E e l w=>
 h F H Y δ {c with nx:=U c} _ e ⟨λn m k a j f=>g n m k a c E j l f,l.bk,l.ct,l.rt⟩ w
end
theorem Qz {K:Ar}{m:Am->Option Aa}{base:Heap}{c:Am}{C:Ac}(X:K.In base)(G:base.Ns Ai m)(e:Cq K Ai c=some (some (.ref C)))
  (q:excIn K C [.type "ValueError",.type "Exception",.type "BaseException",.type "object"] "ValueError.__new__"=true):Fy c C [.type "ValueError",.type "Exception",.type "BaseException",.type "object"] "ValueError.__new__" m base:=by
 refine⟨Go X G e,?_⟩;unfold excIn at q;split at q
 .rename_i dd cd g o;split at q
  .rename_i k B k0 k1 k2 k3 n k5 M j;simp only[CJ,beq_iff_eq,Bool.not_eq_true']at q;obtain⟨⟨⟨⟨⟨rfl,rfl⟩,L⟩,ht⟩,h⟩,f⟩:=q;obtain⟨nm,bs,r,ns,Q,hd,sn,sub,ab,col,del⟩:=cd;subst M L;have a:g=#[k0,k1,k2,k3,some (.builtin "ValueError.__new__"),k5]:=by
    obtain⟨l⟩:=g;simp only at j
    rw[j]
   subst a;exact⟨B,ns,nm,Q,bs,hd,sn,sub,ab,col,dd,k0,k1,k2,k3,k5,_,X _ _ o,.of_isNs (PySem.W.isNs_of_in X h),PySem.W.nsMap_none_of_in X h f,PySem.W.tail_of_in X ht⟩
  .cases q
 .cases q
section
variable {P:AE}{w:AU}{K:Ar}{mg:Am->Option Aa}{base:Heap}{N:List Am}{qual:Am}{scope:Ck}{f:Ac}{cd:Aa}{A:AX}{outer:List EJ}{s:Ae}{H:Hp}{E:XK}
end
section
variable {K:Ar}{F0 H0 F H:Hp}{Y:St}{δ:c7}{A:Nat->List Ac}
end
open PySem PySem.Spec PyProof.Rows
section
variable {X:Cx}{K:Ar}
end
open PySem PySem.Spec PyProof.Rows PyProof.V PySem.W
section
variable {X:Cx}
end
section
variable {K:Ar}{X:Cx}
end
section
variable {M:Jr}{A:AX}{E:Aa->Ae->Prop}{s:Ae}
end
section
variable {P:AE}{w:AU}{K:Ar}{mg:Am->Option Aa}{base:Heap}{N:List Am}{qual:Am}{scope:Ck}{f:Ac}{cd:Aa}{A:AX}{outer:List EJ}{s:Ae}{H:Hp}{E:XK}
end
section
variable {P:AE}{w:AU}{K:Ar}{mg:Am->Option Aa}{base:Heap}{N0:List Am}{qual:Am}{VA:Ck}{f:Ac}{cd:Aa}{A:AX}{outer:List EJ}{s0:Ae}{H0:Hp}{E:XK}
variable {X:Cx}{tg iter e:Expr}{es:List Expr}{scope:Ck}{N:List Am}{ix:List (Option Nat)}{wi:TI}{g:TG}{ta:TA}{pos p rX:DR}{x:Am}{k:Nat}{ps:List Am}{sp:Sp}
end
section
variable {K:Ar}{F0 H0:Hp}
end
open PySem PySem.Spec PyProof.Rows
section
variable {X:Cx}{K:Ar}
end
open PySem PySem.Spec PyProof.Rows PyProof.V PySem.W
section
variable {K:Ar}{h:Heap}{mg:Am->Option Aa}{x m q c:Am}{st:AW}{f T C:Ac}{od an Ŧ:Option Ac}{sl Ş:Array (Option Aa)}{oc kV dc pm cd ct ŧ:Aa}{nT:Nat}{ds:Array Aa}
theorem fj (X:K.In h)(G:h.Ns Ai mg)(a:Cq K Ai x=some (some (.ref f)):=by k_is)(l:K.lookup f=some ⟨oc,od,.func (Ep x x (bZ st) (bx st) (aA st) .none kV dc pm an cd ct),sl⟩:=by k_is)(d:F6 K cd x=true:=by k_is)(k:D_ K (.ref f)=true:=by k_is):
  bG K mg x st f (Ep x x (bZ st) (bx st) (aA st) .none kV dc pm an cd ct):=⟨zZ l d k,Go X G a⟩
theorem YZ (X:K.In h)(G:h.Ns Ai mg)(a:Cq K Ai x=some (some (.ref f)):=by k_is)(l:K.lookup f=some ⟨oc,od,.func (Ep x x (bZ st) (bx st) (aA st) (.ref T) kV dc pm an cd ct),sl⟩:=by k_is)(d:F6 K cd x=true:=by k_is)(k:D_ K (.ref f)=true:=by k_is)(dl:K.lookup T=some ⟨ŧ,Ŧ,.seq ds nT,Ş⟩:=by k_is):
  wy K mg x st f (Ep x x (bZ st) (bx st) (aA st) (.ref T) kV dc pm an cd ct) T ds:=⟨⟨_,_,_,_,_,_,_,_,_,rfl,l,d⟩,⟨_,_,dl,rfl⟩,k,Go X G a⟩
theorem ZZ (X:K.In h)(G:h.Ns Ai mg)(a:Cq K Ai x=some (some (.ref f)):=by k_is): ny K mg x:=⟨_,a,Go X G a⟩
theorem Y1 (X:K.In h)(A:Cq K Ai c=some (some (.ref C)):=by k_is)(p:Gn K C Fs=true:=by k_is)(hd:GJ K C=true:=by k_is)(po:HK K C=true:=by k_is)(a:Ed K (.ref C) "__setattr__"=some (some (.builtin "object.__setattr__")):=by k_is)(hn:∀f∈ns,Ed K (.ref C) f=some none)(h1:ns.Nodup)(h2:ns.length<1000): du K c ns:=
 ⟨⟨C,A,⟨p,hd,po,a⟩,hn⟩,h1,h2⟩
theorem m_ (X:K.In h)(g:du K c ns)(A:Cq K Ai c=some (some (.ref C)):=by k_is)(a:Ed K (.ref C) m=some (some (.ref f)):=by k_is)(i:KJ K (.ref f)=true:=by k_is)(l:K.lookup f=some ⟨oc,od,.func (Ep m q (bZ st) (bx st) (aA st) .none kV dc pm an cd ct),sl⟩:=by k_is)(d:F6 K cd q=true:=by k_is)(k:D_ K (.ref f)=true:=by k_is):
  fq K c m q st f (Ep m q (bZ st) (bx st) (aA st) .none kV dc pm an cd ct):=by
 obtain⟨j,e,Z,_⟩:=g.ex;rw[A]at e;cases e;exact⟨zZ l d k,⟨_,A,Z,⟨a,i,k⟩⟩⟩
theorem Y0 (X:K.In h)(G:h.Ns Ai mg)(A:Cq K Ai c=some (some (.ref C)):=by k_is)(mk:Jo K C=true:=by k_is)(e:D_ K (.ref C)=true:=by k_is)(a:Ed K (.ref C) "__init__"=some (some (.ref f)):=by k_is)(i:KJ K (.ref f)=true:=by k_is)(l:K.lookup f=some ⟨oc,od,.func (Ep "__init__" q (bZ st) (bx st) (aA st) .none kV dc pm an cd ct),sl⟩:=by k_is)(d:F6 K cd q=true:=by k_is)(k:D_ K (.ref f)=true:=by k_is):
  N7 K "__init__" q st f (Ep "__init__" q (bZ st) (bx st) (aA st) .none kV dc pm an cd ct)/\MX K mg c f:=⟨zZ (x := "__init__") l d k,⟨⟨_,A,⟨mk,a,i,e⟩,Go X G A⟩⟩⟩
theorem mz (X:K.In h)(G:h.Ns Ai mg)(e:Cq K Ai n=some none:=by k_is): mg n=none:=PySem.W.mg_none_of X G e
theorem mv (X:K.In h)(G:h.Ns Ai mg)(e:Cq K Ai n=some (some v):=by k_is): mg n=some v:=Go X G e
end
section
variable {K:Ar}
theorem cE.never {P:AE}{w:AU}{m:Am->Option Aa}{base:Heap}{x:Am}{st:AW}{f:Ac}{fd:Ag}{N ps:List Am}{k n:Nat}{sp:c_}(g:bG K m x st f fd)(S:aN N ps (aA st))
  (B:∀(kV o pm:Aa) (e:Option Ac) (c ct:Aa) (us:List Aa),us.length=ps.length->Cr (Ep x x (bZ st) (bx st) (aA st) .none kV o pm e c ct) ⟨us,[]⟩=pure (ps.zip us)) (hn:n=ps.length) (hf:∀ds r,sp ds r->False):bO P w K m base x (k+1) ps (bL K n sp):=
 bO.of g S B (λvs H Q E h=>by rw[<- hn];exact h.1) λc A outer s H vs Q E l h=>by
  obtain⟨_,F,ds,r,j,a,p,q⟩:=h;exact (hf _ _ p).elim
end
section
variable {X:Cx}
end
section
variable {K:Ar}
end
section
variable {K:Ar}
end
section
variable {X:Cx}
end
section
variable {P:AE}{w:AU}{K:Ar}{mg:Am->Option Aa}{base:Heap}{c m q:Am}{ns:List Am}{st:AW}{f:Ac}{fd:Ag}{N ps:List Am}{k n:Nat}
end
section
variable {K:Ar}
end
end L2
namespace PySem
open Builtin
end PySem
namespace L2
open PySem PySem.Spec PyProof.Rows PyProof.V PySem.W
section
variable {X:Cx}
end
section
variable {K:Ar}
end
section
variable {P:AE}{w:AU}{K:Ar}{mg:Am->Option Aa}{base:Heap}{N:List Am}
end
section
variable {X:Cx}
end
section
variable {K:Ar}{te ti:TE}{Eo:DO}{Ei:DE}
end
section
variable {X:Cx}
end
def ă (E c:DE):DO:=λδ P=>E δ λd=>match d with
 | .str x=>c δ λl=>match l with
  | .str y=>1<=y.length/\x.length<=1000000/\P (.nl ((Txt.split x y).map λs=>.fz (.str s)))
  |_=>False
 |_=>False
section
variable {K:Ar}
def VX:wz:=λx y P=>match x,y with
 | .str i,.str j=>P (.bl (!(CY j i 0 j.length 1).isEmpty))
 |_,_=>False
theorem Wb:yE K (λx y H Q=>∃i j,x = .str i/\y = .str j/\Q (.bl (!(CY j i 0 j.length 1).isEmpty)) H) VX:=λF H x y v u P Q s a r w q=>by
 unfold VX at w;split at w
 .exact ⟨_,_,a,r,q _ _ F H w (cP.refl s) rfl⟩
 .exact w.elim
end
section
variable {P:AE}{w:AU}{K:Ar}{mg:Am->Option Aa}{base:Heap}{N:List Am}{qual:Am}{scope:Ck}{f:Ac}{cd:Aa}{A:AX}{outer:List EJ}{s:Ae}{H:Hp}{E:XK}
end
section
variable {K:Ar}{F0 H0:Hp}{t ta tc:TE}{Ec:DO}{Ea:DE}
theorem X4 (h:uI K F0 H0 tc Ec): uI K F0 H0 tc (Z2 (TM Ec)):=λF H Y δ P Q e w q=>h F H Y δ _ _ e w λr v l j f c n=>by
 obtain⟨k,a,_,g⟩:=n.fC c;exact q _ v k j f a (.fz g)
theorem VG (h:uI K F0 H0 tc Ec): ow K F0 H0 (Se tc) (VD Ec):=λF H Y δ g f e l w=>h F H Y δ _ _ e w λr v c a p x n=>l.rt c a r v (e.ext.trans x) (n.old e.ext.hh) p
theorem VF (h:uI K F0 H0 tc Ec): ow K F0 H0 (sv tc (m7 i)) (Sx i Ec):=λF H Y δ g f e l w=>h F H Y δ _ _ e w λr v c a p x n=>l.nx c a _ _ (e.put x i n) p
end
section
variable {P:AE}{w:AU}{K:Ar}{mg:Am->Option Aa}{base:Heap}{N0:List Am}{qual:Am}{VA:Ck}{f:Ac}{cd:Aa}{A:AX}{outer:List EJ}{s0:Ae}{H0:Hp}{E:XK}
variable {X:Cx}{tg iter e:Expr}{es:List Expr}{scope:Ck}{N:List Am}{ix:List (Option Nat)}{wi:TI}{g:TG}{ta:TA}{pos p rX:DR}{x:Am}{k:Nat}{ps:List Am}{sp:Sp}
end
section
variable {K:Ar}{ti:TE}{Ei:DE}
end
abbrev Ue:=List OV->List D->(D->List OV->Prop)->(Am->List OV->Prop)->Prop
def Z6 (K:Ar)(ns:List Am)(C a g:Ac)(B:List Ac)(F H f e:Hp)(t:List OV):Prop:=∃c v h,a6 F f/\a6 f e/\(∀b o,b∉a::g::B->H b=some o->e b=some o)/\(∀b o,F b=none->H b=some o->R5 o=false->b∉a::g::B->f b=none)/\e a=some (.ins C c (ns.zip v))/\e c=some (.own a)/\t.length<=ns.length/\bg K f e t v h/\
 (a::c::h).Nodup/\∀b∈a::c::h,f b=none/\(b∈a::g::B∨H b=none)
def R0 (K:Ar)(n:Nat)(c:Am)(ns:List Am)(sp:Ue):Sp:=λvs H Q E=>vs.length=n/\∃F a C f ts g B dg ds P X,vs=V.ref a::dg/\Cq K Ai c=some (some (.ref C))/\a6 F H/\H a=some (.ins C f (ns.zip g))/\H f=some (.own a)/\ts.length<=ns.length/\bg K F H ts g B/\
 (a::f::B).Nodup/\(∀b∈a::f::B,F b=none)/\bE K F ds dg/\sp ts ds P X/\
 (∀d v t j h,P d t->Z6 K ns C a f B F H j h t->dP K j d v->Q v h)/\
 ∀e k t j h,X e t->Cq K Ai e=some (some (.ref k))->Z6 K ns C a f B F H j h t->E (.ref k) none h
section
variable {K:Ar}{c:Am}{ns:List Am}{i:Nat}
theorem O1 {F0 H0 F H:Hp}{Y:St}{δ:c7}{n:Nat}{sp:Ue}{o:Option Ac}{ts:List OV}{ds:List D}{us:List V}{p:Ac}{P:D->c7->Prop}{X:Am->c7->Prop}{Q:VK}{E:XK}(e:cp K F0 H0 F H Y δ)(hs:δ[i]?=some (some (.own (.ob o c ns ts))))(YC:Y[i]?=some (some (.ref p)))(hn:ds.length+1=n)
  (r:bE K F ds us) (YE:sp ts ds (λd T=>P d (δ.set i (some (.own (.ob o c ns T))))) (λx T=>X x (δ.set i (some (.own (.ob o c ns T))))))
  (q:∀d v g f l,P d l->cp K F0 H0 g f Y l->dP K g d v->Q v f) (qx:∀x C1 g f l,X x l->Cq K Ai x=some (some (.ref C1))->cp K F0 H0 g f Y l->E (.ref C1) none f):R0 K n c ns sp (.ref p::us) H Q E:=by
 obtain⟨A,e⟩:=e;obtain⟨v,hv,a,C,dx,vs,B,rfl,w,h0,ho,h1,h2,hl,L⟩:=e.own i _ hs;rw[YC]at hv;cases hv;have Ow:=e.i5 i;rw[w]at Ow;have yD:i<δ.length:=(Ab.mp hs).1;have key:∀T g f,Z6 K ns C p dx B F H g f T->cp K F0 H0 g f Y (δ.set i (some (.own (.ob o c ns T)))):=by
  rintro T g f ⟨U,Vr,B',sF,sH,keep,O,WJ,xV,WK,R6,Wg,G⟩;refine⟨λj=>if j=i then p::U::B' else A j,?_⟩;refine⟨by simp[e.len],⟨e.ext.ff.trans sF,λb o h=>?_,sH,λb o h1 h2 L=>?_⟩,λj t J=>?_,λj d J=>?_,λj=>?_,λj k b XA h1 h2=>?_,λj b m=>?_⟩
  .exact keep b o (λz=>by rw[(e.new i b (by rw[w];exact z)).2.1]at h;cases h) (e.ext.hh _ _ h)
  .exact O b o (e.ext.no b o h1 h2 L) (e.ext.hh _ _ h2) L (λz=>by rw[(e.new i b (by rw[w];exact z)).2.1]at h2;cases h2)
  .by_cases z:j=i
   .subst z;rw[if_pos rfl];rw[Az yD]at J;cases J;exact⟨_,YC,p,C,U,Vr,B',rfl,rfl,h0,ho,WJ,xV,WK,R6⟩
   .rw [if_neg z];rw[AL (Bm z)]at J;obtain⟨u,h1,h2⟩:=e.own j t J;exact⟨u,h1,h2.frame sF λb m xs q=>keep b _ (λy=>e.iY j i b z m (by rw[w];exact y)) q⟩
  .by_cases z:j=i
   .subst z;rw[Az yD]at J;cases J
   .rw [AL (Bm z)]at J;exact e.bw j d J
  .split
   .exact Wg
   .exact e.i5 j
  .have key:∀k,k≠i->b∈p::U::B'->b∈A k->False:=λk hk z1 z2=>by
    rcases (G b z1).2 with y |y
    .exact e.iY k i b hk z2 (by rw[w];exact y)
    .obtain ⟨_,_,xs,q,_⟩:=e.new k b z2;rw[y]at q;cases q
   split at h1
   .split at h2
    .lia
    .rename_i z1 z2;exact key k z2 h1 h2
   .split at h2
    .rename_i z1 z2;exact key j z1 h2 h1
    .exact e.iY j k b XA h1 h2
  .split at m
   .have hh:H0 b=none:=by
     rcases (G b m).2 with y |y
     .exact (e.new i b (by rw[w];exact y)).2.1
     .exact e.ext.hh.free y
    refine⟨(G b m).1,hh,?_⟩;rcases AB.mp m with y |y
    .rw [y];exact⟨_,WJ,rfl⟩
    .rcases AB.mp y with y |y
     .rw [y];exact⟨_,xV,rfl⟩
     .exact R6.sq b y
   .rename_i z;obtain⟨h1,h2,xs,L,M⟩:=e.new j b m;have YG:b∉p::dx::B:=λy=>e.iY j i b z m (by rw[w];exact y)
    exact⟨O b _ h1 L M YG,h2,xs,keep b _ YG L,M⟩
 exact⟨by rw[Bg,<- r.length];exact hn,F,p,C,dx,ts,vs,B,us,ds,_,_,rfl,h0,e.ext.fh,h1,h2,hl,L,Ow,λb m=>(e.new i b (by rw[w];exact m)).1,r,YE,
  λd v T g f pd hS hr=>q d v g f _ pd (key T g f hS) hr,λx C1 T g f px hC hS=>qx x C1 g f _ px hC (key T g f hS)⟩
end
structure Â where
 nx:c7->Prop
 rt:D->c7->Prop
 xr:Am->c7->Prop
abbrev Ud:=Â->c7->Prop
structure LkR (K:Ar) (F0 H0:Hp) (De:Â) (En:yA) (E:XK):Prop where
 nx:∀F H Y δ,cp K F0 H0 F H Y δ->De.nx δ->En.nx Y H
 rt:∀F H Y δ d v,cp K F0 H0 F H Y δ->dP K F d v->De.rt d δ->En.rt v H
 xr:∀x C F H Y δ,cp K F0 H0 F H Y δ->De.xr x δ->Cq K Ai x=some (some (.ref C))->E (.ref C) none H
def tp (K:Ar)(c a:Hp)(E:XK)(t:TS)(T:Ud):Prop:=∀F H Y δ e n,cp K c a F H Y δ->LkR K c a e n E->T e δ->t n Y H
def ĝ (T:DS):Ud:=λe δ=>T {nx:=e.nx,rt:=λ_=>False} δ
def X_ (T U:Ud):Ud:=λe δ=>T {e with nx:=U e} δ
def ě (C:DT)(T U:Ud):Ud:=λe δ=>C δ λb=>if b=true then T e δ else U e δ
def Qa (x:Am)(m:DE):Ud:=λe δ=>m δ λ_=>e.xr x δ
section
variable {K:Ar}{F0 H0:Hp}{E:XK}{t u:TS}{T U:Ud}
theorem xa {T:DS}(h:bR K t T):tp K F0 H0 E t (ĝ T):=λF H Y δ a n e l w=>h F0 H0 F H Y δ {nx:=a.nx,rt:=λ_=>False} _ e ⟨l.nx,λ_ _ _ _ _ z=>z.elim,λ_ _ _ _ _ z=>z.elim,λ_ _ _ _ _ _ z=>z.elim⟩ w
theorem vb (h:tp K F0 H0 E t T)(g:tp K F0 H0 E u U):tp K F0 H0 E (OS t u) (X_ T U):=λF H Y δ c o e l w=>
 h F H Y δ {c with nx:=U c} _ e ⟨λn m k a j f=>g n m k a c o j l f,l.rt,l.xr⟩ w
theorem Ux {c:TT}{C:DT}(h:ll K c C)(ht:tp K F0 H0 E t T)(j:tp K F0 H0 E u U):tp K F0 H0 E (Sf c t u) (ě C T U):=λF H Y δ g n e l w=>h F0 H0 F H Y δ _ _ e w λb f a p x=>by
 cases b with
 |true=>exact vU (ht f a Y δ g n (e.on x) l p)
 |false=>exact sU rfl (j f a Y δ g n (e.on x) l p)
theorem w_ {x:Am}{C:Ac}{m:TE}{M:DE}(c:Cq K Ai x=some (some (.ref C)))(h:dM K m M):tp K F0 H0 E (OT m λa=>E (.ref C) none a) (Qa x M):=λF H Y δ g n e l w=>
 h F0 H0 F H Y δ _ _ e w λd v f a p x r=>⟨by rw[BI];decide,l.xr _ C f a Y δ (e.on x) p c⟩
end
section
variable {P:AE}{w:AU}{K:Ar}{mg:Am->Option Aa}{base:Heap}{c m q:Am}{ns:List Am}{st:AW}{f:Ac}{fd:Ag}{N ps:List Am}{k n:Nat}
noncomputable abbrev YX (c:Am)(ns:List Am)(a:Ac)(Pr:D->List OV->Prop)(X:Am->List OV->Prop):Â where
 nx:=λδ=>∃M7,δ[0]?=some (some (.own (.ob (some a) c ns M7)))/\Pr .cn M7
 rt:=λd δ=>∃M7,δ[0]?=some (some (.own (.ob (some a) c ns M7)))/\Pr d M7
 xr:=λx δ=>∃M7,δ[0]?=some (some (.own (.ob (some a) c ns M7)))/\X x M7
theorem zC {F H u r:Hp}{C a l:Ac}{B:List Ac}{Y:St}{δ:c7}{t:List OV}(M:Cq K Ai c=some (some (.ref C)))(e:cp K F (λb=>if b∈a::l::B then none else H b) u r Y δ)(O:δ[0]?=some (some (.own (.ob (some a) c ns t)))):Z6 K ns C a l B F H u r t:=by
 obtain⟨A',e⟩:=e;obtain⟨v,hv,T,C',j,g,U,rfl,A,G,go,g1,g2,g3,Q⟩:=e.own 0 _ O;obtain rfl:=go a rfl;rw[M]at G;cases G;have h:=e.i5 0;rw[A]at h;refine⟨j,g,U,e.ext.ff,e.ext.fh,λb o y z=>?_,λb o y1 y2 y3 y4=>?_,g1,g2,g3,Q,h,λb L=>?_⟩
 .exact e.ext.hh b o (by rw[if_neg y];exact z)
 .exact e.ext.no b o y1 (by rw[if_neg y4];exact y2) y3
 .obtain ⟨J,p,_⟩:=e.new 0 b (by rw[A];exact L);refine⟨J,?_⟩;by_cases q:b∈T::l::B
  .exact .inl q
  .rw [if_neg q]at p;exact .inr p
theorem S' {sp:Ue}(Fn:N7 K m q st f fd)(S:aN N ps (aA st))(hn:n=ps.length)
  (o:∀(j:Aa) (A:AX) (outer:List EJ) (s:Ae) (H:Hp) (E:XK),cJ k (A.deeper (BG q (aA st) s.heap.objs.size f j))->
   ∃t T,PSs (eH (RZ P w) P w K mg base N q (aA st) f j A outer s H E) (bx st) t/\(∀F0 H0,tp K F0 H0 E t T)/\∀(a:Ac) ts ds M X,sp ts ds M X->T (YX c ns a M X) (gA N c ns a ts ds)):
  fE P w K mg base (RZ P w) (k+1) f fd ps (R0 K n c ns sp):=by
 obtain⟨oc,od,kV,doc,pm,an,j,ct,Yg,rfl,lk,ZV⟩:=Fn.ex;refine ME lk ZV S (λvs H Q E h=>by rw[<- hn];exact h.1) λA outer s H vs Q E hr h=>?_
 obtain⟨_,F,a,C,dx,ts,Ŗ,B,dg,ds,M,X,rfl,J,hs,ha,hd,L,hB,Ow,ž,U,O,hq,hE⟩:=h;obtain⟨t,T,h1,h2,h3⟩:=o j A outer s H E hr;refine⟨t,h1,h2 F _ F H _ _ _ _ ⟨_,tG J hs ha hd L hB Ow ž U⟩ ⟨λG z Y δ e p=>?_,λG z Y δ d v e r p=>?_,λx C1 G z Y δ e p hx=>?_⟩ (h3 a ts ds M X O)⟩
 .obtain ⟨g,u,l⟩:=p;exact hq .cn .cn g G z l (zC J e u) rfl
 .obtain ⟨g,u,l⟩:=p;exact hq d v g G z l (zC J e u) r
 .obtain ⟨g,u,l⟩:=p;exact hE x C1 g G z l hx (zC J e u)
end
abbrev DEf:=c7->(D->c7->Prop)->Prop
abbrev DTf:=c7->(Bool->c7->Prop)->Prop
section
variable {K:Ar}{ta tb:TE}{Ea Eb:DEf}{Eb':DE}{ua ub:TT}{Ca Cb:DTf}{t u:TS}{T U:DS}
end
structure nB (P:AE) (w:AU) (K:Ar) (mg:Am->Option Aa) (base:Heap) (c m:Am) (k:Nat) (ps:List Am) (sp:Sp):Prop where
 ex:∃C f fd,Cq K Ai c=some (some (.ref C))/\yF K C/\N6 K C m f/\fE P w K mg base (RZ P w) k f fd ps sp/\gf K fd ps []
section
variable {X:Cx}
end
section
variable {K:Ar}
end
section
variable {P:AE}{w:AU}{K:Ar}{mg:Am->Option Aa}{base:Heap}{c m q:Am}{ns:List Am}{st:AW}{f:Ac}{fd:Ag}{N ps:List Am}{k n:Nat}
theorem nB.of {sp:Ue}(e:fq K c m q st f fd)(S:aN N ps (aA st))
  (B:∀(kV o pm:Aa) (j:Option Ac) (v ct:Aa) (us:List Aa),us.length=ps.length->Cr (Ep m q (bZ st) (bx st) (aA st) .none kV o pm j v ct) ⟨us,[]⟩=pure (ps.zip us)) (hn:n=ps.length)
  (h:∀(v:Aa) (A:AX) (outer:List EJ) (s:Ae) (H:Hp) (E:XK),cJ k (A.deeper (BG q (aA st) s.heap.objs.size f v))->
   ∃t T,PSs (eH (RZ P w) P w K mg base N q (aA st) f v A outer s H E) (bx st) t/\(∀u p,tp K u p E t T)/\∀(a:Ac) ts ds r X,sp ts ds r X->T (YX c ns a r X) (gA N c ns a ts ds)):
  nB P w K mg base c m (k+1) ps (R0 K n c ns sp):=by
 obtain⟨C,g,l,M⟩:=e.cl;exact⟨C,f,fd,g,l,M,S' e.fn S hn h,e.fn.binds B⟩
end
def YB (K:Ar)(t:TE):TI:=λY H R=>WG t Y H R∨Mz K t Y H R
theorem V3 {X:Cx}{g l:Expr}{t:TE}(e:PE X l t):PI X g l (YB X.K t):=λpins s Y H R I h=>h.elim (Qo e pins s Y H R I) (cF e pins s Y H R I)
def Zg (E:DE):DA:=λδ P=>WY E δ P∨WZ E δ P
theorem VL {K:Ar}{t:TE}{E:DE}(h:cH K t E):lp K (YB K t) (Zg E):=λc a F H Y δ P R e w q=>w.elim (λw=>.inl (PJ (aH h) c a F H Y δ P R e w q)) λw=>.inr (cL h c a F H Y δ P R e w q)
theorem vi {T U:Ud}{e:Â}{δ:c7}(h:∀N:c7->Prop,(∀a,U e a->N a)->T {e with nx:=N} δ):X_ T U e δ:=h _ λ_ z=>z
section
variable {K:Ar}{h:Heap}{mg:Am->Option Aa}{c wx:Am}{C W:Ac}
theorem XD (X:K.In h)(a:Cq K Ai c=some (some (.ref C)):=by k_is): Cq K Ai c=some (some (.ref C)):=a
theorem dxm (X:K.In h)(a:Cq K Ai c=some (some (.ref C)))(b:Cq K Ai wx=some (some (.ref W)))(e:HZ K (.ref C) (.ref W)=some true): ∀d∈[c],∀D,Cq K Ai d=some (some (.ref D))->HZ K (.ref D) (.ref W)=some true:=λd hd D f=>by
 rw[AM.mp hd,a]at f;cases f;exact e
theorem t2 (l:K.lookup x=some ⟨.type "tuple",o,.seq #[.int p T,.int q t] n,L⟩)(F:Hp): dP K F (.tup [.int p,.int q]) (.ref x):=⟨_,[.int p,.int q],rfl,.inr ⟨_,_,_,l,rfl,rfl,eG (show 2<=1000000 by decide),.cons ⟨_,rfl⟩ (.cons ⟨_,rfl⟩ (.nil))⟩,⟨_,_,rfl,rfl,⟨_,_,rfl,rfl,rfl⟩⟩⟩
theorem t5 (l:K.lookup x=some ⟨.type "tuple",o,.seq #[.int p e,.int q Q,.int r a,.int u T,.int v t] n,L⟩)(F:Hp): dP K F (.tup [.int p,.int q,.int r,.int u,.int v]) (.ref x):=⟨_,[.int p,.int q,.int r,.int u,.int v],rfl,.inr ⟨_,_,_,l,rfl,rfl,eG (show 5<=1000000 by decide),.cons ⟨_,rfl⟩ (.cons ⟨_,rfl⟩ (.cons ⟨_,rfl⟩ (.cons ⟨_,rfl⟩ (.cons ⟨_,rfl⟩ (.nil)))))⟩,⟨_,_,rfl,rfl,⟨_,_,rfl,rfl,⟨_,_,rfl,rfl,⟨_,_,rfl,rfl,⟨_,_,rfl,rfl,rfl⟩⟩⟩⟩⟩⟩
end
theorem bQ.of2 {K:Ar}{h:Heap}(X:K.In h)(h:∀d∈[D.int 0,.bl true,.cn,.str Fs,.tup [],.lst [],.Oz],∀n∈mY,IY K (.type d.ZJ) (.type n)=some (Q4 d n)):bQ K:=by
 refine⟨λd z n hn=>?_⟩;obtain⟨hd,e,a⟩:=z
 cases d with
 |ty m=>exact absurd rfl (hd m)
 |fn m=>exact absurd rfl (e m)
 |exc m=>exact absurd rfl (a.1 m)
 |obj c ns ds=>exact absurd rfl (a.2.1 c ns ds)
 |pW g f Q q=>exact absurd rfl (a.2.2 g f Q q)
 |int _=>exact h (.int 0) (by simp) n hn
 |bl _=>exact h (.bl true) (by simp) n hn
 |cn=>exact h .cn (by simp) n hn
 |str _=>exact h (.str Fs) (by simp) n hn
 |tup _=>exact h (.tup []) (by simp) n hn
 |lst _=>exact h (.lst []) (by simp) n hn
 |Oz=>exact h .Oz (by simp) n hn
noncomputable def pB (C:List Ac)(H:Hp):Hp:=λb=>if b∈C then none else H b
noncomputable def vR (C:List Ac)(T H:Hp):Hp:=λb=>if b∈C then T b else H b
theorem nI {C:List Ac}{H:Hp}{b:Ac}(h:b∈C):pB C H b=none:=if_pos h
theorem da {C:List Ac}{H:Hp}{b:Ac}(h:b∉C):pB C H b=H b:=if_neg h
theorem kA {C:List Ac}{T H:Hp}{b:Ac}(h:b∈C):vR C T H b=T b:=if_pos h
theorem cU {C:List Ac}{T H:Hp}{b:Ac}(h:b∉C):vR C T H b=H b:=if_neg h
def hG (C:List Ac)(T:Hp):Prop:=∀c∈C,∃o u,T c=some (.fC o (.own c))/\o.data = .cell u
section
variable {P:AE}{w:AU}{C:List Ac}{T H H':Hp}{h:Heap}
theorem hG.not (t:hG C T){c:Ac}{u:HO}(hc:c∈C)(e:T c=some u):(∀x,u≠.own x)/\¬ VT u:=by
 obtain⟨o,z,a,g⟩:=t c hc;rw[e]at a;cases a;refine⟨λx q=>(by cases q),λq=>?_⟩;rcases q with⟨_,q⟩ | ⟨O,k,j,f,vs,t,Q,_⟩
 .cases q
 .cases f;rw[g]at Q;cases Q
theorem kK.pB (ok:kK P w H h)(t:hG C H):kK P w (pB C H) h:=λa o e=>by
 by_cases A:a∈C
 .rw [nI A]at e;cases e
 rw[da A]at e;refine (ok a o e).qh (λ_ _ _ q=>q) (λb q=>?_) λb u q r=>?_
 .rw [da λz=>(t.not z q).1 _ rfl];exact q
 .rw [da λz=>(t.not z q).2 r];exact q
theorem kK.vR (ok:kK P w H h)(n:∀c∈C,H c=none)(t:hG C T)(g:∀c∈C,∀o u,T c=some (.fC o u)->h.get? c=some o):kK P w (vR C T H) h:=λa o e=>by
 by_cases A:a∈C
 .rw [kA A]at e;obtain⟨O,u,f,j⟩:=t a A;rw[e]at f;cases f;have:=g a A _ _ e;exact⟨this,_,this⟩
 rw[cU A]at e;refine (ok a o e).qh (λ_ _ _ q=>q) (λb q=>?_) λb u q r=>?_
 .rw [cU λz=>by rw[n b z]at q;cases q];exact q
 .rw [cU λz=>by rw[n b z]at q;cases q];exact q
variable {outer:List EJ}{s s':Ae}{Q:VK}{u:Aa}
theorem CE.X8 (t:hG C H)(l:∀c∈C,∀o u,H c=some (.fC o u)->s.heap.get? c=some o)(hf:∀c∈C,c∉jL outer)(x:CE outer P w (L2.pB C H) s (λv f=>Q v (L2.vR C H f)) u s'):CE outer P w H s Q u s':=by
 obtain⟨v,f,os,A,un,k,r,q⟩:=x;have g:∀c∈C,f c=none/\∀o z,H c=some (.fC o z)->s'.heap.get? c=some o:=λc hc=>by
  obtain⟨o,z,a,G⟩:=t c hc;have O:=l c hc o _ a;exact⟨un.free c o O (nI hc) (by simp),λp m e=>by rw[a]at e;cases e;exact un.keep c o O (nI hc) (hf c hc) (by simp)⟩
 have U:∀b,H b=none->L2.pB C H b=none:=λb n=>by unfold L2.pB;split;rfl;exact n
 refine⟨v,_,os,A,⟨λb o e n=>un.keep b o e (U b n),λb o e n=>un.slot b o e (U b n),λb o e n j=>?_,un.there,λb xs e=>?_,λb o y e=>?_,λb ps e=>?_⟩,k.vR (λc hc=>(g c hc).1) t λc hc o z e=>(g c hc).2 o z e,r,q⟩
 .by_cases B:b∈C
  .rw [kA B];exact n
  .rw [cU B];exact un.free b o e (U b n) j
 .have B:b∉C:=λz=>by obtain⟨_,_,a,_⟩:=t b z;rw[e]at a;cases a
  rw[cU B];exact un.mf b xs (by rw[da B];exact e)
 .by_cases B:b∈C
  .rw [kA B];exact e
  .rw [cU B];exact un.kE b o y (by rw[da B];exact e)
 .have B:b∉C:=λz=>by obtain⟨_,_,a,_⟩:=t b z;rw[e]at a;cases a
  obtain⟨more,q⟩:=un.mh b ps (by rw[da B];exact e);exact⟨more,by rw[cU B];exact q⟩
theorem CE.XQ (n:∀c∈C,H c=none)(t:hG C T)(G:∀c∈C,∀o u,T c=some (.fC o u)->s.heap.get? c=some o)(hf:∀c∈C,c∉jL outer)(x:CE outer P w (L2.vR C T H) s (λv m=>Q v (L2.pB C m)) u s'):CE outer P w H s Q u s':=by
 obtain⟨v,m,os,A,un,k,r,q⟩:=x;have p:∀c∈C,∃o z,s.heap.get? c=some o/\s'.heap.get? c=some o/\m c=some (.fC o (.own c))/\o.data = .cell z:=λc hc=>by
  obtain⟨o,z,l,j⟩:=t c hc;have e:=un.kE c o (.own c) (by rw[kA hc];exact l);exact⟨o,z,G c hc o _ l,(k c _ e).1,e,j⟩
 have a:∀b,b∉C->H b=none->L2.vR C T H b=none:=λb B n=>by rw[cU B];exact n
 have f:∀{b y},H b=some y->b∉C:=λe z=>by rw[n _ z]at e;cases e
 refine⟨v,_,os,A,⟨λb o e n B g=>?_,λb o e n B g=>?_,λb o e n g=>?_,un.there,λb xs e=>?_,λb o y e=>?_,λb ps e=>?_⟩,k.pB λc hc=>?_,r,q⟩
 .by_cases h:b∈C
  .obtain ⟨O,_,l,j,_⟩:=p b h;rw[e]at l;cases l;exact j
  .exact un.keep b o e (a b h n) B g
 .exact un.slot b o e (a b (λz=>hf b z B) n) B g
 .by_cases h:b∈C
  .exact nI h
  .rw [da h];exact un.free b o e (a b h n) g
 .rw [da (f e)];exact un.mf b xs (by rw[cU (f e)];exact e)
 .rw [da (f e)];exact un.kE b o y (by rw[cU (f e)];exact e)
 .obtain ⟨more,q⟩:=un.mh b ps (by rw[cU (f e)];exact e);exact⟨more,by rw[da (f e)];exact q⟩
 .obtain ⟨o,z,_,_,e,j⟩:=p c hc;exact⟨o,z,e,j⟩
variable {K:Ar}{mg:Am->Option Aa}{base:Heap}{A:AX}
theorem lr.pB (e:lr P w K mg base A outer s H)(t:hG C H):lr P w K mg base A outer s (L2.pB C H):=
 ⟨e.frames,e.mod,λb o q=>⟨(e.bs b o q).1,by unfold L2.pB;split;rfl;exact (e.bs b o q).2⟩,e.Lx,e.jK,λb B=>by unfold L2.pB;split;rfl;exact e.Oy b B,e.cY.pB t,e.bare⟩
theorem lr.vR (e:lr P w K mg base A outer s H)(n:∀c∈C,H c=none)(t:hG C T)(a:∀c∈C,∀o u,T c=some (.fC o u)->s.heap.get? c=some o)(hf:∀c∈C,c∉jL outer)(B:∀c∈C,base.get? c=none):lr P w K mg base A outer s (L2.vR C T H):=
 ⟨e.frames,e.mod,λb o q=>⟨(e.bs b o q).1,by rw[cU λz=>by rw[B b z]at q;cases q];exact (e.bs b o q).2⟩,e.Lx,e.jK,λb h=>by rw[cU λz=>hf b z h];exact e.Oy b h,e.cY.vR n t a,e.bare⟩
end
structure nA (h:Heap) (H:Hp) (cl:List (Am×Ac)) (ws:List V):Prop where
 len:cl.length=ws.length
 at':∀(i:Nat) x c v,cl[i]?=some (x,c)->ws[i]?=some v->H c=none/\∃u,cv v u/\h.IsCell c (some u)
 Ym:(cl.map (·.1)).Nodup
 Yn:(cl.map (·.2)).Nodup
structure nz (N fs ps:List Am) (sc:Ck):Prop where
 kind:sc.kind = .function
 co:sc.isCoroutine=false
 gen:sc.isGenerator=false
 nd:N.Nodup
 pre:N.take (fs.length+ps.length)=fs++ps
 Ϲ:∀x∈fs,sc.names.lookup x=some .free
 par:∀x∈ps,sc.names.lookup x=some .local
 only:∀y∈sc.names,y.2≠.cell/\(y.2 = .free->y.1∈fs)
noncomputable def Zk (P:AE)(w:AU)(K:Ar)(mg:Am->Option Aa)(base:Heap)(N:List Am)(q:Am)(scope:Ck)(f:Ac)(cd:Aa)(cl:List (Am×Ac))(A:AX)(outer:List EJ)(s:Ae)(H:Hp):Cx where
 prog:=P
 w:=w
 K:=K
 mg:=mg
 base:=base
 A:=A.deeper (Lj q scope s.heap.objs.size f cd cl)
 N:=N
 s₀:=s
 H₀:=H
 env:=Lj q scope s.heap.objs.size f cd cl
 outer:=outer
 stack:=Lj q scope s.heap.objs.size f cd cl::outer
 ex:=[]
 fn:=λ_=>false
 calm:=true
 pn:=[]
 xe:=λ_ _=>False
structure o6 (P:AE) (w:AU) (K:Ar) (mg:Am->Option Aa) (base:Heap) (k:Nat) (q:Am) (st:AW) (fs:List Am) (sp:Sp):Prop where
 run:∀(A:AX) (outer:List EJ) (s:Ae) (H:Hp) (f c:Ac) (cl:List (Am×Ac)) (doc pm ctv:Aa) (us:List Aa) (ws vs:List V) (Q:VK),cJ k A->lr P w K mg base A outer s H->s.heap.get? f=some (fD q st cl doc pm c ctv)->s.heap.CodeRec (.ref c) q->
  cl.map (·.1)=fs->nA s.heap H cl ws->bI vs us->sp (ws++vs) H Q E0->Cw (model P w) A (.call (.ref f) ⟨us,[]⟩) (CR l' outer P w H s Q E0) s
theorem Wf {l:List (Am×Ac)}{x y:Am}{c:Ac}(h:(l.map (·.2)).Nodup)(a:(x,c)∈l)(b:(y,c)∈l):x=y:=by
 induction l with
 |nil=>cases a
 |cons p r f=>
  rw[B7,AD]at h;rcases AB.mp a with e |a
  .rcases AB.mp b with e' |b
   .rw [<- e]at e';cases e';rfl
   .exact absurd (A7.mpr ⟨_,b,by rw[<- e]⟩) h.1
  .rcases AB.mp b with e' |b
   .exact absurd (A7.mpr ⟨_,a,by rw[<- e']⟩) h.1
   .exact f h.2 a b
theorem QX {c:Type}{l:List (Am×c)}{x:Am}{a:c}(n:(l.map (·.1)).Nodup)(m:(x,a)∈l):l.lookup x=some a:=by
 induction l with
 |nil=>cases m
 |cons p r h=>
  rw[B7,AD]at n;rcases AB.mp m with e |M
  .rw [<- e,DF,beq_self_eq_true]
  .have:(x==p.1)=false:=by
    rw[beq_eq_false_iff_ne];rintro rfl;exact n.1 (A7.mpr ⟨_,M,rfl⟩)
   obtain⟨g,f⟩:=p;rw[DF,this];exact h n.2 M
section
variable {P:AE}{w:AU}{K:Ar}{mg:Am->Option Aa}{base:Heap}{N fs ps:List Am}{q:Am}{st:AW}{k:Nat}{sp:Sp}
theorem zR {A:AX}{outer:List EJ}{s:Ae}{H:Hp}{f:Ac}{cd:Aa}{L:List (Am×Ac)}{us:List Aa}{j vs:List V}{g:Heap}{tk:Nat}(S:nz N fs ps (aA st))(hd:A.handled=none)(n:lr P w K mg base A outer s H)(hl:vs.length=ps.length)(hf:L.map (·.1)=fs)
  (hc:nA s.heap H L j) (r:bI vs us) (J:g.Ns s.heap.objs.size (λx=>(ps.zip us).reverse.lookup x)) (Q:∀b o,s.heap.get? b=some o->g.get? b=some o):
  bA (Zk P w K mg base N q (aA st) f cd L A outer s H) [] (start N (j++vs)) H {s with heap:=g,toks:=tk}:=by
 have ZU:fs.length=j.length:=by rw[<- hf,Ay,hc.len]
 have YF:fs.length+ps.length<=N.length:=by have:=congrArg Gd S.pre;rw[Bp,AG]at this;omega
 have O:∀b:Ac,b∉(Zk P w K mg base N q (aA st) f cd L A outer s H).ex:=λb z=>absurd (show b∈([]:List Ac) from z) (by simp)
 have C:∀{c v},s.heap.IsCell c v->g.IsCell c v:=λ⟨o,ho,hd⟩=>⟨o,Q _ _ ho,hd⟩
 have m:∀{x c},L.lookup x=some c->(x,c)∈L:=λh=>PySem.mem_of_lookup h
 have all:∀{x c},(x,c)∈L->H c=none/\∃u,s.heap.IsCell c (some u):=λ{x c} h=>by
  obtain⟨i,hi,e⟩:=Hs.mp h;have T:i<j.length:=by rw[<- hc.len];exact hi
  obtain⟨a,u,_,b⟩:=hc.at' i x c j[i] (by rw[Ah hi,e]) (Ah T);exact⟨a,u,b⟩
 refine⟨⟨n.mod,S.kind,rfl,rfl,Ak _,λy z c h1 h2=>Wf hc.Yn (m h1) (m h2),λy t=>?_,λy c z=>(by cases z),λ_=>hd,G3 n.frames,.inr ⟨rfl,rfl⟩,λb z=>absurd z (O b),n.bs,n.Lx,λb _ _=>O b,λb z=>absurd z (O b),n.jK,n.Oy⟩,
  rfl,n.bare,Un.kept Q,⟨_,J,λi y v h1 h2 h3=>?_⟩,λy c h=>?_,n.cY.fresh (Ak _),λy c h=>(all (m h)).1,λp l=>absurd (show p∈([]:List (Ac×Co)) from l) (by simp),n.cY.kept Q,?_⟩
 .have t:(aA st).names.lookup y=some .cell∨(aA st).names.lookup y=some .free:=t;rcases t with t |t
  .exact absurd rfl (S.only _ (PySem.mem_of_lookup t)).1
  .have hm:=(S.only _ (PySem.mem_of_lookup t)).2 rfl;rw[<- hf]at hm;obtain⟨⟨x,c⟩,M,rfl⟩:=A7.mp hm;exact⟨c,QX hc.Ym M⟩
 .have hi:i<j.length+vs.length:=by
   unfold start at h2;by_cases hi:i<j.length+vs.length
   .exact hi
   .rw [Bk (by simpa using hi),Dg]at h2;split at h2<;>cases h2
  have B:(j++vs)[i]?=some v:=by
   unfold start at h2;rw[AZ (by simpa using hi),AN]at h2
   cases e:(j++vs)[i]? with
   |none=>rw[e]at h2;cases h2
   |some a=>rw[e]at h2;cases h2;rfl
  have l:(fs++ps)[i]?=some y:=by
   rw[<- S.pre,Ch (by omega)];exact h1
  by_cases hw:i<j.length
  .rw [AZ hw]at B;rw[AZ (by omega),<- hf,AN]at l
   cases e:L[i]? with
   |none=>rw[e]at l;cases l
   |some p=>
    rw[e]at l;obtain⟨x,c⟩:=p;cases l;obtain⟨_,u,ru,ô⟩:=hc.at' i x c v e B;refine⟨u,ru,.inr ⟨.inr (S.Ϲ x ?_),c,QX hc.Ym (An e),C ô⟩⟩;rw[<- hf];exact A7.mpr ⟨_,An e,rfl⟩
  .rw [Bk (by omega)]at B l;obtain⟨u,U,rv⟩:=r.get B;have G:ps.Nodup:=by
    have:(fs++ps).Nodup:=by rw[<- S.pre];exact S.nd.sublist (FN _ _)
    exact (AQ.mp this).2.1
   rw[ZU]at l;refine⟨u,rv,.inl ⟨S.par y (An l),(show Cv y (ps.zip us).reverse=some u from QX ?_ ?_)⟩⟩
   .rw [CI];refine (List.reverse_perm _).nodup_iff.mpr ?_;rw[List.map_fst_zip (by rw[<- r.length,hl];exact Ak _)];exact G
   .rw [DD];exact An (i:=i-j.length) (by rw[Cu];exact⟨l,U⟩)
 .obtain ⟨_,u,U⟩:=all (m h);exact⟨_,C U⟩
 .unfold start;show _=N.length
  rw[AG,Ay,BJ,AG];omega
theorem W0 (S:nz N fs ps (aA st))
  (hb:∀(l:List (Am×Ac)) (O pm:Aa) (c:Ac) (C:Aa) (us:List Aa),us.length=ps.length->Cr (fnX (pV st) q (bZ st) (bx st) (aA st) l .none .none O pm none (.ref c) C) ⟨us,[]⟩=pure (ps.zip us))
  (n:∀vs H Q,sp vs H Q E0->vs.length=fs.length+ps.length)
  (h:∀(A:AX) (outer:List EJ) (s:Ae) (H:Hp) (f:Ac) (cd:Aa) (l:List (Am×Ac)),l.map (·.1)=fs->cJ k (A.deeper (Lj q (aA st) s.heap.objs.size f cd l))->
   ∃t,PSs (Zk P w K mg base N q (aA st) f cd l A outer s H) (bx st) t/\∀vs Q,sp vs H Q E0->t {nx:=λ_ a=>Q .cn a,rt:=Q} (start N vs) H):o6 P w K mg base (k+1) q st fs sp:=by
 refine⟨λA outer s H f c l O pm C us ws vs Q G e0 ho U hf hc r p=>?_⟩;have M:s.heap.NoLimit:=e0.mod.nolimit.keeps λb o e=>(e0.bs b o e).1
 have hl:=n _ _ _ p;have ZU:fs.length=ws.length:=by rw[<- hf,Ay,hc.len]
 rw[AG]at hl;have L:vs.length=ps.length:=by omega
 refine codeAny_call_def (fd:=fnX (pV st) q (bZ st) (bx st) (aA st) l .none .none O pm none (.ref c) C) (body:=bx st) (binds:=ps.zip us) G.depth ho rfl M U rfl (Lr (hb l O pm c C us (by rw[<- r.length];exact L)))
  (λx B=>(S.only x B).1) (λx B=>S.par _ (Gb B).1) (λTu T hk=>?_) S.co S.gen S.kind
 obtain⟨t,ht,hq⟩:=h A outer s H f (.ref c) l hf (G.deeper _);have I:=zR (tk:=s.toks+(ps.zip us).length) (q:=q) (f:=f) (cd:=.ref c) S G.hd e0 L hf hc r T hk;refine BV (ht [] _ _ H _ I (hq _ Q p)) (λfl s' g=>?_) λe s' z=>(show False from z).elim
 have fin:∀{j:St} {a:Hp} {v:V} {u:Aa},bA (Zk P w K mg base N q (aA st) f (.ref c) l A outer s H) [] j a s'->cv v u->Q v a->CE outer P w H s Q u s':=
  λ{j a v u} J m q=>⟨v,a,J.os,J.bare,J.base,J.cY,m,q⟩
 cases fl with
 |ret u=>
  obtain⟨v,j,a,J,m,q⟩:=g;exact fin J m q
 |next=>
  obtain⟨j,a,J,q⟩:=g;exact fin (v:=V.cn) (u:=Fv) J rfl q
 |brk=>
  obtain⟨_,_,_,q⟩:=g;exact A_ q
 |cont=>
  obtain⟨_,_,_,q⟩:=g;exact A_ q
end
structure si (X:Cx) (cl:List (Am×Ac)) (ix:List Nat):Prop where
 len:cl.length=ix.length
 nm:∀(i:Nat) x c,cl[i]?=some (x,c)->X.env.cells.lookup x=some c/\X.env.kindOf x=some .cell/\XG X.env.scope x/\∃j:Nat,ix[i]?=some j/\X.N[j]?=some x
 Ym:(cl.map (·.1)).Nodup
 fn:∀(i:Nat) x c,cl[i]?=some (x,c)->X.fn x=true
def W' (Y:St)(ix:List Nat)(w:List V):Prop:=w.length=ix.length/\∀(i j:Nat) v,ix[i]?=some j->w[i]?=some v->Y[j]?=some (some v)
section
variable {X:Cx}{cl:List (Am×Ac)}{ix:List Nat}{pins:List (Ac×Co)}{Y:St}{H:Hp}{s:Ae}{ws:List V}
theorem si.Yn (S:si X cl ix)(ok:X.Ok):(cl.map (·.2)).Nodup:=by
 rw[GA,EE];have:=S.Ym;rw[GA,EE]at this;refine DX (λ{a b} A B h e=>h ?_) this;obtain⟨i,hi⟩:=Dr A;obtain⟨j,J⟩:=Dr B;exact ok.inj a.1 b.1 a.2 (S.nm i a.1 a.2 hi).1 (by rw[(S.nm j b.1 b.2 J).1,e])
theorem si.at' (S:si X cl ix)(I:bA X pins Y H s)(h:W' Y ix ws){i:Nat}{x:Am}{c:Ac}{v:V}(hi:cl[i]?=some (x,c))(hw:ws[i]?=some v):H c=none/\∃u,cv v u/\s.heap.IsCell c (some u):=by
 obtain⟨h1,h2,g,j,f,a⟩:=S.nm i x c hi;refine⟨I.iX x c h1,?_⟩;obtain⟨m,hn,hl⟩:=I.loc;obtain⟨u,r,l⟩:=hl j x v a (h.2 i j v f hw) g;rcases l with⟨k,_⟩ | ⟨_,C,e,z⟩
 .rw [h2]at k;cases k
 .rw [h1]at e;cases e;exact⟨u,r,z⟩
theorem si.cells (S:si X cl ix)(I:bA X pins Y H s)(h:W' Y ix ws):nA s.heap H cl ws:=
 ⟨S.len.trans h.1.symm,λi x c v hi hw=>S.at' I h hi hw,S.Ym,S.Yn I.ok⟩
theorem SN {k:Nat}{q:Am}{st:AW}{fs:List Am}{sp:Sp}{f c:Ac}{O:Co}{o pm v:Aa}{us:List Aa}{vs:List V}{Q:VK}(C:o6 X.prog X.w X.K X.mg X.base k q st fs sp)(l:cJ k X.A)(I:bA X pins Y H s)(hf:cl.map (·.1)=fs)
  (h1:H f=some (.fC (fD q st cl o pm c v) (.own f))) (h2:H c=some (.fC O (.own c))) (j:rL O q) (hc:nA s.heap H cl ws) (r:bI vs us) (h:sp (ws++vs) H Q E0):AJ (model X.prog X.w) X.A (call (.ref f) us) (EP X pins Y Q) X.xe s:=by
 obtain⟨g,t,j,m⟩:=j;refine EH (Cj (C.run X.A X.stack s H f c cl o pm v us ws vs Q l I.NU (I.cY f _ h1).1 ⟨c,O,g,t,rfl,(I.cY c _ h2).1,j,m⟩ hf hc r h) λr s' a=>?_)
 cases r with
 |error e=>exact (show False from a).elim
 |ok L=>
  cases L with
  |ret u=>exact I.after a
  |next=>exact A_ a
  |brk=>exact A_ a
  |cont=>exact A_ a
def OY (i:Nat)(q:Am)(st:AW)(cl:List (Am×Ac))(ix:List Nat)(sp:Sp)(t:TA):TE:=λY H Q=>∃f c O o pm v ws,Y[i]?=some (some (.ref f))/\H f=some (.fC (fD q st cl o pm c v) (.own f))/\W' Y ix ws/\t Y H λvs a=>
 a f=some (.fC (fD q st cl o pm c v) (.own f))/\a c=some (.fC O (.own c))/\rL O q/\sp (ws++vs) a Q E0
theorem Qw {y:Am}{i k:Nat}{q:Am}{st:AW}{fs:List Am}{sp:Sp}{e:Expr}{g:List Expr}{t:TA}{p pos:DR}(hn:PE X (.Name y p) (eT i))(C:o6 X.prog X.w X.K X.mg X.base k q st fs sp)(M:cJ k X.A)(S:si X cl ix)(hf:cl.map (·.1)=fs)(U:PA X (e::g) t)
  (O:Av (e::g) X.env=(false,eval e X.env)::Av g X.env:=by rfl) (l:(BY pos (Av g X.env)).any (·.1)=false:=by rfl):PE X (.Call (.Name y p) (e::g) [] pos) (OY i q st cl ix sp t):=by
 rintro pins s Y H Q I ⟨f,c,oc,o,pm,T,ws,L,h1,j,h⟩;refine BZ (cK (hn pins s Y H (λv n=>v = .ref f/\n=H) I ⟨_,L,rfl,rfl⟩) λu G z=>?_);obtain⟨v,n,B,J,e1,e2⟩:=z;subst e1 e2;cases J;have a:∀{Y H s pins},bA X pins Y H s->H f=some (.fC (fD q st cl o pm c T) (.own f))->FnAt f s.heap:=λI h=>⟨_,_,_,_,(I.cY f _ h).1⟩
 refine Lm (a B h1) (cK (U pos pins G Y n _ B h) λus s2 z=>?_) O l;obtain⟨vs,H2,m,r,g1,g2,g3,q⟩:=z;refine⟨a m g1,?_⟩;rw[EO];exact SN C M m hf g1 g2 g3 (S.cells m j) r q
def OX (i:Nat)(q:Am)(st:AW)(fs:List Am)(sp:Sp)(t:TA):TE:=λY H Q=>∃f c O cl o pm C ws,Y[i]?=some (some (.ref f))/\H f=some (.fC (fD q st cl o pm c C) (.own f))/\cl.map (·.1)=fs/\(cl.map (·.2)).Nodup/\(cl.map (·.1)).Nodup/\cl.length=ws.length/\
 t Y H λvs a=>a f=some (.fC (fD q st cl o pm c C) (.own f))/\a c=some (.fC O (.own c))/\rL O q/\sj a cl ws/\sp (ws++vs) (pB (cl.map (·.2)) a) (λv e=>Q v (vR (cl.map (·.2)) a e)) E0
theorem Qv {y:Am}{i k:Nat}{q:Am}{st:AW}{fs:List Am}{sp:Sp}{e:Expr}{G:List Expr}{t:TA}{p pos:DR}(hn:PE X (.Name y p) (eT i))(C:o6 X.prog X.w X.K X.mg X.base k q st fs sp)(hr:cJ k X.A)(ha:PA X (e::G) t)
  (he:Av (e::G) X.env=(false,eval e X.env)::Av G X.env:=by rfl) (YF:(BY pos (Av G X.env)).any (·.1)=false:=by rfl):PE X (.Call (.Name y p) (e::G) [] pos) (OX i q st fs sp t):=by
 rintro pins s Y H Q I ⟨f,c,oc,cl,O,pm,J,ws,hs,h1,hf,Ow,Ž,n,h⟩;refine BZ (cK (hn pins s Y H (λv H1=>v = .ref f/\H1=H) I ⟨_,hs,rfl,rfl⟩) λu s1 M=>?_);obtain⟨v,H1,I1,r1,g,l⟩:=M;subst g l;cases r1;have T:∀{Y H s pins},bA X pins Y H s->H f=some (.fC (fD q st cl O pm c J) (.own f))->FnAt f s.heap:=λI h=>⟨_,_,_,_,(I.cY f _ h).1⟩
 refine Lm (T I1 h1) (cK (ha pos pins s1 Y H1 _ I1 h) λus s2 M=>?_) he YF;obtain⟨vs,H2,m,r,g1,g2,⟨U,t,g3,g4⟩,gc,q⟩:=M;refine⟨T m g1,?_⟩;rw[EO];have ct:hG (cl.map (·.2)) H2:=λa ha=>by
  obtain⟨⟨x,a'⟩,hm,rfl⟩:=A7.mp ha;obtain⟨j,hj⟩:=Dr hm;obtain⟨Xz,_⟩:=Ab.mp hj;obtain⟨x',a2,o,u,g,l,L,_⟩:=gc j ws[j] (Ah (by rw[<- n];exact Xz));rw[hj]at g;cases g;exact⟨o,_,l,L⟩
 have nf:f∉cl.map (·.2):=λz=>by
  obtain⟨o,u,g,l⟩:=ct f z;rw[g1]at g;cases g;cases l
 have nc:c∉cl.map (·.2):=λz=>by
  obtain⟨o,u,g,l⟩:=ct c z;rw[g2]at g;cases g;rw[g3]at l;cases l
 have hT:∀b∈cl.map (·.2),∀o u,H2 b=some (.fC o u)->s2.heap.get? b=some o:=λb _ o u e=>(m.cY b _ e).1
 have ñ:∀b∈cl.map (·.2),b∉jL X.stack:=λb hb z=>by
  obtain⟨o,u,g,_⟩:=ct b hb;rw[m.mm b z]at g;cases g
 have hc:nA s2.heap (pB (cl.map (·.2)) H2) cl ws:=⟨n,λj x a v g l=>⟨nI (A7.mpr ⟨_,An g,rfl⟩),by
  obtain⟨x',a2,o,u,L,e4,e5,e6⟩:=gc j v l;rw[g]at L;cases L;exact⟨u,e6,o,(m.cY a _ e4).1,e5⟩⟩,Ž,Ow⟩
 refine EH (Cj (C.run X.A X.stack s2 _ f c cl O pm J us ws vs _ hr (m.NU.pB ct) (m.cY f _ g1).1 ⟨c,oc,U,t,rfl,(m.cY c _ g2).1,g3,g4⟩ hf hc r q) λr s' B=>?_)
 cases r with
 |error e=>exact (show False from B).elim
 |ok fl=>
  cases fl with
  |ret u=>exact m.after (CE.X8 ct hT ñ B)
  |next=>exact A_ B
  |brk=>exact A_ B
  |cont=>exact A_ B
def yP (sp:Sp)(cl:List (Am×Ac))(ix:List Nat)(t:TA):TE:=λY H Q=>∃ws,W' Y ix ws/\t Y H λvs a=>∀T:Hp,sj T cl ws->hG (cl.map (·.2)) T->(∀c∈cl.map (·.2),a c=none)->(cl.map (·.2)).Nodup->sp vs (vR (cl.map (·.2)) T a) (λv e=>Q v (pB (cl.map (·.2)) e)) E0
theorem Qu {x:Am}{f:Ac}{fd:Ag}{ps:List Am}{k:Nat}{sp:Sp}{e:Expr}{L:List Expr}{t:TA}{p pos:DR}(F:fE X.prog X.w X.K X.mg X.base l' k f fd ps sp)(hr:cJ k X.A)(hg:Gl X x)(hm:X.mg x=some (.ref f))(hk:D_ X.K (.ref f)=true)(B:gf X.K fd ps [])(S:si X cl ix)
  (ha:PA X (e::L) t) (ó:(x==("__debug__":Am))=false:=by decide) (he:Av (e::L) X.env=(false,eval e X.env)::Av L X.env:=by rfl) (U:(BY pos (Av L X.env)).any (·.1)=false:=by rfl):PE X (.Call (.Name x p) (e::L) [] pos) (yP sp cl ix t):=by
 rintro pins s Y H Q I ⟨ws,hw,h⟩;refine BZ (kY I hg hm ?_ ó);refine EI (h₀:=X.base) I.ok.mod.UR hk (cK (ha pos pins s Y H _ I h) λus g zz=>?_) he U;obtain⟨vs,H2,a,r,q⟩:=zz;refine⟨a.kZ,?_⟩;have CA:=S.cells a hw
 let T:Hp:=λb=>(g.heap.get? b).map λo=>HO.fC o (.own b)
 have l:∀b∈cl.map (·.2),∃i x v,cl[i]?=some (x,b)/\ws[i]?=some v:=λb B=>by
  obtain⟨⟨x,a'⟩,hm,rfl⟩:=A7.mp B;obtain⟨j,hj⟩:=Dr hm;obtain⟨Xz,_⟩:=Ab.mp hj;exact⟨j,x,ws[j]'(by rw[<- CA.len];exact Xz),hj,Ah _⟩
 have ct:hG (cl.map (·.2)) T:=λb B=>by
  obtain⟨i,x,v,m,M⟩:=l b B;obtain⟨_,u,_,o,e3,e4⟩:=CA.at' i x b v m M;exact⟨o,_,by show (g.heap.get? b).map _=_;rw[e3];rfl,e4⟩
 have cf:sj T cl ws:=λi v hv=>by
  have hi:i<cl.length:=by rw[CA.len];exact (Ab.mp hv).1
  have O:=Ah hi;generalize cl[i]=p at O;obtain⟨x1,c1⟩:=p;obtain⟨_,u,ru,o,e3,e4⟩:=CA.at' i x1 c1 v O hv;exact⟨x1,c1,o,u,O,by show (g.heap.get? c1).map _=_;rw[e3];rfl,e4,ru⟩
 have n:∀c∈cl.map (·.2),H2 c=none:=λb B=>by
  obtain⟨i,x,v,m,M⟩:=l b B;exact (CA.at' i x b v m M).1
 have hT:∀c∈cl.map (·.2),∀o u,T c=some (.fC o u)->g.heap.get? c=some o:=λb _ o u e=>by
  have e:(g.heap.get? b).map (λo=>HO.fC o (.own b))=some (.fC o u):=e
  cases q:g.heap.get? b with
  |none=>rw[q]at e;cases e
  |some o'=>rw[q]at e;cases e;rfl
 have RE:∀c∈cl.map (·.2),∃x,X.env.cells.lookup x=some c/\X.fn x=true:=λb B=>by
  obtain⟨i,x,v,m,M⟩:=l b B;exact⟨x,(S.nm i x b m).1,S.fn i x b m⟩
 have G:∀c∈cl.map (·.2),c∉jL X.stack:=λb B z=>by
  obtain⟨x,h1,h2⟩:=RE b B;rcases AB.mp (a.qe b z) with e |e
  .exact a.RE x b h1 e
  .obtain ⟨_,o,ho,_⟩:=a.ok.jK.mem e;exact absurd (A6 (AY ho) (a.ok.TX x b h2 h1)) (B3 _)
 have XB:∀c∈cl.map (·.2),X.base.get? c=none:=λb B=>by
  cases q:X.base.get? b with
  |none=>rfl
  |some o=>
   obtain⟨x,h1,h2⟩:=RE b B;have:=a.ok.TX x b h2 h1;exact absurd (A6 (AY q) (BC a.ok.Lx this)) (B3 _)
 have hl:(us++[]).length=ps.length:=by rw[Bi,<- r.length];exact F.len _ _ _ _ (q T cf ct n (S.Yn a.ok))
 have J:=B g us a.kZ hl;rw[Bi]at J;refine EH (Cj (F.run X.A X.stack g _ ⟨us,[]⟩ us vs _ _ hr (a.NU.vR n ct hT G XB) J r (q T cf ct n (S.Yn a.ok))) λr s' C=>?_)
 cases r with
 |error e=>exact (show False from C).elim
 |ok fl=>
  cases fl with
  |ret u=>exact a.after (CE.XQ n ct hT G C)
  |next=>exact A_ C
  |brk=>exact A_ C
  |cont=>exact A_ C
end
def Vy (i:Nat)(P:Ac)(pos:DR)(q:Am)(st:AW)(l:List (Am×Ac)):TS:=λD Y H=>H P=some (.v7 pos q)/\∀f c O o pm t a,H f=none->a6 H a->a f=some (.fC (fD q st l o pm c t) (.own f))->a c=some (.fC O (.own c))->rL O q->D.nx (Y.set i (some (.ref f))) a
section
variable {X:Cx}
theorem V0 {i:Nat}{P c:Ac}{pos:DR}{q name:Am}{p:HR}{body:List AW}{scope:Ck}{cl:List (Am×Ac)}(a:X.env.code = .ref c)(hC:J8 X.base c P)(hB:X.base.BuiltinsAt X.mg P)(YL:X.Ok->Fg scope X.env=pure cl)
  (hN:X.N.Nodup) (hi:X.N[i]?=some name) (hx:Xo X.env.scope name) (YK:p.defaults=[]:=by rfl) (ϔ:p.kw_defaults=[]:=by rfl) (ha:annTrees p none X.env=[]:=by rfl) (hq:qualnameIn X.env name name=q:=by rfl)
  (hf:X.fn name=true∨X.env.scope.names.lookup name=some .local:=by first |exact .inl rfl |exact .inr rfl |assumption):
  PS X (.FunctionDef name p body [] none [] scope none name pos) (Vy i P pos q (.FunctionDef name p body [] none [] scope none name pos) cl):=by
 rintro pins s Y H D I ⟨hP,h⟩;obtain⟨ps,ho,ht,hc⟩:=I.cY P _ hP;refine nestDef_K YK ϔ ha ?_;rw[hq];have hg:s.heap.Ns Ai X.mg:=I.mod.glob.keeps I.bk;have nb:∀{b o},X.base.get? b=some o->b≠P:=λ{b o} e z=>by rw[z]at e;rw[(I.bs P o e).2]at hP;cases hP
 have Ϟ:Ai≠P:=by obtain⟨o,es,ep,e,_⟩:=I.mod.glob;exact nb e
 have R6:s.heap.BuiltinsAt X.mg P:=by obtain⟨bm,o,h1,h2,h3,h4,h5,h6⟩:=hB;exact⟨bm,o,h1,h2,h3,h4,I.bk _ _ h5,h6⟩
 cases j:codeAmong pos ps.toList with
 |some v=>
  obtain⟨C,A,rfl,m,l⟩:=hc v j;refine makeFunction_hit (YL I.ok) I.ok.glob hg a (hC.keeps I.bk) ho ht j R6 λT O h' tk hk J=>?_
  have hn:H h'.objs.size=none:=I.cY.fresh J;have I1:bA X pins Y (c8 H h'.objs.size (.fC (fD q (.FunctionDef name p body [] none [] scope none name pos) cl O ((X.mg "__name__").getD .none) C T) (.own h'.objs.size))) _:=
   I.laid (t':=tk) (h':=h'.push (fD q (.FunctionDef name p body [] none [] scope none name pos) cl O ((X.mg "__name__").getD .none) C T)) (λb u e=>Af _ (hk b u e)) J ⟨AA _ rfl,_,AA _ rfl⟩
  refine jR I1 hN hi hx (v:=.ref h'.objs.size) rfl (λs2 I2=>⟨_,_,I2,h _ C A O _ T _ hn (a6.new hn) a9 ?_ l⟩) hf;rw[bM λz=>by rw[z,hn]at m;cases m];exact m
 |none=>
  refine makeFunction_K (YL I.ok) I.ok.glob hg a (hC.keeps I.bk) ho ht j Ϟ R6 λC T O h' tk WH g L M Ű=>?_
  obtain⟨c2,A,vs,t,e0,l,hd,hv⟩:=M;cases e0;have ſ:H C=none:=I.cY.fresh g;have Q:H h'.objs.size=none:=I.cY.fresh (BC g (EY L));have ı:h'.objs.size≠C:=Hi L;generalize U:fD q (.FunctionDef name p body [] none [] scope none name pos) cl O ((X.mg "__name__").getD .none) C T=k
  let H':Hp:=c8 (c8 H C (.fC A (.own C))) h'.objs.size (.fC k (.own h'.objs.size))
  have r:∀b u,H b=some u->H' b=some u:=λb u e=>by
   show c8 _ _ _ b=_
   rw[bM (λz=>by rw[z,Q]at e;cases e),bM (λz=>by rw[z,ſ]at e;cases e)];exact e
  have keep:∀b o,b≠P->s.heap.get? b=some o->(h'.push k).get? b=some o:=λb o B e=>Af _ (WH b o B e)
  have nP:∀{b},H b=none->b≠P:=λe z=>by rw[z,hP]at e;cases e
  have Ĺ:(h'.push k).get? P=some (Lh (ps++#[C5 pos.line,C5 pos.col,.ref C])):=Af _ Ű;have un:Un (jL X.stack) [] H H' s.heap (h'.push k):=⟨λb o e n _ _=>keep b o (nP n) e,λb o e n _ _=>⟨o.slots,keep b o (nP n) e⟩,λb o e n _=>?_,λb o e _=>?_,λb xs e=>r _ _ e,λb o u e=>r _ _ e,λb ps e=>⟨#[],by rw[Array.append_empty];exact r _ _ e⟩⟩
  rotate_left
  .have B:=AY e;show c8 _ _ _ b=_
   rw[bM (Bx (A6 B (BC g (EY L)))),bM (Bx (A6 B g))];exact n
  .by_cases B:b=P
   .subst B;exact⟨_,Ĺ⟩
   .exact ⟨_,keep b o B e⟩
  have cY:kK X.prog X.w H' (h'.push k):=λb u e=>by
   by_cases h1:b=h'.objs.size
   .subst h1;have e:c8 _ _ _ _=some u:=e;rw[a9]at e;cases e;have:(h'.push k).get? h'.objs.size=some k:=AA _ (by rw[<- U];rfl);exact⟨this,_,this⟩
   by_cases h2:b=C
   .subst h2;have e:c8 _ _ _ _=some u:=e;rw[bM h1,a9]at e;cases e;have:=Af k l;exact⟨this,_,this⟩
   have e:c8 _ _ _ _=some u:=e;rw[bM h1,bM h2]at e;by_cases h3:b=P
   .subst h3;rw[hP]at e;cases e;refine⟨_,Ĺ,?_,λv G=>?_⟩
    .have:=TriplesOk_snoc pos.line pos.col (.ref C) ps.toList ht;simpa using this
    .have:=codeAmong_snoc (pos:=pos) (c:=.ref C) ps.toList ht j;rw[show (ps++#[C5 pos.line,C5 pos.col,.ref C]).toList=ps.toList++[C5 pos.line,C5 pos.col,.ref C] by simp,this]at G;cases G;refine⟨C,A,rfl,?_,vs,t,hd,hv⟩;show c8 _ _ _ _=_
     rw[bM (Bm ı),a9]
   .refine (I.cY b u e).qh (λd v f qv=>keep d v ?_ qv) (λd qd=>r _ _ qd) λd v qd _=>r _ _ qd
    rcases f with rfl |f
    .exact h3
    .rintro rfl;rw[hP]at f;cases f
  have I1:bA X pins Y H' {s with heap:=h'.push k,toks:=tk}:=I.RI (ch:=[]) rfl un cY I.bare (λb z=>absurd z (by simp));subst U;refine jR I1 hN hi hx (v:=.ref h'.objs.size) rfl (λs2 I2=>⟨_,_,I2,h _ C A O ((X.mg "__name__").getD .none) T H' Q r ?_ ?_ ⟨vs,t,hd,hv⟩⟩) hf
  .show c8 _ _ _ _=_
   rw[a9]
  .show c8 _ _ _ _=_
   rw[bM (Bm ı),a9]
end
noncomputable def D.M':D->Bool
 | .int _=>true
 | .bl _=>true
 | .cn=>true
 | .str _=>true
 |_=>false
theorem dP.M' {K:Ar}{F a:Hp}:∀{d:D} {v:V},dP K F d v->d.M'=true->dP K a d v
 | .int _,_,h,_=>h
 | .bl _,_,h,_=>h
 | .cn,_,h,_=>h
 | .str _,_,h,_=>h
 | .ty _,_,_,z=>by cases z
 | .fn _,_,_,z=>by cases z
 | .tup _,_,_,z=>by cases z
 | .lst _,_,_,z=>by cases z
 | .Oz,_,_,z=>by cases z
 | .exc _,_,_,z=>by cases z
 | .obj _ _ _,_,_,z=>by cases z
 | .pW _ _ _ _,_,_,z=>by cases z
noncomputable def OV.M':OV->Bool
 | .fz d=>d.M'
 |_=>false
theorem fk.M' {K:Ar}{H F e c f a:Hp}:∀{r:OV} {v:V},fk K H F e r v->r.M'=true->fk K c f a r v
 | .fz d,v,⟨A,h,_,_⟩,z=>.fz (h.2.M' z)
 | .nl _,_,_,z=>by cases z
 | .rt _ _,_,_,z=>by cases z
 | .fx _ _,_,_,z=>by cases z
 | .ob _ _ _ _,_,_,z=>by cases z
def UB (i:Nat)(q:Am)(st:AW)(c:List (Am×Ac)):DS:=λe δ=>e.nx (δ.set i (some (.own (.fz (.pW q st c [])))))
def uu:List Nat->DA
 | []=>TN
 |j::r=>MM (dV j) (uu r)
def z8 (i n:Nat)(q:Am)(st:AW)(l:List (Am×Ac))(ix:List Nat)(sp:c_)(A:DA):DO:=λδ P=>match δ[i]? with
 |some (some (.own (.fz (.pW Q t c _))))=>Q=q/\t=st/\c=l/\uu ix δ λcs=>A δ λds=>(cs++ds).length=n/\sp (cs++ds) P
 |_=>False
def Rz (n:Nat)(q:Am)(st:AW)(c:List (Am×Ac))(fs:List Am)(ix:List Nat)(sp:c_)(A:DA):DO:=λδ P=>uu ix δ λcs=>A δ λds=>match ds with
 | [a,b,.pW Q t l _]=>Q=q/\t=st/\l=c/\n=3/\((c.map (·.2)).Nodup->c.map (·.1)=fs->sp [a,b,.pW q st c cs] λr=>r.M'=true/\P r)
 |_=>False
def z6 (i n:Nat)(q:Am)(st:AW)(fs:List Am)(sp:c_)(A:DA):DO:=λδ P=>match δ[i]? with
 |some (some (.own (.fz (.pW Q t c cs))))=>Q=q/\t=st/\c.map (·.1)=fs/\fs.Nodup/\(c.map (·.2)).Nodup/\c.length=cs.length/\A δ λds=>D.hI cs=true/\D.hI ds=true/\(cs++ds).length=n/\sp (cs++ds) λr=>r.M'=true/\P r
 |_=>False
section
variable {K:Ar}{F0 H0 F H:Hp}{Y:St}{δ:c7}
theorem VH {i:Nat}{T:Ac}{pos:DR}{q:Am}{st:AW}{C:List (Am×Ac)}(hP:F0 T=some (.v7 pos q)):ow K F0 H0 (Vy i T pos q st C) (UB i q st C):=λF H Y δ De U e l w=>by
 have h:=cp.ext e;refine⟨h.fh _ _ (h.ff _ _ hP),λf c u O pm t g hn k h1 h2 L=>?_⟩;have n:F f=none:=h.fh.free hn
 let j:Hp:=λb=>if b=f then g f else if b=c then g c else F b
 have p:j f=g f:=if_pos rfl;have G:j c=g c:=by
  show (if c=f then g f else if c=c then g c else F c)=_
  split
  .rename_i z;rw[z]
  .rw [if_pos rfl]
 have go:∀b,b≠f->b≠c->j b=F b:=λb B A=>by
  show (if b=f then g f else if b=c then g c else F b)=_
  rw[if_neg B,if_neg A]
 have x:cP F H j g:=by
  refine⟨λb o e'=>?_,k,λb o e'=>?_,λb o Q m M=>?_⟩
  .by_cases z:b=f
   .rw [z,n]at e';cases e'
   by_cases a:b=c
   .rw [a,G];rw[a]at e';exact k _ _ (h.fh _ _ e')
   .rw [go b z a];exact e'
  .by_cases z:b=f
   .rw [z,p]at e';rw[z];exact e'
   by_cases a:b=c
   .rw [a,G]at e';rw[a];exact e'
   .rw [go b z a]at e';exact k _ _ (h.fh _ _ e')
  .by_cases z:b=f
   .rw [z,hn]at m;cases m
   by_cases a:b=c
   .rw [a]at m;rw[k _ _ m]at h2;cases h2;cases M
   .rw [go b z a];exact Q
 exact l.nx j g _ _ (e.put x i (r:=.fz (.pW q st C [])) (v:=.ref f) (.fz ⟨f,c,u,O,pm,t,[],rfl,p.trans h1,G.trans h2,L,rfl,λi v J=>by simp at J⟩)) w
theorem nh (e:cp K F0 H0 F H Y δ):∀{ix:List Nat} {P:List D->Prop},uu ix δ P->∃cs w,P cs/\W' Y ix w/\bE K F cs w
 | [],P,h=>⟨[],[],h,⟨rfl,λi j v h=>by simp at h⟩,rfl⟩
 |j :: r,P,h=>by
  have h:dV j δ λd=>uu r δ λds=>P (d::ds):=h
  have key:∀{d:D} {v:V} {cs:List D} {w:List V},Y[j]?=some (some v)->dP K F d v->P (d::cs)->W' Y r w->bE K F cs w->∃cs w,P cs/\W' Y (j::r) w/\bE K F cs w:=λ{d v cs w} f g p a c=>by
   refine⟨d::cs,v::w,p,⟨by simp[a.1],λi k u h1 h2=>?_⟩,v,w,rfl,g,c⟩
   cases i with
   |zero=>simp at h1 h2;subst h1 h2;exact f
   |succ i=>exact a.2 i k u (by simpa using h1) (by simpa using h2)
  unfold dV at h;split at h
  .rename_i d hd;obtain⟨A,e'⟩:=e;obtain⟨v,f,_,g⟩:=e'.own j _ hd;obtain⟨cs,w,p,a,c⟩:=nh ⟨A,e'⟩ h;exact key f g p a c
  .rename_i u d hd;obtain⟨A,e'⟩:=e;obtain⟨v,f,_,_,g⟩:=e'.own j _ hd;obtain⟨cs,w,p,a,c⟩:=nh ⟨A,e'⟩ h;exact key f g p a c
  .exact h.elim
theorem PB {i n:Nat}{q:Am}{st:AW}{l:List (Am×Ac)}{ix:List Nat}{sp:c_}{a:TA}{u:DA}(U:dN K a u):eF K (OY i q st l ix (bL K n sp) a) (z8 i n q st l ix sp u):=λF0 H0 F H Y δ P Q e w J=>by
 unfold z8 at w;split at w
 .rename_i q1 T cl1 cs1 M;obtain⟨rfl,rfl,rfl,w⟩:=w;obtain⟨cs,h,w,hw,B⟩:=nh e w;have fh:=(cp.ext e).fh;have e0:=e;obtain⟨A,e'⟩:=e;obtain⟨v,L,_,f,c,O,o,pm,t,vs,rfl,h1,h2,h3,h4,h5⟩:=e'.own i _ M;refine⟨f,c,O,o,pm,t,h,L,fh _ _ h1,hw,U F0 H0 F H Y δ _ _ e0 w λds us m H1 j g C=>⟨g.fh _ _ (g.ff _ _ h1),g.fh _ _ (g.ff _ _ h2),h3,?_⟩⟩;have k:bE K m (cs++ds) (h++us):=(B.mono g.ff).append C;exact⟨by rw[<- k.length];exact j.1,m,cs++ds,P,g.fh,k,j.2,λr v F' H' p z G=>J r v F' H' p (g.trans z) (G.old g.hh)⟩
 .exact w.elim
theorem Px {n:Nat}{q:Am}{st:AW}{L:List (Am×Ac)}{fs:List Am}{ix:List Nat}{sp:c_}{a:TA}{As:DA}(hf:L.map (·.1)=fs)(ha:dN K a As):eF K (yP (bL K n sp) L ix a) (Rz n q st L fs ix sp As):=λF0 H0 F H Y δ P Q e w q'=>by
 obtain⟨cs,t,w,hw,rs⟩:=nh e w;refine⟨t,hw,ha F0 H0 F H Y δ _ _ e w λds us k H1 g h r1 T cf ct hn C=>?_⟩
 try dsimp only at g
 split at g
 .rename_i d1 d2 q1 A l cs1;obtain⟨rfl,rfl,rfl,G,g⟩:=g;have g:=g C hf;obtain⟨v1,r,rfl,ra,v2,r2,rfl,rb,v3,r3,rfl,rc,e3⟩:=r1
  cases (show r3=[] from e3)
  obtain⟨f,c,oc,O,pm,J,vs,rfl,h1,h2,h3,h4,h5⟩:=rc;have j:a6 k (vR (l.map (·.2)) T k):=λb o z=>by
   rw[cU (λy=>by have:=h.fh _ _ z;rw[hn b y]at this;cases this)];exact z
  have s2:a6 (vR (l.map (·.2)) T k) (vR (l.map (·.2)) T H1):=λb o z=>by
   by_cases y:b∈l.map (·.2)
   .rw [kA y]at z ⊢;exact z
   .rw [cU y]at z ⊢;exact h.fh _ _ z
  have M:sj (vR (l.map (·.2)) T k) l t:=λi v hv=>by
   obtain⟨x,a,o,u,e1,e2,e4⟩:=cf i v hv;exact⟨x,a,o,u,e1,by rw[kA (A7.mpr ⟨_,An e1,rfl⟩)];exact e2,e4⟩
  refine⟨by rw[G];rfl,_,[d1,d2,.pW q1 A l cs],_,s2,⟨v1,_,rfl,ra.mono j,v2,_,rfl,rb.mono j,.ref f,_,rfl,⟨f,c,oc,O,pm,J,t,rfl,j _ _ h1,j _ _ h2,h3,(rs.mono h.ff).mono j,M⟩,rfl⟩,g,λr v F' H' p U r'=>?_⟩;refine q' r v k (pB (l.map (·.2)) H') p.2 (h.trans ⟨a6.refl _,λb o z=>?_,λb o z=>?_,λ_ _ z _ _=>z⟩) (r'.M' p.1)
  .have B:b∉l.map (·.2):=λy=>by rw[hn b y]at z;cases z
   rw[da B];exact U.hh _ _ (by rw[cU B];exact z)
  .have m:=h.fh _ _ z;have B:b∉l.map (·.2):=λy=>by rw[hn b y]at m;cases m
   rw[da B];exact U.hh _ _ (by rw[cU B];exact m)
 .exact g.elim
theorem OI {C:List Ac}(ct:hG C F){a:Ac}{xs:List V}(h:jO K F a xs):jO K (pB C F) a xs:=by
 rcases h with (h | ⟨o,h⟩) |h
 .exact .inl (.inl (by rw[da (λy=>by obtain⟨_,_,e,_⟩:=ct a y;rw[h]at e;cases e)];exact h))
 .exact .inl (.inr ⟨o,by rw[da (λy=>by obtain⟨_,_,e,_⟩:=ct a y;rw[h]at e;cases e)];exact h⟩)
 .exact .inr h
mutual
theorem dP.OH {C:List Ac}(ct:hG C F):∀{d:D} {v:V},dP K F d v->d.lf=true->dP K (pB C F) d v
 | .int _,_,h,_=>h
 | .bl _,_,h,_=>h
 | .cn,_,h,_=>h
 | .str _,_,h,_=>h
 | .ty _,_,h,_=>h
 | .fn _,_,h,_=>h
 | .tup ds,v,h,z=>by
  obtain⟨a,vs,e,h1,h2⟩:=h;exact⟨a,vs,e,OI ct h1,bE.OH ct h2 (by simpa[D.lf] using z)⟩
 | .lst ds,v,h,z=>by simp[D.lf]at z
 | .Oz,v,h,z=>by simp[D.lf]at z
 | .exc _,v,h,z=>by simp[D.lf]at z
 | .obj _ _ _,v,h,z=>by simp[D.lf]at z
 | .pW _ _ _ _,v,h,z=>by simp[D.lf]at z
theorem bE.OH {C:List Ac}(ct:hG C F):∀{ds:List D} {vs:List V},bE K F ds vs->D.hI ds=true->bE K (pB C F) ds vs
 | [],_,h,_=>h
 |d::ds,vs,h,z=>by
  obtain⟨v,r,e,h1,h2⟩:=h;simp[D.hI]at z
  exact⟨v,r,e,dP.OH ct h1 z.1,bE.OH ct h2 z.2⟩
end
theorem Py {i n:Nat}{q:Am}{st:AW}{fs:List Am}{sp:c_}{a:TA}{As:DA}(ha:dN K a As):eF K (OX i q st fs (bL K n sp) a) (z6 i n q st fs sp As):=λF0 H0 F H Y δ P Q e w q'=>by
 unfold z6 at w;split at w
 .rename_i q1 LN l cs hs;obtain⟨rfl,rfl,hf,O,G,L,w⟩:=w;have e0:=e;have fh:=(cp.ext e).fh;obtain⟨A,e'⟩:=e;obtain⟨v,hv,_,f,c,oc,T,pm,U,k,rfl,h1,h2,h3,h4,h5⟩:=e'.own i _ hs;have h:l.length=k.length:=by rw[L,h4.length]
  refine⟨f,c,oc,l,T,pm,U,k,hv,fh _ _ h1,hf,G,by rw[hf];exact O,h,ha F0 H0 F H Y δ _ _ e0 w λds us m H1 B g r1=>?_⟩;have C:a6 F H1:=g.ff.trans g.fh;have ct:hG (l.map (·.2)) m:=λb hb=>by
   obtain⟨⟨x,b'⟩,hm,rfl⟩:=A7.mp hb;obtain⟨j,J⟩:=Dr hm;obtain⟨M,_⟩:=Ab.mp J;obtain⟨t,a2,o,u,e1,e2,e3,_⟩:=h5 j (k[j]'(by rw[<- h];exact M)) (Ah _);rw[J]at e1;cases e1;exact⟨o,_,g.ff _ _ e2,e3⟩
  refine⟨C _ _ h1,C _ _ h2,h3,λj v J=>let⟨x,b,o,u,g1,g2,g3⟩:=h5 j v J;⟨x,b,o,u,g1,C _ _ g2,g3⟩,?_⟩;obtain⟨l1,l2,ln,B⟩:=B;have rr:bE K m (cs++ds) (k++us):=(h4.mono g.ff).append r1;have lf:D.hI (cs++ds)=true:=by rw[D.gZ]at l1 l2 ⊢;rw[List.all_append,l1,l2];rfl
  have s2:a6 (pB (l.map (·.2)) m) (pB (l.map (·.2)) H1):=λb o z=>by
   by_cases y:b∈l.map (·.2)
   .rw [nI y]at z;cases z
   .rw [da y]at z ⊢;exact g.fh _ _ z
  refine⟨by rw[<- rr.length];exact ln,_,cs++ds,_,s2,bE.OH ct rr lf,B,λr v F' H' p t r'=>?_⟩;refine q' r v m (vR (l.map (·.2)) H1 H') p.2 (g.trans ⟨a6.refl _,λb o z=>?_,λb o z=>?_,λ_ _ z _ _=>z⟩) (r'.M' p.1)
  .by_cases y:b∈l.map (·.2)
   .rw [kA y];exact z
   .rw [cU y];exact t.hh _ _ (by rw[da y];exact z)
  .have z:=g.fh _ _ z;by_cases y:b∈l.map (·.2)
   .rw [kA y];exact z
   .rw [cU y];exact t.hh _ _ (by rw[da y];exact z)
 .exact w.elim
end
def ZO (K:Ar)(n:Nat)(T:Ac)(pos:DR)(q:Am)(sp:c_):Sp:=Xu n λvs H Q=>∃F ds P,F T=some (.v7 pos q)/\a6 F H/\bE K F ds vs/\sp ds P/\∀r v c a,P r->cP F H c a->fk K H c a r v->Q v a
section
variable {K:Ar}{F0 H0:Hp}{te ta tb:TE}{t u:TS}{T U:DS}{a:TA}{As:DA}{E Ea Eb:DE}{n:Nat}{sp:c_}
end
section
variable {P:AE}{w:AU}{K:Ar}{mg:Am->Option Aa}{base:Heap}{x q:Am}{st:AW}{f c T:Ac}{fd:Ag}{pos:DR}{N ps fs:List Am}{k n:Nat}{sp:c_}
theorem ď.of (S:nz N fs ps (aA st))
  (L:∀(l:List (Am×Ac)) (O pm:Aa) (c:Ac) (C:Aa) (us:List Aa),us.length=ps.length->Cr (fnX (pV st) q (bZ st) (bx st) (aA st) l .none .none O pm none (.ref c) C) ⟨us,[]⟩=pure (ps.zip us)) (hn:n=fs.length+ps.length)
  (o:∀(A:AX) (outer:List EJ) (s:Ae) (H:Hp) (f:Ac) (cd:Aa) (l:List (Am×Ac)),l.map (·.1)=fs->cJ k (A.deeper (Lj q (aA st) s.heap.objs.size f cd l))->
   ∃t T,PSs (Zk P w K mg base N q (aA st) f cd l A outer s H) (bx st) t/\bR K t T/\∀ds a,sp ds a->T {nx:=λ_=>a (.fz .cn),rt:=a} (dD N ds)):o6 P w K mg base (k+1) q st fs (bL K n sp):=
 W0 S L (λvs H Q h=>by rw[<- hn];exact h.1) λA outer s H f cd l hf J=>by
  obtain⟨t,T,h1,h2,M⟩:=o A outer s H f cd l hf J;refine⟨t,h1,λvs Q h=>?_⟩;obtain⟨_,F,ds,a,G,j,g,B⟩:=h;refine h2 F H F H (start N vs) (dD N ds) {nx:=λ_=>a (.fz .cn),rt:=a} _ ⟨_,fu G j⟩ ⟨λu m Y δ e p=>?_,λ_ _ _ _ _ z=>z.elim,λ_ _ _ _ _ z=>z.elim,λu m r v x n p=>B r v u m p x n⟩ (M ds a g);exact B _ _ u m p e.ext (.fz rfl)
theorem Đ.of {sc:Ck}(g:bG K mg x st f fd)(hc:fd.code = .ref c)(S:aN N ps (aA st))
  (hb:∀(kV O pm:Aa) (J:Option Ac) (C ct:Aa) (us:List Aa),us.length=ps.length->Cr (Ep x x (bZ st) (bx st) (aA st) .none kV O pm J C ct) ⟨us,[]⟩=pure (ps.zip us)) (hn:n=ps.length)
  (o:∀(A:AX) (outer:List EJ) (s:Ae) (H:Hp) (E:XK),cJ k (A.deeper (BG x (aA st) s.heap.objs.size f (.ref c)))->∀F:Hp,F T=some (.v7 pos q)->∀cl,cl=dZ sc (eH l' P w K mg base N x (aA st) f (.ref c) A outer s H E).pP.env->
   ∃t U,PSs (eH l' P w K mg base N x (aA st) f (.ref c) A outer s H E).pP (bx st) t/\ow K F H t U/\∀ds a,sp ds a->U {nx:=λ_=>a (.fz .cn),rt:=a} (dD N ds)):bO P w K mg base x (k+1) ps (ZO K n T pos q sp):=by
 obtain⟨oc,od,kV,O,pm,J,C,ct,L,rfl,lk,m⟩:=g.fn.ex
 cases (show C = .ref c from hc)
 refine⟨f,_,?_,g.here,g.fn.kp,g.fn.binds hb⟩;refine ME lk m S (λvs H Q E h=>by rw[<- hn];exact h.1) λA outer s H vs Q E hr h=>?_
 obtain⟨_,F,ds,a,hT,M,l,j,G⟩:=h;obtain⟨t,U,h1,h2,h3⟩:=o A outer s H E hr F hT _ rfl;refine⟨t,h1.pP,h2 F H (start N vs) (dD N ds) {nx:=λ_=>a (.fz .cn),rt:=a} _ ⟨_,fu M l⟩ ⟨λB u Y δ e p=>?_,λ_ _ _ _ _ z=>z.elim,λ_ _ _ _ _ z=>z.elim,λB u r v x n p=>G r v B u p x n⟩ (h3 ds a j)⟩;exact G _ _ B u p e.ext (.fz rfl)
end
def uP (K:Ar)(T:Ac)(pos:DR)(q:Am):Sp:=Xu 1 λvs H Q=>∃(a:Ac) (ns:List Int),vs=[.ref a]/\eR K H a (ns.map V.int)/\H T=some (.v7 pos q)/\ns.length<=63/\(∀m∈ns,i6 m<=1048576)/\∀c,c T=some (.v7 pos q)->Q (.bl true) c
theorem NI {P:AE}{w:AU}{K:Ar}{M mb:Am->Option Aa}{k:Nat}{fa a c T:Ac}{pos:DR}{q:Am}{fd:Ag}{x:Am}{f:Ae}{vs:List Aa}{ns:List Int}
  (KX:K.In f.heap) (p:f.heap.Ns Ai M) (B:f.heap.Ns Fi mb) (ö:∀x:Am,x ≠ "__name__"->mb x=DJ x) (ï:f.heap.NoLimit) (hg:f.gens=#[])
  (Ϥ:∃J ob,M "__builtins__"=some (.ref J)/\J≠Fi/\f.heap.get? J=some ob/\ob.cls = .type "module"/\ob.dict=some Fi/\ob.data = .plain)
  (hC:J8 f.heap c T) (C:f.heap.get? T=some (Lh #[])) (ϰ:K.lookup T=none)
  (G:f.heap.get? a=some {cls:=.type "list",data:=.seq vs.toArray}) (hi:EB vs ns) (hl:ns.length<=63) (t:∀m∈ns,i6 m<=1048576) (hr:cJ k Dn)
  (F:∀base:Heap,K.In base->base.Ns Ai M->base.BuiltinsAt M T->fE P w K M base l' k fa fd [x] (uP K T pos q)) (A:∀(s:Ae) (u:Aa),FL s fd ⟨[u],[]⟩ [(x,u)]):
  Cw (model P w) Dn (.call (.ref fa) ⟨[.ref a],[]⟩) (λr s'=>r = .ok (.ret (.bool true))/\KN f.heap s'.heap/\s'.os=f.os/\Db s'.gens) f:=by
 have rv:=nH hi;have U:=hi.length;have Ϫ:T≠a:=λz=>by rw[z,G]at C;cases C
 have core : ∀H:Hp,H T=some (.v7 pos q)->eR K H a (ns.map V.int)->kK P w H f.heap->(∀b u,H b=some u->b=T∨(b=a/\K.lookup a=none/\∃o y,u = .fC o y))->
   Cw (model P w) Dn (.call (.ref fa) ⟨[.ref a],[]⟩) (λr s'=>r = .ok (.ret (.bool true))/\KN f.heap s'.heap/\s'.os=f.os/\Db s'.gens) f:=by
  intro H ļ hS cY hA;have tr:∀{b o},f.heap.get? b=some o->o.cls≠.none->o.cls≠.type "list"->H b=none:=λ{b o} e n1 n2=>by
   cases q:H b with
   |none=>rfl
   |some u=>
    rcases hA b u q with rfl | ⟨rfl,_⟩
    .rw [C]at e;cases e;exact absurd rfl n1
    .rw [G]at e;cases e;exact absurd rfl n2
  have ř:∀{b o es ep},f.heap.get? b=some o->o.data = .dict es ep->H b=none:=λ{b o es ep} e d=>by
   cases q:H b with
   |none=>rfl
   |some u=>
    rcases hA b u q with rfl | ⟨rfl,_⟩
    .rw [C]at e;cases e;cases d
    .rw [G]at e;cases e;cases d
  have l:∀{b:Ac} {m:Am->Option Aa},f.heap.Ns b m->(m5 f.heap H).Ns b m:=λ{b m} ⟨o,es,ep,e,d,r⟩=>⟨o,es,ep,m4 e (ř e d),d,r⟩
  have Ļ:K.In (m5 f.heap H):=λb o e=>m4 (KX b o e) (by
   cases q:H b with
   |none=>rfl
   |some u=>
    rcases hA b u q with rfl | ⟨rfl,z,_⟩
    .rw [ϰ]at e;cases e
    .rw [z]at e;cases e)
  have hM:Mod K M (m5 f.heap H):=⟨Ļ,l p,⟨mb,l B,ö⟩,let⟨mc,h1,h2⟩:=ï;⟨mc,l h1,h2⟩⟩
  have hB:(m5 f.heap H).BuiltinsAt M T:=by
   obtain⟨J,ob,b1,b2,b3,b4,b5,b6⟩:=Ϥ;have hm:H J=none:=tr b3 (by rw[b4];decide) (by rw[b4];decide);refine⟨J,ob,b1,b2,λz=>?_,λz=>?_,m4 b3 hm,b4,b5,b6⟩
   .obtain ⟨o,es,ep,e,hd,_⟩:=p;rw[z,e]at b3;cases b3;rw[hd]at b6;cases b6
   .rw [z,ļ]at hm;cases hm
  have e0:lr P w K M (m5 f.heap H) Dn [] f H:=⟨rfl,hM,λb o e=>Mi e,ID (ug _ _),trivial,λb B=>absurd (show b∈([]:List Ac) from B) (by simp),cY,.of_eq hg⟩
  refine Cj ((F _ Ļ (l p) hB).run Dn [] f H ⟨[.ref a],[]⟩ [.ref a] [.ref a] (λv H'=>v = .bl true/\H' T=some (.v7 pos q)) E0 hr e0 (A f (.ref a)) (.cons rfl .nil) ⟨rfl,a,ns,rfl,hS,ļ,hl,t,λH' z=>⟨rfl,z⟩⟩) λr s' h=>?_
  cases r with
  |error e=>exact (show False from h).elim
  |ok fl =>
   cases fl with
   |next=>exact A_ h
   |brk=>exact A_ h
   |cont=>exact A_ h
   |ret u =>
    obtain⟨v,H',os,bare,un,O,r',q1,q2⟩:=h;subst q1;obtain rfl:u=Fw true:=r';obtain⟨ps,Ħ,_⟩:=O T _ q2;have kp:∀b o,b≠T->f.heap.get? b=some o->s'.heap.get? b=some o:=λb o n e=>by
     cases q:H b with
     |none=>exact un.keep b o e q (by intro z;exact absurd (show b∈([]:List Ac) from z) (by simp)) (by simp)
     |some u=>
      rcases hA b u q with z | ⟨rfl,_,ob,y,rfl⟩
      .exact absurd z n
      .have z2:=un.kE _ ob y q;obtain⟨e1,_⟩:=cY _ _ q;obtain⟨e2,_⟩:=O _ _ z2;rw[e]at e1;cases e1;exact e2
    refine⟨rfl,⟨λb o e=>?_,λb o e=>?_⟩,os,bare⟩
    .by_cases B:b=T
     .subst B;rw[C]at e;cases e;exact .inr (.inl ⟨(hC.tab C).isCodeTable,rfl,#[],ps,rfl,by rw[Array.empty_append];exact Ħ⟩)
     .exact .inl (kp b o B e)
    .by_cases B:b=T
     .subst B;exact⟨_,Ħ⟩
     .exact ⟨o,kp b o B e⟩
 have Q:∀H:Hp,eo P w H f.heap T (.v7 pos q):=λH=>⟨#[],C,trivial,λv hv=>by cases hv⟩
 have ī:ns.length<=AH:=BC hl (by rw[C4];decide)
 cases hk:K.lookup a with
 |some o=>
  have e:=KX a o hk;rw[G]at e;cases e;refine core (λb=>if b=T then some (.v7 pos q) else none) (if_pos rfl) (.inr ⟨_,vs.toArray,_,hk,rfl,rfl,rfl,by rw[Aq,U];exact ī,rv⟩) (λb u z=>?_) λb u z=>?_
  .by_cases B:b=T
   .have g:=(if_pos B).symm.trans z;cases g;subst B;exact Q _
   .have g:=(if_neg B).symm.trans z;cases g
  .by_cases B:b=T
   .exact .inl B
   .have g:=(if_neg B).symm.trans z;cases g
 |none=>
  refine core (λb=>if b=T then some (.v7 pos q) else if b=a then some (.fC {cls:=.type "list",data:=.seq vs.toArray} (.lst (ns.map V.int))) else none) (if_pos rfl) (.inl (.inr ⟨{cls:=.type "list",data:=.seq vs.toArray},(if_neg (Bm Ϫ)).trans (if_pos rfl)⟩)) (λb u z=>?_) λb u z=>?_
  .by_cases B:b=T
   .have g:=(if_pos B).symm.trans z;cases g;subst B;exact Q _
   .have L:=(if_neg B).symm.trans z;by_cases j:b=a
    .have g:=(if_pos j).symm.trans L;cases g;subst j;exact⟨G,by rw[Ay];exact ī,vs,_,rv,G⟩
    .have g:=(if_neg j).symm.trans L;cases g
  .by_cases B:b=T
   .exact .inl B
   .have L:=(if_neg B).symm.trans z;by_cases j:b=a
    .have g:=(if_pos j).symm.trans L;cases g;exact .inr ⟨j,hk,_,_,rfl⟩
    .have g:=(if_neg j).symm.trans L;cases g
theorem NH {l:PySem.W.OpenLaw}{k:Nat}{Q:AE}{e:List Am}{XP:(Am->Option Aa)->Heap->Prop}{B:AU->Heap->Prop}{d:Kc}{K:J_->Ar}{c T:Ac}{pos:DR}{q:Am}(hn:l.most=some 63)(p:d.params.defaults=[])(J:cJ k Dn)
  (hY:∀(w:AU) (h:Heap),B w h->(K w.params).In h/\h.get? T=some (Lh #[])) (hC:∀(w:AU) (h:Heap),(K w.params).In h->J8 h c T) (r:∀w:AU,(K w.params).lookup T=none)
  (F:∀(w:AU) (m:Am->Option Aa) (A:Ac) (h:Heap),(K w.params).In h->h.Ns Ai m->m d.name=some (.ref A)->
   ∃fd:Ag,(∀(s:Ae) (u:Aa),FL s fd ⟨[u],[]⟩ [("_law_script",u)])/\∀base:Heap,(K w.params).In base->base.Ns Ai m->base.BuiltinsAt m T->fE l.prog w (K w.params) m base l' k A fd ["_law_script"] (uP (K w.params) T pos q)):
  PySem.W.WalkO Q e XP B l.row.toRowW d [] (λf vs=>PySem.call f vs):=by
 refine Att.wo hn p λw s₀ z m mb A o pm cd doc a vs ns G C ho hd O M j n L t hg=>?_
 obtain⟨v,hT⟩:=hY w _ C;obtain⟨fd,U,hF⟩:=F w m A _ v G.T.g M;exact NI v G.T.g G.T.b G.T.builtins G.T.nolimit hg G.T.bmain (hC w _ v) hT (r w) j n L t J hF U
theorem Tj {P:AE}{w:AU}{K:Ar}{g:Am->Option Aa}{base:Heap}{st:AW}{f T:Ac}{pos:DR}{q:Am}{fd:Ag}{N:List Am}{k:Nat}(Df:bG K g "law" st f fd)(S:aN N ["_law_script"] (aA st))
  (o:∀(c:Aa) (A:AX) (outer:List EJ) (s:Ae) (H:Hp) (E:XK),cJ k (A.deeper (BG "law" (aA st) s.heap.objs.size f c))->H T=some (.v7 pos q)->
   ∃t U,PSs (eH l' P w K g base N "law" (aA st) f c A outer s H E).pP (bx st) t/\ow K H H t U/\∀ns:List Int,ns.length<=63->(∀m∈ns,i6 m<=1048576)->U {nx:=λ_=>False,rt:=λr=>r = .fz (.bl true)} (dD N [.lst (ns.map .int)])):fE P w K g base l' (k+1) f fd ["_law_script"] (uP K T pos q):=
 Df.fn.ok S (λvs H Q E h=>h.1) λc A outer s H vs Q E J h=>by
  obtain⟨_,a,ns,rfl,L,u,l,B,q⟩:=h;obtain⟨t,U,h1,h2,M⟩:=o c A outer s H E J u;have j:bE K H [.lst (ns.map D.int)] [.ref a]:=⟨_,_,rfl,⟨a,_,rfl,L,gv.mpr rfl⟩,rfl⟩
  refine⟨t,h1,h2 H H (start N [.ref a]) (dD N [.lst (ns.map .int)]) {nx:=λ_=>False,rt:=λr=>r = .fz (.bl true)} _ ⟨_,fu (a6.refl H) j⟩ ⟨λO C Y δ e p=>p.elim,λ_ _ _ _ _ z=>z.elim,λ_ _ _ _ _ z=>z.elim,λO C r v x n p=>?_⟩ (M ns l B)⟩;subst p;obtain⟨A,G,_⟩:=n;have:v = .bl true:=G.2;subst this;exact q C (x.hh _ _ u)
theorem TU {X:Cx}{scope:Ck}(ok:X.Ok)(h:∀x∈scope.names,x.2 = .free->X.env.kindOf x.1=some .cell):Fg scope X.env=pure (dZ scope X.env):=jG λx a e=>ok.has x.1 (.inl (h x a e))
theorem RF {X:Cx}{scope:Ck}{c:List (Am×Ac)}(e:c=dZ scope X.env)(ok:X.Ok)(h:∀x∈scope.names,x.2 = .free->X.env.kindOf x.1=some .cell):Fg scope X.env=pure c:=by rw[e];exact TU ok h
theorem Su {g:MZ}{P:AE}{w:AU}{K:Ar}{m:Am->Option Aa}{base:Heap}{N fs:List Am}{q:Am}{scope sc:Ck}{f:Ac}{cd:Aa}{A:AX}{outer:List EJ}{s:Ae}{H:Hp}{E:XK}{ix:List Nat}
  (h1:((sc.names.filter λx=>x.2 == .free).map (·.1)).reverse=fs) (k:fs.Nodup) (hl:fs.length=ix.length) (h2:(fs.zip ix).all (λp=>scope.names.lookup p.1==some .cell && N[p.2]?==some p.1)=true):
  si (eH g P w K m base N q scope f cd A outer s H E).pP (dZ sc (eH g P w K m base N q scope f cd A outer s H E).pP.env) ix:=by
 have M:(dZ sc (eH g P w K m base N q scope f cd A outer s H E).pP.env).map (·.1)=fs:=by
  rw[<- h1];unfold dZ;rw[CI,A8];rfl
 have key:∀(i:Nat) x c,(dZ sc (eH g P w K m base N q scope f cd A outer s H E).pP.env)[i]?=some (x,c)->∃j:Nat,ix[i]?=some j/\N[j]?=some x/\scope.names.lookup x=some .cell/\(GI (s.heap.objs.size+1) scope.names []).lookup x=some c:=λi x c e=>by
  have r:fs[i]?=some x:=by rw[<- M,AN,e];rfl
  have hi:=(Ab.mp r).1;have o:ix[i]?=some ix[i]:=Ah (by rw[<- hl];exact hi);have z:=FI.mp h2 (x,ix[i]) (An (i:=i) (by rw[Cu];exact⟨r,o⟩));rw[CJ,beq_iff_eq,beq_iff_eq]at z;refine⟨ix[i],o,z.2,z.1,?_⟩;obtain⟨B,C⟩:=rY (n:=s.heap.objs.size+1) z.1;have h:=An e;unfold dZ at h;rw[DD]at h;obtain⟨p,v,a⟩:=A7.mp h;have u:p.1=x:=congrArg Prod.fst a;have l:((GI (s.heap.objs.size+1) scope.names []).lookup p.1).getD 0=c:=congrArg Prod.snd a;rw[u,C]at l;rw[C];exact congrArg some l
 refine⟨by rw[<- hl,<- M,Ay],λi x c e=>?_,by rw[M];exact k,λ_ _ _ _=>rfl⟩;obtain⟨j,k1,k2,k3,t⟩:=key i x c e;exact⟨t,k3,.inr (.inl k3),j,k1,k2⟩
theorem S1 {X:Cx}{x:Am}{k:Nat}{ps:List Am}{sp:Sp}{c:List (Am×Ac)}{ix:List Nat}{e:Expr}{a:List Expr}{t:TA}{p pos:DR}(C:bO X.prog X.w X.K X.mg X.base x k ps sp)(r:cJ k X.A)(hg:Gl X x)(S:si X c ix)(n:PA X (e::a) t)
  (B:(x==("__debug__":Am))=false:=by decide) (j:Av (e::a) X.env=(false,eval e X.env)::Av a X.env:=by rfl) (h:(BY pos (Av a X.env)).any (·.1)=false:=by rfl):
  PE X (.Call (.Name x p) (e::a) [] pos) (yP sp c ix t):=by
 obtain⟨f,fd,F,m,g,l⟩:=C.ex;exact Qu F r hg m g l S n B j h
noncomputable def Zm (o:Co)(T:Ac):Bool:=o.cls == .type "code" && match o.data with
 | .fields vs=>vs[11]?==some (.ref T) && vs.getD 11 .none == .ref T && (match vs.getD 18 .none,vs.getD 7 .none,vs.getD 9 .none,vs.getD 10 .none with
  | .str _ _,.int _ _,.bool _,.int _ _=>true
  |_,_,_,_=>false)
 |_=>false
theorem uw {K:Ar}{base:Heap}{c T:Ac}{o:Co}(X:K.In base)(l:K.lookup c=some o)(h:Zm o T=true)(n:c≠T):J8 base c T:=by
 unfold Zm at h;rw[CJ,beq_iff_eq]at h;obtain⟨h1,h⟩:=h;split at h
 .rename_i vs hd;simp only[CJ,beq_iff_eq]at h;obtain⟨⟨h2,q⟩,h⟩:=h;split at h
  .rename_i _ _ _ _ a b c d e f g p m k j;exact⟨o,vs,a,b,c,d,e,f,g,X _ _ l,h1,hd,h2,q,p,m,k,j,n⟩
  .cases h
 .cases h
theorem Ys {P:AE}{w:AU}{K:Ar}{m:Am->Option Aa}{x:Am}{st:AW}{f T:Ac}{fd:Ag}{k:Nat}{sp:Sp}(a:bG K m x st f fd)(h:∀(s:Ae) (v:Aa),FL s fd ⟨[v],[]⟩ [("_law_script",v)])(hc:∀base:Heap,K.In base->base.Ns Ai m->base.BuiltinsAt m T->fE P w K m base l' k f fd ["_law_script"] sp):
  ∃fd:Ag,(∀(s:Ae) (v:Aa),FL s fd ⟨[v],[]⟩ [("_law_script",v)])/\∀base:Heap,K.In base->base.Ns Ai m->base.BuiltinsAt m T->fE P w K m base l' k f fd ["_law_script"] sp:=⟨fd,h,hc⟩
section
variable {P:AE}{w:AU}{K:Ar}{mg:Am->Option Aa}{base:Heap}{N fs ps:List Am}{q:Am}{ar:HR}{bd:Expr}{sc:Ck}{k:Nat}{sp:Sp}
end
section
variable {X:Cx}
end
section
variable {K:Ar}{F0 H0:Hp}{c c':TT}{C C':DT}
end
def OR (K:Ar)(c m:Am)(W:Ac)(sp:Sp)(T:TE)(t:TA)(h:TS):TS:=λD Y H=>∃C,Cq K Ai c=some (some (.ref C))/\T Y H λx f=>∃a g fs,x = .ref a/\f a=some (.ins C g fs)/\fs.lookup m=none/\t Y f λvs j=>
 sp (x::vs) j (λ_ e=>D.nx Y e) λcls _ e=>∃C,cls = .ref C/\HZ K (.ref C) (.ref W)=some true/\∀a,e a=none->h {nx:=D.nx,rt:=λ_ _=>False} Y (c8 e a (.ext (ux a (.ref C))))
section
variable {X:Cx}
theorem Qi {W:Ac}{c m wx:Am}{k:Nat}{ps:List Am}{sp:Sp}{o e:Expr}{n:List Expr}{ta:TE}{t:TA}{th:TS}{G:AW}{U:List AW}{np p apos O è M8:DR}{pl:Jb Bool}
  (T:X.stack=X.env::X.outer) (ZU:X.env.frame=some X.env.locals) (ģ:∀e s',¬ X.xe e s') (CC:nB X.prog X.w X.K X.mg X.base c m k ps sp) (hr:cJ k X.A) (Ϡ:PE X o ta) (ha:PA X (e::n) t)
  (ϝ:Gl X wx) (ϊ:X.mg wx=some (.ref W)) (ů:∀a,PSs (X.WN a) (G::U) th)
  (Ϣ:(wx==("__debug__":Am))=false:=by decide) (he:Av (e::n) X.env=(false,eval e X.env)::Av n X.env:=by rfl) (YF:(BY p (Av n X.env)).any (·.1)=false:=by rfl)
  (ht:eval (.Call (.Attribute o m apos) (e::n) [] p) X.env=(do
   let ov <- eval o X.env
   FK apos.atName
   let (f,first) <- EA [ov] (E6 ov m pl)
   Hc p f first (BY p (Av (e::n) X.env)) (Gm p (ES [] X.env))):=by rfl)
  (ű:GH (.Call (.Attribute o m apos) (e::n) [] p) none O.line X.env=pure false:=by rfl):
  PS X (.Try [.Expr (.Call (.Attribute o m apos) (e::n) [] p) O] [.ExceptHandler (some (.Name wx np)) none (G::U) è] [] [] M8) (OR X.K c m W sp ta t th):=by
 rintro pins s Y H D I ⟨C',YN,h⟩;obtain⟨C,f,fd,hC,cl,hm,F,hb⟩:=CC.ex;rw[hC]at YN;cases YN;refine wpAny_Try_except ?_;refine GG (J2 (FW (BV (Ϡ pins s Y H _ I h) (λu s0 zz=>?_) λe s' z=>absurd z (ģ e s')) ht) I.quiet ű);obtain⟨x,H0,I0,rx,L,dx,fs,ex,ea,l,q⟩:=zz;subst ex;obtain rfl:u=Bj L:=rx;refine l3 I0 ea cl hm l ?_;refine EI (first:=[.ref L]) I.ok.mod.UR hm.kp (BV (ha p pins s0 Y H0 _ I0 q) (λus s1 zz=>?_) λe s' z=>absurd z (ģ e s')) he YF;obtain⟨vs,H1,I1,r,q⟩:=zz;refine⟨I1.kZ,?_⟩;have r2:bI (V.ref L::vs) (Bj L::us):=.cons rfl r;have hl:((Bj L::us)++[]).length=ps.length:=by rw[Bi,<- r2.length];exact F.len _ _ _ _ q
 have ĵ:=hb s1 (Bj L::us) I1.kZ hl;rw[Bi]at ĵ;refine EH (Cj (F.run X.A X.stack s1 H1 ⟨Bj L::us,[]⟩ (Bj L::us) _ _ _ hr I1.NU ĵ r2 q) λres s' hq=>?_)
 cases res with
 |ok fl=>
  cases fl with
  |ret u=>
   obtain⟨v,H',I',r',z⟩:=I1.after hq;exact Dm (Dm ⟨Y,H',I',z⟩)
  |_=>exact A_ hq
 |error ev=>
  obtain⟨a,C1,a1,B,H',rfl,⟨C2,ϱ,hex,æ⟩,fl,g,un,cY,J,Xy,Q⟩:=hq;cases ϱ;have ñ:X.A.frames=some (X.env::X.outer):=by rw[<- T];exact I.ok.frames
  have Ŀ:=fl;rw[T]at fl;refine wpAny_looks_onW ñ ZU fl λh4 YJ ŝ=>?_
  refine wpAny_landsW YJ λh5 Ā Ŝ=>?_
  have j:=ŝ.trans Ŝ;have ÿ:Heap.FlyingW B X.stack a (.ref C1) a1 h5:=by rw[T];exact Ā
  have I5:=(I1.RG Ŀ g un cY J Xy Q ÿ j).WN a;refine wpAny_handleBy_cons (codeAny_handlers_test (kY (X:=X.WN a) I5 ϝ ϊ ?_ Ϣ)) (by intro q;cases q);have LT:Looks (model X.prog X.w) h5 (Lb (.ref a)) (.ref C1):=by
   obtain⟨ob,Ź,hc⟩:=Ā.there;rw[<- hc];exact (Looks.ld Ź).andThen .now
  refine (PySem.W.exm_one (M:=model X.prog X.w) I5.kZ LT hex).here ?_;refine codeAny_handlers_suite ?_;refine lands_againW Ā λh6 fl6 ś=>?_
  have þ:Heap.FlyingW B X.stack a (.ref C1) a1 h6:=by rw[T];exact fl6
  have I6:=(I1.RG Ŀ g un cY J Xy Q þ (j.trans ś)).WN a;refine BV (ů a pins _ _ _ _ I6 (æ a Q)) (λfw s8 q8=>?_) (λe s8 z=>z.elim)
  cases fw with
  |next=>
   obtain⟨Y',Hn,I8,q⟩:=q8;exact⟨Y',Hn,I8.XR I.ok,q⟩
  |ret u=>obtain⟨v,Y',Hn,I8,_,z⟩:=q8;exact z.elim
  |brk=>obtain⟨Y',Hn,I8,z⟩:=q8;exact A_ z
  |cont=>obtain⟨Y',Hn,I8,z⟩:=q8;exact A_ z
end
def ze (i n:Nat)(c:Am)(ns:List Am)(sp:Ue)(cs:List Am)(A:DA)(T:DS):DS:=λe δ=>match δ[i]? with
 |some (some (.own (.ob o C a ts)))=>C=c/\a=ns/\A δ λds=>ds.length+1=n/\sp ts ds (λ_ t=>e.nx (δ.set i (some (.own (.ob o c ns t))))) λx t=>x∈cs/\T {nx:=e.nx,rt:=λ_=>False} (δ.set i (some (.own (.ob o c ns t))))
 |_=>False
theorem Pk {K:Ar}{W:Ac}{i n:Nat}{c m:Am}{ns:List Am}{sp:Ue}{cs:List Am}{a:TA}{U:DA}{u:TS}{T:DS}(hm:m∉ns)(hW:∀c∈cs,∀C,Cq K Ai c=some (some (.ref C))->HZ K (.ref C) (.ref W)=some true)(ha:dN K a U)(t:bR K u T):
  bR K (OR K c m W (R0 K n c ns sp) (eT i) a u) (ze i n c ns sp cs U T):=λQ O F H Y δ k En e l w=>by
 unfold ze at w;split at w
 .rename_i o c' Yl ts L;obtain⟨rfl,rfl,w⟩:=w;have M:=e;obtain⟨A,e⟩:=e;obtain⟨v,J,p,C,dx,vs,B,rfl,eA,h0,ho,h1,h2,hl,h3⟩:=e.own i _ L;refine⟨C,h0,_,J,p,dx,_,rfl,h1,ed hm,ha Q O F H Y δ _ _ M w λds us F1 H1 q x1 r1=>?_⟩;refine O1 (P:=λ_ f=>k.nx f) (X:=λx f=>x∈cs/\T {nx:=k.nx,rt:=λ_=>False} f) (M.on x1) L J q.1 r1 q.2 (λd v h g f p e' r=>l.nx h g Y f e' p) λx j h g f p hC e'=>?_
  obtain⟨hc,p⟩:=p;refine⟨j,rfl,hW x hc j hC,λy G=>?_⟩;have fh:=(cp.ext e').fh;have x2:cP h g (c8 h y (.ext (ux y (.ref j)))) (c8 g y (.ext (ux y (.ref j)))):=cP.new fh G (a6.new G) a9;exact t Q O _ _ _ _ {nx:=k.nx,rt:=λ_=>False} _ (e'.on x2) ⟨l.nx,λ_ _ _ _ _ z=>z.elim,λ_ _ _ _ _ z=>z.elim,λ_ _ _ _ _ _ z=>z.elim⟩ p
 .exact w.elim
section
variable {K:Ar}{TF:Hp->Prop}{te tc:TE}{t u:TS}{T U:DS}{E Ec:DO}{c:TT}{C:DT}
theorem bR.y (h:bR K t T):lL K TF t T:=λe a _=>h e a
theorem pZ (h:lL K TF t T)(g:lL K TF u U):lL K TF (OS t u) (Pj T U):=λf e a=>dq (h f e a) (g f e a)
theorem Vo {i:Nat}(h:yx K TF tc Ec):lL K TF (sv tc (m7 i)) (Sx i (Z2 (TM Ec))):=λf e a=>VF (X4 (h f e a))
def Sk (K:Ar)(n:Nat)(TF:Hp->Prop)(sp:c_):Sp:=Xu n λvs H Q=>∃F ds P,TF F/\a6 F H/\bE K F ds vs/\sp ds P/\∀r v e a,P r->cP F H e a->fk K H e a r v->Q v a
theorem LD {TG:Hp->Prop}{a:TA}{A:DA}{n:Nat}{sp:c_}(m:MT TG)(M:∀F,TF F->TG F)(l:dN K a A):yx K TF (qc (Sk K n TG sp) [] E0 a) (MN n sp A):=λJ z o F H Y δ P Q e w q=>l J z F H Y δ _ _ e w λds vs G O g f h=>by
 rw[Bi];exact⟨by rw[<- h.length];exact g.1,G,ds,P,m _ _ ((cp.ext e).ff.trans f.ff) (M _ o),f.fh,h,g.2,λr v L B p j k=>q r v L B p (f.trans j) (k.old f.hh)⟩
theorem OD {B:Ac}{pos:DR}{q:Am}{a:TA}{A:DA}{n:Nat}{sp:c_}(m:∀F,TF F->F B=some (.v7 pos q))(e:dN K a A):yx K TF (qc (ZO K n B pos q sp) [] E0 a) (MN n sp A):=LD (TG:=λF=>F B=some (.v7 pos q)) (λ_ _ s h=>s _ _ h) m e
end
section
variable {P:AE}{w:AU}{K:Ar}{mg:Am->Option Aa}{base:Heap}{c m q x:Am}{ns:List Am}{st:AW}{f:Ac}{fd:Ag}{N ps:List Am}{k n:Nat}{TF:Hp->Prop}
theorem ZA.of {sp:c_}(Df:bG K mg x st f fd)(S:aN N ps (aA st))
  (L:∀(kV O pm:Aa) (an:Option Ac) (C ct:Aa) (us:List Aa),us.length=ps.length->Cr (Ep x x (bZ st) (bx st) (aA st) .none kV O pm an C ct) ⟨us,[]⟩=pure (ps.zip us)) (hn:n=ps.length)
  (o:∀(C:Aa) (A:AX) (outer:List EJ) (s:Ae) (H:Hp) (E:XK),cJ k (A.deeper (BG x (aA st) s.heap.objs.size f C))->
   ∃t T,PSs (eH l' P w K mg base N x (aA st) f C A outer s H E).pP (bx st) t/\lL K TF t T/\∀ds a,sp ds a->T {nx:=λ_=>a (.fz .cn),rt:=a} (dD N ds)):bO P w K mg base x (k+1) ps (Sk K n TF sp):=
 bO.of Df S L (λvs H Q E h=>by rw[<- hn];exact h.1) λC A outer s H vs Q E J h=>by
  obtain⟨_,F,ds,a,M,G,j,g,B⟩:=h;obtain⟨t,T,h1,h2,U⟩:=o C A outer s H E J;refine⟨t,h1,h2 F H M F H (start N vs) (dD N ds) {nx:=λ_=>a (.fz .cn),rt:=a} _ ⟨_,fu G j⟩ ⟨λu l Y δ e p=>?_,λ_ _ _ _ _ z=>z.elim,λ_ _ _ _ _ z=>z.elim,λu l r v x n p=>B r v u l p x n⟩ (U ds a g)⟩;exact B _ _ u l p e.ext (.fz rfl)
end
section
variable {K:Ar}{TF:Hp->Prop}{c m f:Am}{ns:List Am}{i j k n:Nat}{te:TE}{a:TA}{As:DA}
end
section
variable {K:Ar}{F0 H0:Hp}{t:TS}{T:DS}
end
abbrev ő:=List D->(D->OV->Prop)->(Am->Prop)->Prop
section
variable {P:AE}{w:AU}{K:Ar}{mg:Am->Option Aa}{base:Heap}{N:List Am}{f:Ac}{x:Am}{st:AW}{fd:Ag}{ps:List Am}{k n:Nat}{TF:Hp->Prop}{sp:ő}
abbrev We (sp:Sp):Sp:=λvs H Q _=>sp vs H Q λ_ _ _=>False
end
section
variable {K:Ar}{TF:Hp->Prop}{a:TA}{As:DA}{n:Nat}{sp:ő}
end
section
variable {K:Ar}{F0 H0:Hp}{TF:Hp->Prop}
end
section
variable {X:Cx}{K:Ar}
end
theorem nB.We {P:AE}{w:AU}{K:Ar}{g:Am->Option Aa}{base:Heap}{c m:Am}{k:Nat}{ps:List Am}{sp:Sp}(u:nB P w K g base c m k ps sp): c6 P w K g base c m k ps (We sp):=by
 obtain⟨C,f,fd,h1,h2,t,F,n⟩:=u.ex;refine⟨C,f,fd,h1,h2,t,⟨λvs H Q E h=>F.len vs H Q _ h,λA o s H args us vs Q E r j l v p=>?_⟩,n⟩;refine Cj (F.run A o s H args us vs Q (λ_ _ _=>False) r j l v p) λres s' q=>?_
 cases res with
 |ok L=>cases L<;>exact q
 |error e=>
  obtain⟨a,M,G,B,J,rfl,z,_⟩:=q;exact z.elim
def qH (c:Am)(ns:List Am)(i n:Nat)(sp:Ue)(A:DA)(U:DS):DS:=λe δ=>match δ[i]? with
 |some (some (.own (.ob o C a ts)))=>C=c/\a=ns/\A δ λds=>ds.length+1=n/\sp ts ds (λd t=>d = .cn/\U e (δ.set i (some (.own (.ob o c ns t))))) λ_ _=>False
 |_=>False
section
variable {K:Ar}{c m:Am}{ns:List Am}{i n:Nat}{sp:Ue}{a:TA}{As:DA}
theorem xK {j h F H:Hp}{Y:St}{δ:c7}{l:MY}{U:DS}{Q:VK}(T:m∉ns)(ha:dN K a As)(e:cp K j h F H Y δ)(w:qH c ns i n sp As U l δ)(q:∀k g f,cp K j h k g Y f->U l f->Q .cn g):iq K c m (We (R0 K n c ns sp)) (eT i) a Y H Q:=by
 unfold qH at w;split at w
 .rename_i o c' O ts G;obtain⟨rfl,rfl,w⟩:=w;have J:=e;obtain⟨A,e⟩:=e;obtain⟨v,u,p,C,dx,vs,B,rfl,eA,h0,ho,h1,h2,hl,h3⟩:=e.own i _ G;refine⟨C,h0,_,u,p,dx,_,rfl,h1,ed T,ha j h F H Y δ _ _ J w λds us F1 H1 t L M=>?_⟩;rw[Bi];refine O1 (P:=λd f=>d = .cn/\U l f) (X:=λ_ _=>False) (J.on L) G u t.1 M t.2 (λd v k g f p e' r=>?_) λ_ _ _ _ _ z=>z.elim
  obtain⟨rfl,p⟩:=p;cases r;exact q k g f e' p
 .exact w.elim
theorem Pn (h:m∉ns)(A:dN K a As):bR K (jQ (iq K c m (We (R0 K n c ns sp)) (eT i) a)) (qH c ns i n sp As PC):=λo k F H Y δ r q e l w=>xK h A e w λj g f e' p=>l.nx j g Y f e' p
theorem Nf {R:R2}{tb:TE}{t u:TS}{U:DS}(g:∀H Q,Q (.bl false) H->R .cn .cn H Q)(B:∀Y H Q,Q .cn H->tb Y H Q)(M:m∉ns)(A:dN K a As)(h:bR K u U):bR K (Sf (LJ (LK R (iq K c m (We (R0 K n c ns sp)) (eT i) a) tb)) t u) (qH c ns i n sp As U):=λo j F H Y δ v r e l w=>xK M A e w λq k f e' p=>B _ _ _ (g _ _ ⟨false,rfl,sU rfl (h o j q k Y f v r e' l p)⟩)
end
open PySem PySem.Spec PyProof.Rows
def D.MH (d:D):Prop:=(∃i,d = .int i)∨(∃s,d = .str s)∨d = .cn∨∃b,d = .bl b
def D.ft:Nat->D->Prop
 | 0,d=>d.MH
 |n+1,d=>d.MH∨∃ds,(d = .tup ds∨d = .lst ds)/\∀x∈ds,D.ft n x
theorem D.ft.tup {n:Nat}{ds:List D}(h:∀x∈ds,D.ft n x):D.ft (n+1) (.tup ds):=.inr ⟨ds,.inl rfl,h⟩
theorem D.ft.lst {n:Nat}{ds:List D}(h:∀x∈ds,D.ft n x):D.ft (n+1) (.lst ds):=.inr ⟨ds,.inr rfl,h⟩
theorem D.MH.ft:∀{n:Nat} {d:D},d.MH->D.ft n d
 | 0,_,h=>h
 |_+1,_,h=>.inl h
section
variable {K:Ar}{X:Cx}
theorem wt (n:Nat):(Ax n).all (λ_=>true)=true:=by simp
theorem Ro (I:bA X pins Y H s): ∀(n:Nat) {A:AX} {d:D} {v u:V} {a b:Aa},A.units+n<HJ->d.ft n->dP X.K H d v->dP X.K H d u->cv v a->cv u b->Hz A s a b true:=by
 have flat:∀{A:AX} {d:D} {v u:V} {a b:Aa},d.MH->dP X.K H d v->dP X.K H d u->cv v a->cv u b->Hz A s a b true:=by
  intro A d v u a b l c r f B;rcases l with⟨i,rfl⟩ | ⟨i,rfl⟩ |rfl | ⟨i,rfl⟩
  .cases (show v=_ from c);cases (show u=_ from r)
   have:=z5 (A:=A) (s:=s) f B rfl rfl
   rwa[show YV (.int i) (.int i)=true by simp[YV]]at this
  .cases (show v=_ from c);cases (show u=_ from r)
   have:=z5 (A:=A) (s:=s) f B rfl rfl
   rwa[show YV (.str i) (.str i)=true by simp[YV]]at this
  .cases (show v=_ from c);cases (show u=_ from r)
   exact z5 (A:=A) (s:=s) f B rfl rfl
  .cases (show v=_ from c);cases (show u=_ from r);cases f;cases B
   have:=Gy (A:=A) (s:=s) i i
   rwa[beq_self_eq_true]at this
 intro n
 induction n with
 |zero=>intro A d v u a b _ l c r f B;exact flat l c r f B
 |succ n ih=>
  intro A d v u a b hu l c r f B;rcases l with l | ⟨ds,e,m⟩
  .exact flat l c r f B
  have k:A.units<HJ:=by lia
  have U:A.in1.units+n<HJ:=by rw[show A.in1.units=A.units+1 from rfl];lia
  rcases e with rfl |rfl
  .obtain ⟨p,vs,rfl,h1,h2⟩:=c;obtain⟨q,us,rfl,O,o⟩:=r;cases f;cases B;by_cases h:p=q
   .subst h;exact FC _
   obtain⟨T,g,J,_⟩:=I.tuple h1;obtain⟨t,w,G,_⟩:=I.tuple O;have:=Kp (e:=λ_=>true) J G k (λj M L=>by
    obtain⟨z1,e1,C⟩:=g.at M;obtain⟨z2,Q,z⟩:=w.at L;obtain⟨d1,g1,k1⟩:=h2.get' e1;obtain⟨d2,g2,k2⟩:=o.get' Q
    cases g1.symm.trans g2
    exact ih U (m d1 (An g1)) k1 k2 C z)
   rw[wt,Cg,Aq,Aq,<- g.length,<- w.length,<- h2.length,<- o.length,beq_self_eq_true]at this;exact GP h this
  .obtain ⟨p,vs,rfl,h1,h2⟩:=c;obtain⟨q,us,rfl,O,o⟩:=r;cases f;cases B;by_cases h:p=q
   .subst h;exact FC _
   obtain⟨T,g,J,_⟩:=I.list h1;obtain⟨t,w,G,_⟩:=I.list O;have:=Kq (e:=λ_=>true) J.isList G.isList (by rw[Aq,Aq,<- g.length,<- w.length,<- h2.length,<- o.length]) k (λj M L=>by
    obtain⟨z1,e1,C⟩:=g.at M;obtain⟨z2,Q,z⟩:=w.at L;obtain⟨d1,g1,k1⟩:=h2.get' e1;obtain⟨d2,g2,k2⟩:=o.get' Q
    cases g1.symm.trans g2
    exact ih U (m d1 (An g1)) k1 k2 C z)
   rw[wt]at this;exact GP h this
def UG (K:Ar)(t:Bool):R2:=λv u H Q=>∃d ds,(d = .tup ds∨d = .lst ds)/\(∀x∈ds,D.ft 4 x)/\dP K H d v/\dP K H d u/\Q (.bl t) H
theorem nZ (hu:X.A.units+64<HJ): k_ X (B_ .NotEq) (UG X.K false):=by
 intro pins s Y H v u a b Q I O M h;obtain⟨d,ds,hd,hf,L,G,q⟩:=h;have f:X.A.units<HJ:=by lia
 have U:X.A.in1.units+4<HJ:=by rw[show X.A.in1.units=X.A.units+1 from rfl];lia
 rcases hd with rfl |rfl
 .obtain ⟨p,vs,rfl,h1,h2⟩:=L;obtain⟨p',us,rfl,o,g⟩:=G;cases O;cases M;obtain⟨T,c,m,_⟩:=I.tuple h1;obtain⟨t,w,l,_⟩:=I.tuple o;refine JO (e:=λ_=>true) m l f (λj n J=>by
   obtain⟨z1,B,k⟩:=c.at n;obtain⟨z2,z,r⟩:=w.at J;obtain⟨C,g1,k1⟩:=h2.get' B;obtain⟨d2,g2,k2⟩:=g.get' z
   cases g1.symm.trans g2
   exact Ro I 4 U (hf C (An g1)) k1 k2 k r) _ _ _ _ ?_
  rw[wt,Cg,Aq,Aq,<- c.length,<- w.length,<- h2.length,<- g.length,beq_self_eq_true];exact⟨.bl _,H,I,rfl,q⟩
 .obtain ⟨p,vs,rfl,h1,h2⟩:=L;obtain⟨p',us,rfl,o,g⟩:=G;cases O;cases M;obtain⟨T,c,m,_⟩:=I.list h1;obtain⟨t,w,l,_⟩:=I.list o;refine JP (e:=λ_=>true) m.isList l.isList (by rw[Aq,Aq,<- c.length,<- w.length,<- h2.length,<- g.length]) f (λj n J=>by
   obtain⟨z1,B,k⟩:=c.at n;obtain⟨z2,z,r⟩:=w.at J;obtain⟨C,g1,k1⟩:=h2.get' B;obtain⟨d2,g2,k2⟩:=g.get' z
   cases g1.symm.trans g2
   exact Ro I 4 U (hf C (An g1)) k1 k2 k r) _ _ _ _ ?_
  rw[wt];exact⟨.bl _,H,I,rfl,q⟩
def Uv (t:Bool):wz:=λx y P=>y=x/\(∃ds,(x = .tup ds∨x = .lst ds)/\∀z∈ds,D.ft 4 z)/\P (.bl t)
theorem kX {t:Bool}:yE K (UG K t) (Uv t):=λF H x y v u P Q s a r w q=>by
 obtain⟨rfl,⟨ds,h1,h2⟩,w⟩:=w;exact⟨y,ds,h1,h2,a,r,q _ _ F H w (cP.refl s) rfl⟩
end
end L2
namespace Lw
open PySem L2 PyProof.Rows
noncomputable def top (i:Nat):AW:=PySem.Challenge.pw_liftwave_k60_whole_beginnings.main.body.getD i (.Pass ⟨0,0,0,0⟩)
noncomputable abbrev vD (d:D):Option Sl:=some (.own (.fz d))
noncomputable abbrev vI (i:Int):Option Sl:=some (.own (.fz (.int i)))
noncomputable abbrev vL (ts:List OV):Option Sl:=some (.own (.nl ts))
theorem bc{us:List Aa}{n:Nat}(h:us.length=n+1):∃y r,us=y::r/\r.length=n:=by
 cases us with
 |nil=>cases h
 |cons y r=>exact⟨y,r,rfl,K9 h⟩
theorem bl1{us:List Aa}(h:us.length=1):∃y0,us=[y0]:=by
 obtain⟨y0,u,rfl,h1⟩:=bc h
 cases BS.mp h1
 exact⟨y0,rfl⟩
theorem bl2{us:List Aa}(h:us.length=2):∃y0 y1,us=[y0,y1]:=by
 obtain⟨y0,U,rfl,h1⟩:=bc h;obtain⟨y1,u,rfl,h2⟩:=bc h1
 cases BS.mp h2
 exact⟨y0,y1,rfl⟩
theorem bl3{us:List Aa}(a:us.length=3):∃y0 y1 y2,us=[y0,y1,y2]:=by
 obtain⟨y0,c,rfl,h1⟩:=bc a;obtain⟨y1,U,rfl,h2⟩:=bc h1;obtain⟨y2,u,rfl,h⟩:=bc h2
 cases BS.mp h
 exact⟨y0,y1,y2,rfl⟩
theorem bl4{us:List Aa}(c:us.length=4):∃y0 y1 y2 y3,us=[y0,y1,y2,y3]:=by
 obtain⟨y0,f,rfl,h1⟩:=bc c;obtain⟨y1,e,rfl,h2⟩:=bc h1;obtain⟨y2,U,rfl,a⟩:=bc h2;obtain⟨y3,u,rfl,h⟩:=bc a
 cases BS.mp h
 exact⟨y0,y1,y2,y3,rfl⟩
theorem bl5{us:List Aa}(e:us.length=5):∃y0 y1 y2 y3 y4,us=[y0,y1,y2,y3,y4]:=by
 obtain⟨y0,j,rfl,h1⟩:=bc e;obtain⟨y1,g,rfl,h2⟩:=bc h1;obtain⟨y2,f,rfl,c⟩:=bc h2;obtain⟨y3,U,rfl,a⟩:=bc c;obtain⟨y4,u,rfl,h⟩:=bc a
 cases BS.mp h
 exact⟨y0,y1,y2,y3,y4,rfl⟩
set_option hygiene false
local macro_rules | `(tactic|walk_at "b")=>`(tactic| (intro _ _ _ _ _ _ us hl;first | (obtain⟨y0,rfl⟩:=bl1 hl;rfl) | (obtain⟨y0,y1,rfl⟩:=bl2 hl;rfl) | (obtain⟨y0,y1,y2,rfl⟩:=bl3 hl;rfl) | (obtain⟨y0,y1,y2,y3,rfl⟩:=bl4 hl;rfl) | (obtain⟨y0,y1,y2,y3,y4,rfl⟩:=bl5 hl;rfl)))
local macro_rules | `(tactic|walk_at "S")=>`(tactic|exact⟨rfl,rfl,rfl,by decide +kernel,rfl,by decide +kernel,by decide +kernel⟩)
local macro_rules | `(tactic|fin2)=>`(tactic|simp only[qH,ze,ĝ,ě,Qa,Zg,VX,vD,vI,vL,dD,PC,Pj,P0,VD,Pu,ę,Sx,X5,VQ,X3,P1,P4,VP,VM,PD,Vf,U',SI,gN,uh,oh,gT,Z2,TM,Ņ,dV,dB,dC,Zc,Ł,Ñ,VY,Qe,VZ,VV,VW,Qb,D.My,Z0,Zd,Zj,ń,ņ,Vi,Zb,Vb,Ry,TN,MM,Vd,Rv,Y8,Ze,ß,Ý,Þ,Ň,Zi,Wo,Wn,Wh,Xg,QY,Vt,Vc,Ń,Y_,MN,RA,WZ,Zf,U_,U9,Za,Ly,Rx,Wz,Q4,RH,Uv,Xf,QS,Vh,Y5,U6,O6,Vg,Va,Rq,Uy,U7,Rr,zi,zk,z7,UB,uu,z8,Rz,z6,OV.M',D.M',vZ,vd,i7,VB,Rw,U8,Zh,PR,PV,PX,PY,PF,Rt,Ru,gA,ya,Ve,Y9,WY,OV.val,OV.vals,OV.cm,D.lf,D.hI,OV.lf,OV.hI,B7,Jv,C7,EO,Bg,Eg,Aw,FD,Nat.reduceSub,Nat.reduceLeDiff,G0,B5,Dh,CO,EF,Fe,Cg,Fz,true_and,and_true,if_true,if_false,Dj,Ay,decide_eq_true_eq,Kf,Sl.own.injEq,OV.ob.injEq,exists_eq_left',Sb,WR,Ss,T6,ZC,N8,Xq,Int.reduceLT,Int.reduceLE,Int.reduceNeg,Int.reducePow,Int.reduceToNat,Int.reduceAdd,Int.reduceSub,true_or,or_true,Yo,Wr,Tp,Wq,Q2,To,HH,decide_true,Bool.or_self,GV,Bool.not_not,ne_eq,not_true,Lz,Xe,Xd,Xc,Xb,beq_self_eq_true,Jx,Bool.or_true])
local macro_rules | `(tactic|gn_on)=>`(tactic| (refine Ph λN hN=>?_;fin2))
local macro_rules | `(tactic|gp_on)=>`(tactic| (refine hN _ ?_;clear hN;clear N))
set_option hygiene true
section
variable (P:AE)(w:AU){K:Ar}{mg:Am->Option Aa}(base:Heap)
seal L2.PA L2.PE L2.PS L2.PSs L2.PT L2.PW L2.PG L2.PGs L2.PO L2.PI
noncomputable def en (b:Bool):Am:=if b then "1" else "0"
theorem nt (b:Bool):(en b).length=1:=by cases b<;>rfl
theorem x9 {c:Type}:∀l:List c,(Ax l.length).filterMap (λk=>l[k]?)=l
 | []=>rfl
 |a::l=>by
  rw[Bg,G6,EQ];simp only[G0];rw[E2];have e:((λk=>(a::l)[k]?)∘Nat.succ)=λk=>l[k]?:=by funext k;simp
  rw[e,x9 l]
theorem Q_ {n i:Nat}(h:i<=n):BO (some (i:Int)) none 1 n=(Ax (n-i)).map λk=>i+k:=by
 unfold BO CZ;have a:¬ ((i:Int)<0):=by lia
 simp only[a,if_false,show (1:Int) > 0 by decide,if_true];have e:max 0 (min (i:Int) (n:Int))=(i:Int):=by lia
 rw[e];have c:(if (i:Int)<(n:Int) then ((n:Int)-(i:Int)+1-1) / 1 else 0).toNat=n-i:=by
  split
  .rw [IG];(clear h a;lia)
  .lia
 rw[c];refine Cp λk _=>?_
 clear h a;lia
theorem OK (x:Am){i:Nat}(h:i<=x.length):CH x (some (i:Int)) none=⟨(x.cps.toList.drop i).toArray⟩:=by
 have e:((Ax (x.length-i)).map λk=>i+k).filterMap (x.cps[·]?)=x.cps.toList.drop i:=by
  rw[E2];have:=x9 (x.cps.toList.drop i);rw[DG]at this;rw[<- this];refine congrArg (λg=>IQ g _) (funext λk=>?_);simp
 unfold CH;rw[Q_ h];split
 .rename_i c;have hi:i=0:=by simp at c;lia
  subst hi;simp
 .rw [e]
noncomputable def b_ (bs:List Bool):Am:=FS "" (bs.map en)
theorem tD:b_ []=Fs:=rfl
theorem uL:(Ba "")=⟨#[]⟩:=by decide +kernel
theorem gz (b:Bool)(bs:List Bool):b_ (b::bs)=en b++b_ bs:=by
 unfold b_;rw[show ∀l,FS (Ba "") l=I_ (Ba "") l from λl=>PySem.StrLaws.glued_eq_join _ l,show ∀l,FS (Ba "") l=I_ (Ba "") l from λl=>PySem.StrLaws.glued_eq_join _ l]
 cases bs with
 |nil=>exact (Ix _).symm
 |cons c cs=>
  show en b++Ba ""++I_ (Ba "") (en c::cs.map en)=_
  rw[uL,show (en b++(⟨#[]⟩:Am))=en b from Ix _];rfl
theorem MS (x y:Am):(x++y).length=x.length+y.length:=by
 show (x.cps++y.cps).size=_
 rw[FJ];rfl
theorem b7:∀bs:List Bool,(b_ bs).length=bs.length
 | []=>rfl
 |b::bs=>by rw[gz,MS,b7 bs,nt,Bg];lia
theorem kL:∀(as bs:List Bool),b_ (as++bs)=b_ as++b_ bs
 | [],bs=>(Str.empty_append _).symm
 |a::as,bs=>by rw[C7,gz,kL as bs,gz,Str.append_assoc]
theorem XW (b:Bool)(t:Am):CH (en b++t) (some 1) none=t:=by
 have e:(en b).cps.toList.length=1:=nt b;rw[show (some (1:Int))=some ((1:Nat):Int) from rfl,OK _ (by rw[MS,nt];lia)];show (⟨(((en b).cps++t.cps).toList.drop 1).toArray⟩:Am)=t
 rw[Dk,Ge (by rw[e];lia),G8 (by rw[e];lia),EO]
theorem O9 (x y:Am):iQ (x++y)=iQ x++iQ y:=by
 show (x.cps++y.cps).toList.map _=_
 rw[Dk,A5];rfl
theorem O8 (b:Bool):iQ (en b)=[en b]:=by cases b<;>decide +kernel
theorem jf:∀bs:List Bool,iQ (b_ bs)=bs.map en
 | []=>rfl
 |b::bs=>by rw[gz,O9,O8,jf bs];rfl
theorem RQ (b:Bool):decide (en b=Ba "1")=b:=by cases b<;>decide +kernel
theorem WC {n i:Nat}(h:i<=n):BO none (some (i:Int)) 1 n=Ax i:=by
 unfold BO CZ;have a:¬ ((i:Int)<0):=by lia
 simp only[a,if_false,show (1:Int) > 0 by decide,if_true];have e:max 0 (min (i:Int) (n:Int))=(i:Int):=by lia
 rw[e];have c:(if (0:Int)<(i:Int) then ((i:Int)-0+1-1) / 1 else 0).toNat=i:=by
  split
  .rw [IG];(clear h a;lia)
  .clear h a;lia
 rw[c];refine DQ λk=>?_
 by_cases f:k<i
 .simp
 .simp
theorem MF {a:Type}(l:List a){i:Nat}(h:i<=l.length):(Ax i).filterMap (λk=>l[k]?)=l.take i:=by
 have e:∀n:Nat,n<=l.length->(Ax n).filterMap (λk=>l[k]?)=l.take n:=by
  intro n
  induction n with
  |zero=>intro _;simp
  |succ n c=>
   intro hn;rw[EN,List.filterMap_append,c (by lia),ED];simp[Ah (show n<l.length by lia)]
 exact e i h
theorem Vs (x:Am){i:Nat}(h:i<=x.length):CH x none (some (i:Int))=⟨(x.cps.toList.take i).toArray⟩:=by
 have e:(Ax i).filterMap (x.cps[·]?)=x.cps.toList.take i:=by
  rw[<- MF x.cps.toList (show i<=x.cps.toList.length by rw[B6];exact h)];simp
 unfold CH;rw[WC h];split
 .rename_i c;have hi:i=x.length:=by simpa using c
  rw[hi,show x.length=x.cps.toList.length by simp;rfl,BU]
 .rw [e]
theorem wK (bs:List Bool){i:Nat}(h:i<=bs.length):CH (b_ bs) none (some (i:Int))=b_ (bs.take i):=by
 rw[Vs _ (by rw[b7];exact h)];have e:b_ bs=b_ (bs.take i)++b_ (bs.drop i):=by rw[<- kL,B4]
 have hl:(b_ (bs.take i)).cps.toList.length=i:=by
  have:=b7 (bs.take i);rw[Bp,BX h]at this;exact this
 rw[e];show (⟨(((b_ (bs.take i)).cps++(b_ (bs.drop i)).cps).toList.take i).toArray⟩:Am)=_
 rw[Dk,Ga (by lia),BW (by lia)]
noncomputable def bu:List Am:=["plane","used","row_ends","walked","ahead"]
structure Pa where
 a:Int
 s:Int
 e:Int
 lo:Int
 hi:Int
noncomputable def Pa.d (p:Pa):D:=.tup [.int p.a,.int p.s,.int p.e,.tup [.int p.lo,.int p.hi]]
structure Wk where
 pl:Int
 us:Int
 re:List Int
 wk:List Pa
 ah:List Pa
noncomputable def Wk.ts (w:Wk):List OV:=[.fz (.int w.pl),.fz (.int w.us),.nl (w.re.map λi=>.fz (.int i)),.nl (w.wk.map λp=>.fz p.d),.nl (w.ah.map λp=>.fz p.d)]
noncomputable def Wk.turn (w:Wk):Wk:=if w.pl-1>=0 then {w with pl:=w.pl-1,ah:=w.wk.reverse,wk:=[]} else {w with pl:=w.pl-1}
noncomputable def Wk.wake (w:Wk)(p:Pa):Wk:=if p.e-p.s=1 then {w with ah:=w.ah++[⟨2,p.s,p.e,p.lo,p.hi⟩]} else {w with ah:=w.ah++[⟨0,(p.s+p.e) / 2,p.e,p.lo,p.hi⟩,⟨1,p.s,(p.s+p.e) / 2,p.lo,p.hi⟩]}
def Wk.fits (w:Wk):Prop:=w.re.length<900000/\w.wk.length<900000/\w.ah.length<900000
def jU:c_:=λds P=>∃p:Pa,ds=[p.d]/\P (.fz (.bl (decide (p.e-p.s=1))))
def jb:c_:=λds P=>∃n:Nat,ds=[.int n]/\n<=5000/\P (.fz (.tup [.int (1-2^n),.int (2^n-1)]))
def jT:c_:=λds P=>∃(n:Nat) (b:Bool),ds=[.int n,.bl b]/\n<=5000/\P (.fz (if b then .tup [.int (1-2^n-2^n),.int (-2^n)] else .tup [.int (2^n),.int (2^n+2^n-1)]))
def jB:c_:=λds P=>∃(lo hi:Int) (n:Nat) (b:Bool),ds=[.tup [.int lo,.int hi],.int n,.bl b]/\n<=5000/\P (.fz (if b=decide (lo > 0) then .tup [.int (lo+2^n),.int hi] else .tup [.int lo,.int (hi-2^n)]))
def jd:wD:=λts ds P=>∃w:Wk,ts=w.ts/\w.wk.length<=1000000/\ds=[]/\P w.turn.ts
def fy:wD:=λts ds P=>∃(m:Int) (n:Nat),ts=[]/\ds=[.int m,.int n]/\n<=5000/\P (Wk.turn ⟨n,0,[],[⟨0,0,m,1-2^n,2^n-1⟩],[]⟩).ts
def gD:wD:=λts ds P=>∃(w:Wk) (p:Pa) (lo hi:Int),ts=w.ts/\w.wk.length<1000000/\ds=[p.d,.tup [.int lo,.int hi]]/\P {w with wk:=w.wk++[⟨3,p.s,p.e,lo,hi⟩]:Wk}.ts
def jc:wD:=λts ds P=>∃(w:Wk) (p:Pa),ts=w.ts/\w.ah.length<900000/\ds=[p.d]/\P (w.wake p).ts
def et:c_:=λds P=>∃w:Wk,ds=[.obj "Walk" bu (OV.vals w.ts)]/\P (.fz (.bl (decide (w.pl<0))))
noncomputable def Wk.walked (w:Wk)(p:Pa):Wk:={w with wk:=w.wk++[p]}
noncomputable def Wk.calm (w:Wk)(p:Pa):Wk:=if p.a=1 then {w.walked ⟨0,p.s,p.e,1-2^w.pl.toNat,2^w.pl.toNat-1⟩ with ah:=w.ah.dropLast:Wk}.wake (w.ah.getLastD p) else w.walked ⟨0,p.s,p.e,1-2^w.pl.toNat,2^w.pl.toNat-1⟩
noncomputable def Pa.bJ (p:Pa)(n:Nat)(b:Bool):Pa:=if b=decide (p.lo > 0) then ⟨3,p.s,p.e,p.lo+2^n,p.hi⟩ else ⟨3,p.s,p.e,p.lo,p.hi-2^n⟩
noncomputable def Pa.signed (p:Pa)(n:Nat)(b:Bool):Pa:=if b then ⟨3,p.s,p.e,1-2^n-2^n,-2^n⟩ else ⟨3,p.s,p.e,2^n,2^n+2^n-1⟩
noncomputable def Wk.step (w:Wk)(ah:List Pa)(p:Pa)(b:Bool):Wk:=
 if p.a=3 then {w with us:=w.us+1,ah:=ah,wk:=w.wk++[p.bJ w.pl.toNat b]} else if p.a=2 then {w with us:=w.us+1,ah:=ah,wk:=w.wk++[p.signed w.pl.toNat b]}
 else if b then Wk.wake {w with us:=w.us+1,ah:=ah} p else Wk.calm {w with us:=w.us+1,ah:=ah} p
noncomputable def Wk.dF (w:Wk):Wk:=if w.ah=[] then Wk.turn {w with re:=w.re++[w.us]} else w
def mD:wD:=λts ds P=>∃(w:Wk) (p:Pa),ts=w.ts/\(w.wk.length<1000000/\w.ah.length<900000)/\ds=[p.d]/\0<=w.pl/\w.pl<=5000/\(p.a=1->w.ah≠[])/\P (w.calm p).ts
def je:wD:=λts ds P=>∃(w:Wk) (ah:List Pa) (p:Pa) (b:Bool),ts=w.ts/\w.fits/\ds=[.bl b]/\w.ah=ah++[p]/\0<=w.pl/\w.pl<=5000/\(p.a=1->b=false->ah≠[])/\P ((w.step ah p b).dF).ts
theorem uK (n:Nat):(1:Int)*2^((n:Int).toNat)=2^n:=by rw[Jw,Bf]
theorem qr {n:Nat}(h:n<=5000):0<=(n:Int)/\(n:Int)<=1000000/\Ki 1<2^64:=⟨by lia,by lia,by decide⟩
theorem pN (ps:List Pa):(ps.map λp=>OV.fz p.d).map OV.val=ps.map Pa.d:=by rw[A8];rfl
theorem vo (ps:List Pa):D.hI (ps.map Pa.d)=true:=by
 rw[D.gZ];simp[Pa.d,D.lf,D.hI]
theorem UO (p:Pa):p.d.lf=true:=by simp[Pa.d,D.lf,D.hI]
theorem V6 (ps:List Pa):Bu OV.fz (ps.map Pa.d).reverse=ps.reverse.map λp=>OV.fz p.d:=by rw[<- CI,A8];rfl
theorem V7 (ps:List Pa)(p:Pa):(ps.map λp=>OV.fz p.d)++[OV.fz p.d]=(ps++[p]).map λp=>OV.fz p.d:=by simp
theorem mQ (ps:List Pa)(a s e lo hi:Int):(ps.map λp=>OV.fz p.d)++[OV.fz (.tup [.int a,.int s,.int e,.tup [.int lo,.int hi]])]=(ps++[(⟨a,s,e,lo,hi⟩:Pa)]).map λ(p:Pa)=>OV.fz p.d:=V7 ps ⟨a,s,e,lo,hi⟩
theorem nW (p:Pa):p.d = .tup [.int p.a,.int p.s,.int p.e,.tup [.int p.lo,.int p.hi]]:=rfl
noncomputable abbrev iA:AW:=top 56
theorem qt:aN ["part"] ["part"] (aA iA):=by walk_at "S"
noncomputable abbrev kc:AW:=top 57
theorem uY:aN ["plane"] ["plane"] (aA kc):=by walk_at "S"
noncomputable abbrev iz:AW:=top 58
theorem j0:aN ["plane","below","least"] ["plane","below"] (aA iz):=by walk_at "S"
noncomputable abbrev gL:AW:=top 59
theorem o9:aN ["span","plane","figure"] ["span","plane","figure"] (aA gL):=by walk_at "S"
noncomputable abbrev kg:AW:=dv (top 60) 1
theorem uZ:aN ["self"] ["self"] (aA kg):=by walk_at "S"
noncomputable abbrev fX:AW:=dv (top 60) 0
theorem nN:aN ["self","many","planes"] ["self","many","planes"] (aA fX):=by walk_at "S"
noncomputable abbrev eZ:AW:=dv (top 60) 7
theorem lP:aN ["self","part","span"] ["self","part","span"] (aA eZ):=by walk_at "S"
noncomputable abbrev kf:AW:=dv (top 60) 8
theorem mG:aN ["self","part","middle"] ["self","part"] (aA kf):=by walk_at "S"
noncomputable abbrev fW:AW:=dv (top 60) 2
theorem nM:aN ["self"] ["self"] (aA fW):=by walk_at "S"
noncomputable abbrev ki:AW:=dv (top 60) 9
theorem u4:aN ["self","part"] ["self","part"] (aA ki):=by walk_at "S"
noncomputable abbrev kh:AW:=dv (top 60) 6
theorem mH:aN ["self","told","part"] ["self","told"] (aA kh):=by walk_at "S"
theorem qX {f:Ac}{fd:Ag}(a:bG K mg "part_of_one" iA f fd)(B:bT mg)(KV:bQ K)(G:∃t,mg "END"=some (.int 2 t))(g:∃t,mg "START"=some (.int 1 t)):
  bO P w K mg base "part_of_one" 1 ["part"] (bL K 1 jU):=by
 refine cE.of a qt (by walk_at "b") rfl (λc A o s H E r=>⟨_,_,(aF (aP (dj fP (aX dt (aO aS (pv 0) (aV (by rfl) G) (λ_ _=>rfl)) (aO aS (pv 0) (aV (by rfl) g) (λ_ _=>rfl))) aE (be _)))),
  (aY (aW (aJ fQ (aH (aJ b9 (a_ (cQ.b aR) ax (aH az)) (a_ (cQ.b aR) ax (aH az)))) (aH az)))),?_⟩)
 rintro ds e ⟨p,rfl,h⟩;unfold Pa.d;fin2;exact h
theorem vA {f:Ac}{fd:Ag}(a:bG K mg "calm_span" kc f fd)(B:bT mg)(KV:bQ K):
  bO P w K mg base "calm_span" 1 ["plane"] (bL K 1 jb):=by
 refine cE.of a uY (by walk_at "b") rfl (λc A o s H E r=>⟨_,_,(aF (aP (bH (ae (aX dt aE (aX gX aE (pv 0))) (ae (aX dt (aX gX aE (pv 0)) aE) ay))))),
  (aY (aW (bX (aw (aJ b9 (aH az) (aH (aJ cj (aH az) ax))) (aw (aJ b9 (aH (aJ cj (aH az) ax)) (aH az)) aG))))),?_⟩)
 rintro ds e ⟨n,rfl,hn,h⟩;fin2;refine⟨qr hn,qr hn,?_⟩;rw[uK];exact h
theorem qW {f:Ac}{fd:Ag}(a:bG K mg "signed_span" iz f fd)(B:bT mg)(KV:bQ K)(l:ny K mg "least"):
  bO P w K mg base "signed_span" 1 ["plane","below"] (bL K 2 jT):=by
 refine cE.of a j0 (by walk_at "b") rfl (λc A o s H E r=>⟨_,_,(aD (a5 (i:=2) j0.nd rfl (Ap rfl) (aX gX aE (pv 0)))
   (aD (bN (bY (pv 1)) (aF (aP (bH (ae (aX dt (aX dt aE (pv 2)) (pv 2)) (ae (ku gy (pv 2)) ay))))) br)
   (aF (aP (bH (ae (pv 2) (ae (aX dt (aX cT (pv 2) (pv 2)) aE) ay))))))),
  (aK (aZ (aW (aJ cj (aH az) ax)))
   (aK (bS (dQ aC) (aY (aW (bX (aw (aJ b9 (aH (aJ b9 (aH az) ax)) ax) (aw (gP ax) aG))))) bo)
   (aY (aW (bX (aw aC (aw (aJ b9 (aH (aJ b9 ax ax)) (aH az)) aG))))))),?_⟩)
 rintro ds e ⟨n,b,rfl,hn,h⟩;fin2;refine⟨qr hn,?_⟩;rw[uK]
 cases b with
 |true=>rw[if_pos rfl]at h ⊢;exact h
 |false=>rw[if_neg (by decide)]at h ⊢;exact h
theorem pf {f:Ac}{fd:Ag}(a:bG K mg "figured_span" gL f fd)(B:bT mg)(KV:bQ K):
  bO P w K mg base "figured_span" 1 ["span","plane","figure"] (bL K 3 jB):=by
 refine cE.of a o9 (by walk_at "b") rfl (λc A o s H E r=>⟨_,_,(aD (bN (bp fP (pv 2) (dj oK (aO aS (pv 0) aE (λ_ _=>rfl)) aE (be _)) (be _)) (aF (aP (bH (ae (aX cT (aO aS (pv 0) aE (λ_ _=>rfl)) (aX gX aE (pv 1))) (ae (aO aS (pv 0) aE (λ_ _=>rfl)) ay))))) br)
   (aF (aP (bH (ae (aO aS (pv 0) aE (λ_ _=>rfl)) (ae (aX dt (aO aS (pv 0) aE (λ_ _=>rfl)) (aX gX aE (pv 1))) ay)))))),
  (aK (bS (bh (aJ fQ ax (aH (aJ c0 (a_ (cQ.b aR) ax (aH az)) (aH az))))) (aY (aW (bX (aw (aJ b9 (a_ (cQ.b aR) ax (aH az)) (aH (aJ cj (aH az) ax))) (aw (bC aR aC az) aG))))) bo)
   (aY (aW (bX (aw (bC aR aC az) (aw (aJ b9 (a_ (cQ.b aR) ax (aH az)) (aH (aJ cj (aH az) ax))) aG)))))),?_⟩)
 rintro ds e ⟨lo,hi,n,b,rfl,hn,h⟩;fin2;rw[uK];split at h
 .rename_i c;rw[if_pos c];exact⟨qr hn,h⟩
 .rename_i c;rw[if_neg c];exact⟨qr hn,h⟩
theorem vC {f:Ac}{fd:Ag}(e:fq K "Walk" "turn" "Walk.turn" kg f fd)(B:bT mg)(KV:bQ K)(C:du K "Walk" bu):
  c6 P w K mg base "Walk" "turn" 1 ["self"] (nC K 1 "Walk" bu jd):=by
 refine c6.of e uZ (by walk_at "b") rfl (λc A o s H E r=>⟨_,_,(aD (tV (pv 0) aE WA)
   (aF (bN (bp QC (cu (pv 0) rfl) aE (be _)) (aD (gR (pv 0) (qS rfl B.list rfl B.reversed (ae (cu (pv 0) rfl) ay)) rfl)
   (aF (gR (pv 0) (cC ay) rfl))) br))),
  (aK (L4 (j:=0) (g:=λx y=>x-y) C (by rfl) (λx y H Q q=>⟨_,_,rfl,rfl,q⟩) (aH az))
   (bS (bh (aJ c0 (dr (j:=0) C (by rfl) ax) (aH az))) (aK (va (j:=4) C (by rfl) (qG (aB (dr (j:=3) C (by rfl) ax) aI)))
   (va (j:=3) C (by rfl) (c9 cB))) bo)),?_⟩)
 rintro a ts ds k ⟨w,rfl,hf,rfl,h⟩;unfold Wk.ts;fin2;rw[pN,V6];unfold Wk.turn at h;split at h
 .rename_i c;rw[if_pos c];exact⟨by decide,vo _,hf,by decide,h⟩
 .rename_i c;rw[if_neg c];exact h
theorem n8 {f:Ac}{fd:Ag}(e:N7 K "__init__" "Walk.__init__" fX f fd)(M:MX K mg "Walk" f)(B:bT mg)(KV:bQ K)(C:du K "Walk" bu)(g:∃t,mg "WAKING"=some (.int 0 t))(l:bO P w K mg base "calm_span" 1 ["plane"] (bL K 1 jb))(k:c6 P w K mg base "Walk" "turn" 1 ["self"] (nC K 1 "Walk" bu jd)):
  sk P w K mg base "Walk" 2 ["self","many","planes"] (nC K 3 "Walk" bu fy):=by
 refine sk.of e M nN (by walk_at "b") rfl (λc A o s H E r=>⟨_,_,(aD (gR (pv 0) (pv 2) rfl)
   (aD (gR (pv 0) aE rfl)
   (aD (gR (pv 0) (cC ay) rfl)
   (aD (gR (pv 0) (cC (ae (bH (ae (aV (by rfl) g) (ae aE (ae (pv 1) (ae (aQ l (r.mono (by decide)) (by rfl) (ae (pv 2) ay)) ay))))) ay)) rfl)
   (aD (gR (pv 0) (cC ay) rfl)
   (aF (bP (di k (r.mono (by decide)) (pv 0))))))))),
  (aK (ib (j:=0) C (by rfl) (aW aC))
   (aK (ib (j:=1) C (by rfl) (aW az))
   (aK (ib (j:=2) C (by rfl) (c9 cB))
   (aK (ib (j:=3) C (by rfl) (c9 (bU (aW (bX (aw az (aw az (aw aC (aw (bB (aT (aw aC aG))) aG)))))) cB)))
   (aK (ib (j:=4) C (by rfl) (c9 cB))
   (gp C (by decide +kernel) aG)))))),?_⟩)
 rintro a ts ds p ⟨m,n,rfl,rfl,hn,h⟩;fin2;refine⟨n,rfl,hn,?_⟩;fin2;refine⟨⟨n,0,[],[⟨0,0,m,1-2^n,2^n-1⟩],[]⟩,rfl,(by show 1<=1000000;decide),rfl,?_⟩;exact h
theorem lW {f:Ac}{fd:Ag}(e:fq K "Walk" "walk_awake" "Walk.walk_awake" eZ f fd)(B:bT mg)(KV:bQ K)(C:du K "Walk" bu)(g:∃t,mg "FIGURE"=some (.int 3 t))(T:∃t,mg "START"=some (.int 1 t))(G:∃t,mg "END"=some (.int 2 t)):
  c6 P w K mg base "Walk" "walk_awake" 1 ["self","part","span"] (nC K 3 "Walk" bu gD):=by
 refine c6.of e lP (by walk_at "b") rfl (λc A o s H E r=>⟨_,_,(aF (bP (fo Bb PySem.F.slot_list_append PySem.F.type_list_append cM (cu (pv 0) rfl) (ae (bH (ae (aV (by rfl) g) (ae (aO aS (pv 1) (aV (by rfl) T) (λ_ _=>rfl)) (ae (aO aS (pv 1) (aV (by rfl) G) (λ_ _=>rfl)) (ae (pv 2) ay))))) ay)))),
  (kP (j:=3) C (by rfl) (aW (bX (aw az (aw (bC aR aC az) (aw (bC aR aC az) (aw aC aG))))))),?_⟩)
 rintro a ts ds k ⟨w,p,lo,hi,rfl,hf,rfl,h⟩;rw[nW];unfold Wk.ts;fin2;rw[mQ];exact⟨hf,h⟩
theorem vB {f:Ac}{fd:Ag}(n:fq K "Walk" "wake" "Walk.wake" kf f fd)(B:bT mg)(KV:bQ K)(C:du K "Walk" bu)(l:∃t,mg "SIGN"=some (.int 2 t))(k:∃t,mg "WAKING"=some (.int 0 t))(g:∃t,mg "WAKING_FIRST"=some (.int 1 t))(T:∃t,mg "START"=some (.int 1 t))(e:∃t,mg "END"=some (.int 2 t))(G:∃t,mg "SPAN"=some (.int 3 t))(r:bO P w K mg base "part_of_one" 1 ["part"] (bL K 1 jU)):
  c6 P w K mg base "Walk" "wake" 2 ["self","part"] (nC K 2 "Walk" bu jc):=by
 refine c6.of n mG (by walk_at "b") rfl (λc A o s H E m=>⟨_,_,(aF (bN (bY (aQ r (m.mono (by decide)) (by rfl) (ae (pv 1) ay))) (aF (bP (fo Bb PySem.F.slot_list_append PySem.F.type_list_append cM (cu (pv 0) rfl) (ae (bH (ae (aV (by rfl) l) (ae (aO aS (pv 1) (aV (by rfl) T) (λ_ _=>rfl)) (ae (aO aS (pv 1) (aV (by rfl) e) (λ_ _=>rfl)) (ae (aO aS (pv 1) (aV (by rfl) G) (λ_ _=>rfl)) ay))))) ay)))) (aD (a5 (i:=2) mG.nd rfl (Ap rfl) (aX eE (aX cT (aO aS (pv 1) (aV (by rfl) T) (λ_ _=>rfl)) (aO aS (pv 1) (aV (by rfl) e) (λ_ _=>rfl))) aE))
   (aD (bP (fo Bb PySem.F.slot_list_append PySem.F.type_list_append cM (cu (pv 0) rfl) (ae (bH (ae (aV (by rfl) k) (ae (pv 2) (ae (aO aS (pv 1) (aV (by rfl) e) (λ_ _=>rfl)) (ae (aO aS (pv 1) (aV (by rfl) G) (λ_ _=>rfl)) ay))))) ay)))
   (aF (bP (fo Bb PySem.F.slot_list_append PySem.F.type_list_append cM (cu (pv 0) rfl) (ae (bH (ae (aV (by rfl) g) (ae (aO aS (pv 1) (aV (by rfl) T) (λ_ _=>rfl)) (ae (pv 2) (ae (aO aS (pv 1) (aV (by rfl) G) (λ_ _=>rfl)) ay))))) ay)))))))),
  (bS (dQ (bB (aT (aw aC aG)))) (kP (j:=4) C (by rfl) (aW (bX (aw az (aw (bC aR aC az) (aw (bC aR aC az) (aw (bC aR aC az) aG))))))) (aK (aZ (aW (aJ cj (aH (aJ b9 (a_ (cQ.b aR) ax (aH az)) (a_ (cQ.b aR) ax (aH az)))) (aH az))))
   (aK (kP (j:=4) C (by rfl) (aW (bX (aw az (aw aC (aw (bC aR aC az) (aw (bC aR aC az) aG)))))))
   (kP (j:=4) C (by rfl) (aW (bX (aw az (aw (bC aR aC az) (aw aC (aw (bC aR aC az) aG)))))))))),?_⟩)
 rintro a ts ds q ⟨w,p,rfl,hf,rfl,h⟩;rw[nW];unfold Wk.ts;fin2;refine⟨p,rfl,?_⟩;have hl:=hf;unfold Wk.wake at h;fin2;split at h
 .rename_i c;rw[if_pos c,mQ];exact⟨by lia,h⟩
 .rename_i c;rw[if_neg c,mQ,mQ];refine⟨by lia,by simp;lia,?_⟩;rw[BL];exact h
theorem n7 {f:Ac}{fd:Ag}(a:fq K "Walk" "is_whole" "Walk.is_whole" fW f fd)(B:bT mg)(KV:bQ K)(C:du K "Walk" bu):
  c6 P w K mg base "Walk" "is_whole" 1 ["self"] (bL K 1 et):=by
 refine LB.of a nM (by walk_at "b") rfl (λc A o s H E r=>⟨_,_,(aF (aP (dj kx (cu (pv 0) rfl) aE (be _)))),
  (aY (aW (aJ c0 (dr (j:=0) C (by rfl) ax) (aH az)))),?_⟩)
 rintro ds e ⟨w,rfl,h⟩;unfold Wk.ts;fin2;exact h
theorem vF {f:Ac}{fd:Ag}(v:fq K "Walk" "calm" "Walk.calm" ki f fd)(B:bT mg)(KV:bQ K)(C:du K "Walk" bu)(g:∃t,mg "WAKING_FIRST"=some (.int 1 t))(G:∃t,mg "WAKING"=some (.int 0 t))(m:∃t,mg "ASKS"=some (.int 0 t))(T:∃t,mg "START"=some (.int 1 t))(n:∃t,mg "END"=some (.int 2 t))(l:bO P w K mg base "calm_span" 1 ["plane"] (bL K 1 jb))(k:c6 P w K mg base "Walk" "wake" 2 ["self","part"] (nC K 2 "Walk" bu jc)):
  c6 P w K mg base "Walk" "calm" 3 ["self","part"] (nC K 2 "Walk" bu mD):=by
 refine c6.of v u4 (by walk_at "b") rfl (λc A o s H E u=>⟨_,_,(aD (bP (fo Bb PySem.F.slot_list_append PySem.F.type_list_append cM (cu (pv 0) rfl) (ae (bH (ae (aV (by rfl) G) (ae (aO aS (pv 1) (aV (by rfl) T) (λ_ _=>rfl)) (ae (aO aS (pv 1) (aV (by rfl) n) (λ_ _=>rfl)) (ae (aQ l (u.mono (by decide)) (by rfl) (ae (cu (pv 0) rfl) ay)) ay))))) ay)))
   (aF (bN (bp fP (aO aS (pv 1) (aV (by rfl) m) (λ_ _=>rfl)) (aV (by rfl) g) (be _)) (aF (bP (fi k (u.mono (by decide)) (pv 0) (ae (zt Bb PySem.F.slot_list_pop PySem.F.type_list_pop QR (cu (pv 0) rfl)) ay)))) br))),
  (aK (kP (j:=3) C (by rfl) (aW (bX (aw az (aw (bC aR aC az) (aw (bC aR aC az) (aw (bB (cR (aB (dr (j:=0) C (by rfl) ax) aI))) aG)))))))
   (bS (bh (aJ fQ (a_ (cQ.b aR) ax (aH az)) (aH az))) (zf (j:=4) C (by rfl) (by decide +kernel)) bo)),?_⟩)
 rintro a ts ds z ⟨w,p,rfl,hf,rfl,h1,h2,r,h⟩;rw[nW];unfold Wk.ts;fin2;refine⟨hf.1,w.pl.toNat,by rw[Cf h1],by lia,?_⟩;fin2;rw[mQ];unfold Wk.calm at h;split at h
 .rename_i c;rw[if_pos c];obtain⟨ah,q,e⟩:∃ah q,w.ah=ah++[q]:=⟨_,_,(CG (r c)).symm⟩
  rw[e]at h ⊢;rw[Ds,CN]at h;unfold qI;fin2;refine⟨ah.map λp=>OV.fz p.d,q.d,by rw[A5];rfl,?_⟩;refine⟨{w.walked ⟨0,p.s,p.e,1-2^w.pl.toNat,2^w.pl.toNat-1⟩ with ah:=ah},q,rfl,?_,rfl,h⟩;have:=hf.2;rw[e,AG]at this;show ah.length<900000
  lia
 .rename_i c;rw[if_neg c];exact h
theorem vE {f:Ac}{fd:Ag}(Df:fq K "Walk" "take" "Walk.take" kh f fd)(B:bT mg)(KV:bQ K)(C:du K "Walk" bu)(U:∃t,mg "FIGURE"=some (.int 3 t))(G:∃t,mg "ASKS"=some (.int 0 t))(L:∃t,mg "SIGN"=some (.int 2 t))(J:∃t,mg "SPAN"=some (.int 3 t))(l:c6 P w K mg base "Walk" "walk_awake" 1 ["self","part","span"] (nC K 3 "Walk" bu gD))(u:bO P w K mg base "figured_span" 1 ["span","plane","figure"] (bL K 3 jB))(n:bO P w K mg base "signed_span" 1 ["plane","below"] (bL K 2 jT))(k:c6 P w K mg base "Walk" "wake" 2 ["self","part"] (nC K 2 "Walk" bu jc))(m:c6 P w K mg base "Walk" "calm" 3 ["self","part"] (nC K 2 "Walk" bu mD))(r:c6 P w K mg base "Walk" "turn" 1 ["self"] (nC K 1 "Walk" bu jd)):
  c6 P w K mg base "Walk" "take" 4 ["self","told"] (nC K 2 "Walk" bu je):=by
 refine c6.of Df mH (by walk_at "b") rfl (λc A o s H E M=>⟨_,_,(aD (a5 (i:=2) mH.nd rfl (Ap rfl) (zt Bb PySem.F.slot_list_pop PySem.F.type_list_pop QR (cu (pv 0) rfl)))
   (aD (tV (pv 0) aE WB)
   (aD (bN (bp fP (aO aS (pv 2) (aV (by rfl) G) (λ_ _=>rfl)) (aV (by rfl) U) (be _)) (aF (bP (fi l (M.mono (by decide)) (pv 0) (ae (pv 2) (ae (aQ u (M.mono (by decide)) (by rfl) (ae (aO aS (pv 2) (aV (by rfl) J) (λ_ _=>rfl)) (ae (cu (pv 0) rfl) (ae (pv 1) ay)))) ay))))) (aF (bN (bp fP (aO aS (pv 2) (aV (by rfl) G) (λ_ _=>rfl)) (aV (by rfl) L) (be _)) (aF (bP (fi l (M.mono (by decide)) (pv 0) (ae (pv 2) (ae (aQ n (M.mono (by decide)) (by rfl) (ae (cu (pv 0) rfl) (ae (pv 1) ay))) ay))))) (aF (bN (bY (pv 1)) (aF (bP (fi k (M.mono (by decide)) (pv 0) (ae (pv 2) ay)))) (aF (bP (fi m (M.mono (by decide)) (pv 0) (ae (pv 2) ay)))))))))
   (aF (bN (cg (Qh (cu (pv 0) rfl) (λ_=>rfl))) (aD (bP (fo Bb PySem.F.slot_list_append PySem.F.type_list_append cM (cu (pv 0) rfl) (ae (cu (pv 0) rfl) ay)))
   (aF (bP (di r (M.mono (by decide)) (pv 0))))) br))))),
  (aK (Sy (j:=4) C (by rfl))
   (aK (L4 (j:=1) (g:=λx y=>x+y) C (by rfl) (λx y H Q q=>⟨_,_,rfl,rfl,q⟩) (aH az))
   (aK (bS (bh (aJ fQ (a_ (cQ.b aR) ax (aH az)) (aH az))) (gp C (by decide +kernel) (aw aC (aw (bB (cR (aB (a_ (cQ.b aR) ax (aH az)) (aB (dr (j:=0) C (by rfl) ax) (aB ax aI))))) aG))) (bS (bh (aJ fQ (a_ (cQ.b aR) ax (aH az)) (aH az))) (gp C (by decide +kernel) (aw aC (aw (bB (cR (aB (dr (j:=0) C (by rfl) ax) (aB ax aI)))) aG))) (bS (dQ aC) (gp C (by decide +kernel) (aw aC aG)) (gp C (by decide +kernel) (aw aC aG)))))
   (bS (cb (Pg (dr (j:=4) C (by rfl) ax))) (aK (kP (j:=2) C (by rfl) (aW (L_ (dr (j:=1) C (by rfl) ax))))
   (gp C (by decide +kernel) aG)) bo)))),?_⟩)
 rintro a ts ds Pr ⟨w,ah,p,b,rfl,hf,rfl,e,h1,h2,ë,h⟩;unfold Wk.ts;gn_on;unfold PU;fin2;refine⟨ah.map λp=>OV.fz p.d,p.d,by rw[e,A5];rfl,?_⟩;gp_on;gn_on;gp_on;gn_on;rw[nW];fin2;have ķ:ah.length<900000:=by
  have:=hf.2.2;rw[e,AG]at this;lia
 have hwk:w.wk.length<900000:=hf.2.1;have hre:w.re.length<900000:=hf.1;have ep:((w.pl.toNat:Nat):Int)=w.pl:=Cf h1;have O:(w.step ah p b).wk.length<=w.wk.length+1/\(w.step ah p b).re=w.re:=by
  unfold Wk.step Wk.calm Wk.wake Wk.walked
  repeat (any_goals split)
  all_goals simp
 have fin:N [some (Sl.own (OV.ob (some a) (Ba "Walk") bu (w.step ah p b).ts)),some (Sl.own (OV.fz (D.bl b))),some (Sl.own (OV.fz (D.tup [D.int p.a,D.int p.s,D.int p.e,D.tup [D.int p.lo,D.int p.hi]])))]:=by
  gp_on;generalize w.step ah p b=v at h O ⊢;unfold Wk.ts;fin2;unfold Wk.dF at h;split at h
  .rename_i c;rw[if_pos (by rw[c];rfl)];exact⟨by rw[O.2];lia,{v with re:=v.re++[v.us]},rfl,by show v.wk.length<=1000000;lia,rfl,h⟩
  .rename_i c;rw[if_neg (by simpa using c)];exact h
 unfold Wk.step at fin;split
 .rename_i c;rw[if_pos c]at fin;refine⟨p.lo,p.hi,w.pl.toNat,b,by rw[ep],by lia,?_⟩;unfold Pa.bJ at fin;by_cases T:b=decide (p.lo > 0)
  .simp only[if_pos T]at fin ⊢;exact⟨rfl,{w with us:=w.us+1,ah:=ah},p,_,_,rfl,by show w.wk.length<1000000;lia,rfl,fin⟩
  .simp only[if_neg T]at fin ⊢;exact⟨rfl,{w with us:=w.us+1,ah:=ah},p,_,_,rfl,by show w.wk.length<1000000;lia,rfl,fin⟩
 .rename_i c;rw[if_neg c]at fin;split
  .rename_i c2;rw[if_pos c2]at fin;refine⟨w.pl.toNat,b,by rw[ep],by lia,?_⟩;unfold Pa.signed at fin;by_cases T:b=true
   .simp only[if_pos T]at fin ⊢;exact⟨rfl,{w with us:=w.us+1,ah:=ah},p,_,_,rfl,by show w.wk.length<1000000;lia,rfl,fin⟩
   .simp only[if_neg T]at fin ⊢;exact⟨rfl,{w with us:=w.us+1,ah:=ah},p,_,_,rfl,by show w.wk.length<1000000;lia,rfl,fin⟩
  .rename_i c2;rw[if_neg c2]at fin;split
   .rename_i c3;rw[if_pos c3]at fin;exact⟨{w with us:=w.us+1,ah:=ah},p,rfl,ķ,rfl,fin⟩
   .rename_i c3;rw[if_neg c3]at fin;exact⟨{w with us:=w.us+1,ah:=ah},p,rfl,⟨by show w.wk.length<1000000;lia,ķ⟩,rfl,h1,h2,λz=>ë z (by simpa using c3),fin⟩
noncomputable abbrev gn:AW:=top 64
theorem sA:aN ["some"] ["some"] (aA gn):=by walk_at "S"
def ir:c_:=λds P=>∃xs:List Int,ds=[.lst (xs.map .int)]/\xs.length<=1000000/\P (.nl (xs.map λx=>.fz (.int (i6 x))))
theorem sN {f:Ac}{fd:Ag}(a:bG K mg "heights_of" gn f fd)(B:bT mg)(KV:bQ K):
  bO P w K mg base "heights_of" 1 ["some"] (bL K 1 ir):=by
 refine cE.of a sA (by walk_at "b") rfl (λc A o s H E r=>⟨_,_,(aF (aP (c5 rfl (cF (pv 0)) (show bF (aA gn) _ from⟨rfl,by decide +kernel,by decide +kernel,by decide +kernel⟩) (N:=["number"]) (ix:=[none]) (show cD _ _ _ _ from trivial) (λ_ _ _=>(bf (i:=0) (show Be (["number"]:List Am) by decide +kernel) rfl (Ap rfl))) (λ_ _ _=>(zt PySem.F.plainAttrs_int PySem.F.slot_int_bit_length PySem.F.type_int_bit_length Tf (aM yf (by rfl) B.abs boot_abs (ae (pv 0) ay))))))),
  (aY (cz (cL aC) bj (aW (SM (aH (bt RN (aB ax aI))))))),?_⟩)
 rintro ds e ⟨xs,rfl,h,k⟩;fin2;refine eQ.map xs D.int (λx=>.fz (.int (i6 x))) h (λx _ Q q=>?_) k;fin2;rw[Tt];exact q
noncomputable def gq (xs:List Int)(n:Int)(p:Pa):Bool:=
 if p.a=3 then decide ((xs.getD p.s.toNat 0).natAbs / 2^n.toNat%2=1) else if p.a=2 then decide (xs.getD p.s.toNat 0<0)
 else ((xs.drop p.s.toNat).take (p.e.toNat-p.s.toNat)).any λx=>decide (n<(i6 x:Int))
def Zs (xs:List Int)(p:Pa):Prop:=0<=p.s/\p.s<p.e/\p.e<=(xs.length:Int)
theorem Zo (a:Nat):Cd (a:Int) 1=((a%2:Nat):Int):=by
 unfold Cd;rw[decide_eq_true (by lia:0<=(a:Int)),decide_eq_true (by lia:(0:Int)<=1)];rw[Bf,show (1:Int).toNat=1 from rfl,Ic]
theorem N1 (a k:Nat):Cd ((a:Int) / 2^k) 1=((a / 2^k%2:Nat):Int):=by
 rw[<- Zo];congr 1
theorem TQ {xs:List D}{i j:Int}(h:0<=i)(h1:i<=j)(h2:j<=(xs.length:Int)):L2.cutD xs (some i) (some j)=(xs.drop i.toNat).take (j.toNat-i.toNat):=by
 unfold L2.cutD;have e:HT.sD xs.length 0 (some i)=i.toNat:=by
  have:=HT.kR xs.length 0 i.toNat;rw[Cf h]at this;rw[this];lia
 have a:HT.sD xs.length xs.length (some j)=j.toNat:=by
  have:=HT.kR xs.length xs.length j.toNat;rw[Cf (by lia)]at this;rw[this];(clear h h1 e;lia)
 rw[e,a]
inductive sf (xs:List Int):Wk->List Bool->Prop
 |done {w:Wk} (h:w.pl<0):sf xs w []
 |step {w:Wk} {ah:List Pa} {p:Pa} {bs:List Bool} (h:0<=w.pl) (h5:w.pl<=5000) (hf:w.fits) (e:w.ah=ah++[p]) (hp:Zs xs p) (h1:p.a=1->gq xs w.pl p=false->ah≠[]) (t:sf xs ((w.step ah p (gq xs w.pl p)).dF) bs):sf xs w (gq xs w.pl p::bs)
def lB:c_:=λds P=>∃(w:Wk) (ah:List Pa) (p:Pa),ds=[.obj "Walk" bu (OV.vals w.ts)]/\w.ah=ah++[p]/\w.fits/\P (.fz p.d)
noncomputable abbrev jo:AW:=dv (top 60) 3
theorem sC:aN ["self"] ["self"] (aA jo):=by walk_at "S"
theorem sQ {f:Ac}{fd:Ag}(a:fq K "Walk" "asked" "Walk.asked" jo f fd)(B:bT mg)(KV:bQ K)(C:du K "Walk" bu):
  c6 P w K mg base "Walk" "asked" 1 ["self"] (bL K 1 lB):=by
 refine LB.of a sC (by walk_at "b") rfl (λc A o s H E r=>⟨_,_,(aF (aP (aO ba (cu (pv 0) rfl) (ku gy aE) (λ_ _=>rfl)))),
  (aY (aW (L_ (a_ (cQ.b bD) (dr (j:=4) C (by rfl) ax) (aH (gP (aH az))))))),?_⟩)
 rintro ds g ⟨w,ah,p,rfl,e,hf,h⟩;unfold Wk.ts;fin2;rw[pN,e,A5];refine⟨p.d,?_,UO p,h⟩;exact yt _ _
def tK:c_:=λds P=>∃(p:Pa) (n:Int) (xs:List Int),ds=[p.d,.int n,.lst (xs.map .int),.lst (xs.map λx=>.int (i6 x))]/\Zs xs p/\xs.length<=1000000/\0<=n/\n<=5000/\P (.fz (.bl (gq xs n p)))
noncomputable abbrev qE:AW:=top 66
theorem tO:aN ["part","plane","some","heights","number"] ["part","plane","some","heights"] (aA qE):=by walk_at "S"
theorem Ny {f:Ac}{fd:Ag}(L:bG K mg "answer" qE f fd)(B:bT mg)(KV:bQ K)(U:∃t,mg "FIGURE"=some (.int 3 t))(a:∃t,mg "SIGN"=some (.int 2 t))(g:∃t,mg "START"=some (.int 1 t))(G:∃t,mg "ASKS"=some (.int 0 t))(k:∃t,mg "END"=some (.int 2 t)):
  bO P w K mg base "answer" 1 ["part","plane","some","heights"] (bL K 4 tK):=by
 refine cE.of L tO (by walk_at "b") rfl (λc A o s H E Q=>⟨_,_,(aD (a5 (i:=4) tO.nd rfl (Ap rfl) (aO ba (pv 2) (aO aS (pv 0) (aV (by rfl) g) (λ_ _=>rfl)) (λ_ _=>rfl)))
   (aD (bN (bp fP (aO aS (pv 0) (aV (by rfl) G) (λ_ _=>rfl)) (aV (by rfl) U) (be _)) (aF (aP (dj fP (aX QE (aX qV (aM yf (by rfl) B.abs boot_abs (ae (pv 4) ay)) (pv 1)) aE) aE (be _)))) br)
   (aD (bN (bp fP (aO aS (pv 0) (aV (by rfl) G) (λ_ _=>rfl)) (aV (by rfl) a) (be _)) (aF (aP (dj kx (pv 4) aE (be _)))) br)
   (aF (aP (dj oK (aM (gw rfl) (by rfl) B.max Gr (ae (iT qo (pv 3) (fK (aO aS (pv 0) (aV (by rfl) g) (λ_ _=>rfl))) (fK (aO aS (pv 0) (aV (by rfl) k) (λ_ _=>rfl)))) ay)) (pv 1) (be _))))))),
  (aK (aZ (aW (bC bD aC (bC aR aC az))))
   (aK (bS (bh (aJ fQ (a_ (cQ.b aR) ax (aH az)) (aH az))) (aY (aW (aJ fQ (aH (aJ b9 (aH (aJ cj (aH (bt RN (aB ax aI))) ax)) (aH az))) (aH az)))) bo)
   (aK (bS (bh (aJ fQ (a_ (cQ.b aR) ax (aH az)) (aH az))) (aY (aW (aJ c0 ax (aH az)))) bo)
   (aY (aW (aJ c0 (aH (bt k8 (aB (aH (bB (zh aC (lD (a_ (cQ.b aR) ax (aH az))) (lD (a_ (cQ.b aR) ax (aH az)))))) aI))) ax)))))),?_⟩)
 rintro ds T ⟨p,n,xs,rfl,⟨m,u,q⟩,O,r,hn,h⟩;rw[nW];gn_on;refine⟨_,nu m (by lia),?_⟩;gp_on;fin2;unfold gq at h;split
 .rename_i c;rw[if_pos c]at h;refine⟨r,?_⟩;rw[N1];generalize (xs.getD p.s.toNat 0).natAbs / 2^n.toNat%2=t at h ⊢;rw[decide_eq_decide.mpr (show ((t:Nat):Int)=1↔t=1 by lia)];exact h
 .rename_i c;rw[if_neg c]at h;split
  .rename_i C;rw[if_pos C]at h;exact h
  .rename_i C;rw[if_neg C]at h;refine⟨((xs.drop p.s.toNat).take (p.e.toNat-p.s.toNat)).map λx=>(i6 x:Int),?_,?_,λM v J=>?_⟩
   .rw [A8,TQ m (by lia) (by simpa using q),<- Jg,<- Jf,A8,A8];rfl
   .rw [Ay,Bp,DG];exact Kg.mpr ⟨Ik (by lia),Ik (by lia)⟩
   .have e:(((xs.drop p.s.toNat).take (p.e.toNat-p.s.toNat)).any λx=>decide (n<(i6 x:Int)))=decide (M > n):=by
     rw[Dc,FH,decide_eq_true_eq];constructor
     .rintro ⟨x,j,l⟩;have:=J _ (A7.mpr ⟨x,j,rfl⟩);have:=of_decide_eq_true l;lia
     .intro z;obtain⟨x,j,l⟩:=A7.mp v;exact⟨x,j,decide_eq_true (by lia)⟩
    rw[e]at h;exact h
def LO:c_:=λds P=>∃(xs:List Int) (n:Nat) (bs:List Bool),ds=[.lst (xs.map .int),.int n]/\xs.length<=1000000/\n<=5000/\bs.length<=900000/\sf xs (Wk.turn ⟨n,0,[],[⟨0,0,xs.length,1-2^n,2^n-1⟩],[]⟩) bs/\P (.fz (.str (FS "" (bs.map en))))
noncomputable abbrev za:AW:=top 67
theorem mE:aN ["some","planes","walk","heights","bits","bit"] ["some","planes"] (aA za):=by walk_at "S"
theorem S7 {f:Ac}{fd:Ag}(Df:bG K mg "told" za f fd)(B:bT mg)(KV:bQ K)(C:du K "Walk" bu)(k:sk P w K mg base "Walk" 2 ["self","many","planes"] (nC K 3 "Walk" bu fy))(g:bO P w K mg base "heights_of" 1 ["some"] (bL K 1 ir))(a:c6 P w K mg base "Walk" "is_whole" 1 ["self"] (bL K 1 et))(r:bO P w K mg base "answer" 1 ["part","plane","some","heights"] (bL K 4 tK))(L:c6 P w K mg base "Walk" "asked" 1 ["self"] (bL K 1 lB))(T:c6 P w K mg base "Walk" "take" 4 ["self","told"] (nC K 2 "Walk" bu je)):
  bO P w K mg base "told" 5 ["some","planes"] (bL K 2 LO):=by
 refine cE.of Df mE (by walk_at "b") rfl (λc A o s H E v=>⟨_,_,(aD (a5 (i:=2) mE.nd rfl (Ap rfl) (pM k (v.mono (by decide)) (by rfl) (ae (aM aU (by rfl) B.len AS (ae (pv 0) ay)) (ae (pv 1) ay))))
   (aD (a5 (i:=3) mE.nd rfl (Ap rfl) (aQ g (v.mono (by decide)) (by rfl) (ae (pv 0) ay)))
   (aD (a5 (i:=4) mE.nd rfl (Ap rfl) (cC ay))
   (aD (mO AO (cg (bY (di a (v.mono (by decide)) (pv 2)))) (aD (a5 (i:=5) mE.nd rfl (Ap rfl) (aQ r (v.mono (by decide)) (by rfl) (ae (di L (v.mono (by decide)) (pv 2)) (ae (cu (pv 2) rfl) (ae (pv 0) (ae (pv 3) ay))))))
   (aD (bP (fo Bb PySem.F.slot_list_append PySem.F.type_list_append cM (pv 4) (ae (xu (bY (pv 5)) f6 f6) ay)))
   (aF (bP (fi T (v.mono (by decide)) (pv 2) (ae (pv 5) ay)))))))
   (aF (aP (fo PySem.F.plainAttrs_str PySem.F.slot_str_join PySem.F.type_str_join Td f6 (ae (pv 4) ay)))))))),
  (aK (aZ (pI C (aw (bt bV (aB ax aI)) (aw aC aG))))
   (aK (aZ (aW (bB (aT (aw aC aG)))))
   (aK (aZ (c9 cB))
   (aK (mK (cb (dQ (bB (dH C (by decide +kernel) ax aI)))) (aK (aZ (aW (bB (cR (aB (aH (bB (dH C (by decide +kernel) ax aI))) (aB (dr (j:=0) C (by rfl) ax) (aB ax (aB ax aI))))))))
   (aK (nS (aW (UA (dQ aC) fY fY)))
   (gp C (by decide +kernel) (aw aC aG)))))
   (aY (aW (SJ (aH fY) ax))))))),?_⟩)
 rintro ds Pr ⟨xs,n,bs,rfl,M,hn,hb,ht,h⟩;gn_on;refine⟨xs.length,n,rfl,rfl,hn,?_⟩;gp_on;gn_on;refine⟨xs,rfl,M,?_⟩;gp_on;gn_on;gp_on;gn_on;rw[A8];refine⟨λm δ=>∃(w:Wk) (z ds:List Bool) (o:Option Sl),m=z.length/\sf xs w z/\ds++z=bs/\δ=[some (Sl.own (OV.fz (D.lst (Bu D.int xs)))),some (Sl.own (OV.fz (D.int n))),some (Sl.own (OV.ob none (Ba "Walk") bu w.ts)),some (Sl.own (OV.fz (D.lst (xs.map λx=>D.int (i6 x))))),some (Sl.own (OV.nl (ds.map λb=>OV.fz (D.str (en b))))),o],⟨_,_,bs,[],none,rfl,ht,rfl,rfl⟩,?_⟩;rintro m δ ⟨w,z,ds,o,rfl,hT,q,rfl⟩;fin2;refine⟨w,rfl,?_⟩;fin2
 cases hT with
 |done hl=>
  rw[if_neg (by simp[hl])];gp_on;rw[Bi]at q;subst q;fin2;refine⟨ds.map en,by rw[A8,A8];rfl,?_,h⟩;have e:∀l:List Bool,((l.map en).map (·.length)).sum=l.length:=by
   intro l
   induction l with
   |nil=>rfl
   |cons b l Q=>
    rw[B7,B7,List.sum_cons,Q,Bg,nt];lia
  rw[e,Ay];show ds.length+ds.length*0<=16777216
  lia
 | @step _ ah p u J G hf e U h1 t=>
  rw[if_pos (by simp;omega)];refine⟨w,ah,p,by rw[OV.cm],e,hf,?_⟩;fin2;refine⟨UO p,_,rfl,p,w.pl,xs,rfl,U,M,J,G,?_⟩;have hl:ds.length<1000000:=by
   have:=congrArg Gd q;rw[AG]at this;lia
  fin2;refine⟨hl,?_⟩
  cases O:gq xs w.pl p with
  |true=>
   rw[O]at t h1 q;rw[if_pos rfl];refine⟨w,ah,p,true,rfl,hf,rfl,e,J,G,h1,?_⟩;refine⟨u.length,by simp,_,u,ds++[true],some (Sl.own (OV.fz (D.bl true))),rfl,t,by simpa using q,?_⟩;rw[A5];rfl
  |false=>
   rw[O]at t h1 q;rw[if_neg (by decide)];refine⟨w,ah,p,false,rfl,hf,rfl,e,J,G,h1,?_⟩;refine⟨u.length,by simp,_,u,ds++[false],some (Sl.own (OV.fz (D.bl false))),rfl,t,by simpa using q,?_⟩;rw[A5];rfl
theorem Ra {x:Int}{k:Nat}:2^k<=x.natAbs↔k<i6 x:=by
 unfold i6;split
 .rename_i h;subst h;simp
 .rw [<- Nat.le_log2 (by lia)];lia
def Kn (x:Int)(k:Nat)(lo hi:Int):Prop:=lo<=x/\x<=hi/\hi-lo=2^k-1/\((∃q:Int,0<q/\lo=q*2^k)∨(∃q:Int,0<q/\hi = -(q*2^k)))
theorem Vx {P:Prop}[Decidable P]:(true=decide P)↔P:=by rw[eq_comm,decide_eq_true_eq]
theorem WT {P:Prop}[Decidable P]:(false=decide P)↔¬ P:=by rw[eq_comm,decide_eq_false_iff_not]
theorem oJ (k:Nat):(0:Int)<2^k:=HE (by decide)
theorem qU (k:Nat):(2:Int)^(k+1)=2*2^k:=by rw[JK,Er]
theorem Kn.le {x:Int}{k:Nat}{lo hi:Int}(h:Kn x k lo hi):2^k<=(x.natAbs:Int):=by
 obtain⟨h1,h2,c,a⟩:=h;rcases a with⟨q,Q,rfl⟩ | ⟨q,Q,rfl⟩
 .have:1*2^k<=q*2^k:=BE (by lia) (by lia);lia
 .have:1*2^k<=q*2^k:=BE (by lia) (by lia);lia
theorem W8 {y u r c:Nat}(hc:0<c)(U:∃q,u=q*c)(a:y=2*u+r)(h:r<2*c):y / c%2=1↔c<=r:=by
 obtain⟨q,rfl⟩:=U;have e:y / c=2*q+r / c:=by
  rw[a,show 2*(q*c)+r=r+2*q*c by rw[Nat.mul_assoc];lia,Nat.add_mul_div_right _ _ hc,JI]
 by_cases z:c<=r
 .have:r / c=1:=Nat.div_eq_of_lt_le (by (clear h;lia)) (by omega);clear h;lia
 .have:r / c=0:=Nat.div_eq_of_lt (by (clear h;lia));clear h;lia
theorem Kn.neg {x:Int}{k:Nat}{lo hi:Int}(h:Kn x k lo hi):Kn (-x) k (-hi) (-lo):=by
 obtain⟨h1,h2,c,a⟩:=h;refine⟨Gf h2,Gf h1,by rw[<- c];lia,?_⟩;rcases a with⟨q,Q,e⟩ | ⟨q,Q,e⟩
 .exact .inr ⟨q,Q,by rw[e]⟩
 .exact .inl ⟨q,Q,by rw[e,G9]⟩
theorem Q3 {x:Int}{k:Nat}{lo hi:Int}:Kn (-x) k (-hi) (-lo)↔Kn x k lo hi:=⟨λh=>by have:=h.neg;rwa[G9,G9,G9]at this,Kn.neg⟩
theorem UQ {x lo hi q:Int}{k:Nat}(h1:lo<=x)(h2:x<=hi)(j:hi-lo=2^(k+1)-1)(o:0<q)(e:lo=q*2^(k+1)):
  lo > 0/\(Kn x k (lo+2^k) hi↔x.natAbs / 2^k%2=1)/\(Kn x k lo (hi-2^k)↔¬ x.natAbs / 2^k%2=1):=by
 have f:=IN k;have h:(2:Int)^k=((2^k:Nat):Int):=rfl;unfold Kn;rw[qU,h]at j e;rw[h];generalize (2^k:Nat)=c at *;obtain⟨Q,rfl⟩:∃n:Nat,q=n:=⟨q.toNat,(Cf (Hk o)).symm⟩
 have p:0<Q*c:=HB (JL.mp o) f;have e':lo=((2*(Q*c):Nat):Int):=by rw[e];push_cast;rw[CS]
 have f1:lo+(c:Int)=(2*(Q:Int)+1)*c:=by rw[e,Gh,DH,CS,Jw]
 have f2:lo=2*(Q:Int)*c:=by rw[e,DH,CS]
 generalize M:Q*c=m at p e';obtain⟨a,rfl⟩:∃n:Nat,x=n:=⟨x.toNat,(Cf (by lia)).symm⟩
 have key:=W8 (y:=a) (r:=a-2*m) f ⟨Q,M.symm⟩ (by clear h2 j f1 f2;omega) (by clear f1 f2;lia);rw[Int.natAbs_natCast,key];have t:(0:Int)<2*(Q:Int)+1:=by clear f1 f2;lia
 have l:(0:Int)<2*(Q:Int):=by clear f1 f2;lia
 have g1:lo+(c:Int)<=a↔c<=a-2*m:=by clear h2 j f1 f2;omega
 have g2:(a:Int)<=hi-c↔¬ c<=a-2*m:=by clear f1 f2;lia
 exact⟨by rw[f2];exact HF l (JL.mpr f),⟨λg=>g1.mp g.1,λg=>⟨g1.mpr g,h2,by lia,.inl ⟨_,t,f1⟩⟩⟩,⟨λg=>g2.mp g.2.1,λg=>⟨h1,g2.mpr g,by lia,.inl ⟨_,l,f2⟩⟩⟩⟩
theorem Kn.bJ {x:Int}{k:Nat}{p:Pa}{b:Bool}(h:Kn x (k+1) p.lo p.hi):Kn x k (p.bJ k b).lo (p.bJ k b).hi↔b=decide (x.natAbs / 2^k%2=1):=by
 obtain⟨h1,h2,c,g⟩:=h;unfold Pa.bJ;rcases g with⟨q,Q,e⟩ | ⟨q,Q,e⟩
 .obtain ⟨f,A,a⟩:=UQ h1 h2 c Q e;rw[decide_eq_true f]
  cases b with
  |true=>rw[if_pos rfl,Vx,<- A]
  |false=>rw[if_neg (by decide),WT,<- a]
 .obtain ⟨f,A,a⟩:=UQ (x:=-x) (lo:=-p.hi) (hi:=-p.lo) (Gf h2) (Gf h1) (by rw[<- c];lia) Q (by rw[e,G9]);have hd:decide (p.lo > 0)=false:=decide_eq_false (by lia);rw[hd];rw[Jh,show -p.hi+2^k = -(p.hi-2^k) by lia,Q3]at A;rw[Jh,show -p.lo-2^k = -(p.lo+2^k) by lia,Q3]at a
  cases b with
  |true=>rw[if_neg (by decide),Vx,<- A]
  |false=>rw[if_pos rfl,WT,<- a]
theorem Kn.signed {x:Int}{k:Nat}{p:Pa}{b:Bool}(h1:2^k<=x.natAbs)(h2:x.natAbs<2^(k+1)):Kn x k (p.signed k b).lo (p.signed k b).hi↔b=decide (x<0):=by
 have h:(2:Int)^k=((2^k:Nat):Int):=rfl;rw[JH]at h2;unfold Kn Pa.signed
 cases b with
 |true=>
  rw[if_pos rfl,Vx];dsimp only;constructor
  .rintro ⟨_,g1,_⟩;omega
  .intro g;exact⟨by lia,by lia,by lia,.inr ⟨1,by lia,by lia⟩⟩
 |false=>
  rw[if_neg (by decide),WT];dsimp only;constructor
  .rintro ⟨g1,_⟩;lia
  .intro g;exact⟨by lia,by lia,by lia,.inl ⟨1,by lia,by lia⟩⟩
def yz (k:Nat)(lo hi:Int):Prop:=hi-lo=2^k-1/\((∃q:Int,0<q/\lo=q*2^k)∨(∃q:Int,0<q/\hi = -(q*2^k)))
def XI (k:Nat)(p:Pa):Prop:=0<=p.s/\p.s<p.e/\((p.a=3/\p.e=p.s+1/\yz k p.lo p.hi)∨(p.a=0/\p.lo=1-2^k/\p.hi=2^k-1))
def R7 (k:Nat)(p:Pa):Prop:=0<=p.s/\p.s<p.e/\((p.a=3/\p.e=p.s+1/\yz k p.lo p.hi)∨((p.a=0∨p.a=1)/\p.lo=1-2^k/\p.hi=2^k-1)∨(p.a=2/\p.e=p.s+1/\p.lo=1-2^k/\p.hi=2^k-1))
def tq (xs:List Int)(k:Nat)(s e:Int):Prop:=∀i:Nat,s<=i->(i:Int)<e->(xs.getD i 0).natAbs<2^k
def yG (xs:List Int)(k:Nat)(s e:Int):Prop:=∃i:Nat,s<=i/\(i:Int)<e/\2^k<=(xs.getD i 0).natAbs
def CW (xs:List Int)(k:Nat)(p:Pa):Prop:=(p.a=3->p.lo<=xs.getD p.s.toNat 0/\xs.getD p.s.toNat 0<=p.hi)/\(p.a=0->tq xs k p.s p.e)
def CA (xs:List Int)(k:Nat)(p:Pa):Prop:=(p.a=3->p.lo<=xs.getD p.s.toNat 0/\xs.getD p.s.toNat 0<=p.hi)/\(p.a≠3->tq xs (k+1) p.s p.e)/\(p.a=2->yG xs k p.s p.e)
theorem mT {xs:List Int}{k:Nat}{s e:Int}:¬ tq xs k s e↔yG xs k s e:=by
 constructor
 .intro h;exact KY λz=>h λi h1 h2=>IC λy=>z ⟨i,h1,h2,y⟩
 .rintro ⟨i,h1,h2,a⟩ h;have:=h i h1 h2;lia
theorem tq.mono {xs:List Int}{k l:Nat}{s e:Int}(h:tq xs k s e)(hl:k<=l):tq xs l s e:=λi h1 h2=>A6 (h i h1 h2) (Fm (by decide) hl)
theorem tq.split {xs:List Int}{k:Nat}{s m e:Int}(h1:s<=m)(h2:m<=e):tq xs k s e↔tq xs k s m/\tq xs k m e:=by
 constructor
 .intro h;exact⟨λi a b=>h i a (by lia),λi a b=>h i (by lia) b⟩
 .rintro ⟨a,b⟩ i c d;by_cases z:(i:Int)<m
  .exact a i c z
  .exact b i (by lia) d
theorem yG.split {xs:List Int}{k:Nat}{s m e:Int}(h1:s<=m)(h2:m<=e):yG xs k s e↔yG xs k s m∨yG xs k m e:=by
 rw[<- mT,tq.split h1 h2,<- mT,<- mT];refine⟨λz=>(KW _).elim (λa=>.inr λb=>z ⟨a,b⟩) .inl,λz f=>?_⟩;obtain⟨a,b⟩:=f;exact z.elim (λc=>c a) λc=>c b
theorem T7 {xs:List Int}{k:Nat}{p:Pa}(l:p.a≠3)(h2:p.a≠2)(m:0<=p.s)(h1:p.s<p.e)(j:p.e<=(xs.length:Int)):gq xs (k:Int) p=true↔yG xs k p.s p.e:=by
 unfold gq yG;rw[if_neg l,if_neg h2,FH];constructor
 .rintro ⟨x,f,g⟩;obtain⟨i,hi⟩:=Ef.mp f;have h:=(Ab.mp hi).1;rw[Bp]at h
  replace h:=(Kg.mp h).1
  rw[Ch h,Ej]at hi
  replace h:=Nat.add_lt_of_lt_sub h
  refine⟨p.s.toNat+i,by lia,by lia,?_⟩;rw[Al,hi];show 2^k<=x.natAbs
  exact Ra.mpr (by have:=of_decide_eq_true g;lia)
 .rintro ⟨i,a,b,c⟩;refine⟨xs.getD i 0,Ef.mpr ⟨i-p.s.toNat,?_⟩,decide_eq_true (by have:=Ra.mp c;lia)⟩;rw[Ch (by (clear c;omega)),Ej,show p.s.toNat+(i-p.s.toNat)=i by (clear m j c;lia),Al,Ah (by lia)];rfl
theorem oa {x:Int}{k:Nat}{lo hi:Int}:Kn x k lo hi↔yz k lo hi/\lo<=x/\x<=hi:=by
 constructor
 .rintro ⟨a,b,c,d⟩;exact⟨⟨c,d⟩,a,b⟩
 .rintro ⟨⟨c,d⟩,a,b⟩;exact⟨a,b,c,d⟩
theorem yz.bJ {k:Nat}{p:Pa}{b:Bool}(h:yz (k+1) p.lo p.hi):yz k (p.bJ k b).lo (p.bJ k b).hi/\p.lo<=(p.bJ k b).lo/\(p.bJ k b).hi<=p.hi:=by
 obtain⟨f,a⟩:=h;rw[qU]at f a;have g:=oJ k;unfold yz Pa.bJ;generalize (2:Int)^k=c at *;split
 .rename_i B;dsimp only;refine⟨⟨by lia,?_⟩,by lia,by lia⟩;rcases a with⟨q,Q,e⟩ | ⟨q,Q,e⟩
  .exact .inl ⟨2*q+1,by lia,by rw[e,Gh,CS,DH];lia⟩
  .exact .inr ⟨2*q,by lia,by rw[e,CS,DH]⟩
 .rename_i B;dsimp only;refine⟨⟨by lia,?_⟩,by lia,by lia⟩;rcases a with⟨q,Q,e⟩ | ⟨q,Q,e⟩
  .exact .inl ⟨2*q,by lia,by rw[e,CS,DH]⟩
  .exact .inr ⟨2*q+1,by lia,by rw[e,Gh,CS,DH];lia⟩
theorem yz.signed {k:Nat}{p:Pa}{b:Bool}:yz k (p.signed k b).lo (p.signed k b).hi:=by
 unfold yz Pa.signed;split
 .exact ⟨by dsimp only;lia,.inr ⟨1,by lia,by dsimp only;lia⟩⟩
 .exact ⟨by dsimp only;lia,.inl ⟨1,by lia,by dsimp only;lia⟩⟩
theorem TJ {xs:List Int}{k:Nat}{p:Pa}{b:Bool}(c:p.a=3)(f:yz (k+1) p.lo p.hi):CW xs k (p.bJ k b)↔CA xs k p/\b=gq xs (k:Int) p:=by
 have g:gq xs (k:Int) p=decide ((xs.getD p.s.toNat 0).natAbs / 2^k%2=1):=by
  unfold gq;rw[if_pos c];rfl
 have A:(p.bJ k b).a=3/\(p.bJ k b).s=p.s/\(p.bJ k b).e=p.e:=by unfold Pa.bJ;split<;>exact⟨rfl,rfl,rfl⟩
 obtain⟨g1,g2,g3⟩:=f.bJ (b:=b);rw[g];unfold CW CA;rw[A.1,A.2.1];generalize xs.getD p.s.toNat 0=x;constructor
 .rintro ⟨h,_⟩;obtain⟨l,j⟩:=h rfl;have n:Kn x (k+1) p.lo p.hi:=oa.mpr ⟨f,by lia,by lia⟩;exact⟨⟨λ_=>⟨by lia,by lia⟩,λz=>absurd c z,λz=>by rw[c]at z;cases z⟩,n.bJ.mp (oa.mpr ⟨g1,l,j⟩)⟩
 .rintro ⟨⟨h,_,_⟩,B⟩;have n:Kn x (k+1) p.lo p.hi:=oa.mpr ⟨f,h c⟩;exact⟨λ_=>(oa.mp (n.bJ.mpr B)).2,λz=>by cases z⟩
theorem Mh {xs:List Int}{k:Nat}{s:Int}(h:0<=s):tq xs k s (s+1)↔(xs.getD s.toNat 0).natAbs<2^k:=by
 constructor
 .intro z;exact z s.toNat (by lia) (by lia)
 .intro z i a b;rw[show i=s.toNat by (clear z;lia)];exact z
theorem S6 {xs:List Int}{k:Nat}{s:Int}(h:0<=s):yG xs k s (s+1)↔2^k<=(xs.getD s.toNat 0).natAbs:=by
 rw[<- mT,Mh h];lia
theorem So {xs:List Int}{k:Nat}{p:Pa}{b:Bool}(h2:p.a=2)(c:0<=p.s)(j:p.e=p.s+1):CW xs k (p.signed k b)↔CA xs k p/\b=gq xs (k:Int) p:=by
 have m:gq xs (k:Int) p=decide (xs.getD p.s.toNat 0<0):=by
  unfold gq;rw[if_neg (by rw[h2];decide),if_pos h2]
 have f:(p.signed k b).a=3/\(p.signed k b).s=p.s/\(p.signed k b).e=p.e:=by unfold Pa.signed;split<;>exact⟨rfl,rfl,rfl⟩
 rw[m];unfold CW CA;rw[f.1,f.2.1,j];simp only[Mh c,S6 c];generalize xs.getD p.s.toNat 0=x;constructor
 .rintro ⟨h,_⟩;have n:Kn x k (p.signed k b).lo (p.signed k b).hi:=oa.mpr ⟨yz.signed,h trivial⟩;have L:2^k<=x.natAbs:=by
   have:=n.le
   exact_mod_cast this
  have l:x.natAbs<2^(k+1):=by
   obtain⟨g,A⟩:=h trivial;have hc:(2:Int)^k=((2^k:Nat):Int):=rfl;rw[JH];unfold Pa.signed at g A;split at g
   .rename_i z;rw[if_pos z]at A;dsimp only at g A;clear h2 c j f;lia
   .rename_i z;rw[if_neg z]at A;dsimp only at g A;clear h2 c j f;lia
  exact⟨⟨(λz=>by rw[h2]at z;cases z),λ_=>l,λ_=>L⟩,(Kn.signed L l).mp n⟩
 .rintro ⟨⟨_,l,L⟩,B⟩;exact⟨λ_=>(oa.mp ((Kn.signed (L h2) (l (by rw[h2];decide))).mpr B)).2,λz=>by cases z⟩
theorem XT {b:Bool}:(true=b)↔b=true:=eq_comm
theorem YU {b:Bool}:(false=b)↔¬ b=true:=by cases b<;>simp
def pA (xs:List Int)(k:Nat)(ah:List Pa):Prop:=∀r q p,ah=r++[q,p]->p.a=1->yG xs k p.s q.e
def R8 (xs:List Int)(k:Nat)(ah:List Pa):Prop:=(∀p∈ah,CA xs k p)/\pA xs k ah
theorem mP {xs:List Int}{k:Nat}{ah:List Pa}{p:Pa}(h:p.a≠1):pA xs k (ah++[p]):=λr q c e h'=>by
 have:ah++[p]=(r++[q])++[c]:=by rw[e];simp
 obtain⟨_,f⟩:=ET this rfl;rw[E4 f |>.1]at h;exact absurd h' h
theorem kW {xs:List Int}{k:Nat}{ah:List Pa}(h:∀z∈ah,z.a≠1):pA xs k ah:=λr q p e h'=>absurd h' (h p (by rw[e];simp))
theorem qT {xs:List Int}{k:Nat}{ah:List Pa}{q p:Pa}(h:p.a=1):pA xs k (ah++[q,p])↔yG xs k p.s q.e:=by
 constructor
 .intro z;exact z ah q p rfl h
 .intro z r Q g e _;obtain⟨_,f⟩:=ET e rfl;obtain⟨a,b⟩:=E4 f;obtain⟨c,_⟩:=E4 b;rw[<- a,<- c];exact z
theorem wG {xs:List Int}{k:Nat}{w:Wk}{q:Pa}(l:0<=q.s)(h1:q.s<q.e)(hn:∀z∈w.ah,z.a≠1):
  R8 xs k (w.wake q).ah↔(∀z∈w.ah,CA xs k z)/\tq xs (k+1) q.s q.e/\yG xs k q.s q.e:=by
 unfold Wk.wake R8;split
 .dsimp only;have f:pA xs k (w.ah++[⟨2,q.s,q.e,q.lo,q.hi⟩]):=mP (by show ¬ (2:Int)=1;decide);have hc:CA xs k ⟨2,q.s,q.e,q.lo,q.hi⟩↔tq xs (k+1) q.s q.e/\yG xs k q.s q.e:=by
   unfold CA;dsimp only;exact⟨λz=>⟨z.2.1 (by decide),z.2.2 rfl⟩,λz=>⟨λy=>absurd y (by decide),λ_=>z.1,λ_=>z.2⟩⟩
  rw[Bq,Bh,hc];exact⟨λz=>z.1,λz=>⟨z,f⟩⟩
 .dsimp only;have g:q.s<(q.s+q.e) / 2:=by lia
  have M:(q.s+q.e) / 2<q.e:=by lia
  generalize (q.s+q.e) / 2=m at g M;have hc:∀(a s e:Int),a≠3->a≠2->(CA xs k ⟨a,s,e,q.lo,q.hi⟩↔tq xs (k+1) s e):=by
   intro a s e n j;unfold CA;exact⟨λz=>z.2.1 n,λz=>⟨λy=>absurd y n,λ_=>z,λy=>absurd y j⟩⟩
  have f:=qT (xs:=xs) (k:=k) (ah:=w.ah) (q:=⟨0,m,q.e,q.lo,q.hi⟩) (p:=⟨1,q.s,m,q.lo,q.hi⟩) rfl;rw[f,Bq,BQ,Bh,hc _ _ _ (by decide) (by decide),hc _ _ _ (by decide) (by decide)];have h:=tq.split (xs:=xs) (k:=k+1) (s:=q.s) (m:=m) (e:=q.e) (by lia) (by lia);exact⟨λ⟨⟨a,b,c⟩,d⟩=>⟨a,h.mpr ⟨c,b⟩,d⟩,λ⟨a,C,d⟩=>⟨⟨a,(h.mp C).2,(h.mp C).1⟩,d⟩⟩
theorem LF (w:Wk)(q:Pa):(w.wake q).wk=w.wk/\(w.wake q).pl=w.pl/\(w.wake q).us=w.us/\(w.wake q).re=w.re:=by
 unfold Wk.wake;split<;>exact⟨rfl,rfl,rfl,rfl⟩
structure Z3 (ah:List Pa) (p:Pa):Prop where
 no:∀z∈ah,z.a≠1
 yW:p.a=1->∃r q,ah=r++[q]/\q.a=0/\q.s=p.e/\q.s<q.e/\0<=q.s
def wA (xs:List Int)(k:Nat)(w:Wk):Prop:=(∀p∈w.wk,CW xs k p)/\R8 xs k w.ah
theorem wM {xs:List Int}{k:Nat}{w:Wk}{ah:List Pa}{p:Pa}{b:Bool}(U:w.pl=k)(e:w.ah=ah++[p])(hs:R7 (k+1) p)(hb:Z3 ah p)(J:p.e<=(xs.length:Int)):
  wA xs k (w.step ah p b)↔wA xs k w/\b=gq xs (k:Int) p:=by
 obtain⟨h0,h1,h2⟩:=hs;have G:w.pl.toNat=k:=by lia
 have O:=hb.no;have t:pA xs k ah:=kW O;unfold Wk.step wA;rw[e];by_cases C:p.a=3
 .rw [if_pos C,G];dsimp only;have o:yz (k+1) p.lo p.hi:=by
   rcases h2 with z |z |z
   .exact z.2.2
   .rcases z.1 with y |y<;>rw[C]at y<;>cases y
   .rw [C]at z;cases z.1
  have u:pA xs k (ah++[p]):=mP (by rw[C];decide);unfold R8;rw[Bq,Bh,TJ C o,Bq,Bh];exact⟨λ⟨⟨a,b,c⟩,d,_⟩=>⟨⟨a,⟨d,b⟩,u⟩,c⟩,λ⟨⟨a,⟨d,b⟩,_⟩,c⟩=>⟨⟨a,b,c⟩,d,t⟩⟩
 .rw [if_neg C];by_cases j:p.a=2
  .rw [if_pos j,G];dsimp only;have o:p.e=p.s+1:=by
    rcases h2 with z |z |z
    .rw [j]at z;cases z.1
    .rcases z.1 with y |y<;>rw[j]at y<;>cases y
    .exact z.2.1
   have u:pA xs k (ah++[p]):=mP (by rw[j];decide);unfold R8;rw[Bq,Bh,So j h0 o,Bq,Bh];exact⟨λ⟨⟨a,b,c⟩,d,_⟩=>⟨⟨a,⟨d,b⟩,u⟩,c⟩,λ⟨⟨a,⟨d,b⟩,_⟩,c⟩=>⟨⟨a,b,c⟩,d,t⟩⟩
  .rw [if_neg j];have h:=T7 (xs:=xs) (k:=k) C j h0 h1 J;have A:CA xs k p↔tq xs (k+1) p.s p.e:=by
    unfold CA;exact⟨λz=>z.2.1 C,λz=>⟨λy=>absurd y C,λ_=>z,λy=>absurd y j⟩⟩
   cases b with
   |true=>
    rw[if_pos rfl,(LF _ _).1,wG h0 h1 O,XT,h];unfold R8;rw[Bq,Bh,A];constructor
    .rintro ⟨a,d,l,g⟩;refine⟨⟨a,⟨d,l⟩,?_⟩,g⟩;by_cases f:p.a=1
     .obtain ⟨r,q,rfl,_,q2,q3,_⟩:=hb.yW f;rw[BL];refine (qT f).mpr ?_;obtain⟨i,i1,i2,i3⟩:=g;exact⟨i,i1,by (clear U J G i3;lia),i3⟩
     .exact mP f
    .rintro ⟨⟨a,⟨d,l⟩,_⟩,g⟩;exact⟨a,d,l,g⟩
   |false=>
    rw[if_neg (by decide),YU,h];have v:∀lo hi:Int,CW xs k ⟨0,p.s,p.e,lo,hi⟩↔tq xs k p.s p.e:=by
     intro lo hi;unfold CW;dsimp only;exact⟨λz=>z.2 rfl,λz=>⟨λy=>absurd y (by decide),λ_=>z⟩⟩
    have L:tq xs k p.s p.e↔tq xs (k+1) p.s p.e/\¬ yG xs k p.s p.e:=by
     rw[<- mT,KU];exact⟨λz=>⟨z.mono (by lia),z⟩,λz=>z.2⟩
    unfold Wk.calm;by_cases f:p.a=1
    .rw [if_pos f];obtain⟨r,q,rfl,Q,q2,q3,q0⟩:=hb.yW f;have B:CA xs k q↔tq xs (k+1) q.s q.e:=by
      unfold CA;exact⟨λz=>z.2.1 (by rw[Q];decide),λz=>⟨(λy=>by rw[Q]at y;cases y),λ_=>z,(λy=>by rw[Q]at y;cases y)⟩⟩
     have T:pA xs k (r++[q]++[p])↔yG xs k p.s q.e:=by rw[BL];exact qT f
     have XB:=yG.split (xs:=xs) (k:=k) (s:=p.s) (m:=p.e) (e:=q.e) (by (clear U J G;lia)) (by (clear U J G;lia));rw[(LF _ _).1,wG (by rw[CN];exact q0) (by rw[CN];exact q3) (by
      dsimp only;rw[Ds];exact λz hz=>O z (by simp[hz]))]
     unfold Wk.walked R8;dsimp only;rw[Ds,CN,Bq,Bh,v,L,T,XB,Bq,Bh,Bq,Bh,A,B,<- q2];constructor
     .rintro ⟨⟨a,l,n⟩,d,M,bq⟩;exact⟨⟨a,⟨⟨d,M⟩,l⟩,.inr bq⟩,n⟩
     .rintro ⟨⟨a,⟨⟨d,M⟩,l⟩,pb⟩,n⟩;exact⟨⟨a,l,n⟩,d,M,pb.elim (λz=>absurd z n) id⟩
    .rw [if_neg f];unfold Wk.walked R8;dsimp only;have u:pA xs k (ah++[p]):=mP f;rw[Bq,Bh,v,L,Bq,Bh,A];exact⟨λ⟨⟨a,l,n⟩,d,_⟩=>⟨⟨a,⟨d,l⟩,u⟩,n⟩,λ⟨⟨a,⟨d,l⟩,_⟩,n⟩=>⟨⟨a,l,n⟩,d,t⟩⟩
def dz (xs:List Int)(w:Wk):Prop:=wA xs w.pl.toNat w
theorem qa {xs:List Int}{w:Wk}(l:0<=w.pl)(A:w.ah=[])(j:∀p∈w.wk,p.a=0∨p.a=3):dz xs w.turn↔dz xs w:=by
 unfold dz Wk.turn;split
 .dsimp only;obtain⟨k,g⟩:∃k:Nat,w.pl=k+1:=⟨(w.pl-1).toNat,by omega⟩
  rw[g,show ((k:Int)+1-1).toNat=k by lia];unfold wA R8;rw[A];have h:pA xs k w.wk.reverse:=kW λz c=>by
   rcases j z (by simpa using c) with y |y<;>rw[y]<;>decide
  have f:pA xs (k+1) ([]:List Pa):=kW λz c=>by cases c
  have hc:∀p∈w.wk,(CA xs k p↔CW xs (k+1) p):=by
   intro p h;unfold CA CW;rcases j p h with y |y
   .rw [y];exact⟨λz=>⟨z.1,λ_=>z.2.1 (by decide)⟩,λz=>⟨z.1,λ_=>z.2 rfl,λy=>absurd y (by decide)⟩⟩
   .rw [y];exact⟨λz=>⟨z.1,λy=>absurd y (by decide)⟩,λz=>⟨z.1,λy=>absurd rfl y,λy=>absurd y (by decide)⟩⟩
  constructor
  .rintro ⟨_,a,_⟩;exact⟨λp h=>(hc p h).mp (a p (by simpa using h)),(λp h=>by cases h),f⟩
  .rintro ⟨a,_,_⟩;exact⟨(λp h=>by cases h),λp q=>(hc p (by simpa using q)).mpr (a p (by simpa using q)),h⟩
 .dsimp only;have e:w.pl=0:=by lia
  rw[e];exact JM
theorem qL {xs:List Int}{w:Wk}(e:0<=w.pl)(h:∀p∈w.wk,p.a=0∨p.a=3):dz xs w.dF↔dz xs w:=by
 unfold Wk.dF;split
 .rename_i c;exact qa (w:={w with re:=w.re++[w.us]}) e c h
 .exact JM
def d4:Int->List Pa->Int->Prop
 |a,[],b=>a=b
 |a,p::ps,b=>p.s=a/\p.s<p.e/\d4 p.e ps b
theorem oj {a b:Int}:∀{ps q:List Pa},d4 a (ps++q) b↔∃c,d4 a ps c/\d4 c q b
 | [],q=>by
  constructor
  .intro h;exact⟨a,rfl,h⟩
  .rintro ⟨c,h1,h2⟩;cases (show a=c from h1);exact h2
 |p::ps,q=>by
  show (p.s=a/\p.s<p.e/\d4 p.e (ps++q) b)↔∃c,(p.s=a/\p.s<p.e/\d4 p.e ps c)/\d4 c q b
  rw[oj];constructor
  .rintro ⟨h1,h2,c,g,f⟩;exact⟨c,⟨h1,h2,g⟩,f⟩
  .rintro ⟨c,⟨h1,h2,g⟩,f⟩;exact⟨h1,h2,c,g,f⟩
theorem fS:∀{ps:List Pa} {a b:Int},d4 a ps b->a+ps.length<=b
 | [],a,b,h=>by cases (show a=b from h);simp
 |p::ps,a,b,⟨h1,h2,c⟩=>by
  have:=fS c;simp only[Bg];lia
theorem iZ:∀{ps:List Pa} {a b:Int} {p:Pa},d4 a ps b->p∈ps->a<=p.s/\p.s<p.e/\p.e<=b
 | [],_,_,_,_,c=>by cases c
 |q :: ps,a,b,p,h,c=>by
  obtain⟨h1,h2,f⟩:=h;rcases AB.mp c with rfl |c
  .have:=fS f;exact⟨by lia,h2,by lia⟩
  .have:=iZ f c;exact⟨by lia,this.2.1,this.2.2⟩
theorem l7 {a b:Int}{xs ys:List Pa}{p f:Pa}(h:d4 a (xs++p::ys) b)(g:f.s=p.s)(j:f.e=p.e):d4 a (xs++f::ys) b:=by
 rw[oj]at h ⊢;obtain⟨c,h1,h2,l,k⟩:=h;exact⟨c,h1,by rw[g];exact h2,by rw[g,j];exact l,by rw[j];exact k⟩
theorem yd {a b:Int}{xs ys:List Pa}{p g f:Pa}(h:d4 a (xs++p::ys) b)(h1:g.s=p.s)(h2:g.e=f.s)(l:f.e=p.e)(k:g.s<g.e)(j:f.s<f.e):d4 a (xs++g::f::ys) b:=by
 rw[oj]at h ⊢;obtain⟨c,g1,g2,g3,G⟩:=h;exact⟨c,g1,by rw[h1];exact g2,k,h2.symm,j,by rw[l];exact G⟩
structure MW (m:Int) (k:Nat) (w:Wk):Prop where
 ch:d4 0 (w.wk++w.ah.reverse) m
 wk:∀p∈w.wk,XI k p
 ah:∀p∈w.ah,R7 (k+1) p
 yW:∀ah p,w.ah=ah++[p]->Z3 ah p
theorem Vz {ah:List Pa}{p:Pa}(hn:∀z∈ah,z.a≠1)(f:p.a≠1):∀h c,ah++[p]=h++[c]->Z3 h c:=λh c e=>by
 obtain⟨rfl,g⟩:=ET e rfl;cases g;exact⟨hn,λz=>absurd z f⟩
theorem LY {ah:List Pa}(hn:∀z∈ah,z.a≠1):∀h p,ah=h++[p]->Z3 h p:=λh p e=>
 ⟨λz c=>hn z (by rw[e];simp[c]),λz=>absurd z (hn p (by rw[e];simp))⟩
theorem p8 {m:Int}{k:Nat}{w:Wk}{q:Pa}(j:0<=q.s)(h1:q.s<q.e)(Q:q.lo=1-2^(k+1)/\q.hi=2^(k+1)-1)(hc:d4 0 (w.wk++q::w.ah.reverse) m)(hw:∀p∈w.wk,XI k p)(g:∀p∈w.ah,R7 (k+1) p)(hn:∀z∈w.ah,z.a≠1):MW m k (w.wake q):=by
 unfold Wk.wake;split
 .refine ⟨?_,hw,?_,?_⟩
  .rw [EM];exact l7 hc rfl rfl
  .intro p f;rcases Au.mp f with z |z
   .exact g p z
   .rw [AM.mp z];exact⟨j,h1,.inr (.inr ⟨rfl,by show q.e=q.s+1;lia,Q.1,Q.2⟩)⟩
  .exact Vz hn (by show ¬ (2:Int)=1;decide)
 .have c:q.s<(q.s+q.e) / 2:=by lia
  have h:(q.s+q.e) / 2<q.e:=by lia
  generalize (q.s+q.e) / 2=M at c h;refine⟨?_,hw,?_,?_⟩
  .rw [EM];exact yd hc rfl rfl rfl c h
  .intro p f;rcases Au.mp f with z |z
   .exact g p z
   .rcases AB.mp z with z |z
    .rw [z];exact⟨by show 0<=M;lia,h,.inr (.inl ⟨.inl rfl,Q.1,Q.2⟩)⟩
    .rw [AM.mp z];exact⟨j,c,.inr (.inl ⟨.inr rfl,Q.1,Q.2⟩)⟩
  .intro A l e;have e':(w.ah++[⟨0,M,q.e,q.lo,q.hi⟩])++[⟨1,q.s,M,q.lo,q.hi⟩]=A++[l]:=by rw[BL];exact e
   obtain⟨rfl,o⟩:=ET e' rfl;cases o;refine⟨λz n=>?_,λ_=>⟨w.ah,_,rfl,rfl,rfl,h,by show 0<=M;lia⟩⟩;rcases Au.mp n with y |y
   .exact hn z y
   .rw [AM.mp y];show ¬ (0:Int)=1;decide
theorem lM {m:Int}{k:Nat}{w:Wk}{ah:List Pa}{p:Pa}{b:Bool}(S:MW m k w)(O:w.pl=k)(e:w.ah=ah++[p]):MW m k (w.step ah p b):=by
 have o:w.pl.toNat=k:=by lia
 have B:=S.yW ah p e;have A:∀z∈ah,R7 (k+1) z:=λz h=>S.ah z (by rw[e];simp[h])
 obtain⟨n,h1,h2⟩:=S.ah p (by rw[e];simp);have hc:=S.ch;rw[e,EM]at hc;have put:∀g:Pa,g.s=p.s->g.e=p.e->XI k g->MW m k {w with us:=w.us+1,ah:=ah,wk:=w.wk++[g]}:=λg G L hw=>by
  refine⟨?_,λz h=>?_,A,LY B.no⟩
  .rw [BL];exact l7 hc G L
  .rcases Au.mp h with y |y
   .exact S.wk z y
   .rw [AM.mp y];exact hw
 unfold Wk.step;by_cases C:p.a=3
 .rw [if_pos C,o];have c:p.e=p.s+1/\yz (k+1) p.lo p.hi:=by
   rcases h2 with z |z |z
   .exact z.2
   .rcases z.1 with y |y<;>rw[C]at y<;>cases y
   .rw [C]at z;cases z.1
  have f:(p.bJ k b).a=3/\(p.bJ k b).s=p.s/\(p.bJ k b).e=p.e:=by unfold Pa.bJ;split<;>exact⟨rfl,rfl,rfl⟩
  exact put _ f.2.1 f.2.2 ⟨by rw[f.2.1];exact n,by rw[f.2.1,f.2.2];exact h1,.inl ⟨f.1,by rw[f.2.1,f.2.2];exact c.1,(c.2.bJ).1⟩⟩
 .rw [if_neg C];by_cases j:p.a=2
  .rw [if_pos j,o];have c:p.e=p.s+1:=by
    rcases h2 with z |z |z
    .rw [j]at z;cases z.1
    .rcases z.1 with y |y<;>rw[j]at y<;>cases y
    .exact z.2.1
   have f:(p.signed k b).a=3/\(p.signed k b).s=p.s/\(p.signed k b).e=p.e:=by unfold Pa.signed;split<;>exact⟨rfl,rfl,rfl⟩
   exact put _ f.2.1 f.2.2 ⟨by rw[f.2.1];exact n,by rw[f.2.1,f.2.2];exact h1,.inl ⟨f.1,by rw[f.2.1,f.2.2];exact c,yz.signed⟩⟩
  .rw [if_neg j];have l:p.lo=1-2^(k+1)/\p.hi=2^(k+1)-1:=by
    rcases h2 with z |z |z
    .exact absurd z.1 C
    .exact z.2
    .exact absurd z.1 j
   split
   .exact p8 n h1 l hc S.wk A B.no
   .have hw:XI k ⟨0,p.s,p.e,1-2^k,2^k-1⟩:=⟨n,h1,.inr ⟨rfl,rfl,rfl⟩⟩
    unfold Wk.calm;by_cases t:p.a=1
    .rw [if_pos t];obtain⟨r,q,rfl,Q,M,u,v⟩:=B.yW t;have J:q.lo=1-2^(k+1)/\q.hi=2^(k+1)-1:=by
      rcases (A q (by simp)).2.2 with z |z |z
      .rw [Q]at z;cases z.1
      .exact z.2
      .rw [Q]at z;cases z.1
     unfold Wk.walked;rw[Ds,CN,o];refine p8 v u J ?_ (λz h=>?_) (λz h=>A z (by simp[h])) λz h=>B.no z (by simp[h])
     .rw [EM]at hc;rw[BL];exact l7 hc rfl rfl
     .rcases Au.mp h with y |y
      .exact S.wk z y
      .rw [AM.mp y];exact hw
    .rw [if_neg t];rw[o];exact put _ rfl rfl hw
theorem p7 {m:Int}{k:Nat}{w:Wk}(S:MW m k w):∀p∈w.wk,p.a=0∨p.a=3:=λp h=>by
 rcases (S.wk p h).2.2 with z |z
 .exact .inr z.1
 .exact .inl z.1
structure kI (m:Int) (w:Wk):Prop where
 sh:MW m w.pl.toNat w
 ne:0<=w.pl->w.ah≠[]
 wh:w.pl<0->w.pl = -1/\w.ah=[]
theorem p_ {m:Int}{k:Nat}{w:Wk}(M:0<m)(S:MW m k w)(g:w.pl=k)(a:w.ah=[]):kI m w.turn:=by
 have hc:=S.ch;rw[a]at hc;have hc:d4 0 (w.wk++[]) m:=hc;rw[Bi]at hc;have n:w.wk≠[]:=λz=>by
  rw[z]at hc;have:(0:Int)=m:=hc;lia
 unfold Wk.turn;split
 .obtain ⟨j,rfl⟩:∃j,k=j+1:=⟨k-1,by lia⟩
  have e:(w.pl-1).toNat=j:=by lia
  refine⟨?_,λ_=>by simpa using n,λz=>?_⟩
  .rw [e];refine⟨?_,(λp h=>by cases h),λp h=>?_,?_⟩
   .rw [List.reverse_reverse];exact hc
   .have hw:=S.wk p (by simpa using h);refine⟨hw.1,hw.2.1,?_⟩;rcases hw.2.2 with z |z
    .exact .inl z
    .exact .inr (.inl ⟨.inl z.1,z.2⟩)
   .refine LY λz c=>?_
    rcases p7 S z (by simpa using c) with y |y<;>rw[y]<;>decide
  .have:w.pl-1<0:=z;lia
 .have f:k=0:=by lia
  subst f;refine⟨?_,λz=>?_,λ_=>⟨by show w.pl-1 = -1;lia,a⟩⟩
  .rw [show (w.pl-1).toNat=0 by lia];exact⟨S.ch,S.wk,S.ah,S.yW⟩
  .have:0<=w.pl-1:=z;lia
theorem jq {m:Int}{k:Nat}{w:Wk}(h:0<m)(S:MW m k w)(a:w.pl=k):kI m w.dF:=by
 unfold Wk.dF;split
 .rename_i c;exact p_ (w:={w with re:=w.re++[w.us]}) h ⟨S.ch,S.wk,S.ah,S.yW⟩ a c
 .rename_i c;refine⟨by rw[show w.pl.toNat=k by lia];exact S,λ_=>c,λz=>by lia⟩
theorem oB {m:Int}(M:0<m)(n:Nat):kI m (Wk.turn ⟨n,0,[],[⟨0,0,m,1-2^n,2^n-1⟩],[]⟩):=by
 refine p_ M ⟨⟨rfl,M,rfl⟩,λp h=>?_,(λp h=>by cases h),λah p e=>?_⟩ rfl rfl
 .rw [AM.mp h];exact⟨Br 0,M,.inr ⟨rfl,rfl,rfl⟩⟩
 .have:=congrArg Gd e;simp at this
theorem uM {w:Wk}{ah:List Pa}{p:Pa}{b:Bool}:(w.step ah p b).pl=w.pl/\(w.step ah p b).us=w.us+1/\(w.step ah p b).re=w.re:=by
 unfold Wk.step Wk.calm Wk.wake Wk.walked
 repeat (any_goals split)
 all_goals exact⟨rfl,rfl,rfl⟩
theorem yS {xs:List Int}{n:Nat}(h:∀x∈xs,x.natAbs<2^n):dz xs (Wk.turn ⟨n,0,[],[⟨0,0,xs.length,1-2^n,2^n-1⟩],[]⟩):=by
 refine (qa (w:=⟨n,0,[],[⟨0,0,xs.length,1-2^n,2^n-1⟩],[]⟩) (by show 0<=(n:Int);lia) rfl (λp c=>by rw[AM.mp c];exact .inl rfl)).mpr ?_;unfold dz;show wA xs ((n:Int).toNat) _
 rw[Bf];refine⟨λp c=>?_,(λp c=>by cases c),kW λz e=>by cases e⟩;rw[AM.mp c];refine⟨λz=>absurd z (by show ¬ (0:Int)=3;decide),λ_ i a b=>?_⟩;have hi:i<xs.length:=by
  have:(i:Int)<(xs.length:Int):=b;lia
 rw[Al,Ah hi];exact h _ (GU hi)
noncomputable def Nn (p:Pa):Nat:=if p.a=3∨p.a=2 then 1 else 3*(p.e-p.s).toNat-1
noncomputable def eP (ps:List Pa):Nat:=(ps.map Nn).sum
theorem kr (ps q:List Pa):eP (ps++q)=eP ps+eP q:=by simp[eP]
theorem kq (p:Pa):eP [p]=Nn p:=by simp[eP]
theorem Qp (ps:List Pa):eP ps.reverse=eP ps:=by
 induction ps with
 |nil=>rfl
 |cons p ps h=>rw[Fo,kr,kq];simp[eP];lia
theorem SW {p:Pa}(h:p.s<p.e):1<=Nn p:=by
 unfold Nn;split<;>lia
theorem V4 {p:Pa}(h:p.s<p.e):Nn p<=3*(p.e-p.s).toNat:=by
 unfold Nn;split<;>lia
theorem qR:∀{ps:List Pa} {a b:Int},d4 a ps b->(eP ps:Int)<=3*(b-a)
 | [],a,b,h=>by cases (show a=b from h);simp[eP]
 |p::ps,a,b,⟨h1,h2,c⟩=>by
  have f:=qR c;have g:=V4 h2;have e:eP (p::ps)=Nn p+eP ps:=by simp[eP]
  lia
theorem wF {w:Wk}{q:Pa}(h1:q.s<q.e)(f:q.a≠3)(h2:q.a≠2):eP (w.wake q).ah+1<=eP w.ah+Nn q:=by
 have Q:Nn q=3*(q.e-q.s).toNat-1:=by
  unfold Nn;rw[if_neg (by rintro (z |z);exact f z;exact h2 z)]
 unfold Wk.wake;split
 .dsimp only;rw[kr,kq,Q];show eP w.ah+1+1<=_
  clear h1;lia
 .rename_i c;dsimp only;have M:q.s<(q.s+q.e) / 2:=by lia
  have h:(q.s+q.e) / 2<q.e:=by lia
  generalize (q.s+q.e) / 2=m at M h;have e:eP [(⟨0,m,q.e,q.lo,q.hi⟩:Pa),⟨1,q.s,m,q.lo,q.hi⟩]=(3*(q.e-m).toNat-1)+(3*(m-q.s).toNat-1):=by
   simp[eP,Nn]
  rw[kr,e,Q];lia
theorem qf {m:Int}{k:Nat}{w:Wk}{ah:List Pa}{p:Pa}{b:Bool}(S:MW m k w)(e:w.ah=ah++[p]):eP (w.step ah p b).ah+1<=eP w.ah:=by
 have h:=S.yW ah p e;obtain⟨n,h1,_⟩:=S.ah p (by rw[e];simp);have l:=SW h1;rw[e,kr,kq];unfold Wk.step;split
 .show eP ah+1<=_;lia
 .rename_i c;split
  .show eP ah+1<=_;lia
  .rename_i C;split
   .exact wF (w:={w with us:=w.us+1,ah:=ah}) h1 c C
   .unfold Wk.calm;split
    .rename_i f;obtain⟨r,q,rfl,a,g,Q,j⟩:=h.yW f;rw[Ds,CN,kr,kq];refine BC (wF Q (by rw[a];decide) (by rw[a];decide)) ?_;show eP r+Nn q<=_
     lia
    .show eP ah+1<=_;lia
noncomputable def mu (m:Nat)(w:Wk):Nat:=if w.pl<0 then 0 else 3*m*w.pl.toNat+eP w.ah
theorem tQ {m k:Nat}{w:Wk}(S:MW m k w)(h:w.pl=k):mu m w.dF<=3*m*k+eP w.ah:=by
 unfold Wk.dF;split
 .rename_i c;unfold Wk.turn;split
  .rename_i C;obtain⟨j,rfl⟩:∃j,k=j+1:=⟨k-1,by have:w.pl-1>=0:=C;lia⟩
   unfold mu;dsimp only;rw[if_neg (by omega),Qp,show (w.pl-1).toNat=j by omega];have hc:=S.ch;rw[c]at hc;have hc:d4 0 (w.wk++[]) m:=hc;rw[Bi]at hc;have:=qR hc;have e:3*m*(j+1)=3*m*j+3*m:=by rw[Nat.mul_succ]
   lia
  .rename_i C;unfold mu;dsimp only;rw[if_pos (by have:¬ w.pl-1>=0:=C;lia)];lia
 .unfold mu;rw[if_neg (by lia),show w.pl.toNat=k by lia];exact Ak _
inductive jN:Wk->List Bool->Wk->Prop
 |nil {w:Wk}:jN w [] w
 |whole {w:Wk} {b:Bool} {bs:List Bool} (h:w.pl<0):jN w (b::bs) w
 |step {w v:Wk} {ah:List Pa} {p:Pa} {b:Bool} {bs:List Bool} (h:0<=w.pl) (h5:w.pl<=5000) (hf:w.fits) (e:w.ah=ah++[p]) (h1:p.a=1->b=false->ah≠[]) (t:jN ((w.step ah p b).dF) bs v):jN w (b::bs) v
noncomputable def Pa.sp (p:Pa):D:=.tup [.int p.lo,.int p.hi]
noncomputable def eI (w:Wk):List D:=(w.wk++w.ah.reverse).flatMap λp=>Aw (p.e-p.s).toNat p.sp
def Bt (d:D)(bs:List Bool):Prop:=d = .str (b_ bs)∨d = .lst (bs.map λb=>.str (en b))
def gE:wD:=λts ds P=>∃(w v:Wk) (bs:List Bool) (d:D),ts=w.ts/\ds=[d]/\Bt d bs/\jN w bs v/\P v.ts
def iu:c_:=λds P=>∃w:Wk,ds=[.obj "Walk" bu (OV.vals w.ts)]/\w.wk.length<400000/\w.ah.length<400000/\(eI w).length<=900000/\(∀p∈w.wk++w.ah,0<=p.e-p.s/\p.e-p.s<=100000)/\P (.nl ((eI w).map .fz))
def oF:c_:=λds P=>∃(bs:List Bool) (d:D) (m:Int) (n:Nat) (v:Wk),ds=[d,.int m,.int n]/\Bt d bs/\n<=5000/\jN (Wk.turn ⟨n,0,[],[⟨0,0,m,1-2^n,2^n-1⟩],[]⟩) bs v/\P (.ob none "Walk" bu v.ts)
noncomputable abbrev iF:AW:=dv (top 60) 5
theorem j5:aN ["self","bits","bit"] ["self","bits"] (aA iF):=by walk_at "S"
noncomputable abbrev jn:AW:=dv (top 60) 4
theorem iy:aN ["self","found","part"] ["self"] (aA jn):=by walk_at "S"
noncomputable abbrev lV:AW:=top 62
theorem oH:aN ["bits","many","planes","walk"] ["bits","many","planes"] (aA lV):=by walk_at "S"
theorem rh {f:Ac}{fd:Ag}(G:fq K "Walk" "follow" "Walk.follow" iF f fd)(B:bT mg)(KV:bQ K)(C:du K "Walk" bu)(l:c6 P w K mg base "Walk" "is_whole" 1 ["self"] (bL K 1 et))(k:c6 P w K mg base "Walk" "take" 4 ["self","told"] (nC K 2 "Walk" bu je)):
  c6 P w K mg base "Walk" "follow" 5 ["self","bits"] (nC K 2 "Walk" bu gE):=by
 refine c6.of G j5 (by walk_at "b") rfl (λc A o s H E n=>⟨_,_,(aF (dy AO rfl (V3 (pv 1)) (bf (i:=2) j5.nd rfl (Ap rfl)) (aD (bN (bY (di l (n.mono (by decide)) (pv 0))) (aF Qj) br)
   (aF (bP (fi k (n.mono (by decide)) (pv 0) (ae (dj fP (pv 2) f6 (be _)) ay))))))),
  (dw (VL aC) bj (aK (bS (dQ (bB (dH C (by decide +kernel) ax aI))) Pt bo)
   (gp C (by decide +kernel) (aw (aJ fQ ax (aH fY)) aG)))),?_⟩)
 rintro a ts ds J ⟨w,v,bs,d,rfl,rfl,hd,q,h⟩;rcases hd with rfl |rfl
 fin2;refine .inl ?_;rw[jf,A8]
 rotate_left
 fin2;refine .inr ?_
 all_goals
  refine⟨λi δ=>∃(j:Wk) (O o:Option Sl),jN j (bs.drop i) v/\δ=[some (.own (.ob (some a) "Walk" bu j.ts)),O,o],⟨w,_,none,q,rfl⟩,?_,?_⟩
  .rintro i d δ hd ⟨j,O,o,g,rfl⟩;obtain⟨b,m,rfl⟩:=mV hd;have hi:=(Ab.mp m).1;have r:bs.drop i=b::bs.drop (i+1):=by
    rw[List.drop_eq_getElem_cons hi];rw[Ah hi]at m;rw[AV m]
   rw[r]at g;simp only[gN,Ig,CO,Dh];gn_on;refine⟨j,by rw[OV.cm],?_⟩;fin2
   cases g with
   |whole hl=>
    rw[if_pos hl];exact h
   | @step _ _ ah p _ _ z u hf e h1 t=>
    rw[if_neg (by lia)];gp_on;fin2;refine⟨j,ah,p,b,rfl,hf,by rw[RQ],e,z,u,h1,?_⟩;exact⟨_,_,_,t,rfl⟩
  .rintro δ ⟨j,O,o,g,rfl⟩;rw[Ay,List.drop_length]at g;cases g;exact⟨_,rfl,h⟩
theorem sP {f:Ac}{fd:Ag}(z:fq K "Walk" "spans" "Walk.spans" jn f fd)(B:bT mg)(KV:bQ K)(C:du K "Walk" bu)(G:∃t,mg "SPAN"=some (.int 3 t))(k:∃t,mg "END"=some (.int 2 t))(g:∃t,mg "START"=some (.int 1 t)):
  c6 P w K mg base "Walk" "spans" 1 ["self"] (bL K 1 iu):=by
 refine LB.of z iy (by walk_at "b") rfl (λc A o s H E J=>⟨_,_,(aD (a5 (i:=1) iy.nd rfl (Ap rfl) (cC ay))
   (aD (dy AO rfl (cF (aX vp (cu (pv 0) rfl) (qS rfl B.list rfl B.reversed (ae (cu (pv 0) rfl) ay)))) (bf (i:=2) iy.nd rfl (Ap rfl)) (aF (bP (fo Bb Fa E_ ry (pv 1) (ae (aX QA (cC (ae (aO aS (pv 2) (aV (by rfl) G) (λ_ _=>rfl)) ay)) (aX dt (aO aS (pv 2) (aV (by rfl) k) (λ_ _=>rfl)) (aO aS (pv 2) (aV (by rfl) g) (λ_ _=>rfl)))) ay)))))
   (aF (aP (pv 1))))),
  (aK (aZ (c9 cB))
   (aK (dw (cL (bB (SD (dr (j:=3) C (by rfl) ax) (aH (bB (qG (aB (dr (j:=4) C (by rfl) ax) aI))))))) bj (Pq (bB (L6 (c9 (bU (aW (bC aR aC az)) cB)) (aH (aJ b9 (a_ (cQ.b aR) ax (aH az)) (a_ (cQ.b aR) ax (aH az))))))))
   e_)),?_⟩)
 rintro ds M ⟨w,rfl,h1,h2,q,u,h⟩;unfold Wk.ts;gn_on;gp_on;gn_on;rw[pN,pN];have v:∀l:List D,Bu OV.val (Bu OV.fz l)=l:=λl=>by
  rw[A8];exact Kh l
 simp only[v];rw[<- CI,<- A5];refine⟨vo _,by lia,vo _,vo _,by simp;lia,?_⟩;have n:∀p∈w.wk++w.ah.reverse,0<=p.e-p.s/\p.e-p.s<=100000:=λp m=>u p (by simpa using m)
 unfold eI at h q;generalize w.wk++w.ah.reverse=ps at h q n;refine⟨λi δ=>∃(o:Option Sl),δ=[some (Sl.own (OV.fz (D.obj (Ba "Walk") bu [D.int w.pl,D.int w.us,D.lst (Bu D.int w.re),D.lst (Bu Pa.d w.wk),D.lst (Bu Pa.d w.ah)]))),some (Sl.own (OV.nl (((ps.take i).flatMap λp=>Aw (p.e-p.s).toNat p.sp).map .fz))),o],⟨none,rfl⟩,?_,?_⟩
 .rintro i d δ hd ⟨o,rfl⟩;obtain⟨p,m,rfl⟩:=mV hd;have hi:=(Ab.mp m).1;rw[nW];simp only[gN,CO,Dh];fin2;have r:=n p (An m);have L:((ps.take i).flatMap λp=>Aw (p.e-p.s).toNat p.sp).length<=900000:=by
   refine BC ?_ q;rw[<- B4 i ps,HD,AG];simp
  refine⟨⟨r.1,by lia⟩,by rw[BJ];(clear h1 h2;lia),some (Sl.own (OV.fz (D.tup [D.int p.a,D.int p.s,D.int p.e,D.tup [D.int p.lo,D.int p.hi]]))),?_⟩;have ht:ps.take (i+1)=ps.take i++[p]:=by rw[ED,m];rfl
  rw[ht,HD,A5,E1];simp only[DP,List.flatMap_nil,Bi,E1];rfl
 .rintro δ ⟨o,rfl⟩;gp_on;fin2;rw[BU];exact h
theorem xE {f:Ac}{fd:Ag}(g:bG K mg "followed" lV f fd)(B:bT mg)(KV:bQ K)(C:du K "Walk" bu)(a:sk P w K mg base "Walk" 2 ["self","many","planes"] (nC K 3 "Walk" bu fy))(l:c6 P w K mg base "Walk" "follow" 5 ["self","bits"] (nC K 2 "Walk" bu gE)):
  bO P w K mg base "followed" 6 ["bits","many","planes"] (bL K 3 oF):=by
 refine cE.of g oH (by walk_at "b") rfl (λc A o s H E r=>⟨_,_,(aD (a5 (i:=3) oH.nd rfl (Ap rfl) (pM a (r.mono (by decide)) (by rfl) (ae (pv 1) (ae (pv 2) ay))))
   (aD (bP (fi l (r.mono (by decide)) (pv 3) (ae (pv 0) ay)))
   (aF (aP (pv 3))))),
  (aK (aZ (pI C (aw aC (aw aC aG))))
   (aK (gp C (by decide +kernel) (aw aC aG))
   e_)),?_⟩)
 rintro ds j ⟨bs,d,m,n,v,rfl,hd,hn,e,h⟩;gn_on;refine⟨m,n,rfl,rfl,hn,?_⟩;gp_on;gn_on;refine⟨_,v,bs,d,rfl,rfl,hd,e,?_⟩;gp_on;fin2;exact h
theorem tP {w:Wk}:w.dF.us=w.us/\w.dF.re.length<=w.re.length+1/\w.dF.pl<=w.pl/\(w.dF.re.length:Int)+w.dF.pl<=w.re.length+w.pl:=by
 unfold Wk.dF;split
 .unfold Wk.turn;split
  .refine ⟨rfl,by simp,by show w.pl-1<=w.pl;lia,?_⟩;show (((w.re++[w.us]).length:Nat):Int)+(w.pl-1)<=_
   rw[AG,BI];lia
  .refine ⟨rfl,by simp,by show w.pl-1<=w.pl;lia,?_⟩;show (((w.re++[w.us]).length:Nat):Int)+(w.pl-1)<=_
   rw[AG,BI];lia
 .exact ⟨rfl,by lia,Br _,Br _⟩
theorem wX {m:Nat}{w:Wk}(S:kI m w)(M:m<400000)(h:w.re.length<900000):w.fits:=by
 have:=fS S.sh.ch;rw[AG,B8]at this;exact⟨h,by lia,by lia⟩
theorem OO {xs:List Int}{m:Nat}(f:xs.length=m)(M:0<m)(j:m<400000):∀(N:Nat) (w:Wk),mu m w<=N->kI m w->dz xs w->w.pl<=5000->(w.re.length:Int)+w.pl<800000->
  ∃bs v,sf xs w bs/\jN w bs v/\v.pl<0/\kI m v/\dz xs v/\bs.length<=mu m w/\v.us=w.us+bs.length:=by
 intro N
 induction N with
 |zero=>
  intro w hN S C B hr;by_cases g:w.pl<0
  .exact ⟨[],w,.done g,.nil,g,S,C,Bv _,by simp⟩
  .obtain ⟨ah,p,e⟩:∃ah p,w.ah=ah++[p]:=⟨_,_,(CG (S.ne (by lia))).symm⟩
   have:=qf (b:=true) S.sh e;unfold mu at hN;rw[if_neg g]at hN;lia
 |succ N ih=>
  intro w hN S C B hr;by_cases g:w.pl<0
  .exact ⟨[],w,.done g,.nil,g,S,C,Bv _,by simp⟩
  .obtain ⟨k,l⟩:∃k:Nat,w.pl=k:=⟨w.pl.toNat,by lia⟩
   have G:w.pl.toNat=k:=by lia
   obtain⟨ah,p,e⟩:∃ah p,w.ah=ah++[p]:=⟨_,_,(CG (S.ne (by lia))).symm⟩
   have n:MW m k w:=G▸S.sh;have hA:=n.ah p (by rw[e];simp);have h:=iZ (p:=p) n.ch (by rw[e];simp);have O:=n.yW ah p e;have J:=lM (b:=gq xs (k:Int) p) n l e;obtain⟨q1,q2,q3⟩:=uM (b:=gq xs (k:Int) p);have c:(w.step ah p (gq xs (k:Int) p)).pl=k:=by rw[q1];exact l
   have S2:=jq (by lia) J c;have C1:wA xs k (w.step ah p (gq xs (k:Int) p)):=(wM l e hA O (by rw[f];exact h.2.2)).mpr ⟨by unfold dz at C;rw[G]at C;exact C,rfl⟩;have C2:dz xs (w.step ah p (gq xs (k:Int) p)).dF:=(qL (by rw[c];lia) (p7 J)).mpr (by unfold dz;rw[c];exact C1);obtain⟨r1,r2,r3,r4⟩:=tP (w:=w.step ah p (gq xs (k:Int) p));have u:=tQ J c;have L:=qf (b:=gq xs (k:Int) p) n e;have hw:mu m w=3*m*k+eP w.ah:=by unfold mu;rw[if_neg g,G]
   rw[ q3]at r4;obtain⟨bs,v,U,t2,T,Q,t5,A,t⟩:=ih _ (by lia) S2 C2 (by (clear f M j hN h r2 u hw;lia)) (by (clear f M j hN h u hw;lia));have hf:=wX S j (by (clear f M j hN h u hw T A t;lia));have o:p.a=1->gq xs (k:Int) p=false->ah≠[]:=λz _=>by
    obtain⟨r,q,er,_⟩:=O.yW z;rw[er];simp
   refine⟨gq xs (k:Int) p::bs,v,?_,?_,T,Q,t5,?_,?_⟩
   .have:=sf.step (by (clear f M j hN h u hw T A t;lia)) B hf e ⟨h.1,h.2.1,by rw[f];exact h.2.2⟩ (by rw[l];exact o) (by rw[l];exact U);rw[l]at this;exact this
   .exact jN.step (by (clear f M j hN h u hw T A t;lia)) B hf e o t2
   .rw [Bg];(clear hN T t;lia)
   .rw [t,r1,Bg];lia
noncomputable def dot (x:Int):D:=.tup [.int x,.int x]
theorem Qx {xs:List Int}{p:Pa}(k:XI 0 p)(hc:CW xs 0 p)(a:p.e<=(xs.length:Int)):Aw (p.e-p.s).toNat p.sp=((xs.drop p.s.toNat).take (p.e-p.s).toNat).map dot:=by
 obtain⟨q,h1,h2⟩:=k;have hl:((xs.drop p.s.toNat).take (p.e-p.s).toNat).length=(p.e-p.s).toNat:=by
  rw[Bp,DG];omega
 have key:∀x∈(xs.drop p.s.toNat).take (p.e-p.s).toNat,p.sp=dot x:=by
  intro x j;obtain⟨i,hi⟩:=Ef.mp j;have l:=(Ab.mp hi).1;rw[hl]at l;rw[Ch l,Ej]at hi;have hg:xs.getD (p.s.toNat+i) 0=x:=by rw[Al,hi];rfl
  unfold Pa.sp dot;rcases h2 with⟨m,r,⟨A,_⟩⟩ | ⟨o,A,n⟩
  .obtain ⟨g,C⟩:=hc.1 m;have f:i=0:=by (clear a hl hg g C;lia)
   subst f;rw[IE]at hg;rw[hg]at g C;have:p.hi-p.lo=0:=by simpa using A
   rw[show p.lo=x by (clear a hl hg;lia),show p.hi=x by (clear a hl hg;lia)]
  .have:=hc.2 o (p.s.toNat+i) (by (clear a hl hg;lia)) (by (clear a hl hg;lia));rw[hg]at this;have c:x=0:=by
    have:x.natAbs<1:=by simpa using this
    lia
   rw[A,n,c];rfl
 refine DQ λi=>?_
 by_cases hi:i<(p.e-p.s).toNat
 .have h:i<((xs.drop p.s.toNat).take (p.e-p.s).toNat).length:=by rw[hl];exact hi
  rw[Dg,if_pos hi,AN,Ah h,key _ (GU h)];rfl
 .rw [Bc (by rw[BJ];lia),Bc (by rw[Ay];lia)]
theorem uz {xs:List Int}:∀{ps:List Pa} {a b:Int},d4 a ps b->0<=a->b<=(xs.length:Int)->(∀p∈ps,XI 0 p/\CW xs 0 p)->(ps.flatMap λp=>Aw (p.e-p.s).toNat p.sp)=((xs.drop a.toNat).take (b-a).toNat).map dot
 | [],a,b,h,_,_,_=>by cases (show a=b from h);simp
 |p::ps,a,b,⟨h1,h2,f⟩,m,B,k=>by
  have l:=fS f;have c:=k p (by simp);rw[DP,uz f (by lia) B (λq Q=>k q (by simp[Q])),Qx c.1 c.2 (by lia),<- A5];subst h1;have g:(b-p.s).toNat=(p.e-p.s).toNat+(b-p.e).toNat:=by lia
  have j:p.e.toNat=p.s.toNat+(p.e-p.s).toNat:=by (clear B l g;lia)
  rw[g,List.take_add,List.drop_drop,<- j]
theorem M_ {xs:List Int}{m:Nat}{v:Wk}(f:xs.length=m)(S:kI m v)(C:dz xs v)(h:v.pl<0):eI v=xs.map dot:=by
 obtain⟨h1,h2⟩:=S.wh h;have e:v.pl.toNat=0:=by lia
 have c:=S.sh;rw[e]at c;unfold dz at C;rw[e]at C;have hc:=c.ch;rw[h2]at hc;unfold eI;rw[h2];have:=uz (xs:=xs) hc (by lia) (by lia) (λp a=>by
  have a:p∈v.wk:=by simpa using a
  exact⟨c.wk p a,C.1 p a⟩)
 rw[this];rw[show ((m:Int)-0).toNat=xs.length by lia];simp
theorem uy:∀{ps:List Pa} {a b:Int},d4 a ps b->(ps.flatMap λp=>Aw (p.e-p.s).toNat p.sp).length=(b-a).toNat
 | [],a,b,h=>by cases (show a=b from h);simp
 |p::ps,a,b,⟨h1,h2,c⟩=>by
  have l:=fS c;rw[DP,AG,uy c,BJ];lia
theorem tL {m:Nat}{w:Wk}(S:kI m w)(M:m<=100000):w.wk.length<400000/\w.ah.length<400000/\(eI w).length=m/\∀p∈w.wk++w.ah,0<=p.e-p.s/\p.e-p.s<=100000:=by
 have h1:=fS S.sh.ch;rw[AG,B8]at h1;refine⟨by lia,by lia,by unfold eI;rw[uy S.sh.ch];lia,λp h=>?_⟩;have:=iZ S.sh.ch (by simpa using h);lia
theorem jS (m n:Nat):(Wk.turn ⟨n,0,[],[⟨0,0,m,1-2^n,2^n-1⟩],[]⟩).pl=n-1/\(Wk.turn ⟨n,0,[],[⟨0,0,m,1-2^n,2^n-1⟩],[]⟩).re=[]/\(Wk.turn ⟨n,0,[],[⟨0,0,m,1-2^n,2^n-1⟩],[]⟩).us=0/\mu m (Wk.turn ⟨n,0,[],[⟨0,0,m,1-2^n,2^n-1⟩],[]⟩)<=3*m*n:=by
 unfold Wk.turn;split
 .rename_i c;refine⟨rfl,rfl,rfl,?_⟩;have c:(n:Int)-1>=0:=c;obtain⟨k,rfl⟩:∃k,n=k+1:=⟨n-1,by lia⟩
  unfold mu;rw[if_neg (by show ¬ ((k+1:Nat):Int)-1<0;lia)];show 3*m*(((k+1:Nat):Int)-1).toNat+eP [_]<=_
  rw[kq,show (((k+1:Nat):Int)-1).toNat=k by lia];unfold Nn;show 3*m*k+(3*((m:Int)-0).toNat-1)<=3*m*(k+1)
  rw[Js];lia
 .rename_i c;have c:¬ (n:Int)-1>=0:=c;refine⟨rfl,rfl,rfl,?_⟩;unfold mu;rw[if_pos (by show (n:Int)-1<0;lia)];exact Bv _
theorem ur {w v u:Wk}{as bs:List Bool}(h:jN w as v)(h2:jN v bs u):jN w (as++bs) u:=by
 induction h with
 |nil=>exact h2
 |whole h=>
  cases h2 with
  |nil=>exact .whole h
  |whole _=>exact .whole h
  |step f=>lia
 |step h c hf e h1 t a=>exact .step h c hf e h1 (a h2)
theorem pU {m:Nat}(M:0<m)(j:m<400000):∀(bs:List Bool) (w:Wk),kI m w->w.pl<=5000->(w.re.length:Int)+w.pl<800000->
  ∃(v:Wk) (u:Nat),jN w bs v/\kI m v/\u<=bs.length/\v.us=w.us+u/\mu m v+u<=mu m w/\(0<=v.pl->u=bs.length)/\(0<=w.pl->v.pl<0->1<=u)/\v.pl<=w.pl/\(v.re.length:Int)+v.pl<=w.re.length+w.pl/\
   ∀xs:List Int,xs.length=m->dz xs v->dz xs w/\∀ts,sf xs v ts->sf xs w (bs.take u++ts)
 | [],w,S,B,hr=>⟨w,0,.nil,S,Ak _,by simp,by lia,(λ_=>rfl),(λa b=>by lia),Br _,Br _,λxs g C=>⟨C,λts t=>t⟩⟩
 |b :: bs,w,S,B,hr=>by
  by_cases hp:w.pl<0
  .exact ⟨w,0,.whole hp,S,Bv _,by simp,by lia,(λz=>by lia),(λa _=>by lia),Br _,Br _,λxs g C=>⟨C,λts t=>t⟩⟩
  .obtain ⟨k,f⟩:∃k:Nat,w.pl=k:=⟨w.pl.toNat,by lia⟩
   have G:w.pl.toNat=k:=by lia
   obtain⟨ah,p,e⟩:∃ah p,w.ah=ah++[p]:=⟨_,_,(CG (S.ne (by lia))).symm⟩
   have l:MW m k w:=G▸S.sh;have hA:=l.ah p (by rw[e];simp);have h:=iZ (p:=p) l.ch (by rw[e];simp);have hB:=l.yW ah p e;have J:=lM (b:=b) l f e;obtain⟨Q,q2,q3⟩:=uM (w:=w) (ah:=ah) (p:=p) (b:=b);have c:(w.step ah p b).pl=k:=by rw[Q];exact f
   have S2:=jq (by lia) J c;obtain⟨r1,r2,r3,r4⟩:=tP (w:=w.step ah p b);have U:=tQ J c;have O:=qf (b:=b) l e;have hw:mu m w=3*m*k+eP w.ah:=by unfold mu;rw[if_neg hp,G]
   rw[Q]at r3;rw[Q,q3]at r4;obtain⟨v,u,t1,t2,L,n,t5,t6,t7,t8,t9,A⟩:=pU M j bs _ S2 (by (clear M j h r2 U hw;lia)) (by lia);have hf:=wX S j (by lia);have o:p.a=1->b=false->ah≠[]:=λz _=>by
    obtain⟨r,q,er,_⟩:=hB.yW z;rw[er];simp
   refine⟨v,u+1,.step (by lia) B hf e o t1,t2,by rw[Bg];lia,by rw[n,r1,q2];lia,by lia,(λz=>by rw[Bg,t6 z]),(λ_ _=>by lia),by (clear M j h U hw L n t5;lia),by (clear M j h U hw L n t5;lia),λxs g C=>?_⟩;obtain⟨c1,c2⟩:=A xs g C;have C1:wA xs k (w.step ah p b):=by
    have:=(qL (by rw[c];lia) (p7 J)).mp c1;unfold dz at this;rw[c,Bf]at this;exact this
   obtain⟨C0,hb⟩:=(wM f e hA hB (by rw[g];exact h.2.2)).mp C1;refine⟨by unfold dz;rw[G];exact C0,λts t=>?_⟩;have:=c2 ts t;rw[List.take_succ_cons,C7];rw[hb]at this o ⊢;have T:=sf.step (xs:=xs) (w:=w) (ah:=ah) (p:=p) (bs:=bs.take u++ts) (by lia) B hf e ⟨h.1,h.2.1,by rw[g];exact h.2.2⟩ (by rw[f];exact o) (by rw[f];exact this);rw[f]at T;exact T
theorem ng {m:Type}(f:Pa->m):∀{ps:List Pa} {a b:Int} {p:Pa} {i:Int},d4 a ps b->p∈ps->p.s<=i->i<p.e->(ps.flatMap λp=>Aw (p.e-p.s).toNat (f p))[(i-a).toNat]?=some (f p)
 | [],_,_,_,_,_,g,_,_=>by cases g
 |q :: ps,a,b,p,i,h,g,k,j=>by
  obtain⟨h1,h2,l⟩:=h;rw[DP];rcases AB.mp g with rfl |c
  .rw [AZ (by rw[BJ];lia),Dg,if_pos (by lia)]
  .have:=(iZ l c).1;rw[Bk (by rw[BJ];lia),BJ];have:=ng f l c k j;rw[show (i-a).toNat-(q.e-q.s).toNat=(i-q.e).toNat by lia];exact this
theorem ij:∀{ps:List Pa} {a b i:Int},d4 a ps b->a<=i->i<b->∃p∈ps,p.s<=i/\i<p.e
 | [],a,b,i,h,h1,h2=>by cases (show a=b from h);omega
 |q :: ps,a,b,i,h,g,c=>by
  obtain⟨h1,h2,k⟩:=h;by_cases h:i<q.e
  .exact ⟨q,by simp,by lia,h⟩
  .obtain ⟨p,f,j⟩:=ij k (show q.e<=i by lia) c;exact⟨p,by simp[f],j⟩
theorem ZR {m:Nat}{w:Wk}(S:kI m w){i:Nat}(hi:i<m):∃p∈w.wk++w.ah,p.s<=i/\(i:Int)<p.e/\(eI w)[i]?=some p.sp:=by
 obtain⟨p,h,h1,h2⟩:=ij S.sh.ch (show (0:Int)<=i by lia) (by lia);refine⟨p,by simpa using h,h1,h2,?_⟩;have:=ng Pa.sp S.sh.ch h h1 h2;exact this
theorem Np {m:Nat}{w:Wk}(S:kI m w){p:Pa}(g:p∈w.wk++w.ah):p.lo<=p.hi:=by
 have q:∀k:Nat,(0:Int)<2^k:=oJ
 have Q:=q w.pl.toNat;rcases Au.mp g with h |h
 .obtain ⟨f,e,c⟩:=S.sh.wk p h;rcases c with⟨_,_,a,_⟩ | ⟨_,L,l⟩<;>lia
 .obtain ⟨f,e,c⟩:=S.sh.ah p h;rcases c with⟨_,_,a,_⟩ | ⟨_,L,l⟩ | ⟨_,_,L,l⟩<;>lia
theorem YW {m:Nat}{v:Wk}(S:kI m v)(h:v.pl<0):∃xs:List Int,xs.length=m/\dz xs v:=by
 obtain⟨h1,h2⟩:=S.wh h;have k:v.pl.toNat=0:=by lia
 have f:=S.sh;rw[k]at f;have hc:=f.ch;rw[h2,List.reverse_nil,Bi]at hc;have at':∀p∈v.wk,∀i:Nat,p.s<=i->(i:Int)<p.e->(v.wk.flatMap λp=>Aw (p.e-p.s).toNat p.lo).getD i 0=p.lo:=λp c i a b=>by
  have:=ng Pa.lo hc c a b;rw[show ((i:Int)-0).toNat=i by lia]at this;rw[Al,this];rfl
 refine⟨v.wk.flatMap λp=>Aw (p.e-p.s).toNat p.lo,?_,?_⟩
 .have:∀{ps:List Pa} {a b:Int},d4 a ps b->(ps.flatMap λp=>Aw (p.e-p.s).toNat p.lo).length=(b-a).toNat:=by
   intro ps
   induction ps with
   |nil=>intro a b h;cases (show a=b from h);simp
   |cons p ps n=>
    rintro a b ⟨h1,h2,j⟩;have u:=fS j;rw[DP,AG,n j,BJ];lia
  rw[this hc];lia
 .unfold dz wA R8;rw[k,h2];refine⟨λp c=>?_,(λp c=>by cases c),λr q p e=>by simp at e⟩;obtain⟨A,z,g⟩:=f.wk p c;refine⟨λa=>?_,λa i t o=>?_⟩
  .rw [at' p c p.s.toNat (by lia) (by lia)];rcases g with⟨_,_,a,_⟩ | ⟨_,l,L⟩
   .lia
   .lia
  .rw [at' p c i t o];rcases g with⟨B,_⟩ | ⟨_,l,L⟩
   .lia
   .rw [l];decide
theorem Xt {xs:List Int}{n:Nat}(h:dz xs (Wk.turn ⟨n,0,[],[⟨0,0,xs.length,1-2^n,2^n-1⟩],[]⟩)):∀x∈xs,x.natAbs<2^n:=by
 have:=(qa (w:=⟨n,0,[],[⟨0,0,xs.length,1-2^n,2^n-1⟩],[]⟩) (by show 0<=(n:Int);lia) rfl (λp c=>by rw[AM.mp c];exact .inl rfl)).mp h;unfold dz at this;have:=(this.1 _ (AM.mpr rfl)).2 rfl;intro x a;obtain⟨i,hi⟩:=Ef.mp a;have l:=(Ab.mp hi).1;have:=this i (by show (0:Int)<=i;lia) (by show (i:Int)<xs.length;lia);rw[Al,hi]at this;have h2:x.natAbs<2^(n:Int).toNat:=this;rw[Bf]at h2;exact h2
noncomputable def cZ (w:Wk):List (Int×Int):=(w.wk++w.ah.reverse).flatMap λp=>Aw (p.e-p.s).toNat (p.lo,p.hi)
theorem nK {m:Nat}{w:Wk}(S:kI m w){p:Pa}{i:Nat}(h:p∈w.wk++w.ah)(h1:p.s<=i)(h2:(i:Int)<p.e):(cZ w)[i]?=some (p.lo,p.hi):=by
 have:=ng (λp=>(p.lo,p.hi)) S.sh.ch (by simpa using h) h1 h2;rw[show ((i:Int)-0).toNat=i by lia]at this;exact this
theorem i8 {m:Nat}{w:Wk}(S:kI m w):(cZ w).length=m:=by
 have:∀{ps:List Pa} {a b:Int},d4 a ps b->(ps.flatMap λp=>Aw (p.e-p.s).toNat (p.lo,p.hi)).length=(b-a).toNat:=by
  intro ps
  induction ps with
  |nil=>intro a b h;cases (show a=b from h);simp
  |cons p ps f=>
   rintro a b ⟨h1,h2,c⟩;have l:=fS c;rw[DP,AG,f c,BJ];lia
 unfold cZ;rw[this S.sh.ch];lia
structure RX (G:Pa->Prop) (b:Bool):Prop where
 ā:∀k p,p.a=3->R7 (k+1) p->G p->G (p.bJ k b)
 sig:∀k p,p.a=2->R7 (k+1) p->G p->G (p.signed k b)
 w2:∀k q,(q.a=0∨q.a=1)->R7 (k+1) q->G q->G ⟨2,q.s,q.e,q.lo,q.hi⟩
 w0:∀k q,(q.a=0∨q.a=1)->R7 (k+1) q->G q->∀m,q.s<=m->m<=q.e->G ⟨0,m,q.e,q.lo,q.hi⟩/\G ⟨1,q.s,m,q.lo,q.hi⟩
 calm:b=false->∀k q,(q.a=0∨q.a=1)->R7 (k+1) q->G q->G ⟨0,q.s,q.e,1-2^k,2^k-1⟩
def tu (G:Pa->Prop)(w:Wk):Prop:=(∀p∈w.wk,G p)/\∀p∈w.ah,G p
theorem tx {G:Pa->Prop}{b:Bool}(K:RX G b){k:Nat}{w:Wk}{q:Pa}(h:tu G w)(Q:G q)(A:q.a=0∨q.a=1)(f:R7 (k+1) q):tu G (w.wake q):=by
 unfold Wk.wake;split
 .refine ⟨h.1,λp c=>?_⟩;have c:p∈w.ah++[⟨2,q.s,q.e,q.lo,q.hi⟩]:=c;rcases Au.mp c with z |z
  .exact h.2 p z
  .rw [AM.mp z];exact K.w2 k q A f Q
 .refine ⟨h.1,λp c=>?_⟩;have c:p∈w.ah++[⟨0,(q.s+q.e) / 2,q.e,q.lo,q.hi⟩,⟨1,q.s,(q.s+q.e) / 2,q.lo,q.hi⟩]:=c;have l:=f.2.1;obtain⟨g1,g2⟩:=K.w0 k q A f Q ((q.s+q.e) / 2) (by lia) (by lia);rcases Au.mp c with z |z
  .exact h.2 p z
  .rcases AB.mp z with z |z
   .rw [z];exact g1
   .rw [AM.mp z];exact g2
theorem M9 {G:Pa->Prop}{b:Bool}(K:RX G b){m:Int}{k:Nat}{w:Wk}{ah:List Pa}{p:Pa}(S:MW m k w)(O:w.pl=k)(e:w.ah=ah++[p])(h:tu G w):tu G (w.step ah p b):=by
 have o:w.pl.toNat=k:=by lia
 have g:G p:=h.2 p (by rw[e];simp);have f:=S.ah p (by rw[e];simp);have A:∀q∈ah,G q:=λq Q=>h.2 q (by rw[e];simp[Q])
 have J:=S.yW ah p e;unfold Wk.step;split
 .rename_i t;refine⟨λq Q=>?_,A⟩;have Q:q∈w.wk++[p.bJ w.pl.toNat b]:=Q;rcases Au.mp Q with z |z
  .exact h.1 q z
  .rw [AM.mp z,o];exact K.ā k p t f g
 .split
  .rename_i u;refine⟨λq Q=>?_,A⟩;have Q:q∈w.wk++[p.signed w.pl.toNat b]:=Q;rcases Au.mp Q with z |z
   .exact h.1 q z
   .rw [AM.mp z,o];exact K.sig k p u f g
  .rename_i t u;have v:p.a=0∨p.a=1:=by
    rcases f.2.2 with⟨z,_⟩ | ⟨z,_⟩ | ⟨z,_⟩
    .exact absurd z t
    .exact z
    .exact absurd z u
   split
   .exact tx K (k:=k) (w:={w with us:=w.us+1,ah:=ah}) ⟨h.1,A⟩ g v f
   .rename_i B;have B:b=false:=by simpa using B
    have hc:G ⟨0,p.s,p.e,1-2^w.pl.toNat,2^w.pl.toNat-1⟩:=by rw[o];exact K.calm B k p v f g
    have c:∀q∈w.wk++[(⟨0,p.s,p.e,1-2^w.pl.toNat,2^w.pl.toNat-1⟩:Pa)],G q:=λq Q=>by
     rcases Au.mp Q with z |z
     .exact h.1 q z
     .rw [AM.mp z];exact hc
    unfold Wk.calm;split
    .rename_i L;obtain⟨r,q,C,n,_⟩:=J.yW L;have M:q∈ah:=by rw[C];simp
     have l:ah.getLastD p=q:=by rw[C];simp
     show tu G (Wk.wake {w with us:=w.us+1,wk:=w.wk++[_],ah:=ah.dropLast} (ah.getLastD p))
     rw[l];refine tx K (k:=k) ⟨c,λz j=>A z ?_⟩ (A q M) (.inl n) (S.ah q (by rw[e];simp[M]));have j:z∈ah.dropLast:=j;exact List.dropLast_subset ah j
    .exact ⟨c,A⟩
theorem xg {G:Pa->Prop}{w:Wk}(h:tu G w):tu G w.dF:=by
 unfold Wk.dF;split
 .unfold Wk.turn;split
  .refine ⟨(λp a=>by cases a),λp a=>h.1 p ?_⟩;have a:p∈w.wk.reverse:=a;simpa using a
  .exact ⟨h.1,h.2⟩
 .exact h
theorem Rm {G:Pa->Prop}{m:Nat}(M:0<m){w v:Wk}{bs:List Bool}(F:jN w bs v):(∀b∈bs,RX G b)->kI m w->tu G w->tu G v:=by
 induction F with
 |nil=>exact λ_ _ h=>h
 |whole _=>exact λ_ _ h=>h
 | @step w v ah p b bs h o hf e h1 t g=>
  intro K S j;obtain⟨k,a⟩:∃k:Nat,w.pl=k:=⟨w.pl.toNat,by lia⟩
  have l:w.pl.toNat=k:=by lia
  have f:MW m k w:=l▸S.sh;have n:=jq (m:=m) (by lia) (lM (b:=b) f a e) (by rw[uM.1];exact a);exact g (λc hc=>K c (by simp[hc])) n (xg (M9 (K b (by simp)) f a e j))
noncomputable def ZX (p:Pa):Int:=if p.lo > 0 then p.hi else p.lo
noncomputable def Ũ (p:Pa):Int:=if p.lo > 0 then p.lo else p.hi
theorem qp (p:Pa)(k:Nat)(b:Bool):(p.signed k b).s=p.s/\(p.signed k b).e=p.e/\(p.signed k b).a=3:=by
 unfold Pa.signed;split<;>exact⟨rfl,rfl,rfl⟩
theorem rT (p:Pa)(k:Nat)(b:Bool):(p.bJ k b).s=p.s/\(p.bJ k b).e=p.e/\(p.bJ k b).a=3:=by
 unfold Pa.bJ;split<;>exact⟨rfl,rfl,rfl⟩
theorem Yv (c:Nat->Int):RX (λp=>∀i:Nat,p.s<=i->(i:Int)<p.e->ZX p=c i) true where
 ā := λk p a3 hs h i h1 h2=>by
  obtain⟨f1,f2,_⟩:=rT p k true;rw[f1]at h1;rw[f2]at h2;rw[<- h i h1 h2];have hp:=oJ k;by_cases hl:p.lo > 0
  .have e:p.bJ k true=⟨3,p.s,p.e,p.lo+2^k,p.hi⟩:=by
    unfold Pa.bJ;rw[if_pos (by simp[hl])]
   rw[e];unfold ZX;rw[if_pos (by show p.lo+2^k > 0;lia),if_pos hl]
  .have e:p.bJ k true=⟨3,p.s,p.e,p.lo,p.hi-2^k⟩:=by
    unfold Pa.bJ;rw[if_neg (by simp[hl])]
   rw[e];unfold ZX;rw[if_neg (by exact hl),if_neg hl]
 sig := λk p a2 hs h i h1 h2=>by
  obtain⟨f1,f2,_⟩:=qp p k true;rw[f1]at h1;rw[f2]at h2;rw[<- h i h1 h2];have hp:=oJ k;rcases hs.2.2 with⟨z,_⟩ | ⟨z,_⟩ | ⟨_,_,l1,l2⟩
  .lia
  .lia
  .unfold ZX Pa.signed;rw[if_pos rfl];show (if 1-2^k-2^k > (0:Int) then _ else (1-2^k-2^k:Int))=_
   have ZT:=qU k;rw[if_neg (by lia),if_neg (by lia),l1];lia
 w2:=λk q _ _ h=>h
 w0:=λk q _ _ h m h1 h2=>⟨λi a b=>h i (by have a:m<=i:=a;lia) b,λi a b=>h i a (by have b:(i:Int)<m:=b;lia)⟩
 calm:=λz=>by cases z
theorem Tq (L U:Nat->Int)(b:Bool):RX (λp=>∀i:Nat,p.s<=i->(i:Int)<p.e->L i<=p.lo/\p.hi<=U i) b where
 ā := λk p a3 hs h i h1 h2=>by
  obtain⟨f1,f2,f3⟩:=rT p k b;rw[f1]at h1;rw[f2]at h2;obtain⟨g1,g2⟩:=h i h1 h2;rcases hs.2.2 with⟨_,_,hk⟩ | ⟨z,_⟩ | ⟨z,_⟩
  .have:=(yz.bJ (b:=b) hk).2;exact⟨by lia,by lia⟩
  .lia
  .lia
 sig := λk p a2 hs h i h1 h2=>by
  obtain⟨f1,f2,f3⟩:=qp p k b;rw[f1]at h1;rw[f2]at h2;obtain⟨g1,g2⟩:=h i h1 h2;have hp:=oJ k;have ZT:=qU k;rcases hs.2.2 with⟨z,_⟩ | ⟨z,_⟩ | ⟨_,_,l1,l2⟩
  .lia
  .lia
  .unfold Pa.signed;cases b
   .rw [if_neg (by decide)];exact⟨by show L i<=2^k;lia,by show (2^k+2^k-1:Int)<=U i;lia⟩
   .rw [if_pos rfl];exact⟨by show L i<=1-2^k-2^k;lia,by show (-2^k:Int)<=U i;lia⟩
 w2:=λk q _ _ h=>h
 w0:=λk q _ _ h m h1 h2=>⟨λi a b=>h i (by have a:m<=i:=a;lia) b,λi a b=>h i a (by have b:(i:Int)<m:=b;lia)⟩
 calm:=λ_ k q ha hs h i h1 h2=>by
  obtain⟨g1,g2⟩:=h i h1 h2;have hp:=oJ k;have ZT:=qU k;rcases hs.2.2 with⟨z,_⟩ | ⟨_,l1,l2⟩ | ⟨z,_⟩
  .lia
  .exact ⟨by show L i<=1-2^k;lia,by show (2^k-1:Int)<=U i;lia⟩
  .lia
theorem jv {w v a:Wk}{bs:List Bool}(h:jN w bs v)(h2:jN w bs a):v=a:=by
 induction h with
 |nil=>cases h2;rfl
 |whole h=>
  cases h2 with
  |whole _=>rfl
  |step f=>lia
 |step h j hf e h1 t c=>
  cases h2 with
  |whole f=>lia
  |step _ _ _ e' _ t'=>
   rw[e]at e';obtain⟨rfl,g⟩:=ET e' rfl;cases g;exact c t'
noncomputable def Q1 (x:Int)(k:Nat):Int×Int:=
 if (x.natAbs:Int) / 2^k*2^k=0 then (1-2^k,2^k-1) else if x<0 then (1-(x.natAbs:Int) / 2^k*2^k-2^k,0-(x.natAbs:Int) / 2^k*2^k) else ((x.natAbs:Int) / 2^k*2^k,(x.natAbs:Int) / 2^k*2^k+2^k-1)
theorem Wp {x lo hi:Int}{k:Nat}(e:yz k lo hi)(h1:lo<=x)(h2:x<=hi):Q1 x k=(lo,hi):=by
 obtain⟨hw,h⟩:=e;have a:=oJ k;rcases h with⟨q,h,rfl⟩ | ⟨q,h,rfl⟩
 .have c:(x.natAbs:Int)=x:=by
   have:0<=q*2^k:=Fq (by lia) (by lia);lia
  have hd:(x.natAbs:Int) / 2^k=q:=by
   rw[c];exact ((HG (r:=x-q*2^k) a).mpr ⟨by rw[Er (2^k) q];lia,by lia,by lia⟩).1
  have p:0<q*2^k:=HF h a;unfold Q1;rw[hd,if_neg (by omega),if_neg (by lia)];rw[show q*2^k+2^k-1=hi by lia]
 .have p:0<q*2^k:=HF h a;have c:(x.natAbs:Int) = -x:=by omega
  have hd:(x.natAbs:Int) / 2^k=q:=by
   rw[c];exact ((HG (r:=-x-q*2^k) a).mpr ⟨by rw[Er (2^k) q];lia,by lia,by lia⟩).1
  unfold Q1;rw[hd,if_neg (by omega),if_pos (by omega)];rw[show 1-q*2^k-2^k=lo by lia,show 0-q*2^k = -(q*2^k) by lia]
theorem nest {m:Nat}(M:0<m){a b:Wk}{bs:List Bool}(F:jN a bs b)(A:kI m a)(B:kI m b){i:Nat}(hi:i<m):∃s t,(cZ a)[i]?=some s/\(cZ b)[i]?=some t/\s.1<=t.1/\t.1<=t.2/\t.2<=s.2:=by
 obtain⟨p,g,u,o⟩:=ij A.sh.ch (show (0:Int)<=i by lia) (by lia);obtain⟨q,h,f,Q⟩:=ij B.sh.ch (show (0:Int)<=i by lia) (by lia);have g:p∈a.wk++a.ah:=by simpa using g
 have h:q∈b.wk++b.ah:=by simpa using h
 have k:=nK A g u o;have L:=nK B h f Q;have G:tu (λr=>∀j:Nat,r.s<=j->(j:Int)<r.e->(λj=>((cZ a).getD j (0,0)).1) j<=r.lo/\r.hi<=(λj=>((cZ a).getD j (0,0)).2) j) a:=by
  have key:∀r∈a.wk++a.ah,∀j:Nat,r.s<=j->(j:Int)<r.e->(λj=>((cZ a).getD j (0,0)).1) j<=r.lo/\r.hi<=(λj=>((cZ a).getD j (0,0)).2) j:=λr C j v J=>by
   have:=nK A C v J;dsimp only;rw[Al,this];exact⟨Br _,Br _⟩
  exact⟨λq h=>key q (by simp[h]),λq h=>key q (by simp[h])⟩
 have l:=Rm M F (λc _=>Tq _ _ c) A G;have n:(λj=>((cZ a).getD j (0,0)).1) i<=q.lo/\q.hi<=(λj=>((cZ a).getD j (0,0)).2) i:=by
  rcases Au.mp h with z |z
  .exact l.1 q z i f Q
  .exact l.2 q z i f Q
 dsimp only at n;rw[Al,k]at n;exact⟨_,_,k,L,n.1,Np B h,n.2⟩
theorem TR {m:Nat}(h:0<m)(M:m<400000){w v:Wk}{bs:List Bool}(F:jN w bs v)(S:kI m w)(q:w.pl<=5000)(r:(w.re.length:Int)+w.pl<800000)(h0:w.us=0){c:Nat}(hc:c<=bs.length):
  ∃u,jN w (bs.take c) u/\kI m u/\jN u (bs.drop c) v/\kI m v/\u.us=min (c:Int) v.us/\decide (u.pl<0)=(decide (v.pl<0) && decide (v.us<=(c:Int)))/\u.pl<=w.pl/\(u.re.length:Int)+u.pl<=w.re.length+w.pl:=by
 obtain⟨u,k,o,n,l,T,A,g,a7,Q,O,U⟩:=pU h M (bs.take c) w S q r;obtain⟨v2,k2,j,J,f,G,B,b6,C,b8,t,L⟩:=pU h M (bs.drop c) u n (by lia) (by lia);have p:=ur o j;rw[B4]at p;have e:=jv F p;subst e;rw[Bp,BX hc]at l g;have a:u.pl<0->k2=0:=λz=>by
  have:mu m u=0:=by unfold mu;rw[if_pos z]
  lia
 refine⟨u,o,n,j,J,?_,?_,Q,O⟩
 .by_cases z:u.pl<0
  .have:=a z;(clear h M hc A f B;lia)
  .have:=g (by lia);(clear h M hc A f B;lia)
 .rw [<- Bool.decide_and];refine decide_eq_decide.mpr ⟨λz=>?_,λz=>?_⟩
  .have:=a z;exact⟨by (clear h M hc l T A f G B t this;lia),by (clear h M hc A f B;lia)⟩
  .by_cases y:u.pl<0
   .exact y
   .have:=g (by omega);have:=C (by omega) z.1;clear h M hc A f B;lia
theorem RB {m:Nat}(h:0<m)(M:m<400000){w u v:Wk}{bs:List Bool}{c d:Nat}(C:c<=d)(F:jN w (bs.take c) u)(S:kI m u)(f:u.pl<=5000)(r:(u.re.length:Int)+u.pl<800000)(g:jN w (bs.take d) v):jN u ((bs.take d).drop c) v:=by
 obtain⟨j,k2,B,_⟩:=pU h M ((bs.take d).drop c) u S f r;have a:=ur F B;have e:bs.take c++(bs.take d).drop c=bs.take d:=by
  have:=B4 c (bs.take d);rw[HS,BX C]at this;exact this
 rw[e]at a;rw[jv g a];exact B
noncomputable abbrev j6:AW:=top 65
theorem uS:aN ["some"] ["some"] (aA j6):=by walk_at "S"
def mr:c_:=λds P=>∃xs:List Int,ds=[.lst (xs.map .int)]/\0<xs.length/\xs.length<=1000000/\∀M:Nat,(∃x∈xs,i6 x=M)->(∀x∈xs,i6 x<=M)->P (.fz (.int M))
theorem vq {f:Ac}{fd:Ag}(n:bG K mg "planes_of" j6 f fd)(B:bT mg)(KV:bQ K)(h:bO P w K mg base "heights_of" 1 ["some"] (bL K 1 ir)):
  bO P w K mg base "planes_of" 2 ["some"] (bL K 1 mr):=by
 refine cE.of n uS (by walk_at "b") rfl (λc A o s H E r=>⟨_,_,(aF (aP (aM (gw rfl) (by rfl) B.max Gr (ae (aQ h (r.mono (by decide)) (by rfl) (ae (pv 0) ay)) ay)))),
  (aY (aW (bt k8 (aB (aH (bB (aT (aw aC aG)))) aI)))),?_⟩)
 rintro ds p ⟨xs,rfl,a,g,k⟩;fin2;refine⟨xs,rfl,g,?_⟩;fin2;refine⟨xs.map λx=>(i6 x:Int),by simp only[A8,BF,OV.val],by simpa using a,λM j l=>?_⟩;obtain⟨x,m,rfl⟩:=A7.mp j;refine k (i6 x) ⟨x,m,rfl⟩ λy e=>?_
 have:=l (i6 y) (A7.mpr ⟨y,e,rfl⟩);lia
noncomputable def t_ (t m s:Int):Int:=if t-s<0 then t+s else t-s
noncomputable def tZ (t m s:Int):Int:=if m<=t+s then t-s else t+s
noncomputable abbrev ji:AW:=top 30
theorem iw:aN ["at","many","stride","left","right"] ["at","many","stride"] (aA ji):=by walk_at "S"
def fF:c_:=λds P=>match ds with
 | [.int t,.int m,.int s]=>if t-s<0/\m<=t+s then P (.fz .cn) else P (.fz (.tup [.int (t_ t m s),.int (tZ t m s)]))
 |_=>False
theorem sE {f:Ac}{fd:Ag}(a:bG K mg "neighbours" ji f fd)(B:bT mg)(KV:bQ K):
  bO P w K mg base "neighbours" 1 ["at","many","stride"] (bL K 3 fF):=by
 refine cE.of a iw (by walk_at "b") rfl (λc A o s H E r=>⟨_,_,(aD (a5 (i:=3) iw.nd rfl (Ap rfl) (aX dt (pv 0) (pv 2)))
   (aD (a5 (i:=4) iw.nd rfl (Ap rfl) (aX cT (pv 0) (pv 2)))
   (aD (bN (qO (bp kx (pv 3) aE (be _)) (mM (bp QC (pv 4) (pv 1) (be _)))).pt (aF (aP fg)) br)
   (aD (bN (bp kx (pv 3) aE (be _)) (aF (aP (bH (ae (pv 4) (ae (pv 4) ay))))) br)
   (aD (bN (bp QC (pv 4) (pv 1) (be _)) (aF (aP (bH (ae (pv 3) (ae (pv 3) ay))))) br)
   (aF (aP (bH (ae (pv 3) (ae (pv 4) ay)))))))))),
  (aK (aZ (aW (aJ b9 ax ax)))
   (aK (aZ (aW (aJ b9 ax ax)))
   (aK (bS (qF (bh (aJ c0 ax (aH az))) (bh (aJ c0 ax ax))) (aY (aW fZ)) bo)
   (aK (bS (bh (aJ c0 ax (aH az))) (aY (aW (bX (aw aC (aw aC aG))))) bo)
   (aK (bS (bh (aJ c0 ax ax)) (aY (aW (bX (aw aC (aw aC aG))))) bo)
   (aY (aW (bX (aw aC (aw aC aG)))))))))),?_⟩)
 intro ds e h;unfold fF at h;split at h
 .rename_i t m s';fin2;unfold t_ tZ at h;by_cases h1:t-s'<0<;>by_cases h2:m<=t+s'<;>simpa[h1,h2] using h
 .exact h.elim
theorem xW (xs:List Int)(t p:Nat)(v:Int)(h:t<xs.length):(xs.set t v).getD p 0=if p=t then v else xs.getD p 0:=by
 rw[Al,Al,Fp];by_cases e:p=t
 .subst e;rw[if_pos rfl,if_pos rfl,if_pos h];rfl
 .rw [if_neg (λz=>e z.symm),if_neg e]
theorem x8 {F:Nat->List Int->Int}(S:Nat->Prop)(n:Nat)(c:∀t xs ys,xs.length=n->ys.length=n->S t->t<n->(∀p,p=t∨¬ S p->xs.getD p 0=ys.getD p 0)->F t xs=F t ys):
  ∀(ts:List Nat) (xs:List Int),xs.length=n->ts.Nodup->(∀t∈ts,S t/\t<n)->
   (ts.foldl (λxs t=>xs.set t (F t xs)) xs).length=n/\∀p,(ts.foldl (λxs t=>xs.set t (F t xs)) xs).getD p 0=if p∈ts then F p xs else xs.getD p 0
 | [],xs,hl,_,_=>⟨hl,λp=>by simp⟩
 |t :: ts,xs,hl,f,a=>by
  obtain⟨j,g⟩:=AD.mp f;obtain⟨st,lt⟩:=a t AF;obtain⟨m,k⟩:=x8 S n c ts (xs.set t (F t xs)) (by rw[BD];exact hl) g λu U=>a u (Aj _ U)
  refine⟨m,λp=>?_⟩;rw[Ce,k p];by_cases h:p∈ts
  .rw [if_pos h,if_pos (Aj _ h)];obtain⟨sp,l⟩:=a p (Aj _ h);refine c p _ _ (by rw[BD];exact hl) hl sp l λq Q=>?_
   rw[xW _ _ _ _ (by lia),if_neg];rintro rfl;rcases Q with rfl |Q
   .exact j h
   .exact Q st
  .rw [if_neg h,xW _ _ _ _ (by lia)];by_cases e:p=t
   .subst e;rw[if_pos rfl,if_pos AF]
   .rw [if_neg e,if_neg];intro z;rcases AB.mp z with z |z
    .exact e z
    .exact h z
structure Lf where
 h:Int
 l:Int
 r:Int
 a:Int
 s:Int
structure Lf.Ok (f:Lf):Prop where
 h:f.h=0∨f.h=1
 l : -8<=f.l/\f.l<=8
 r : -8<=f.r/\f.r<=8
 a : -64<=f.a/\f.a<=64
 s:0<=f.s/\f.s<=8
noncomputable def lE (f:Lf)(x y:Int):Int:=(f.l*x+f.r*y+f.a) / 2^f.s.toNat
noncomputable def yc (h n st:Int):Nat:=(if h*st<n then (n-h*st-1) / (2*st)+1 else 0).toNat
theorem v8 {h n st:Int}(c:0<st)(i:Nat):i<yc h n st↔h*st+(i:Int)*(2*st)<n:=by
 unfold yc;have h2:0<2*st:=by lia
 have f:0<=(i:Int)*(2*st):=Fq (by lia) (by lia);split
 .have e:=E3 (a:=(i:Int)) (b:=n-h*st-1) h2;constructor
  .intro z;lia
  .intro z;lia
 .lia
noncomputable def cO (h n st:Int):List Int:=if n<=st then [] else (Ax (yc h n st)).map λ(i:Nat)=>h*st+(i:Int)*(2*st)
theorem fc {h n st t:Int}(a:0<st):t∈cO h n st↔¬ n<=st/\t<n/\∃i:Nat,t=h*st+(i:Int)*(2*st):=by
 unfold cO;split
 .rename_i hn;constructor
  .intro z;cases z
  .intro z;exact absurd hn z.1
 .rename_i hn;rw[A7];constructor
  .rintro ⟨i,hi,rfl⟩;exact⟨hn,(v8 a i).mp (Bz.mp hi),i,rfl⟩
  .rintro ⟨_,h1,i,rfl⟩;exact⟨i,Bz.mpr ((v8 a i).mpr h1),rfl⟩
theorem tX {h n st:Int}(a:0<st):(cO h n st).Nodup:=by
 unfold cO;split
 .exact CP
 .refine JJ _ (λi j J=>?_) List.nodup_range;intro e;have:(i:Int)*(2*st)=(j:Int)*(2*st):=by lia
  have:=Int.eq_of_mul_eq_mul_right (by lia) this;lia
theorem oM {h n st t:Int}(c:0<st)(a:h=0∨h=1)(ht:t∈cO h n st):(0<=t/\t<n)/\(0<=t_ t n st/\t_ t n st<n)/\(0<=tZ t n st/\tZ t n st<n)/\¬ (t-st<0/\n<=t+st):=by
 obtain⟨h1,h2,i,rfl⟩:=(fc c).mp ht;have hi:0<=(i:Int)*(2*st):=Fq (by lia) (by lia);have e:0<=h*st:=by rcases a with rfl |rfl<;>lia
 have key:h*st+(i:Int)*(2*st)-st<0->h*st+(i:Int)*(2*st)=0:=by
  intro z;rcases Nat.eq_zero_or_pos i with rfl |p
  .rcases a with rfl |rfl
   .simp
   .simp at z ⊢<;>omega
  .have:1*(2*st)<=(i:Int)*(2*st):=BE (by lia) (by lia);lia
 generalize h*st+(i:Int)*(2*st)=t at *;unfold t_ tZ;refine⟨⟨by lia,h2⟩,?_,?_,λz=>?_⟩
 .split<;>rename_i z
  .have:=key z;lia
  .lia
 .split
  .by_cases z:t-st<0
   .have:=key z;omega
   .lia
  .lia
 .have:=key z.1;lia
theorem n9 {h n st t u:Int}(c:0<st)(ht:∃i:Nat,t=h*st+(i:Int)*(2*st))(U:u=t_ t n st∨u=tZ t n st):¬ ∃j:Nat,u=h*st+(j:Int)*(2*st):=by
 rintro⟨j,J⟩;obtain⟨i,hi⟩:=ht;have key:∀d:Int,d=1∨d = -1->¬ (t+d*st=h*st+(j:Int)*(2*st)):=by
  intro d hd e;have f:((j:Int)-i)*(2*st)=d*st:=by rw[JY];lia
  have a:(((j:Int)-i)*2-d)*st=0:=by rw[JY,DH];omega
  rcases Int.mul_eq_zero.mp a with z |z
  .rcases hd with rfl |rfl<;>lia
  .lia
 have k1:=key 1 (.inl rfl);have k2:=key (-1) (.inr rfl);unfold t_ tZ at U;rcases U with rfl |rfl
 .split at J
  .exact k1 (by lia)
  .exact k2 (by lia)
 .split at J
  .exact k2 (by lia)
  .exact k1 (by lia)
noncomputable def ip (sg:Int)(f:Lf)(st:Int)(xs:List Int)(t:Int):Int:=
 xs.getD t.toNat 0+sg*lE f (xs.getD (t_ t xs.length st).toNat 0) (xs.getD (tZ t xs.length st).toNat 0)
noncomputable def oA (sg:Int)(f:Lf)(st:Int)(xs:List Int)(t:Int):List Int:=xs.set t.toNat (ip sg f st xs t)
noncomputable def iU (sg:Int)(f:Lf)(st:Int)(xs:List Int):List Int:=(cO f.h xs.length st).foldl (oA sg f st) xs
theorem uq (sg:Int)(f:Lf)(st:Int):∀(ts:List Int) (xs:List Int),(∀t∈ts,0<=t)->ts.foldl (oA sg f st) xs=(ts.map IF).foldl (λxs t=>xs.set t (ip sg f st xs (t:Int))) xs
 | [],_,_=>rfl
 |t::ts,xs,h=>by
  rw[B7,Ce,Ce,uq sg f st ts _ λu U=>h u (Aj _ U)];have:=h t AF;unfold oA;rw[show ((t.toNat:Nat):Int)=t by lia]
theorem Mv {sg:Int}{f:Lf}{st:Int}{xs:List Int}(c:0<st)(l:f.h=0∨f.h=1)(k:Nat):
  (((cO f.h xs.length st).take k).foldl (oA sg f st) xs).length=xs.length/\
  ∀p:Nat,(((cO f.h xs.length st).take k).foldl (oA sg f st) xs).getD p 0=if (p:Int)∈(cO f.h xs.length st).take k then ip sg f st xs p else xs.getD p 0:=by
 by_cases hn:(xs.length:Int)<=st
 .have e:cO f.h xs.length st=[]:=if_pos hn;rw[e];exact⟨by simp,λp=>by simp⟩
 have n:∀t∈(cO f.h xs.length st).take k,0<=t/\t<xs.length/\t∈cO f.h xs.length st:=λt ht=>by
  have m:=Ex ht;have:=(oM c l m).1;exact⟨this.1,this.2,m⟩
 rw[uq sg f st _ xs λt ht=>(n t ht).1];have o:(((cO f.h xs.length st).take k).map IF).Nodup:=by
  rw[Be,EE];refine DX (R:=λa b=>a≠b) (λ{a b} v B A e=>A ?_) ((tX c).sublist (FN _ _));have:=(n a v).1;have:=(n b B).1;lia
 obtain⟨j,G⟩:=x8 (F:=λt ys=>ip sg f st ys (t:Int)) (λp=>∃i:Nat,(p:Int)=f.h*st+(i:Int)*(2*st)) xs.length (λt ys O r q ht L g=>by
   unfold ip;have m:(t:Int)∈cO f.h xs.length st:=(fc c).mpr ⟨hn,by (clear hn;lia),ht⟩;obtain⟨_,T,Q,_⟩:=oM c l m;rw[r,q];have M:=g (t_ t xs.length st).toNat (.inr λz=>n9 c ht (.inl rfl) (by rw[show (((t_ (t:Int) xs.length st).toNat:Nat):Int)=t_ t xs.length st by omega]at z;exact z));have J:=g (tZ t xs.length st).toNat (.inr λz=>n9 c ht (.inr rfl) (by rw[show (((tZ (t:Int) xs.length st).toNat:Nat):Int)=tZ t xs.length st by omega]at z;exact z));rw[M,J,g _ (.inl (by lia))]) _ xs rfl o (λt ht=>by
   obtain⟨u,U,rfl⟩:=A7.mp ht;obtain⟨h1,h2,C⟩:=n u U;obtain⟨_,_,i,hi⟩:=(fc c).mp C;exact⟨⟨i,by lia⟩,by lia⟩)
 refine⟨j,λp=>?_⟩;rw[G p];have:p∈((cO f.h xs.length st).take k).map IF↔(p:Int)∈(cO f.h xs.length st).take k:=by
  constructor
  .intro z;obtain⟨u,U,e⟩:=A7.mp z;have:=(n u U).1;rw[show (p:Int)=u by (clear c hn j;lia)];exact U
  .intro z;exact A7.mpr ⟨_,z,by (clear c hn j;lia)⟩
 by_cases g:(p:Int)∈(cO f.h xs.length st).take k
 .rw [if_pos g,if_pos (this.mpr g)]
 .rw [if_neg g,if_neg λz=>g (this.mp z)]
theorem mX {sg:Int}{f:Lf}{st:Int}{xs:List Int}(a:0<st)(c:f.h=0∨f.h=1):
  (iU sg f st xs).length=xs.length/\∀p:Nat,(iU sg f st xs).getD p 0=if (p:Int)∈cO f.h xs.length st then ip sg f st xs p else xs.getD p 0:=by
 have h:=Mv (sg:=sg) (xs:=xs) a c (cO f.h xs.length st).length;rw[BU]at h;exact h
theorem Rn {xs ys:List Int}(hl:xs.length=ys.length)(h:∀p:Nat,xs.getD p 0=ys.getD p 0):xs=ys:=by
 refine Ip hl λi h1 h2=>?_
 have:=h i;rw[Al,Al,Ah h1,Ah h2]at this;exact this
theorem NG {sg:Int}{f:Lf}{st:Int}{xs:List Int}(a:0<st)(e:f.h=0∨f.h=1):iU (-sg) f st (iU sg f st xs)=xs:=by
 obtain⟨l,g1⟩:=mX a e;obtain⟨L,g2⟩:=mX (sg:=-sg) (xs:=iU sg f st xs) a e;refine Rn (L.trans l) λp=>?_
 rw[g2 p,l];by_cases c:(p:Int)∈cO f.h xs.length st
 .rw [if_pos c];unfold ip;obtain⟨j,g,B,_⟩:=oM a e c;obtain⟨_,_,i,hi⟩:=(fc a).mp c;have O:¬ t_ (p:Int) xs.length st∈cO f.h xs.length st:=λz=>n9 a ⟨i,hi⟩ (.inl rfl) ((fc a).mp z).2.2
  have o:¬ tZ (p:Int) xs.length st∈cO f.h xs.length st:=λz=>n9 a ⟨i,hi⟩ (.inr rfl) ((fc a).mp z).2.2
  rw[l,g1,g1,g1];rw[show (((p:Int).toNat:Nat):Int)=p by (clear l L;lia),if_pos c,show (((t_ (p:Int) xs.length st).toNat:Nat):Int)=t_ p xs.length st by (clear l L hi;lia),if_neg O,show (((tZ (p:Int) xs.length st).toNat:Nat):Int)=tZ p xs.length st by (clear l L hi;lia),if_neg o];unfold ip;rw[FO,show ((p:Int).toNat)=p by (clear l L;lia)];lia
 .rw [if_neg c,g1 p,if_neg c]
noncomputable def cc (fs:List Lf)(st:Int)(xs:List Int):List Int:=fs.foldl (λxs f=>iU 1 f st xs) xs
noncomputable def iJ (fs:List Lf)(st:Int)(xs:List Int):List Int:=fs.reverse.foldl (λxs f=>iU (-1) f st xs) xs
theorem tU {st:Int}(a:0<st):∀{fs:List Lf} (xs:List Int),(∀f∈fs,f.h=0∨f.h=1)->(cc fs st xs).length=xs.length
 | [],_,_=>rfl
 |f::fs,xs,h=>by
  unfold cc;exact (tU a (iU 1 f st xs) λg hg=>h g (Aj _ hg)).trans (mX a (h f AF)).1
theorem oQ {st:Int}(c:0<st):∀{fs:List Lf} (xs:List Int),(∀f∈fs,f.h=0∨f.h=1)->iJ fs st (cc fs st xs)=xs
 | [],_,_=>rfl
 |f::fs,xs,h=>by
  have a:=oQ c (iU 1 f st xs) λg hg=>h g (Aj _ hg)
  unfold iJ cc at a ⊢;rw[Ce,Fo,DN,a];exact NG c (h f AF)
section GL
variable {α β:Type}
theorem NP (z:α)(xs:List α)(t p:Nat)(v:α)(h:t<xs.length):(xs.set t v).getD p z=if p=t then v else xs.getD p z:=by
 rw[Al,Al,Fp];by_cases e:p=t
 .subst e;rw[if_pos rfl,if_pos rfl,if_pos h];rfl
 .rw [if_neg (λz=>e z.symm),if_neg e]
theorem NS (z:α){xs ys:List α}(hl:xs.length=ys.length)(h:∀p:Nat,p<xs.length->xs.getD p z=ys.getD p z):xs=ys:=by
 refine Ip hl λi h1 h2=>?_
 have:=h i h1;rw[Al,Al,Ah h1,Ah h2]at this;exact this
noncomputable def ju (z:α)(G:α->α->α->α)(st:Int)(xs:List α)(t:Int):α:=G (xs.getD t.toNat z) (xs.getD (t_ t xs.length st).toNat z) (xs.getD (tZ t xs.length st).toNat z)
noncomputable def oU (z:α)(G:α->α->α->α)(st:Int)(xs:List α)(t:Int):List α:=xs.set t.toNat (ju z G st xs t)
noncomputable def ig (z:α)(G:α->α->α->α)(h st:Int)(xs:List α):List α:=(cO h xs.length st).foldl (oU z G st) xs
theorem uj {z:α}{G:α->α->α->α}{st:Int}:∀(ts:List Int) (xs:List α),(ts.foldl (oU z G st) xs).length=xs.length
 | [],_=>rfl
 |t::ts,xs=>by
  rw[Ce,uj ts];exact BD
theorem WQ {z:α}{G:α->α->α->α}{h st:Int}{xs:List α}(a:0<st)(j:h=0∨h=1):∀(k:Nat),
  (((cO h xs.length st).take k).foldl (oU z G st) xs).length=xs.length/\
  ∀p:Nat,(((cO h xs.length st).take k).foldl (oU z G st) xs).getD p z=if (p:Int)∈(cO h xs.length st).take k then ju z G st xs p else xs.getD p z
 | 0=>⟨rfl,λp=>rfl⟩
 |k + 1 => by
  obtain⟨l,g1⟩:=WQ a j k;by_cases g:k<(cO h xs.length st).length
  .rw [Bo g,DN];have m:(cO h xs.length st)[k]∈cO h xs.length st:=GU g;generalize ht:(cO h xs.length st)[k]=t at m ⊢;obtain⟨A,v,B,_⟩:=oM a j m;obtain⟨_,_,i,hi⟩:=(fc a).mp m;have O:¬ t_ t xs.length st∈(cO h xs.length st).take k:=λz=>n9 a ⟨i,hi⟩ (.inl rfl) ((fc a).mp (Ex z)).2.2
   have o:¬ tZ t xs.length st∈(cO h xs.length st).take k:=λz=>n9 a ⟨i,hi⟩ (.inr rfl) ((fc a).mp (Ex z)).2.2
   have r:¬ t∈(cO h xs.length st).take k:=λz=>by
    obtain⟨q,Q,eq⟩:=Hs.mp z;rw[Bp]at Q;rw[List.getElem_take]at eq;have n:=List.pairwise_iff_getElem.mp (tX a) q k (by (clear l hi eq;lia)) g (by (clear l hi eq;lia));exact n (by rw[eq,ht])
   generalize ((cO h xs.length st).take k).foldl (oU z G st) xs=c at l g1;have u:ju z G st c t=ju z G st xs t:=by
    unfold ju;rw[l,g1,g1,g1,show ((t.toNat:Nat):Int)=t by (clear ht l;lia),if_neg r,show (((t_ t xs.length st).toNat:Nat):Int)=t_ t xs.length st by (clear ht hi l;lia),if_neg O,show (((tZ t xs.length st).toNat:Nat):Int)=tZ t xs.length st by (clear ht hi l;lia),if_neg o]
   refine⟨by rw[Ce];show (c.set _ _).length=_;rw[BD];exact l,λp=>?_⟩;show (c.set t.toNat (ju z G st c t)).getD p z=_
   rw[NP z c t.toNat p _ (by (clear ht;lia)),u,g1 p];by_cases e:p=t.toNat
   .have e':(p:Int)=t:=by (clear ht l;lia)
    rw[if_pos e,if_pos (by rw[e'];simp),e']
   .rw [if_neg e];have:((p:Int)∈(cO h xs.length st).take k++[t])↔(p:Int)∈(cO h xs.length st).take k:=by
     rw[Au,AM];constructor
     .rintro (q |q)
      .exact q
      .clear ht l;lia
     .exact .inl
    by_cases f:(p:Int)∈(cO h xs.length st).take k
    .rw [if_pos f,if_pos (this.mpr f)]
    .rw [if_neg f,if_neg λq=>f (this.mp q)]
  .rw [BW (by lia)];rw[BW (by lia)]at l g1;exact⟨l,g1⟩
theorem Ri {z:α}{G:α->α->α->α}{h st:Int}{xs:List α}(a:0<st)(c:h=0∨h=1):
  (ig z G h st xs).length=xs.length/\∀p:Nat,(ig z G h st xs).getD p z=if (p:Int)∈cO h xs.length st then ju z G st xs p else xs.getD p z:=by
 have q:=WQ (z:=z) (G:=G) (xs:=xs) a c (cO h xs.length st).length;rw[BU]at q;exact q
theorem YQ {R:α->β->Prop}{z:α}{y:β}{G:α->α->α->α}{G':β->β->β->β}{h st:Int}{xs:List α}{ys:List β}(e:0<st)(g:h=0∨h=1)(hl:xs.length=ys.length)
  (f:∀p:Nat,p<xs.length->R (xs.getD p z) (ys.getD p y)) (k:∀a b c A B C,R a A->R b B->R c C->R (G a b c) (G' A B C)):
  ∀p:Nat,p<xs.length->R ((ig z G h st xs).getD p z) ((ig y G' h st ys).getD p y):=by
 intro p j;obtain⟨_,g1⟩:=Ri e g;obtain⟨_,g2⟩:=Ri e g;rw[g1,g2,<- hl];by_cases m:(p:Int)∈cO h xs.length st
 .rw [if_pos m,if_pos m];obtain⟨o,n,l,_⟩:=oM e g m;unfold ju;rw[<- hl];exact k _ _ _ _ _ _ (f _ (by lia)) (f _ (by (clear e l;lia))) (f _ (by (clear e;lia)))
 .rw [if_neg m,if_neg m];exact f p j
noncomputable def fL (z:α)(G:Lf->α->α->α->α)(fs:List Lf)(i:Nat)(st:Int)(xs:List α):List α:=(fs.reverse.take i).foldl (λxs f=>ig z (G f) f.h st xs) xs
noncomputable def dR (z:α)(G:Lf->α->α->α->α)(fs:List Lf)(st:Int)(xs:List α):List α:=fs.reverse.foldl (λxs f=>ig z (G f) f.h st xs) xs
theorem vX {z:α}{G:Lf->α->α->α->α}{fs:List Lf}{st:Int}{xs:List α}:fL z G fs 0 st xs=xs:=rfl
theorem xZ {z:α}{G:Lf->α->α->α->α}{fs:List Lf}{st:Int}{xs:List α}:fL z G fs fs.length st xs=dR z G fs st xs:=by
 unfold fL dR;rw[BW (by simp)]
theorem vY {z:α}{G:Lf->α->α->α->α}{fs:List Lf}{i:Nat}{st:Int}{xs:List α}{f:Lf}(hi:i<fs.length)(h:fs[fs.length-1-i]?=some f):fL z G fs (i+1) st xs=ig z (G f) f.h st (fL z G fs i st xs):=by
 unfold fL;have a:i<fs.reverse.length:=by simpa using hi
 have e:fs.reverse[i]=f:=by
  have:=Cn hi;rw[h,Ah a]at this;exact AV this
 rw[Bo a,e,DN];rfl
theorem iV {z:α}{G:α->α->α->α}{h st:Int}{xs:List α}:(ig z G h st xs).length=xs.length:=uj _ _
theorem iW {z:α}{G:Lf->α->α->α->α}{st:Int}:∀(a:List Lf) (xs:List α),(a.foldl (λxs f=>ig z (G f) f.h st xs) xs).length=xs.length
 | [],_=>rfl
 |g::a,xs=>by rw[Ce,iW a,iV]
theorem xY {z:α}{G:Lf->α->α->α->α}{fs:List Lf}{i:Nat}{st:Int}{xs:List α}:(fL z G fs i st xs).length=xs.length:=iW _ _
theorem zY {z:α}{G:Lf->α->α->α->α}{fs:List Lf}{st:Int}{xs:List α}:(dR z G fs st xs).length=xs.length:=iW _ _
theorem uk {R:α->β->Prop}{z:α}{y:β}{G:Lf->α->α->α->α}{G':Lf->β->β->β->β}{st:Int}(k:0<st):∀(e:List Lf) (xs:List α) (ys:List β),(∀f∈e,f.Ok)->xs.length=ys.length->
  (∀p:Nat,p<xs.length->R (xs.getD p z) (ys.getD p y))->(∀f:Lf,f.Ok->∀a b c A B C,R a A->R b B->R c C->R (G f a b c) (G' f A B C))->
  ∀p:Nat,p<xs.length->R ((e.foldl (λxs f=>ig z (G f) f.h st xs) xs).getD p z) ((e.foldl (λys f=>ig y (G' f) f.h st ys) ys).getD p y)
 | [],xs,ys,_,_,j,_=>j
 |f::e,xs,ys,ok,hl,j,l=>λp m=>by
  rw[Ce,Ce];have o:=ok f AF;refine uk k e _ _ (λg hg=>ok g (Aj _ hg)) (by rw[iV,iV,hl]) (λq Q=>?_) l p (by rw[iV];exact m);rw[iV]at Q;exact YQ k o.h hl j (l f o) q Q
theorem rS {R:α->β->Prop}{z:α}{y:β}{G:Lf->α->α->α->α}{G':Lf->β->β->β->β}{fs:List Lf}{st:Int}{xs:List α}{ys:List β}(h:0<st)(ok:∀f∈fs,f.Ok)(hl:xs.length=ys.length)
  (e:∀p:Nat,p<xs.length->R (xs.getD p z) (ys.getD p y)) (g:∀f:Lf,f.Ok->∀a b c A B C,R a A->R b B->R c C->R (G f a b c) (G' f A B C)):
  ∀p:Nat,p<xs.length->R ((dR z G fs st xs).getD p z) ((dR y G' fs st ys).getD p y):=
 uk h fs.reverse xs ys (λf hf=>ok f (DD.mp hf)) hl e g
end GL
abbrev fm:=Int×Int
noncomputable def jD (f:Lf)(l r:fm):fm:=
 let t (s:fm) (m:Int):fm:=if m<0 then (s.2*m,s.1*m) else (s.1*m,s.2*m)
 (((t l f.l).1+(t r f.r).1+f.a) / 2^f.s.toNat,((t l f.l).2+(t r f.r).2+f.a) / 2^f.s.toNat)
noncomputable def df (f:Lf)(x l r:fm):fm:=(x.1-(jD f l r).2,x.2-(jD f l r).1)
theorem ro {a b m:Int}(h:a<=b)(M:0<=m):a*m<=b*m:=BE h M
theorem rq {a b m:Int}(h:a<=b)(M:m<0):b*m<=a*m:=Int.mul_le_mul_of_nonpos_right h (by lia)
theorem Qm (n:Nat):(0:Int)<2^n:=HE (by decide)
theorem rV {a b:Int}(n:Nat)(h:a<=b):a / 2^n<=b / 2^n:=Int.ediv_le_ediv (Qm n) h
theorem PK {f:Lf}{l r L a:fm}(hl:l.1<=L.1/\L.1<=L.2/\L.2<=l.2)(c:r.1<=a.1/\a.1<=a.2/\a.2<=r.2):
  (jD f l r).1<=(jD f L a).1/\(jD f L a).1<=(jD f L a).2/\(jD f L a).2<=(jD f l r).2:=by
 have key:∀(m:Int) (s s':fm),s.1<=s'.1/\s'.1<=s'.2/\s'.2<=s.2->(if m<0 then (s.2*m,s.1*m) else (s.1*m,s.2*m)).1<=(if m<0 then (s'.2*m,s'.1*m) else (s'.1*m,s'.2*m)).1/\
   (if m<0 then (s'.2*m,s'.1*m) else (s'.1*m,s'.2*m)).1<=(if m<0 then (s'.2*m,s'.1*m) else (s'.1*m,s'.2*m)).2/\(if m<0 then (s'.2*m,s'.1*m) else (s'.1*m,s'.2*m)).2<=(if m<0 then (s.2*m,s.1*m) else (s.1*m,s.2*m)).2:=by
  rintro m s s' ⟨h1,h2,e⟩;by_cases h:m<0
  .simp only[h];exact⟨rq e h,rq h2 h,rq h1 h⟩
  .simp only[h];exact⟨ro h1 (by lia),ro h2 (by lia),ro e (by lia)⟩
 obtain⟨j,n,A⟩:=key f.l l L hl;obtain⟨g,k,B⟩:=key f.r r a c;unfold jD;dsimp only;exact⟨rV _ (by lia),rV _ (by (clear hl c j A g B;lia)),rV _ (by lia)⟩
def Q9 (s s':fm):Prop:=s.1<=s'.1/\s'.1<=s'.2/\s'.2<=s.2
theorem PZ {f:Lf}{a b c A B C:fm}(e:Q9 a A)(h:Q9 b B)(hc:Q9 c C):Q9 (df f a b c) (df f A B C):=by
 obtain⟨g1,g2,g3⟩:=PK (f:=f) h hc;unfold Q9 at e ⊢;unfold df;exact⟨by dsimp only;lia,by dsimp only;lia,by dsimp only;lia⟩
theorem Nh {f:Lf}{x l r:Int}:df f (x,x) (l,l) (r,r)=(x+(-1)*lE f l r,x+(-1)*lE f l r):=by
 unfold df jD lE;have e:∀m y:Int,(if m<0 then (y*m,y*m) else (y*m,y*m))=(m*y,m*y):=λm y=>by
  rw[Er y m];split<;>rfl
 dsimp only;rw[e,e];simp only[Lv];lia
theorem pJ {lo hi c:Int}(hc:0<c)(i:Nat):i<d5 lo hi c↔lo+(i:Int)*c<hi:=by
 unfold d5 AT;rw[if_pos (show c > 0 from hc)];have h:0<=(i:Int)*c:=Fq (by lia) (by lia);split
 .have e:=E3 (a:=(i:Int)) (b:=hi-lo-1) hc;have f:0<=(hi-lo-1) / c:=Gx (by lia) (by lia);constructor
  .intro z;have:=e.mp (by omega);lia
  .intro z;have:=e.mpr (by lia);lia
 .simp only[Int.toNat_zero];lia
theorem mU {a b:Nat}(h:∀i,i<a↔i<b):a=b:=by
 rcases Nat.lt_trichotomy a b with z |z |z
 .exact absurd ((h a).mpr z) (B3 _)
 .exact z
 .exact absurd ((h b).mp z) (B3 _)
section PT
variable {α:Type}
end PT
theorem vT {n:Nat}{i:Int}(a:0<=i)(h:i<n):sT n i=some i.toNat:=by
 unfold sT;rw[if_pos a,if_pos h]
theorem pY {a:Type}(z:a){g:a->D}{xs:List a}{i:Int}(c:0<=i)(h:i<xs.length):hQ (xs.map g) i=some (g (xs.getD i.toNat z)):=by
 have hi:i.toNat<xs.length:=by lia
 have e:=d3 (xs:=xs.map g) (j:=i.toNat) (v:=g (xs.getD i.toNat z)) (by simp[hi])
 rwa[show ((i.toNat:Nat):Int)=i by lia]at e
theorem uJ {a:Type}{xs:List a}{g:a->D}:Bu OV.val (xs.map λx=>OV.fz (g x))=xs.map g:=by
 rw[A8];rfl
theorem TC {a:Type}{xs:List a}{g:a->D}:(xs.map g).map OV.fz=xs.map λx=>OV.fz (g x):=by
 rw[A8];rfl
theorem O_ {a c:Type}{xs:List a}{i:Nat}{v:a}{g:a->c}:(xs.map g).set i (g v)=(xs.set i v).map g:=by
 rw[Ju]
theorem SO {h n st:Int}(a:0<st):d5 (h*st) n (2*st)=yc h n st:=by
 unfold d5 yc AT;rw[if_pos (show 2*st > 0 by lia)]
noncomputable def xp (h n st:Int)(k:Nat):List Int:=if n<=st then [] else (Ax k).map λ(i:Nat)=>h*st+(i:Int)*(2*st)
noncomputable def ZQ (n st:Int)(t:Int):D:=.tup [.int t,.int (t_ t n st),.int (tZ t n st)]
noncomputable abbrev fV:AW:=top 31
theorem ew:aN ["half","many","stride","found","at","pair"] ["half","many","stride"] (aA fV):=by walk_at "S"
def cW:c_:=λds P=>match ds with
 | [.int h,.int n,.int st]=>((h=0∨h=1)/\0<st/\st<=64/\0<=n/\n<=100000)/\P (.nl ((cO h n st).map λt=>.fz (ZQ n st t)))
 |_=>False
theorem n6 {f:Ac}{fd:Ag}(v:bG K mg "lifted_places" fV f fd)(B:bT mg)(KV:bQ K)(g:bO P w K mg base "neighbours" 1 ["at","many","stride"] (bL K 3 fF)):
  bO P w K mg base "lifted_places" 2 ["half","many","stride"] (bL K 3 cW):=by
 refine cE.of v ew (by walk_at "b") rfl (λc A o s H E r=>⟨_,_,(aD (a5 (i:=3) ew.nd rfl (Ap rfl) (cC ay))
   (aD (dy AO rfl (iS (by rfl) (by exact B.range) (ae (aX eL (pv 0) (pv 2)) (ae (pv 1) (ae (aX eL aE (pv 2)) ay)))) (bf (i:=4) ew.nd rfl (Ap rfl)) (aD (a5 (i:=5) ew.nd rfl (Ap rfl) (aQ g (r.mono (by decide)) (by rfl) (ae (pv 4) (ae (pv 1) (ae (pv 2) ay)))))
   (aF (bN (bp pO (pv 5) fg (be _)) (aF (bP (fo Bb PySem.F.slot_list_append PySem.F.type_list_append cM (pv 3) (ae (bH (ae (pv 4) (ae (aO aS (pv 5) aE (λ_ _=>rfl)) (ae (aO aS (pv 5) aE (λ_ _=>rfl)) ay)))) ay)))) br))))
   (aF (aP (pv 3))))),
  (aK (aZ (c9 cB))
   (aK (dw (mL (aB (aH (aJ cj ax ax)) (aB ax (aB (aH (aJ cj (aH az) ax)) aI)))) bj (aK (aZ (aW (bB (aT (aw aC (aw aC (aw aC aG)))))))
   (bS (bh (aJ vG ax (aH fZ))) (nS (aW (bX (aw aC (aw (bC aR aC az) (aw (bC aR aC az) aG)))))) bo)))
   e_)),?_⟩)
 intro ds T h;unfold cW at h;split at h
 .rename_i h' n st;obtain⟨⟨m,l,G,M,J⟩,k⟩:=h;fin2;refine⟨.inr ⟨by lia,by lia⟩,⟨by rcases m with rfl |rfl<;>lia,by rcases m with rfl |rfl<;>lia,by lia,by lia,by lia,by lia⟩,?_⟩;rw[SO l];refine⟨λi δ=>i<=yc h' n st/\∃p O,δ=[vI h',vI n,vI st,vL ((xp h' n st i).map λt=>.fz (ZQ n st t)),p,O],⟨Bv _,_,_,by unfold xp;split<;>rfl⟩,?_,?_⟩
  .rintro i d δ hd ⟨q,p,O,rfl⟩;obtain⟨hi,rfl⟩:=eJ hd;have L:=(v8 (h:=h') (n:=n) l i).mp hi;have C:yc h' n st<=100001:=by
    rcases EL 100001 (yc h' n st) with z |z
    .have:=(v8 (h:=h') (n:=n) l 100001).mp z;have u:0<=h'*st:=by rcases m with rfl |rfl<;>lia
     lia
    .exact z
   fin2;unfold fF;generalize ht:h'*st+(i:Int)*(2*st)=t at *
   try dsimp only
   split
   .rename_i hn;fin2;have a:n<=st:=by
     rcases Int.lt_or_le st n with z |z
     .exact absurd hn (oM l m ((fc l).mpr ⟨by lia,L,i,ht.symm⟩)).2.2.2
     .exact z
    have e:∀j,xp h' n st j=[]:=λj=>if_pos a
    rw[e,e];exact⟨hi,_,_,rfl⟩
   .rename_i hn;fin2;have a:¬ n<=st:=λz=>hn (by
     have u:0<=(i:Int)*(2*st):=Fq (by lia) (by lia);have h1:0<=h'*st:=by rcases m with rfl |rfl<;>lia
     constructor<;>omega)
    have Q:(xp h' n st i).length=i:=by unfold xp;rw[if_neg a];simp
    have e:xp h' n st (i+1)=xp h' n st i++[t]:=by
     unfold xp;rw[if_neg a,if_neg a,EN,A5,<- ht];rfl
    rw[e,A5];exact⟨by lia,hi,_,_,rfl⟩
  .rintro δ ⟨_,p,O,rfl⟩;fin2;rw[eC];exact k
 .exact h.elim
noncomputable def wB (f:Lf):D:=.tup [.int f.h,.int f.l,.int f.r,.int f.a,.int f.s]
noncomputable abbrev zd:AW:=top 32
theorem Sw:aN ["lift","left","right"] ["lift","left","right"] (aA zd):=by walk_at "S"
def LR:c_:=λds P=>∃(f:Lf) (x y:Int),ds=[wB f,.int x,.int y]/\f.Ok/\P (.fz (.int (lE f x y)))
theorem S_ {f:Ac}{fd:Ag}(e:bG K mg "gain" zd f fd)(B:bT mg)(KV:bQ K)(g:∃t,mg "SHIFT"=some (.int 4 t))(a:∃t,mg "ADD"=some (.int 3 t))(L:∃t,mg "LEFT"=some (.int 1 t))(G:∃t,mg "RIGHT"=some (.int 2 t)):
  bO P w K mg base "gain" 1 ["lift","left","right"] (bL K 3 LR):=by
 refine cE.of e Sw (by walk_at "b") rfl (λc A o s H E j=>⟨_,_,(aF (aP (aX qV (aX cT (aX cT (aX eL (aO aS (pv 0) (aV (by rfl) L) (λ_ _=>rfl)) (pv 1)) (aX eL (aO aS (pv 0) (aV (by rfl) G) (λ_ _=>rfl)) (pv 2))) (aO aS (pv 0) (aV (by rfl) a) (λ_ _=>rfl))) (aO aS (pv 0) (aV (by rfl) g) (λ_ _=>rfl))))),
  (aY (aW (aJ cj (aH (aJ b9 (aH (aJ b9 (aH (aJ cj (a_ (cQ.b aR) ax (aH az)) ax)) (aH (aJ cj (a_ (cQ.b aR) ax (aH az)) ax)))) (a_ (cQ.b aR) ax (aH az)))) (a_ (cQ.b aR) ax (aH az))))),?_⟩)
 rintro ds m ⟨f,x,y,rfl,ok,k⟩;have h1:=ok.l;have h2:=ok.r;have h:=ok.s;simp only[wB];fin2;exact⟨mulL (by lia) (by lia),mulL (by lia) (by lia),h.1,k⟩
noncomputable def d8 (fs:List Lf):D:=.tup (fs.map wB)
noncomputable def iL (xs:List Int):D:=.lst (xs.map D.int)
noncomputable def iO (xs:List Int):OV:=.nl (xs.map λx=>.fz (.int x))
theorem zl {st:Int}{xs:List Int}{fs:List Lf}{i:Nat}{f:Lf}(h:fs[i]?=some f):cc (fs.take (i+1)) st xs=iU 1 f st (cc (fs.take i) st xs):=by
 obtain⟨hi,e⟩:=Ab.mp h;rw[Bo hi,e];unfold cc;rw[DN];rfl
noncomputable abbrev qC:AW:=top 33
theorem gs:aN ["row","ladder","stride","things","lift","at","left","right"] ["row","ladder","stride"] (aA qC):=by walk_at "S"
def fv:c_:=λds P=>∃(xs:List Int) (fs:List Lf) (st:Int),ds=[iL xs,d8 fs,.int st]/\((∀f∈fs,f.Ok)/\0<st/\st<=64/\xs.length<=100000)/\P (iO (cc fs st xs))
theorem Nt {f:Ac}{fd:Ag}(Df:bG K mg "raised" qC f fd)(B:bT mg)(KV:bQ K)(L:∃t,mg "HALF"=some (.int 0 t))(l:bO P w K mg base "lifted_places" 2 ["half","many","stride"] (bL K 3 cW))(a:bO P w K mg base "gain" 1 ["lift","left","right"] (bL K 3 LR)):
  bO P w K mg base "raised" 3 ["row","ladder","stride"] (bL K 3 fv):=by
 refine cE.of Df gs (by walk_at "b") rfl (λc A o s H E hr=>⟨_,_,(aD (a5 (i:=3) gs.nd rfl (Ap rfl) (kU l8 (by rfl) B.list Bs (ae (pv 0) ay)))
   (aD (dy AO rfl (Qn (pv 1)) (bf (i:=4) gs.nd rfl (Ap rfl)) (aF (dy AO rfl (cF (aQ l (hr.mono (by decide)) (by rfl) (ae (aO aS (pv 4) (aV (by rfl) L) (λ_ _=>rfl)) (ae (aM aU (by rfl) B.len AS (ae (pv 0) ay)) (ae (pv 2) ay))))) (nV (n:=3) rfl (dh (bf (i:=5) gs.nd rfl (Ap rfl)) (dh (bf (i:=6) gs.nd rfl (Ap rfl)) (dh (bf (i:=7) gs.nd rfl (Ap rfl)) kT)))) (aF (SS (pv 3) (pv 5) NO (aQ a (hr.mono (by decide)) (by rfl) (ae (pv 4) (ae (aO ba (pv 3) (pv 6) (λ_ _=>rfl)) (ae (aO ba (pv 3) (pv 7) (λ_ _=>rfl)) ay)))) Q8 jZ)))))
   (aF (aP (pv 3))))),
  (aK (aZ (xb wm (aw aC aG)))
   (aK (dw (PH aC) bj (dw (cL (bB (aT (aw (bC aR aC az) (aw (bt bV (aB ax aI)) (aw aC aG)))))) (nU (de bj (de bj (de bj kS)))) (Sz ax (aH (bB (cR (aB ax (aB (a_ (cQ.b bD) ax ax) (aB (a_ (cQ.b bD) ax ax) aI)))))))))
   e_)),?_⟩)
 rintro ds Pr ⟨xs,fs,st,rfl,⟨p,C,s1,hx⟩,k⟩;simp only[iL,d8];fin2;refine⟨λi δ=>∃G v r q,δ=[vD (iL xs),vD (d8 fs),vI st,some (.own (iO (cc (fs.take i) st xs))),G,v,r,q],⟨none,none,none,none,by simp[iL,d8,iO,cc]⟩,?_,?_⟩
 .rintro i d δ hd ⟨G,v,r,q,rfl⟩;obtain⟨f,hf,rfl⟩:=mV hd;have O:=p f (An hf);have m:(cc (fs.take i) st xs).length=xs.length:=tU C xs λg hg=>(p g (Ex hg)).h
  dsimp only;rw[zl hf];generalize hc:cc (fs.take i) st xs=u at m;simp only[iL,d8,iO,wB];fin2;simp only[cW];refine⟨⟨O.h,C,s1,by lia,by lia⟩,?_⟩;fin2;simp only[A8,BF,OV.val];rw[<- m];refine⟨λj δ=>∃v r q,δ=[vD (iL xs),vD (d8 fs),vI st,some (.own (iO (((cO f.h u.length st).take j).foldl (oA 1 f st) u))),vD (wB f),v,r,q],⟨_,_,_,rfl⟩,?_,?_⟩
  .rintro j e δ he ⟨p2,p3,p4,rfl⟩;obtain⟨t,ht,rfl⟩:=mV he;have M:t∈cO f.h u.length st:=An ht;obtain⟨Q,J⟩:=Ab.mp ht;obtain⟨b0,b1,b2,_⟩:=oM C O.h M;have z:=(Mv (sg:=1) (f:=f) (st:=st) (xs:=u) C O.h j).1;have T:(cO f.h u.length st).take (j+1)=(cO f.h u.length st).take j++[t]:=by
    rw[Bo Q,J]
   dsimp only;rw[T,DN];generalize hw:((cO f.h u.length st).take j).foldl (oA 1 f st) u=U at z;simp only[iL,d8,iO,ZQ,wB];fin2;refine⟨b0.1,_,Tw b0.1 (by lia),_,nu b1.1 (by lia),_,nu b2.1 (by lia),f,_,_,rfl,O,?_⟩;fin2;simp only[Ce,IP,oA,ip,z,Jw];exact⟨_,_,_,rfl⟩
  .rintro δ ⟨p2,p3,p4,rfl⟩;rw[Ay,BU];exact⟨_,_,_,_,rfl⟩
 .rintro δ ⟨G,v,r,q,rfl⟩;fin2;rw[BU];exact k
noncomputable def c4 (s:fm):D:=.tup [.int s.1,.int s.2]
noncomputable def sL (xs:List fm):D:=.lst (xs.map c4)
noncomputable def sO (xs:List fm):OV:=.nl (xs.map λs=>.fz (c4 s))
theorem pQ {xs:List fm}:OV.hI (xs.map λs=>OV.fz (c4 s))=true:=by
 rw[OV.gZ];simp[OV.lf,D.lf,D.hI,c4]
theorem zN {s:fm}:(c4 s).lf=true:=by simp[D.lf,D.hI,c4]
noncomputable abbrev zb:AW:=top 11
theorem Sv:aN ["one","other"] ["one","other"] (aA zb):=by walk_at "S"
def LP:c_:=λds P=>∃a b:fm,ds=[c4 a,c4 b]/\P (.fz (c4 (a.1+b.1,a.2+b.2)))
theorem S8 {f:Ac}{fd:Ag}(e:bG K mg "plus" zb f fd)(B:bT mg)(KV:bQ K):
  bO P w K mg base "plus" 1 ["one","other"] (bL K 2 LP):=by
 refine cE.of e Sv (by walk_at "b") rfl (λc A o s H E h=>⟨_,_,(aF (aP (bH (ae (aX cT (aO aS (pv 0) aE (λ_ _=>rfl)) (aO aS (pv 1) aE (λ_ _=>rfl))) (ae (aX cT (aO aS (pv 0) aE (λ_ _=>rfl)) (aO aS (pv 1) aE (λ_ _=>rfl))) ay))))),
  (aY (aW (bX (aw (aJ b9 (a_ (cQ.b aR) ax (aH az)) (a_ (cQ.b aR) ax (aH az))) (aw (aJ b9 (a_ (cQ.b aR) ax (aH az)) (a_ (cQ.b aR) ax (aH az))) aG))))),?_⟩)
 rintro ds r ⟨a,b,rfl,k⟩;simp only[c4]at k ⊢;fin2;exact k
noncomputable abbrev u6:AW:=top 12
theorem Pc:aN ["one","other"] ["one","other"] (aA u6):=by walk_at "S"
def wR:c_:=λds P=>∃a b:fm,ds=[c4 a,c4 b]/\P (.fz (c4 (a.1-b.2,a.2-b.1)))
theorem QG {f:Ac}{fd:Ag}(e:bG K mg "minus" u6 f fd)(B:bT mg)(KV:bQ K):
  bO P w K mg base "minus" 1 ["one","other"] (bL K 2 wR):=by
 refine cE.of e Pc (by walk_at "b") rfl (λc A o s H E h=>⟨_,_,(aF (aP (bH (ae (aX dt (aO aS (pv 0) aE (λ_ _=>rfl)) (aO aS (pv 1) aE (λ_ _=>rfl))) (ae (aX dt (aO aS (pv 0) aE (λ_ _=>rfl)) (aO aS (pv 1) aE (λ_ _=>rfl))) ay))))),
  (aY (aW (bX (aw (aJ b9 (a_ (cQ.b aR) ax (aH az)) (a_ (cQ.b aR) ax (aH az))) (aw (aJ b9 (a_ (cQ.b aR) ax (aH az)) (a_ (cQ.b aR) ax (aH az))) aG))))),?_⟩)
 rintro ds r ⟨a,b,rfl,k⟩;simp only[c4]at k ⊢;fin2;exact k
noncomputable def Ui (s:fm)(m:Int):fm:=if m<0 then (s.2*m,s.1*m) else (s.1*m,s.2*m)
noncomputable abbrev u5:AW:=top 13
theorem Pb:aN ["one","many"] ["one","many"] (aA u5):=by walk_at "S"
def wQ:c_:=λds P=>∃(a:fm) (m:Int),ds=[c4 a,.int m]/\(-1000000<=m/\m<=1000000)/\P (.fz (c4 (Ui a m)))
theorem QF {f:Ac}{fd:Ag}(e:bG K mg "times" u5 f fd)(B:bT mg)(KV:bQ K):
  bO P w K mg base "times" 1 ["one","many"] (bL K 2 wQ):=by
 refine cE.of e Pb (by walk_at "b") rfl (λc A o s H E r=>⟨_,_,(aD (bN (bp kx (pv 1) aE (be _)) (aF (aP (bH (ae (aX eL (aO aS (pv 0) aE (λ_ _=>rfl)) (pv 1)) (ae (aX eL (aO aS (pv 0) aE (λ_ _=>rfl)) (pv 1)) ay))))) br)
   (aF (aP (bH (ae (aX eL (aO aS (pv 0) aE (λ_ _=>rfl)) (pv 1)) (ae (aX eL (aO aS (pv 0) aE (λ_ _=>rfl)) (pv 1)) ay)))))),
  (aK (bS (bh (aJ c0 ax (aH az))) (aY (aW (bX (aw (aJ cj (a_ (cQ.b aR) ax (aH az)) ax) (aw (aJ cj (a_ (cQ.b aR) ax (aH az)) ax) aG))))) bo)
   (aY (aW (bX (aw (aJ cj (a_ (cQ.b aR) ax (aH az)) ax) (aw (aJ cj (a_ (cQ.b aR) ax (aH az)) ax) aG)))))),?_⟩)
 rintro ds g ⟨a,m,rfl,M,k⟩;simp only[c4,Ui]at k ⊢;fin2;split
 .rename_i h;rw[if_pos h]at k;exact⟨mulR M.1 M.2,mulR M.1 M.2,k⟩
 .rename_i h;rw[if_neg h]at k;exact⟨mulR M.1 M.2,mulR M.1 M.2,k⟩
noncomputable abbrev qD:AW:=top 14
theorem Nd:aN ["one","shift"] ["one","shift"] (aA qD):=by walk_at "S"
def tI:c_:=λds P=>∃(a:fm) (m:Int),ds=[c4 a,.int m]/\0<=m/\P (.fz (c4 (a.1 / 2^m.toNat,a.2 / 2^m.toNat)))
theorem Nw {f:Ac}{fd:Ag}(e:bG K mg "halved" qD f fd)(B:bT mg)(KV:bQ K):
  bO P w K mg base "halved" 1 ["one","shift"] (bL K 2 tI):=by
 refine cE.of e Nd (by walk_at "b") rfl (λc A o s H E r=>⟨_,_,(aF (aP (bH (ae (aX qV (aO aS (pv 0) aE (λ_ _=>rfl)) (pv 1)) (ae (aX qV (aO aS (pv 0) aE (λ_ _=>rfl)) (pv 1)) ay))))),
  (aY (aW (bX (aw (aJ cj (a_ (cQ.b aR) ax (aH az)) ax) (aw (aJ cj (a_ (cQ.b aR) ax (aH az)) ax) aG))))),?_⟩)
 rintro ds g ⟨a,m,rfl,h,k⟩;simp only[c4]at k ⊢;fin2;exact⟨h,h,k⟩
theorem PL {f:Lf}{l r:fm}:jD f l r=(((Ui l f.l).1+(Ui r f.r).1+f.a) / 2^f.s.toNat,((Ui l f.l).2+(Ui r f.r).2+f.a) / 2^f.s.toNat):=rfl
noncomputable abbrev kb:AW:=top 35
theorem mF:aN ["lift","left","right","both"] ["lift","left","right"] (aA kb):=by walk_at "S"
def mB:c_:=λds P=>∃(f:Lf) (l r:fm),ds=[wB f,c4 l,c4 r]/\f.Ok/\P (.fz (c4 (jD f l r)))
theorem vz {f:Ac}{fd:Ag}(q:bG K mg "gain_span" kb f fd)(B:bT mg)(KV:bQ K)(g:∃t,mg "SHIFT"=some (.int 4 t))(L:∃t,mg "LEFT"=some (.int 1 t))(G:∃t,mg "RIGHT"=some (.int 2 t))(e:∃t,mg "ADD"=some (.int 3 t))(p:bO P w K mg base "plus" 1 ["one","other"] (bL K 2 LP))(m:bO P w K mg base "times" 1 ["one","many"] (bL K 2 wQ))(h:bO P w K mg base "halved" 1 ["one","shift"] (bL K 2 tI)):
  bO P w K mg base "gain_span" 2 ["lift","left","right"] (bL K 3 mB):=by
 refine cE.of q mF (by walk_at "b") rfl (λc A o s H E j=>⟨_,_,(aD (a5 (i:=3) mF.nd rfl (Ap rfl) (aQ p (j.mono (by decide)) (by rfl) (ae (aQ m (j.mono (by decide)) (by rfl) (ae (pv 1) (ae (aO aS (pv 0) (aV (by rfl) L) (λ_ _=>rfl)) ay))) (ae (aQ m (j.mono (by decide)) (by rfl) (ae (pv 2) (ae (aO aS (pv 0) (aV (by rfl) G) (λ_ _=>rfl)) ay))) ay))))
   (aF (aP (aQ h (j.mono (by decide)) (by rfl) (ae (aQ p (j.mono (by decide)) (by rfl) (ae (pv 3) (ae (bH (ae (aO aS (pv 0) (aV (by rfl) e) (λ_ _=>rfl)) (ae (aO aS (pv 0) (aV (by rfl) e) (λ_ _=>rfl)) ay))) ay))) (ae (aO aS (pv 0) (aV (by rfl) g) (λ_ _=>rfl)) ay)))))),
  (aK (aZ (aW (bB (aT (aw (bB (aT (aw aC (aw (bC aR aC az) aG)))) (aw (bB (aT (aw aC (aw (bC aR aC az) aG)))) aG))))))
   (aY (aT (aw (bB (aT (aw aC (aw (bX (aw (bC aR aC az) (aw (bC aR aC az) aG))) aG)))) (aw (bC aR aC az) aG))))),?_⟩)
 rintro ds u ⟨f,l,r,rfl,ok,k⟩;have h1:=ok.l;have h2:=ok.r;have n:=ok.s;simp only[wB];fin2;refine⟨l,f.l,rfl,⟨by lia,by lia⟩,r,f.r,rfl,⟨by lia,by lia⟩,Ui l f.l,Ui r f.r,rfl,?_⟩;fin2;refine⟨_,(f.a,f.a),rfl,_,f.s,rfl,n.1,?_⟩;rw[PL]at k;exact k
noncomputable abbrev fU:AW:=top 36
theorem cX:aN ["row","ladder","stride","things","lift","at","left","right"] ["row","ladder","stride"] (aA fU):=by walk_at "S"
def cV:c_:=λds P=>∃(xs:List fm) (fs:List Lf) (st:Int),ds=[sL xs,d8 fs,.int st]/\((∀f∈fs,f.Ok)/\0<st/\st<=64/\xs.length<=100000)/\P (sO (dR (0,0) df fs st xs))
theorem n0 {f:Ac}{fd:Ag}(Df:bG K mg "lowered_spans" fU f fd)(B:bT mg)(KV:bQ K)(p:∃t,mg "HALF"=some (.int 0 t))(l:bO P w K mg base "lifted_places" 2 ["half","many","stride"] (bL K 3 cW))(C:bO P w K mg base "minus" 1 ["one","other"] (bL K 2 wR))(a:bO P w K mg base "gain_span" 2 ["lift","left","right"] (bL K 3 mB)):
  bO P w K mg base "lowered_spans" 3 ["row","ladder","stride"] (bL K 3 cV):=by
 refine cE.of Df cX (by walk_at "b") rfl (λc A o s H E hr=>⟨_,_,(aD (a5 (i:=3) cX.nd rfl (Ap rfl) (kU l8 (by rfl) B.list Bs (ae (pv 0) ay)))
   (aD (dy AO rfl (xt rfl B.reversed (ae (pv 1) ay)) (bf (i:=4) cX.nd rfl (Ap rfl)) (aF (dy AO rfl (cF (aQ l (hr.mono (by decide)) (by rfl) (ae (aO aS (pv 4) (aV (by rfl) p) (λ_ _=>rfl)) (ae (aM aU (by rfl) B.len AS (ae (pv 0) ay)) (ae (pv 2) ay))))) (nV (n:=3) rfl (dh (bf (i:=5) cX.nd rfl (Ap rfl)) (dh (bf (i:=6) cX.nd rfl (Ap rfl)) (dh (bf (i:=7) cX.nd rfl (Ap rfl)) kT)))) (aF (vj (aQ C (hr.mono (by decide)) (by rfl) (ae (aO ba (pv 3) (pv 5) (λ_ _=>rfl)) (ae (aQ a (hr.mono (by decide)) (by rfl) (ae (pv 4) (ae (aO ba (pv 3) (pv 6) (λ_ _=>rfl)) (ae (aO ba (pv 3) (pv 7) (λ_ _=>rfl)) ay)))) ay))) (vm (pv 3) (pv 5) jZ))))))
   (aF (aP (pv 3))))),
  (aK (aZ (xb wm (aw aC aG)))
   (aK (dw (VJ (aw aC aG)) bj (dw (cL (bB (aT (aw (bC aR aC az) (aw (bt bV (aB ax aI)) (aw aC aG)))))) (nU (de bj (de bj (de bj kS)))) (Pm (cR (aB (a_ (cQ.b bD) ax ax) (aB (aH (bB (cR (aB ax (aB (a_ (cQ.b bD) ax ax) (aB (a_ (cQ.b bD) ax ax) aI)))))) aI))) ax)))
   e_)),?_⟩)
 rintro ds Pr ⟨xs,fs,st,rfl,⟨Ť,U,s1,Q⟩,k⟩;simp only[sL,d8];fin2;simp only[TC];refine⟨λi δ=>∃o1 J v r,δ=[vD (sL xs),vD (d8 fs),vI st,some (.own (sO (fL (0,0) df fs i st xs))),o1,J,v,r],⟨none,none,none,none,by simp[sL,d8,sO,vX]⟩,?_,?_⟩
 .rintro i d δ hd ⟨o1,J,v,r,rfl⟩;rw[<- CI]at hd;obtain⟨f,hf,rfl⟩:=mV hd;have m:i<fs.length:=by
   have:=(Ab.mp hf).1
   rwa[B8]at this
  rw[Cn m]at hf;have O:=Ť f (An hf);have L:(fL (0,0) df fs i st xs).length=xs.length:=xY;dsimp only;rw[vY m hf];generalize hc:fL (0,0) df fs i st xs=u at L;simp only[sL,d8,sO,wB];fin2;simp only[cW];refine⟨⟨O.h,U,s1,by lia,by lia⟩,?_⟩;fin2;simp only[A8,BF,OV.val];rw[<- L];refine⟨λj δ=>∃J v r,δ=[vD (sL xs),vD (d8 fs),vI st,some (.own (sO (((cO f.h u.length st).take j).foldl (oU (0,0) (df f) st) u))),vD (wB f),J,v,r],⟨_,_,_,rfl⟩,?_,?_⟩
  .rintro j e δ he ⟨p2,p3,p4,rfl⟩;obtain⟨t,ht,rfl⟩:=mV he;have Ů:t∈cO f.h u.length st:=An ht;obtain⟨ϕ,T⟩:=Ab.mp ht;obtain⟨b0,b1,b2,_⟩:=oM U O.h Ů;have M:=(WQ (z:=((0,0):fm)) (G:=df f) (h:=f.h) (st:=st) (xs:=u) U O.h j).1;have q:(cO f.h u.length st).take (j+1)=(cO f.h u.length st).take j++[t]:=by
    rw[Bo ϕ,T]
   dsimp only;rw[q,DN];generalize hw:((cO f.h u.length st).take j).foldl (oU (0,0) (df f) st) u=Ŕ at M;simp only[sL,d8,sO,ZQ,wB];fin2;simp only[uJ];refine⟨_,pY (0,0) b0.1 (by (clear Q m L T;lia)),_,pY (0,0) b1.1 (by (clear Q m L T;lia)),_,pY (0,0) b2.1 (by (clear Q m L T;lia)),f,_,_,rfl,O,?_⟩;simp only[OV.lf,zN,true_and];fin2;refine⟨_,_,rfl,?_⟩;simp only[OV.lf,zN,true_and];refine⟨_,vT b0.1 (by (clear Q m L T;lia)),?_⟩;rw[O_ (g:=λs=>OV.fz (c4 s))];simp only[Ce,IP,oU,ju,M,df];exact⟨_,_,_,rfl⟩
  .rintro δ ⟨p2,p3,p4,rfl⟩;rw[Ay,BU];exact⟨_,_,_,_,rfl⟩
 .rintro δ ⟨o1,J,v,r,rfl⟩;fin2;rw[B8,Ay,xZ];exact k
noncomputable abbrev m9:Á:=[("raised",fv),("lowered_spans",cV)]
section SH
variable {α β:Type}
noncomputable def tab (n:Nat)(f:Nat->β):List β:=(Ax n).map f
theorem bb {n:Nat}{f:Nat->β}:(tab n f).length=n:=by simp[tab]
theorem hR {n i:Nat}{f:Nat->β}(h:i<n):(tab n f)[i]?=some (f i):=by simp[tab,h]
theorem eS {n i:Nat}{f:Nat->β}{d:β}(h:i<n):(tab n f).getD i d=f i:=by simp[tab,h]
theorem dA {n:Nat}{f g:Nat->β}(h:∀i,i<n->f i=g i):tab n f=tab n g:=Cp λi hi=>h i (Bz.mp hi)
theorem dS {a:Type}{n:Nat}{f:Nat->β}{g:β->a}:(tab n f).map g=tab n λi=>g (f i):=by simp[tab]
theorem OP (z:α)(xs:List α):tab xs.length (λi=>xs.getD i z)=xs:=by
 refine NS z (by rw[bb]) λp h=>?_
 rw[bb]at h;rw[eS h]
theorem nJ (z:α){n:Nat}{xs:List α}(h:xs.length=n):tab n (λi=>xs.getD i z)=xs:=by subst h;exact OP z xs
theorem mi {n i:Nat}{f:Nat->β}{v:β}:(tab n f).set i v=tab n λj=>if j=i then v else f j:=by
 refine DQ λj=>?_
 rw[Fp,bb];by_cases h:j<n
 .rw [hR h,hR h];by_cases e:i=j
  .subst e;simp[h]
  .rw [if_neg e,if_neg λz=>e z.symm]
 .have c:(tab n f)[j]?=none:=Bc (by rw[bb];lia);have a:(tab n λj=>if j=i then v else f j)[j]?=none:=Bc (by rw[bb];lia);rw[c,a];split
  .rw [if_neg (by lia)]
  .rfl
theorem k9 {n:Nat}{f:Nat->D}{i:Int}(a:0<=i)(h:i<n):hQ (tab n f) i=some (f i.toNat):=by
 have e:=d3 (xs:=tab n f) (hR (show i.toNat<n by lia))
 rwa[show ((i.toNat:Nat):Int)=i by lia]at e
noncomputable def lb (z:α)(op:List α->List α)(w st:Nat)(e:Nat->Nat->α):Nat->Nat->α:=λi j=>if i%st=0 then (op (tab w (e i))).getD j z else e i j
noncomputable def lg (z:α)(op:List α->List α)(h st:Nat)(e:Nat->Nat->α):Nat->Nat->α:=λi j=>if j%st=0 then (op (tab h λi=>e i j)).getD i z else e i j
def sr (h w:Nat)(e e':Nat->Nat->α):Prop:=∀i j,i<h->j<w->e i j=e' i j
theorem xf {z:α}{op:List α->List α}{h w st:Nat}{e e':Nat->Nat->α}(q:sr h w e e'):sr h w (lb z op w st e) (lb z op w st e'):=λi j hi J=>by
 unfold lb;rw[dA (λj J=>q i j hi J),q i j hi J]
theorem RD {z:α}{op:List α->List α}{h w st:Nat}{e e':Nat->Nat->α}(q:sr h w e e'):sr h w (lg z op h st e) (lg z op h st e'):=λi j hi J=>by
 unfold lg;rw[dA (λi hi=>q i j hi J),q i j hi J]
theorem Ni {z:α}{op op':List α->List α}{h w st:Nat}{e:Nat->Nat->α}(hl:∀r:List α,r.length=w->(op r).length=w)(B:∀r:List α,r.length=w->op' (op r)=r):sr h w (lb z op' w st (lb z op w st e)) e:=λi j hi J=>by
 unfold lb;by_cases q:i%st=0
 .simp only[q,if_true];rw[nJ z (hl _ bb),B _ bb,eS J]
 .simp only[q,if_false]
theorem NV {z:α}{op op':List α->List α}{h w st:Nat}{e:Nat->Nat->α}(hl:∀r:List α,r.length=h->(op r).length=h)(B:∀r:List α,r.length=h->op' (op r)=r):sr h w (lg z op' h st (lg z op h st e)) e:=λi j hi J=>by
 unfold lg;by_cases q:j%st=0
 .simp only[q,if_true];rw[nJ z (hl _ bb),B _ bb,eS hi]
 .simp only[q,if_false]
theorem sr.trans {h w:Nat}{a b c:Nat->Nat->α}(x:sr h w a b)(y:sr h w b c):sr h w a c:=λi j hi J=>(x i j hi J).trans (y i j hi J)
theorem sr.symm {h w:Nat}{a b:Nat->Nat->α}(x:sr h w a b):sr h w b a:=λi j hi J=>(x i j hi J).symm
theorem sr.refl {h w:Nat}{a:Nat->Nat->α}:sr h w a a:=λ_ _ _ _=>rfl
noncomputable def pk (z:α)(op:Nat->List α->List α)(h w:Nat):Nat->(Nat->Nat->α)->Nat->Nat->α
 | 0,e=>e
 |n+1,e=>lg z (op n) h (2^n) (lb z (op n) w (2^n) (pk z op h w n e))
noncomputable def dY (z:α)(op:Nat->List α->List α)(h w:Nat):Nat->Nat->(Nat->Nat->α)->Nat->Nat->α
 | 0,_,e=>e
 |n+1,d,e=>if d<=n then dY z op h w n d (lb z (op n) w (2^n) (lg z (op n) h (2^n) e)) else e
theorem nY {z:α}{op:Nat->List α->List α}{h w:Nat}:∀(n d:Nat) {e e':Nat->Nat->α},sr h w e e'->sr h w (dY z op h w n d e) (dY z op h w n d e')
 | 0,_,_,_,q=>q
 |n+1,d,e,e',q=>by
  unfold dY;split
  .exact nY n d (xf (RD q))
  .exact q
theorem xw {z:α}{up dn:Nat->List α->List α}{h w:Nat}(hl:∀k (r:List α),(up k r).length=r.length)(B:∀k (r:List α),dn k (up k r)=r):
  ∀(n d:Nat) (e:Nat->Nat->α),d<=n->sr h w (dY z dn h w n d (pk z up h w n e)) (pk z up h w d e)
 | 0,d,e,hd=>by
  have:d=0:=by lia
  subst this;exact sr.refl
 |n + 1,d,e,hd=>by
  unfold dY;by_cases q:d<=n
  .rw [if_pos q];refine (nY n d ?_).trans (xw hl B n d e q);exact (xf (NV (λr a=>by rw[hl];exact a) (λr _=>B n r))).trans (Ni (λr a=>by rw[hl];exact a) (λr _=>B n r))
  .rw [if_neg q];have:d=n+1:=by lia
   subst this;exact sr.refl
end SH
noncomputable def iv {a:Type}(g:a->D)(h w:Nat)(e:Nat->Nat->a):List OV:=tab h λi=>.nl (tab w λj=>.fz (g (e i j)))
noncomputable def eO {a:Type}(g:a->D)(h w:Nat)(e:Nat->Nat->a):List D:=tab h λi=>.lst (tab w λj=>g (e i j))
theorem eu {a:Type}{g:a->D}{h w:Nat}{e:Nat->Nat->a}:(iv g h w e).map OV.val=eO g h w e:=by
 unfold iv eO;rw[dS];simp only[OV.val,OV.cm,dS]
theorem pF {a:Type}{g:a->D}{h w:Nat}{e e':Nat->Nat->a}(q:sr h w e e'):iv g h w e=iv g h w e':=by
 exact dA λi hi=>by rw[dA λj J=>by rw[q i j hi J]]
structure N4 (α:Type) (z:α) (g:α->D) (op:List α->List α) (n:Nat) (st:Nat) (ZS:D) (sp:c_):Prop where
 run:∀r:List α,r.length=n->∀Q:OV->Prop,Q (.nl ((op r).map λx=>.fz (g x)))->sp [.lst (r.map g),ZS,.int st] Q
 len:∀r:List α,r.length=n->(op r).length=n
 off:∀(r:List α) (i:Nat),r.length=n->i<n->i%st≠0->(op r).getD i z=r.getD i z
 lf:∀x,(g x).lf=true
noncomputable abbrev iE:AW:=top 41
theorem j4:aN ["sheet","doing","ladder","stride","i"] ["sheet","doing","ladder","stride"] (aA iE):=by walk_at "S"
def gC:Zz:=λts ds P=>∃(a:Type) (z:a) (g:a->D) (op:List a->List a) (x:Am) (sp:c_) (l:D) (h w st:Nat) (e:Nat->Nat->a),ts=iv g h w e/\ds=[.fn x,l,.int st]/\(x,sp)∈m9/\N4 a z g op w st l sp/\0<st/\st<=64/\h<=1000/\P (iv g h w (lb z op w st e))
theorem Wm {a:Type}{g:a->D}(hg:∀x,(g x).lf=true)(xs:List a):OV.lf (.nl (xs.map λx=>.fz (g x)))=true:=by
 simp[OV.lf,OV.gZ,hg]
theorem mn {h st:Nat}(a:0<st){n:Nat}(hn:n<d5 0 h st):n*st<h:=by
 have:=(pJ (by lia) n).mp hn;rw[Fd]at this
 exact_mod_cast this
theorem qg {h st i:Nat}(a:0<st)(hi:i<h)(m:i%st=0):i<d5 0 h st*st:=by
 rcases EL i (d5 0 h st*st) with q |q
 .exact q
 .exfalso
  have h1:d5 0 h st<=i / st:=by
   rw[Hq a];exact q
  have h2:¬ (d5 0 h st<d5 0 h st):=B3 _
  apply h2
  rw[pJ (by lia)];have c:d5 0 h st*st<h:=by lia
  have:((d5 0 h st*st:Nat):Int)<h:=by exact_mod_cast c
  rw[Fd]
  exact_mod_cast this
theorem SQ {h st:Nat}(a:0<st):d5 0 h st<=h:=by
 rcases EL h (d5 0 h st) with q |q
 .have:=mn a q;have h2:h*1<=h*st:=Dq _ a;lia
 .exact q
theorem rg {f:Ac}{fd:Ag}(Df:bG K mg "change_rows" iE f fd)(B:bT mg)(KV:bQ K)(m:ny K mg "raised")(l:ny K mg "lowered_spans")(C:bO P w K mg base "raised" 3 ["row","ladder","stride"] (bL K 3 fv))(r:bO P w K mg base "lowered_spans" 3 ["row","ladder","stride"] (bL K 3 cV)):
  bO P w K mg base "change_rows" 4 ["sheet","doing","ladder","stride"] (uQ K 4 gC):=by
 refine Vn.of Df j4 (by walk_at "b") rfl (λc A o s H E M=>⟨_,_,(aF (dy AO rfl (iS (by rfl) (by exact B.range) (ae aE (ae (aM aU (by rfl) B.len AS (ae (pv 0) ay)) (ae (pv 3) ay)))) (bf (i:=4) j4.nd rfl (Ap rfl)) (aF (vj (Mg (pv 1) (LI (K:=K) (n:=3) (tb:=m9) (k:=3) (by simp only[m9,BQ];exact⟨⟨_,C.mono (by decide)⟩,⟨_,r.mono (by decide)⟩,λ_ h=>by cases h⟩)) (M.mono (by decide)) (ae (aO ba (pv 0) (pv 4) (λ_ _=>rfl)) (ae (pv 2) (ae (pv 3) ay)))) (vm (pv 0) (pv 4) jZ))))),
  (dw (mL (aB (aH az) (aB (aH (bt bV (aB ax aI))) (aB ax aI)))) bj (Pl (i:=0) Mu (Pm (Ng (tb:=m9) (by simp only[m9,BQ];exact⟨m,l,λ_ h=>by cases h⟩) (aB (a_ (cQ.b bD) ax ax) (aB ax (aB ax aI)))) ax))),?_⟩)
 rintro a ts ds Pr ⟨α,z,g,op,x,sp,u,h,w,st,e,rfl,rfl,O,ok,p,s1,hh,k⟩;fin2;refine⟨⟨by lia,by rw[iv,bb];lia,by lia,by lia⟩,?_⟩;rw[show ((iv g h w e).length:Int)=(h:Int) by rw[iv,bb]];refine⟨λn δ=>n<=d5 0 h st/\∃o,δ=[some (.own (.rt a (iv g h w λi j=>if i%st=0/\i<n*st then (op (tab w (e i))).getD j z else e i j))),vD (.fn x),vD u,vI st,o],⟨Bv _,none,?_⟩,?_,?_⟩
 .simp only[IB,FF,and_false,if_false]
 .rintro n d δ hd ⟨hn,o,rfl⟩;obtain⟨hi,rfl⟩:=eJ hd;have L:=mn p hi;have t:(0+(n:Int)*(st:Int))=((n*st:Nat):Int):=by rw[Fd];exact_mod_cast rfl
  rw[t];fin2;refine⟨sp,O,?_⟩;rw[eu];refine⟨_,k9 (by lia) (by exact_mod_cast L),?_⟩;rw[show ((n*st:Nat):Int).toNat=n*st by lia];have er:(D.lst (tab w λj=>g (if (n*st)%st=0/\n*st<n*st then (op (tab w (e (n*st)))).getD j z else e (n*st) j))) = .lst ((tab w (e (n*st))).map g):=by
   rw[dS];simp only[B3,and_false,if_false]
  rw[er]
  try fin2
  refine ok.run _ bb _ ?_;refine⟨Wm ok.lf _,n*st,?_,?_⟩
  .rw [iv,bb];have:=vT (n:=h) (i:=((n*st:Nat):Int)) (by lia) (by exact_mod_cast L)
   rwa[show ((n*st:Nat):Int).toNat=n*st by lia]at this
  .try fin2
   refine⟨hi,some (.own (.fz (.int ((n*st:Nat):Int)))),?_⟩;have U : (iv g h w λi j=>if i%st=0/\i<n*st then (op (tab w (e i))).getD j z else e i j).set (n*st) (.nl ((op (tab w (e (n*st)))).map λx=>.fz (g x)))=iv g h w λi j=>if i%st=0/\i<(n+1)*st then (op (tab w (e i))).getD j z else e i j:=by
    unfold iv;rw[mi];refine dA λi T=>?_
    by_cases q:i=n*st
    .subst q;rw[if_pos rfl];have e1:∀j,(if (n*st)%st=0/\n*st<(n+1)*st then (op (tab w (e (n*st)))).getD j z else e (n*st) j)=(op (tab w (e (n*st)))).getD j z:=λj=>if_pos ⟨EC _ _,by rw[DV];lia⟩
     simp only[e1];congr 1
     rw[<- dS (f:=λj=>(op (tab w (e (n*st)))).getD j z) (g:=λx=>OV.fz (g x)),nJ z (ok.len _ bb)]
    .rw [if_neg q];congr 1
     refine dA λj _=>?_
     have:(i%st=0/\i<n*st)↔(i%st=0/\i<(n+1)*st):=by
      constructor
      .rintro ⟨Q,v⟩;exact⟨Q,by rw[DV];lia⟩
      .rintro ⟨Q,v⟩;refine⟨Q,?_⟩;have G:i=i / st*st:=by
        have:=FG i st;rw[Q,IE,Dv]at this;exact this.symm
       have e3:i / st<n+1:=by rw[Hr p];exact v
       rcases EL (i / st) n with y |y
       .have:(i / st+1)*st<=n*st:=HC _ y;rw[DV]at this;lia
       .have:i / st=n:=by lia
        rw[this]at G;exact absurd G q
     dsimp only;by_cases y:i%st=0/\i<n*st
     .rw [if_pos y,if_pos (this.mp y)]
     .rw [if_neg y,if_neg λJ=>y (this.mpr J)]
   rw[U]
 .rintro δ ⟨_,o,rfl⟩;rw[eC];refine⟨_,rfl,?_⟩;rw[pF (e':=lb z op w st e)]
  .exact k
  .intro i j hi hj;show (if i%st=0/\i<d5 0 h st*st then _ else _)=if i%st=0 then _ else _
   by_cases q:i%st=0
   .rw [if_pos ⟨q,qg p hi q⟩,if_pos q]
   .rw [if_neg λy=>q y.1,if_neg q]
noncomputable abbrev ez:AW:=top 42
theorem dU:aN ["sheet","doing","ladder","stride","j","column","i"] ["sheet","doing","ladder","stride"] (aA ez):=by walk_at "S"
def eV:Zz:=λts ds P=>∃(a:Type) (z:a) (g:a->D) (op:List a->List a) (x:Am) (sp:c_) (l:D) (h w st:Nat) (e:Nat->Nat->a),ts=iv g h w e/\ds=[.fn x,l,.int st]/\(x,sp)∈m9/\N4 a z g op h st l sp/\0<st/\st<=64/\0<h/\h<=1000/\w<=1000/\P (iv g h w (lg z op h st e))
theorem oN {i st n:Nat}(a:0<st)(Q:i%st=0)(h:i≠n*st):i<n*st↔i<(n+1)*st:=by
 constructor
 .intro y;rw[DV];lia
 .intro q;have e:i=i / st*st:=by
   have:=FG i st;rw[Q,IE,Dv]at this;exact this.symm
  have c:i / st<n+1:=by rw[Hr a];exact q
  rcases EL (i / st) n with y |y
  .have:(i / st+1)*st<=n*st:=HC _ y;rw[DV]at this;lia
  .have:i / st=n:=by lia
   rw[this]at e;exact absurd e h
theorem mS {f:Ac}{fd:Ag}(Df:bG K mg "change_columns" ez f fd)(B:bT mg)(KV:bQ K)(u:ny K mg "raised")(l:ny K mg "lowered_spans")(C:bO P w K mg base "raised" 3 ["row","ladder","stride"] (bL K 3 fv))(r:bO P w K mg base "lowered_spans" 3 ["row","ladder","stride"] (bL K 3 cV)):
  bO P w K mg base "change_columns" 4 ["sheet","doing","ladder","stride"] (uQ K 4 eV):=by
 refine Vn.of Df dU (by walk_at "b") rfl (λc A o s H E hr=>⟨_,_,(aF (dy AO rfl (iS (by rfl) (by exact B.range) (ae aE (ae (aM aU (by rfl) B.len AS (ae (aO ba (pv 0) aE (λ_ _=>rfl)) ay)) (ae (pv 3) ay)))) (bf (i:=4) dU.nd rfl (FM rfl)) (aD (a5 (i:=5) dU.nd rfl (Ap rfl) (Mg (pv 1) (LI (K:=K) (n:=3) (tb:=m9) (k:=3) (by simp only[m9,BQ];exact⟨⟨_,C.mono (by decide)⟩,⟨_,r.mono (by decide)⟩,λ_ h=>by cases h⟩)) (hr.mono (by decide)) (ae (c5 rfl (cF (pv 0)) (show bF (aA ez) _ from⟨rfl,by decide +kernel,by decide +kernel,by decide +kernel⟩) (N:=["row","j"]) (ix:=[none,some 4]) (show cD _ _ _ _ from⟨⟨rfl,rfl,.inl rfl⟩,trivial⟩) (λ_ _ _=>(bf (i:=0) (show Be (["row","j"]:List Am) by decide +kernel) rfl (Ap rfl))) (λ_ _ _=>(aO ba (pv 0) (pv 1) (λ_ _=>rfl)))) (ae (pv 2) (ae (pv 3) ay)))))
   (aF (dy AO rfl (iS (by rfl) (by exact B.range) (ae aE (ae (aM aU (by rfl) B.len AS (ae (pv 0) ay)) (ae (pv 3) ay)))) (bf (i:=6) dU.nd rfl (Ap rfl)) (aF (vj (aO ba (pv 5) (pv 6) (λ_ _=>rfl)) (vm (aO ba (pv 0) (pv 6) (λ_ _=>rfl)) (pv 4) jZ)))))))),
  (dw (mL (aB (aH az) (aB (aH (bt bV (aB (a_ (cQ.b bD) ax (aH az)) aI))) (aB ax aI)))) bj (aK (aZ (aW (bB (Pz (tb:=m9) (by simp only[m9,BQ];exact⟨u,l,λ_ h=>by cases h⟩) (aw (bB (Pw ax (aW (L_ (a_ (cQ.b bD) ax ax))))) (aw aC (aw aC aG)))))))
   (dw (mL (aB (aH az) (aB (aH (bt bV (aB ax aI))) (aB ax aI)))) bj (Pl (i:=0) Mu (L3 (bC bD aC aC) ax ax))))),?_⟩)
 rintro a ts ds Pr ⟨α,z,g,op,x,sp,ZS,h,w,st,e,rfl,rfl,hm,ok,s0,s1,h0,hh,hw,k⟩;fin2;rw[eu];refine⟨_,k9 (by lia) (by lia),?_⟩;fin2;rw[bb];refine⟨⟨by lia,by lia,by lia,by lia⟩,?_⟩;refine⟨λn δ=>n<=d5 0 w st/\∃o1 o2 o3,δ=[some (.own (.rt a (iv g h w λi j=>if j%st=0/\j<n*st then (op (tab h λi=>e i j)).getD i z else e i j))),vD (.fn x),vD ZS,vI st,o1,o2,o3],⟨Bv _,none,none,none,?_⟩,?_,?_⟩
 .simp only[IB,FF,and_false,if_false]
 .rintro n d δ hd ⟨hn,o1,o2,o3,rfl⟩;obtain⟨hi,rfl⟩:=eJ hd;have O:=mn s0 hi;have ì:(0+(n:Int)*(st:Int))=((n*st:Nat):Int):=by rw[Fd];exact_mod_cast rfl
  rw[ì];generalize hj:n*st=j at O;fin2;refine⟨sp,hm,?_⟩;rw[eu];refine eQ.Û (Ax h) _ (λi=>.fz (g (e i j))) (by rw[BK];lia) (λi v Q q=>?_) ?_
  .have ϛ:=Bz.mp v;fin2;refine⟨_,k9 (by lia) (by exact_mod_cast O),?_⟩;rw[show ((j:Nat):Int).toNat=j by lia,if_neg λy=>by lia];exact⟨ok.lf _,q⟩
  .have e1 : (Ax h).map (λi=>OV.fz (g (e i j)))=(tab h λi=>e i j).map λx=>OV.fz (g x):=by rw[dS];rfl
   rw[e1];fin2;simp only[uJ];refine ok.run _ bb _ ?_;generalize U:tab h (λi=>e i j)=c;have YL:c.length=h:=by rw[<- U];exact bb
   have ŷ:=ok.len c YL;fin2;simp only[uJ];refine⟨⟨by lia,by rw[iv,bb];lia,by lia,by lia⟩,?_⟩;rw[show ((iv g h w λi J=>if J%st=0/\J<j then (op (tab h λi=>e i J)).getD i z else e i J).length:Int)=(h:Int) by rw[iv,bb]];refine⟨λm δ=>∃o3,δ=[some (.own (.rt a (iv g h w λi J=>if J=j/\i%st=0/\i<m*st then (op c).getD i z else if J%st=0/\J<j then (op (tab h λi=>e i J)).getD i z else e i J))),vD (.fn x),vD ZS,vI st,vI j,vD (.lst ((op c).map g)),o3],⟨o3,?_⟩,?_,?_⟩
   .simp only[IB,FF,and_false,if_false]
   .rintro m d δ xV ⟨p3,rfl⟩;obtain⟨î,rfl⟩:=eJ xV;have t:=mn s0 î;have T:(0+(m:Int)*(st:Int))=((m*st:Nat):Int):=by rw[Fd];exact_mod_cast rfl
    rw[T];generalize L:m*st=i at t;fin2;refine⟨_,pY z (by lia) (by rw[ŷ];exact_mod_cast t),?_⟩;rw[show ((i:Nat):Int).toNat=i by lia];refine⟨i,_,?_,hR t,j,?_,?_⟩
    .rw [iv,bb];have:=vT (n:=h) (i:=((i:Nat):Int)) (by lia) (by exact_mod_cast t)
     rwa[show ((i:Nat):Int).toNat=i by lia]at this
    .rw [bb];have:=vT (n:=w) (i:=((j:Nat):Int)) (by lia) (by exact_mod_cast O)
     rwa[show ((j:Nat):Int).toNat=j by lia]at this
    .try fin2
     refine⟨vI ((i:Nat):Int),?_⟩;have es:(iv g h w λi J=>if J=j/\i%st=0/\i<m*st then (op c).getD i z else if J%st=0/\J<j then (op (tab h λi=>e i J)).getD i z else e i J).set i (.nl ((tab w λJ=>OV.fz (g (if J=j/\i%st=0/\i<m*st then (op c).getD i z else if J%st=0/\J<j then (op (tab h λi=>e i J)).getD i z else e i J))).set j (.fz (g ((op c).getD i z))))) =
       iv g h w λi J=>if J=j/\i%st=0/\i<(m+1)*st then (op c).getD i z else if J%st=0/\J<j then (op (tab h λi=>e i J)).getD i z else e i J:=by
      unfold iv;rw[mi];refine dA λG v=>?_
      by_cases q:G=i
      .subst q;rw[if_pos rfl,mi];congr 1
       refine dA λJ U1=>?_
       dsimp only;by_cases y:J=j
       .subst y;rw[if_pos rfl,if_pos ⟨rfl,by rw[<- L];exact EC _ _,by rw[<- L,DV];lia⟩]
       .simp only[y,false_and,if_false]
      .rw [if_neg q];congr 1
       refine dA λJ U1=>?_
       dsimp only;by_cases y:J=j/\G%st=0
       .have M:G≠m*st:=by rw[L];exact q
        have:=oN (n:=m) s0 y.2 M;by_cases y2:G<m*st
        .rw [if_pos ⟨y.1,y.2,y2⟩,if_pos ⟨y.1,y.2,this.mp y2⟩]
        .rw [if_neg (show ¬ (J=j/\G%st=0/\G<m*st) from λp=>y2 p.2.2),if_neg (show ¬ (J=j/\G%st=0/\G<(m+1)*st) from λp=>y2 (this.mpr p.2.2))]
       .rw [if_neg (show ¬ (J=j/\G%st=0/\G<m*st) from λp=>y ⟨p.1,p.2.1⟩),if_neg (show ¬ (J=j/\G%st=0/\G<(m+1)*st) from λp=>y ⟨p.1,p.2.1⟩)]
     simp only[L]at es;rw[es]
   .rintro δ ⟨p3,rfl⟩;rw[eC];refine⟨hi,vI j,vD (.lst ((op c).map g)),p3,?_⟩;rw[pF (e':=λi j=>if j%st=0/\j<(n+1)*st then (op (tab h λi=>e i j)).getD i z else e i j)];intro i J v U1;dsimp only;by_cases y:J=j
    .subst y;rw[U,if_pos (show J%st=0/\J<(n+1)*st from⟨by rw[<- hj];exact EC _ _,by rw[<- hj,DV];lia⟩)];by_cases q:i%st=0
     .rw [if_pos ⟨rfl,q,qg s0 v q⟩]
     .rw [if_neg λp=>q p.2.1,if_neg (show ¬ (J%st=0/\J<J) from λp=>by lia),ok.off c i YL v q,<- U,eS v]
    .rw [if_neg λp=>y p.1];by_cases q:J%st=0
     .have M:J≠n*st:=by rw[hj];exact y
      have:=oN (n:=n) s0 q M;rw[hj]at this;by_cases y2:J<j
      .rw [if_pos ⟨q,y2⟩,if_pos ⟨q,this.mp y2⟩]
      .rw [if_neg λp=>y2 p.2,if_neg λp=>y2 (this.mpr p.2)]
     .rw [if_neg λp=>q p.1,if_neg λp=>q p.1]
 .rintro δ ⟨_,o1,o2,o3,rfl⟩;rw[eC];refine⟨_,rfl,?_⟩;rw[pF (e':=lg z op h st e)]
  .exact k
  .intro i j hi hj;show (if j%st=0/\j<d5 0 w st*st then _ else _)=if j%st=0 then _ else _
   by_cases q:j%st=0
   .rw [if_pos ⟨q,qg s0 hj q⟩,if_pos q]
   .rw [if_neg λy=>q y.1,if_neg q]
theorem VE (h st:Nat)(f:0<st):CZ 0 h st=(Ax (d5 0 h st)).map λk=>k*st:=by
 unfold CZ d5 AT;have c:(st:Int) > 0:=by lia
 simp only[c,if_true];by_cases a:(0:Int)<h
 .simp only[a,if_true];have e:((h:Int)-0+st-1) / st=((h:Int)-0-1) / st+1:=by
   rw[show (h:Int)-0+st-1=((h:Int)-0-1)+1*st by lia,Int.add_mul_ediv_right _ _ (by lia)]
  rw[e];refine Cp λk _=>?_
  rw[Fd,Er]
  exact_mod_cast rfl
 .simp only[a,if_false];rfl
theorem MG {a c:Type}{f:a->Option c}{g:a->c}:∀{J:List a},(∀j∈J,f j=some (g j))->J.filterMap f=J.map g
 | [],_=>rfl
 |j::J,h=>by
  rw[Cz (h j AF),MG λk e=>h k (Aj _ e),B7]
theorem tF {c:Type}{h st:Nat}{f:Nat->c}(a:0<st):mq (tab h f) st=tab (d5 0 h st) λk=>f (k*st):=by
 unfold mq;rw[bb,VE h st a];rw[E2];refine MG λk e=>?_
 exact hR (mn a (Bz.mp e))
theorem xj {h:Nat}:d5 0 h (1:Nat)=h:=mU λi=>by
 rw[pJ (by decide)];simp
noncomputable abbrev kM:AW:=top 46
theorem yZ:aN ["sheet","k"] ["sheet","k"] (aA kM):=by walk_at "S"
def i_:c_:=λds P=>∃(a:Type) (g:a->D) (h w k:Nat) (e:Nat->Nat->a),ds=[.lst (eO g h w e),.int k]/\k<=6/\h<=1000/\w<=1000/\P (.nl (iv g (d5 0 h (2^k:Nat)) (d5 0 w (2^k:Nat)) λi j=>e (i*2^k) (j*2^k)))
theorem zw {f:Ac}{fd:Ag}(m:bG K mg "thinned" kM f fd)(B:bT mg)(KV:bQ K):
  bO P w K mg base "thinned" 1 ["sheet","k"] (bL K 2 i_):=by
 refine cE.of m yZ (by walk_at "b") rfl (λc A o s H E t=>⟨_,_,(aF (aP (c5 rfl (cF (Mf (pv 0) (aX gX aE (pv 1)))) (show bF (aA kM) _ from⟨rfl,by decide +kernel,by decide +kernel,by decide +kernel⟩) (N:=["row","k"]) (ix:=[none,some 1]) (show cD _ _ _ _ from⟨⟨rfl,rfl,.inl rfl⟩,trivial⟩) (λ_ _ _=>(bf (i:=0) (show Be (["row","k"]:List Am) by decide +kernel) rfl (Ap rfl))) (λ_ _ _=>(Mf (pv 0) (aX gX aE (pv 1))))))),
  (aY (cz (cL (bB (L5 aC (aH (aJ cj (aH az) ax))))) bj (L5 aC (aH (aJ cj (aH az) ax))))),?_⟩)
 rintro ds v ⟨n,g,h,w,k,e,rfl,r,u,hw,q⟩;have a:(1:Int)*2^((k:Int)).toNat=((2^k:Nat):Int):=by simp
 have p:0<2^k:=Fl (by decide);fin2;rw[a];refine⟨⟨by lia,by lia⟩,by exact_mod_cast p,?_⟩;simp only[eO];rw[tF p];simp only[dS,OV.val];have l:=SQ (h:=h) p;refine eQ.map (Ax (d5 0 h (2^k:Nat))) (λi=>D.lst (tab w λj=>g (e (i*2^k) j))) (λi=>.nl (tab (d5 0 w (2^k:Nat)) λj=>.fz (g (e (i*2^k) (j*2^k))))) (by rw[BK];lia) (λi hi Q q=>?_) ?_
 .fin2;rw[a];refine⟨⟨by lia,by lia⟩,by exact_mod_cast p,?_⟩;rw[tF p,dS];exact q
 .exact q
theorem NQ {a:Type}{z:a}{G:a->a->a->a}{h:Int}{st:Nat}{xs:List a}{p:Nat}(g:0<st)(c:h=0∨h=1)(f:p%st≠0):(ig z G h st xs).getD p z=xs.getD p z:=by
 rw[(Ri (z:=z) (G:=G) (h:=h) (st:=(st:Int)) (xs:=xs) (by lia) c).2 p,if_neg];intro m;obtain⟨_,_,i,hi⟩:=(fc (show (0:Int)<st by lia)).mp m
 apply f
 rcases c with rfl |rfl
 .have:p=i*2*st:=by
   have e:(p:Int)=((i*2*st:Nat):Int):=by rw[hi,Int.zero_mul,Fd,<- DH];exact_mod_cast rfl
   exact_mod_cast e
  rw[this];exact EC _ _
 .have:p=(1+i*2)*st:=by
   have e:(p:Int)=(((1+i*2)*st:Nat):Int):=by rw[hi,<- DH,<- Gh];exact_mod_cast rfl
   exact_mod_cast e
  rw[this];exact EC _ _
theorem oi {a:Type}{z:a}{G:Lf->a->a->a->a}{st:Nat}{p:Nat}(e:0<st)(j:p%st≠0):∀(c:List Lf) (xs:List a),(∀f∈c,f.Ok)->(c.foldl (λxs f=>ig z (G f) f.h st xs) xs).getD p z=xs.getD p z
 | [],_,_=>rfl
 |f::c,xs,ok=>by
  rw[Ce,oi e j c _ λg hg=>ok g (Aj _ hg)];exact NQ e (ok f AF).h j
theorem Ql {k:Nat}(h:k<=6):0<2^k/\2^k<=64:=⟨Fl (by decide),BC (Fm (by decide) h) (by decide)⟩
theorem pE {a:Type}{g:a->D}{h w:Nat}{e:Nat->Nat->a}:iv g (d5 0 h (2^0:Nat)) (d5 0 w (2^0:Nat)) (λi j=>e (i*2^0) (j*2^0))=iv g h w e:=by
 rw[show (2^0:Nat)=1 by decide,xj,xj];simp only[JX]
theorem L' {fs:List Lf}{st:Int}{xs:List Int}:cc fs st xs=fs.foldl (λxs f=>ig 0 ((λ(f:Lf) x l r=>x+1*lE f l r) f) f.h st xs) xs:=rfl
theorem tT {fs:List Lf}{st n:Nat}(ok:∀f∈fs,f.Ok)(s0:0<st)(s1:st<=64)(hn:n<=1000):N4 Int 0 D.int (cc fs st) n st (d8 fs) fv where
 run:=λr hr Q q=>⟨r,fs,st,rfl,⟨ok,by lia,by lia,by lia⟩,q⟩
 len:=λr hr=>by rw[L',iW];exact hr
 off:=λr i hr hi hm=>oi (z:=(0:Int)) (G:=λf x l r=>x+1*lE f l r) s0 hm fs r ok
 lf:=λx=>rfl
theorem Nq {a:Type}{z:a}{op:Nat->List a->List a}{h w:Nat}{e:Nat->Nat->a}:∀{n d:Nat},n<=d->dY z op h w n d e=e
 | 0,_,_=>rfl
 |n+1,d,hd=>by
  show (if d<=n then _ else e)=e
  rw[if_neg (by lia)]
noncomputable abbrev j7:AW:=top 44
theorem jg:aN ["lowering","wave","ladder","levels","down","sheet","k"] ["lowering","wave","ladder","levels","down"] (aA j7):=by walk_at "S"
def mw:c_:=λds P=>∃(a:Type) (z:a) (g:a->D) (op:Nat->List a->List a) (x:Am) (sp:c_) (l:D) (h w L d:Nat) (e:Nat->Nat->a),ds=[.fn x,.lst (eO g h w e),l,.int L,.int d]/\(x,sp)∈m9/\(∀k,k<L->N4 a z g (op k) w (2^k) l sp/\N4 a z g (op k) h (2^k) l sp)/\L<=6/\d<=6/\0<h/\h<=1000/\w<=1000/\P (.nl (iv g h w (dY z op h w L d e)))
theorem vr {f:Ac}{fd:Ag}(U:bG K mg "opened_by" j7 f fd)(B:bT mg)(KV:bQ K)(t:bO P w K mg base "thinned" 1 ["sheet","k"] (bL K 2 i_))(a:bO P w K mg base "change_columns" 4 ["sheet","doing","ladder","stride"] (uQ K 4 eV))(r:bO P w K mg base "change_rows" 4 ["sheet","doing","ladder","stride"] (uQ K 4 gC)):
  bO P w K mg base "opened_by" 5 ["lowering","wave","ladder","levels","down"] (bL K 5 mw):=by
 refine cE.of U jg (by walk_at "b") rfl (λc A o s H E q=>⟨_,_,(aD (a5 (i:=5) jg.nd rfl (Ap rfl) (aQ t (q.mono (by decide)) (by rfl) (ae (pv 1) (ae aE ay))))
   (aD (dy AO rfl (Nm rfl B.range (ae (aX dt (pv 3) aE) (ae (aX dt (pv 4) aE) (ae (ku gy aE) ay)))) (bf (i:=6) jg.nd rfl (Ap rfl)) (aD (bP (aQ a (q.mono (by decide)) (by rfl) (ae (pv 5) (ae (pv 0) (ae (pv 2) (ae (aX gX aE (pv 6)) ay))))))
   (aF (bP (aQ r (q.mono (by decide)) (by rfl) (ae (pv 5) (ae (pv 0) (ae (pv 2) (ae (aX gX aE (pv 6)) ay)))))))))
   (aF (aP (pv 5))))),
  (aK (aZ (aT (aw aC (aw az aG))))
   (aK (dw (SF (aB (aH (aJ b9 ax (aH az))) (aB (aH (aJ b9 ax (aH az))) (aB (aH (gP (aH az))) aI)))) bj (aK (kQ (aw aC (aw aC (aw (aJ cj (aH az) ax) aG))))
   (kQ (aw aC (aw aC (aw (aJ cj (aH az) ax) aG))))))
   e_)),?_⟩)
 rintro ds Pr ⟨p,z,g,op,x,sp,l,h,w,L,d,e,rfl,O,ok,l6,d6,T,v,hw,k⟩;gn_on;refine⟨p,g,h,w,0,e,rfl,by lia,v,hw,?_⟩;rw[pE];gp_on;fin2;refine⟨⟨by lia,by lia,by lia,by lia⟩,?_⟩;rw[show ((L:Int)-1-((d:Int)-1)).toNat=L-d by lia];refine⟨λn δ=>n<=L-d/\∃o e',δ=[vD (.fn x),vD (.lst (eO g h w e)),vD l,vI L,vI d,some (.own (.nl (iv g h w e'))),o]/\dY z op h w (L-n) d e'=dY z op h w L d e,⟨Bv _,none,e,rfl,rfl⟩,?_,?_⟩
 .rintro n d' δ hd ⟨hn,o,e',rfl,j⟩;obtain⟨hi,rfl⟩:=eJ hd;obtain⟨m,u⟩:∃m,L-n=m+1:=⟨L-n-1,by lia⟩
  have M:m<L:=by lia
  obtain⟨G,C⟩:=Ql (show m<=6 by lia);have Q:(L:Int)-1+(n:Int) * -1=(m:Int):=by lia
  have J:(1:Int)*2^((m:Int)).toNat=((2^m:Nat):Int):=by simp
  rw[Q];gn_on;rw[J];refine⟨⟨by omega,by lia⟩,p,z,g,op m,x,sp,l,h,w,2^m,_,rfl,rfl,O,(ok m M).2,G,C,T,v,hw,?_⟩;gp_on;fin2;rw[J];refine⟨⟨by omega,by lia⟩,p,z,g,op m,x,sp,l,h,w,2^m,_,rfl,rfl,O,(ok m M).1,G,C,v,?_⟩;refine⟨hi,_,_,rfl,?_⟩;rw[<- j,u,show L-(n+1)=m by omega];show _=if d<=m then _ else _
  rw[if_pos (by lia)]
 .rintro δ ⟨_,o,e',rfl,j⟩;rw[eC]at j;fin2;rw[Nq (by lia)]at j;rw[j];exact k
noncomputable def Nb (h w:Nat)(e:Nat->Nat->Int):D:=.lst (eO D.int h w e)
noncomputable abbrev zc:AW:=top 43
theorem uU:aN ["picture","ladder","levels","sheet","k"] ["picture","ladder","levels"] (aA zc):=by walk_at "S"
def LQ:c_:=λds P=>∃(h w:Nat) (e:Nat->Nat->Int) (fs:List Lf) (L:Nat),ds=[Nb h w e,d8 fs,.int L]/\(∀f∈fs,f.Ok)/\L<=6/\0<h/\h<=1000/\w<=1000/\P (.nl (iv D.int h w (pk 0 (λk=>cc fs (2^k:Nat)) h w L e)))
theorem S9 {f:Ac}{fd:Ag}(z:bG K mg "laid" zc f fd)(B:bT mg)(KV:bQ K)(r:ny K mg "raised")(t:bO P w K mg base "thinned" 1 ["sheet","k"] (bL K 2 i_))(g:bO P w K mg base "change_rows" 4 ["sheet","doing","ladder","stride"] (uQ K 4 gC))(a:bO P w K mg base "change_columns" 4 ["sheet","doing","ladder","stride"] (uQ K 4 eV)):
  bO P w K mg base "laid" 5 ["picture","ladder","levels"] (bL K 3 LQ):=by
 refine cE.of z uU (by walk_at "b") rfl (λc A o s H E m=>⟨_,_,(aD (a5 (i:=3) uU.nd rfl (Ap rfl) (aQ t (m.mono (by decide)) (by rfl) (ae (pv 0) (ae aE ay))))
   (aD (dy AO rfl (dO (by rfl) (by exact B.range) (ae (pv 2) ay)) (bf (i:=4) uU.nd rfl (Ap rfl)) (aD (bP (aQ g (m.mono (by decide)) (by rfl) (ae (pv 3) (ae (Qs (by rfl) r) (ae (pv 1) (ae (aX gX aE (pv 4)) ay))))))
   (aF (bP (aQ a (m.mono (by decide)) (by rfl) (ae (pv 3) (ae (Qs (by rfl) r) (ae (pv 1) (ae (aX gX aE (pv 4)) ay)))))))))
   (aF (aP (pv 3))))),
  (aK (aZ (aT (aw aC (aw az aG))))
   (aK (dw (fJ (aB ax aI)) bj (aK (kQ (aw (PN r) (aw aC (aw (aJ cj (aH az) ax) aG))))
   (kQ (aw (PN r) (aw aC (aw (aJ cj (aH az) ax) aG))))))
   e_)),?_⟩)
 rintro ds G ⟨h,w,e,fs,L,rfl,ok,C,u,j,hw,k⟩;simp only[Nb];gn_on;refine⟨Int,D.int,h,w,0,e,rfl,by lia,j,hw,?_⟩;rw[pE];gp_on;fin2;refine⟨⟨by lia,by lia⟩,?_⟩;refine⟨λn δ=>n<=L/\∃o,δ=[vD (Nb h w e),vD (d8 fs),vI L,some (.own (.nl (iv D.int h w (pk 0 (λk=>cc fs (2^k:Nat)) h w n e)))),o],⟨Bv _,none,rfl⟩,?_,?_⟩
 .rintro n d δ hd ⟨hn,o,rfl⟩;obtain⟨hi,rfl⟩:=eJ hd;have q:n<L:=by lia
  obtain⟨l,p⟩:=Ql (show n<=6 by lia);have v:(1:Int)*2^(0+(n:Int)*1).toNat=((2^n:Nat):Int):=by simp
  gn_on;rw[v];refine⟨⟨by (clear hw;lia),by (clear u j hw;lia)⟩,Int,0,D.int,cc fs (2^n:Nat),"raised",fv,d8 fs,h,w,2^n,_,rfl,rfl,by simp[m9],tT ok l p hw,l,p,j,?_⟩;gp_on;fin2;rw[v];refine⟨⟨by (clear hw;lia),by (clear u j hw;lia)⟩,Int,0,D.int,cc fs (2^n:Nat),"raised",fv,d8 fs,h,w,2^n,_,rfl,rfl,by simp[m9],tT ok l p j,l,p,u,j,hw,?_⟩;exact⟨q,_,rfl⟩
 .rintro δ ⟨_,o,rfl⟩;rw[eC,show ((L:Int)).toNat=L by lia];exact k
theorem wO {fs:List Lf}{st n:Nat}(ok:∀f∈fs,f.Ok)(s0:0<st)(s1:st<=64)(hn:n<=1000):N4 fm (0,0) c4 (dR (0,0) df fs st) n st (d8 fs) cV where
 run:=λr hr Q q=>⟨r,fs,st,rfl,⟨ok,by lia,by lia,by lia⟩,q⟩
 len:=λr hr=>by rw[zY];exact hr
 off:=λr i hr hi hm=>oi (z:=((0,0):fm)) (G:=df) s0 hm fs.reverse r λf hf=>ok f (DD.mp hf)
 lf:=λx=>zN
noncomputable abbrev gK:AW:=top 45
theorem o7:aN ["sheet","ladder","levels","down"] ["sheet","ladder","levels","down"] (aA gK):=by walk_at "S"
def jz:c_:=λds P=>∃(h w:Nat) (e:Nat->Nat->fm) (fs:List Lf) (L d:Nat),ds=[.lst (eO c4 h w e),d8 fs,.int L,.int d]/\(∀f∈fs,f.Ok)/\L<=6/\d<=6/\0<h/\h<=1000/\w<=1000/\P (.nl (iv c4 h w (dY (0,0) (λk=>dR (0,0) df fs (2^k:Nat)) h w L d e)))
theorem pa {f:Ac}{fd:Ag}{T:Ac}{t:K3}(v:wy K mg "opened_spans" gK f fd T #[.int 0 t])(B:bT mg)(KV:bQ K)(n:ny K mg "lowered_spans")(p:bO P w K mg base "opened_by" 5 ["lowering","wave","ladder","levels","down"] (bL K 5 mw)):
  LC P w K mg base "opened_spans" 6 ["sheet","ladder","levels","down"] (bL K 4 jz) [.int 0]:=by
 refine Vm.of (ds:=[.int 0 t]) v o7 (λ_ _ _ _ _ _ us hl=>match us,hl with | [_,_,_,_],_=>⟨_,rfl,rfl⟩) (λ_ _ _ _ _ _ us hl=>by have l:us.length=3:=(by simpa using hl);exact match us,l with | [_,_,_],_=>⟨_,rfl,rfl⟩) (.cons ⟨_,rfl⟩ (.nil)) rfl (λc A o s H E r=>⟨_,_,(aF (aP (aQ p (r.mono (by decide)) (by rfl) (ae (Qs (by rfl) n) (ae (pv 0) (ae (pv 1) (ae (pv 2) (ae (pv 3) ay)))))))),
  (aY (aT (aw (PN n) (aw aC (aw aC (aw aC (aw aC aG))))))),?_⟩)
 rintro ds C ⟨h,w,e,fs,L,d,rfl,ok,m,u,q,j,hw,k⟩;fin2;refine⟨fm,(0,0),c4,λk=>dR (0,0) df fs (2^k:Nat),"lowered_spans",cV,d8 fs,h,w,L,d,e,rfl,by simp[m9],λk z=>?_,m,u,q,j,hw,k⟩;obtain⟨g,a⟩:=Ql (show k<=6 by lia);exact⟨wO ok g a hw,wO ok g a j⟩
theorem P7 {c a:Type}{R:c->a->Prop}{z:c}{y:a}{op:List c->List c}{op':List a->List a}{h w st:Nat}{e:Nat->Nat->c}{e':Nat->Nat->a}(o:∀(xs:List c) (ys:List a),xs.length=ys.length->(∀p,p<xs.length->R (xs.getD p z) (ys.getD p y))->∀p,p<xs.length->R ((op xs).getD p z) ((op' ys).getD p y))
  (q:∀i j,i<h->j<w->R (e i j) (e' i j)):∀i j,i<h->j<w->R (lb z op w st e i j) (lb y op' w st e' i j):=λi j hi J=>by
 unfold lb;split
 .refine o _ _ (by rw[bb,bb]) (λp f=>?_) j (by rw[bb];exact J);rw[bb]at f;rw[eS f,eS f];exact q i p hi f
 .exact q i j hi J
theorem RC {c a:Type}{R:c->a->Prop}{z:c}{y:a}{op:List c->List c}{op':List a->List a}{h w st:Nat}{e:Nat->Nat->c}{e':Nat->Nat->a}(o:∀(xs:List c) (ys:List a),xs.length=ys.length->(∀p,p<xs.length->R (xs.getD p z) (ys.getD p y))->∀p,p<xs.length->R ((op xs).getD p z) ((op' ys).getD p y))
  (q:∀i j,i<h->j<w->R (e i j) (e' i j)):∀i j,i<h->j<w->R (lg z op h st e i j) (lg y op' h st e' i j):=λi j hi J=>by
 unfold lg;split
 .refine o _ _ (by rw[bb,bb]) (λp f=>?_) i (by rw[bb];exact hi);rw[bb]at f;rw[eS f,eS f];exact q p j f J
 .exact q i j hi J
theorem nX {c a:Type}{R:c->a->Prop}{z:c}{y:a}{op:Nat->List c->List c}{op':Nat->List a->List a}{h w:Nat}(o:∀(k:Nat) (xs:List c) (ys:List a),xs.length=ys.length->(∀p,p<xs.length->R (xs.getD p z) (ys.getD p y))->∀p,p<xs.length->R ((op k xs).getD p z) ((op' k ys).getD p y)):
  ∀(n d:Nat) (e:Nat->Nat->c) (e':Nat->Nat->a),(∀i j,i<h->j<w->R (e i j) (e' i j))->∀i j,i<h->j<w->R (dY z op h w n d e i j) (dY y op' h w n d e' i j)
 | 0,_,_,_,q=>q
 |n+1,d,e,e',q=>by
  unfold dY;split
  .exact nX o n d _ _ (P7 (o n) (RC (o n) q))
  .exact q
theorem xR {k:Nat}:(0:Int)<((2^k:Nat):Int):=by
 exact_mod_cast Fl (by decide)
theorem V_ {fs:List Lf}(ok:∀f∈fs,f.Ok){h w L d:Nat}{e e':Nat->Nat->fm}(q:∀i j,Q9 (e i j) (e' i j))(i j:Nat)(hi:i<h)(J:j<w):
  Q9 (dY (0,0) (λk=>dR (0,0) df fs (2^k:Nat)) h w L d e i j) (dY (0,0) (λk=>dR (0,0) df fs (2^k:Nat)) h w L d e' i j):=
 nX (R:=Q9) (z:=((0,0):fm)) (y:=((0,0):fm)) (op:=λk=>dR (0,0) df fs (2^k:Nat)) (op':=λk=>dR (0,0) df fs (2^k:Nat)) (h:=h) (w:=w)
  (λk xs ys hl r p g=>rS (R:=Q9) (z:=((0,0):fm)) (y:=((0,0):fm)) (G:=df) (G':=df) (fs:=fs) (xs:=xs) (ys:=ys) xR ok hl r (λf _ a b c A B C h1 h2 l=>PZ h1 h2 l) p g) L d e e' (λi j _ _=>q i j) i j hi J
theorem V9 {fs:List Lf}(ok:∀f∈fs,f.Ok){h w L d:Nat}{e:Nat->Nat->Int}(i j:Nat)(hi:i<h)(J:j<w):
  dY (0,0) (λk=>dR (0,0) df fs (2^k:Nat)) h w L d (λi j=>(e i j,e i j)) i j=(dY 0 (λk=>iJ fs (2^k:Nat)) h w L d e i j,dY 0 (λk=>iJ fs (2^k:Nat)) h w L d e i j):=
 nX (R:=λ(s:fm) (x:Int)=>s=(x,x)) (z:=((0,0):fm)) (y:=(0:Int)) (op:=λk=>dR (0,0) df fs (2^k:Nat)) (op':=λk=>iJ fs (2^k:Nat)) (h:=h) (w:=w)
  (λk xs ys hl g p m=>rS (R:=λ(s:fm) (x:Int)=>s=(x,x)) (z:=((0,0):fm)) (y:=(0:Int)) (G:=df) (G':=λf x l r=>x+(-1)*lE f l r) (fs:=fs) (xs:=xs) (ys:=ys) xR ok hl g (λf _ a b c A B C h1 h2 n=>by rw[h1,h2,n,Nh]) p m) L d _ e (λi j _ _=>rfl) i j hi J
theorem zm {a b:Nat}(h:a<=b):(2:Int)^a<=2^b:=by
 have:(2:Nat)^a<=2^b:=Fm (by decide) h
 exact_mod_cast this
theorem TL {q d:Int}(hd:1<=d){B:Int}(h1 : -B<=q)(h2:q<=B)(h:0<=B) : -B<=q / d/\q / d<=B:=by
 constructor
 .rw [E3 (by lia)];have:B*1<=B*d:=BN hd h;rw[FO];lia
 .refine Int.ediv_le_of_le_mul (by lia) ?_;have:B*1<=B*d:=BN hd h;lia
theorem Mt {c x B:Int}(hc : -8<=c/\c<=8)(a : -B<=x/\x<=B) : -(8*B)<=c*x/\c*x<=8*B:=by
 have f:0<=B:=by lia
 rcases Int.le_total 0 c with h |h
 .have h1:c*x<=c*B:=BN a.2 h;have h2:c*B<=8*B:=BE hc.2 f;have e:c*(-B)<=c*x:=BN a.1 h;rw[J1]at e;exact⟨by lia,by lia⟩
 .have h1:(-c)*x<=(-c)*B:=BN a.2 (by lia);have h2:(-c)*B<=8*B:=BE (by lia) f;have e:(-c)*(-B)<=(-c)*x:=BN a.1 (by lia);rw[J1,FO,FO]at e;rw[FO,FO]at h1;rw[FO]at h2;exact⟨by lia,by lia⟩
theorem Tx {f:Lf}(ok:f.Ok){b:Nat}(B:6<=b){x y:Int}(c : -2^b<=x/\x<=2^b)(h : -2^b<=y/\y<=2^b) : -(17*2^b)<=lE f x y/\lE f x y<=17*2^b:=by
 have e:(64:Int)<=2^b:=zm B;have h1:=Mt ok.l c;have h2:=Mt ok.r h;have g:=ok.a;have hd:(1:Int)<=2^f.s.toNat:=zm (Bv _);exact TL hd (by lia) (by lia) (by lia)
theorem Tg {f:Lf}(ok:f.Ok){b:Nat}(B:6<=b){st:Int}(a:0<st){xs:List Int}(h:∀p:Nat,-2^b<=xs.getD p 0/\xs.getD p 0<=2^b):∀p:Nat,-2^(b+5)<=(iU 1 f st xs).getD p 0/\(iU 1 f st xs).getD p 0<=2^(b+5):=λp=>by
 have e:(2:Int)^(b+5)=32*2^b:=by rw[Int.pow_add,Er];rfl
 rw[(mX a ok.h).2 p];have c:=h p;split
 .unfold ip;have hg:=Tx ok B (h (t_ (p:Int) xs.length st).toNat) (h (tZ (p:Int) xs.length st).toNat);rw[Bf];exact⟨by lia,by lia⟩
 .exact ⟨by lia,by lia⟩
theorem qN {st:Int}(a:0<st):∀{fs:List Lf} {b:Nat} {xs:List Int},(∀f∈fs,f.Ok)->6<=b->(∀p:Nat,-2^b<=xs.getD p 0/\xs.getD p 0<=2^b)->∀p:Nat,-2^(b+5*fs.length)<=(cc fs st xs).getD p 0/\(cc fs st xs).getD p 0<=2^(b+5*fs.length)
 | [],b,xs,_,_,h=>h
 |f::fs,b,xs,ok,B,h=>by
  have:=qN a (fs:=fs) (b:=b+5) (xs:=iU 1 f st xs) (λg hg=>ok g (by simp[hg])) (by lia) (Tg (ok f (by simp)) B a h);rw[Bg,show b+5*(fs.length+1)=b+5+5*fs.length by lia];exact this
theorem OQ {b n:Nat}{f:Nat->Int}(h:∀i,-2^b<=f i/\f i<=2^b):∀p:Nat,-2^b<=(tab n f).getD p 0/\(tab n f).getD p 0<=2^b:=λp=>by
 have c:(0:Int)<2^b:=HE (by decide);by_cases a:p<n
 .rw [eS a];exact h p
 .rw [Al,Bc (by rw[bb];lia)];exact⟨by show -2^b<=(0:Int);lia,by show (0:Int)<=2^b;lia⟩
theorem QZ {fs:List Lf}(ok:∀f∈fs,f.Ok){h w b:Nat}(B:6<=b){e:Nat->Nat->Int}(m:∀i j,-2^b<=e i j/\e i j<=2^b):∀(L:Nat) (i j:Nat),-2^(b+10*fs.length*L)<=pk 0 (λk=>cc fs (2^k:Nat)) h w L e i j/\pk 0 (λk=>cc fs (2^k:Nat)) h w L e i j<=2^(b+10*fs.length*L)
 | 0,i,j=>m i j
 |L + 1,i,j=>by
  have l:=QZ (h:=h) (w:=w) ok B m L;have g:(0:Int)<((2^L:Nat):Int):=by have:=IN L;lia
  have up:∀{a c:Nat} {x:Int},a<=c->(-2^a<=x/\x<=2^a)->-2^c<=x/\x<=2^c:=λA n=>by
   have:=zm A;exact⟨by (clear B g;lia),by (clear B g;lia)⟩
  have r:∀i j,-2^(b+10*fs.length*L+5*fs.length)<=lb 0 (cc fs (2^L:Nat)) w (2^L) (pk 0 (λk=>cc fs (2^k:Nat)) h w L e) i j/\lb 0 (cc fs (2^L:Nat)) w (2^L) (pk 0 (λk=>cc fs (2^k:Nat)) h w L e) i j<=2^(b+10*fs.length*L+5*fs.length):=λi j=>by
   unfold lb;split
   .exact qN g ok (by lia) (OQ (l i)) j
   .exact up (by lia) (l i j)
  show -2^_<=lg 0 (cc fs (2^L:Nat)) h (2^L) _ i j/\lg 0 (cc fs (2^L:Nat)) h (2^L) _ i j<=_
  rw[show b+10*fs.length*(L+1)=b+10*fs.length*L+5*fs.length+5*fs.length by rw[Js];lia];unfold lg;split
  .exact qN g ok (by lia) (OQ (λi=>r i j)) i
  .exact up (by lia) (r i j)
theorem Qk (e:Nat):(0:Int)<2^e:=by
 have h1:0<(2:Nat)^e:=Fl (by decide);have h2:((2^e:Nat):Int)=(2:Int)^e:=rfl;lia
theorem Yh {i j:Int}(hi:0<=i)(h:0<=j):DC i j=((i.toNat|||j.toNat:Nat):Int):=by
 unfold DC;have f:decide (0<=BR i)=false:=decide_eq_false (by unfold BR;lia);have c:decide (0<=BR j)=false:=decide_eq_false (by unfold BR;lia);have a:BR (BR i)=i:=by unfold BR;lia
 have e:BR (BR j)=j:=by unfold BR;lia
 unfold Cd;rw[f,c];dsimp only;rw[a,e];unfold BR;lia
theorem T8 (n:Nat):Cd (n:Int) 1=((n%2:Nat):Int):=by
 unfold Cd;rw[decide_eq_true (show (0:Int)<=(n:Int) by lia),decide_eq_true (show (0:Int)<=1 by decide)];have e:(1:Int).toNat=1:=rfl;rw[Bf,e,Ic]
theorem RP {i j:Int}(hi:0<=i)(J:0<=j)(L:Nat):Cd (DC i j / 2^L) 1=0↔i / 2^L%2=0/\j / 2^L%2=0:=by
 obtain⟨a,rfl⟩:=G_ hi;obtain⟨b,rfl⟩:=G_ J;rw[Yh hi J];have e:((((a:Int).toNat|||(b:Int).toNat:Nat):Int) / 2^L)=(((a|||b) / 2^L:Nat):Int):=by
  simp
 rw[e,T8];have t:(a|||b) / 2^L%2=0↔(a / 2^L%2=0/\b / 2^L%2=0):=by
  have h:=Nat.testBit_or a b L;rw[Du,Du,Du]at h;have h':=(decide_eq_decide (p:=(a|||b) / 2^L%2=1) (q:=a / 2^L%2=1∨b / 2^L%2=1)).mp (by rw[h,Bool.decide_or]);lia
 have C:((a:Int) / 2^L%2=0)↔a / 2^L%2=0:=by
  have:((a:Int) / 2^L%2)=((a / 2^L%2:Nat):Int):=by simp
  clear J e;lia
 have c:((b:Int) / 2^L%2=0)↔b / 2^L%2=0:=by
  have:((b:Int) / 2^L%2)=((b / 2^L%2:Nat):Int):=by simp
  clear hi e;lia
 rw[C,c,<- t];lia
noncomputable def Ou:Nat->Int->Int->Nat
 | 0,_,_=>0
 |n+1,i,j=>if i%2=0/\j%2=0 then 1+Ou n (i / 2) (j / 2) else 0
theorem rH:∀(n:Nat) (i j:Int),Ou n i j<=n
 | 0,_,_=>Ak _
 |n+1,i,j=>by
  unfold Ou;split
  .have:=rH n (i / 2) (j / 2);lia
  .lia
theorem MI (i:Int)(L:Nat):i / 2^L / 2=i / 2^(L+1):=by
 rw[JK,Int.ediv_ediv_of_nonneg (Hk (Qk L))]
noncomputable abbrev lS:AW:=top 69
theorem h9:aN ["i","j","levels","both","level"] ["i","j","levels"] (aA lS):=by walk_at "S"
def hU:c_:=λds P=>match ds with
 | [.int i,.int j,.int n]=>(0<=i/\0<=j/\0<=n)/\P (.fz (.int (Ou n.toNat i j)))
 |_=>False
theorem xy {f:Ac}{fd:Ag}(r:bG K mg "level_of" lS f fd)(B:bT mg)(KV:bQ K)(l:ny K mg "level"):
  bO P w K mg base "level_of" 1 ["i","j","levels"] (bL K 3 hU):=by
 refine cE.of r h9 (by walk_at "b") rfl (λc A o s H E t=>⟨_,_,(aD (a5 (i:=3) h9.nd rfl (Ap rfl) (aX Yi (pv 0) (pv 1)))
   (aD (a5 (i:=4) h9.nd rfl (Ap rfl) aE)
   (aD (mO AO (qO (bp kx (pv 4) (pv 2) (be _)) (mM (bp fP (aX QE (aX qV (pv 3) (pv 4)) aE) aE (be _)))).pt (aF (V1 (i:=4) h9.nd rfl (Ap rfl) aE Q8)))
   (aF (aP (pv 4)))))),
  (aK (aZ (aW (aJ b9 ax ax)))
   (aK (aZ (aW az))
   (aK (mK (qF (bh (aJ c0 ax ax)) (bh (aJ fQ (aH (aJ b9 (aH (aJ cj ax ax)) (aH az))) (aH az)))) (VC Yk (aH az)))
   (aY (aW aC))))),?_⟩)
 intro ds u h;unfold hU at h;split at h
 .rename_i i j n;obtain⟨⟨hi,J,hn⟩,k⟩:=h;fin2;refine⟨λm δ=>∃L:Nat,δ=[vI i,vI j,vI n,vI (DC i j),vI L]/\(L:Int)<=n/\m=n.toNat-L/\Ou n.toNat i j=L+Ou (n.toNat-L) (i / 2^L) (j / 2^L),⟨_,0,rfl,by omega,rfl,by simp⟩,?_⟩;rintro m δ ⟨L,rfl,h1,rfl,h2⟩;fin2;by_cases p:(L:Int)<n
  .rw [if_pos p];refine⟨by (clear h1;lia),?_⟩;rw[Bf];obtain⟨q,Q⟩:∃q,n.toNat-L=q+1:=⟨n.toNat-L-1,by (clear h1;lia)⟩
   rw[Q,Ou]at h2;have g:=RP hi J L;by_cases a:Cd (DC i j / 2^L) 1=0
   .rw [if_pos a];rw[if_pos (g.mp a),MI,MI]at h2;refine⟨n.toNat-(L+1),by lia,L+1,rfl,by lia,rfl,?_⟩;rw[show n.toNat-(L+1)=q by lia];lia
   .rw [if_neg a];rw[if_neg λz=>a (g.mpr z)]at h2;rw[h2]at k;exact k
  .rw [if_neg p];have e:n.toNat-L=0:=by lia
   rw[e,Ou]at h2;rw[h2]at k;simpa using k
 .exact h.elim
noncomputable def yC (p:Int×Int):D:=.tup [.int p.1,.int p.2]
noncomputable def gS (i w:Nat):List (Int×Int):=(Ax w).map λ(j:Nat)=>((i:Int),(j:Int))
noncomputable def gb (h w:Nat):List (Int×Int):=(Ax h).flatMap λi=>gS i w
noncomputable def sS (n:Nat)(p:Int×Int):Nat:=Ou n p.1 p.2
noncomputable def pT (n:Nat)(ps:List (Int×Int))(l:Nat):List (Int×Int):=ps.filter λp=>sS n p==l
noncomputable def cx (h w n:Nat):List (Int×Int):=((Ax (n+1)).map (pT n (gb h w))).reverse.flatten
noncomputable def m6 (n:Nat)(ps:List (Int×Int)):List OV:=(Ax (n+1)).map λl=>.nl ((pT n ps l).map λp=>.fz (yC p))
theorem Rg (n:Nat):m6 n []=(Ax (n+1)).map λ_=>OV.nl []:=rfl
theorem rN {n l:Nat}{ps:List (Int×Int)}(h:l<=n):(m6 n ps)[l]?=some (.nl ((pT n ps l).map λp=>.fz (yC p))):=by
 unfold m6;rw[AN,DM (by lia)];rfl
theorem NN {n:Nat}{ps:List (Int×Int)}{p:Int×Int}:(m6 n ps).set (sS n p) (.nl (((pT n ps (sS n p)).map λp=>OV.fz (yC p))++[.fz (yC p)]))=m6 n (ps++[p]):=by
 have h:sS n p<=n:=rH _ _ _;refine DQ λl=>?_
 rw[Fp];by_cases hl:l<=n
 .rw [rN hl,rN hl];have e:pT n (ps++[p]) l=pT n ps l++(if sS n p=l then [p] else []):=by
   unfold pT;by_cases z:sS n p=l<;>simp[z]
  rw[e];by_cases z:sS n p=l
  .rw [if_pos z,if_pos z,if_pos (by simp[m6];lia),A5,z];rfl
  .rw [if_neg z,if_neg z,Bi]
 .have c:(m6 n ps)[l]?=none:=Bc (by simp[m6];lia);have a:(m6 n (ps++[p]))[l]?=none:=Bc (by simp[m6];lia);rw[if_neg (by lia),c,a]
theorem zS {n l:Nat}{ps:List (Int×Int)}:(pT n ps l).length<=ps.length:=List.length_filter_le _ _
theorem ou {i w:Nat}:gb (i+1) w=gb i w++gS i w:=by
 unfold gb;rw[EN];simp
theorem zq {i j:Nat}:gS i (j+1)=gS i j++[((i:Int),(j:Int))]:=by
 unfold gS;rw[EN,A5];rfl
theorem tY {i w:Nat}:(gS i w).length=w:=by simp[gS]
theorem yu {h w:Nat}:(gb h w).length=h*w:=by
 induction h with
 |zero=>simp[gb]
 |succ h a=>rw[ou,AG,a,tY,JG]
theorem NM {n:Nat}{ps:List (Int×Int)}:(m6 n ps).map OV.val=(Ax (n+1)).map λl=>D.lst ((pT n ps l).map yC):=by
 unfold m6;rw[A8];refine Cp λl _=>?_
 show OV.val (.nl _)=_
 rw[OV.val,OV.cm,A8];rfl
theorem LM (k:Nat)(g:Nat->Nat):∀m:Nat,k<m->((Ax m).map λl=>g l+if k=l then 1 else 0).sum=((Ax m).map g).sum+1
 | 0,h=>by lia
 |m + 1,h=>by
  rw[EN,A5,A5,Hj,Hj];by_cases a:k=m
  .subst a;have:((Ax k).map λl=>g l+if k=l then 1 else 0)=(Ax k).map g:=by
    refine Cp λl hl=>?_
    rw[if_neg (by have:=Bz.mp hl;lia)];rfl
   rw[this];simp
   lia
  .rw [LM k g m (by lia)];simp[a]
   lia
theorem Ug:∀m:Nat,((Ax m).map λ_=>0).sum=0
 | 0=>rfl
 |m+1=>by
  rw[EN,A5,Hj,Ug m];rfl
theorem MA (n:Nat):∀ps:List (Int×Int),((Ax (n+1)).map λl=>(pT n ps l).length).sum=ps.length
 | []=>by
  have:((Ax (n+1)).map λl=>(pT n [] l).length)=(Ax (n+1)).map λ_=>0:=Cp λl _=>rfl
  exact Ug _
 |p :: ps=>by
  have e:((Ax (n+1)).map λl=>(pT n (p::ps) l).length)=(Ax (n+1)).map λl=>(pT n ps l).length+if sS n p=l then 1 else 0:=by
   refine Cp λl _=>?_
   unfold pT;by_cases z:sS n p=l<;>simp[z]
  rw[e,LM _ _ _ (by have:=rH n p.1 p.2;unfold sS;lia),MA n ps];rfl
theorem ic {h w n:Nat}:(cx h w n).length=h*w:=by
 unfold cx;rw[List.length_flatten,CI,List.sum_reverse,A8];exact (MA n (gb h w)).trans yu
theorem ls {a:Type}{xs:List (List a)}{i:Nat}{x:List a}(h:xs[i]?=some x):(xs.take (i+1)).flatten=(xs.take i).flatten++x:=by
 obtain⟨hi,e⟩:=Ab.mp h;rw[Bo hi,e];simp
noncomputable abbrev mI:AW:=top 70
theorem gu:aN ["high","wide","levels","groups","i","j","ordered","group"] ["high","wide","levels"] (aA mI):=by walk_at "S"
def nL:c_:=λds P=>∃h w n:Nat,ds=[.int (h:Int),.int (w:Int),.int (n:Int)]/\(h<=100/\w<=100/\n<=100)/\P (.nl ((cx h w n).map λp=>.fz (yC p)))
theorem Nu {f:Ac}{fd:Ag}(Df:bG K mg "places" mI f fd)(B:bT mg)(KV:bQ K)(L:ny K mg "level")(v:bO P w K mg base "level_of" 1 ["i","j","levels"] (bL K 3 hU)):
  bO P w K mg base "places" 2 ["high","wide","levels"] (bL K 3 nL):=by
 refine cE.of Df gu (by walk_at "b") rfl (λc A o s H E G=>⟨_,_,(aD (fA (i:=3) gu.nd rfl (Ap rfl) rfl (dO (by rfl) (by exact B.range) (ae (aX cT (pv 2) aE) ay)) (show bF (aA mI) _ from⟨rfl,by decide +kernel,by decide +kernel,by decide +kernel⟩) (N:=["level"]) (ix:=[none]) (show cD _ _ _ _ from trivial) (λ_ _ _=>(bf (i:=0) (show Be (["level"]:List Am) by decide +kernel) rfl (Ap rfl))) (λ_ _ _=>(cC ay)))
   (aD (dy AO rfl (dO (by rfl) (by exact B.range) (ae (pv 0) ay)) (bf (i:=4) gu.nd rfl (Ap rfl)) (aF (dy AO rfl (dO (by rfl) (by exact B.range) (ae (pv 1) ay)) (bf (i:=5) gu.nd rfl (Ap rfl)) (aF (bP (fo Bb PySem.F.slot_list_append PySem.F.type_list_append cM (aO ba (pv 3) (aQ v (G.mono (by decide)) (by rfl) (ae (pv 4) (ae (pv 5) (ae (pv 2) ay)))) (λ_ _=>rfl)) (ae (bH (ae (pv 4) (ae (pv 5) ay))) ay)))))))
   (aD (a5 (i:=6) gu.nd rfl (Ap rfl) (cC ay))
   (aD (dy AO rfl (vl rfl B.reversed (ae (pv 3) ay)) (bf (i:=7) gu.nd rfl (Ap rfl)) (aF (bP (fo Bb Fa E_ ry (pv 6) (ae (pv 7) ay)))))
   (aF (aP (pv 6))))))),
  (aK (aZ (cz (fJ (aB (aH (aJ b9 ax (aH az))) aI)) bj (c9 cB)))
   (aK (dw (fJ (aB ax aI)) bj (dw (fJ (aB ax aI)) bj (SA (aH (bB (aT (aw aC (aw aC (aw aC aG)))))) (aW (bX (aw aC (aw aC aG)))))))
   (aK (aZ (c9 cB))
   (aK (zg 3 (dw (SG (aw aC aG)) bj (Pq aC)))
   e_)))),?_⟩)
 rintro ds Pr ⟨h,a,n,rfl,⟨T,hw,hn⟩,k⟩;refine Ph λN hN=>?_
 fin2;refine⟨⟨by lia,by lia⟩,eQ.tR (λ_=>.nl []) (by lia) (λi hi Q q=>by fin2;exact q) ?_⟩;rw[show ((n:Int)+1).toNat=n+1 by lia,<- Rg];gp_on;gn_on;refine⟨⟨by lia,by lia⟩,λi δ=>i<=h/\∃r O m g,δ=[vI h,vI a,vI n,vL (m6 n (gb i a)),r,O,m,g],⟨Bv _,_,_,_,_,rfl⟩,?_,?_⟩
 .rintro i d δ hd ⟨M,r,O,m,g,rfl⟩;obtain⟨hi,rfl⟩:=eJ hd;rw[Bf]at hi;fin2;refine⟨⟨by lia,by lia⟩,λj δ=>∃O,δ=[vI h,vI a,vI n,vL (m6 n (gb i a++gS i j)),vI (0+(i:Int)*1),O,m,g],⟨O,by simp[gS]⟩,?_,?_⟩
  .rintro j e δ he ⟨O,rfl⟩;obtain⟨J,rfl⟩:=eJ he;rw[Bf]at J;rw[show 0+(i:Int)*1=i by lia,show 0+(j:Int)*1=j by lia];fin2;simp only[hU];refine⟨⟨by lia,by lia,by lia⟩,?_⟩;fin2;rw[Bf,Bf];have t:Ou n i j<=n:=rH _ _ _;refine⟨by lia,_,rN (l:=Ou n i j) t,?_,?_⟩
   .have h1:=zS (n:=n) (l:=Ou n i j) (ps:=gb i a++gS i j);rw[AG,yu,tY]at h1;have h2:i*a<=100*100:=Ee (by lia) hw;rw[Ay];lia
   .have e:=NN (n:=n) (ps:=gb i a++gS i j) (p:=((i:Int),(j:Int)));rw[BL,<- zq]at e;rw[<- e];exact⟨_,rfl⟩
  .rintro δ ⟨O,rfl⟩;rw[eC,Bf,<- ou];exact⟨hi,_,_,_,_,rfl⟩
 rintro δ ⟨hi,r,O,m,g,rfl⟩;rw[eC,Bf];gp_on;gn_on;gp_on;gn_on;rw[NM,<- CI];generalize U:some (Sl.own (OV.fz (D.lst ((Ax (n+1)).map λl=>D.lst ((pT n (gb h a) l).map yC)))))=C;refine⟨λi δ=>∃g,δ=[vI h,vI a,vI n,C,r,O,vL ((((((Ax (n+1)).map (pT n (gb h a))).reverse).take i).flatten).map λp=>.fz (yC p)),g],?_,?_,?_⟩
 .exact ⟨_,rfl⟩
 .rintro i d δ hd ⟨g,rfl⟩;obtain⟨l,hl,rfl⟩:=mV hd;have u:(((Ax (n+1)).map (pT n (gb h a))).reverse)[i]?=some (pT n (gb h a) l):=by
   rw[<- CI,AN,hl];rfl
  dsimp only;rw[ls u];have z:((((Ax (n+1)).map (pT n (gb h a))).reverse.take i).flatten).length+(pT n (gb h a) l).length<=10000:=by
   rw[<- AG,<- ls u];have h1:((((Ax (n+1)).map (pT n (gb h a))).reverse.take (i+1)).flatten).length<=(cx h a n).length:=by
    unfold cx
    conv=>rhs;rw[<- B4 (i+1) ((Ax (n+1)).map (pT n (gb h a))).reverse,List.flatten_append,AG]
    lia
   rw[ic]at h1;have h2:h*a<=100*100:=Ee T hw;lia
  fin2;refine⟨by lia,?_⟩;rw[A8,A5];exact⟨_,rfl⟩
 .rintro δ ⟨g,rfl⟩;rw[Ay,B8,BK,BW (by simp)];gp_on;fin2;exact k
noncomputable def Q6 (n:Nat)(p:Int×Int):List Int:=[0-(sS n p:Int),p.1,p.2]
def rJ (n:Nat)(p q:Int×Int):Prop:=HT.lexLt (Q6 n p) (Q6 n q)=true
theorem xT {n:Nat}{p q:Int×Int}(h:sS n q<sS n p):rJ n p q:=by
 unfold rJ Q6;rw[HT.jt,if_neg (by lia)];exact decide_eq_true (by lia)
theorem vS {n:Nat}{p q:Int×Int}(h:sS n p=sS n q)(r:p.1<q.1∨(p.1=q.1/\p.2<q.2)):rJ n p q:=by
 unfold rJ Q6;rw[HT.jt,if_pos (by lia),HT.jt];rcases r with r | ⟨h1,h2⟩
 .rw [if_neg (by lia)];exact decide_eq_true r
 .rw [if_pos h1,HT.jt,if_neg (by lia)];exact decide_eq_true h2
def P6 (p q:Int×Int):Prop:=p.1<q.1∨(p.1=q.1/\p.2<q.2)
theorem vK {i w:Nat}{p:Int×Int}:p∈gS i w↔p.1=i/\0<=p.2/\p.2<w:=by
 unfold gS;rw[A7];constructor
 .rintro ⟨j,h,rfl⟩;have:=Bz.mp h;exact⟨rfl,by show (0:Int)<=(j:Int);lia,by show (j:Int)<w;lia⟩
 .rintro ⟨h1,h2,a⟩;exact⟨p.2.toNat,Bz.mpr (by lia),IM h1.symm (by show ((p.2.toNat:Nat):Int)=p.2;lia)⟩
theorem vM {h w:Nat}{p:Int×Int}:p∈gb h w↔(0<=p.1/\p.1<h)/\0<=p.2/\p.2<w:=by
 unfold gb;rw[List.mem_flatMap];constructor
 .rintro ⟨i,hi,a⟩;have:=Bz.mp hi;obtain⟨h1,h2⟩:=vK.mp a;exact⟨by lia,h2⟩
 .rintro ⟨h1,h2⟩;exact⟨p.1.toNat,Bz.mpr (by omega),vK.mpr ⟨by lia,h2⟩⟩
theorem VS {i w:Nat}:(gS i w).Pairwise P6:=by
 unfold gS;rw[EE];exact GD (λ{a b} h=>.inr ⟨rfl,by show (a:Int)<(b:Int);lia⟩) (G7)
theorem RT {w:Nat}:∀h:Nat,(gb h w).Pairwise P6
 | 0=>by simp[gb]
 |h+1=>by
  rw[ou,List.pairwise_append];refine⟨RT h,VS,λp a q Q=>.inl ?_⟩;have h1:=(vM.mp a).1;have h2:=(vK.mp Q).1;lia
theorem zo {h w n:Nat}:(cx h w n).Pairwise (rJ n):=by
 unfold cx;rw[List.pairwise_flatten];constructor
 .intro l hl;rw[DD,A7]at hl;obtain⟨k,_,rfl⟩:=hl;have h1:(pT n (gb h w) k).Pairwise P6:=(RT h).filter _;refine DX (λ{a b} j B A=>vS ?_ A) h1;have c:sS n a=k:=by simpa using (Dw.mp j).2
  have e:sS n b=k:=by simpa using (Dw.mp B).2
  rw[c,e]
 .rw [List.pairwise_reverse,EE];refine GD (λ{a b} A x g y f=>xT ?_) (G7);have c:sS n x=b:=by simpa using (Dw.mp g).2
  have e:sS n y=a:=by simpa using (Dw.mp f).2
  lia
theorem oI {h w n:Nat}{p:Int×Int}(a:p∈cx h w n):(0<=p.1/\p.1<h)/\0<=p.2/\p.2<w:=by
 obtain⟨l,hl,a⟩:=Im.mp a;rw[DD,A7]at hl;obtain⟨k,_,rfl⟩:=hl;exact vM.mp (Dw.mp a).1
noncomputable def NB:D->Bool
 | .int _=>true
 |_=>false
noncomputable def xh (w:Int):D->Bool
 | .lst xs=>decide ((xs.length:Int)=w) && xs.all NB
 |_=>false
noncomputable def wW (n:Nat):Bool:=decide (1<=n) && decide (n<=64)
noncomputable def zr:D->Bool
 | .lst (.lst r::a)=>wW (a.length+1) && wW r.length && (D.lst r::a).all (xh r.length)
 |_=>false
noncomputable def Mw:D->Bool
 | .ty _=>false
 | .fn _=>false
 | .exc _=>false
 | .obj _ _ _=>false
 | .pW _ _ _ _=>false
 |_=>true
def Õ (d:D):Prop:=Mw d=true/\∀xs,d = .lst xs->xs.length<=1000/\∀x∈xs,Mw x=true/\∀ys,x = .lst ys->ys.length<=1000/\∀y∈ys,Mw y=true
noncomputable abbrev ka:AW:=top 9
theorem uW:aN ["thing"] ["thing"] (aA ka):=by walk_at "S"
def gh:c_:=λds P=>∃d,ds=[d]/\Mw d=true/\P (.fz (.bl (NB d)))
theorem vx {f:Ac}{fd:Ag}(a:bG K mg "is_number" ka f fd)(B:bT mg)(KV:bQ K):
  bO P w K mg base "is_number" 1 ["thing"] (bL K 1 gh):=by
 refine cE.of a uW (by walk_at "b") rfl (λc A o s H E r=>⟨_,_,(aF (aP (gW (aM cw (by rfl) B.isinstance Bl (ae (pv 0) (ae (dk (v:=.ty "int") (by rfl) B.int F9 (by rfl)) ay))) (jr (Qq (aM cw (by rfl) B.isinstance Bl (ae (pv 0) (ae (dk (v:=.ty "bool") (by rfl) B.bool Eu (by rfl)) ay)))))))),
  (aY (aW (fb (bt (eh KV) (aB ax (aB (aH fO) aI))) (L9 (bt (eh KV) (aB ax (aB (aH fO) aI))))))),?_⟩)
 rintro ds e ⟨d,rfl,h,k⟩
 cases d<;>first | (simp[Mw]at h;done) | (fin2;exact k)
noncomputable abbrev u_:AW:=top 17
theorem Pe:aN ["one","number"] ["one","number"] (aA u_):=by walk_at "S"
def iP:c_:=λds P=>∃a b n:Int,ds=[.tup [.int a,.int b],.int n]/\P (.fz (.bl (decide (a<=n) && decide (n<=b))))
theorem QJ {f:Ac}{fd:Ag}(e:bG K mg "holds" u_ f fd)(B:bT mg)(KV:bQ K):
  bO P w K mg base "holds" 1 ["one","number"] (bL K 2 iP):=by
 refine cE.of e Pe (by walk_at "b") rfl (λc A o s H E r=>⟨_,_,(aF (aP (Qt mR mR (aO aS (pv 0) aE (λ_ _=>rfl)) (pv 1) (aO aS (pv 0) aE (λ_ _=>rfl))))),
  (aY (aW (qK c0 c0 (a_ (cQ.b aR) ax (aH az)) ax (a_ (cQ.b aR) ax (aH az))))),?_⟩)
 rintro ds g ⟨a,b,n,rfl,k⟩;fin2;by_cases h:a<=n
 .rw [if_pos h];rw[decide_eq_true h,Cg]at k;exact k
 .rw [if_neg h];rw[decide_eq_false h,Ff]at k;exact k
noncomputable abbrev mJ:AW:=top 39
theorem Nc:aN ["thing","wide"] ["thing","wide"] (aA mJ):=by walk_at "S"
def tH:c_:=λds P=>∃(d:D) (w:Int),ds=[d,.int w]/\Mw d=true/\(∀xs,d = .lst xs->xs.length<=1000/\∀x∈xs,Mw x=true)/\P (.fz (.bl (xh w d)))
theorem uG {a:Type}{f:a->Bool}{xs:List a}:(xs.map f).all id=xs.all f:=by simp[ BF]
theorem Nv {f:Ac}{fd:Ag}(j:bG K mg "is_row" mJ f fd)(B:bT mg)(KV:bQ K)(n:bO P w K mg base "is_number" 1 ["thing"] (bL K 1 gh)):
  bO P w K mg base "is_row" 2 ["thing","wide"] (bL K 2 tH):=by
 refine cE.of j Nc (by walk_at "b") rfl (λc A o s H E r=>⟨_,_,(aD (bN (dX (cg (bY (aM cw (by rfl) B.isinstance Bl (ae (pv 0) (ae (dk (v:=.ty "list") (by rfl) B.list Bs (by rfl)) ay))))) (dG (bp jE (aM aU (by rfl) B.len AS (ae (pv 0) ay)) (pv 1) (be _)))).pt (aF (aP dJ)) br)
   (aF (aP (aM (gx rfl) (by rfl) B.all Gu (ae (c5 rfl (cF (pv 0)) (show bF (aA mJ) _ from⟨rfl,by decide +kernel,by decide +kernel,by decide +kernel⟩) (N:=["number"]) (ix:=[none]) (show cD _ _ _ _ from trivial) (λ_ _ _=>(bf (i:=0) (show Be (["number"]:List Am) by decide +kernel) rfl (Ap rfl))) (λ_ _ _=>(aQ n (r.mono (by decide)) (by rfl) (ae (pv 0) ay)))) ay))))),
  (aK (bS (dW (cb (dQ (bt (eh KV) (aB ax (aB (aH fO) aI))))) (bh (aJ jF (aH (bt bV (aB ax aI))) ax))) (aY (aW dI)) bo)
   (aY (aW (bt ot (aB (aH (bB (cz (cL aC) bj (aT (aw aC aG))))) aI))))),?_⟩)
 rintro ds l ⟨d,w,rfl,g,a,k⟩
 cases d with
 |lst xs=>
  obtain⟨hl,e⟩:=a xs rfl;fin2;simp only[xh]at k;by_cases h:(xs.length:Int)=w
  .rw [decide_eq_true h]at k ⊢;simp only[EF,Dj,if_false];rw[show xs=xs.map id by simp];refine eQ.map xs id (λx=>.fz (.bl (NB x))) (by lia) (λx a Q q=>?_) ?_
   .fin2;exact⟨x,rfl,e x a,q⟩
   .fin2;refine⟨xs.map NB,by simp only[A8,BF,OV.val],?_⟩;rw[uG];exact k
  .rw [decide_eq_false h]at k ⊢;simp only[Fe,if_true];exact k
 |_=>first | (simp[Mw]at g;done) | (fin2;exact k)
noncomputable abbrev gm:AW:=top 40
theorem sy:aN ["thing"] ["thing"] (aA gm):=by walk_at "S"
def lA:c_:=λds P=>∃d:D,ds=[d]/\Õ d/\P (.fz (.bl (zr d)))
theorem O7 {n:Nat}:(decide ((1:Int)<=(n:Int)) && decide ((n:Int)<=64))=wW n:=by
 congr 1
 .exact decide_eq_decide.mpr (by omega)
 .exact decide_eq_decide.mpr (by omega)
theorem sM {f:Ac}{fd:Ag}(J:bG K mg "is_picture" gm f fd)(B:bT mg)(KV:bQ K)(g:yw K mg "SIZES" (D.tup [.int 1,.int 64]))(h:bO P w K mg base "holds" 1 ["one","number"] (bL K 2 iP))(C:bO P w K mg base "is_row" 2 ["thing","wide"] (bL K 2 tH)):
  bO P w K mg base "is_picture" 3 ["thing"] (bL K 1 lA):=by
 refine cE.of J sy (by walk_at "b") rfl (λc A o s H E e=>⟨_,_,(aD (bN (dX (cg (bY (aM cw (by rfl) B.isinstance Bl (ae (pv 0) (ae (dk (v:=.ty "list") (by rfl) B.list Bs (by rfl)) ay))))) (dG (cg (bY (aQ h (e.mono (by decide)) (by rfl) (ae (gU (by rfl) g) (ae (aM aU (by rfl) B.len AS (ae (pv 0) ay)) ay))))))).pt (aF (aP dJ)) br)
   (aD (bN (dX (cg (bY (aM cw (by rfl) B.isinstance Bl (ae (aO ba (pv 0) aE (λ_ _=>rfl)) (ae (dk (v:=.ty "list") (by rfl) B.list Bs (by rfl)) ay))))) (dG (cg (bY (aQ h (e.mono (by decide)) (by rfl) (ae (gU (by rfl) g) (ae (aM aU (by rfl) B.len AS (ae (aO ba (pv 0) aE (λ_ _=>rfl)) ay)) ay))))))).pt (aF (aP dJ)) br)
   (aF (aP (aM (gx rfl) (by rfl) B.all Gu (ae (c5 rfl (cF (pv 0)) (show bF (aA gm) _ from⟨rfl,by decide +kernel,by decide +kernel,by decide +kernel⟩) (N:=["row","thing"]) (ix:=[none,some 0]) (show cD _ _ _ _ from⟨⟨rfl,rfl,.inl rfl⟩,trivial⟩) (λ_ _ _=>(bf (i:=0) (show Be (["row","thing"]:List Am) by decide +kernel) rfl (Ap rfl))) (λ_ _ _=>(aQ C (e.mono (by decide)) (by rfl) (ae (pv 0) (ae (aM aU (by rfl) B.len AS (ae (aO ba (pv 1) aE (λ_ _=>rfl)) ay)) ay))))) ay)))))),
  (aK (bS (dW (cb (dQ (bt (eh KV) (aB ax (aB (aH fO) aI))))) (cb (dQ (bB (aT (aw qJ (aw (bt bV (aB ax aI)) aG))))))) (aY (aW dI)) bo)
   (aK (bS (dW (cb (dQ (bt (eh KV) (aB (a_ (cQ.b bD) ax (aH az)) (aB (aH fO) aI))))) (cb (dQ (bB (aT (aw qJ (aw (bt bV (aB (a_ (cQ.b bD) ax (aH az)) aI)) aG))))))) (aY (aW dI)) bo)
   (aY (aW (bt ot (aB (aH (bB (cz (cL aC) bj (aT (aw aC (aw (bt bV (aB (a_ (cQ.b bD) ax (aH az)) aI)) aG)))))) aI)))))),?_⟩)
 rintro ds L ⟨d,rfl,⟨G,z⟩,k⟩
 cases d with
 |lst xs=>
  obtain⟨hl,m⟩:=z xs rfl;fin2;refine⟨1,64,_,rfl,?_⟩;fin2;rw[O7]
  cases xs with
  |nil=>exact k
  |cons x a=>
   rw[show (x::a).length=a.length+1 from rfl];have u:=m x AF;by_cases t:wW (a.length+1)=true
   .rw [t];simp only[EF,Dj,if_false];refine⟨x,Lz,?_⟩
    cases x with
    |lst r=>
     fin2;refine⟨1,64,_,rfl,?_⟩;fin2;rw[O7];simp only[zr,t,Cg]at k;by_cases e:wW r.length=true
     .rw [e];rw[e,Cg]at k;simp only[EF,Dj,if_false];rw[show D.lst r::a=(D.lst r::a).map id by simp];refine eQ.map (D.lst r::a) id (λx=>.fz (.bl (xh r.length x))) (by simp at hl ⊢;lia) (λx p Q q=>?_) ?_
      .fin2;have:=m x (by simpa using p);simp only[List.map_id_fun',id_eq,B7,Kh,Lz];exact⟨x,_,rfl,this.1,this.2,q⟩
      .fin2;refine⟨(D.lst r::a).map (xh r.length),by simp only[A8,B7,BF,OV.val],?_⟩;rw[uG];exact k
     .have l:wW r.length=false:=by simpa using e
      rw[l];rw[l,Ff]at k;simp only[Fe,if_true];exact k
    |_=>
     have n:=u.1;simp only[zr]at k
     first | (simp[Mw]at n;done) | (fin2;exact k)
   .have j:wW (a.length+1)=false:=by simpa using t
    rw[j];simp only[Fe,if_true]
    cases x<;>simp only[zr,j,Ff]at k<;>exact k
 |_=>first | (simp[Mw]at G;done) | (fin2;exact k)
theorem T9 {xs:List Int}:(xs.map D.int).all NB=true:=by simp[NB]
theorem xc {w:Nat}{f:Nat->Int}:(tab w λj=>D.int (f j))=(tab w f).map D.int:=by rw[dS]
theorem Nj {xs:List Int}{w:Int}:xh w (.lst (xs.map D.int))=decide ((xs.length:Int)=w):=by
 simp only[xh,T9,Fz,Ay]
theorem Nl {h w:Nat}{e:Nat->Nat->Int}(k:0<h)(g:0<w):zr (.lst (eO D.int h w e))=(decide (h<=64) && decide (w<=64)):=by
 obtain⟨h',rfl⟩:∃h',h=h'+1:=⟨h-1,by lia⟩
 have f:eO D.int (h'+1) w e=D.lst (tab w λj=>D.int (e 0 j))::(Ax h').map λi=>D.lst (tab w λj=>D.int (e (i+1) j)):=by
  unfold eO
  conv=>lhs;unfold tab
  rw[G6,B7,A8];rfl
 have a:(eO D.int (h'+1) w e).all (xh w)=true:=by
  rw[FI];intro x c;obtain⟨i,_,rfl⟩:=A7.mp c;rw[xc,Nj,bb];simp
 rw[f]at a ⊢;simp only[zr,bb,a,Fz,Ay,BK];unfold wW;rw[decide_eq_true (show 1<=h'+1 by lia),decide_eq_true (show 1<=w by lia),Cg,Cg]
theorem QM {xs:List D}(hl:xs.length<=1000)(h:∀x∈xs,Mw x=true/\∀ys,x = .lst ys->ys.length<=1000/\∀y∈ys,Mw y=true):Õ (.lst xs):=⟨rfl,λa e=>by cases e;exact⟨hl,h⟩⟩
theorem V' {l:List Int}(hl:l.length<=1000):Mw (D.lst (l.map D.int))=true/\∀ys,D.lst (l.map D.int) = .lst ys->ys.length<=1000/\∀y∈ys,Mw y=true:=⟨rfl,λys e=>by
 cases e;refine⟨by simpa using hl,λy h=>?_⟩;obtain⟨i,_,rfl⟩:=A7.mp h;rfl⟩
theorem Nz {h w:Nat}{e:Nat->Nat->Int}(c:h<=100)(hw:w<=100):Õ (.lst (eO D.int h w e)):=by
 refine QM (by rw[eO,bb];lia) λy a=>?_
 obtain⟨k,_,rfl⟩:=A7.mp a;rw[xc];exact V' (by rw[bb];lia)
def i':c_:=λ_ _=>False
noncomputable abbrev j_:AW:=top 29
theorem uV:aN ["name"] ["name"] (aA j_):=by walk_at "S"
theorem vw {f:Ac}{fd:Ag}(a:bG K mg "ladder_of" j_ f fd):
  bO P w K mg base "ladder_of" 1 ["name"] (bL K 1 i'):=by
 refine cE.never (sp:=i') a uV (by walk_at "b") rfl ?_;exact λds r h=>h.elim
def qj:c_:=λds P=>∃f:Lf,ds=[wB f]/\f.Ok/\P (.fz (.bl true))
def ja:c_:=λds P=>∃fs:List Lf,ds=[d8 fs]/\fs.length<=6/\(∀f∈fs,f.Ok)/\P (.fz (.bl true))
def lN:c_:=λds P=>∃n at':Nat,ds=[.int n,.int at']/\((at'=0/\1<=n/\n<=64)∨(at'=1/\1<=n/\n<=64)∨(at'=2/\n<=6)∨(at'=3/\n<=4000))/\P (.fz (.bl true))
noncomputable def gd (h w:Nat)(e:Nat->Nat->Int)(fs:List Lf)(L:Nat):List Int:=(cx h w L).map λp=>pk 0 (λk=>cc fs (2^k:Nat)) h w L e p.1.toNat p.2.toNat
def wV:c_:=λds P=>∃(h w:Nat) (e:Nat->Nat->Int) (fs:List Lf) (L b:Nat),ds=[Nb h w e,d8 fs,.int L]/\fs.length<=6/\(∀f∈fs,f.Ok)/\L<=6/\0<h/\h<=64/\0<w/\w<=64/\b<=4000/\(∀x∈gd h w e fs L,i6 x<=b)/\3*(h*w)*b<=900000/\
 ∀(n:Nat) (bs:List Bool) (v:Wk),(∃x∈gd h w e fs L,i6 x=n)->(∀x∈gd h w e fs L,i6 x<=n)->n<=b->sf (gd h w e fs L) (Wk.turn ⟨n,0,[],[⟨0,0,(gd h w e fs L).length,1-2^n,2^n-1⟩],[]⟩) bs->jN (Wk.turn ⟨n,0,[],[⟨0,0,(gd h w e fs L).length,1-2^n,2^n-1⟩],[]⟩) bs v->v.pl<0->kI (gd h w e fs L).length v->dz (gd h w e fs L) v->v.us=bs.length->bs.length<=900000->
  P (.fz (.tup [.tup [.int h,.int w,.int L,.int n,d8 fs],.str (b_ bs)]))
noncomputable abbrev kN:AW:=top 27
theorem y8:aN ["thing"] ["thing"] (aA kN):=by walk_at "S"
noncomputable abbrev ia:AW:=top 28
theorem uX:aN ["thing"] ["thing"] (aA ia):=by walk_at "S"
noncomputable abbrev nQ:AW:=top 78
theorem y7:aN ["thing","at"] ["thing","at"] (aA nQ):=by walk_at "S"
noncomputable abbrev pG:AW:=top 82
theorem gJ:aN ["picture","ladder","levels","lifts","wave","high","wide","numbers","planes"] ["picture","ladder","levels"] (aA pG):=by walk_at "S"
noncomputable def Ē (q:Int×Int×Int):D:=.tup [.int q.1,.tup [.int q.2.1,.int q.2.2]]
theorem zy {f:Ac}{fd:Ag}(J:bG K mg "is_lift" kN f fd)(B:bT mg)(KV:bQ K)(g:yw K mg "PART_SPANS" (D.tup [.tup [.int 0,.int 1],.tup [.int (-8),.int 8],.tup [.int (-8),.int 8],.tup [.int (-64),.int 64],.tup [.int 0,.int 8]]))(u:bO P w K mg base "is_number" 1 ["thing"] (bL K 1 gh))(C:bO P w K mg base "holds" 1 ["one","number"] (bL K 2 iP)):
  bO P w K mg base "is_lift" 2 ["thing"] (bL K 1 qj):=by
 refine cE.of J y8 (by walk_at "b") rfl (λc A o s H E t=>⟨_,_,(aD (bN (dX (cg (bY (aM cw (by rfl) B.isinstance Bl (ae (pv 0) (ae (dk (v:=.ty "tuple") (by rfl) B.tuple BM (by rfl)) ay))))) (dG (bp jE (aM aU (by rfl) B.len AS (ae (pv 0) ay)) (aM aU (by rfl) B.len AS (ae (gU (by rfl) g) ay)) (be _)))).pt (aF (aP dJ)) br)
   (aF (aP (aM (gx rfl) (by rfl) B.all Gu (ae (c5 rfl (SV rfl B.zip (ae (pv 0) (ae (gU (by rfl) g) ay))) (show bF (aA kN) _ from⟨rfl,by decide +kernel,by decide +kernel,by decide +kernel⟩) (N:=["part","span"]) (ix:=[none,none]) (show cD _ _ _ _ from trivial) (λ_ _ _=>(nV (n:=2) rfl (dh (bf (i:=0) (show Be (["part","span"]:List Am) by decide +kernel) rfl (Ap rfl)) (dh (bf (i:=1) (show Be (["part","span"]:List Am) by decide +kernel) rfl (Ap rfl)) kT)))) (λ_ _ _=>(gW (aQ u (t.mono (by decide)) (by rfl) (ae (pv 0) ay)) (jr (aQ C (t.mono (by decide)) (by rfl) (ae (pv 1) (ae (pv 0) ay))))))) ay))))),
  (aK (bS (dW (cb (dQ (bt (eh KV) (aB ax (aB (aH fO) aI))))) (bh (aJ jF (aH (bt bV (aB ax aI))) (aH (bt bV (aB (aH qJ) aI)))))) (aY (aW dI)) bo)
   (aY (aW (bt ot (aB (aH (bB (cz (SE (aw aC (aw qJ aG))) (nU (de bj (de bj kS))) (aW (fb (bB (aT (aw aC aG))) (bB (aT (aw aC (aw aC aG))))))))) aI))))),?_⟩)
 rintro ds M ⟨f,rfl,ok,h⟩;unfold wB;fin2;have G:Bu (λ(p:D×D)=>D.tup [p.fst,p.snd]) ([D.int f.h,D.int f.l,D.int f.r,D.int f.a,D.int f.s].zip [D.tup [D.int 0,D.int 1],D.tup [D.int (-8),D.int 8],D.tup [D.int (-8),D.int 8],D.tup [D.int (-64),D.int 64],D.tup [D.int 0,D.int 8]])=[(f.h,0,1),(f.l,-8,8),(f.r,-8,8),(f.a,-64,64),(f.s,0,8)].map Ē:=rfl;rw[G];have e:∀q∈[(f.h,(0:Int),(1:Int)),(f.l,-8,8),(f.r,-8,8),(f.a,-64,64),(f.s,0,8)],q.2.1<=q.1/\q.1<=q.2.2:=by
  intro q e;simp only[AB,Ct,or_false]at e;have h1:=ok.h;rcases e with rfl |rfl |rfl |rfl |rfl
  .exact ⟨by show 0<=f.h;omega,by show f.h<=1;omega⟩
  .exact ok.l
  .exact ok.r
  .exact ok.a
  .exact ok.s
 generalize m:[(f.h,(0:Int),(1:Int)),(f.l,-8,8),(f.r,-8,8),(f.a,-64,64),(f.s,0,8)]=j at e;have L:j.length<=5:=by rw[<- m];exact Ak 5
 refine⟨λi δ ts=>∃k O:Option Sl,δ=[k,O]/\ts=(j.take i).map λ_=>.fz (.bl true),⟨none,none,rfl,rfl⟩,?_,?_⟩
 .rintro i d δ ts hd ⟨k,O,rfl,rfl⟩;obtain⟨q,Q,rfl⟩:=mV hd;have z:=e q (An Q);simp only[Ē,gT,oh,uh,gN,Bg,Eg,FD,true_and,CO,Dh];fin2;refine⟨by rw[Bp];omega,_,rfl,rfl,?_⟩;show if true=true then _ else _
  rw[if_pos rfl];refine⟨_,_,_,rfl,?_⟩;rw[decide_eq_true z.1,decide_eq_true z.2];refine⟨some (Sl.own (OV.fz (D.int q.1))),some (Sl.own (OV.fz (D.tup [D.int q.2.1,D.int q.2.2]))),rfl,?_⟩;rw[ED,Q,A5];rfl
 .rintro δ ts ⟨k,O,rfl,rfl⟩;fin2;refine⟨j.map λ_=>true,by rw[BU,A8,A8];rfl,?_⟩;rw[show (j.map λ_=>true).all id=true by simp];exact h
theorem vy {f:Ac}{fd:Ag}(a:bG K mg "is_ladder" ia f fd)(B:bT mg)(KV:bQ K)(g:∃t,mg "MOST_LIFTS"=some (.int 6 t))(l:bO P w K mg base "is_lift" 2 ["thing"] (bL K 1 qj)):
  bO P w K mg base "is_ladder" 3 ["thing"] (bL K 1 ja):=by
 refine cE.of a uX (by walk_at "b") rfl (λc A o s H E r=>⟨_,_,(aD (bN (dX (cg (bY (aM cw (by rfl) B.isinstance Bl (ae (pv 0) (ae (dk (v:=.ty "tuple") (by rfl) B.tuple BM (by rfl)) ay))))) (dG (bp oK (aM aU (by rfl) B.len AS (ae (pv 0) ay)) (aV (by rfl) g) (be _)))).pt (aF (aP dJ)) br)
   (aF (aP (aM (gx rfl) (by rfl) B.all Gu (ae (c5 rfl (Qn (pv 0)) (show bF (aA ia) _ from⟨rfl,by decide +kernel,by decide +kernel,by decide +kernel⟩) (N:=["lift"]) (ix:=[none]) (show cD _ _ _ _ from trivial) (λ_ _ _=>(bf (i:=0) (show Be (["lift"]:List Am) by decide +kernel) rfl (Ap rfl))) (λ_ _ _=>(aQ l (r.mono (by decide)) (by rfl) (ae (pv 0) ay)))) ay))))),
  (aK (bS (dW (cb (dQ (bt (eh KV) (aB ax (aB (aH fO) aI))))) (bh (aJ c0 (aH (bt bV (aB ax aI))) (aH az)))) (aY (aW dI)) bo)
   (aY (aW (bt ot (aB (aH (bB (cz (PH aC) bj (aT (aw aC aG))))) aI))))),?_⟩)
 rintro ds e ⟨fs,rfl,hl,ok,h⟩;unfold d8;fin2;rw[if_neg (by omega)];refine eQ.map fs wB (λ_=>.fz (.bl true)) (by omega) (λf hf Q q=>?_) ?_
 .fin2;exact⟨f,rfl,ok f hf,q⟩
 fin2;refine⟨fs.map λ_=>true,by simp only[A8,BF,OV.val],?_⟩;rw[show (fs.map λ_=>true).all id=true by simp];exact h
theorem zx {f:Ac}{fd:Ag}(k:bG K mg "is_part" nQ f fd)(B:bT mg)(KV:bQ K)(g:yw K mg "NUMBER_SPANS" (D.tup [.tup [.int 1,.int 64],.tup [.int 1,.int 64],.tup [.int 0,.int 6],.tup [.int 0,.int 4000]]))(u:bO P w K mg base "is_number" 1 ["thing"] (bL K 1 gh))(l:bO P w K mg base "holds" 1 ["one","number"] (bL K 2 iP)):
  bO P w K mg base "is_part" 2 ["thing","at"] (bL K 2 lN):=by
 refine cE.of k y7 (by walk_at "b") rfl (λc A o s H E a=>⟨_,_,(aF (aP (gW (aQ u (a.mono (by decide)) (by rfl) (ae (pv 0) ay)) (jr (aQ l (a.mono (by decide)) (by rfl) (ae (aO aS (gU (by rfl) g) (pv 1) (λ_ _=>rfl)) (ae (pv 0) ay))))))),
  (aY (aW (fb (bB (aT (aw aC aG))) (bB (aT (aw (bC aR qJ aC) (aw aC aG))))))),?_⟩)
 rintro ds j ⟨n,at',rfl,hn,h⟩;have key:∀(lo hi:Int),lo<=n->n<=hi->hQ [D.tup [D.int 1,D.int 64],D.tup [D.int 1,D.int 64],D.tup [D.int 0,D.int 6],D.tup [D.int 0,D.int 4000]] (at':Int)=some (.tup [.int lo,.int hi])->∃d,hQ [D.tup [D.int 1,D.int 64],D.tup [D.int 1,D.int 64],D.tup [D.int 0,D.int 6],D.tup [D.int 0,D.int 4000]] (at':Int)=some d/\iP [d,.int n] λr=>j (.fz r.val):=λlo hi h1 h2 e=>by
  refine⟨_,e,lo,hi,n,rfl,?_⟩;rw[decide_eq_true h1,decide_eq_true h2];exact h
 fin2;refine⟨_,rfl,rfl,?_⟩;show if true=true then _ else _
 rw[if_pos rfl];rcases hn with⟨rfl,h1,h2⟩ | ⟨rfl,h1,h2⟩ | ⟨rfl,h2⟩ | ⟨rfl,h2⟩
 .exact key 1 64 (by omega) (by omega) rfl
 .exact key 1 64 (by omega) (by omega) rfl
 .exact key 0 6 (by omega) (by omega) rfl
 .exact key 0 4000 (by omega) (by omega) rfl
theorem QK {f:Ac}{fd:Ag}{T:Ac}{ē:K3}(Df:wy K mg "coded" pG f fd T #[.none,.int 2 ē])(B:bT mg)(KV:bQ K)(G:∃t,mg "LEVELS"=some (.int 2 t))(u:bO P w K mg base "is_picture" 3 ["thing"] (bL K 1 lA))(r:bO P w K mg base "ladder_of" 1 ["name"] (bL K 1 i'))(C:bO P w K mg base "is_ladder" 3 ["thing"] (bL K 1 ja))(g:bO P w K mg base "is_part" 2 ["thing","at"] (bL K 2 lN))(U:bO P w K mg base "laid" 5 ["picture","ladder","levels"] (bL K 3 LQ))(q:bO P w K mg base "places" 2 ["high","wide","levels"] (bL K 3 nL))(a:bO P w K mg base "planes_of" 2 ["some"] (bL K 1 mr))(Q:bO P w K mg base "told" 5 ["some","planes"] (bL K 2 LO)):
  LC P w K mg base "coded" 6 ["picture","ladder","levels"] (bL K 3 wV) [.cn,.int 2]:=by
 refine Vm.of (ds:=[.none,.int 2 ē]) Df gJ (λ_ _ _ _ _ _ us hl=>match us,hl with | [_,_,_],_=>⟨_,rfl,rfl⟩) (λ_ _ _ _ _ _ us hl=>by have WK:us.length=1:=(by simpa using hl);exact match us,WK with | [_],_=>⟨_,rfl,rfl⟩) (.cons rfl (.cons ⟨_,rfl⟩ (.nil))) rfl (λc A o s H E hr=>⟨_,_,(aD (bN (cg (bY (aQ u (hr.mono (by decide)) (by rfl) (ae (pv 0) ay)))) (aF ko) br)
   (aD (a5 (i:=3) gJ.nd rfl (Ap rfl) (xu (bp QB (pv 1) fg (be _)) (aQ r (hr.mono (by decide)) (by rfl) (ae f6 ay)) (pv 1)))
   (aD (bN (cg (bY (aQ C (hr.mono (by decide)) (by rfl) (ae (pv 3) ay)))) (aF ko) br)
   (aD (bN (cg (bY (aQ g (hr.mono (by decide)) (by rfl) (ae (pv 2) (ae (aV (by rfl) G) ay))))) (aF ko) br)
   (aD (a5 (i:=4) gJ.nd rfl (FM rfl) (aQ U (hr.mono (by decide)) (by rfl) (ae (pv 0) (ae (pv 3) (ae (pv 2) ay)))))
   (aD (a5 (i:=5) gJ.nd rfl (Ap rfl) (aM aU (by rfl) B.len AS (ae (pv 0) ay)))
   (aD (a5 (i:=6) gJ.nd rfl (Ap rfl) (aM aU (by rfl) B.len AS (ae (aO ba (pv 0) aE (λ_ _=>rfl)) ay)))
   (aD (fA (i:=7) gJ.nd rfl (Ap rfl) rfl (cF (aQ q (hr.mono (by decide)) (by rfl) (ae (pv 5) (ae (pv 6) (ae (pv 2) ay))))) (show bF (aA pG) _ from⟨rfl,by decide +kernel,by decide +kernel,by decide +kernel⟩) (N:=["i","j","wave"]) (ix:=[none,none,some 4]) (show cD _ _ _ _ from⟨⟨rfl,rfl,.inl rfl⟩,trivial⟩) (λ_ _ _=>(nV (n:=2) rfl (dh (bf (i:=0) (show Be (["i","j","wave"]:List Am) by decide +kernel) rfl (Ap rfl)) (dh (bf (i:=1) (show Be (["i","j","wave"]:List Am) by decide +kernel) rfl (Ap rfl)) kT)))) (λ_ _ _=>(aO ba (aO ba (pv 2) (pv 0) (λ_ _=>rfl)) (pv 1) (λ_ _=>rfl))))
   (aD (a5 (i:=8) gJ.nd rfl (Ap rfl) (aQ a (hr.mono (by decide)) (by rfl) (ae (pv 7) ay)))
   (aF (aP (bH (ae (bH (ae (pv 5) (ae (pv 6) (ae (pv 2) (ae (pv 8) (ae (pv 3) ay)))))) (ae (aQ Q (hr.mono (by decide)) (by rfl) (ae (pv 7) (ae (pv 8) ay))) ay)))))))))))))),
  (aK (bS (cb (dQ (bB (aT (aw aC aG))))) kj bo)
   (aK (aZ (aW (UA (bh (aJ QO ax (aH fZ))) (bB (aT (aw fY aG))) aC)))
   (aK (bS (cb (dQ (bB (aT (aw aC aG))))) kj bo)
   (aK (bS (cb (dQ (bB (aT (aw aC (aw az aG)))))) kj bo)
   (aK (aZ (aW (bB (aT (aw aC (aw aC (aw aC aG)))))))
   (aK (aZ (aW (bt bV (aB ax aI))))
   (aK (aZ (aW (bt bV (aB (a_ (cQ.b bD) ax (aH az)) aI))))
   (aK (aZ (aW (bB (cz (cL (bB (aT (aw aC (aw aC (aw aC aG)))))) (nU (de bj (de bj kS))) (aW (bC bD (bC bD aC aC) aC))))))
   (aK (aZ (aW (bB (aT (aw aC aG)))))
   (aY (aW (bX (aw (bX (aw aC (aw aC (aw aC (aw aC (aw aC aG)))))) (aw (bB (aT (aw aC (aw aC aG)))) aG)))))))))))))),?_⟩)
 rintro ds Pr ⟨h,w,e,fs,L,b,rfl,hl,ok,hL,h0,hh,w0,hw,hb,J,m,k⟩;gn_on;refine⟨_,rfl,Nz (by omega) (by omega),?_⟩;have ê:zr (Nb h w e)=true:=by
  unfold Nb;rw[Nl h0 w0,decide_eq_true hh,decide_eq_true hw];rfl
 rw[ê];show if (!true)=true then _ else _
 rw[if_neg (by decide)];gp_on;gn_on;rw[if_neg (by unfold d8;exact AI)];gp_on;gn_on;refine⟨fs,rfl,hl,ok,?_⟩;show if (!true)=true then _ else _
 rw[if_neg (by decide)];gp_on;gn_on;refine⟨L,2,rfl,.inr (.inr (.inl ⟨rfl,hL⟩)),?_⟩;show if (!true)=true then _ else _
 rw[if_neg (by decide)];gp_on;gn_on;refine⟨h,w,e,fs,L,rfl,ok,hL,h0,by omega,by omega,?_⟩;fin2;rw[eu];gp_on;unfold Nb;gn_on;gp_on;gn_on;have Ϧ:hQ (eO D.int h w e) 0=some (.lst (tab w λj=>D.int (e 0 j))):=by
  unfold eO;exact k9 (by decide) (by omega)
 have l:(eO D.int h w e).length=h:=by unfold eO;exact bb
 refine⟨_,Ϧ,?_⟩;fin2;rw[l,bb];gp_on;gn_on;refine⟨h,w,L,rfl,⟨by omega,by omega,by omega⟩,?_⟩;have O:=ic (h:=h) (w:=w) (n:=L);have YH:∀p∈cx h w L,(0<=p.1/\p.1<h)/\0<=p.2/\p.2<w:=λp hp=>oI hp
 have hhw:h*w<=4096:=Ee hh hw;have Ϝ:0<h*w:=HB h0 w0;fin2;have ev:Bu OV.val (Bu (λp=>OV.fz (yC p)) (cx h w L))=(cx h w L).map yC:=by rw[A8];rfl
 rw[ev];unfold gd at k J;generalize Ϗ:pk 0 (λk=>cc fs ((2^k:Nat):Int)) h w L e=ly at k J;generalize cx h w L=ps at k O YH J;refine⟨λi δ ts=>∃o0 o1:Option Sl,δ=[o0,o1,vD (.lst (eO D.int h w ly))]/\ts=(ps.take i).map λp=>.fz (.int (ly p.1.toNat p.2.toNat)),⟨none,none,rfl,rfl⟩,?_,?_⟩
 .rintro i d δ ts hd ⟨o0,o1,rfl,rfl⟩;obtain⟨p,hp,rfl⟩:=mV hd;have hi:=(Ab.mp hp).1;obtain⟨⟨p0,p1⟩,p2,p3⟩:=YH p (An hp);simp only[yC,gT,oh,uh,gN,Bg,Eg,FD,true_and,CO,Dh];fin2;have Ŵ:hQ (eO D.int h w ly) p.1=some (.lst (tab w λj=>D.int (ly p.1.toNat j))):=by unfold eO;exact k9 p0 p1
  refine⟨by rw[Bp];(clear hl hL hb m l p0 p1 p2 p3;omega),_,Ŵ,?_⟩;refine⟨_,k9 p2 p3,?_⟩;refine⟨some (Sl.own (OV.fz (D.int p.1))),some (Sl.own (OV.fz (D.int p.2))),rfl,?_⟩;rw[ED,hp,A5];rfl
 .rintro δ ts ⟨o0,o1,rfl,rfl⟩;rw[Ay,BU];fin2;have exs:(Bu OV.val (ps.map λp=>OV.fz (.int (ly p.1.toNat p.2.toNat))))=(ps.map λp=>ly p.1.toNat p.2.toNat).map D.int:=by rw[A8,A8];rfl
  rw[exs];have YD:(ps.map λp=>ly p.1.toNat p.2.toNat).length=h*w:=by rw[Ay,O]
  generalize (ps.map λp=>ly p.1.toNat p.2.toNat)=xs at k YD J;gp_on;gn_on;refine⟨xs,rfl,by omega,by omega,λn ĩ Ĩ=>?_⟩;gp_on;have M:n<=b:=by
   obtain⟨x,hx,e⟩:=ĩ;rw[<- e];exact J x hx
  have yD:∀x∈xs,x.natAbs<2^n:=λx hx=>IC λz=>by
   have:=Ra.mp z;have:=Ĩ x hx;omega
  obtain⟨q1,q2,q3,q4⟩:=jS xs.length n;obtain⟨bs,v,t1,t2,t3,t4,t5,t6,t7⟩:=OO (xs:=xs) rfl (by (clear hl hL hb m l M;omega)) (by (clear hl hL hb m l M;omega)) _ _ (Ak _) (oB (by (clear hl hL hb m l M;omega)) n) (yS yD) (by omega) (by rw[q2,Eg];omega);have XB:bs.length<=900000:=by
   have:3*xs.length*n<=3*(h*w)*b:=by rw[YD];exact Dq _ M
   clear hl hL l O;omega
  fin2;refine⟨xs,n,bs,rfl,by omega,by omega,XB,t1,?_⟩;exact k n bs v ĩ Ĩ M t1 t2 t3 t4 t5 (by rw[t7,q3];(clear hl l O t3 t7;omega)) XB
theorem Tb {fs:List Lf}(ok:∀f∈fs,f.Ok){h w b:Nat}(B:6<=b){e:Nat->Nat->Int}(c:∀i j,-2^b<=e i j/\e i j<=2^b)(L:Nat):∀x∈gd h w e fs L,i6 x<=b+10*fs.length*L+1:=λx a=>by
 obtain⟨p,_,rfl⟩:=A7.mp a;have h1:=QZ ok (h:=h) (w:=w) B c L p.1.toNat p.2.toNat;have g:=oJ (b+10*fs.length*L);exact WD (by omega) (by omega)
theorem Rb {a m:Int}(e:0<=a)(h:a<=m):i6 a<=i6 m:=by
 unfold i6;split
 .exact Bv _
 .rw [if_neg (by lia)];have h2:m.natAbs<2^(m.natAbs.log2+1):=(Jt (by lia)).mp (F_ _);have c:a.natAbs.log2<m.natAbs.log2+1:=(Jt (by (clear h2;lia))).mpr (by omega);lia
theorem ZP {x m:Int}(a:0<m)(h:i6 m<=1000):i6 (x%m)<=1000:=BC (Rb (Es _ (by lia)) (Hk (C8 _ a))) h
noncomputable abbrev iC:AW:=top 93
theorem qu:aN ["_law_script","_law_k"] ["_law_script","_law_k"] (aA iC):=by walk_at "S"
def d9:c_:=λds P=>∃(ns:List Int) (k:Int),ds=[.lst (ns.map .int),.int k]/\0<=k/\P (.fz (.int (ns.getD k.toNat 0)))
theorem q9 {f:Ac}{fd:Ag}(j:bG K mg "_law_cell_at" iC f fd)(B:bT mg)(KV:bQ K):
  bO P w K mg base "_law_cell_at" 1 ["_law_script","_law_k"] (bL K 2 d9):=by
 refine cE.of j qu (by walk_at "b") rfl (λc A o s H E r=>⟨_,_,(aD (bN (bp kx (pv 1) (aM aU (by rfl) B.len AS (ae (pv 0) ay)) (be _)) (aF (aP (aO ba (pv 0) (pv 1) (λ_ _=>rfl)))) br)
   (aF (aP aE))),
  (aK (bS (bh (aJ c0 ax (aH (bt bV (aB ax aI))))) (aY (aW (bC bD aC aC))) bo)
   (aY (aW az))),?_⟩)
 rintro ds l ⟨ns,k,rfl,g,q⟩;fin2;split
 .rename_i h;exact⟨_,nu g h,q⟩
 .rename_i h;have e:ns.getD k.toNat 0=0:=by
   have a:ns.length<=k.toNat:=by lia
   simp[List.getD,Bc a]
  rw[e]at q;exact q
noncomputable abbrev nD (h w L n:Nat)(fs:List Lf):D:=.tup [.int h,.int w,.int L,.int n,d8 fs]
def jW:c_:=λds P=>∃(h w L n:Nat) (fs:List Lf),ds=[nD h w L n fs]/\(h<=100/\w<=100/\L<=100)/\P (.nl ((cx h w L).map λp=>.fz (yC p)))
noncomputable abbrev iD:AW:=top 80
theorem qw:aN ["head"] ["head"] (aA iD):=by walk_at "S"
theorem q_ {f:Ac}{fd:Ag}(j:bG K mg "head_places" iD f fd)(B:bT mg)(KV:bQ K)(a:∃t,mg "HIGH"=some (.int 0 t))(G:∃t,mg "WIDE"=some (.int 1 t))(g:∃t,mg "LEVELS"=some (.int 2 t))(p:bO P w K mg base "places" 2 ["high","wide","levels"] (bL K 3 nL)):
  bO P w K mg base "head_places" 3 ["head"] (bL K 1 jW):=by
 refine cE.of j qw (by walk_at "b") rfl (λc A o s H E r=>⟨_,_,(aF (aP (aQ p (r.mono (by decide)) (by rfl) (ae (aO aS (pv 0) (aV (by rfl) a) (λ_ _=>rfl)) (ae (aO aS (pv 0) (aV (by rfl) G) (λ_ _=>rfl)) (ae (aO aS (pv 0) (aV (by rfl) g) (λ_ _=>rfl)) ay)))))),
  (aY (aT (aw (bC aR aC az) (aw (bC aR aC az) (aw (bC aR aC az) aG))))),?_⟩)
 rintro ds l ⟨h,w,L,n,fs,rfl,e,k⟩;fin2;exact⟨h,w,L,rfl,e,k⟩
theorem Q5 {n:Nat}{p q:Int×Int}(h:rJ n p q):p≠q:=λz=>by
 subst z;unfold rJ Q6 at h;simp[HT.lexLt]at h
theorem zp {h w n:Nat}:(cx h w n).Nodup:=zo.imp Q5
theorem xq {h w n:Nat}{p:Int×Int}(a:(0<=p.1/\p.1<h)/\0<=p.2/\p.2<w):p∈cx h w n:=by
 unfold cx;refine Im.mpr ⟨pT n (gb h w) (sS n p),DD.mpr (A7.mpr ⟨sS n p,Bz.mpr (Nat.lt_succ_of_le (rH _ _ _)),rfl⟩),?_⟩;exact Dw.mpr ⟨vM.mpr a,by simp⟩
noncomputable def eD (h w L i j:Nat):Nat:=(cx h w L).idxOf ((i:Int),(j:Int))
theorem pL {h w L i j:Nat}(hi:i<h)(J:j<w):eD h w L i j<(cx h w L).length:=
 List.idxOf_lt_length_of_mem (xq (p:=((i:Int),(j:Int))) ⟨⟨by dsimp only;lia,by dsimp only;lia⟩,by dsimp only;lia,by dsimp only;lia⟩)
theorem qQ {h w L i j:Nat}(hi:i<h)(J:j<w):(cx h w L)[eD h w L i j]?=some ((i:Int),(j:Int)):=by
 rw[Ah (pL hi J)];exact congrArg some (List.getElem_idxOf (pL hi J))
theorem SU {h w L i j k:Nat}(hi:i<h)(J:j<w)(a:(cx h w L)[k]?=some ((i:Int),(j:Int))):eD h w L i j=k:=by
 have h1:=qQ (L:=L) hi J;exact (List.getElem?_inj (pL hi J) zp).mp (h1.trans a.symm)
theorem Q7 {n:Nat}{i:Int}(a:0<=i)(h:i<n):sT n i=some i.toNat:=by
 unfold sT;rw[if_pos a]
 try rw[if_pos (by omega)]
noncomputable def Na (h w:Nat)(e:Nat->Nat->D):List OV:=tab h λi=>.nl (tab w λj=>.fz (e i j))
theorem Sq {h w a b:Nat}{e:Nat->Nat->D}{d:D}:(Na h w e).set a (.nl ((tab w λj=>OV.fz (e a j)).set b (.fz d)))=Na h w λi j=>if i=a/\j=b then d else e i j:=by
 unfold Na;rw[mi];refine dA λi hi=>?_
 by_cases q:i=a
 .subst q;rw[if_pos rfl,mi];congr 1
  refine dA λj J=>?_
  dsimp only;by_cases y:j=b
  .rw [if_pos y,if_pos ⟨rfl,y⟩]
  .rw [if_neg y,if_neg (λz=>y z.2)]
 .rw [if_neg q];congr 1
  refine dA λj J=>?_
  dsimp only;rw[if_neg (λz=>q z.1)]
theorem LZ {h w:Nat}{e e':Nat->Nat->D}(q:∀i j,i<h->j<w->e i j=e' i j):Na h w e=Na h w e':=
 dA λi hi=>congrArg OV.nl (dA λj J=>congrArg OV.fz (q i j hi J))
theorem OB {xs:List (Int×Int)}{ys:List fm}(e:xs.length=ys.length):(((xs.map yC).zip (ys.map c4)).map λp=>D.tup [p.1,p.2]).length=ys.length:=by
 rw[Ay,Gc,Ay,Ay,e,Nat.min_self]
def oC:c_:=λds P=>∃(h w L n:Nat) (fs:List Lf) (vs:List fm),ds=[nD h w L n fs,.lst (vs.map c4)]/\(h<=100/\w<=100/\L<=100)/\vs.length=h*w/\P (.nl (iv c4 h w λi j=>vs.getD (eD h w L i j) (0,0)))
noncomputable abbrev jh:AW:=top 83
theorem h8:aN ["head","spans","sheet","place","thing"] ["head","spans"] (aA jh):=by walk_at "S"
theorem xx {f:Ac}{fd:Ag}(Df:bG K mg "sheet_of" jh f fd)(B:bT mg)(KV:bQ K)(g:∃t,mg "WIDE"=some (.int 1 t))(G:∃t,mg "HIGH"=some (.int 0 t))(l:bO P w K mg base "head_places" 3 ["head"] (bL K 1 jW)):
  bO P w K mg base "sheet_of" 4 ["head","spans"] (bL K 2 oC):=by
 refine cE.of Df h8 (by walk_at "b") rfl (λc A o s H E hr=>⟨_,_,(aD (fA (i:=2) h8.nd rfl (Ap rfl) rfl (dO (by rfl) (by exact B.range) (ae (aO aS (pv 0) (aV (by rfl) G) (λ_ _=>rfl)) ay)) (show bF (aA jh) _ from⟨rfl,by decide +kernel,by decide +kernel,by decide +kernel⟩) (N:=["i","head"]) (ix:=[none,some 0]) (show cD _ _ _ _ from⟨⟨rfl,rfl,.inl rfl⟩,trivial⟩) (λ_ _ _=>(bf (i:=0) (show Be (["i","head"]:List Am) by decide +kernel) rfl (Ap rfl))) (λ_ _ _=>(aX QA (cC (ae fg ay)) (aO aS (pv 1) (aV (by rfl) g) (λ_ _=>rfl)))))
   (aD (dy AO rfl (V2 rfl B.zip (ae (aQ l (hr.mono (by decide)) (by rfl) (ae (pv 0) ay)) (ae (pv 1) ay))) (nV (n:=2) rfl (dh (bf (i:=3) h8.nd rfl (Ap rfl)) (dh (bf (i:=4) h8.nd rfl (Ap rfl)) kT))) (aF (vj (pv 4) (vm (aO ba (pv 2) (aO aS (pv 3) aE (λ_ _=>rfl)) (λ_ _=>rfl)) (aO aS (pv 3) aE (λ_ _=>rfl)) jZ))))
   (aF (aP (pv 2))))),
  (aK (aZ (cz (fJ (aB (a_ (cQ.b aR) ax (aH az)) aI)) bj (L6 (c9 (bU (aW fZ) cB)) (a_ (cQ.b aR) ax (aH az)))))
   (aK (dw (VI (aw (bB (aT (aw aC aG))) (aw aC aG))) (nU (de bj (de bj kS))) (L3 aC (a_ (cQ.b aR) ax (aH az)) (a_ (cQ.b aR) ax (aH az))))
   e_)),?_⟩)
 rintro ds Pr ⟨h,w,L,n,fs,vs,rfl,hb,hl,k⟩;obtain⟨hh,hw,hL⟩:=hb;gn_on;refine⟨⟨by lia,by lia⟩,?_⟩;refine eQ.tR (λ_=>.nl (Aw w (.fz .cn))) (by lia) (λi _ Q q=>?_) ?_
 .fin2;exact⟨⟨by lia,by lia⟩,q⟩
 have e0:(Ax (h:Int).toNat).map (λ_=>OV.nl (Aw w (.fz .cn)))=Na h w λi j=>if eD h w L i j<0 then c4 (vs.getD (eD h w L i j) (0,0)) else .cn:=by
  show tab h _=_
  refine dA λi _=>?_
  dsimp only;congr 1
  have:∀j:Nat,(if eD h w L i j<0 then c4 (vs.getD (eD h w L i j) (0,0)) else D.cn) = .cn:=λj=>if_neg (FF _)
  simp only[this];unfold tab;rw[List.map_const',BK]
 rw[e0];gp_on;gn_on;refine⟨h,w,L,n,fs,rfl,⟨hh,hw,hL⟩,?_⟩;fin2;have ev:Bu OV.val (Bu (λp=>OV.fz (yC p)) (cx h w L))=(cx h w L).map yC:=by rw[A8];rfl
 rw[ev];have YF:=ic (h:=h) (w:=w) (n:=L);have C:=OB (xs:=cx h w L) (ys:=vs) (by lia);refine⟨λm δ=>∃v O:Option Sl,δ=[vD (nD h w L n fs),vD (.lst (vs.map c4)),some (.own (.nl (Na h w λi j=>if eD h w L i j<m then c4 (vs.getD (eD h w L i j) (0,0)) else .cn))),v,O],⟨none,none,rfl⟩,?_,?_⟩
 .rintro m d δ hd ⟨v,O,rfl⟩;obtain⟨z,hz,rfl⟩:=mV hd;rw[Cu,AN,AN]at hz;obtain⟨T,M⟩:=hz;obtain⟨p,hp,Ŷ⟩:=GR.mp T;obtain⟨s,hs,ZT⟩:=GR.mp M;rw[<- Ŷ,<- ZT];obtain⟨⟨p0,p1⟩,p2,p3⟩:=oI (An hp);have ų:vs.getD m (0,0)=s:=by rw[Al,hs];rfl
  simp only[gT,oh,uh,gN,Bg,Eg,FD,true_and,CO,Dh];unfold yC;fin2;have r:(Na h w λi j=>if eD h w L i j<m then c4 (vs.getD (eD h w L i j) (0,0)) else .cn).length=h:=bb;refine⟨p.1.toNat,tab w λj=>.fz (if eD h w L p.1.toNat j<m then c4 (vs.getD (eD h w L p.1.toNat j) (0,0)) else .cn),by rw[r];exact Q7 p0 p1,hR (by lia),p.2.toNat,by rw[bb];exact Q7 p2 p3,?_⟩;have ŵ:p=(((p.1.toNat:Nat):Int),((p.2.toNat:Nat):Int)):=IM (by dsimp only;lia) (by dsimp only;lia);have u:=Sq (h:=h) (w:=w) (a:=p.1.toNat) (b:=p.2.toNat) (e:=λi j=>if eD h w L i j<m then c4 (vs.getD (eD h w L i j) (0,0)) else .cn) (d:=c4 s);have U:(Na h w λi j=>if i=p.1.toNat/\j=p.2.toNat then c4 s else if eD h w L i j<m then c4 (vs.getD (eD h w L i j) (0,0)) else .cn)=Na h w λi j=>if eD h w L i j<m+1 then c4 (vs.getD (eD h w L i j) (0,0)) else .cn:=LZ λi j hi J=>by
   by_cases z:i=p.1.toNat/\j=p.2.toNat
   .obtain ⟨rfl,rfl⟩:=z;have hx:=SU (L:=L) (k:=m) hi J (by rw[<- ŵ];exact hp);rw[if_pos ⟨rfl,rfl⟩,hx,if_pos (by lia),ų]
   .rw [if_neg z];have ë:eD h w L i j≠m:=λq=>by
     have h1:=qQ (L:=L) hi J;rw[q,hp]at h1;have h2:=AV h1;exact z ⟨by rw[h2];rfl,by rw[h2];rfl⟩
    by_cases y:eD h w L i j<m
    .rw [if_pos y,if_pos (by lia)]
    .rw [if_neg y,if_neg (by lia)]
  rw[<- U,<- u];exact⟨_,_,rfl⟩
 .rintro δ ⟨v,O,rfl⟩;rw[C];gp_on;fin2;have ee:(Na h w λi j=>if eD h w L i j<vs.length then c4 (vs.getD (eD h w L i j) (0,0)) else .cn)=iv c4 h w λi j=>vs.getD (eD h w L i j) (0,0):=by
   show Na h w _=Na h w _
   refine LZ λi j hi J=>?_
   have:=pL (L:=L) hi J;rw[if_pos (by lia)]
  rw[ee];exact k
def qi:c_:=λds P=>∃(h w L n k:Nat) (fs:List Lf) (vs:List fm),ds=[nD h w L n fs,.lst (vs.map c4),.int k]/\(∀f∈fs,f.Ok)/\(0<h/\h<=100/\w<=100/\L<=6)/\k<=L/\vs.length=h*w/\
 P (.nl (iv c4 (d5 0 h (2^k:Nat)) (d5 0 w (2^k:Nat)) λi j=>dY (0,0) (λk=>dR (0,0) df fs (2^k:Nat)) h w L k (λi j=>vs.getD (eD h w L i j) (0,0)) (i*2^k) (j*2^k)))
noncomputable abbrev u7:AW:=top 85
theorem Pd:aN ["head","spans","k"] ["head","spans","k"] (aA u7):=by walk_at "S"
theorem QH {f:Ac}{fd:Ag}(u:bG K mg "level" u7 f fd)(B:bT mg)(KV:bQ K)(G:∃t,mg "LADDER"=some (.int 4 t))(g:∃t,mg "LEVELS"=some (.int 2 t))(l:bO P w K mg base "holds" 1 ["one","number"] (bL K 2 iP))(C:bO P w K mg base "thinned" 1 ["sheet","k"] (bL K 2 i_))(p:LC P w K mg base "opened_spans" 6 ["sheet","ladder","levels","down"] (bL K 4 jz) [.int 0])(e:bO P w K mg base "sheet_of" 4 ["head","spans"] (bL K 2 oC)):
  bO P w K mg base "level" 7 ["head","spans","k"] (bL K 3 qi):=by
 refine cE.of u Pd (by walk_at "b") rfl (λc A o s H E r=>⟨_,_,(aD (bN (cg (bY (aQ l (r.mono (by decide)) (by rfl) (ae (bH (ae aE (ae (aO aS (pv 0) (aV (by rfl) g) (λ_ _=>rfl)) ay))) (ae (pv 2) ay))))) (aF ko) br)
   (aF (aP (aQ C (r.mono (by decide)) (by rfl) (ae (aQ p.ň (r.mono (by decide)) (by rfl) (ae (aQ e (r.mono (by decide)) (by rfl) (ae (pv 0) (ae (pv 1) ay))) (ae (aO aS (pv 0) (aV (by rfl) G) (λ_ _=>rfl)) (ae (aO aS (pv 0) (aV (by rfl) g) (λ_ _=>rfl)) (ae (pv 2) ay))))) (ae (pv 2) ay)))))),
  (aK (bS (cb (dQ (bB (aT (aw (bX (aw az (aw (bC aR aC az) aG))) (aw aC aG)))))) kj bo)
   (aY (aT (aw (bB (aT (aw (bB (aT (aw aC (aw aC aG)))) (aw (bC aR aC az) (aw (bC aR aC az) (aw aC aG)))))) (aw aC aG))))),?_⟩)
 rintro ds z ⟨h,w,L,n,k,fs,vs,rfl,ok,j,v,hl,hP⟩;obtain⟨q,a,hw,m⟩:=j;gn_on;refine⟨0,L,k,rfl,?_⟩;rw[decide_eq_true (by lia:(0:Int)<=k),decide_eq_true (by lia:(k:Int)<=L)];show if (!true)=true then _ else _
 rw[if_neg (by decide)];gp_on;fin2;refine⟨h,w,L,n,fs,vs,rfl,⟨a,hw,by lia⟩,hl,?_⟩;fin2;rw[eu];refine⟨h,w,_,fs,L,k,rfl,ok,m,by lia,q,by lia,by lia,?_⟩;fin2;rw[eu];exact⟨fm,c4,h,w,k,_,rfl,by lia,by lia,by lia,hP⟩
noncomputable def cI (h w L:Nat)(fs:List Lf)(u:Wk):Nat->Nat->fm:=dY (0,0) (λk=>dR (0,0) df fs (2^k:Nat)) h w L 0 λi j=>(cZ u).getD (eD h w L i j) (0,0)
theorem pD (u:Wk):eI u=(cZ u).map c4:=by
 unfold eI cZ;rw[List.map_flatMap];simp only[E1];rfl
noncomputable abbrev yB (m n:Nat):Wk:=Wk.turn ⟨n,0,[],[⟨0,0,m,1-2^n,2^n-1⟩],[]⟩
theorem L0 {h w L m:Nat}{fs:List Lf}(ok:∀f∈fs,f.Ok)(c:0<m)(M:m=h*w){a b:Wk}{bs:List Bool}(F:jN a bs b)(A:kI m a)(B:kI m b){i j:Nat}(hi:i<h)(J:j<w):Q9 (cI h w L fs a i j) (cI h w L fs b i j):=by
 refine V_ ok (λi j=>?_) i j hi J;have k:=i8 A;have l:=i8 B;rcases EL (eD h w L i j) m with z |z
 .obtain ⟨s,t,g,e,r⟩:=nest c F A B z;rw[Al,Al,g,e];exact r
 .rw [Al,Al,Bc (by lia),Bc (by lia)];exact⟨Br _,Br _,Br _⟩
theorem LS:∀{xs:List Int} {a:List (Int×Int)},a.map c4=xs.map dot->a=xs.map λx=>(x,x)
 | [],[],_=>rfl
 | [],s::a,h=>by cases h
 |x::xs,[],h=>by cases h
 |x::xs,s::a,h=>by
  rw[B7,B7]at h;obtain⟨h1,h2⟩:=E4 h;rw[LS h2,B7];congr 1
  unfold c4 dot at h1;simp only[D.tup.injEq,KS,D.int.injEq,and_true]at h1;exact IM h1.1 h1.2
theorem O' {h w L m:Nat}{fs:List Lf}(ok:∀f∈fs,f.Ok){xs:List Int}(a:xs.length=m){v:Wk}(S:kI m v)(C:dz xs v)(c:v.pl<0){i j:Nat}(hi:i<h)(J:j<w):
  cI h w L fs v i j=(dY 0 (λk=>iJ fs (2^k:Nat)) h w L 0 (λi j=>xs.getD (eD h w L i j) 0) i j,dY 0 (λk=>iJ fs (2^k:Nat)) h w L 0 (λi j=>xs.getD (eD h w L i j) 0) i j):=by
 have e:=M_ a S C c;rw[pD]at e;unfold cI;rw[LS e,<- V9 ok i j hi J];congr 1
 funext i j
 rcases EL (eD h w L i j) xs.length with z |z
 .rw [Al,Al,AN,Ah z];rfl
 .rw [Al,Al,Bc (by rw[Ay];exact z),Bc z];rfl
theorem xH {h w L:Nat}{e:Nat->Nat->Int}{fs:List Lf}:(gd h w e fs L).length=h*w:=by
 unfold gd;rw[Ay,ic]
def i9:c_:=λds P=>∃(h w L n:Nat) (fs:List Lf) (bs:List Bool) (d:D) (v:Wk),ds=[nD h w L n fs,d]/\Bt d bs/\h<=100/\n<=5000/\jN (Wk.turn ⟨n,0,[],[⟨0,0,h*w,1-2^n,2^n-1⟩],[]⟩) bs v/\P (.ob none "Walk" bu v.ts)
noncomputable abbrev nO:AW:=top 81
theorem yY:aN ["head","bits"] ["head","bits"] (aA nO):=by walk_at "S"
theorem zu {f:Ac}{fd:Ag}(e:bG K mg "walk_of" nO f fd)(B:bT mg)(KV:bQ K)(g:∃t,mg "PLANES"=some (.int 3 t))(a:∃t,mg "HIGH"=some (.int 0 t))(G:∃t,mg "WIDE"=some (.int 1 t))(l:bO P w K mg base "followed" 6 ["bits","many","planes"] (bL K 3 oF)):
  bO P w K mg base "walk_of" 7 ["head","bits"] (bL K 2 i9):=by
 refine cE.of e yY (by walk_at "b") rfl (λc A o s H E r=>⟨_,_,(aF (aP (aQ l (r.mono (by decide)) (by rfl) (ae (pv 1) (ae (aX eL (aO aS (pv 0) (aV (by rfl) a) (λ_ _=>rfl)) (aO aS (pv 0) (aV (by rfl) G) (λ_ _=>rfl))) (ae (aO aS (pv 0) (aV (by rfl) g) (λ_ _=>rfl)) ay)))))),
  (aY (aT (aw aC (aw (aJ cj (a_ (cQ.b aR) ax (aH az)) (a_ (cQ.b aR) ax (aH az))) (aw (bC aR aC az) aG))))),?_⟩)
 rintro ds m ⟨h,w,L,n,fs,bs,d,v,rfl,hd,j,hn,F,k⟩;fin2;exact⟨.inl ⟨by lia,by lia⟩,bs,d,_,n,v,rfl,hd,hn,F,k⟩
def qm:c_:=λds P=>∃s:fm,ds=[c4 s]/\P (.fz (.int (s.2-s.1)))
noncomputable abbrev nR:AW:=top 15
theorem y_:aN ["one"] ["one"] (aA nR):=by walk_at "S"
theorem zB {f:Ac}{fd:Ag}(a:bG K mg "breadth" nR f fd)(B:bT mg)(KV:bQ K):
  bO P w K mg base "breadth" 1 ["one"] (bL K 1 qm):=by
 refine cE.of a y_ (by walk_at "b") rfl (λc A o s H E r=>⟨_,_,(aF (aP (aX dt (aO aS (pv 0) aE (λ_ _=>rfl)) (aO aS (pv 0) aE (λ_ _=>rfl))))),
  (aY (aW (aJ b9 (a_ (cQ.b aR) ax (aH az)) (a_ (cQ.b aR) ax (aH az))))),?_⟩)
 rintro ds e ⟨s,rfl,h⟩;unfold c4;fin2;exact h
def oG:c_:=λds P=>∃xs:List fm,ds=[.lst (xs.map c4)]/\0<xs.length/\xs.length<=1000/\∀M:Int,(∃s∈xs,s.2-s.1=M)->(∀s∈xs,s.2-s.1<=M)->P (.fz (.int M))
noncomputable abbrev jm:AW:=top 16
theorem w6:aN ["some"] ["some"] (aA jm):=by walk_at "S"
theorem xF {f:Ac}{fd:Ag}(m:bG K mg "broadest" jm f fd)(B:bT mg)(KV:bQ K)(r:bO P w K mg base "breadth" 1 ["one"] (bL K 1 qm)):
  bO P w K mg base "broadest" 2 ["some"] (bL K 1 oG):=by
 refine cE.of m w6 (by walk_at "b") rfl (λc A o s H E j=>⟨_,_,(aF (aP (aM (gw rfl) (by rfl) B.max Gr (ae (c5 rfl (cF (pv 0)) (show bF (aA jm) _ from⟨rfl,by decide +kernel,by decide +kernel,by decide +kernel⟩) (N:=["one"]) (ix:=[none]) (show cD _ _ _ _ from trivial) (λ_ _ _=>(bf (i:=0) (show Be (["one"]:List Am) by decide +kernel) rfl (Ap rfl))) (λ_ _ _=>(aQ r (j.mono (by decide)) (by rfl) (ae (pv 0) ay)))) ay)))),
  (aY (aW (bt k8 (aB (aH (bB (cz (cL aC) bj (aT (aw aC aG))))) aI)))),?_⟩)
 rintro ds p ⟨xs,rfl,a,n,h⟩;fin2;refine eQ.map xs c4 (λs=>.fz (.int (s.2-s.1))) (by lia) (λs _ Q q=>?_) ?_
 .fin2;exact⟨s,rfl,q⟩
 fin2;refine⟨xs.map λs=>s.2-s.1,by simp only[A8,BF,OV.val],by simpa using a,λM k l=>?_⟩;obtain⟨s,g,e⟩:=A7.mp k;exact h M ⟨s,g,e⟩ λt ht=>l _ (A7.mpr ⟨t,ht,rfl⟩)
def T4 (h w:Nat)(e:Nat->Nat->fm)(M:Int):Prop:=(∃i j,i<h/\j<w/\(e i j).2-(e i j).1=M)/\∀i j,i<h->j<w->(e i j).2-(e i j).1<=M
theorem se {h w:Nat}{e:Nat->Nat->fm}{M f:Int}(a:T4 h w e M)(b:T4 h w e f):M=f:=by
 obtain⟨⟨i,j,hi,l,h1⟩,h2⟩:=a;obtain⟨⟨k,g,c,J,n⟩,m⟩:=b;have:=h2 k g c J;have:=m i j hi l;lia
theorem vf (f:Nat->Int):∀w,0<w->∃M,(∃j,j<w/\f j=M)/\∀j,j<w->f j<=M
 | 0,h=>absurd h (by decide)
 | 1,_=>⟨f 0,⟨0,by decide,rfl⟩,λj J=>by rw[show j=0 by lia];exact Br _⟩
 |w + 2,_=>by
  obtain⟨M,⟨j,J,e⟩,a⟩:=vf f (w+1) (by lia);by_cases z:f (w+1)<=M
  .exact ⟨M,⟨j,by lia,e⟩,λi hi=>by
    by_cases y:i=w+1
    .rw [y];exact z
    .exact a i (by lia)⟩
  .exact ⟨f (w+1),⟨w+1,by lia,rfl⟩,λi hi=>by
    by_cases y:i=w+1
    .rw [y];exact Br _
    .have:=a i (by lia);lia⟩
def mC:c_:=λds P=>∃(h w L n:Nat) (fs:List Lf) (bs:List Bool) (c:Nat) (u:Wk),ds=[nD h w L n fs,.str (b_ bs),.int c]/\(∀f∈fs,f.Ok)/\(0<h/\h<=100/\0<w/\w<=100/\L<=6)/\n<=5000/\bs.length<=1000000/\c<=bs.length/\
 jN (yB (h*w) n) (bs.take c) u/\kI (h*w:Nat) u/\∀M:Int,T4 h w (cI h w L fs u) M->P (.fz (.int M))
noncomputable abbrev pH:AW:=top 89
theorem w9:aN ["head","bits","many","spans"] ["head","bits","many"] (aA pH):=by walk_at "S"
theorem QL {f:Ac}{fd:Ag}(Df:bG K mg "broad" pH f fd)(B:bT mg)(KV:bQ K)(g:du K "Walk" bu)(l:c6 P w K mg base "Walk" "spans" 1 ["self"] (bL K 1 iu))(C:bO P w K mg base "walk_of" 7 ["head","bits"] (bL K 2 i9))(r:bO P w K mg base "broadest" 2 ["some"] (bL K 1 oG))(v:bO P w K mg base "level" 7 ["head","spans","k"] (bL K 3 qi)):
  bO P w K mg base "broad" 8 ["head","bits","many"] (bL K 3 mC):=by
 refine cE.of Df w9 (by walk_at "b") rfl (λc A o s H E z=>⟨_,_,(aD (a5 (i:=3) w9.nd rfl (Ap rfl) (di l (z.mono (by decide)) (aQ C (z.mono (by decide)) (by rfl) (ae (pv 0) (ae (iT yV (pv 1) Md (fK (pv 2))) ay)))))
   (aF (aP (aM (gw rfl) (by rfl) B.max Gr (ae (c5 rfl (cF (aQ v (z.mono (by decide)) (by rfl) (ae (pv 0) (ae (pv 3) (ae aE ay))))) (show bF (aA pH) _ from⟨rfl,by decide +kernel,by decide +kernel,by decide +kernel⟩) (N:=["row"]) (ix:=[none]) (show cD _ _ _ _ from trivial) (λ_ _ _=>(bf (i:=0) (show Be (["row"]:List Am) by decide +kernel) rfl (Ap rfl))) (λ_ _ _=>(aQ r (z.mono (by decide)) (by rfl) (ae (pv 0) ay)))) ay))))),
  (aK (aZ (aW (bB (dH g (by decide +kernel) (aH (bB (aT (aw aC (aw (zj aC Uz (lD ax)) aG))))) aI))))
   (zg 3 (aY (aW (bt k8 (aB (aH (bB (cz (cL (bB (aT (aw aC (aw aC (aw az aG)))))) bj (aT (aw aC aG))))) aI)))))),?_⟩)
 rintro ds Pr ⟨h,w,L,n,fs,bs,c,u,rfl,ok,⟨h0,hh,w0,hw,hL⟩,hn,Ķ,hc,F,S,k⟩;have hm:h*w<=10000:=Ee hh hw;have T:=tL S (by lia);gn_on;rw[b7,wK bs hc];refine⟨by lia,h,w,L,n,fs,bs.take c,_,u,rfl,.inl rfl,hh,hn,by rw[<- Gw];exact F,?_⟩;fin2;refine⟨u,by rw[OV.cm],T.1,T.2.1,by lia,T.2.2.2,?_⟩;rw[pD];have ώ:OV.lf (.nl (Bu OV.fz (Bu c4 (cZ u))))=true:=by
  show OV.hI _=true
  rw[A8];exact pQ
 refine⟨ώ,?_⟩;have ev:OV.val (.nl (Bu OV.fz (Bu c4 (cZ u)))) = .lst ((cZ u).map c4):=by
  show D.lst (OV.vals _)=_
  rw[MD]
 rw[ev];gp_on;fin2;have U:=i8 S;refine⟨h,w,L,n,0,fs,cZ u,rfl,ok,⟨h0,hh,by lia,hL⟩,Bv _,U,?_⟩;rw[pE];show eQ _ _ (OV.vals _) _ _
 rw[OV.cm,eu]
 change ∀M:Int,T4 h w (cI h w L fs u) M->_ at k
 have G:dY (0,0) (λk=>dR (0,0) df fs ((2^k:Nat):Int)) h w L 0 (λi j=>(cZ u).getD (eD h w L i j) ((0,0):fm))=cI h w L fs u:=rfl;rw[G];generalize cI h w L fs u=e at k;have O:∀i,∃M,(∃j,j<w/\(e i j).2-(e i j).1=M)/\∀j,j<w->(e i j).2-(e i j).1<=M:=λi=>vf (λj=>(e i j).2-(e i j).1) w w0
 obtain⟨p,m⟩:∃p:Nat->Int,∀i,(∃j,j<w/\(e i j).2-(e i j).1=p i)/\∀j,j<w->(e i j).2-(e i j).1<=p i:=⟨λi=>(O i).choose,λi=>(O i).choose_spec⟩
 refine eQ.map (Ax h) (λi=>D.lst (tab w λj=>c4 (e i j))) (λi=>.fz (.int (p i))) (by rw[BK];lia) (λi _ Q q=>?_) ?_
 .fin2;refine⟨tab w λj=>e i j,by rw[dS],by rw[bb];exact w0,by rw[bb];lia,λM hM hA=>?_⟩;have WL:∀j,j<w->e i j∈tab w λj=>e i j:=λj J=>A7.mpr ⟨j,Bz.mpr J,rfl⟩
  obtain⟨⟨j,J,ej⟩,t⟩:=m i;have h1:=hA _ (WL j J);obtain⟨s,hs,es⟩:=hM;obtain⟨j',U1,rfl⟩:=A7.mp hs;have h2:=t j' (Bz.mp U1);have:M=p i:=by lia
  rw[this];exact q
 fin2;refine⟨(Ax h).map p,by simp only[A8,BF,OV.val],by rw[Ay,BK];exact h0,λM hM hA=>?_⟩;obtain⟨i,hi,rfl⟩:=A7.mp hM;have hi:=Bz.mp hi;refine k _ ⟨?_,λa b ha hb=>?_⟩
 .obtain ⟨⟨j,J,ej⟩,_⟩:=m i;exact⟨i,j,hi,J,ej⟩
 .have h1:=(m a).2 b hb;have h2:=hA _ (A7.mpr ⟨a,Bz.mpr ha,rfl⟩);lia
noncomputable abbrev j8:AW:=top 94
theorem uT:aN ["_law_found"] ["_law_found"] (aA j8):=by walk_at "S"
def cy:c_:=λds P=>match ds with
 | [.int _]=>P (.fz (.bl true))
 |_=>False
theorem vt {f:Ac}{fd:Ag}(a:bG K mg "_law_whole" j8 f fd)(B:bT mg)(KV:bQ K):
  bO P w K mg base "_law_whole" 1 ["_law_found"] (bL K 1 cy):=by
 refine cE.of a uT (by walk_at "b") rfl (λc A o s H E r=>⟨_,_,(aF (aP (gW (aM cw (by rfl) B.isinstance Bl (ae (pv 0) (ae (dk (v:=.ty "int") (by rfl) B.int F9 (by rfl)) ay))) (jr (Qq (aM cw (by rfl) B.isinstance Bl (ae (pv 0) (ae (dk (v:=.ty "bool") (by rfl) B.bool Eu (by rfl)) ay)))))))),
  (aY (aW (fb (bt (eh KV) (aB ax (aB (aH fO) aI))) (L9 (bt (eh KV) (aB ax (aB (aH fO) aI))))))),?_⟩)
 intro ds e h;unfold cy at h;split at h
 .fin2;exact h
 .exact h.elim
def d_:c_:=λds P=>∃(h w L n:Nat) (fs:List Lf) (bs:List Bool) (c:Nat) (u:Wk) (W:Int),ds=[nD h w L n fs,.int W,.str (b_ bs),.int c]/\(∀f∈fs,f.Ok)/\(0<h/\h<=100/\0<w/\w<=100/\L<=6)/\n<=5000/\bs.length<=1000000/\c<=bs.length/\
 jN (yB (h*w) n) (bs.take c) u/\kI (h*w:Nat) u/\∀M:Int,T4 h w (cI h w L fs u) M->P (.fz (.bl (decide (M<=W))))
noncomputable abbrev gM:AW:=top 91
theorem tN:aN ["head","bits","breadth","fits"] ["head","bits","breadth"] (aA gM):=by walk_at "S"
noncomputable abbrev bW:AW:=(bx gM).getD 0 (.Pass ⟨0,0,0,0⟩)
theorem qy:nz ["head","breadth","bits","many"] ["head","breadth","bits"] ["many"] (aA bW):=⟨rfl,rfl,rfl,by decide +kernel,rfl,by decide +kernel,by decide +kernel,by decide +kernel⟩
theorem rW:∀x∈(aA bW).names,x.2 = .free->(aA gM).names.lookup x.1=some .cell:=by decide +kernel
theorem jY {A:AX}{outer:List EJ}{s:Ae}{H:Hp}{E:XK}{f:Ac}{cd:Aa}{c:List (Am×Ac)}(e:c=dZ (aA bW) (eH l' P w K mg base ["head","bits","breadth","fits"] "enough" (aA gM) f cd A outer s H E).pP.env):si (eH l' P w K mg base ["head","bits","breadth","fits"] "enough" (aA gM) f cd A outer s H E).pP c [0,2,1]:=by rw[e];exact Su (fs:=["head","breadth","bits"]) rfl (by decide +kernel) rfl (by decide +kernel)
theorem ky {env:EJ}{c:List (Am×Ac)}(e:c=dZ (aA bW) env):c.map (·.1)=(["head","breadth","bits"]:List Am):=by rw[e];rfl
theorem rf (B:bT mg)(KV:bQ K)(r:bO P w K mg base "broad" 8 ["head","bits","many"] (bL K 3 mC)):
  o6 P w K mg base 9 "enough.<locals>.fits" bW ["head","breadth","bits"] (bL K 4 d_):=by
 refine ď.of qy (λ_ _ _ _ _ us hl=>match us,hl with | [_],_=>rfl) rfl (λA outer s H f cd l hf a=>⟨_,_,(aF (aP (dj mR (aQ r (a.mono (by decide)) (by rfl) (ae (pv 0) (ae (pv 2) (ae (pv 3) ay)))) (pv 1) (be _)))),
  (aY (aW (aJ c0 (aH (bB (aT (aw aC (aw aC (aw aC aG)))))) ax))),?_⟩)
 rintro ds j ⟨h,w,L,n,fs,bs,c,u,W,rfl,ok,e,hn,hl,hc,F,S,k⟩;fin2;refine⟨h,w,L,n,fs,bs,c,u,rfl,ok,e,hn,hl,hc,F,S,λM g=>?_⟩;fin2;exact k M g
noncomputable def lst (g:Int->Bool):Nat->Int->Int->Int
 | 0,_,f=>f
 |n+1,b,f=>if b<f then (if g ((b+f) / 2)=true then lst g n b ((b+f) / 2) else lst g n ((b+f) / 2+1) f) else f
theorem mW (g:Int->Bool):∀(n m:Nat) (b f:Int),f-b<=n->f-b<=m->lst g n b f=lst g m b f
 | 0,0,_,_,_,_=>rfl
 | 0,m+1,b,f,h,_=>by rw[lst,lst,if_neg (by lia)]
 |n+1,0,b,f,_,h=>by rw[lst,lst,if_neg (by lia)]
 |n+1,m+1,b,f,h1,h2=>by
  rw[lst,lst];split
  .rw [mW g n m b ((b+f) / 2) (by lia) (by lia),mW g n m ((b+f) / 2+1) f (by lia) (by lia)]
  .rfl
theorem zL (g:Int->Bool):∀(n:Nat) (b f:Int),b<=f->f-b<=n->b<=lst g n b f/\lst g n b f<=f/\(lst g n b f=f∨g (lst g n b f)=true)/\(lst g n b f=b∨g (lst g n b f-1)=false)
 | 0,b,f,h,h1=>by rw[lst];exact⟨h,Br _,.inl rfl,.inl (by lia)⟩
 |n + 1,b,f,h,h1=>by
  rw[lst];split
  .generalize k:(b+f) / 2=m;have M:b<=m:=by lia
   have j:m<f:=by lia
   split
   .rename_i hg;obtain⟨e,c,A,a⟩:=zL g n b m M (by lia);refine⟨e,by lia,.inr ?_,a⟩;rcases A with A |A
    .rw [A];exact hg
    .exact A
   .rename_i hg;obtain⟨e,c,A,a⟩:=zL g n (m+1) f (by lia) (by lia);refine⟨by lia,c,A,.inr ?_⟩;rcases a with a |a
    .rw [a,show m+1-1=m by lia];simpa using hg
    .exact a
  .exact ⟨h,Br _,.inl rfl,.inl (by lia)⟩
def wU:c_:=λds P=>∃(lo hi:Int) (c:List (Am×Ac)) (cs:List D) (g:Int->Bool),ds=[.int lo,.int hi,.pW "enough.<locals>.fits" bW c cs]/\c.map (·.1)=(["head","breadth","bits"]:List Am)/\(c.map (·.2)).Nodup/\cs.length=3/\D.hI cs=true/\lo<=hi/\
 (∀m,lo<=m->m<hi->∀r:OV->Prop,r (.fz (.bl (g m)))->d_ (cs++[.int m]) r)/\P (.fz (.int (lst g (hi-lo).toNat lo hi)))
noncomputable abbrev u9:AW:=top 90
theorem iR:aN ["low","high","good","below","found","middle"] ["low","high","good"] (aA u9):=by walk_at "S"
theorem QI {f:Ac}{fd:Ag}(z:bG K mg "least" u9 f fd)(B:bT mg)(KV:bQ K)(e:o6 P w K mg base 9 "enough.<locals>.fits" bW ["head","breadth","bits"] (bL K 4 d_)):
  bO P w K mg base "least" 10 ["low","high","good"] (bL K 3 wU):=by
 refine cE.of z iR (by walk_at "b") rfl (λc A o s H E u=>⟨_,_,(aD (a5 (i:=3) iR.nd rfl (Ap rfl) (pv 0))
   (aD (a5 (i:=4) iR.nd rfl (Ap rfl) (pv 1))
   (aD (mO AO (bp kx (pv 3) (pv 4) (be _)) (aD (a5 (i:=5) iR.nd rfl (Ap rfl) (aX eE (aX cT (pv 3) (pv 4)) aE))
   (aF (bN (bY (Qv (pv 2) e (u.mono (by decide)) (ae (pv 5) ay))) (aF (a5 (i:=4) iR.nd rfl (Ap rfl) (pv 5))) (aF (a5 (i:=3) iR.nd rfl (Ap rfl) (aX cT (pv 5) aE)))))))
   (aF (aP (pv 4)))))),
  (aK (aZ (aW aC))
   (aK (aZ (aW aC))
   (aK (mK (bh (aJ c0 ax ax)) (aK (aZ (aW (aJ cj (aH (aJ b9 ax ax)) (aH az))))
   (bS (dQ (bB (Py (aw aC aG)))) (aZ (aW aC)) (aZ (aW (aJ b9 ax (aH az)))))))
   (aY (aW aC))))),?_⟩)
 rintro ds J ⟨lo,hi,t,cs,g,rfl,hf,n,r,p,L,hg,k⟩;gn_on;gp_on;gn_on;gp_on;gn_on;have C:t.length=cs.length:=by rw[r,<- Ay (f:=(·.1)),hf];rfl
 refine⟨λm δ=>∃(b f:Int) (o:Option Sl),δ=[vI lo,vI hi,vD (.pW "enough.<locals>.fits" bW t cs),vI b,vI f,o]/\lo<=b/\b<=f/\f<=hi/\lst g m b f=lst g (hi-lo).toNat lo hi/\f-b=m,⟨(hi-lo).toNat,lo,hi,none,rfl,Br _,L,Br _,rfl,by lia⟩,?_⟩;rintro m δ ⟨b,f,o,rfl,h1,h2,v,h,G⟩;fin2;by_cases a:b<f
 .rw [if_pos (by simpa using a)];refine⟨hf,by decide +kernel,n,C,p,by rw[AG,r];rfl,hg _ (by lia) (by lia) _ ⟨rfl,?_⟩⟩;fin2;obtain⟨m,rfl⟩:∃i,m=i+1:=⟨m-1,by lia⟩
  rw[lst,if_pos a]at h;have j:b<=(b+f) / 2:=by lia
  have l:(b+f) / 2<f:=by lia
  generalize (b+f) / 2=M at j l h
  cases q:g M with
  |true=>
   rw[q,if_pos rfl]at h;rw[if_pos rfl];exact⟨(M-b).toNat,by lia,b,M,_,rfl,h1,j,by lia,(mW g _ _ _ _ (by lia) (by lia)).trans h,by lia⟩
  |false=>
   rw[q,if_neg (by decide)]at h;rw[if_neg (by decide)];exact⟨(f-(M+1)).toNat,by lia,M+1,f,_,rfl,by lia,by lia,v,(mW g _ _ _ _ (by lia) (by lia)).trans h,by lia⟩
 .rw [if_neg (by simpa using a)];gp_on;fin2;rw[show m=0 by lia,lst]at h;rw[h];exact k
theorem Tn (fs:List Lf):D.hI (fs.map wB)=true:=by
 rw[D.gZ,List.all_map,FI];intro f _;simp[wB,D.lf,D.hI]
def đ (h w L n:Nat)(fs:List Lf)(bs:List Bool)(B:Nat->Int):Prop:=∀c,c<=bs.length->∃u,jN (yB (h*w) n) (bs.take c) u/\kI (h*w:Nat) u/\T4 h w (cI h w L fs u) (B c)
noncomputable def XC (B:Nat->Int)(W:Int)(n:Nat):D:=if B n<=W then .int (lst (λm=>decide (B m.toNat<=W)) n 0 n) else .cn
theorem WW (B:Nat->Int)(W:Int)(n:Nat):(W<B n/\XC B W n = .cn)∨(B n<=W/\∃k:Nat,XC B W n = .int k/\k<=n/\B k<=W/\(k=0∨W<B (k-1))):=by
 unfold XC;by_cases h:B n<=W
 .rw [if_pos h];refine .inr ⟨h,?_⟩;obtain⟨f,e,A,a⟩:=zL (λm=>decide (B m.toNat<=W)) n 0 n (by lia) (by lia);generalize lst (λm=>decide (B m.toNat<=W)) n 0 n=k at f e A a;obtain⟨k,rfl⟩:∃i:Nat,k=i:=⟨k.toNat,by lia⟩
  refine⟨k,rfl,by lia,?_,?_⟩
  .rcases A with A |A
   .rw [show k=n by lia];exact h
   .simpa using A
  .by_cases c:k=0
   .exact .inl c
   rcases a with a |a
   .exact .inl (by lia)
   .rw [show ((k:Int)-1).toNat=k-1 by lia]at a;exact .inr (by simpa using a)
 .rw [if_neg h];exact .inl ⟨by lia,rfl⟩
def tJ:c_:=λds P=>∃(h w L n:Nat) (fs:List Lf) (bs:List Bool) (W:Int) (B:Nat->Int),ds=[nD h w L n fs,.str (b_ bs),.int W]/\(∀f∈fs,f.Ok)/\(0<h/\h<=100/\0<w/\w<=100/\L<=6)/\n<=5000/\bs.length<=1000000/\đ h w L n fs bs B/\P (.fz (XC B W bs.length))
theorem Nx {f c T:Ac}{fd:Ag}(O:bG K mg "enough" gM f fd)(hc:fd.code = .ref c)(J:PySem.W.CodeHd base c T)(p:base.BuiltinsAt mg T)(B:bT mg)(KV:bQ K)(e:o6 P w K mg base 9 "enough.<locals>.fits" bW ["head","breadth","bits"] (bL K 4 d_))(a:bO P w K mg base "least" 10 ["low","high","good"] (bL K 3 wU)):
  bO P w K mg base "enough" 11 ["head","bits","breadth"] (ZO K 3 T ⟨343,4,344,49⟩ "enough.<locals>.fits" tJ):=by
 refine Đ.of O hc tN (sc:=aA bW) (by walk_at "b") rfl (λA outer s H E r F z C l=>⟨_,_,(aD (show PS _ bW (Vy 3 T ⟨343,4,344,49⟩ "enough.<locals>.fits" bW C) from V0 rfl J p (λok=>RF l ok rW) tN.nd rfl (Ap rfl))
   (aD (bN (cg (bY (Qw (pv 3) e (r.mono (by decide)) (jY _ _ _ l) (ky l) (ae (aM cG (by rfl) B.len AS (ae (pv 1) ay)) ay)))) (aF (aP fg)) br)
   (aF (aP (S1 a (r.mono (by decide)) (by rfl) (jY _ _ _ l) (ae aE (ae (aM cG (by rfl) B.len AS (ae (pv 1) ay)) (ae (pv 3) ay)))))))),
  (dq (VH z)
   (dq (bR.x (bS (cb (dQ (bB (PB (aw (bt fN (aB ax aI)) aG))))) (aY (aW fZ)) bo))
   (bR.x (aY (Px (q := "enough.<locals>.fits") (st:=bW) (fs:=["head","breadth","bits"]) (ky l) (aw az (aw (bt fN (aB ax aI)) (aw aC aG)))))))),?_⟩)
 clear l;rintro ds Pr ⟨h,w,L,n,fs,bs,W,B,rfl,ok,v,hn,hl,p,k⟩;have t:∀(c:Nat) (Q:OV->Prop),c<=bs.length->Q (.fz (.bl (decide (B c<=W))))->d_ [nD h w L n fs,.int W,.str (b_ bs),.int c] Q:=λc Q hc q=>by
  obtain⟨u,F,S,G⟩:=p c hc;exact⟨h,w,L,n,fs,bs,c,u,W,rfl,ok,v,hn,hl,hc,F,S,λM o=>by rw[se o G];exact q⟩
 unfold XC at k;gn_on;gp_on;gn_on;rw[b7];refine⟨by lia,t _ _ (Ak _) ?_⟩;fin2;by_cases g:B bs.length<=W
 .rw [if_pos g]at k;rw[decide_eq_true g];show if (!true)=true then _ else _
  rw[if_neg (by decide)];gp_on;fin2;rw[b7];refine⟨by lia,λj hf=>⟨0,bs.length,C,_,λm=>decide (B m.toNat<=W),rfl,hf,j,rfl,by simp only[nD,d8,D.hI,D.lf,Fz,Cg];exact Tn fs,by lia,λm U h1 Q q=>?_,rfl,?_⟩⟩
  .obtain ⟨m,rfl⟩:∃i:Nat,m=i:=⟨m.toNat,by lia⟩
   exact t m Q (by lia) q
  .rw [show ((bs.length:Int)-0).toNat=bs.length by lia];exact k
 .rw [if_neg g]at k;rw[decide_eq_false g];show if (!false)=true then _ else _
  rw[if_pos (by decide)];exact k
theorem zE (f:Nat->Int):∀n,0<n->∃M,(∃i,i<n/\f i=M)/\∀i,i<n->f i<=M
 | 0,h=>by lia
 | 1,_=>⟨f 0,⟨0,by lia,rfl⟩,λi hi=>by rw[show i=0 by lia];exact Br _⟩
 |n + 2,_=>by
  obtain⟨M,⟨i,hi,e⟩,h⟩:=zE f (n+1) (by lia);by_cases a:f (n+1)<=M
  .exact ⟨M,⟨i,by lia,e⟩,λj J=>by
    by_cases z:j=n+1
    .rw [z];exact a
    .exact h j (by lia)⟩
  .exact ⟨f (n+1),⟨n+1,by lia,rfl⟩,λj J=>by
    by_cases z:j=n+1
    .rw [z];exact Br _
    .have:=h j (by lia);lia⟩
theorem W7 {h w:Nat}(n:0<h)(g:0<w)(e:Nat->Nat->fm):∃M,T4 h w e M:=by
 have row:∀i,∃M,(∃j,j<w/\(e i j).2-(e i j).1=M)/\∀j,j<w->(e i j).2-(e i j).1<=M:=λi=>zE (λj=>(e i j).2-(e i j).1) w g
 obtain⟨R,f⟩:=Hl.mp row;obtain⟨M,⟨i,hi,rfl⟩,m⟩:=zE R h n;obtain⟨⟨j,l,o⟩,_⟩:=f i;exact⟨R i,⟨i,j,hi,l,o⟩,λc k a J=>Int.le_trans ((f c).2 k J) (m c a)⟩
theorem W6 {h w L n:Nat}{fs:List Lf}{bs:List Bool}(g:0<h)(a:0<w)(H:∀c,c<=bs.length->∃u,jN (yB (h*w) n) (bs.take c) u/\kI (h*w:Nat) u):∃B,đ h w L n fs bs B:=by
 have ex:∀c:Nat,∃M:Int,c<=bs.length->∃u,jN (yB (h*w) n) (bs.take c) u/\kI (h*w:Nat) u/\T4 h w (cI h w L fs u) M:=λc=>by
  by_cases hc:c<=bs.length
  .obtain ⟨u,F,S⟩:=H c hc;obtain⟨M,e⟩:=W7 g a (cI h w L fs u);exact⟨M,λ_=>⟨u,F,S,e⟩⟩
  .exact ⟨0,λz=>absurd z hc⟩
 obtain⟨B,f⟩:=Hl.mp ex;exact⟨B,f⟩
theorem yX {h w L:Nat}{e:Nat->Nat->Int}{fs:List Lf}(ok:∀f∈fs,f.Ok){v:Wk}(S:kI ((h*w:Nat):Int) v)(C:dz (gd h w e fs L) v)(a:v.pl<0){i j:Nat}(hi:i<h)(J:j<w):cI h w L fs v i j=(e i j,e i j):=by
 have u:∀(k:Nat) (r:List Int),(cc fs (2^k:Nat) r).length=r.length:=λk r=>by rw[L',iW]
 have B:∀(k:Nat) (r:List Int),iJ fs (2^k:Nat) (cc fs (2^k:Nat) r)=r:=λk r=>oQ (by exact_mod_cast Fl (by decide)) r λf hf=>(ok f hf).h
 have o:=xw (z:=(0:Int)) (h:=h) (w:=w) (up:=λk=>cc fs (2^k:Nat)) (dn:=λk=>iJ fs (2^k:Nat)) u B L 0 e (Bv _);rw[O' ok xH S C a hi J];have q:sr h w (λi j=>(gd h w e fs L).getD (eD h w L i j) 0) (pk 0 (λk=>cc fs (2^k:Nat)) h w L e):=λi j hi J=>by
  show (gd h w e fs L).getD (eD h w L i j) 0=_
  rw[Al,gd,AN,qQ hi J];rfl
 have:=((nY (z:=(0:Int)) (op:=λk=>iJ fs (2^k:Nat)) L 0 q).trans o) i j hi J;rw[this];rfl
structure At (h w L n:Nat) (e:Nat->Nat->Int) (fs:List Lf) (bs:List Bool) (c:Nat) (u:Wk):Prop where
 f:jN (yB (h*w) n) (bs.take c) u
 s:kI ((h*w:Nat):Int) u
 us:u.us=c
 wh:decide (u.pl<0)=decide (c=bs.length)
 p5:u.pl<=5000
 re:(u.re.length:Int)+u.pl<800000
 val:∀i j,i<h->j<w->(cI h w L fs u i j).1<=e i j/\e i j<=(cI h w L fs u i j).2
theorem Zp {h w L n:Nat}{e:Nat->Nat->Int}{fs:List Lf}{bs:List Bool}{v:Wk}(ok:∀f∈fs,f.Ok)(k:0<h*w)(B:h*w<=400)(hn:n<=5000)(F:jN (yB (h*w) n) bs v)(S:kI ((h*w:Nat):Int) v)(l:v.pl<0)(U:v.us=bs.length)(a:∀i j,i<h->j<w->cI h w L fs v i j=(e i j,e i j)){c:Nat}(hc:c<=bs.length):
  ∃u,At h w L n e fs bs c u:=by
 obtain⟨z,q,Q,_⟩:(yB (h*w) n).pl=(n:Int)-1/\(yB (h*w) n).re=[]/\(yB (h*w) n).us=0/\_:=jS (h*w) n;have g:=oB (m:=((h*w:Nat):Int)) (by omega) n;obtain⟨u,t,A,r,M,G,p,C,o⟩:=TR (m:=h*w) k (by omega) F g (by omega) (by rw[q,Eg];omega) Q hc;refine⟨u,t,A,by omega,?_,by omega,by rw[q,Eg]at o;omega,λi j hi J=>?_⟩
 .rw [p,decide_eq_true l,Cg];exact decide_eq_decide.mpr (by omega)
 .have:=L0 (L:=L) ok k rfl r A S hi J;rw[a i j hi J]at this;exact⟨this.1,this.2.2⟩
theorem MR {h w L n:Nat}{e:Nat->Nat->Int}{fs:List Lf}{bs:List Bool}{c d:Nat}{u U:Wk}(ok:∀f∈fs,f.Ok)(a:0<h*w)(g:h*w<=400)(A:At h w L n e fs bs c u)(B:At h w L n e fs bs d U)(C:c<=d):
  jN u ((bs.take d).drop c) U/\∀i j,i<h->j<w->Q9 (cI h w L fs u i j) (cI h w L fs U i j):=by
 have M:=RB (m:=h*w) a (by omega) C A.f A.s A.p5 A.re B.f;exact⟨M,λi j hi J=>L0 ok a rfl M A.s B.s hi J⟩
theorem Xa {h w L n:Nat}{e:Nat->Nat->Int}{fs:List Lf}{bs:List Bool}{v u:Wk}(F:jN (yB (h*w) n) bs v)(A:At h w L n e fs bs bs.length u):u=v:=by
 have:=A.f;rw[BU]at this;exact jv this F
noncomputable def bK:List Am:=["head","fed","walk"]
noncomputable def UD (hd:D)(fd:List Am)(u:Wk):List OV:=[.fz hd,.nl (fd.map λs=>.fz (.str s)),.ob none "Walk" bu u.ts]
def RY (h w L n:Nat)(fs:List Lf):Prop:=(1<=h/\h<=64)/\(1<=w/\w<=64)/\L<=6/\n<=4000/\fs.length<=6/\∀f∈fs,f.Ok
def qk:c_:=λds P=>∃(h w L n:Nat) (fs:List Lf),ds=[nD h w L n fs]/\RY h w L n fs/\P (.fz (.bl true))
def eK:wD:=λts ds P=>∃(h w L n:Nat) (fs:List Lf),ts=[]/\ds=[nD h w L n fs]/\RY h w L n fs/\P (UD (nD h w L n fs) [] (yB (h*w) n))
structure Rd (h w L n:Nat) (fs:List Lf) (bs:List Bool) (u:Wk):Prop where
 hd:RY h w L n fs
 f:jN (yB (h*w) n) bs u
 us:u.us=bs.length
noncomputable abbrev rd (h w L n:Nat)(fs:List Lf)(bs:List Bool)(u:Wk):List OV:=UD (nD h w L n fs) (bs.map en) u
def gH:Ue:=λts ds P X=>∃(h w L n:Nat) (fs:List Lf) (bs cs:List Bool) (u v:Wk),ts=rd h w L n fs bs u/\Rd h w L n fs bs u/\ds=[.str (b_ cs)]/\bs.length+cs.length<=1000000/\jN u cs v/\((v.us<bs.length+cs.length/\X "TooMany" (rd h w L n fs bs u))∨(v.us=bs.length+cs.length/\P .cn (rd h w L n fs (bs++cs) v)))
def gG:c_:=λds P=>∃(hd:D) (fd:List Am) (u:Wk),ds=[.obj "Reader" bK (OV.vals (UD hd fd u))]/\P (.fz (.bl (decide (u.pl<0))))
def jC:c_:=λds P=>∃(hd:D) (fd:List Am) (u:Wk),ds=[.obj "Reader" bK (OV.vals (UD hd fd u))]/\u.wk.length<400000/\u.ah.length<400000/\(eI u).length<=900000/\(∀p∈u.wk++u.ah,0<=p.e-p.s/\p.e-p.s<=100000)/\P (.nl ((eI u).map .fz))
def gF:c_:=λds P=>∃(h w L n:Nat) (fs:List Lf) (fd:List Am) (u:Wk),ds=[.obj "Reader" bK (OV.vals (UD (nD h w L n fs) fd u))]/\RY h w L n fs/\kI (h*w:Nat) u/\P (.nl (iv c4 h w (cI h w L fs u)))
def jX:c_:=λds P=>∃(hd:D) (fd:List Am) (u:Wk),ds=[.obj "Reader" bK (OV.vals (UD hd fd u))]/\fd.length<=1000000/\P (.fz (.int fd.length))
noncomputable abbrev kO:AW:=top 79
theorem y9:aN ["thing"] ["thing"] (aA kO):=by walk_at "S"
noncomputable abbrev e8:AW:=dv (top 87) 0
theorem lR:aN ["self","head"] ["self","head"] (aA e8):=by walk_at "S"
noncomputable abbrev iI:AW:=dv (top 87) 1
theorem qB:aN ["self","bits"] ["self","bits"] (aA iI):=by walk_at "S"
noncomputable abbrev e7:AW:=dv (top 87) 3
theorem lQ:aN ["self"] ["self"] (aA e7):=by walk_at "S"
noncomputable abbrev gO:AW:=dv (top 87) 4
theorem o_:aN ["self"] ["self"] (aA gO):=by walk_at "S"
noncomputable abbrev iH:AW:=dv (top 87) 2
theorem qA:aN ["self"] ["self"] (aA iH):=by walk_at "S"
noncomputable abbrev iG:AW:=dv (top 87) 5
theorem qz:aN ["self"] ["self"] (aA iG):=by walk_at "S"
theorem OL {p:Nat->Bool}:∀(l:List Nat),(∀c∈l,p c=true)->l.takeWhile p=l
 | [],_=>rfl
 |c::l,h=>by rw[List.takeWhile_cons,h c AF,if_pos rfl,OL l λd hd=>h d (Aj _ hd)]
theorem yR {x y:Am}(h:∀c∈x.cps.toList,y.cps.contains c=true):Ew x y=⟨#[]⟩:=by
 have lo:PySem.stripLo y.cps.contains true x=x.length:=by
  simp only[PySem.stripLo,if_true];rw[OL _ h,B6];rfl
 unfold Ew Txt.stripBy;split
 .rename_i z;unfold PySem.stripSame at z;rw[lo]at z;have e:x.length=0:=by
   have:=(CJ _ _).mp z;simpa using this.1
  obtain⟨a⟩:=x;have:a=#[]:=FT e;rw[this]
 .unfold PySem.stripped;rw[lo];show (⟨x.cps.extract x.length _⟩:Am)=_
  congr 1
  refine FT ?_;rw[Array.size_extract];show min _ x.cps.size-x.cps.size=0
  lia
theorem W9 (b:Bool):∀c∈(en b).cps.toList,(Ba "01").cps.contains c=true:=by cases b<;>decide +kernel
theorem wL:∀bs:List Bool,∀c∈(b_ bs).cps.toList,(Ba "01").cps.contains c=true
 | [],c,hc=>by
  rw[tD]at hc;simp[Fs]at hc
 |b::bs,c,hc=>by
  rw[gz,show (en b++b_ bs).cps=(en b).cps++(b_ bs).cps from rfl,Dk]at hc;rcases Au.mp hc with z |z
  .exact W9 b c z
  .exact wL bs c z
theorem Si (bs:List Bool):Ew (b_ bs) (Ba "01")=Ba "":=by
 rw[yR (wL bs),uL]
theorem zA {f:Ac}{fd:Ag}(u:bG K mg "is_head" kO f fd)(B:bT mg)(KV:bQ K)(G:∃t,mg "LADDER"=some (.int 4 t))(g:yw K mg "NUMBER_SPANS" (D.tup [.tup [.int 1,.int 64],.tup [.int 1,.int 64],.tup [.int 0,.int 6],.tup [.int 0,.int 4000]]))(p:bO P w K mg base "is_part" 2 ["thing","at"] (bL K 2 lN))(l:bO P w K mg base "is_ladder" 3 ["thing"] (bL K 1 ja)):
  bO P w K mg base "is_head" 4 ["thing"] (bL K 1 qk):=by
 refine cE.of u y9 (by walk_at "b") rfl (λc A o s H E r=>⟨_,_,(aD (bN (dX (cg (bY (aM cw (by rfl) B.isinstance Bl (ae (pv 0) (ae (dk (v:=.ty "tuple") (by rfl) B.tuple BM (by rfl)) ay))))) (dG (bp jE (aM aU (by rfl) B.len AS (ae (pv 0) ay)) (aX cT (aM aU (by rfl) B.len AS (ae (gU (by rfl) g) ay)) aE) (be _)))).pt (aF (aP dJ)) br)
   (aF (aP (gW (aM (gx rfl) (by rfl) B.all Gu (ae (c5 rfl (dO (by rfl) (by exact B.range) (ae (aM aU (by rfl) B.len AS (ae (gU (by rfl) g) ay)) ay)) (show bF (aA kO) _ from⟨rfl,by decide +kernel,by decide +kernel,by decide +kernel⟩) (N:=["at","thing"]) (ix:=[none,some 0]) (show cD _ _ _ _ from⟨⟨rfl,rfl,.inl rfl⟩,trivial⟩) (λ_ _ _=>(bf (i:=0) (show Be (["at","thing"]:List Am) by decide +kernel) rfl (Ap rfl))) (λ_ _ _=>(aQ p (r.mono (by decide)) (by rfl) (ae (aO aS (pv 1) (pv 0) (λ_ _=>rfl)) (ae (pv 0) ay))))) ay)) (jr (aQ l (r.mono (by decide)) (by rfl) (ae (aO aS (pv 0) (aV (by rfl) G) (λ_ _=>rfl)) ay))))))),
  (aK (bS (dW (cb (dQ (bt (eh KV) (aB ax (aB (aH fO) aI))))) (bh (aJ jF (aH (bt bV (aB ax aI))) (aH (aJ b9 (aH (bt bV (aB (aH qJ) aI))) (aH az)))))) (aY (aW dI)) bo)
   (aY (aW (fb (bt ot (aB (aH (bB (cz (fJ (aB (aH (bt bV (aB (aH qJ) aI))) aI)) bj (aT (aw (bC aR aC aC) (aw aC aG)))))) aI)) (bB (aT (aw (bC aR aC az) aG))))))),?_⟩)
 rintro ds z ⟨h,w,L,n,fs,rfl,hd,k⟩;obtain⟨⟨h1,h2⟩,⟨j,e⟩,m,hn,hf,ok⟩:=hd;fin2;rw[if_neg (by simp)];refine⟨⟨by decide,by decide⟩,?_⟩;refine eQ.map [(0:Int),1,2,3] D.int (λ_=>.fz (.bl true)) (by decide) (λx a Q q=>?_) ?_
 .fin2;simp only[AB,Ct,or_false]at a;rcases a with rfl |rfl |rfl |rfl
  .exact ⟨_,rfl,h,0,rfl,.inl ⟨rfl,h1,h2⟩,q⟩
  .exact ⟨_,rfl,w,1,rfl,.inr (.inl ⟨rfl,j,e⟩),q⟩
  .exact ⟨_,rfl,L,2,rfl,.inr (.inr (.inl ⟨rfl,m⟩)),q⟩
  .exact ⟨_,rfl,n,3,rfl,.inr (.inr (.inr ⟨rfl,hn⟩)),q⟩
 refine⟨[true,true,true,true],rfl,?_⟩;rw[if_pos (by decide)];exact⟨fs,rfl,hf,ok,k⟩
theorem lY {f:Ac}{fd:Ag}(m:N7 K "__init__" "Reader.__init__" e8 f fd)(M:MX K mg "Reader" f)(B:bT mg)(KV:bQ K)(C:du K "Reader" bK)(e:bO P w K mg base "is_head" 4 ["thing"] (bL K 1 qk))(l:bO P w K mg base "walk_of" 7 ["head","bits"] (bL K 2 i9)):
  sk P w K mg base "Reader" 8 ["self","head"] (nC K 2 "Reader" bK eK):=by
 refine sk.of m M lR (by walk_at "b") rfl (λc A o s H E r=>⟨_,_,(aD (bN (cg (bY (aQ e (r.mono (by decide)) (by rfl) (ae (pv 1) ay)))) (aF ko) br)
   (aD (gR (pv 0) (pv 1) rfl)
   (aD (gR (pv 0) (cC ay) rfl)
   (aF (gR (pv 0) (aQ l (r.mono (by decide)) (by rfl) (ae (pv 1) (ae f6 ay))) rfl))))),
  (aK (bS (cb (dQ (bB (aT (aw aC aG))))) kj bo)
   (aK (ib (j:=0) C (by rfl) (aW aC))
   (aK (ib (j:=1) C (by rfl) (c9 cB))
   (ib (j:=2) C (by rfl) (aT (aw aC (aw fY aG))))))),?_⟩)
 rintro a ts ds u ⟨h,w,L,n,fs,rfl,rfl,hd,k⟩;have g:=hd;obtain⟨⟨h1,h2⟩,⟨q,p⟩,t,hn,hf,ok⟩:=g;gn_on;refine⟨h,w,L,n,fs,rfl,hd,?_⟩;fin2;gp_on;fin2;refine⟨h,w,L,n,fs,[],_,yB (h*w) n,rfl,.inl (by rw[tD,uL];rfl),by lia,by lia,?_,k⟩;rw[<- Gw];exact .nil
theorem XM {u:Wk}:OV.lf (.ob none "Walk" bu u.ts)=true:=by
 have p:∀ps:List Pa,OV.hI (ps.map λp=>OV.fz p.d)=true:=λps=>by rw[OV.gZ];simp[OV.lf,D.lf,D.hI,Pa.d]
 simp[Wk.ts,OV.lf,OV.hI,D.lf,Th,p]
theorem rk {f:Ac}{fd:Ag}(Q:fq K "Reader" "feed" "Reader.feed" iI f fd)(B:bT mg)(KV:bQ K){t:Ac}(m:Cq K Ai "NoBits"=some (some (.ref t)))(p:Fy "NoBits" t [.type "ValueError",.type "Exception",.type "BaseException",.type "object"] "ValueError.__new__" mg base){T:Ac}(M:Cq K Ai "TooMany"=some (some (.ref T)))(g:Fy "TooMany" T [.type "ValueError",.type "Exception",.type "BaseException",.type "object"] "ValueError.__new__" mg base)(e:du K "Walk" bu)(C:du K "Reader" bK)(l:c6 P w K mg base "Walk" "follow" 5 ["self","bits"] (nC K 2 "Walk" bu gE))(O:bO P w K mg base "walk_of" 7 ["head","bits"] (bL K 2 i9)):
  nB P w K mg base "Reader" "feed" 8 ["self","bits"] (R0 K 2 "Reader" bK gH):=by
 refine nB.of Q qB (by walk_at "b") rfl (λc A o s H E r=>⟨_,_,(aD (bN (bp jE (fo PySem.F.plainAttrs_str PySem.F.slot_str_strip PySem.F.type_str_strip QQ (pv 1) (ae f6 ay)) f6 (be _)) (aF (xo (by rfl) p PySem.F.excBase_ValueError r.hd f6)) br)
   (aD (bP (fi l (r.mono (by decide)) (cu (pv 0) rfl) (ae (pv 1) ay)))
   (aD (bN (bp kx (cu (cu (pv 0) rfl) rfl) (aX cT (aM aU (by rfl) B.len AS (ae (cu (pv 0) rfl) ay)) (aM cG (by rfl) B.len AS (ae (pv 1) ay))) (be _)) (aD (gR (pv 0) (aQ O (r.mono (by decide)) (by rfl) (ae (cu (pv 0) rfl) (ae (cu (pv 0) rfl) ay))) rfl)
   (aF (xo (by rfl) g PySem.F.excBase_ValueError r.hd f6))) br)
   (aF (bP (fo Bb Fa E_ (Te rfl) (cu (pv 0) rfl) (ae (pv 1) ay))))))),
  (λF0 H0=>(vb (Ux (bh (aJ jF (aH (PM ax (aH fY))) (aH fY))) (w_ m (aH fY)) (xa bo))
   (vb (xa (Po (j:=2) C e (by rfl) (by decide +kernel) (aw aC aG)))
   (vb (Ux (bh (aJ c0 (dr (j:=1) e (by rfl) (dr (j:=2) C (by rfl) ax)) (aH (aJ b9 (aH (bt bV (aB (dr (j:=1) C (by rfl) ax) aI))) (aH (bt fN (aB ax aI))))))) (vb (xa (va (j:=2) C (by rfl) (cR (aB (dr (j:=0) C (by rfl) ax) (aB (dr (j:=1) C (by rfl) ax) aI)))))
   (w_ M (aH fY))) (xa bo))
   (xa (Pp (j:=1) C (by rfl) aC)))))),?_⟩)
 rintro a ts ds Pr X ⟨h,w,L,n,fs,bs,cs,u,v,rfl,R,rfl,G,F,k⟩;obtain⟨hd,J,U⟩:=R;have q:=hd;obtain⟨⟨h1,h2⟩,⟨w1,w2⟩,hL,hn,hf,ok⟩:=q;refine vi λN hN=>?_
 fin2;rw[Si,b7];refine⟨by lia,?_⟩;rw[if_neg (by simp)];gp_on;refine vi λN hN=>?_
 unfold rd UD;fin2;refine⟨none,u.ts,⟨rfl,rfl⟩,u,v,cs,_,rfl,rfl,.inl rfl,F,?_⟩;gp_on;refine vi λN hN=>?_
 fin2;rw[b7];refine⟨.int v.us,rfl,by lia,?_⟩;show if v.us<_ then _ else _
 rcases k with⟨z,k⟩ | ⟨he,k⟩
 .rw [if_pos (by lia)];refine vi λN hN=>?_
  fin2;refine⟨by decide,h,w,L,n,fs,bs,_,u,rfl,.inr (by rw[A8,A8];rfl),by lia,by lia,by rw[<- Gw];exact J,XM,?_⟩;gp_on;fin2;exact k
 .rw [if_neg (by lia)];gp_on;fin2;refine⟨_,rfl,by rw[Ay,show (b_ cs).cps.size=cs.length from b7 cs,Ay];lia,?_⟩;rw[<- A5,jf,<- A5];exact k
theorem lX {f:Ac}{fd:Ag}(e:fq K "Reader" "is_whole" "Reader.is_whole" e7 f fd)(B:bT mg)(KV:bQ K)(l:du K "Walk" bu)(C:du K "Reader" bK)(a:c6 P w K mg base "Walk" "is_whole" 1 ["self"] (bL K 1 et)):
  c6 P w K mg base "Reader" "is_whole" 2 ["self"] (bL K 1 gG):=by
 refine LB.of e lQ (by walk_at "b") rfl (λc A o s H E h=>⟨_,_,(aF (aP (di a (h.mono (by decide)) (cu (pv 0) rfl)))),
  (aY (dH l (by decide +kernel) (dr (j:=2) C (by rfl) ax) aI)),?_⟩)
 rintro ds r ⟨hd,fd,u,rfl,k⟩;fin2;refine⟨_,rfl,rfl,rfl,u,by rw[OV.cm],rfl,k⟩
theorem ph {f:Ac}{fd:Ag}(m:fq K "Reader" "spans" "Reader.spans" gO f fd)(B:bT mg)(KV:bQ K)(l:du K "Walk" bu)(C:du K "Reader" bK)(a:c6 P w K mg base "Walk" "spans" 1 ["self"] (bL K 1 iu)):
  c6 P w K mg base "Reader" "spans" 2 ["self"] (bL K 1 jC):=by
 refine LB.of m o_ (by walk_at "b") rfl (λc A o s H E h=>⟨_,_,(aF (aP (di a (h.mono (by decide)) (cu (pv 0) rfl)))),
  (aY (dH l (by decide +kernel) (dr (j:=2) C (by rfl) ax) aI)),?_⟩)
 rintro ds r ⟨hd,fd,u,rfl,h1,h2,g,e,k⟩;fin2;refine⟨_,rfl,rfl,rfl,u,by rw[OV.cm],h1,h2,g,e,?_,k⟩;rw[pD];show OV.hI _=true
 rw[A8];exact pQ
theorem n' {h w:Nat}{e:Nat->Nat->fm}:OV.lf (.nl (iv c4 h w e))=true:=by
 show OV.hI _=true
 rw[OV.gZ,FI];intro t ht;obtain⟨i,_,rfl⟩:=A7.mp ht;show OV.hI _=true
 have:=pQ (xs:=tab w λj=>e i j);rw[dS]at this;exact this
theorem ri {f:Ac}{fd:Ag}(z:fq K "Reader" "seen" "Reader.seen" iG f fd)(B:bT mg)(KV:bQ K)(C:du K "Reader" bK)(l:bO P w K mg base "level" 7 ["head","spans","k"] (bL K 3 qi))(e:c6 P w K mg base "Reader" "spans" 2 ["self"] (bL K 1 jC)):
  c6 P w K mg base "Reader" "seen" 8 ["self"] (bL K 1 gF):=by
 refine LB.of z qz (by walk_at "b") rfl (λc A o s H E r=>⟨_,_,(aF (aP (aQ l (r.mono (by decide)) (by rfl) (ae (cu (pv 0) rfl) (ae (di e (r.mono (by decide)) (pv 0)) (ae aE ay)))))),
  (aY (cR (aB (dr (j:=0) C (by rfl) ax) (aB (aH (bB (dH C (by decide +kernel) ax aI))) (aB (aH az) aI))))),?_⟩)
 rintro ds J ⟨h,w,L,n,fs,fd,u,rfl,hd,S,k⟩;have g:=hd;obtain⟨⟨h1,h2⟩,⟨G,m⟩,p,hn,hf,ok⟩:=g;have M:h*w<=4096:=Ee h2 m;have t:=tL S (by lia);fin2;refine⟨_,rfl,nD h w L n fs,fd,u,by rw[OV.cm],t.1,t.2.1,by lia,t.2.2.2,?_⟩;rw[pD];have a:OV.lf (.nl (Bu OV.fz (Bu c4 (cZ u))))=true:=by
  show OV.hI _=true
  rw[A8];exact pQ
 refine⟨a,?_⟩;have v:OV.val (.nl (Bu OV.fz (Bu c4 (cZ u)))) = .lst ((cZ u).map c4):=by
  show D.lst (OV.vals _)=_
  rw[MD]
 rw[v];have q:=i8 S;refine⟨h,w,L,n,0,fs,cZ u,rfl,ok,⟨by lia,by lia,by lia,p⟩,Bv _,q,?_⟩;rw[pE];exact⟨n',k⟩
theorem rj {f:Ac}{fd:Ag}(a:fq K "Reader" "many" "Reader.many" iH f fd)(B:bT mg)(KV:bQ K)(C:du K "Reader" bK):
  c6 P w K mg base "Reader" "many" 1 ["self"] (bL K 1 jX):=by
 refine LB.of a qA (by walk_at "b") rfl (λc A o s H E h=>⟨_,_,(aF (aP (aM aU (by rfl) B.len AS (ae (cu (pv 0) rfl) ay)))),
  (aY (aW (bt bV (aB (dr (j:=1) C (by rfl) ax) aI)))),?_⟩)
 rintro ds r ⟨hd,fd,u,rfl,hl,k⟩;fin2;refine⟨_,rfl,?_⟩;show r (.fz (.int (OV.vals _).length))
 rw[OV.cm,Ay,Ay];exact k
theorem Ts {n i j:Nat}(h:i<=j)(J:j<=n):BO (some (i:Int)) (some (j:Int)) 1 n=(Ax (j-i)).map λk=>i+k:=by
 unfold BO CZ;have f:¬ ((i:Int)<0):=by omega
 have a:¬ ((j:Int)<0):=by omega
 simp only[f,a,if_false,show (1:Int) > 0 by decide,if_true];have e:max 0 (min (i:Int) (n:Int))=(i:Int):=by omega
 have e':max 0 (min (j:Int) (n:Int))=(j:Int):=by omega
 rw[e,e'];have c:(if (i:Int)<(j:Int) then ((j:Int)-(i:Int)+1-1) / 1 else 0).toNat=j-i:=by
  split
  .rw [IG];(clear h J f a;omega)
  .omega
 rw[c];refine Cp λk _=>?_
 clear h J f a e' c;omega
theorem Sd (x:Am){i j:Nat}(h:i<=j)(J:j<=x.length):CH x (some (i:Int)) (some (j:Int))=J9 (G5 ((x.cps.toList.drop i).take (j-i))):=by
 have e:((Ax (j-i)).map λk=>i+k).filterMap (x.cps[·]?)=(x.cps.toList.drop i).take (j-i):=by
  rw[E2];rw[<- MF (x.cps.toList.drop i) (show j-i<=(x.cps.toList.drop i).length by rw[DG,B6];have:x.cps.size=x.length:=rfl;omega)];refine congrArg (λg=>IQ g _) (funext λk=>?_);simp[Ej]
 unfold CH;rw[Ts h J];split
 .rename_i c;have hc:j-i=x.length:=by simpa using c
  have hi:i=0:=by omega
  subst hi;show x=J9 (G5 ((x.cps.toList.drop 0).take (j-0)))
  rw[List.drop_zero,hc,BW (by rw[B6];exact Ak _)]
 .rw [e]
theorem Sj (bs:List Bool){i j:Nat}(h:i<=j)(J:j<=bs.length):CH (b_ bs) (some (i:Int)) (some (j:Int))=b_ ((bs.take j).drop i):=by
 rw[Sd _ h (by rw[b7];exact J)];have e:b_ bs=b_ (bs.take i)++(b_ ((bs.take j).drop i)++b_ (bs.drop j)):=by
  rw[<- kL,<- kL];congr 1
  have h1:=B4 i (bs.take j);rw[HS,BX h]at h1;rw[<- BL,h1,B4]
 have L:(b_ (bs.take i)).cps.toList.length=i:=by
  have:=b7 (bs.take i);rw[Bp,BX (by omega)]at this;rw[B6];exact this
 have l:(b_ ((bs.take j).drop i)).cps.toList.length=j-i:=by
  have:=b7 ((bs.take j).drop i);rw[DG,Bp,BX J]at this;rw[B6];exact this
 rw[e];show J9 (G5 ((((b_ (bs.take i)).cps++((b_ ((bs.take j).drop i)).cps++(b_ (bs.drop j)).cps)).toList.drop i).take (j-i)))=_
 rw[Dk,Dk,Ge (by omega),G8 (by omega),EO,Ga (by omega),BW (by omega)]
noncomputable def pR (c:Int):Lf:=⟨c%2147483647*48271%2147483647%2,c%2147483647*48271%2147483647 / 2%17-8,c%2147483647*48271%2147483647 / 34%17-8,c%2147483647*48271%2147483647 / 578%129-64,c%2147483647*48271%2147483647 / 74562%9⟩
theorem zP (c:Int):(pR c).Ok:=by
 unfold pR;generalize c%2147483647*48271%2147483647=x;exact⟨by show x%2=0∨x%2=1;omega,by show -8<=x / 2%17-8/\x / 2%17-8<=8;omega,by show -8<=x / 34%17-8/\x / 34%17-8<=8;omega,by show -64<=x / 578%129-64/\x / 578%129-64<=64;omega,by show 0<=x / 74562%9/\x / 74562%9<=8;omega⟩
noncomputable abbrev lU:AW:=top 95
theorem eN:aN ["_law_cell","_law_some","_law_half","_law_left","_law_right","_law_add"] ["_law_cell"] (aA lU):=by walk_at "S"
def hV:c_:=λds P=>match ds with
 | [.int c]=>P (.fz (wB (pR c)))
 |_=>False
theorem xC {f:Ac}{fd:Ag}(a:bG K mg "_law_lift" lU f fd)(B:bT mg)(KV:bQ K):
  bO P w K mg base "_law_lift" 1 ["_law_cell"] (bL K 1 hV):=by
 refine cE.of a eN (by walk_at "b") rfl (λc A o s H E r=>⟨_,_,(aD (a5 (i:=1) eN.nd rfl (Ap rfl) (aX cS (aX eL (aX cS (pv 0) aE) aE) aE))
   (aD (a5 (i:=2) eN.nd rfl (Ap rfl) (aX cS (pv 1) aE))
   (aD (a5 (i:=3) eN.nd rfl (Ap rfl) (aX dt (aX cS (aX eE (pv 1) aE) aE) aE))
   (aD (a5 (i:=4) eN.nd rfl (Ap rfl) (aX dt (aX cS (aX eE (pv 1) aE) aE) aE))
   (aD (a5 (i:=5) eN.nd rfl (Ap rfl) (aX dt (aX cS (aX eE (pv 1) aE) aE) aE))
   (aF (aP (bH (ae (pv 2) (ae (pv 3) (ae (pv 4) (ae (pv 5) (ae (aX cS (aX eE (pv 1) aE) aE) ay))))))))))))),
  (aK (aZ (aW (aJ cj (aH (aJ cj (aH (aJ cj ax (aH az))) (aH az))) (aH az))))
   (aK (aZ (aW (aJ cj ax (aH az))))
   (aK (aZ (aW (aJ b9 (aH (aJ cj (aH (aJ cj ax (aH az))) (aH az))) (aH az))))
   (aK (aZ (aW (aJ b9 (aH (aJ cj (aH (aJ cj ax (aH az))) (aH az))) (aH az))))
   (aK (aZ (aW (aJ b9 (aH (aJ cj (aH (aJ cj ax (aH az))) (aH az))) (aH az))))
   (aY (aW (bX (aw aC (aw aC (aw aC (aw aC (aw (aJ cj (aH (aJ cj ax (aH az))) (aH az)) aG))))))))))))),?_⟩)
 intro ds e h;unfold hV at h;split at h
 .fin2;exact h
 .exact h.elim
theorem kD {n:Nat}{i:Int}:D.ft n (.int i):=D.MH.ft (.inl ⟨i,rfl⟩)
theorem TH {n:Nat}{a b c d e:Int}:D.ft (n+1) (.tup [.int a,.int b,.int c,.int d,.int e]):=.tup λy h=>by
 simp only[AB,Ct,or_false]at h;rcases h with rfl |rfl |rfl |rfl |rfl<;>exact kD
def lx:c_:=λds P=>∃(ns:List Int) (k:Int),ds=[.lst (ns.map .int),.int k]/\∀fs:List Lf,fs.length<=3->(∀f∈fs,f.Ok)->P (.fz (d8 fs))
abbrev Bd (c:Int):Prop:=-2^80<=c/\c<=2^80
def my:c_:=λds P=>∃(ns:List Int) (k:Int),ds=[.lst (ns.map .int),.int k]/\0<=k/\k<4/\ns.length<=63/\∀cs:List Int,1<=cs.length->cs.length<=57->(∀c∈cs,Bd c)->P (.nl (cs.map λx=>.fz (.int x)))
def jV:c_:=λds P=>∃(ns:List Int) (k:Int),ds=[.lst (ns.map .int),.int k]/\0<=k/\k<4/\ns.length<=63/\∀(h w:Nat) (e:Nat->Nat->Int),1<=h->h<=64->1<=w->w<=64->h*w<=400->(∀i j,Bd (e i j))->P (.nl (iv D.int h w e))
noncomputable abbrev gk:AW:=top 96
theorem fG:aN ["_law_script","_law_kind","_law_cell","_law_line","_law_named"] ["_law_script","_law_kind"] (aA gk):=by walk_at "S"
noncomputable abbrev h_:AW:=top 97
theorem dE:aN ["_law_script","_law_kind","_law_most","_law_far","_law_cells_here","_law_number","_law_k"] ["_law_script","_law_kind"] (aA h_):=by walk_at "S"
noncomputable abbrev fI:AW:=top 98
theorem eW:aN ["_law_script","_law_kind","_law_cells_here","_law_wide"] ["_law_script","_law_kind"] (aA fI):=by walk_at "S"
theorem Yt (i:Int)(n:0<=i)(c:i<4):∃fs:List Lf,fs.length<=3/\(∀f∈fs,f.Ok)/\hQ [d8 [⟨1,-1,-1,1,1⟩,⟨0,1,1,2,2⟩],d8 [⟨1,-1,0,0,0⟩,⟨0,0,1,0,1⟩],d8 [⟨1,-1,-1,1,1⟩,⟨0,1,1,2,2⟩,⟨1,-1,-1,4,3⟩],d8 []] i=some (d8 fs):=by
 have ok:∀h l r a s:Int,(h=0∨h=1)->(-8<=l/\l<=8)->(-8<=r/\r<=8)->(-64<=a/\a<=64)->(0<=s/\s<=8)->(⟨h,l,r,a,s⟩:Lf).Ok:=λh l r a s h1 h2 m c k=>⟨h1,h2,m,c,k⟩
 have j:=ok 1 (-1) 0 0 0 (.inr rfl) (by decide) (by decide) (by decide) (by decide);have g:=ok 0 0 1 0 1 (.inl rfl) (by decide) (by decide) (by decide) (by decide);have O:=ok 1 (-1) (-1) 1 1 (.inr rfl) (by decide) (by decide) (by decide) (by decide);have o:=ok 0 1 1 2 2 (.inl rfl) (by decide) (by decide) (by decide) (by decide);have e:=ok 1 (-1) (-1) 4 3 (.inr rfl) (by decide) (by decide) (by decide) (by decide);have t:∀{p:Lf->Prop} {a b:Lf},p a->p b->∀f∈[a,b],p f:=λA B f hf=>by
  simp only[AB,Ct,or_false]at hf;rcases hf with rfl |rfl
  .exact A
  .exact B
 rcases (show i=0∨i=1∨i=2∨i=3 by lia) with rfl |rfl |rfl |rfl
 .exact ⟨_,by decide,t O o,rfl⟩
 .exact ⟨_,by decide,t j g,rfl⟩
 .exact ⟨_,by decide,BQ.mpr ⟨O,t o e⟩,rfl⟩
 .exact ⟨_,by decide,(λf hf=>by cases hf),rfl⟩
theorem sI {f:Ac}{fd:Ag}(g:bG K mg "_law_ladder" gk f fd)(B:bT mg)(KV:bQ K)(l:bO P w K mg base "_law_cell_at" 1 ["_law_script","_law_k"] (bL K 2 d9))(a:bO P w K mg base "_law_lift" 1 ["_law_cell"] (bL K 1 hV)):
  bO P w K mg base "_law_ladder" 2 ["_law_script","_law_kind"] (bL K 2 lx):=by
 refine cE.of g fG (by walk_at "b") rfl (λc A o s H E r=>⟨_,_,(aD (a5 (i:=2) fG.nd rfl (Ap rfl) (aQ l (r.mono (by decide)) (by rfl) (ae (pv 0) (ae aE ay))))
   (aD (a5 (i:=3) fG.nd rfl (Ap rfl) (bH (ae (bH (ae aE (ae (ku gy aE) (ae (ku gy aE) (ae aE (ae aE ay)))))) (ae (bH (ae aE (ae aE (ae aE (ae aE (ae aE ay)))))) ay))))
   (aD (bN (bp jE (pv 1) aE (be _)) (aD (a5 (i:=4) fG.nd rfl (Ap rfl) (cC (ae (pv 3) (ae (bH (ae (bH (ae aE (ae (ku gy aE) (ae aE (ae aE (ae aE ay)))))) (ae (bH (ae aE (ae aE (ae aE (ae aE (ae aE ay)))))) ay))) (ae (aX QD (pv 3) (bH (ae (bH (ae aE (ae (ku gy aE) (ae (ku gy aE) (ae aE (ae aE ay)))))) ay))) (ae (bH ay) ay))))))
   (aF (aP (aO ba (pv 4) (aX cS (pv 2) aE) (λ_ _=>rfl))))) br)
   (aF (aP (kU ye (by rfl) B.tuple BM (ae (c5 rfl (dO (by rfl) (by exact B.range) (ae (aX cS (pv 2) aE) ay)) (show bF (aA gk) _ from⟨rfl,by decide +kernel,by decide +kernel,by decide +kernel⟩) (N:=["_law_k","_law_script"]) (ix:=[none,some 0]) (show cD _ _ _ _ from⟨⟨rfl,rfl,.inl rfl⟩,trivial⟩) (λ_ _ _=>(bf (i:=0) (show Be (["_law_k","_law_script"]:List Am) by decide +kernel) rfl (Ap rfl))) (λ_ _ _=>(aQ a (r.mono (by decide)) (by rfl) (ae (aQ l (r.mono (by decide)) (by rfl) (ae (pv 1) (ae (aX cT aE (pv 0)) ay))) ay)))) ay))))))),
  (aK (aZ (aW (bB (aT (aw aC (aw az aG))))))
   (aK (aZ (aW (bX (aw (bX (aw az (aw (gP (aH az)) (aw (gP (aH az)) (aw az (aw az aG)))))) (aw (bX (aw az (aw az (aw az (aw az (aw az aG)))))) aG)))))
   (aK (bS (bh (aJ jF ax (aH az))) (aK (aZ (aW (bB (c9 (bU (aW aC) (bU (aW (bX (aw (bX (aw az (aw (gP (aH az)) (aw az (aw az (aw az aG)))))) (aw (bX (aw az (aw az (aw az (aw az (aw az aG)))))) aG)))) (bU (aW (SK aC (bX (aw (bX (aw az (aw (gP (aH az)) (aw (gP (aH az)) (aw az (aw az aG)))))) aG)))) (bU (aW (bX aG)) cB))))))))
   (aY (aW (bC bD aC (aJ cj ax (aH az)))))) bo)
   (aY (xb W5 (aw (bB (cz (fJ (aB (aH (aJ cj ax (aH az))) aI)) bj (aT (aw (bB (aT (aw aC (aw (aJ b9 (aH az) ax) aG)))) aG)))) aG)))))),?_⟩)
 rintro ds p ⟨ns,n,rfl,k⟩;gn_on;refine⟨ns,2,rfl,by decide,?_⟩;fin2;generalize ns.getD 2 0=c;gp_on;gn_on;gp_on;gn_on;split
 .obtain ⟨fs,f1,f2,e⟩:=Yt (c%4) (by lia) (by lia);exact⟨by simp,by simp,_,e,k fs f1 f2⟩
 .gp_on;fin2;obtain⟨m,M,j⟩:∃m:Nat,c%3=m/\m<=2:=⟨(c%3).toNat,by lia,by lia⟩
  rw[M];refine⟨⟨by lia,by lia⟩,?_⟩;rw[Bf];refine⟨λi δ ts=>∃(fs:List Lf) (O:Option Sl),δ=[O,vD (.lst (ns.map D.int))]/\ts=fs.map (λf=>.fz (wB f))/\fs.length=i/\∀f∈fs,f.Ok,⟨[],none,rfl,rfl,rfl,λ_ h=>(by cases h)⟩,?_,?_⟩
  .rintro i d δ ts hd ⟨fs,O,rfl,rfl,hl,ok⟩;obtain⟨hi,rfl⟩:=eJ hd;refine⟨by rw[Ay];lia,?_⟩;fin2;refine⟨ns,3+(0+(i:Int)*1),rfl,by lia,?_⟩;fin2;simp only[hV];refine⟨fs++[pR _],_,rfl,by rw[A5];rfl,by rw[AG,hl];rfl,λf hf=>?_⟩;rcases Au.mp hf with z |z
   .exact ok f z
   .rw [AM.mp z];exact zP _
  .rintro δ ts ⟨fs,O,rfl,rfl,hl,ok⟩;rw[eC]at hl;fin2;have:=k fs (by lia) ok;rw[A8];exact this
theorem Yq (i:Int)(a:0<=i)(h:i<4):∃(m f:Nat),1<=m/\m<=57/\f<=10^24/\hQ [D.int 57,D.int 9,D.int 3,D.int 6] i=some (.int m)/\hQ [D.int 3,D.int 1000,D.int 1000000000000000000000000,D.int 3] i=some (.int f):=by
 rcases (show i=0∨i=1∨i=2∨i=3 by lia) with rfl |rfl |rfl |rfl
 .exact ⟨57,3,by decide,by decide,by decide,rfl,rfl⟩
 .exact ⟨9,1000,by decide,by decide,by decide,rfl,rfl⟩
 .exact ⟨3,10^24,by decide,by decide,by decide,rfl,rfl⟩
 .exact ⟨6,3,by decide,by decide,by decide,rfl,rfl⟩
theorem RS {x:Int}{f:Nat}(hf:f<=10^24):Bd (x%(2*(f:Int)+1)-f):=by
 have h:=Es x (show 2*(f:Int)+1≠0 by lia);have h1:=C8 x (show (0:Int)<2*(f:Int)+1 by lia);have:(10:Nat)^24<=2^80:=by decide
 exact⟨by show -2^80<=_;lia,by show _<=2^80;lia⟩
theorem Ą (ns:List Int)(m:Nat)(h:m<=57):∃ys:List Int,L2.cutD (ns.map D.int) (some 6) (some (min 63 (6+(m:Int))))=ys.map D.int/\ys.length<=m:=by
 rw[show min (63:Int) (6+(m:Int))=((6+m:Nat):Int) by lia];unfold L2.cutD;rw[show (some (6:Int))=some ((6:Nat):Int) from rfl,HT.kR,HT.kR,<- Jg,<- Jf];exact⟨_,rfl,by rw[Bp];lia⟩
theorem vv {f:Ac}{fd:Ag}(U:bG K mg "_law_cells" h_ f fd)(B:bT mg)(KV:bQ K)(l:bO P w K mg base "_law_cell_at" 1 ["_law_script","_law_k"] (bL K 2 d9)):
  bO P w K mg base "_law_cells" 2 ["_law_script","_law_kind"] (bL K 2 my):=by
 refine cE.of U dE (by walk_at "b") rfl (λc A o s H E G=>⟨_,_,(aD (a5 (i:=2) dE.nd rfl (Ap rfl) (aO ba (cC (ae aE (ae aE (ae aE (ae aE ay))))) (pv 1) (λ_ _=>rfl)))
   (aD (a5 (i:=3) dE.nd rfl (FM rfl) (aO ba (cC (ae aE (ae aE (ae (aX V8 aE aE) (ae aE ay))))) (pv 1) (λ_ _=>rfl)))
   (aD (fA (i:=4) dE.nd rfl (Ap rfl) rfl (cF (iT qo (pv 0) (fK aE) (fK (aM (om rfl) (by rfl) B.min Ke (ae aE (ae (aX cT aE (pv 2)) ay)))))) (show bF (aA h_) _ from⟨rfl,by decide +kernel,by decide +kernel,by decide +kernel⟩) (N:=["_law_cell","_law_far"]) (ix:=[none,some 3]) (show cD _ _ _ _ from⟨⟨rfl,rfl,.inl rfl⟩,trivial⟩) (λ_ _ _=>(bf (i:=0) (show Be (["_law_cell","_law_far"]:List Am) by decide +kernel) rfl (Ap rfl))) (λ_ _ _=>(aX dt (aX cS (pv 0) (aX cT (aX eL aE (pv 1)) aE)) (pv 1))))
   (aD (a5 (i:=5) dE.nd rfl (Ap rfl) (aX cS (aX eE (aQ l (G.mono (by decide)) (by rfl) (ae (pv 0) (ae aE ay))) aE) aE))
   (aD (dy AO rfl (dO (by rfl) (by exact B.range) (ae (aX cT aE (aX cS (pv 5) (aM (om rfl) (by rfl) B.min Ke (ae (pv 2) (ae aE ay))))) ay)) (bf (i:=6) dE.nd rfl (Ap rfl)) (aD (a5 (i:=5) dE.nd rfl (Ap rfl) (aX cS (aX cT (aX cT (aX eL (pv 5) (pv 5)) (aX eL aE (pv 5))) (pv 6)) aE))
   (aF (bN (bp mR (aM aU (by rfl) B.len AS (ae (pv 4) ay)) (pv 6) (be _)) (aF (bP (fo Bb PySem.F.slot_list_append PySem.F.type_list_append cM (pv 4) (ae (aX dt (aX cS (pv 5) (aX cT (aX eL aE (pv 3)) aE)) (pv 3)) ay)))) br))))
   (aF (aP (pv 4)))))))),
  (aK (aZ (aW (bC bD (bB (c9 (bU (aW az) (bU (aW az) (bU (aW az) (bU (aW az) cB)))))) aC)))
   (aK (aZ (aW (bC bD (bB (c9 (bU (aW az) (bU (aW az) (bU (aW (aJ cj (aH az) (aH az))) (bU (aW az) cB)))))) aC)))
   (aK (aZ (cz (cL (bB (zh aC (lD (aH az)) (lD (aH (bt wj (aB (aH az) (aB (aH (aJ b9 (aH az) ax)) aI)))))))) bj (aW (aJ b9 (aH (aJ cj ax (aH (aJ b9 (aH (aJ cj (aH az) ax)) (aH az))))) ax))))
   (aK (aZ (aW (aJ cj (aH (aJ cj (aH (bB (aT (aw aC (aw az aG))))) (aH az))) (aH az))))
   (aK (dw (fJ (aB (aH (aJ b9 (aH az) (aH (aJ cj ax (aH (bt wj (aB ax (aB (aH az) aI)))))))) aI)) bj (aK (aZ (aW (aJ cj (aH (aJ b9 (aH (aJ b9 (aH (aJ cj ax ax)) (aH (aJ cj (aH az) ax)))) ax)) (aH az))))
   (bS (bh (aJ c0 (aH (bt bV (aB ax aI))) ax)) (nS (aW (aJ b9 (aH (aJ cj ax (aH (aJ b9 (aH (aJ cj (aH az) ax)) (aH az))))) ax))) bo)))
   e_))))),?_⟩)
 rintro ds Pr ⟨ns,j,rfl,k0,u,J,k⟩;obtain⟨m,f,m1,M,hf,t,p⟩:=Yq j k0 u;gn_on;refine⟨_,t,?_⟩;gp_on;gn_on;refine⟨_,p,?_⟩;clear t p;gp_on;gn_on;obtain⟨ys,n,L⟩:=Ą ns m M;rw[n,show Bu OV.val (Bu OV.fz (ys.map D.int))=ys.map D.int by rw[A8];exact Kh _];refine eQ.map ys D.int (λy=>.fz (.int (y%(2*(f:Int)+1)-f))) (by lia) (λy _ Q q=>?_) ?_
 .fin2;exact⟨by lia,q⟩
 obtain⟨cs,e,C,h⟩:∃cs:List Int,ys.map (λy=>y%(2*(f:Int)+1)-(f:Int))=cs/\cs.length<=m/\∀c∈cs,Bd c:=⟨_,rfl,by rw[Ay];exact L,λc hc=>by obtain⟨y,_,rfl⟩:=A7.mp hc;exact RS hf⟩
 rw[show ys.map (λy=>OV.fz (.int (y%(2*(f:Int)+1)-(f:Int))))=cs.map λc=>.fz (.int c) by rw[<- e,A8];rfl];clear n L e;gp_on;gn_on;refine⟨ns,0,rfl,by decide,?_⟩;fin2;have g:0<=ns.getD 0 0 / 28%2147483647/\ns.getD 0 0 / 28%2147483647<2147483647:=by lia
 generalize ns.getD 0 0 / 28%2147483647=q at g;gp_on;gn_on;obtain⟨z,v,z1⟩:∃z:Nat,q%min (m:Int) 12=z/\z<m:=⟨(q%min (m:Int) 12).toNat,by have:=Es q (show min (m:Int) 12≠0 by lia);lia,by have:=C8 q (show 0<min (m:Int) 12 by lia);lia⟩
 rw[v];refine⟨by lia,⟨by lia,by lia⟩,?_⟩;rw[show ((1:Int)+(z:Int)).toNat=1+z by lia];refine⟨λi δ=>∃(cs:List Int) (q:Int) (O:Option Sl),δ=[vD (.lst (ns.map D.int)),vI j,vI m,vI f,vL (cs.map λc=>.fz (.int c)),vI q,O]/\cs.length<=m/\(∀c∈cs,Bd c)/\(0<=q/\q<2147483647)/\i<=cs.length,⟨cs,q,none,rfl,C,h,g,Bv _⟩,?_,?_⟩
 .rintro i d δ hd ⟨cs,q,O,rfl,C,h,g,a⟩;obtain⟨hi,rfl⟩:=eJ hd;rw[show (0:Int)+(i:Int)*1=(i:Int) by lia];gn_on;refine⟨.inl ⟨by lia,by lia⟩,?_⟩;have hn:0<=(q*q+69621*q+(i:Int))%2147483647/\(q*q+69621*q+(i:Int))%2147483647<2147483647:=⟨Es _ (by decide),C8 _ (by decide)⟩
  generalize (q*q+69621*q+(i:Int))%2147483647=r at hn;gp_on;fin2;split
  .rename_i T;refine⟨by lia,by lia,cs++[r%(2*(f:Int)+1)-f],r,_,by rw[A5],?_,λc hc=>?_,hn,?_⟩
   .rw [AG,BI];lia
   .rcases Au.mp hc with y |y
    .exact h c y
    .rw [AM.mp y];exact RS hf
   .rw [AG,BI];lia
  .exact ⟨cs,r,_,rfl,C,h,hn,by lia⟩
 .rintro δ ⟨cs,q,O,rfl,C,h,g,a⟩;rw[eC]at a;gp_on;fin2;exact k cs (by lia) (by lia) h
theorem qY {f:Ac}{fd:Ag}(Df:bG K mg "_law_picture" fI f fd)(B:bT mg)(KV:bQ K)(e:bO P w K mg base "_law_cells" 2 ["_law_script","_law_kind"] (bL K 2 my))(l:bO P w K mg base "_law_cell_at" 1 ["_law_script","_law_k"] (bL K 2 d9)):
  bO P w K mg base "_law_picture" 3 ["_law_script","_law_kind"] (bL K 2 jV):=by
 refine cE.of Df eW (by walk_at "b") rfl (λc A o s H E v=>⟨_,_,(aD (a5 (i:=2) eW.nd rfl (FM rfl) (aQ e (v.mono (by decide)) (by rfl) (ae (pv 0) (ae (pv 1) ay))))
   (aD (a5 (i:=3) eW.nd rfl (FM rfl) (aM aU (by rfl) B.len AS (ae (pv 2) ay)))
   (aD (bN (bp oK (aX cS (aX eE (aQ l (v.mono (by decide)) (by rfl) (ae (pv 0) (ae aE ay))) aE) aE) aE (be _)) (aF (a5 (i:=3) eW.nd rfl (FM rfl) (aM (om rfl) (by rfl) B.min Ke (ae (pv 3) (ae (aX cT (aX cS (aX eE (aQ l (v.mono (by decide)) (by rfl) (ae (pv 0) (ae aE ay))) aE) aE) aE) ay))))) br)
   (aD (mO AO (bp jE (aX cS (aM aU (by rfl) B.len AS (ae (pv 2) ay)) (pv 3)) aE (be _)) (aF (bP (fo Bb PySem.F.slot_list_append PySem.F.type_list_append cM (pv 2) (ae (aO ba (pv 2) aE (λ_ _=>rfl)) ay)))))
   (aF (aP (c5 rfl (iS (by rfl) (by exact B.range) (ae aE (ae (aM aU (by rfl) B.len AS (ae (pv 2) ay)) (ae (pv 3) ay)))) (show bF (aA fI) _ from⟨rfl,by decide +kernel,by decide +kernel,by decide +kernel⟩) (N:=["_law_k","_law_cells_here","_law_wide"]) (ix:=[none,some 2,some 3]) (show cD _ _ _ _ from⟨⟨rfl,rfl,.inl rfl⟩,⟨rfl,rfl,.inl rfl⟩,trivial⟩) (λ_ _ _=>(bf (i:=0) (show Be (["_law_k","_law_cells_here","_law_wide"]:List Am) by decide +kernel) rfl (Ap rfl))) (λ_ _ _=>(iT qo (pv 1) (fK (pv 0)) (fK (aX cT (pv 0) (pv 2)))))))))))),
  (aK (aZ (aT (aw aC (aw aC aG))))
   (aK (aZ (aW (bt bV (aB ax aI))))
   (aK (bS (bh (aJ c0 (aH (aJ cj (aH (aJ cj (aH (bB (aT (aw aC (aw az aG))))) (aH az))) (aH az))) (aH az))) (aZ (aW (bt wj (aB ax (aB (aH (aJ b9 (aH (aJ cj (aH (aJ cj (aH (bB (aT (aw aC (aw az aG))))) (aH az))) (aH az))) (aH az))) aI))))) bo)
   (aK (mK (bh (aJ jF (aH (aJ cj (aH (bt bV (aB ax aI))) ax)) (aH az))) (nS (aW (L_ (a_ (cQ.b bD) ax (aH az))))))
   (zg 2 (aY (cz (mL (aB (aH az) (aB (aH (bt bV (aB ax aI))) (aB ax aI)))) bj (zh aC (lD ax) (lD (aH (aJ b9 ax ax))))))))))),?_⟩)
 rintro ds Pr ⟨ns,u,rfl,k0,k4,G,k⟩;gn_on;refine⟨ns,u,rfl,k0,k4,G,λcs n L C=>?_⟩;gp_on;gn_on;gp_on;gn_on;have go : ∀w:Nat,1<=w->w<=57->(w<=7∨w=cs.length)->N [vD (.lst (ns.map D.int)),vI u,vL (cs.map λx=>.fz (.int x)),vI w]:=λw t w57 p=>by
  obtain⟨q,g,Xx,hq0⟩:∃q:Nat,cs.length<=w*q/\w*q<=63/\1<=q:=by
   have h1:=FG (cs.length+w-1) w;have h2:=Nat.mod_lt (cs.length+w-1) (show 0<w by lia);have U:1<=(cs.length+w-1) / w:=(Hq (by lia)).mpr (by lia);generalize (cs.length+w-1) / w=q at h1 U;generalize (cs.length+w-1)%w=r at h1 h2;refine⟨q,by lia,?_,U⟩;rcases p with z |z
   .lia
   .have:w*q<w*2:=by lia
    have:=GS this;have:q=1:=by lia
    subst this;lia
  gp_on;gn_on;refine⟨λm δ=>∃cs:List Int,δ=[vD (.lst (ns.map D.int)),vI u,vL (cs.map λx=>.fz (.int x)),vI w]/\1<=cs.length/\cs.length<=w*q/\(∀c∈cs,Bd c)/\m=w*q-cs.length,⟨_,cs,rfl,n,g,C,rfl⟩,?_⟩;rintro m δ ⟨cs,rfl,n,g,C,rfl⟩;fin2;refine⟨by lia,?_⟩;rw[<- Int.natCast_emod];by_cases M:cs.length%w=0
  .obtain ⟨h,T⟩:∃h,cs.length=w*h:=⟨cs.length / w,by have:=FG cs.length w;lia⟩
   rw[M,if_neg (by simp)];have hhq:h<=q:=Nat.le_of_mul_le_mul_left (by lia) (show 0<w by lia);have h1:1<=h:=Nat.pos_of_ne_zero λz=>by rw[z,Nat.mul_zero]at T;lia
   have hwq:h<=w*h:=Nat.le_mul_of_pos_left h (by lia);have er:d5 0 (cs.length:Int) (w:Int)=h:=mU λi=>by
    rw[pJ (by lia),T];constructor
    .intro z;exact GS (a:=w) (by rw[Dv w i];lia)
    .intro z;have:=Nat.mul_lt_mul_of_pos_left z (show 0<w by lia);rw[Dv w i]at this;lia
   gp_on;fin2;rw[er];refine⟨⟨by lia,by lia,by lia,by lia⟩,?_⟩;refine eQ.tR (λi=>.nl (tab w λj=>.fz (.int (cs.getD (i*w+j) 0)))) (by lia) (λi hi Q q=>?_) ?_
   .have J:i*w+w<=cs.length:=by
     have:=Dq w (show i+1<=h by lia);rw[Js,JX,Dv w i]at this;lia
    fin2;rw[show (0:Int)+(i:Int)*(w:Int)=((i*w:Nat):Int) by lia,show ((i*w:Nat):Int)+(w:Int)=((i*w+w:Nat):Int) by lia];have ec:L2.cutD (cs.map D.int) (some ((i*w:Nat):Int)) (some ((i*w+w:Nat):Int))=tab w λj=>.int (cs.getD (i*w+j) 0):=by
     unfold L2.cutD;rw[HT.kR,HT.kR,Ay,BX J,BX (show i*w<=cs.length by lia),Nat.add_sub_cancel_left];refine DQ λj=>?_
     by_cases O:j<w
     .rw [hR O,Ch O,Ej,AN,Al,Ah (by lia)];rfl
     .rw [Bc (by rw[Bp];lia),Bc (by rw[bb];lia)]
    rw[ec,dS];exact q
   .refine k h w (λi j=>cs.getD (i*w+j) 0) h1 (by lia) t (by lia) (by rw[Dv];lia) λi j=>?_
    rw[Al]
    cases qq:cs[i*w+j]? with
    |none=>exact⟨by decide,by decide⟩
    |some c=>exact C c (An qq)
  .rw [if_pos (by simp;lia)];obtain⟨y,ys,rfl⟩:∃y ys,cs=y::ys:=by
    cases cs with
    |nil=>simp at n
    |cons y ys=>exact⟨y,ys,rfl⟩
   have ë:(y::ys).length≠w*q:=λz=>M (by rw[z];exact Nat.mul_mod_right w q)
   refine⟨by lia,.int y,(show hQ _ ((0:Nat):Int)=_ from d3 rfl),rfl,_,?_,y::ys++[y],by rw[A5];rfl,by rw[AG];lia,by rw[AG,BI];lia,λc hc=>?_,rfl⟩
   .rw [AG,BI];lia
   .rcases Au.mp hc with z |z
    .exact C c z
    .rw [AM.mp z];exact C y AF
 refine⟨ns,0,rfl,by decide,?_⟩;dsimp only[OV.val];refine⟨⟨by decide,by decide⟩,?_⟩;split
 .refine ⟨ns,1,rfl,by decide,?_⟩;dsimp only[OV.val];refine⟨⟨by decide,by decide⟩,?_⟩;obtain⟨w,hw,t,p⟩:∃w:Nat,min (cs.length:Int) (ns.getD (1:Int).toNat 0 / 7%7+1)=w/\1<=w/\w<=7:=⟨(min (cs.length:Int) (ns.getD (1:Int).toNat 0 / 7%7+1)).toNat,by lia,by lia,by lia⟩
  rw[hw];exact go w t (by lia) (.inl p)
 .exact go cs.length n L (.inr rfl)
def lu:c_:=λds P=>∃(h w L n:Nat) (e:Nat->Nat->Int) (fs:List Lf) (bs:List Bool),ds=[.tup [nD h w L n fs,.str (b_ bs)],Nb h w e,.int L,d8 fs]/\1<=h/\h<=64/\w<=64/\bs.length<=1000000/\P (.fz (.bl true))
def oD:c_:=λds P=>∃s:fm,ds=[c4 s]/\s.1<=s.2/\P (.fz (.bl true))
noncomputable def Ov:Option fm->D
 |none=>.cn
 |some s=>c4 s
def mx:c_:=λds P=>∃(h w:Nat) (e:Nat->Nat->fm) (p:Nat->Nat->Int) (a:Nat->Nat->Option fm),ds=[.lst (eO c4 h w e),Nb h w p,.lst (eO Ov h w a)]/\h<=1000/\w<=1000/\(∀i j,i<h->j<w->(e i j).1<=p i j/\p i j<=(e i j).2/\∀s,a i j=some s->s.1<=(e i j).1/\(e i j).2<=s.2)/\P (.fz (.bl true))
def hX:c_:=λds P=>∃a:List (List D),ds=[.lst (a.map .lst)]/\a.length<=1000/\P (.nl (a.map λr=>.nl (r.map .fz)))
def eU:c_:=λds P=>∃(hd:D) (fd:List Am) (u:Wk) (c:Nat),ds=[.obj "Reader" bK (OV.vals (UD hd fd u)),.int c,.bl (decide (u.pl<0))]/\fd.length=c/\c<=1000000/\P (.fz (.bl true))
def jA:c_:=λds P=>∃(h w:Nat) (e:Nat->Nat->fm),ds=[.lst (eO c4 h w e)]/\0<h/\h<=1000/\0<w/\w<=1000/\∀M:Int,T4 h w e M->P (.fz (.int M))
noncomputable abbrev gj:AW:=top 99
theorem lC:aN ["_law_found","_law_picture_here","_law_levels","_law_ladder_here","_law_head"] ["_law_found","_law_picture_here","_law_levels","_law_ladder_here"] (aA gj):=by walk_at "S"
noncomputable abbrev lT:AW:=top 100
theorem wY:aN ["_law_found"] ["_law_found"] (aA lT):=by walk_at "S"
noncomputable abbrev j9:AW:=top 101
theorem gi:aN ["_law_found","_law_picture_here","_law_last","_law_i","_law_j","_law_one"] ["_law_found","_law_picture_here","_law_last"] (aA j9):=by walk_at "S"
noncomputable abbrev jl:AW:=top 102
theorem wZ:aN ["_law_sheet_here"] ["_law_sheet_here"] (aA jl):=by walk_at "S"
noncomputable abbrev iB:AW:=top 103
theorem gI:aN ["_law_reader","_law_cut","_law_whole_here","_law_found","_law_done"] ["_law_reader","_law_cut","_law_whole_here"] (aA iB):=by walk_at "S"
noncomputable abbrev eY:AW:=top 105
theorem o8:aN ["_law_sheet_here"] ["_law_sheet_here"] (aA eY):=by walk_at "S"
theorem sG {f:Ac}{fd:Ag}(u:bG K mg "_law_stream" gj f fd)(B:bT mg)(KV:bQ K)(l:bO P w K mg base "_law_whole" 1 ["_law_found"] (bL K 1 cy)):
  bO P w K mg base "_law_stream" 2 ["_law_found","_law_picture_here","_law_levels","_law_ladder_here"] (bL K 4 lu):=by
 refine cE.of u lC (by walk_at "b") rfl (λc A o s H E r=>⟨_,_,(aD (bN (dX (cg (bY (aM cw (by rfl) B.isinstance Bl (ae (pv 0) (ae (dk (v:=.ty "tuple") (by rfl) B.tuple BM (by rfl)) ay))))) (dG (bp jE (aM aU (by rfl) B.len AS (ae (pv 0) ay)) aE (be _)))).pt (aF (aP dJ)) br)
   (aD (a5 (i:=4) lC.nd rfl (Ap rfl) (aO aS (pv 0) aE (λ_ _=>rfl)))
   (aD (bN (dX (cg (bY (aM cw (by rfl) B.isinstance Bl (ae (pv 4) (ae (dk (v:=.ty "tuple") (by rfl) B.tuple BM (by rfl)) ay))))) (dX (bp jE (aM aU (by rfl) B.len AS (ae (pv 4) ay)) aE (be _)) (dX (cg (bY (aQ l (r.mono (by decide)) (by rfl) (ae (aO aS (pv 4) aE (λ_ _=>rfl)) ay)))) (dG (bp kx (aO aS (pv 4) aE (λ_ _=>rfl)) aE (be _)))))).pt (aF (aP dJ)) br)
   (aD (bN (bp (nZ r.units) (pv 4) (bH (ae (aM aU (by rfl) B.len AS (ae (pv 1) ay)) (ae (aM aU (by rfl) B.len AS (ae (aO ba (pv 1) aE (λ_ _=>rfl)) ay)) (ae (pv 2) (ae (aO aS (pv 4) aE (λ_ _=>rfl)) (ae (pv 3) ay)))))) (be _)) (aF (aP dJ)) br)
   (aF (aP (gW (aM cw (by rfl) B.isinstance Bl (ae (aO aS (pv 0) aE (λ_ _=>rfl)) (ae (dk (v:=.ty "str") (by rfl) B.str JV (by rfl)) ay))) (jr (aM (gx rfl) (by rfl) B.all Gu (ae (c5 rfl (Qo (aO aS (pv 0) aE (λ_ _=>rfl))) (show bF (aA gj) _ from⟨rfl,by decide +kernel,by decide +kernel,by decide +kernel⟩) (N:=["_law_sign"]) (ix:=[none]) (show cD _ _ _ _ from trivial) (λ_ _ _=>(bf (i:=0) (show Be (["_law_sign"]:List Am) by decide +kernel) rfl (Ap rfl))) (λ_ _ _=>(dj Nr (pv 0) f6 (by rfl)))) ay)))))))))),
  (aK (bS (dW (cb (dQ (bt (eh KV) (aB ax (aB (aH fO) aI))))) (bh (aJ jF (aH (bt bV (aB ax aI))) (aH az)))) (aY (aW dI)) bo)
   (aK (aZ (aW (bC aR aC az)))
   (aK (bS (dW (cb (dQ (bt (eh KV) (aB ax (aB (aH fO) aI))))) (dW (bh (aJ jF (aH (bt bV (aB ax aI))) (aH az))) (dW (cb (dQ (bB (aT (aw (bC aR aC az) aG))))) (bh (aJ c0 (a_ (cQ.b aR) ax (aH az)) (aH az)))))) (aY (aW dI)) bo)
   (aK (bS (bh (aJ kX ax (aH (bX (aw (bt bV (aB ax aI)) (aw (bt bV (aB (a_ (cQ.b bD) ax (aH az)) aI)) (aw aC (aw (bC aR aC az) (aw aC aG))))))))) (aY (aW dI)) bo)
   (aY (aW (fb (bt (eh KV) (aB (a_ (cQ.b aR) ax (aH az)) (aB (aH fO) aI))) (bt ot (aB (aH (bB (cz (PJ (a_ (cQ.b aR) ax (aH az))) bj (aW (aJ Wb ax (aH fY)))))) aI))))))))),?_⟩)
 rintro ds z ⟨h,w,L,n,e,fs,bs,rfl,h1,t,p,m,k⟩;gn_on;rw[if_neg (by simp)];gp_on;gn_on;gp_on;simp only[nD];gn_on;rw[if_neg (by simp)];simp only[cy];show if (!true)=true then _ else _
 rw[if_neg (by decide),if_neg (by lia)];gp_on;have g:hQ (eO D.int h w e) ((0:Nat):Int)=some (.lst (tab w λj=>.int (e 0 j))):=d3 (by rw[eO,tab,AN,DM (show 0<h by lia)];rfl);unfold Nb;gn_on;rw[show (eO D.int h w e).length=h from bb];refine⟨_,g,?_⟩;dsimp only;rw[bb];refine⟨rfl,⟨_,.inl rfl,λy a=>?_⟩,?_⟩
 .simp only[AB,Ct,or_false]at a;rcases a with rfl |rfl |rfl |rfl |rfl
  .exact kD
  .exact kD
  .exact kD
  .exact kD
  .exact .tup λy a=>by
    obtain⟨f,_,rfl⟩:=A7.mp a;exact TH
 gp_on;fin2;rw[jf,A8];refine eQ.map bs (λb=>.str (en b)) (λ_=>.fz (.bl true)) m (λb _ Q q=>?_) ?_
 .fin2;rw[show (CY (Ba "01") (en b) 0 (Ba "01").length 1).isEmpty=false by cases b<;>decide +kernel];exact q
 .fin2;refine⟨bs.map λ_=>true,by rw[A8,A8];rfl,?_⟩;rw[show (bs.map λ_=>true).all id=true by simp];exact k
theorem xA {f:Ac}{fd:Ag}(e:bG K mg "_law_span" lT f fd)(B:bT mg)(KV:bQ K)(l:bO P w K mg base "_law_whole" 1 ["_law_found"] (bL K 1 cy)):
  bO P w K mg base "_law_span" 2 ["_law_found"] (bL K 1 oD):=by
 refine cE.of e wY (by walk_at "b") rfl (λc A o s H E h=>⟨_,_,(aD (bN (dX (cg (bY (aM cw (by rfl) B.isinstance Bl (ae (pv 0) (ae (dk (v:=.ty "tuple") (by rfl) B.tuple BM (by rfl)) ay))))) (dG (bp jE (aM aU (by rfl) B.len AS (ae (pv 0) ay)) aE (be _)))).pt (aF (aP dJ)) br)
   (aF (aP (gW (aQ l (h.mono (by decide)) (by rfl) (ae (aO aS (pv 0) aE (λ_ _=>rfl)) ay)) (gW (aQ l (h.mono (by decide)) (by rfl) (ae (aO aS (pv 0) aE (λ_ _=>rfl)) ay)) (jr (dj mR (aO aS (pv 0) aE (λ_ _=>rfl)) (aO aS (pv 0) aE (λ_ _=>rfl)) (be _)))))))),
  (aK (bS (dW (cb (dQ (bt (eh KV) (aB ax (aB (aH fO) aI))))) (bh (aJ jF (aH (bt bV (aB ax aI))) (aH az)))) (aY (aW dI)) bo)
   (aY (aW (fb (bB (aT (aw (bC aR aC az) aG))) (fb (bB (aT (aw (bC aR aC az) aG))) (aJ c0 (a_ (cQ.b aR) ax (aH az)) (a_ (cQ.b aR) ax (aH az)))))))),?_⟩)
 rintro ds r ⟨s,rfl,a,k⟩;unfold c4;fin2;rw[if_neg (by simp)];simp only[cy];show if true=true then if true=true then _ else _ else _
 rw[if_pos rfl,if_pos rfl,decide_eq_true a];exact k
theorem vu {f:Ac}{fd:Ag}(G:bG K mg "_law_sheet" j9 f fd)(B:bT mg)(KV:bQ K)(l:bO P w K mg base "_law_span" 2 ["_law_found"] (bL K 1 oD)):
  bO P w K mg base "_law_sheet" 3 ["_law_found","_law_picture_here","_law_last"] (bL K 3 mx):=by
 refine cE.of G gi (by walk_at "b") rfl (λc A o s H E r=>⟨_,_,(aD (bN (dX (cg (bY (aM cw (by rfl) B.isinstance Bl (ae (pv 0) (ae (dk (v:=.ty "list") (by rfl) B.list Bs (by rfl)) ay))))) (dG (bp jE (aM aU (by rfl) B.len AS (ae (pv 0) ay)) (aM aU (by rfl) B.len AS (ae (pv 1) ay)) (be _)))).pt (aF (aP dJ)) br)
   (aD (dy AO rfl (dO (by rfl) (by exact B.range) (ae (aM aU (by rfl) B.len AS (ae (pv 1) ay)) ay)) (bf (i:=3) gi.nd rfl (Ap rfl)) (aD (bN (dX (cg (bY (aM cw (by rfl) B.isinstance Bl (ae (aO ba (pv 0) (pv 3) (λ_ _=>rfl)) (ae (dk (v:=.ty "list") (by rfl) B.list Bs (by rfl)) ay))))) (dG (bp jE (aM aU (by rfl) B.len AS (ae (aO ba (pv 0) (pv 3) (λ_ _=>rfl)) ay)) (aM aU (by rfl) B.len AS (ae (aO ba (pv 1) (pv 3) (λ_ _=>rfl)) ay)) (be _)))).pt (aF (aP dJ)) br)
   (aF (dy AO rfl (dO (by rfl) (by exact B.range) (ae (aM aU (by rfl) B.len AS (ae (aO ba (pv 1) (pv 3) (λ_ _=>rfl)) ay)) ay)) (bf (i:=4) gi.nd rfl (Ap rfl)) (aD (a5 (i:=5) gi.nd rfl (Ap rfl) (aO ba (aO ba (pv 0) (pv 3) (λ_ _=>rfl)) (pv 4) (λ_ _=>rfl)))
   (aD (bN (dX (cg (bY (aQ l (r.mono (by decide)) (by rfl) (ae (pv 5) ay)))) (dG (cg (xn mR mR (aO aS (pv 5) aE (λ_ _=>rfl)) (aO ba (aO ba (pv 1) (pv 3) (λ_ _=>rfl)) (pv 4) (λ_ _=>rfl)) (aO aS (pv 5) aE (λ_ _=>rfl)))))).pt (aF (aP dJ)) br)
   (aD (bN (qO (bp pO (aO ba (aO ba (pv 2) (pv 3) (λ_ _=>rfl)) (pv 4) (λ_ _=>rfl)) fg (be _)) (mM (bp kx (aO aS (pv 5) aE (λ_ _=>rfl)) (aO aS (aO ba (aO ba (pv 2) (pv 3) (λ_ _=>rfl)) (pv 4) (λ_ _=>rfl)) aE (λ_ _=>rfl)) (be _)))).pt (aF (aP dJ)) br)
   (aF (bN (qO (bp pO (aO ba (aO ba (pv 2) (pv 3) (λ_ _=>rfl)) (pv 4) (λ_ _=>rfl)) fg (be _)) (mM (bp oK (aO aS (pv 5) aE (λ_ _=>rfl)) (aO aS (aO ba (aO ba (pv 2) (pv 3) (λ_ _=>rfl)) (pv 4) (λ_ _=>rfl)) aE (λ_ _=>rfl)) (be _)))).pt (aF (aP dJ)) br)))))))))
   (aF (aP dJ)))),
  (aK (bS (dW (cb (dQ (bt (eh KV) (aB ax (aB (aH fO) aI))))) (bh (aJ jF (aH (bt bV (aB ax aI))) (aH (bt bV (aB ax aI)))))) (aY (aW dI)) bo)
   (aK (dw (fJ (aB (aH (bt bV (aB ax aI))) aI)) bj (aK (bS (dW (cb (dQ (bt (eh KV) (aB (a_ (cQ.b bD) ax ax) (aB (aH fO) aI))))) (bh (aJ jF (aH (bt bV (aB (a_ (cQ.b bD) ax ax) aI))) (aH (bt bV (aB (a_ (cQ.b bD) ax ax) aI)))))) (aY (aW dI)) bo)
   (dw (fJ (aB (aH (bt bV (aB (a_ (cQ.b bD) ax ax) aI))) aI)) bj (aK (aZ (aW (bC bD (bC bD aC aC) aC)))
   (aK (bS (dW (cb (dQ (bB (aT (aw aC aG))))) (cb (bh (qK c0 c0 (a_ (cQ.b aR) ax (aH az)) (a_ (cQ.b bD) (a_ (cQ.b bD) ax ax) ax) (a_ (cQ.b aR) ax (aH az)))))) (aY (aW dI)) bo)
   (aK (bS (qF (bh (aJ vG (a_ (cQ.b bD) (a_ (cQ.b bD) ax ax) ax) (aH fZ))) (bh (aJ c0 (a_ (cQ.b aR) ax (aH az)) (a_ (cQ.b aR) (a_ (cQ.b bD) (a_ (cQ.b bD) ax ax) ax) (aH az))))) (aY (aW dI)) bo)
   (bS (qF (bh (aJ vG (a_ (cQ.b bD) (a_ (cQ.b bD) ax ax) ax) (aH fZ))) (bh (aJ c0 (a_ (cQ.b aR) ax (aH az)) (a_ (cQ.b aR) (a_ (cQ.b bD) (a_ (cQ.b bD) ax ax) ax) (aH az))))) (aY (aW dI)) bo)))))))
   (aY (aW dI)))),?_⟩)
 rintro ds M ⟨h,w,e,p,a,rfl,L,hw,t,k⟩;have hg:∀{n:Type} {g:n->D} {f:Nat->Nat->n} {i:Nat},i<h->hQ (eO g h w f) (i:Int)=some (.lst (tab w λj=>g (f i j))):=λhi=>d3 (by rw[eO,tab,AN,DM hi];rfl)
 have r:∀{f:Nat->D} {j:Nat},j<w->hQ (tab w f) (j:Int)=some (f j):=λJ=>d3 (by rw[tab,AN,DM J];rfl)
 have hl:∀{n:Type} {g:n->D} {f:Nat->Nat->n},(eO g h w f).length=h:=bb
 unfold Nb;gn_on;rw[hl,hl,if_neg (by simp)];gp_on;gn_on;rw[hl];refine⟨⟨by lia,by lia⟩,?_⟩;rw[Bf];refine⟨λi δ=>∃q m O:Option Sl,δ=[vD (.lst (eO c4 h w e)),vD (.lst (eO D.int h w p)),vD (.lst (eO Ov h w a)),q,m,O],⟨_,_,_,rfl⟩,?_,?_⟩
 .rintro i d δ hd ⟨q,m,O,rfl⟩;obtain⟨hi,rfl⟩:=eJ hd;rw[show (0:Int)+(i:Int)*1=(i:Int) by lia];gn_on;refine⟨_,hg hi,?_⟩;fin2;refine⟨_,hg hi,?_⟩;dsimp only;refine⟨_,hg hi,?_⟩;dsimp only;rw[bb,bb,if_neg (by simp)];gp_on;fin2;refine⟨_,hg hi,?_⟩;dsimp only;rw[bb];refine⟨⟨by lia,by lia⟩,?_⟩;rw[Bf];refine⟨λj δ=>∃m O:Option Sl,δ=[vD (.lst (eO c4 h w e)),vD (.lst (eO D.int h w p)),vD (.lst (eO Ov h w a)),vI i,m,O],⟨_,_,rfl⟩,?_,?_⟩
  .rintro j d δ hd ⟨m,O,rfl⟩;obtain⟨J,rfl⟩:=eJ hd;rw[show (0:Int)+(j:Int)*1=(j:Int) by lia];obtain⟨C,u,z⟩:=t i j hi J;gn_on;refine⟨_,hg hi,_,r J,?_⟩;gp_on;simp only[c4];gn_on;refine⟨e i j,rfl,by lia,?_⟩;dsimp only[OV.val];rw[if_neg (by decide)];refine⟨_,hg hi,_,r J,?_⟩;dsimp only;rw[if_pos C,if_neg (by rw[decide_eq_true u];decide)];gp_on
   cases Q:a i j with
   |none=>
    have hn:=r (f:=λj=>Ov (a i j)) J;simp only[Q,Ov]at hn;gn_on;refine⟨_,hg hi,_,hn,?_⟩;fin2;gp_on;fin2;refine⟨_,hg hi,_,hn,?_⟩;fin2;exact⟨_,_,rfl⟩
   |some s=>
    obtain⟨y1,y2⟩:=z s Q;have hn:=r (f:=λj=>Ov (a i j)) J;simp only[Q,Ov,c4]at hn;gn_on;refine⟨_,hg hi,_,hn,?_⟩;fin2;refine⟨_,hg hi,_,hn,?_⟩;fin2;rw[if_neg (by lia)];gp_on;fin2;refine⟨_,hg hi,_,hn,?_⟩;fin2;refine⟨_,hg hi,_,hn,?_⟩;fin2;rw[if_neg (by lia)];exact⟨_,_,rfl⟩
  .rintro δ ⟨m,O,rfl⟩;exact⟨_,_,_,rfl⟩
 .rintro δ ⟨q,m,O,rfl⟩;gp_on;fin2;exact k
theorem xD {f:Ac}{fd:Ag}(e:bG K mg "_law_copy" jl f fd)(B:bT mg)(KV:bQ K):
  bO P w K mg base "_law_copy" 1 ["_law_sheet_here"] (bL K 1 hX):=by
 refine cE.of e wZ (by walk_at "b") rfl (λc A o s H E h=>⟨_,_,(aF (aP (c5 rfl (cF (pv 0)) (show bF (aA jl) _ from⟨rfl,by decide +kernel,by decide +kernel,by decide +kernel⟩) (N:=["_law_row"]) (ix:=[none]) (show cD _ _ _ _ from trivial) (λ_ _ _=>(bf (i:=0) (show Be (["_law_row"]:List Am) by decide +kernel) rfl (Ap rfl))) (λ_ _ _=>(kU l8 (by rfl) B.list Bs (ae (pv 0) ay)))))),
  (aY (cz (cL aC) bj (xb wm (aw aC aG)))),?_⟩)
 rintro ds g ⟨a,rfl,hl,k⟩;fin2;refine eQ.map a D.lst (λr=>.nl (r.map .fz)) (by lia) (λr _ Q q=>?_) k;fin2;exact q
theorem qZ {f:Ac}{fd:Ag}(g:bG K mg "_law_numbers" iB f fd)(B:bT mg)(KV:bQ K)(C:du K "Reader" bK)(a:c6 P w K mg base "Reader" "many" 1 ["self"] (bL K 1 jX))(e:c6 P w K mg base "Reader" "is_whole" 2 ["self"] (bL K 1 gG))(l:bO P w K mg base "_law_whole" 1 ["_law_found"] (bL K 1 cy)):
  bO P w K mg base "_law_numbers" 3 ["_law_reader","_law_cut","_law_whole_here"] (bL K 3 eU):=by
 refine cE.of g gI (by walk_at "b") rfl (λc A o s H E h=>⟨_,_,(aD (a5 (i:=3) gI.nd rfl (Ap rfl) (di a (h.mono (by decide)) (pv 0)))
   (aD (a5 (i:=4) gI.nd rfl (Ap rfl) (di e (h.mono (by decide)) (pv 0)))
   (aF (aP (gW (aQ l (h.mono (by decide)) (by rfl) (ae (pv 3) ay)) (gW (dj fP (pv 3) (pv 1) (be _)) (gW (aM cw (by rfl) B.isinstance Bl (ae (pv 4) (ae (dk (v:=.ty "bool") (by rfl) B.bool Eu (by rfl)) ay))) (jr (dj fP (pv 4) (pv 2) (be _)))))))))),
  (aK (aZ (aW (bB (dH C (by decide +kernel) ax aI))))
   (aK (aZ (aW (bB (dH C (by decide +kernel) ax aI))))
   (aY (aW (fb (bB (aT (aw aC aG))) (fb (aJ fQ ax ax) (fb (bt (eh KV) (aB ax (aB (aH fO) aI))) (aJ fQ ax ax)))))))),?_⟩)
 rintro ds r ⟨hd,fd,u,c,rfl,hc,L,k⟩;gn_on;refine⟨hd,fd,u,rfl,by lia,?_⟩;fin2;gp_on;gn_on;refine⟨hd,fd,u,by rw[OV.cm],?_⟩;fin2;gp_on;fin2;simp only[cy];show if true=true then _ else _
 rw[if_pos rfl,if_pos (by lia)];exact k
theorem pe {f:Ac}{fd:Ag}(Df:bG K mg "_law_greatest" eY f fd)(B:bT mg)(KV:bQ K):
  bO P w K mg base "_law_greatest" 1 ["_law_sheet_here"] (bL K 1 jA):=by
 refine cE.of Df o8 (by walk_at "b") rfl (λc A o s H E hr=>⟨_,_,(aF (aP (aM (gw rfl) (by rfl) B.max Gr (ae (c5 rfl (cF (pv 0)) (show bF (aA eY) _ from⟨rfl,by decide +kernel,by decide +kernel,by decide +kernel⟩) (N:=["_law_row"]) (ix:=[none]) (show cD _ _ _ _ from trivial) (λ_ _ _=>(bf (i:=0) (show Be (["_law_row"]:List Am) by decide +kernel) rfl (Ap rfl))) (λ_ _ _=>(aM (gw rfl) (by rfl) B.max Gr (ae (c5 rfl (cF (pv 0)) (bF.rl (by rfl) (by decide +kernel) (by decide +kernel) (by decide +kernel)) (N:=["_law_low","_law_high"]) (ix:=[none,none]) (show cD _ _ _ _ from trivial) (λ_ _ _=>(nV (n:=2) rfl (dh (bf (i:=0) (show Be (["_law_low","_law_high"]:List Am) by decide +kernel) rfl (Ap rfl)) (dh (bf (i:=1) (show Be (["_law_low","_law_high"]:List Am) by decide +kernel) rfl (Ap rfl)) kT)))) (λ_ _ _=>(aX dt (pv 1) (pv 0)))) ay)))) ay)))),
  (aY (aW (bt k8 (aB (aH (bB (cz (cL aC) bj (aW (bt k8 (aB (aH (bB (cz (cL aC) (nU (de bj (de bj kS))) (aW (aJ b9 ax ax))))) aI)))))) aI)))),?_⟩)
 rintro ds Pr ⟨h,w,e,rfl,T,hh,G,hw,k⟩;have r:∀i,∃M,(∃j,j<w/\(e i j).2-(e i j).1=M)/\∀j,j<w->(e i j).2-(e i j).1<=M:=λi=>vf (λj=>(e i j).2-(e i j).1) w G
 obtain⟨a,m⟩:∃a:Nat->Int,∀i,(∃j,j<w/\(e i j).2-(e i j).1=a i)/\∀j,j<w->(e i j).2-(e i j).1<=a i:=⟨λi=>(r i).choose,λi=>(r i).choose_spec⟩
 fin2;refine eQ.map (Ax h) (λi=>D.lst (tab w λj=>c4 (e i j))) (λi=>.fz (.int (a i))) (by rw[BK];lia) (λi _ Q q=>?_) ?_
 .fin2;refine⟨λj δ ts=>∃u O:Option Sl,δ=[u,O]/\ts=((tab w λj=>(e i j).2-(e i j).1).take j).map λx=>.fz (.int x),⟨none,none,rfl,rfl⟩,?_,?_⟩
  .rintro j d δ ts hd ⟨u,O,rfl,rfl⟩;obtain⟨p,J,rfl⟩:=mV hd;obtain⟨g,t⟩:=Ab.mp J;rw[BK]at g;rw[List.getElem_range]at t;subst t;refine⟨by rw[Ay,Bp,bb];lia,?_⟩;simp only[c4];fin2;refine⟨_,_,rfl,?_⟩;rw[ED,hR g,A5];exact (A5 ..).symm
  .rintro δ ts ⟨u,O,rfl,rfl⟩;rw[BW (by rw[bb,bb];exact Ak _)];fin2;refine⟨tab w λj=>(e i j).2-(e i j).1,rfl,by rw[bb];exact G,λM z C=>?_⟩;obtain⟨j,g,t⟩:=A7.mp z;obtain⟨⟨p,J,U⟩,l⟩:=m i;have h1:=l j (Bz.mp g);have h2:=C _ (A7.mpr ⟨p,Bz.mpr J,rfl⟩);rw[show M=a i by lia];exact q
 .fin2;refine⟨(Ax h).map a,by rw[A8,A8];rfl,by rw[Ay,BK];exact T,λM z C=>?_⟩;obtain⟨i,hi,ei⟩:=A7.mp z;obtain⟨⟨j,g,t⟩,_⟩:=m i;refine k M ⟨⟨i,j,Bz.mp hi,g,by lia⟩,λL p v J=>?_⟩;have h1:=(m L).2 p J;have h2:=C _ (A7.mpr ⟨L,Bz.mpr v,rfl⟩);lia
abbrev T1 (T:Ac):Hp->Prop:=λF=>F T=some (.v7 ⟨343,4,344,49⟩ "enough.<locals>.fits")
theorem Zq {T:Ac}:MT (T1 T):=λ_ _ s h=>s _ _ h
structure Z4 (h w L n:Nat) (e:Nat->Nat->Int) (fs:List Lf) (bs:List Bool):Prop where
 hd:RY h w L n fs
 h0:0<h*w
 h4:h*w<=400
 l:bs.length<=900000
 at_:∀c,c<=bs.length->∃u,At h w L n e fs bs c u
 wh:∀u,At h w L n e fs bs bs.length u->∀i j,i<h->j<w->cI h w L fs u i j=(e i j,e i j)
noncomputable abbrev sn (h w L:Nat)(fs:List Lf)(u:Wk):OV:=.nl (iv c4 h w (cI h w L fs u))
def oE:c_:=λds P=>∃(h w L n:Nat) (e:Nat->Nat->Int) (fs:List Lf) (bs:List Bool) (a:List Nat) (c:Int),ds=[nD h w L n fs,.str (b_ bs),Nb h w e,.lst (a.map λ(k:Nat)=>.int k),.int c]/\Z4 h w L n e fs bs/\a.length=4/\(∀i,i<3->a.getD i 0<=a.getD (i+1) 0)/\a.getD 3 0=bs.length/\
 ∀us:List Wk,us.length=4->(∀(i:Nat) (u:Wk),us[i]?=some u->At h w L n e fs bs (a.getD i 0) u)->P (.nl (us.map (sn h w L fs)))
def lz:c_:=λds P=>∃(h w L n:Nat) (e:Nat->Nat->Int) (fs:List Lf) (bs:List Bool) (c:Nat) (u:Wk),ds=[nD h w L n fs,.str (b_ bs),.int c,.lst (eO c4 h w (cI h w L fs u))]/\Z4 h w L n e fs bs/\c<=bs.length/\At h w L n e fs bs c u/\P (.fz (.bl true))
noncomputable abbrev jj:AW:=top 104
theorem cA:aN ["_law_head","_law_bits","_law_picture_here","_law_cuts","_law_cell","_law_reader","_law_sheets","_law_copies","_law_last","_law_fed","_law_cut","_law_refused"] ["_law_head","_law_bits","_law_picture_here","_law_cuts","_law_cell"] (aA jj):=by walk_at "S"
noncomputable abbrev jk:AW:=top 106
theorem fH:aN ["_law_head","_law_bits","_law_cut","_law_sheet_here","_law_widest","_law_found","_law_many"] ["_law_head","_law_bits","_law_cut","_law_sheet_here"] (aA jk):=by walk_at "S"
noncomputable abbrev L1:AW:=top 107
theorem eX:aN ["_law_script","_law_kind","_law_picture_here","_law_ladder_here","_law_levels","_law_handed","_law_stream_here","_law_bits","_law_cell","_law_cuts","_law_sheets","_law_due","_law_beside"] ["_law_script"] (aA L1):=by walk_at "S"
theorem v5 {a:Type}{g:a->D}{h w:Nat}{f:Nat->Nat->a}{P:OV->Prop}(c:h<=1000)(k:P (.nl (iv g h w f))):hX [.lst (eO g h w f)] P:=by
 refine⟨tab h λi=>tab w λj=>g (f i j),by rw[dS];rfl,by rw[bb];exact c,?_⟩;rw[dS];simp only[dS];exact k
theorem xB {f:Ac}{fd:Ag}(Df:bG K mg "_law_read" jj f fd)(B:bT mg)(KV:bQ K){M:Ac}(n_:mg "TooMany"=some (.ref M))(Œ:∀c∈(["TooMany"]:List Am),∀C,Cq K Ai c=some (some (.ref C))->HZ K (.ref C) (.ref M)=some true)(G:du K "Reader" bK)(T:sk P w K mg base "Reader" 8 ["self","head"] (nC K 2 "Reader" bK eK))(v:nB P w K mg base "Reader" "feed" 8 ["self","bits"] (R0 K 2 "Reader" bK gH))(r:bO P w K mg base "_law_numbers" 3 ["_law_reader","_law_cut","_law_whole_here"] (bL K 3 eU))(t:c6 P w K mg base "Reader" "seen" 8 ["self"] (bL K 1 gF))(kF:bO P w K mg base "_law_sheet" 3 ["_law_found","_law_picture_here","_law_last"] (bL K 3 mx))(O:bO P w K mg base "_law_copy" 1 ["_law_sheet_here"] (bL K 1 hX)):
  bO P w K mg base "_law_read" 10 ["_law_head","_law_bits","_law_picture_here","_law_cuts","_law_cell"] (bL K 5 oE):=by
 refine cE.of Df cA (by walk_at "b") rfl (λc A o s H E hr=>⟨_,_,(aD (a5 (i:=5) cA.nd rfl (Ap rfl) (pM T (hr.mono (by decide)) (by rfl) (ae (pv 0) ay)))
   (aD (a5 (i:=6) cA.nd rfl (Ap rfl) (cC ay))
   (aD (a5 (i:=7) cA.nd rfl (Ap rfl) (cC ay))
   (aD (fA (i:=8) cA.nd rfl (Ap rfl) rfl (cF (pv 2)) (show bF (aA jj) _ from⟨rfl,by decide +kernel,by decide +kernel,by decide +kernel⟩) (N:=["_law_row"]) (ix:=[none]) (show cD _ _ _ _ from trivial) (λ_ _ _=>(bf (i:=0) (show Be (["_law_row"]:List Am) by decide +kernel) rfl (Ap rfl))) (λ_ _ _=>(c5 rfl (cF (pv 0)) (bF.rl (by rfl) (by decide +kernel) (by decide +kernel) (by decide +kernel)) (N:=["_law_sign"]) (ix:=[none]) (show cD _ _ _ _ from trivial) (λ_ _ _=>(bf (i:=0) (show Be (["_law_sign"]:List Am) by decide +kernel) rfl (Ap rfl))) (λ_ _ _=>fg))))
   (aD (a5 (i:=9) cA.nd rfl (Ap rfl) aE)
   (aD (dy AO rfl (cF (pv 3)) (bf (i:=10) cA.nd rfl (Ap rfl)) (aD (bN (bp pO (fi v.We (hr.mono (by decide)) (pv 5) (ae (iT yV (pv 1) (fK (pv 9)) (fK (pv 10))) ay)) fg (be _)) (aF (aP fg)) br)
   (aD (a5 (i:=9) cA.nd rfl (Ap rfl) (pv 10))
   (aD (bN (qO (bp fP (aX cS (pv 4) aE) aE (be _)) (mM (cg (bY (aQ r (hr.mono (by decide)) (by rfl) (ae (pv 5) (ae (pv 10) (ae (dj fP (pv 10) (aM cG (by rfl) B.len AS (ae (pv 1) ay)) (be _)) ay)))))))).pt (aF (aP fg)) br)
   (aD (bP (fo Bb PySem.F.slot_list_append PySem.F.type_list_append cM (pv 6) (ae (di t (hr.mono (by decide)) (pv 5)) ay)))
   (aD (bN (dX (cg (bY (aQ kF (hr.mono (by decide)) (by rfl) (ae (aO ba (pv 6) (ku gy aE) (λ_ _=>rfl)) (ae (pv 2) (ae (pv 8) ay)))))) (dG (cg (bY (aQ r (hr.mono (by decide)) (by rfl) (ae (pv 5) (ae (pv 10) (ae (dj fP (pv 10) (aM cG (by rfl) B.len AS (ae (pv 1) ay)) (be _)) ay)))))))).pt (aF (aP fg)) br)
   (aD (a5 (i:=8) cA.nd rfl (Ap rfl) (aQ O (hr.mono (by decide)) (by rfl) (ae (aO ba (pv 6) (ku gy aE) (λ_ _=>rfl)) ay)))
   (aD (bP (fo Bb PySem.F.slot_list_append PySem.F.type_list_append cM (pv 7) (ae (aQ O (hr.mono (by decide)) (by rfl) (ae (aO ba (pv 6) (ku gy aE) (λ_ _=>rfl)) ay)) ay)))
   (aF (a5 (i:=4) cA.nd rfl (Ap rfl) (aX eE (pv 4) aE)))))))))))
   (aD (a5 (i:=11) cA.nd rfl (Ap rfl) dJ)
   (aD (Qi rfl rfl (λ_ _ z=>z) v (hr.mono (by decide)) (pv 5) (ae (aO Ww f6 (aX cS (pv 4) aE) (λ_ _=>rfl)) ay) (by rfl) n_ (λ_=>(aF (a5 (i:=11) cA.nd rfl (Ap rfl) dJ))))
   (aD (bN (dX (cg (bY (pv 11))) (dX (cg (bY (aQ r (hr.mono (by decide)) (by rfl) (ae (pv 5) (ae (aM cG (by rfl) B.len AS (ae (pv 1) ay)) (ae dJ ay)))))) (dX (bp (nZ hr.units) (di t (hr.mono (by decide)) (pv 5)) (pv 8) (be _)) (dG (bp (nZ hr.units) (pv 6) (pv 7) (be _)))))).pt (aF (aP fg)) br)
   (aF (aP (pv 6)))))))))))),
  (aK (aZ (pI G (aw aC aG)))
   (aK (aZ (c9 cB))
   (aK (aZ (c9 cB))
   (aK (aZ (aW (bB (cz (cL aC) bj (cz (cL aC) bj (aW fZ))))))
   (aK (aZ (aW az))
   (aK (dw (cL aC) bj (aK (Nf (λH Q q=>⟨rfl,by rw[decide_eq_true rfl];exact q⟩) (λ_ _ _ q=>q) (by decide +kernel) (aw (zj aC (lD ax) (lD ax)) aG) bo)
   (aK (aZ (aW aC))
   (aK (bS (qF (bh (aJ fQ (aH (aJ cj ax (aH az))) (aH az))) (cb (dQ (bB (cR (aB ax (aB ax (aB (aH (aJ fQ ax (aH (bt fN (aB ax aI))))) aI)))))))) (aY (aW fZ)) bo)
   (aK (nS (dH G (by decide +kernel) ax aI))
   (aK (bS (dW (cb (dQ (bB (cR (aB (a_ (cQ.b bD) ax (aH (gP (aH az)))) (aB ax (aB ax aI))))))) (cb (dQ (bB (cR (aB ax (aB ax (aB (aH (aJ fQ ax (aH (bt fN (aB ax aI))))) aI)))))))) (aY (aW fZ)) bo)
   (aK (aZ (aW (bB (cR (aB (a_ (cQ.b bD) ax (aH (gP (aH az)))) aI)))))
   (aK (nS (cR (aB (a_ (cQ.b bD) ax (aH (gP (aH az)))) aI)))
   (aZ (aW (aJ cj ax (aH az))))))))))))
   (aK (aZ (aW dI))
   (aK (Pk (m := "feed") (cs:=["TooMany"]) (by decide +kernel) Œ (aw (bC Wc fY (aJ cj ax (aH az))) aG) (aZ (aW dI)))
   (aK (bS (dW (cb (dQ aC)) (dW (cb (dQ (bB (cR (aB ax (aB (aH (bt fN (aB ax aI))) (aB (aH dI) aI))))))) (dW (bh (aJ kX (aH (bB (dH G (by decide +kernel) ax aI))) ax)) (bh (aJ kX ax ax))))) (aY (aW fZ)) bo)
   e_))))))))),?_⟩)
 rintro ds Pr ⟨h,w,L,n,e,fs,bs,ks,c,rfl,R,kl,km,ke,k⟩;have hd:=R.hd;obtain⟨⟨h1,YO⟩,⟨w1,XN⟩,hL,hn,hf,ok⟩:=hd;have ϐ:=R.l;gn_on;refine⟨h,w,L,n,fs,rfl,rfl,R.hd,?_⟩;gp_on;gn_on;gp_on;gn_on;gp_on;unfold Nb;gn_on;refine eQ.map (Ax h) (λi=>D.lst (tab w λj=>.int (e i j))) (λi=>.nl (tab w λ_=>.fz .cn)) (by rw[BK];lia) (λi _ Q q=>?_) ?_
 .fin2;exact eQ.map (Ax w) (λj=>D.int (e i j)) (λ_=>.fz .cn) (by rw[BK];lia) (λj _ Q q=>by fin2;exact q) q
 rw[show OV.val (.nl ((Ax h).map λi=>.nl (tab w λ_=>.fz .cn))) = .lst (eO Ov h w λ_ _=>none) by show D.lst (OV.vals _)=_;rw[OV.cm];exact congrArg D.lst (eu (g:=Ov) (h:=h) (w:=w) (e:=λ_ _=>none))];gp_on;gn_on;gp_on;gn_on;obtain⟨u0,A0⟩:=R.at_ 0 (Bv _);have ŭ:u0=yB (h*w) n:=jv A0.f .nil;subst ŭ;have ϓ:∀i,i<4->ks.getD i 0<=bs.length:=λi hi=>by
  have:=km 0 (by lia);have:=km 1 (by lia);have:=km 2 (by lia);rcases (show i=0∨i=1∨i=2∨i=3 by lia) with rfl |rfl |rfl |rfl<;>lia
 refine⟨λi δ=>∃(us:List Wk) (u:Wk) (f:Nat) (a:Nat->Nat->Option fm) (c:Int) (Ø:Option Sl),δ=[vD (nD h w L n fs),vD (.str (b_ bs)),vD (.lst (eO D.int h w e)),vD (.lst (ks.map λ(k:Nat)=>.int k)),vI c,some (.own (.ob none "Reader" bK (rd h w L n fs (bs.take f) u))),vL (us.map (sn h w L fs)),vL (us.map (sn h w L fs)),vD (.lst (eO Ov h w a)),vI f,Ø,none]/\
   At h w L n e fs bs f u/\f<=bs.length/\(∀p q s,a p q=some s->s=cI h w L fs u p q)/\us.length=i/\(∀(j:Nat) (u:Wk),us[j]?=some u->At h w L n e fs bs (ks.getD j 0) u)/\(i<4->f<=ks.getD i 0)/\(i=4->f=bs.length/\eO Ov h w a=eO c4 h w (cI h w L fs u)),
  ⟨[],_,0,λ_ _=>none,c,none,by rw[List.take_zero];rfl,A0,Bv _,(λ_ _ _ z=>by cases z),rfl,(λj u z=>by cases z),(λ_=>Bv _),(λz=>by cases z)⟩,?_,?_⟩
 .rintro i d δ ϣ ⟨us,u,f,a,c,Ø,rfl,A,Ĳ,ha,U0,NK,İ,WM⟩;obtain⟨J,ĭ,rfl⟩:=mV ϣ;have į:i<4:=by rw[<- kl];exact (Ab.mp ĭ).1
  have ek:ks.getD i 0=J:=by rw[Al,ĭ];rfl
  have z1:=İ į;have z2:=ϓ i į;rw[ek]at z1 z2;obtain⟨u',A'⟩:=R.at_ J z2;obtain⟨mid,WL⟩:=MR ok R.h0 R.h4 A A' z1;have eb:bs.take f++(bs.take J).drop f=bs.take J:=by
   have:=B4 f (bs.take J);rw[HS,BX z1]at this;exact this
  have el:((bs.take J).drop f).length=J-f:=by rw[DG,Bp,BX z2]
  have ef:(bs.take f).length=f:=by rw[Bp,BX Ĳ]
  gn_on;rw[Sj bs z1 z2];refine⟨by rw[b7];lia,h,w,L,n,fs,bs.take f,(bs.take J).drop f,u,u',rfl,⟨R.hd,A.f,by rw[A.us,ef]⟩,rfl,by rw[el,ef];lia,mid,.inr ⟨by rw[A'.us,el,ef];lia,rfl,?_⟩⟩;rw[eb];clear eb el ef mid;have WX:((bs.take J).map en).length=J:=by rw[Ay,Bp,BX z2]
  have ã:decide ((J:Int)=(bs.length:Int))=decide (u'.pl<0):=by
   rw[A'.wh];exact decide_eq_decide.mpr (by lia)
  have num:∀Q:OV->Prop,Q (.fz (.bl true))->eU [.obj "Reader" bK (Bu OV.val (rd h w L n fs (bs.take J) u')),.int J,.bl (decide ((J:Int)=(bs.length:Int)))] Q:=λQ q=>⟨nD h w L n fs,(bs.take J).map en,u',J,by rw[ã,OV.cm],WX,by lia,q⟩
  have U:OV.val (sn h w L fs u') = .lst (eO c4 h w (cI h w L fs u')):=by
   show D.lst (OV.vals _)=_
   rw[OV.cm,eu]
  gp_on;gn_on;gp_on;gn_on;rw[b7];have nx:N [vD (nD h w L n fs),vD (.str (b_ bs)),vD (.lst (eO D.int h w e)),vD (.lst (ks.map λ(k:Nat)=>.int k)),vI c,some (.own (.ob none "Reader" bK (rd h w L n fs (bs.take J) u'))),vL (us.map (sn h w L fs)),vL (us.map (sn h w L fs)),vD (.lst (eO Ov h w a)),vI J,vI J,none]:=by
   gp_on;gn_on;refine⟨by lia,h,w,L,n,fs,(bs.take J).map en,u',by rw[OV.cm],R.hd,A'.s,n',?_⟩;gp_on;rw[show Bu (sn h w L fs) us++[OV.nl (iv c4 h w (cI h w L fs u'))]=(us++[u']).map (sn h w L fs) by rw[A5];rfl];have Rf:hQ (Bu OV.val (Bu (sn h w L fs) (us++[u']))) (-1)=some (.lst (eO c4 h w (cI h w L fs u'))):=by
    rw[A5,A5];refine (yt _ _).trans ?_;rw[U]
   gn_on;refine⟨_,Rf,h,w,cI h w L fs u',e,a,rfl,by lia,by lia,λp q hp hq=>?_,rfl,?_⟩
   .have v1:=A'.val p q hp hq;refine⟨v1.1,v1.2,λs hs=>?_⟩;rw[ha p q s hs];have v2:=WL p q hp hq;exact⟨v2.1,v2.2.2⟩
   dsimp only[OV.val];rw[if_neg (by decide),b7];refine⟨by lia,num _ ⟨rfl,?_⟩⟩;gp_on;gn_on;refine⟨_,Rf,v5 (by lia) ⟨n',?_⟩⟩;rw[U];gp_on;gn_on;refine⟨by lia,_,Rf,v5 (by lia) ⟨n',?_⟩⟩;gp_on;fin2;refine⟨us++[u'],u',J,λp q=>some (cI h w L fs u' p q),c / 2,_,by rw[A5];rfl,A',z2,λp q s hs=>(AV hs).symm,by rw[AG,U0];rfl,λj x hx=>?_,λhi=>?_,λhi=>?_⟩
   .by_cases hj:j<us.length
    .rw [AZ hj]at hx;exact NK j x hx
    .have ϖ:=(Ab.mp hx).1;rw[AG,BI]at ϖ;have:j=i:=by lia
     subst this;rw[Bk (by lia),U0,Nat.sub_self]at hx;cases hx;rw[ek];exact A'
   .have:=km i (by lia);lia
   .have:i=3:=by lia
    subst this;exact⟨by lia,rfl⟩
  split
  .exact ⟨by lia,num _ ⟨rfl,nx⟩⟩
  .exact nx
 .rintro δ ⟨us,u,f,a,c,Ø,rfl,A,Ĳ,ha,U0,NK,İ,WM⟩;rw[Ay,kl]at U0 WM;obtain⟨rfl,ϧ⟩:=WM rfl;rw[BU];have hp:u.pl<0:=by
   have:=A.wh;simpa using this
  have WX:(bs.map en).length=bs.length:=Ay _;gp_on;gn_on;gp_on;gn_on;obtain⟨b,hb⟩:∃b:Bool,(c%2=0/\b=false)∨(c%2=1/\b=true):=by
   rcases (show c%2=0∨c%2=1 by lia) with z |z
   .exact ⟨false,.inl ⟨z,rfl⟩⟩
   .exact ⟨true,.inr ⟨z,rfl⟩⟩
  have ϥ:∃y,hQ (Ba "01").cps.toList (c%2)=some y/\(⟨#[y]⟩:Am)=b_ [b]:=by
   rcases hb with⟨z,rfl⟩ | ⟨z,rfl⟩<;>rw[z]
   .exact ⟨48,rfl,rfl⟩
   .exact ⟨49,rfl,rfl⟩
  obtain⟨y,hy,ey⟩:=ϥ;refine⟨by decide,y,hy,?_⟩;rw[ey];refine⟨h,w,L,n,fs,bs,[b],u,u,rfl,⟨R.hd,by have:=A.f;rw[BU]at this;exact this,A.us⟩,rfl,by show bs.length+1<=_;lia,.whole hp,.inl ⟨by rw[A.us];show (bs.length:Int)<bs.length+1;lia,AM.mpr rfl,?_⟩⟩;clear hb hy ey;have U:∀u:Wk,OV.val (sn h w L fs u) = .lst (eO c4 h w (cI h w L fs u)):=λu=>by
   show D.lst (OV.vals _)=_
   rw[OV.cm,eu]
  have Rc:∀{f:Nat->Nat->fm} {z:D},z∈eO c4 h w f->∀n,D.ft (n+2) z:=λ{f z} hz n=>by
   obtain⟨i,_,rfl⟩:=A7.mp hz;refine .lst λy hy=>?_
   obtain⟨j,_,rfl⟩:=A7.mp hy;refine .tup λx hx=>?_
   simp only[AB,Ct,or_false]at hx;rcases hx with rfl |rfl<;>exact kD
  gp_on;gn_on;rw[b7];refine⟨by lia,nD h w L n fs,bs.map en,u,bs.length,by rw[OV.cm,decide_eq_true hp],WX,by lia,rfl,?_⟩;dsimp only[OV.val];rw[if_neg (by decide)];refine⟨h,w,L,n,fs,bs.map en,u,by rw[OV.cm],R.hd,A.s,n',?_⟩;rw[ϧ];refine⟨(U u).symm,⟨_,.inr (U u),λz hz=>Rc hz 2⟩,⟨_,.inr rfl,λz hz=>?_⟩,?_⟩
  .rw [A8]at hz;obtain⟨x,_,rfl⟩:=A7.mp hz;rw[Ig,U x];exact .lst λy hy=>Rc hy 1
  gp_on;fin2;exact k us U0 NK
theorem RO {h w L n:Nat}{e:Nat->Nat->Int}{fs:List Lf}{bs:List Bool}{B:Nat->Int}(R:Z4 h w L n e fs bs)(g:đ h w L n fs bs B){m k:Nat}(M:m<=k)(a:k<=bs.length):B k<=B m:=by
 obtain⟨_,_,_,_,_,ok⟩:=R.hd;obtain⟨u,A⟩:=R.at_ m (BC M a);obtain⟨U,l⟩:=R.at_ k a;obtain⟨_,c⟩:=MR ok R.h0 R.h4 A l M;obtain⟨y,f1,_,p⟩:=g m (BC M a);obtain⟨t,f2,_,o⟩:=g k a
 cases jv f1 A.f
 cases jv f2 l.f
 obtain⟨⟨i,j,hi,J,v⟩,_⟩:=o;have r:=p.2 i j hi J;obtain⟨q,_,z⟩:=c i j hi J;lia
theorem sJ {f T:Ac}{fd:Ag}(Df:bG K mg "_law_enough" jk f fd)(B:bT mg)(KV:bQ K)(g:bO P w K mg base "_law_greatest" 1 ["_law_sheet_here"] (bL K 1 jA))(r:bO P w K mg base "broad" 8 ["head","bits","many"] (bL K 3 mC))(C:bO P w K mg base "_law_whole" 1 ["_law_found"] (bL K 1 cy))(O:bO P w K mg base "enough" 11 ["head","bits","breadth"] (ZO K 3 T ⟨343,4,344,49⟩ "enough.<locals>.fits" tJ)):
  bO P w K mg base "_law_enough" 12 ["_law_head","_law_bits","_law_cut","_law_sheet_here"] (Sk K 4 (T1 T) lz):=by
 refine ZA.of Df fH (by walk_at "b") rfl (λc A o s H E t=>⟨_,_,(aD (a5 (i:=4) fH.nd rfl (Ap rfl) (aQ g (t.mono (by decide)) (by rfl) (ae (pv 3) ay)))
   (aD (a5 (i:=5) fH.nd rfl (Ap rfl) (aQ r (t.mono (by decide)) (by rfl) (ae (pv 0) (ae (pv 1) (ae (pv 2) ay)))))
   (aD (bN (dX (cg (bY (aQ C (t.mono (by decide)) (by rfl) (ae (pv 5) ay)))) (dG (bp jE (pv 5) (pv 4) (be _)))).pt (aF (aP dJ)) br)
   (aD (a5 (i:=6) fH.nd rfl (Ap rfl) (aQ O (t.mono (by decide)) (by rfl) (ae (pv 0) (ae (pv 1) (ae (pv 4) ay)))))
   (aD (bN (dX (cg (bY (aQ C (t.mono (by decide)) (by rfl) (ae (pv 6) ay)))) (dX (cg (xn mR mR aE (pv 6) (pv 2))) (dG (bp oK (aQ r (t.mono (by decide)) (by rfl) (ae (pv 0) (ae (pv 1) (ae (pv 6) ay)))) (pv 4) (be _))))).pt (aF (aP dJ)) br)
   (aF (aP (Yf (dj fP (pv 6) aE (be _)) (jr (dj oK (aQ r (t.mono (by decide)) (by rfl) (ae (pv 0) (ae (pv 1) (ae (aX dt (pv 6) aE) ay)))) (pv 4) (be _))))))))))),
  (pZ (bR.y (aZ (aW (bB (aT (aw aC aG))))))
   (pZ (bR.y (aZ (aW (bB (aT (aw aC (aw aC (aw aC aG))))))))
   (pZ (bR.y (bS (dW (cb (dQ (bB (aT (aw aC aG))))) (bh (aJ jF ax ax))) (aY (aW dI)) bo))
   (pZ (Vo (OD (λ_ h=>h) (aw aC (aw aC (aw aC aG)))))
   (pZ (bR.y (bS (dW (cb (dQ (bB (aT (aw aC aG))))) (dW (cb (bh (qK c0 c0 (aH az) ax ax))) (bh (aJ c0 (aH (bB (aT (aw aC (aw aC (aw aC aG)))))) ax)))) (aY (aW dI)) bo))
   (bR.y (aY (aW (VO (aJ fQ ax (aH az)) (aJ c0 (aH (bB (aT (aw aC (aw aC (aw (aJ b9 ax (aH az)) aG)))))) ax)))))))))),?_⟩)
 rintro ds Pr ⟨h,w,L,n,e,fs,bs,c,u,rfl,R,hc,A,k⟩;have hd:=R.hd;obtain⟨⟨h1,YO⟩,⟨J,XN⟩,hL,hn,hf,ok⟩:=hd;have ϐ:=R.l;obtain⟨B,G⟩:=W6 (h:=h) (w:=w) (L:=L) (n:=n) (fs:=fs) (bs:=bs) h1 J λc hc=>let⟨u,A⟩:=R.at_ c hc;⟨u,A.f,A.s⟩
 have j:∀{m k},m<=k->k<=bs.length->B k<=B m:=λa b=>RO R G a b
 have v:0<h/\h<=100/\0<w/\w<=100/\L<=6:=⟨h1,by lia,J,by lia,hL⟩
 have p:∀(c:Nat) (Q:OV->Prop),c<=bs.length->Q (.fz (.int (B c)))->mC [nD h w L n fs,.str (b_ bs),.int c] Q:=λc Q hc q=>by
  obtain⟨u,F,S,hM⟩:=G c hc;exact⟨h,w,L,n,fs,bs,c,u,rfl,ok,v,by lia,by lia,hc,F,S,λM ϭ=>by rw[se ϭ hM];exact q⟩
 gn_on;refine⟨h,w,_,rfl,h1,by lia,J,by lia,λM hM=>?_⟩;obtain⟨u2,F2,S2,U⟩:=G c hc
 cases jv F2 A.f
 cases se hM U
 dsimp only[OV.val];gp_on;gn_on;refine p c _ hc ?_;dsimp only[OV.val];gp_on;gn_on;simp only[cy];show if (!true)=true then _ else _
 rw[if_neg (by decide)];gp_on;gn_on;refine⟨h,w,L,n,fs,bs,B c,B,rfl,ok,v,by lia,by lia,G,?_⟩;obtain⟨q,eq,q1,q2,q3⟩:∃q:Nat,XC B (B c) bs.length = .int q/\q<=c/\B q<=B c/\(q=0∨B c<B (q-1)):=by
  rcases WW B (B c) bs.length with⟨z,_⟩ | ⟨_,q,a1,a2,a3,a4⟩
  .have:=j hc (Ak _);lia
  .refine ⟨q,a1,?_,a3,a4⟩;rcases a4 with z |z
   .lia
   .rcases EL c q with y |y
    .have:=j (show c<=q-1 by lia) (by lia);lia
    .exact y
 rw[eq];dsimp only[OV.val];gp_on;gn_on;simp only[cy];show if (!true)=true then _ else _
 rw[if_neg (by decide),if_pos (by lia),if_neg (by rw[decide_eq_true (show (q:Int)<=c by lia)];decide)];refine p q _ (by lia) ?_;dsimp only[OV.val];rw[if_neg (by lia)];gp_on;fin2;by_cases h0:q=0
 .rw [if_pos (by lia)];exact k
 .rw [if_neg (by lia),show (q:Int)-1=((q-1:Nat):Int) by lia];refine p (q-1) _ (by lia) ?_;dsimp only[OV.val];rw[decide_eq_true (show B (q-1) > B c by lia)];exact k
theorem Wa {f T:Ac}{fd:Ag}(Df:bG K mg "law" L1 f fd)(B:bT mg)(KV:bQ K)(J:du K "Reader" bK)(l:bO P w K mg base "_law_cell_at" 1 ["_law_script","_law_k"] (bL K 2 d9))(t:bO P w K mg base "_law_picture" 3 ["_law_script","_law_kind"] (bL K 2 jV))(U:bO P w K mg base "_law_ladder" 2 ["_law_script","_law_kind"] (bL K 2 lx))(jx:bO P w K mg base "_law_copy" 1 ["_law_sheet_here"] (bL K 1 hX))(we:LC P w K mg base "coded" 6 ["picture","ladder","levels"] (bL K 3 wV) [.cn,.int 2])(O:bO P w K mg base "_law_stream" 2 ["_law_found","_law_picture_here","_law_levels","_law_ladder_here"] (bL K 4 lu))(l9:bO P w K mg base "_law_read" 10 ["_law_head","_law_bits","_law_picture_here","_law_cuts","_law_cell"] (bL K 5 oE))(a:sk P w K mg base "Reader" 8 ["self","head"] (nC K 2 "Reader" bK eK))(G:nB P w K mg base "Reader" "feed" 8 ["self","bits"] (R0 K 2 "Reader" bK gH))(o:c6 P w K mg base "Reader" "seen" 8 ["self"] (bL K 1 gF))(m:bO P w K mg base "_law_numbers" 3 ["_law_reader","_law_cut","_law_whole_here"] (bL K 3 eU))(jw:bO P w K mg base "_law_enough" 12 ["_law_head","_law_bits","_law_cut","_law_sheet_here"] (Sk K 4 (T1 T) lz)):
  fE P w K mg base l' 13 f fd ["_law_script"] (uP K T ⟨343,4,344,49⟩ "enough.<locals>.fits"):=by
 refine Tj Df eX (λXE A outer s H E M hT=>⟨_,_,(aD (a5 (i:=1) eX.nd rfl (Ap rfl) (aX cS (aQ l (M.mono (by decide)) (by rfl) (ae (pv 0) (ae aE ay))) aE))
   (aD (a5 (i:=2) eX.nd rfl (Ap rfl) (aQ t (M.mono (by decide)) (by rfl) (ae (pv 0) (ae (pv 1) ay))))
   (aD (a5 (i:=3) eX.nd rfl (Ap rfl) (aQ U (M.mono (by decide)) (by rfl) (ae (pv 0) (ae (pv 1) ay))))
   (aD (a5 (i:=4) eX.nd rfl (Ap rfl) (aX cS (aQ l (M.mono (by decide)) (by rfl) (ae (pv 0) (ae aE ay))) (aO ba (cC (ae aE (ae aE (ae aE (ae aE ay))))) (pv 1) (λ_ _=>rfl))))
   (aD (a5 (i:=5) eX.nd rfl (Ap rfl) (aQ jx (M.mono (by decide)) (by rfl) (ae (pv 2) ay)))
   (aD (a5 (i:=6) eX.nd rfl (Ap rfl) (aQ we.ň (M.mono (by decide)) (by rfl) (ae (pv 5) (ae (pv 3) (ae (pv 4) ay)))))
   (aD (bN (dX (bp (nZ M.units) (pv 5) (pv 2) (be _)) (dG (cg (bY (aQ O (M.mono (by decide)) (by rfl) (ae (pv 6) (ae (pv 2) (ae (pv 4) (ae (pv 3) ay))))))))).pt (aF (aP dJ)) br)
   (aD (a5 (i:=7) eX.nd rfl (Ap rfl) (aO aS (pv 6) aE (λ_ _=>rfl)))
   (aD (a5 (i:=8) eX.nd rfl (Ap rfl) (aQ l (M.mono (by decide)) (by rfl) (ae (pv 0) (ae aE ay))))
   (aD (a5 (i:=9) eX.nd rfl (Ap rfl) (aM D' (by rfl) B.sorted boot_sorted (ae (cC (ae (aX cS (pv 8) (aX cT (aM cG (by rfl) B.len AS (ae (pv 7) ay)) aE)) (ae (aX cS (aQ l (M.mono (by decide)) (by rfl) (ae (pv 0) (ae aE ay))) (aX cT (aM cG (by rfl) B.len AS (ae (pv 7) ay)) aE)) ay))) ay (wN (by intro _ _ h;cases h)))))
   (aD (a5 (i:=9) eX.nd rfl (Ap rfl) (aX vp (aX vp (cC (ae (aO ba (cC (ae aE (ae (aX eE (aO ba (pv 9) aE (λ_ _=>rfl)) aE) ay))) (aX cS (aX eE (pv 8) aE) aE) (λ_ _=>rfl)) ay)) (pv 9)) (cC (ae (aM cG (by rfl) B.len AS (ae (pv 7) ay)) ay))))
   (aD (a5 (i:=10) eX.nd rfl (Ap rfl) (aQ l9 (M.mono (by decide)) (by rfl) (ae (aO aS (pv 6) aE (λ_ _=>rfl)) (ae (pv 7) (ae (pv 2) (ae (pv 9) (ae (aX eE (pv 8) aE) ay)))))))
   (aD (fA (i:=11) eX.nd rfl (Ap rfl) rfl (cF (pv 2)) (show bF (aA L1) _ from⟨rfl,by decide +kernel,by decide +kernel,by decide +kernel⟩) (N:=["_law_row"]) (ix:=[none]) (show cD _ _ _ _ from trivial) (λ_ _ _=>(bf (i:=0) (show Be (["_law_row"]:List Am) by decide +kernel) rfl (Ap rfl))) (λ_ _ _=>(c5 rfl (cF (pv 0)) (bF.rl (by rfl) (by decide +kernel) (by decide +kernel) (by decide +kernel)) (N:=["_law_number"]) (ix:=[none]) (show cD _ _ _ _ from trivial) (λ_ _ _=>(bf (i:=0) (show Be (["_law_number"]:List Am) by decide +kernel) rfl (Ap rfl))) (λ_ _ _=>(bH (ae (pv 0) (ae (pv 0) ay)))))))
   (aD (bN (dX (bp QB (pv 10) fg (be _)) (dG (bp (nZ M.units) (aO ba (pv 10) aE (λ_ _=>rfl)) (pv 11) (be _)))).pt (aF (aP dJ)) br)
   (aD (a5 (i:=12) eX.nd rfl (Ap rfl) (pM a (M.mono (by decide)) (by rfl) (ae (aO aS (pv 6) aE (λ_ _=>rfl)) ay)))
   (aD (bP (fi G.We (M.mono (by decide)) (pv 12) (ae (iT yV (pv 7) Md (fK (aO ba (pv 9) aE (λ_ _=>rfl)))) ay)))
   (aD (bN (dX (bp (nZ M.units) (di o (M.mono (by decide)) (pv 12)) (aO ba (pv 10) aE (λ_ _=>rfl)) (be _)) (dG (cg (bY (aQ m (M.mono (by decide)) (by rfl) (ae (pv 12) (ae (aO ba (pv 9) aE (λ_ _=>rfl)) (ae (dj fP (aO ba (pv 9) aE (λ_ _=>rfl)) (aM cG (by rfl) B.len AS (ae (pv 7) ay)) (be _)) ay)))))))).pt (aF (aP dJ)) br)
   (aD (bN (bp oK (aX eL (aM aU (by rfl) B.len AS (ae (pv 2) ay)) (aM aU (by rfl) B.len AS (ae (aO ba (pv 2) aE (λ_ _=>rfl)) ay))) aE (be _)) (aF (aP dJ)) br)
   (aF (aP (aQ jw (M.mono (by decide)) (by rfl) (ae (aO aS (pv 6) aE (λ_ _=>rfl)) (ae (pv 7) (ae (aO ba (pv 9) aE (λ_ _=>rfl)) (ae (aO ba (pv 10) aE (λ_ _=>rfl)) ay))))))))))))))))))))))))),
  (dq (bR.x (aZ (aW (aJ cj (aH (bB (aT (aw aC (aw az aG))))) (aH az)))))
   (dq (bR.x (aZ (aW (bB (aT (aw aC (aw aC aG)))))))
   (dq (bR.x (aZ (aW (bB (aT (aw aC (aw aC aG)))))))
   (dq (bR.x (aZ (aW (aJ cj (aH (bB (aT (aw aC (aw az aG))))) (a_ (cQ.b bD) (aH (bB (c9 (bU (aW az) (bU (aW az) (bU (aW az) (bU (aW az) cB))))))) ax)))))
   (dq (bR.x (aZ (aW (bB (aT (aw aC aG))))))
   (dq (bR.x (aZ (aW (bB (aT (aw aC (aw aC (aw aC aG))))))))
   (dq (bR.x (bS (dW (bh (aJ kX ax ax)) (cb (dQ (bB (aT (aw aC (aw aC (aw aC (aw aC aG))))))))) (aY (aW dI)) bo))
   (dq (bR.x (aZ (aW (bC aR aC az))))
   (dq (bR.x (aZ (aW (bB (aT (aw aC (aw az aG)))))))
   (dq (bR.x (aZ (aW (bB (xb T3 (aw (bB (c9 (bU (aW (aJ cj ax (aH (aJ b9 (aH (bt fN (aB ax aI))) (aH az))))) (bU (aW (aJ cj (aH (bB (aT (aw aC (aw az aG))))) (aH (aJ b9 (aH (bt fN (aB ax aI))) (aH az))))) cB)))) aG))))))
   (dq (bR.x (aZ (aW (bB (L7 (bB (L7 (bB (c9 (bU (aW (bC bD (bB (c9 (bU (aW az) (bU (aW (aJ cj (a_ (cQ.b bD) ax (aH az)) (aH az))) cB)))) (aJ cj (aH (aJ cj ax (aH az))) (aH az)))) cB))) aC)) (bB (c9 (bU (aW (bt fN (aB ax aI))) cB))))))))
   (dq (bR.x (aZ (aW (bB (aT (aw (bC aR aC az) (aw aC (aw aC (aw aC (aw (aJ cj ax (aH az)) aG))))))))))
   (dq (bR.x (aZ (aW (bB (cz (cL aC) bj (cz (cL aC) bj (aW (bX (aw aC (aw aC aG))))))))))
   (dq (bR.x (bS (dW (bh (aJ QO ax (aH fZ))) (bh (aJ kX (a_ (cQ.b bD) ax (aH az)) ax))) (aY (aW dI)) bo))
   (dq (bR.x (aZ (pI J (aw (bC aR aC az) aG))))
   (dq (bR.x (Pn (by decide +kernel) (aw (zj aC Uz (lD (a_ (cQ.b bD) ax (aH az)))) aG)))
   (dq (bR.x (bS (dW (bh (aJ kX (aH (bB (dH J (by decide +kernel) ax aI))) (a_ (cQ.b bD) ax (aH az)))) (cb (dQ (bB (cR (aB ax (aB (a_ (cQ.b bD) ax (aH az)) (aB (aH (aJ fQ (a_ (cQ.b bD) ax (aH az)) (aH (bt fN (aB ax aI))))) aI)))))))) (aY (aW dI)) bo))
   (dq (bR.x (bS (bh (aJ c0 (aH (aJ cj (aH (bt bV (aB ax aI))) (aH (bt bV (aB (a_ (cQ.b bD) ax (aH az)) aI))))) (aH az))) (aY (aW dI)) bo))
   (VG (LD Zq (λ_ h=>h) (aw (bC aR aC az) (aw aC (aw (bC bD aC az) (aw (bC bD aC az) aG)))) _ _ hT)))))))))))))))))))),?_⟩)
 intro ns ż hb;gn_on;refine⟨ns,0,rfl,by decide,?_⟩;fin2;have hk:0<=ns.getD 0 0%4/\ns.getD 0 0%4<4:=by lia
 generalize ns.getD 0 0%4=kd at hk;gp_on;gn_on;refine⟨ns,kd,rfl,hk.1,hk.2,ż,λh w e h1 YO w1 XN h4 he=>?_⟩;have k:∀{α:Type} {g:α->D} {f:Nat->Nat->α},OV.val (.nl (iv g h w f)) = .lst (eO g h w f):=λ{α g f}=>by
  show D.lst (OV.vals _)=_
  rw[OV.cm,eu]
 dsimp only;rw[k];gp_on;gn_on;refine⟨ns,kd,rfl,λfs hf ok=>?_⟩;fin2;gp_on;gn_on;refine⟨ns,1,rfl,by decide,?_⟩;fin2;obtain⟨d,ĳ,d0,d7⟩:∃d:Int,hQ [D.int 7,D.int 7,D.int 7,D.int 3] kd=some (.int d)/\0<d/\d<=7:=by
  rcases (show kd=0∨kd=1∨kd=2∨kd=3 by lia) with rfl |rfl |rfl |rfl
  all_goals first |exact⟨7,rfl,by decide,by decide⟩ |exact⟨3,rfl,by decide,by decide⟩
 refine⟨_,ĳ,d0,?_⟩;have ϯ:=Es (ns.getD 1 0) (show d≠0 by lia);have Ϯ:=C8 (ns.getD 1 0) d0;obtain⟨L,ĺ,hL⟩:∃L:Nat,ns.getD 1 0%d=L/\L<=6:=⟨(ns.getD 1 0%d).toNat,by lia,by lia⟩
 rw[ĺ];clear ϯ Ϯ ĺ ĳ d0 d7 hk;gp_on;gn_on;refine v5 (by lia) ?_;rw[k];gp_on;gn_on;have ü:10*fs.length*L<=180:=by
  have:=Ee (Dq 10 hf) hL;lia
 have U2:3*(h*w)*(80+10*fs.length*L+1)<=900000:=by
  have:=Ee (Dq 3 h4) (show 80+10*fs.length*L+1<=261 by lia);lia
 refine⟨h,w,e,fs,L,80+10*fs.length*L+1,rfl,by lia,ok,hL,h1,YO,w1,XN,by lia,Tb ok (by decide) he L,U2,λn bs v x1 x2 hn x4 F hv S C NK Ķ=>?_⟩;have YD:=xH (h:=h) (w:=w) (L:=L) (e:=e) (fs:=fs);rw[YD]at F S;have h0:0<h*w:=HB h1 w1;have ç:∀i j,i<h->j<w->cI h w L fs v i j=(e i j,e i j):=λi j hi hj=>yX ok S C hv hi hj
 have R:Z4 h w L n e fs bs:=⟨⟨⟨h1,YO⟩,⟨w1,XN⟩,hL,by lia,by lia,ok⟩,h0,h4,Ķ,λc hc=>Zp ok h0 h4 (by lia) F S hv NK ç hc,λu A i j hi hj=>by cases Xa F A;exact ç i j hi hj⟩
 clear x1 x2 x4 C YD hn ü U2 F S ç hv NK h0;dsimp only[OV.val];gp_on;gn_on;refine⟨⟨_,.inr rfl,λz hz=>?_⟩,h,w,L,n,e,fs,bs,rfl,h1,YO,XN,by lia,?_⟩
 .obtain ⟨i,_,rfl⟩:=A7.mp hz;refine .lst λy hy=>?_
  obtain⟨j,_,rfl⟩:=A7.mp hy;exact kD
 dsimp only[OV.val];rw[if_neg (by decide)];gp_on;gn_on;gp_on;gn_on;refine⟨ns,5,rfl,by decide,?_⟩;fin2;generalize ns.getD 5 0=c;gp_on;gn_on;rw[b7];refine⟨by lia,by lia,ns,4,rfl,by decide,?_⟩;fin2;have b1:∀x:Int,0<=x%((bs.length:Int)+1)/\x%((bs.length:Int)+1)<=bs.length:=λx=>⟨Es x (by lia),by have:=C8 x (show (0:Int)<bs.length+1 by lia);lia⟩
 refine⟨by lia,by lia,[c%((bs.length:Int)+1),ns.getD 4 0%((bs.length:Int)+1)],rfl,by simp,λms hp hs=>?_⟩;obtain⟨p,q,rfl,pq,ql⟩:∃p q:Nat,ms=[(p:Int),(q:Int)]/\p<=q/\q<=bs.length:=by
  have hl:=hp.length_eq;have hm:∀x∈ms,0<=x/\x<=bs.length:=λx hx=>by
   have:=hp.mem_iff.mp hx;simp only[AB,Ct,or_false]at this;rcases this with z |z<;>rw[z]<;>exact b1 _
  match ms,hl with
  | [x,y],_=>
   have h1:=hm x (by simp);have h2:=hm y (by simp);have h3:=(List.pairwise_cons.mp hs).1 y (by simp);exact⟨x.toNat,y.toNat,by rw[Cf h1.1,Cf h2.1],by lia,by lia⟩
 clear hp hs b1;gp_on;gn_on;obtain⟨r,M,rp⟩:∃r:Nat,hQ [D.int 0,D.int ((p:Int) / 2)] (c / 3%2)=some (.int r)/\r<=p:=by
  rcases (show c / 3%2=0∨c / 3%2=1 by lia) with z |z<;>rw[z]
  .exact ⟨0,rfl,Bv _⟩
  .exact ⟨p / 2,rfl,by lia⟩
 rw[b7];refine⟨_,M,by lia,?_⟩;clear M;gp_on;gn_on;refine⟨h,w,L,n,e,fs,bs,[r,p,q,bs.length],c / 6,rfl,R,rfl,λi hi=>?_,rfl,λus U0 NK=>?_⟩
 .rcases (show i=0∨i=1∨i=2 by lia) with rfl |rfl |rfl
  .exact rp
  .exact pq
  .exact ql
 obtain⟨u0,u1,u2,u3,rfl⟩:∃u0 u1 u2 u3,us=[u0,u1,u2,u3]:=match us,U0 with
  | [u0,u1,u2,u3],_=>⟨u0,u1,u2,u3,rfl⟩
 have A1:At h w L n e fs bs p u1:=NK 1 u1 rfl;have A2:At h w L n e fs bs q u2:=NK 2 u2 rfl;have A3:At h w L n e fs bs bs.length u3:=NK 3 u3 rfl;have es:eO c4 h w (cI h w L fs u3)=eO c4 h w λi j=>(e i j,e i j):=by
  rw[<- eu,<- eu,pF (λi j hi hj=>R.wh u3 A3 i j hi hj)]
 clear NK U0;rw[show OV.val (.nl ([u0,u1,u2,u3].map (sn h w L fs))) = .lst [.lst (eO c4 h w (cI h w L fs u0)),.lst (eO c4 h w (cI h w L fs u1)),.lst (eO c4 h w (cI h w L fs u2)),.lst (eO c4 h w λi j=>(e i j,e i j))] by
  show D.lst (OV.vals _)=_
  rw[OV.cm];show D.lst [OV.val (sn h w L fs u0),OV.val (sn h w L fs u1),OV.val (sn h w L fs u2),OV.val (sn h w L fs u3)]=_
  rw[k,k,k,k,es]]
 gp_on;gn_on;refine eQ.map (Ax h) (λi=>D.lst (tab w λj=>.int (e i j))) (λi=>.nl (tab w λj=>.fz (c4 (e i j,e i j)))) (by rw[BK];lia) (λi _ Q q=>?_) ?_
 .fin2;refine eQ.map (Ax w) (λj=>D.int (e i j)) (λj=>.fz (c4 (e i j,e i j))) (by rw[BK];lia) (λj _ Q q=>?_) q;fin2;exact q
 rw[show OV.val (.nl ((Ax h).map λi=>.nl (tab w λj=>.fz (c4 (e i j,e i j))))) = .lst (eO c4 h w λi j=>(e i j,e i j)) from k (g:=c4) (f:=λi j=>(e i j,e i j))];have Rc:∀{f:Nat->Nat->fm} {z:D},z∈eO c4 h w f->∀n,D.ft (n+2) z:=λ{f z} hz n=>by
  obtain⟨i,_,rfl⟩:=A7.mp hz;refine .lst λy hy=>?_
  obtain⟨j,_,rfl⟩:=A7.mp hy;refine .tup λx hx=>?_
  simp only[AB,Ct,or_false]at hx;rcases hx with rfl |rfl<;>exact kD
 gp_on;gn_on;refine⟨⟨_,.inr rfl,λz hz=>Rc hz 2⟩,?_⟩;gp_on;gn_on;refine⟨h,w,L,n,fs,rfl,rfl,R.hd,?_⟩;gp_on;gn_on;have WX:(bs.take q).length=q:=by rw[Bp,BX ql]
 rw[b7,wK bs ql];refine⟨by lia,h,w,L,n,fs,[],bs.take q,yB (h*w) n,u2,rfl,⟨R.hd,.nil,(jS (h*w) n).2.2.1⟩,rfl,by rw[WX];show 0+q<=_;lia,A2.f,.inr ⟨by rw[A2.us,WX];show (q:Int)=0+q;lia,rfl,?_⟩⟩;rw[EO];have ekm:((bs.take q).map en).length=q:=by rw[Ay,WX]
 have ã:decide ((q:Int)=(bs.length:Int))=decide (u2.pl<0):=by
  rw[A2.wh];exact decide_eq_decide.mpr (by lia)
 gp_on;gn_on;refine⟨h,w,L,n,fs,(bs.take q).map en,u2,by rw[OV.cm],R.hd,A2.s,n',?_⟩;rw[b7];refine⟨k.symm,⟨_,.inr k,λz hz=>Rc hz 2⟩,by lia,nD h w L n fs,(bs.take q).map en,u2,q,by rw[ã,OV.cm],ekm,by lia,rfl,?_⟩;dsimp only[OV.val];rw[if_neg (by decide)];have Ϛ:hQ (eO D.int h w e) ((0:Nat):Int)=some (.lst (tab w λj=>.int (e 0 j))):=d3 (by rw[eO,tab,AN,DM (show 0<h by lia)];rfl);gp_on;gn_on;rw[show (eO D.int h w e).length=h from bb];refine⟨_,Ϛ,?_⟩;dsimp only;rw[bb];refine⟨.inl ⟨by lia,by lia⟩,?_⟩;split
 .trivial
 .gp_on;fin2;exact⟨h,w,L,n,e,fs,bs,p,u1,rfl,R,BC pq ql,A1,rfl⟩
end
theorem ą {w:AU}{K:Ar}{h:Heap}{mg:Am->Option Aa}(X:K.In h)(G:h.Ns Ai mg)
  (aq:Cq K Ai "PART_SPANS"=some (some (.ref j))) (ap:K.lookup j=some ⟨.type "tuple",R3,.seq #[.ref g,.ref f,.ref e,.ref c,.ref A] R4,R1⟩)
  (ak:K.lookup g=some ⟨.type "tuple",Oh,.seq #[.int 0 LH,.int 1 Q] Oq,Ob⟩)
  (ai:K.lookup f=some ⟨.type "tuple",Og,.seq #[.int (-8) O,.int 8 L] Oo,Oa⟩)
  (aj:K.lookup e=some ⟨.type "tuple",Of,.seq #[.int (-8) J,.int 8 C] Om,N'⟩)
  (ag:K.lookup c=some ⟨.type "tuple",Oe,.seq #[.int (-64) z,.int 64 v] Ol,N_⟩)
  (al:K.lookup A=some ⟨.type "tuple",Od,.seq #[.int 0 u,.int 8 r] Oj,N9⟩)
  (av:Cq K Ai "SIZES"=some (some (.ref RU))) (au:K.lookup RU=some ⟨.type "tuple",Yj,.seq #[.int 1 Vw,.int 64 Vv] Yp,X1⟩)
  (ao:Cq K Ai "NUMBER_SPANS"=some (some (.ref B))) (am:K.lookup B=some ⟨.type "tuple",Oi,.seq #[.ref M,.ref U,.ref T,.ref a] Ot,Oc⟩)
  (ad:K.lookup M=some ⟨.type "tuple",Mn,.seq #[.int 1 q,.int 64 p] Ms,LX⟩)
  (ac:K.lookup U=some ⟨.type "tuple",Mm,.seq #[.int 1 o,.int 64 n] Mr,LW⟩)
  (aa:K.lookup T=some ⟨.type "tuple",Ml,.seq #[.int 0 m,.int 6 l] Mq,LV⟩)
  (af:K.lookup a=some ⟨.type "tuple",Mj,.seq #[.int 0 k,.int 4000 t] Mp,LU⟩):
  yw K mg "PART_SPANS" (D.tup [.tup [.int 0,.int 1],.tup [.int (-8),.int 8],.tup [.int (-8),.int 8],.tup [.int (-64),.int 64],.tup [.int 0,.int 8]])/\yw K mg "SIZES" (D.tup [.int 1,.int 64])/\yw K mg "NUMBER_SPANS" (D.tup [.tup [.int 1,.int 64],.tup [.int 1,.int 64],.tup [.int 0,.int 6],.tup [.int 0,.int 4000]]):=
 ⟨⟨_,Go X G aq,λF=>⟨_,[.ref g,.ref f,.ref e,.ref c,.ref A],rfl,.inr ⟨_,_,_,ap,rfl,rfl,eG (show 5<=1000000 by decide),.cons rfl (.cons rfl (.cons rfl (.cons rfl (.cons rfl (.nil)))))⟩,⟨_,_,rfl,(t2 ak F),⟨_,_,rfl,(t2 ai F),⟨_,_,rfl,(t2 aj F),⟨_,_,rfl,(t2 ag F),⟨_,_,rfl,(t2 al F),rfl⟩⟩⟩⟩⟩⟩⟩,⟨_,Go X G av,λF=>(t2 au F)⟩,⟨_,Go X G ao,λF=>⟨_,[.ref M,.ref U,.ref T,.ref a],rfl,.inr ⟨_,_,_,am,rfl,rfl,eG (show 4<=1000000 by decide),.cons rfl (.cons rfl (.cons rfl (.cons rfl (.nil))))⟩,⟨_,_,rfl,(t2 ad F),⟨_,_,rfl,(t2 ac F),⟨_,_,rfl,(t2 aa F),⟨_,_,rfl,(t2 af F),rfl⟩⟩⟩⟩⟩⟩⟩
end Lw
namespace PySem.W.Fast
def tw3419747996832265836:=Nat
def tw17940964303990993419:=Nat
def tw13247320590055215959:=Nat
def tw9227524526200509450:=Nat
def tw13404973613580686136:=Nat
def tw14642369024492225222:=Nat
def tw16617478206761577920:=Nat
def tw13869249463189171100:=Nat
def tw5707102851859949473:=Nat
def tw16147026004310538673:=Nat
def tw9268522323924229200:=Nat
def tw1274207708799220173:=Nat
def tw17990027777149654477:=Nat
def tw16743832905642755641:=Nat
def tw1091654798731971193:=Nat
def tw12521224676119077480:=Nat
def tw4426906080176050568:=Nat
def tw16387372825028794230:=Nat
def tw14657529150858878485:=Nat
def tw12899774607003439485:=Nat
def tw11522724240104524453:=Nat
def tw12096891070586462617:=Nat
def tw2473017269827413137:=Nat
def tw7785169256390926096:=Nat
def tw12931931600290992551:=Nat
def tw16871070741561406751:=Nat
def tw1690399390147228246:=Nat
def tw9369049756927649028:=Nat
def tw16630801175964039071:=Nat
def tw2970104572184106622:=Nat
def tw10294329510080746895:=Nat
def tw12238486825014932316:=Nat
def tw1664168562779335191:=Nat
def tw8239136257277491229:=Nat
def tw11726242750358162540:=Nat
def tw7752534952964418009:=Nat
def tw4901405124602392891:=Nat
def tw3065463224913176847:=Nat
def tw17039915570968956895:=Nat
def tw6381167931135905816:=Nat
def tw10782724317374844859:=Nat
def tw11791996513163062147:=Nat
def tw6392915895517195252:=Nat
def tw9825416890877759635:=Nat
def tw18283266462217244956:=Nat
def tw18155345511119846506:=Nat
def tw5563650709642987253:=Nat
def tw11367843525899373689:=Nat
def tw17184628651112740989:=Nat
def tw9231842442284219692:=Nat
def tw16169162917494360939:=Nat
def tw4855588439978290615:=Nat
def tw5935171596253378444:=Nat
def tw3408084851607561565:=Nat
def tw5794404873282838152:=Nat
def tw5838351242253070315:=Nat
def tw16609492636653969893:=Nat
def tw17909624699472322126:=Nat
def tw15863233004212794731:=Nat
def tw7446363328575355390:=Nat
def tw1503353393574759829:=Nat
def tw10420838744397135024:=Nat
def tw16545122759838025655:=Nat
def tw6488855722827693394:=Nat
def tw12084295459603062362:=Nat
def tw16402545780553323607:=Nat
def tw2945171597076748942:=Nat
def tw3381565042694579584:=Nat
def tw9199111640885357169:=Nat
def tw3043750332362037124:=Nat
def tw13232697003325495783:=Nat
def tw17823412472789804744:=Nat
def tw1097504923116185564:=Nat
def tw4021977597872236222:=Nat
def tw6096516415846296089:=Nat
def tw3992021395132046546:=Nat
def tw16848096081149078712:=Nat
def tw1045661740493634108:=Nat
def tw6003496640586575323:=Nat
def tw15345325773221788039:=Nat
def tw14989687323332722577:=Nat
def tw1418298098324101140:=Nat
def tw4059092406921121813:=Nat
def tw13971341896086181841:=Nat
def tw1482869346914062859:=Nat
def tw13571681519109686375:=Nat
def tw3596426256295983784:=Nat
def tw12928115063071566325:=Nat
def tw2086271974750327678:=Nat
def tw2330652923513862281:=Nat
def tw845282689592022083:=Nat
def tw5397671306875722984:=Nat
def tw3402130389667718962:=Nat
def tw4344320731482973045:=Nat
def tw6420839426137370427:=Nat
def tw8231286102950223451:=Nat
def tw16003431103365515885:=Nat
def tw9429566325413728412:=Nat
def tw10334491313100811389:=Nat
def tw10944948840244474144:=Nat
def tw14028319333350173407:=Nat
def tw2728620867627526131:=Nat
def tw16169938252468991949:=Nat
def tw14615672626563148247:=Nat
def tw15174612323888147065:=Nat
def tw13675791584914316158:=Nat
def tw991984474568964950:=Nat
def tw3523412587070235942:=Nat
def tw10670285374698298966:=Nat
def tw13894334074339872281:=Nat
def tw4392664300841973307:=Nat
def tw14323549598863013974:=Nat
def tw16287549898936397908:=Nat
def tw4691970977649089278:=Nat
def tw18004077084253341563:=Nat
def tw4698392909510645090:=Nat
def tw5102479387912405416:=Nat
def tw16629350922030836113:=Nat
def tw4482513854215816526:=Nat
def tw2631770062432325134:=Nat
def tw17877675605150713110:=Nat
def tw3420341570316937514:=Nat
def tw886061263403528977:=Nat
def tw60767057707483263:=Nat
def tw3854107589489121053:=Nat
def tw874920651642416360:=Nat
def tw476690907886589577:=Nat
def tw7749469959882579577:=Nat
def tw3473565586483044337:=Nat
def tw770069178483754643:=Nat
def tw2722889826032388200:=Nat
def tw18443721985987872564:=Nat
def tw6996734425746999146:=Nat
def tw17363161856826751369:=Nat
def tw8761403337959001054:=Nat
def tw5928854259481160138:=Nat
def tw5652935838901493490:=Nat
def tw17682900153145060941:=Nat
def tw6060001034411291894:=Nat
def tw11380169768341556618:=Nat
def tw16048441475187172327:=Nat
def tw9483010460681259352:=Nat
def tw9523697809607490611:=Nat
def tw16691362716001210912:=Nat
def tw2482791912513401232:=Nat
def tw13355578929963344018:=Nat
def tw15615162113004817026:=Nat
def tw13123744323485911220:=Nat
def tw8179646229579052731:=Nat
def tw10831146128527893090:=Nat
def tw14315392677540035209:=Nat
def tw11224680785183862195:=Nat
def tw756626804418770806:=Nat
def tw15194332787327967118:=Nat
def tw7548352299160946991:=Nat
def tw18180611030797468938:=Nat
def tw1238133663192772405:=Nat
def tw546917924878568166:=Nat
def tw207024902537337111:=Nat
def tw6034293781549893763:=Nat
def tw8966981000786650892:=Nat
def tw6846096273085857830:=Nat
def tw2245437631695980418:=Nat
def tw12459546761536418853:=Nat
def tw7432927504224833005:=Nat
def tw10237134138658334294:=Nat
def tw2722631352269993099:=Nat
def tw5849512361888682173:=Nat
def tw3576508105905254511:=Nat
def tw8140455173303362570:=Nat
def tw12906137320996808182:=Nat
def tw1301395459852286503:=Nat
def tw16610816384241289916:=Nat
def tw15682238733075506444:=Nat
def tw18284329980417702784:=Nat
def tw11577200109962116240:=Nat
def tw4452912406889119421:=Nat
def tw3959936275437447427:=Nat
def tw225604691335606262:=Nat
def tw12405320137204388282:=Nat
def tw6517766220185325487:=Nat
def tw13696147612838975314:=Nat
def tw5919699612227951586:=Nat
def tw9707649674689463234:=Nat
def tw12024910114547480295:=Nat
def tw8808714759289251627:=Nat
def tw1558683325179359969:=Nat
def tw12274400896981406027:=Nat
def tw17327972230519424491:=Nat
def tw7129452676015920866:=Nat
def tw481755061593060494:=Nat
def tw5405213139468644151:=Nat
def tw7663368906555244245:=Nat
def tw18372072510738450740:=Nat
def tw18275738060828772387:=Nat
def tw92431617231299483:=Nat
def tw4299577204017115911:=Nat
def tw13246955500485264681:=Nat
def tw4331314779752739014:=Nat
def tw2424787469656105037:=Nat
def tw18305670344199784225:=Nat
def tw6702242376741836708:=Nat
def tw12394421467625201481:=Nat
def tw11075412933279091429:=Nat
def tw10811538612135691825:=Nat
def tw5734595262415855967:=Nat
def tw15229638908365238675:=Nat
def tw5594862029079255457:=Nat
def tw10161687197176232812:=Nat
def tw9000612765525505693:=Nat
def tw12373291032294816040:=Nat
def tw1969367656404657755:=Nat
def tw1950621436579789519:=Nat
def tw13383163400544354792:=Nat
def tw16777636078516371343:=Nat
def tw14413125214640219734:=Nat
def tw10461465203011943880:=Nat
def tw10190803559287930384:=Nat
def tw1544441914803716730:=Nat
def tw15042264969576230140:=Nat
def tw5198533746821259856:=Nat
def tw11554792491818254056:=Nat
def tw17913668379268702381:=Nat
def tw15360252472221169581:=Nat
def tw313705197176136504:=Nat
def tw13147443655858902010:=Nat
def tw12806394743030299090:=Nat
def tw7685114234064991850:=Nat
def tw3421095410443829455:=Nat
def tw8350876110031814438:=Nat
def tw4226615374512921147:=Nat
def tw15193363738101180102:=Nat
def tw14479515451626548566:=Nat
def tw16530150382824420664:=Nat
def tw17761274069806998806:=Nat
def tw2282548229211183734:=Nat
def tw13329524712691061373:=Nat
def tw16840888662694470555:=Nat
def tw1246146360513536682:=Nat
def tw14437012373473009954:=Nat
def tw3978617853293926019:=Nat
def tw5904411212220232922:=Nat
def tw3092094585470087213:=Nat
def tw18282204880041317350:=Nat
def tw16479805402840377031:=Nat
def tw13332568205305122666:=Nat
def tw15978259328539543460:=Nat
def tw4107515917033879020:=Nat
def tw11184403996085067013:=Nat
def tw2419275297486882527:=Nat
def tw10779070029915031150:=Nat
def tw7160868813775815033:=Nat
def tw11086332193389647957:=Nat
def tw18353582710805208867:=Nat
def tw9652024102889182722:=Nat
def tw7851011161254578689:=Nat
def tw9136968979594489881:=Nat
def tw4373546567972245446:=Nat
def tw7956306891255893153:=Nat
def tw1873579889115226868:=Nat
def tw18034399121207947418:=Nat
def tw3756447084127277878:=Nat
def tw1324236864871262779:=Nat
def tw10062678885614044441:=Nat
def tw14213833704334484703:=Nat
def tw15577783299542497387:=Nat
def tw11178104403364079294:=Nat
def tw4025469307402419678:=Nat
def tw10151216730625494276:=Nat
def tw7917099782282028692:=Nat
def tw15305935652112803392:=Nat
def tw16754428658034209283:=Nat
def tw17585677672528063919:=Nat
def tw17126950280780302400:=Nat
def tw17182361835480560716:=Nat
def tw1356917311835493193:=Nat
def tw16663591800436825296:=Nat
def tw8973759232376091614:=Nat
def tw2752576247667884760:=Nat
def tw13892104006736870174:=Nat
def tw1237357484708646294:=Nat
def tw6627010327907110601:=Nat
def tw9425754316856663611:=Nat
def tw14626861660067431997:=Nat
def tw6161338873924824984:=Nat
def tw2489317902185607992:=Nat
def tw15691008119596176546:=Nat
def tw4979161996346639334:=Nat
def tw11971626455005357084:=Nat
def tw13322066209660562779:=Nat
def tw16578931162767302543:=Nat
def tw12618181745579731706:=Nat
def tw4459509149412610481:=Nat
def tw15260402960443469518:=Nat
def tw9183379142897503981:=Nat
def tw10775106621917658191:=Nat
def tw11009294491746570612:=Nat
def tw11186254401965131390:=Nat
def tw5766159634749668065:=Nat
def tw14239913587098092642:=Nat
def tw11359389792865942242:=Nat
def tw2868511898940692503:=Nat
def tw8097829540277161609:=Nat
def tw11664646082272007494:=Nat
def tw16260306088248818096:=Nat
def tw4866496135450269562:=Nat
def tw5967652076563796249:=Nat
def tw16516585054041652977:=Nat
def tw18241599058084287491:=Nat
def tw8281781473398633263:=Nat
def tw12962744208194907927:=Nat
def tw3444366018722169548:=Nat
def tw7327902641356921183:=Nat
def tw15020464298062932297:=Nat
def tw16734874406285977024:=Nat
def tw791731062571817764:=Nat
def tw7220505619743554816:=Nat
def tw11129251960791951433:=Nat
def tw11771940708061928301:=Nat
def tw6458227319123727657:=Nat
def tw12747535378047434389:=Nat
def tw13133299028384360838:=Nat
def tw13793510888297679988:=Nat
def tw12038804086841817617:=Nat
def tw17332808207477996702:=Nat
def tw11336464691966257049:=Nat
def tw13746294962330030340:=Nat
def tw3506929967329218103:=Nat
def tw11125360054610501748:=Nat
def tw4870766764488469880:=Nat
def tw9670389392777280559:=Nat
def tw7557621959763757726:=Nat
def tw3203901790460569071:=Nat
def tw3905916835864027461:=Nat
def tw2418401086343457697:=Nat
def tw7454572636408657544:=Nat
def tw12413616493986948539:=Nat
def tw2568342283068096948:=Nat
def tw8212256649751438131:=Nat
def tw2885889452053181361:=Nat
def tw7976447799576997626:=Nat
def tw10044491405639117469:=Nat
def tw1499044448106970897:=Nat
def tw14305083841113180920:=Nat
def tw7940638866586226618:=Nat
def tw14650966284632284373:=Nat
def tw8597378903940638195:=Nat
def tw5843521694474238694:=Nat
def tw7088922568895003200:=Nat
def tw15324599382875695059:=Nat
def tw14746577146343512603:=Nat
def tw9301745801224695773:=Nat
def tw6256276543856863990:=Nat
def tw16858613330150848669:=Nat
def tw8531046400285620734:=Nat
def tw8753449569402285907:=Nat
def tw14868841325864349153:=Nat
def tw7749489604655350288:=Nat
def tw11060686703341727678:=Nat
def tw9163908747650477290:=Nat
def tw2815103200262910827:=Nat
def tw16314062348373902074:=Nat
def tw9869868618050020529:=Nat
def tw5779399888691599652:=Nat
def tw16259744722856928485:=Nat
def tw12790885419281279609:=Nat
def tw14558145650628054947:=Nat
def tw326086174939959990:=Nat
def tw3132823971776743998:=Nat
def tw10693180557412672256:=Nat
def tw17725302366178291647:=Nat
def tw271190182202499664:=Nat
def tw11989334474161129023:=Nat
def tw11265086383895390505:=Nat
def tw7404222949013684744:=Nat
def tw7190995035375914658:=Nat
def tw8122683495939473773:=Nat
def tw17503195147537483979:=Nat
def tw769454024409220845:=Nat
def tw3082266684742072988:=Nat
def tw13741475291232423161:=Nat
def tw12925934145981832346:=Nat
def tw4282671637786118537:=Nat
def tw7238154791405784061:=Nat
def tw16158707096860059611:=Nat
def tw2083617386053113725:=Nat
def tw572680822450638859:=Nat
def tw16596751969978653522:=Nat
def tw15010753460895836776:=Nat
def tw857298210810109249:=Nat
def tw800097122211346693:=Nat
def tw11128340046918032670:=Nat
def tw13279923826282055462:=Nat
def tw2658362057890570765:=Nat
def tw17250104854072788080:=Nat
def tw7318379916777883124:=Nat
def tw2550020934825038579:=Nat
def tw18067915036976369879:=Nat
def tw6592084703591511055:=Nat
def tw12652756556818219559:=Nat
def tw5417391944258033848:=Nat
def tw14460082650840711737:=Nat
def tw5893353045481729408:=Nat
def tw3474425106853944720:=Nat
def tw14359808591570178949:=Nat
def tw2115536767439254071:=Nat
def tw18276159698718132663:=Nat
def tw8687987193691809437:=Nat
def tw5560096525591108006:=Nat
def tw8211173317252718873:=Nat
def tw11708855616708342935:=Nat
def tw14857015615288007269:=Nat
def tw8124374194560248639:=Nat
def tw1637884920293394012:=Nat
def tw7626859884862574690:=Nat
def tw14505620694847012998:=Nat
def tw14634479620626510638:=Nat
def tw1033325027207098369:=Nat
def tw3360868611919499287:=Nat
def tw10174116622462583729:=Nat
def tw12897656249250428536:=Nat
def tw10409092112497098857:=Nat
def tw1103275513345301329:=Nat
def tw10188275781383791369:=Nat
def tw16430258671969718166:=Nat
def tw12288823558296052878:=Nat
def tw13351276544411055511:=Nat
def tw17471241535326123659:=Nat
def tw6921181494071875243:=Nat
def tw7928083819745405815:=Nat
def tw14336365209600532440:=Nat
def tw15460703404282417667:=Nat
def tw5510835532500621994:=Nat
def tw6890928293081752135:=Nat
def tw9978351419631018155:=Nat
def tw4961975663643530308:=Nat
def tw18196741593643509738:=Nat
def tw6912560321161520838:=Nat
def tw4045899436963849565:=Nat
def tw3399164689443622104:=Nat
def tw8710523512979474350:=Nat
def tw3926104176792953867:=Nat
def tw16946122952651693310:=Nat
def tw9683317700761647292:=Nat
def tw1465315306442497300:=Nat
def tw13015212106019457275:=Nat
def tw9377207522998946708:=Nat
def tw2161305997659025:=Nat
def tw8509522924129095694:=Nat
def tw8411668074937383523:=Nat
def tw4882084699243585982:=Nat
def tw11451394978782801560:=Nat
def tw11892231333163239703:=Nat
def tw8070580821654277904:=Nat
def tw8682382427855851501:=Nat
def tw1812999476475666353:=Nat
def tw9119089768214000606:=Nat
def tw9582061971972923853:=Nat
def tw9807267939226123165:=Nat
def tw7879275209963078242:=Nat
def tw12399076546442422809:=Nat
def tw7921531133311147231:=Nat
def tw1296779741200678099:=Nat
def tw8856384271821313925:=Nat
def tw18281518627921065001:=Nat
def tw6614914631437579177:=Nat
def tw10358303630250869525:=Nat
def tw12589607737015684832:=Nat
def tw2668099152651589730:=Nat
def tw15347242986485128407:=Nat
def tw14302896607898364024:=Nat
def tw14994496577790540965:=Nat
def tw12876216630698696406:=Nat
def tw5960731061917293251:=Nat
def tw13299368531094289994:=Nat
def tw8249021486307920441:=Nat
def tw2240997144717783531:=Nat
def tw15047603695174107178:=Nat
def tw17903720247271656483:=Nat
def tw13360489572805940299:=Nat
def tw18155288136205804059:=Nat
def tw4259305243265386942:=Nat
def tw10376211628382442319:=Nat
def tw8004899803978144977:=Nat
def tw14169916098147604479:=Nat
def tw10515696224321180846:=Nat
def tw3165222982479122270:=Nat
def tw4018165130573774820:=Nat
def tw4553847030660226092:=Nat
def tw3431243080563113724:=Nat
def tw13939174807562121691:=Nat
def tw7813364715543443865:=Nat
def tw15247359228582522167:=Nat
def tw4374743156045399120:=Nat
def tw12855207092695096950:=Nat
def tw17934755170154843341:=Nat
def tw7846477388645876619:=Nat
def tw17581101814727235814:=Nat
def tw15537420009446336674:=Nat
def tw10806508487954118678:=Nat
def tw8390323068249297582:=Nat
def tw677740478044890186:=Nat
def tw17299664941534230513:=Nat
def tw7154088779580317164:=Nat
def tw16578034781079771630:=Nat
def tw12062094295251527272:=Nat
def tw11532596597959290055:=Nat
def tw15398154871628148247:=Nat
def tw16740611549170261958:=Nat
def tw5737185614807958343:=Nat
def tw17456556195371688940:=Nat
def tw9484429395795307396:=Nat
def tw12455764816768075424:=Nat
def tw8210357839456408744:=Nat
def tw2323153787274854767:=Nat
def tw17122339398224862346:=Nat
def tw14793920411885636519:=Nat
def tw4011141669489058613:=Nat
def tw297457084990629543:=Nat
def tw11486759780247048849:=Nat
def tw14760287120222663944:=Nat
def tw9521696427818022153:=Nat
def tw9832325768874576527:=Nat
def tw479110471230964583:=Nat
def tw13043109442057019867:=Nat
def tw12556151329747366336:=Nat
def tw6108466856144612223:=Nat
def tw4166468377786903286:=Nat
def tw11931820310993371170:=Nat
def tw3515488236327321934:=Nat
def tw3406399593505818322:=Nat
def tw17356673304023452022:=Nat
def tw4333460706527715207:=Nat
def tw4079843159459067803:=Nat
def tw3100836944721735577:=Nat
def tw7806178860558291570:=Nat
def tw12353549847182459306:=Nat
def tw15644884423640307074:=Nat
def tw2544743233435175519:=Nat
def tw833223436990937392:=Nat
def tw15964180646529325680:=Nat
def tw2067929556546911817:=Nat
def tw12517898116122389854:=Nat
def tw625515442412070029:=Nat
def tw16193320020494925846:=Nat
def tw286263552645130361:=Nat
def tw2418795638104639707:=Nat
def tw14787201133059179179:=Nat
def tw15424897718271053250:=Nat
def tw15812538137303873293:=Nat
def tw7672283609431433500:=Nat
def tw5153954032199803776:=Nat
def tw1348170121643729323:=Nat
def tw3564439155306721640:=Nat
def tw4979935733359174693:=Nat
def tw11656087316994680032:=Nat
def tw10561689750606083795:=Nat
def tw2740367305498983316:=Nat
def tw9066340683033423104:=Nat
def tw1556992477747449370:=Nat
def tw17850990379990102318:=Nat
def tw11875573585492718200:=Nat
def tw11670485943894939938:=Nat
def tw993211283688857490:=Nat
def tw12812581901810832904:=Nat
def tw17095212050578760067:=Nat
def tw14169393387144234119:=Nat
def tw4229164334907709434:=Nat
def tw3043544687930485897:=Nat
def tw9966177212760321144:=Nat
def tw17564858762853609134:=Nat
def tw13261557135264386414:=Nat
def tw11679695225718590683:=Nat
def tw4253019895357225748:=Nat
def tw322686796040763514:=Nat
def tw2492622327433919771:=Nat
def tw1936194230936271769:=Nat
def tw13295012080771651371:=Nat
def tw5510879839308300524:=Nat
def tw6432277143379963683:=Nat
def tw6243896779886346621:=Nat
def tw15000971466139595484:=Nat
def tw3196318656568733048:=Nat
def tw16149802017646802307:=Nat
def tw9758179904429325015:=Nat
def tw7073791544027516367:=Nat
def tw6647517993531657938:=Nat
def tw18228371604831018695:=Nat
def tw14450893777892871497:=Nat
def tw16901394772761978719:=Nat
def tw15200452205510738976:=Nat
def tw2004888275541644427:=Nat
def tw8234271493298404285:=Nat
def tw11279170355762536957:=Nat
def tw9248225058862021295:=Nat
def tw4026801360525206330:=Nat
def tw7929475020252679703:=Nat
def tw1015700886931955540:=Nat
def tw14378691416526895935:=Nat
def tw10269213823604420353:=Nat
def tw13088169241596553877:=Nat
def tw16481070297975126698:=Nat
def tw1443940487469834213:=Nat
def tw1725863052883187191:=Nat
def tw5656091749588402919:=Nat
def tw705655149593433214:=Nat
def tw10009633967597722878:=Nat
def tw15307343924780137512:=Nat
def tw827306874709645180:=Nat
def tw14194075314404027495:=Nat
def tw9627897979000970387:=Nat
def tw7526123253153619963:=Nat
def tw7149995147592463881:=Nat
def tw13145981416725261633:=Nat
def tw6176516157659022383:=Nat
end PySem.W.Fast
open PySem PySem.W PyProof.Rows L2 Lw
set_option maxRecDepth 100000 in
set_option maxHeartbeats 0 in
theorem PySem.Challenge.cw_liftwave_k60_whole_beginnings_holds : PySem.Challenge.rw_liftwave_k60_whole_beginnings.Holds := by
 w_on;o_law;k_head;(case hw=>w_witness2)
 k_fill
 refine L2.NH (k:=13) (l:=PySem.Challenge.rw_liftwave_k60_whole_beginnings) (c:=560) (T:=556) (pos:=⟨343,4,344,49⟩) (q := "enough.<locals>.fits") rfl rfl ⟨rfl,by decide,by decide⟩ (λw h σ=>⟨PySem.W.km_in_of σ,PySem.W.km_tabs_of σ _ AF⟩) (λw h X=>uw X (by k_is) (by rfl) (by decide)) (λw=>by kernel_rfl) ?F
 case F=>
  intro w mg fa h X G ϟ;have B:L2.bT mg:=⟨⟨mz X G,mz X G,mz X G,mz X G,mz X G,mz X G,mz X G,mz X G,mz X G,mz X G,mz X G,mz X G⟩,mz X G,mz X G,mz X G,mz X G,mz X G,mz X G,mz X G,mz X G,mz X G,mz X G⟩
  have KV:=L2.bQ.of2 X (by simp only[mY,BQ,D.ZJ,Q4,HH,GV,Bool.false_or,Jx,Ct,false_implies,implies_true,and_true];and_intros<;>kit_is);have cq:=Y1 (c := "Walk") (ns:=Lw.bu) X (hn:=by simp only[Lw.bu,BQ];exact⟨by k_is,by k_is,by k_is,by k_is,by k_is,λ_ h=>by cases h⟩) (h1:=by decide +kernel) (h2:=by decide);have cN:=Y1 (c := "Reader") (ns:=Lw.bK) X (hn:=by simp only[Lw.bK,BQ];exact⟨by k_is,by k_is,by k_is,λ_ h=>by cases h⟩) (h1:=by decide +kernel) (h2:=by decide);have Rl:∃t,mg "HALF"=some (.int 0 t):=⟨_,mv X G⟩
  have Rk:∃t,mg "LEFT"=some (.int 1 t):=⟨_,mv X G⟩
  have MC:∃t,mg "RIGHT"=some (.int 2 t):=⟨_,mv X G⟩
  have U3:∃t,mg "ADD"=some (.int 3 t):=⟨_,mv X G⟩
  have MB:∃t,mg "SHIFT"=some (.int 4 t):=⟨_,mv X G⟩
  have vW:∃t,mg "MOST_LIFTS"=some (.int 6 t):=⟨_,mv X G⟩
  have zX:∃t,mg "ASKS"=some (.int 0 t):=⟨_,mv X G⟩
  have k7:∃t,mg "START"=some (.int 1 t):=⟨_,mv X G⟩
  have ui:∃t,mg "END"=some (.int 2 t):=⟨_,mv X G⟩
  have zU:∃t,mg "SPAN"=some (.int 3 t):=⟨_,mv X G⟩
  have rP:∃t,mg "WAKING"=some (.int 0 t):=⟨_,mv X G⟩
  have kB:∃t,mg "WAKING_FIRST"=some (.int 1 t):=⟨_,mv X G⟩
  have zV:∃t,mg "SIGN"=some (.int 2 t):=⟨_,mv X G⟩
  have rR:∃t,mg "FIGURE"=some (.int 3 t):=⟨_,mv X G⟩
  have zW:∃t,mg "HIGH"=some (.int 0 t):=⟨_,mv X G⟩
  have zT:∃t,mg "WIDE"=some (.int 1 t):=⟨_,mv X G⟩
  have rQ:∃t,mg "LEVELS"=some (.int 2 t):=⟨_,mv X G⟩
  have Rj:∃t,mg "PLANES"=some (.int 3 t):=⟨_,mv X G⟩
  have xX:∃t,mg "LADDER"=some (.int 4 t):=⟨_,mv X G⟩
  have ⟨vV,Tz,kC⟩:=ą (w:=w) X G (by k_is) (by k_is) (by k_is) (by k_is) (by k_is) (by k_is) (by k_is) (by k_is) (by k_is) (by k_is) (by k_is) (by k_is) (by k_is) (by k_is) (by k_is);have D1:=fj (x := "is_number") (st:=Lw.ka) X G;have D2:=fj (x := "plus") (st:=Lw.zb) X G;have D3:=fj (x := "minus") (st:=Lw.u6) X G;have D4:=fj (x := "times") (st:=Lw.u5) X G;have D5:=fj (x := "halved") (st:=Lw.qD) X G;have D6:=fj (x := "breadth") (st:=Lw.nR) X G;have D7:=fj (x := "broadest") (st:=Lw.jm) X G;have D8:=fj (x := "holds") (st:=Lw.u_) X G;have D9:=fj (x := "is_lift") (st:=Lw.kN) X G;have D10:=fj (x := "is_ladder") (st:=Lw.ia) X G;have D11:=fj (x := "ladder_of") (st:=Lw.j_) X G;have D12:=fj (x := "neighbours") (st:=Lw.ji) X G;have D13:=fj (x := "lifted_places") (st:=Lw.fV) X G;have D14:=fj (x := "gain") (st:=Lw.zd) X G;have D15:=fj (x := "raised") (st:=Lw.qC) X G;have D16:=fj (x := "gain_span") (st:=Lw.kb) X G;have D17:=fj (x := "lowered_spans") (st:=Lw.fU) X G;have D18:=fj (x := "is_row") (st:=Lw.mJ) X G;have D19:=fj (x := "is_picture") (st:=Lw.gm) X G;have D20:=fj (x := "change_rows") (st:=Lw.iE) X G;have D21:=fj (x := "change_columns") (st:=Lw.ez) X G;have D22:=fj (x := "laid") (st:=Lw.zc) X G;have D23:=fj (x := "opened_by") (st:=Lw.j7) X G;have D24:=YZ (x := "opened_spans") (st:=Lw.gK) X G;have D25:=fj (x := "thinned") (st:=Lw.kM) X G;have D26:=fj (x := "part_of_one") (st:=Lw.iA) X G;have D27:=fj (x := "calm_span") (st:=Lw.kc) X G;have D28:=fj (x := "signed_span") (st:=Lw.iz) X G;have D29:=fj (x := "figured_span") (st:=Lw.gL) X G;have ţ:=Y0 (c := "Walk") (q := "Walk.__init__") (st:=Lw.fX) X G;have ⟨D30,Xn⟩:=ţ;have D31:=m_ (m := "turn") (q := "Walk.turn") (st:=Lw.kg) X cq;have D32:=m_ (m := "is_whole") (q := "Walk.is_whole") (st:=Lw.fW) X cq;have D33:=m_ (m := "asked") (q := "Walk.asked") (st:=Lw.jo) X cq;have D34:=m_ (m := "spans") (q := "Walk.spans") (st:=Lw.jn) X cq;have D35:=m_ (m := "follow") (q := "Walk.follow") (st:=Lw.iF) X cq;have D36:=m_ (m := "take") (q := "Walk.take") (st:=Lw.kh) X cq;have D37:=m_ (m := "walk_awake") (q := "Walk.walk_awake") (st:=Lw.eZ) X cq;have D38:=m_ (m := "wake") (q := "Walk.wake") (st:=Lw.kf) X cq;have D39:=m_ (m := "calm") (q := "Walk.calm") (st:=Lw.ki) X cq;have D40:=fj (x := "followed") (st:=Lw.lV) X G;have D41:=fj (x := "heights_of") (st:=Lw.gn) X G;have D42:=fj (x := "planes_of") (st:=Lw.j6) X G;have D43:=fj (x := "answer") (st:=Lw.qE) X G;have D44:=fj (x := "told") (st:=Lw.za) X G;have D45:=fj (x := "level_of") (st:=Lw.lS) X G;have D46:=fj (x := "places") (st:=Lw.mI) X G;have D47:=fj (x := "is_part") (st:=Lw.nQ) X G;have D48:=fj (x := "is_head") (st:=Lw.kO) X G;have D49:=fj (x := "head_places") (st:=Lw.iD) X G;have D50:=fj (x := "walk_of") (st:=Lw.nO) X G;have D51:=YZ (x := "coded") (st:=Lw.pG) X G;have D52:=fj (x := "sheet_of") (st:=Lw.jh) X G;have D53:=fj (x := "level") (st:=Lw.u7) X G;have Ţ:=Y0 (c := "Reader") (q := "Reader.__init__") (st:=Lw.e8) X G;have ⟨D54,RW⟩:=Ţ;have D55:=m_ (m := "feed") (q := "Reader.feed") (st:=Lw.iI) X cN;have D56:=m_ (m := "many") (q := "Reader.many") (st:=Lw.iH) X cN;have D57:=m_ (m := "is_whole") (q := "Reader.is_whole") (st:=Lw.e7) X cN;have D58:=m_ (m := "spans") (q := "Reader.spans") (st:=Lw.gO) X cN;have D59:=m_ (m := "seen") (q := "Reader.seen") (st:=Lw.iG) X cN;have D60:=fj (x := "broad") (st:=Lw.pH) X G;have D61:=fj (x := "least") (st:=Lw.u9) X G;have D62:=fj (x := "enough") (st:=Lw.gM) X G;have D63:=fj (x := "_law_cell_at") (st:=Lw.iC) X G;have D64:=fj (x := "_law_whole") (st:=Lw.j8) X G;have D65:=fj (x := "_law_lift") (st:=Lw.lU) X G;have D66:=fj (x := "_law_ladder") (st:=Lw.gk) X G;have D67:=fj (x := "_law_cells") (st:=Lw.h_) X G;have D68:=fj (x := "_law_picture") (st:=Lw.fI) X G;have D69:=fj (x := "_law_stream") (st:=Lw.gj) X G;have D70:=fj (x := "_law_span") (st:=Lw.lT) X G;have D71:=fj (x := "_law_sheet") (st:=Lw.j9) X G;have D72:=fj (x := "_law_copy") (st:=Lw.jl) X G;have D73:=fj (x := "_law_numbers") (st:=Lw.iB) X G;have D74:=fj (x := "_law_read") (st:=Lw.jj) X G;have D75:=fj (x := "_law_greatest") (st:=Lw.eY) X G;have D76:=fj (x := "_law_enough") (st:=Lw.jk) X G;have Ď:=fj (x := "law") (st:=Lw.L1) X G;have g_:=XD (c := "TooMany") X;have XF:=XD (c := "NoHead") X;have Vj:=XD (c := "NoLadder") X;have uH:=XD (c := "NoBits") X;have Xh:=XD (c := "NoLevel") X;have Ua:=XD (c := "NoPicture") X;have M2:=dxm X g_ g_ (by first |k_is |kts_exm |kernel_rfl);have n_:=Go X G g_;have Tc:=ZZ (x := "least") X G;have Mo:=ZZ (x := "level") X G;have f7:=ZZ (x := "lowered_spans") X G;have rn:=ZZ (x := "raised") X G
  cases ϟ.symm.trans Ď.here
  refine Ys Ď (λs v=>.of_eq rfl) λb KB GB BB=>?_
  have N5:=Qz KB GB g_ (by first |k_is |kts_exm |kernel_rfl);have RV:=Qz KB GB uH (by first |k_is |kts_exm |kernel_rfl);generalize Ln PySem.Challenge.rw_liftwave_k60_whole_beginnings=P;have fM:=q9 P w b D63 B KV;have yk:=vv P w b D67 B KV fM;have sZ:=qY P w b D68 B KV yk fM;have G2:=xC P w b D65 B KV;have wb:=sI P w b D66 B KV fM G2;have jx:=xD P w b D72 B KV;have pX:=QJ P w b D8 B KV;have kG:=vx P w b D1 B KV;have RJ:=Nv P w b D18 B KV kG;have wc:=sM P w b D19 B KV Tz pX RJ;have yl:=vw P w b D11;have NX:=zy P w b D9 B KV vV kG pX;have oV:=vy P w b D10 B KV vW NX;have uA:=zx P w b D47 B KV kC kG pX;have oq:=zw P w b D25 B KV;have v_:=sE P w b D12 B KV;have jI:=n6 P w b D13 B KV v_;have W4:=S_ P w b D14 B KV MB U3 Rk MC;have yg:=Nt P w b D15 B KV Rl jI W4;have TZ:=QG P w b D3 B KV;have W2:=S8 P w b D2 B KV;have TY:=QF P w b D4 B KV;have RK:=Nw P w b D5 B KV;have ym:=vz P w b D16 B KV MB Rk MC U3 W2 TY RK;have jH:=n0 P w b D17 B KV Rl jI TZ ym;have lH:=rg P w b D20 B KV rn f7 yg jH;have i0:=mS P w b D21 B KV rn f7 yg jH;have W3:=S9 P w b D22 B KV rn oq lH i0;have E':=xy P w b D45 B KV Mo;have yi:=Nu P w b D46 B KV Mo E';have ni:=sN P w b D41 B KV;have yh:=vq P w b D42 B KV ni;have oW:=vA P w b D27 B KV;have oY:=vC P w b D31 B KV cq;have jJ:=n8 P w b D30 Xn B KV cq rP oW oY;have f_:=n7 P w b D32 B KV cq;have RM:=Ny P w b D43 B KV rR zV k7 zX ui;have wg:=sQ P w b D33 B KV cq;have nj:=lW P w b D37 B KV cq rR k7 ui;have r_:=pf P w b D29 B KV;have sX:=qW P w b D28 B KV Tc;have sY:=qX P w b D26 B KV ui k7;have oX:=vB P w b D38 B KV cq zV rP kB k7 ui zU sY;have yn:=vF P w b D39 B KV cq kB rP zX k7 ui oW oX;have oZ:=vE P w b D36 B KV cq rR zX zV zU nj r_ sX oX yn oY;have W1:=S7 P w b D44 B KV cq jJ ni f_ RM wg oZ;have we:=QK P w b D51 B KV rQ wc yl oV uA W3 yi yh W1;have ik:=vt P w b D64 B KV;have wa:=sG P w b D69 B KV ik;have NY:=zA P w b D48 B KV xX kC uA oV;have lI:=rh P w b D35 B KV cq f_ oZ;have J':=xE P w b D40 B KV cq jJ lI;have oo:=zu P w b D50 B KV Rj zW zT J';have il:=lY P w b D54 RW B KV cN NY oo;have lK:=rk P w b D55 B KV uH RV g_ N5 cq cN lI oo;have td:=rj P w b D56 B KV cN;have nq:=lX P w b D57 B KV cq cN f_;have lF:=qZ P w b D73 B KV cN td nq ik;have yj:=vr P w b D23 B KV oq i0 lH;have rZ:=pa P w b D24 B KV f7 yj;have s_:=q_ P w b D49 B KV zW zT rQ yi;have EX:=xx P w b D52 B KV zT zW s_;have MO:=QH P w b D53 B KV xX rQ pX oq rZ EX;have nk:=sP P w b D34 B KV cq zU ui k7;have sd:=ph P w b D58 B KV cq cN nk;have lJ:=ri P w b D59 B KV cN MO sd;have Gs:=xA P w b D70 B KV ik;have kF:=vu P w b D71 B KV Gs;have l9:=xB P w b D74 B KV n_ (BQ.mpr ⟨M2 _ (AM.mpr rfl),(λ_ h=>by cases h)⟩) cN il lK lF lJ kF jx;have r9:=pe P w b D75 B KV;have NZ:=zB P w b D6 B KV;have K':=xF P w b D7 B KV NZ;have MP:=QL P w b D60 B KV cq nk oo K' MO;have lG:=rf P w b B KV MP;have T2:=QI P w b D61 B KV lG;have RL:=Nx P w b D62 rfl (uw KB (by k_is) (by rfl) (by decide)) BB B KV lG T2;have jw:=sJ P w b D76 B KV r9 MP ik RL;exact Wa P w b Ď B KV cN fM sZ wb jx we wa l9 il lK lJ lF jw