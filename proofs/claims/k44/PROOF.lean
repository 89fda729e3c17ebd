import PyProof.Rows.All
import Wide.All
import OpenK.AllK
import PySem.Challenge.RW_liftwave_k44_whole_no_better
open Array renaming length_toList->DR,getElem?_toList->EL,toList_append->FP,getElem?_eq_getElem->Gi,size_append->Gy,empty_append->Hg,append_empty->Hh,append_assoc->Hi,toList->IP
open Bool renaming false_ne_true->AL,true_and->Cq,eq_iff_iff->CU,false_eq_true->C6,and_eq_true->Ds,not_true->Er,not_false->EZ,false_and->E5,and_true->Fs,or_eq_true->Io,or_false->IN,true_or->Jg
open Classical renaming skolem->GZ,not_not->Km,em->Ko,byContradiction->Kp
open False renaming elim->A8
open ForInStep renaming yield->G5
open Function renaming comp_def->Bx,comp->KD
open Iff renaming rfl->Jy
open Int renaming toNat_natCast->AQ,le_refl->Ba,mul_le_mul_of_nonneg_right->Bw,mul_le_mul_of_nonneg_left->Bz,toNat_of_nonneg->BW,mul_left_comm->CH,zero_add->Dj,mul_assoc->Dr,mul_comm->DY,le_ediv_iff_mul_le->EK,mul_nonneg->Fi,neg_mul->FE,neg_le_neg->FX,add_mul->FZ,ediv_nonneg->Gf,fdiv_eq_ediv_of_nonneg->Gp,neg_neg->GK,eq_ofNat_of_zero_le->GN,pow_pos->Hd,mul_pos->He,ediv_emod_unique->Hf,emod_lt_of_pos->HH,toNat->Il,lt_or_le->Im,emod_nonneg->Ix,natAbs_neg->IM,one_mul->Jf,pow_succ->Ju,ofNat_lt->Jv,le_of_lt->Jw,ediv_one->Jx,sub_mul->JH,mul_one->JI,mul_neg->JJ,natAbs->J4
open List renaming getElem?_eq_some_iff->Ab,getElem?_eq_getElem->Ad,mem_of_getElem?->Ai,getD_eq_getElem?_getD->Aj,replicate->An,length_map->Au,mem_cons_of_mem->Aw,getElem?_set_self->Ax,size_toArray->Ay,mem_cons_self->Az,mem_append->AB,nodup_cons->AD,range->AE,length_append->AF,getElem?_map->AH,mem_cons->AJ,getElem?_set_ne->AK,take_succ_eq_append_getElem->AO,length_cons->AR,getElem?_append_left->AW,nodup_append->AY,mem_singleton->A3,map_map->A9,map_append->A_,getElem?_append_right->Bb,forall_mem_singleton->Bc,mem_map->Bf,getElem?_eq_none->Bg,length_set->Bi,append_nil->Bj,forall_mem_append->Bl,mem_append_right->Bn,Nodup->Bo,length_replicate->Bs,map->BA,take_length->BC,length_take->BD,getElem_mem->BH,take_of_length_le->BI,map_cons->BJ,mem_range->BK,length_singleton->BM,getElem?_cons_succ->BN,dropLast_concat_getLast->BO,length_reverse->BQ,forall_mem_cons->BU,foldl_cons->BV,getElem?_reverse->B4,map_congr_left->B8,lookup->B9,getElem?_zip_eq_some->Ce,append_assoc->Cf,getElem?_take_of_lt->Ci,filterMap_cons_some->Cj,map_reverse->Ct,lookup_cons->Cu,getLastD_concat->CB,getElem?_of_mem->CC,set_cons_succ->CD,nodup_nil->CF,mem_replicate->CG,cons_append->CM,filterMap_cons_none->CN,take_append_drop->CS,length_range->CT,getElem?_replicate->CZ,set_cons_zero->C5,dropLast_concat->C9,mem_filter->Dg,length_nil->Dh,mem_reverse->Dq,foldl_append->Dz,flatMap_cons->DB,mem_iff_getElem?->DM,pairwise_cons->DP,map_replicate->DQ,not_mem_nil->DW,length_drop->DX,mem_of_mem_take->Ed,mem_append_left->Ee,pairwise_map->Ej,ext_getElem?->Ep,sum_append->Ex,reverse_append->Ey,range_succ->Ez,filterMap_cons->EA,append_inj'->EF,zip_cons_cons->EI,pairwise_append->EY,take_add_one->Fd,reverse_cons->Fe,of_mem_zip->Ff,nil_append->Fg,getElem?_set->Fh,replicate_succ->Fo,getElem?_drop->Fu,filterMap_map->Fv,any_eq_true->Fy,take_sublist->FD,eraseIdxIfInBounds_toArray->FK,length_zip->FV,length->FW,nodup_iff_pairwise_ne->Gg,pairwise_iff_getElem->Go,all_eq_true->Gx,getElem?_cons_zero->GF,range_succ_eq_map->GI,pairwise_lt_range->GJ,mem_iff_getElem->G4,flatMap_append->Hc,sum_singleton->Hu,mem_filterMap->Hv,foldl->Hw,flatten_cons->HG,mem_flatten->HN,filter_cons->HP,ext_getElem->HQ,sum_cons->Ik,foldl_nil->Iw,map_take->IK,map_drop->IL,map_set->Jd,map_nil->Je,map_id->K3
open List.Pairwise renaming imp_of_mem->DH,nil->EJ,imp->Gh,map->Jt
open List.Sublist renaming append->Di,refl->DG,cons₂->FY
open List.cons renaming inj->EN,injEq->Kl
open Nat renaming le_refl->Ah,lt_of_lt_of_le->AV,ne_of_lt->Bm,zero_le->Br,le_trans->Bv,lt_irrefl->B3,le_add_right->CQ,mul_le_mul_left->C8,testBit_eq_decide_div_mod_eq->Dc,mul_le_mul->Dd,add_mul->DF,not_lt_zero->DV,mul_mod_left->Eh,lt_or_ge->Ev,le_of_lt->Ew,sub_self->EX,pow_pos->Fb,pow_le_pow_right->Fc,reduceAdd->Ft,zero_add->FJ,ne_of_gt->Gd,min_eq_left->Ge,mul_comm->GY,div_lt_iff_lt_mul->G3,mul_pos->Ha,mul_le_mul_right->Hb,and_one_is_mod->HF,lt_succ_of_lt->HM,zero_mul->Ie,lt_succ_self->Ig,lt_of_not_le->Ih,le_of_eq->Ii,add_zero->Ij,two_pow_pos->Iu,div_add_mod->Iv,le_succ->Jc,succ_mul->Jq,pow_succ->Jr,add_comm->Js,mul_add->JG
open Ne renaming symm->Be
open Option renaming map_some->Gc,map_eq_some_iff->Gw,none->IJ,getD_none->Jp
open Option.some renaming inj->A6,injEq->J3
open Or renaming inl->Ar,inr->Fm
open Prod renaming ext->Ir
open Prod.mk renaming injEq->K2
open PyProof renaming noPylong_small->Eu
open PyProof.Rows renaming callWith_type1->A7,IsTupIter->By,boot_list->BL,envOfC->B_,boot_isinstance->Cz,boot_reversed->Du,AllBare->Dy,slot_tuple_getitem->DD,slot_tupleiter_next->Ef,IsTup->ED,IntsAre->EE,boot_tuple->FI,boot_zip->FU,getItem_tuple->GV,Subscript_->GW,Call_->GX,subscriptTail_builtinR->HD,len_tuple->HE,iadd_int->HL,entry_tupleiter_next->Ia,boot_max->Ib,boot_all->Ic,args_tupleiter_next->Iq,boot_range->II,join_list->JB,isub_int->JC,callWith_builtin1->JD,boot_int->JE,boot_bool->JF,tail_any->J1,boot_sum->J2,isTrue_plain->Kk,iter_tuple->K0,isTrue_and->K1
open PyProof.Rows.IsTup renaming typeIs->EW
open PySem renaming Value->Aa,Addr->Ac,wpAny_bind->Ae,Shared->Af,FuncData->Ak,Str->Al,mainGlobals->Am,starEach->Av,Program->AA,wpAny->AI,sizeLine->AM,wpAny_pure->AN,World->AT,Around->AU,Stmt->AZ,boot_len->Bh,wpAny_truthy_bool->Bt,wpAny_field->Bu,wpAny_Call_Name_kw->BE,Scope->BG,bindArgs->BP,wpAny_callSpecial?_slot->BR,backTo->BY,compareOp->BZ,Obj->B5,wpAny_mono->B6,rawInt->B7,codeAny_mono->Cc,codeAny->Cd,Builtin->Ch,wpAny_seqItems->Ck,wpAny_call_entry->Cm,Arguments->Cp,sizeLine_eq->Cr,wpAny_passesOwn->Cv,typeLookup_type->Cw,binaryOp->Cy,builtinLookup_eq_fast->CI,wpAny_newObj_type->CJ,sliceBounds->CL,callerA->CO,behindInMarks->C3,wpAny_setField_rec->C_,sliceRange->Db,wpAny_of_eq->Dk,Pos->Dt,isSubtype_type->Dv,bootBuiltins->Dw,call_meets->DI,Env->DU,wpAny_specialOf->D_,wpAny_setField->Es,closureFor->Et,holding->EC,wpAny_attempt->EG,wpAny_pyIter_zip->EO,wpAny_isInstance->EQ,NameKind->EU,wpAny_call->E6,sysModules->E7,builtinsNs->E8,assignEach->E9,wpAny_updateSeq->Fj,wpAny_execs_nil->Fk,keywordEach->Fw,firstArgMember->Fx,getMethod->Fz,BindsTo->FC,wpAny_holding->FL,attributeBase->FM,wpAny_pyIter_range->FQ,typeLookup->FR,pyNext->FS,standAt->F6,slot_list_getitem->F7,relabel->F8,foldedSetIterable->F9,Operator->Ga,cellsFrom->Gj,Result->Gm,DictEntry->Gn,CmpOp->Gv,wpAny_ite_split->Gz,letOwnedTupleGo->GA,wpAny_rule->GO,fitsIndex_both->GP,backToKw->GQ,assign->GR,wpAny_letOwnedTupleGo_zip->G0,wpAny_standAt->G6,wpAny_onRaise->G7,wpAny_getItem_list_slice->G8,wpAny_comprehension_free->G9,swapsWith->Hk,slicePick->Hl,seqIndex?->Hm,wpAny_pyNext_range_end->Hx,wpAny_pyIter_rangeiter->Hy,pyIter->Hz,argsOk->HA,wpAny_isTrue_Compare1->HI,wpAny_newFunctionEnv->HR,wpAny_loadName_local->HS,seqIndex_of->HU,compEnvC->HV,callWith->HW,bindL->HX,bindC->HY,GenState->H_,wpAny_loadName_cell->Ip,wpAny_Name->Iy,typeIs_int->Iz,wpAny_pyIter_list->IQ,wpAny_assign_Name->IS,getItem->IT,Sem->IZ,Model->I_,ItemsOf->Ja,wpAny_execs_cons->Jh,storeName->Ji,inplaceOp->Jj,entryFor_of_tree->Jk,codeAmong->Jl,recursionLimit->JK,newFunctionEnv->JL,isSubtype_stop->JM,findBy->JN,entryFor->JO,codeAmong_snoc->JP,TriplesOk_snoc->JS,Params->JT,OldK->JU,IsPart->JV,DefRec->JX,wpAny_handled->J5,signature?_of->J6,nums_intItems->J7,intBits_le_64->J8,call_list_seq->J9,setItem->Kb,getAttr->Kc,Keyword->Kh,wpAny_throw->Kq,wpAny_letGo->Kr,wpAny_Slice->Ks,subscripted->Kt,Tok->Ku,Meets->Kx,IsRangeIter->KA,typeIs_str->KH,truthy->KI,strKind_is->KJ,revObj->KL,newExc->KN,cellOf->KO,Slot->KS,PlainAttrs->KU,IsPair->KY
open PySem.Around renaming frames_deeper->GH
open PySem.AutoListH renaming list___mul___list_int_3->Kj
open PySem.AutoSeq1 renaming list_insert_list_int_val_1->KC
open PySem.BindsTo renaming of_eq->KZ
open PySem.Builtin renaming bitNot->BF,bitAnd->BS,bitOr->Dn
open PySem.Builtin.Int renaming intBits->Dp,intTooBig->JZ
open PySem.Builtin.List renaming listTooLong->BX,listSameRef->FA,listLengthHint->Jz,listExtendWith->JA
open PySem.Builtin.Range renaming rangeSize->AS,small->C7,rangeFitsLong->Fl
open PySem.Builtin.SmallTypes renaming newClass->EH,nextOf->EV,newRecord->HK
open PySem.Builtin.Str renaming strSliceIndices->Cg
open PySem.Calls renaming Name_function_global->Gb,callWith_builtin->GD,spliced_cons->G_,spliced_nil->Ht
open PySem.CmpOp renaming NotIn->Jb,In->JY
open PySem.Data renaming fields->G1,cell->HJ
open PySem.DictEntry renaming refKey->Ki
open PySem.Expr renaming Call->JW
open PySem.F renaming plainAttrs_list->Bd,type_list_pop->FN,slot_list_pop->FO
open PySem.Heap renaming get?_push_of_some->Ag,get?_push_size->Aq,lt_size->AX,get?_update_self->Co,get?_update_other->CK,size_push->Dm
open PySem.IsRange renaming new->GC
open PySem.ItemsOf renaming nil->KW
open PySem.Manifest renaming find?->Hs,sig_reversed->Ky,owners->Kz
open PySem.MeetsSeq renaming list_pop_last->Kv,list_pop_at->Kw
open PySem.NameKind renaming free->Bq,cell->ET
open PySem.Obj renaming mapSeq->Cn,data_mapFields->CY,isFreed_of_fields->ES
open PySem.PassesOwn renaming never->AG
open PySem.PyData renaming keyHash->EM
open PySem.SeqAt.EqAt renaming str_int->J_,int_str->Ka
open PySem.Shared renaming heap->IH
open PySem.Str renaming ofString->Bp,empty->GG,append_empty->HZ,join->IG
open PySem.Txt renaming slice->Dx,join->FH
open PySem.Value renaming ref->Bk,int->DN,isStrOf->Eg,type->EB,none->Fp,bool->Fq,str->Gu,float->GU,bytes->IY
open PySem.W renaming Frag->Ap,kia_one->CP,nsIn->C4,emptyDict->Dl,fnOf->DC,keepIn->DJ,findIn->DL,instObj->E_,callWith_K->Fa,codeIn->FT,plainGet->F_,hasDictIn->Gk,plainGet_of->Gq,mg_of->Gr,CodeHd->GS,plainOver->Hn,methodObj->Ho,kitx_list->Hq,kitx_dict->Hr,tabObj->HB,lookIn->IA,km_tabs_of->IB,kitx_tuple->IC,kitOne->ID,callWith_F->IE,takerIn->IV,makesIn->IW,OpenLaw->IX,handedIn->JQ,envX->JR,mapOf_K->Kd,isFn->Ke,binds_K->Kf,KeysLit->Kg,pre_splitW->KP,enter_call->KQ
open PySem.W.Dflts renaming none->Jn,noKw->Jo
open PySem.W.OpenLaw renaming prog->KR
open PySem.W.WData renaming int->HC,weight->IF,list->Jm
open PySem.Walks renaming range->IU
open String renaming reduceBEq->Hj
open Sum renaming inr->FF,inl->FG
open Sum.inl renaming inj->KG
open Sum.inr renaming inj->KE
open True renaming intro->DZ
open Array(length_toList size_append toList_append)
open Bool(and_eq_true false_eq_true)
open Int(lt_or_le mul_assoc mul_left_comm mul_nonneg neg_le_neg neg_mul neg_neg one_mul toNat_natCast toNat_of_nonneg)
open List(all_eq_true any_eq_true append_assoc append_inj' append_nil cons_append dropLast_concat ext_getElem? filterMap_cons filterMap_cons_some flatMap_cons foldl_append foldl_cons forall_mem_append forall_mem_cons forall_mem_singleton getD_eq_getElem?_getD getElem?_append_left getElem?_append_right getElem?_cons_succ getElem?_eq_getElem getElem?_eq_none getElem?_map getElem?_of_mem getElem?_reverse getElem?_set getElem?_set_ne getElem?_set_self getElem?_take_of_lt getElem?_zip_eq_some getElem_mem getLastD_concat length_append length_cons length_drop length_map length_nil length_range length_replicate length_reverse length_set length_singleton length_take length_zip lookup_cons map_append map_congr_left map_cons map_id map_map map_nil map_replicate map_reverse mem_append mem_append_left mem_append_right mem_cons mem_cons_of_mem mem_cons_self mem_filter mem_iff_getElem? mem_map mem_of_getElem? mem_of_mem_take mem_range mem_replicate mem_reverse mem_singleton nil_append nodup_append nodup_cons nodup_nil not_mem_nil of_mem_zip pairwise_cons pairwise_map range_succ reverse_append reverse_cons set_cons_succ set_cons_zero size_toArray sum_append sum_cons take_add_one take_append_drop take_length take_of_length_le take_succ_eq_append_getElem zip_cons_cons)
open Nat(add_zero le_add_right le_of_eq le_of_lt le_succ le_trans lt_irrefl lt_of_lt_of_le lt_or_ge mul_le_mul mul_le_mul_left mul_mod_left ne_of_gt ne_of_lt not_lt_zero sub_self zero_le zero_mul)
open Option(getD_none map_some)
open PySem(boot_len)
open PySem.F(plainAttrs_list slot_list_pop type_list_pop)
open PySem.Heap(get?_push_of_some get?_push_size get?_update_other get?_update_self lt_size size_push)
open PySem.W(Frag KeysLit binds_K callWith_K codeIn emptyDict findIn fnOf handedIn hasDictIn instObj isFn keepIn kia_one kitOne kitx_dict kitx_list kitx_tuple km_tabs_of lookIn makesIn mapOf_K methodObj mg_of nsIn plainGet plainGet_of plainOver takerIn)
noncomputable section
set_option Elab.async false
set_option compiler.extract_closed false
set_option bootstrap.genMatcherCode false
set_option linter.all false
set_option maxRecDepth 100000
set_option hygiene false
local macro_rules |`(tactic|kj_on)=>`(tactic| (intro X hP hw hK hc i pins s Y H E I hf st hg;subst hP hw hK))
set_option hygiene true
namespace L2
open PySem PySem.Spec PyProof.Rows
abbrev vG:=Sum Int Al
noncomputable def Vj:vG->Aa->Bool
 | .inl k,v=>Value.isInt k v
 | .inr x,v=>Eg x v
noncomputable def ú (w:AT):vG->Int
 | .inl k=>hashInt k
 | .inr x=>hashStr w x
theorem c9:∀{k:vG} {v:Aa},Vj k v=true->(∃i t,k=FG i/\v=DN i t)∨(∃x t,k=FF x/\v=Gu x t)
 | .inl i,v,h=>by
  obtain⟨t,e⟩:=Value.isInt_shape h;exact .inl ⟨i,t,rfl,e⟩
 | .inr x,v,h=>by
  obtain⟨t,e⟩:=Value.isStrOf_shape h;exact .inr ⟨x,t,rfl,e⟩
theorem Xi (a b:Int):decide ((FG a:vG)=FG b)=(a==b):=by
 by_cases e:a=b
 .subst e;simp
 .have h:¬ (FG a:vG)=FG b:=λq=>e (KG q)
  rw[decide_eq_false h];exact (beq_eq_false_iff_ne.mpr e).symm
theorem Xf (a b:Al):decide ((FF a:vG)=FF b)=decide (a=b):=by
 by_cases e:a=b
 .subst e;simp
 .have h:¬ (FF a:vG)=FF b:=λq=>e (KE q)
  rw[decide_eq_false h,decide_eq_false e]
theorem Xh (a:Int)(b:Al):decide ((FG a:vG)=FF b)=false:=decide_eq_false (λq=>nomatch q)
theorem Xg (a:Al)(b:Int):decide ((FF a:vG)=FG b)=false:=decide_eq_false (λq=>nomatch q)
noncomputable def u9 (prog:AA)(w:AT):PySem.KeyKind prog w vG where
 is:=Vj
 hash:=ú w
 inj := λv a b ha hb=>by
  rcases c9 ha with⟨i,t,rfl,rfl⟩ | ⟨x,t,rfl,rfl⟩
  .rcases c9 hb with⟨j,u,rfl,e⟩ | ⟨y,u,rfl,e⟩
   .injection e with e1 _;rw[e1]
   .exact nomatch e
  .rcases c9 hb with⟨j,u,rfl,e⟩ | ⟨y,u,rfl,e⟩
   .exact nomatch e
   .injection e with e1 _;rw[e1]
 byValue:=λk v h=>by
  rcases c9 h with⟨i,t,rfl,rfl⟩ | ⟨x,t,rfl,rfl⟩<;>rfl
 pyHash:=λhv h=>by
  rcases c9 hv with⟨i,t,rfl,rfl⟩ | ⟨x,t,rfl,rfl⟩
  .exact wpAny_pyHash_int h
  .exact wpAny_pyHash_str h
 eqBool:=λhu hv h=>by
  rcases c9 hu with⟨i,t,rfl,rfl⟩ | ⟨x,t,rfl,rfl⟩
  .rcases c9 hv with⟨j,u,rfl,rfl⟩ | ⟨y,u,rfl,rfl⟩
   .rw [Xi]at h;exact wpAny_eqBool_int h
   .rw [Xh]at h;exact Ka i t y u _ _ _ _ h
  .rcases c9 hv with⟨j,u,rfl,rfl⟩ | ⟨y,u,rfl,rfl⟩
   .rw [Xg]at h;exact J_ x t j u _ _ _ _ h
   .rw [Xf]at h;exact wpAny_eqBool_str h
 «strs»:=λk x t v h=>by
  rcases c9 h with⟨i,u,rfl,e⟩ | ⟨y,u,rfl,e⟩
  .exact nomatch e
  .injection e with e1 _
   subst e1;cases v<;>rfl
inductive V where
 |cB |bl (b:Bool) |int (i:Int) |str (x:Al) |L1 (b:Array UInt8) |Xv (b:UInt64) |ref (a:Ac) |ty (n:String)
 deriving DecidableEq
def cA:V->Aa->Prop
 | .cB,u=>u=Fp
 | .bl b,u=>u=Fq b
 | .int i,u=>∃t,u=DN i t
 | .str x,u=>∃t,u=Gu x t
 | .L1 b,u=>∃t,u=IY b t
 | .Xv b,u=>∃t,u=GU b t
 | .ref a,u=>u=Bk a
 | .ty n,u=>u=EB n
abbrev bH:List V->List Aa->Prop:=Paired cA
theorem bH.length {xs:List V}{us:List Aa}(r:bH xs us):xs.length=us.length:=Paired.length r
theorem bH.get:∀{xs:List V} {us:List Aa} {i:Nat} {x:V},bH xs us->xs[i]?=some x->∃u,us[i]?=some u/\cA x u
 |_,_,_,_,.nil,e=>by simp at e
 |_,_,0,_,.cons r _,e=>by simp at e;subst e;exact⟨_,rfl,r⟩
 |_,_,i+1,x,.cons _ t,e=>by
  obtain⟨u,h1,h2⟩:=bH.get t e;exact⟨u,h1,h2⟩
theorem bH.set {x:V}{u:Aa}(r:cA x u):∀{xs:List V} {us:List Aa} (i:Nat),bH xs us->bH (xs.set i x) (us.set i u)
 |_,_,_,.nil=>.nil
 |_,_,0,.cons _ t=>.cons r t
 |_,_,i+1,.cons q t=>.cons q (bH.set r i t)
theorem bH.append:∀{xs ys:List V} {us w:List Aa},bH xs us->bH ys w->bH (xs++ys) (us++w)
 |_,_,_,_,.nil,s=>s
 |_,_,_,_,.cons r t,s=>.cons r (bH.append t s)
theorem bH.take:∀{xs:List V} {us:List Aa} (n:Nat),bH xs us->bH (xs.take n) (us.take n)
 |_,_,0,_=>.nil
 |_,_,_+1,.nil=>.nil
 |_,_,n+1,.cons r t=>.cons r (bH.take n t)
theorem bH.drop:∀{xs:List V} {us:List Aa} (n:Nat),bH xs us->bH (xs.drop n) (us.drop n)
 |_,_,0,r=>r
 |_,_,_+1,.nil=>.nil
 |_,_,n+1,.cons _ t=>bH.drop n t
def vB:Option V->Option Aa->Prop
 |some v,some u=>cA v u
 |none,none=>True
 |_,_=>False
def KV {a:Type}:List (a×V)->List (a×Aa)->Prop:=Paired λ(p:a×V) (q:a×Aa)=>p.1=q.1/\cA p.2 q.2
noncomputable def kV:vG->V
 | .inl i=>.int i
 | .inr x=>.str x
inductive HO where
  |lst (xs:List V)
  |tup (xs:List V)
  |dK (Y1:List (vG×V)) |dT (Y1:List (List vG×V))
  |set (S:Int->Bool) (n:Nat)
  |ins (C dx:Ac) (fs:List (Al×V))
  |own (x:Ac)
  |xd (fs:List (Al×V))
  |met (f x:Ac)
  |vF (lo hi:Int)
  |eh (o:B5) (u:HO)
  |V7 (ps:Array Aa)
 |kG (p:Dt) (q:Al)
  |ext (φ:Heap->Prop)
def kS (o:B5)(q:Al):Prop:=∃vs t,o.data = .fields vs/\vs[1]?=some (.str q t)
def Wy (u:HO):Prop:=(∃xs,u = .tup xs)∨∃o c q,u = .eh o (.own c)/\kS o q
abbrev Hp:=Ac->Option HO
noncomputable def cP (H:Hp)(a:Ac)(o:HO):Hp:=λb=>if b=a then some o else H b
theorem a0 {H:Hp}{a:Ac}{o:HO}:cP H a o a=some o:=by unfold cP;rw[if_pos rfl]
theorem bI {H:Hp}{a b:Ac}{o:HO}(h:b≠a):cP H a o b=H b:=by unfold cP;rw[if_neg h]
theorem fi {H:Hp}{a b:Ac}{o:HO}(h:H a=some o)(h':H b=none):a≠b:=by
 intro e;subst e;rw[h]at h';cases h'
section
variable (P:AA)(w:AT)
def el (H:Hp)(h:Heap)(a:Ac):HO->Prop
 | .lst xs=>xs.length<=AM/\∃(T:List Aa) (n:Nat),bH xs T/\h.get? a=some {cls:=.type "list",data:=.seq T.toArray n}
 | .tup xs=>xs.length<=AM/\∃T:List Aa,bH xs T/\ED h a T.toArray
 | .dK k=>k.length<=AM/\(a==E7)=false/\∃vs,KV k vs/\h.DictOf (u9 P w) a vs
 | .dT k=>k.length<=AM/\(a==E7)=false/\∃xs:List (List vG×Ac×Aa),
   Paired (λ(p:List vG×V) (q:List vG×Ac×Aa)=>p.1=q.1/\H q.2.1=some (.tup (p.1.map kV))/\cA p.2 q.2.2) k xs/\
   ∃o j l,h.get? a=some o/\o.ExactDict/\o.data = .dict j l/\j.toList=xs.map (entryOfKey (tupleKind (u9 P w)))/\(xs.map (·.1)).Nodup
 | .set S n=>h.SetOf (intKind P w) a S n
 | .ins C e fs=>H e=some (.own a)/\fs.length<=1000/\e≠a/\h.get? a=some (E_ C e)/\
   ∃m,h.Ns1 e m/\(∀f,vB (fs.lookup f) (m f))/\PySem.Within m (fs.map (·.1))
 | .own _=>∃o,h.get? a=some o
 | .xd fs=>∃m,h.Ns1 a m/\∀f,vB (fs.lookup f) (m f)
 | .vF lo hi=>∃t u v,h.get? a=some {cls:=.type "range",data:=.fields #[.int lo t,.int hi u,.int 1 v]}
 | .eh o u=>h.get? a=some o/\el H h a u
 | .V7 ps=>h.get? a=some {cls:=.none,data:=.fields ps}
 | .kG p q=>∃ps:Array Aa,h.get? a=some {cls:=.none,data:=.fields ps}/\TriplesOk ps.toList/\∀v,Jl p ps.toList=some v->∃c O,v = .ref c/\H c=some (.eh O (.own c))/\kS O q
 | .met f x=>h.get? a=some (Ho (.ref f) (.ref x))
 | .ext g=>g h/\(∃o,h.get? a=some o)/\∀h1 h2:Heap,g h1->(∀o,h1.get? a=some o->h2.get? a=some o)->g h2
def kL (H:Hp)(h:Heap):Prop:=∀a o,H a=some o->el P w H h a o
end
section
variable {P:AA}{w:AT}{H H':Hp}{h h':Heap}{a:Ac}{o:HO}
theorem el.lt (x:el P w H h a o):a<h.objs.size:=by
 cases o with
 |lst xs=>obtain⟨_,_,_,_,e⟩:=x;exact AX e
 |tup xs=>obtain⟨_,_,_,p⟩:=x;exact p.lt
 |dK k=>obtain⟨_,_,_,_,o,_,_,e,_⟩:=x;exact AX e
 |dT k=>obtain⟨_,_,_,_,o,_,_,e,_⟩:=x;exact AX e
 |set S n=>obtain⟨o,_,_,_,e,_⟩:=x;exact AX e
 |ins C g fs=>obtain⟨_,_,_,e,_⟩:=x;exact AX e
 |own y=>obtain⟨_,e⟩:=x;exact AX e
 |xd fs=>obtain⟨_,⟨_,_,_,e,_⟩,_⟩:=x;exact AX e
 |vF lo hi=>obtain⟨_,_,_,e⟩:=x;exact AX e
 |eh ob u=>obtain⟨e,_⟩:=x;exact AX e
 |V7 ps=>exact AX (show h.get? a=some _ from x)
 |kG p q=>obtain⟨_,e,_⟩:=x;exact AX e
 |met f y=>exact AX (show h.get? a=some _ from x)
 |ext c=>obtain⟨_,⟨_,e⟩,_⟩:=x;exact AX e
theorem Paired.YY {e c:Type}{F G:e->c->Prop}:∀{L:List e} {l:List c},Paired F L l->(∀a b,F a b->G a b)->Paired G L l
 |_,_,.nil,_=>.nil
 |_,_,.cons r t,f=>.cons (f _ _ r) (Paired.YY t f)
theorem el.rx (x:el P w H h a o)(k:∀b u,(b=a∨H b=some (.own a))->h.get? b=some u->h'.get? b=some u)
  (Q:∀b,H b=some (.own a)->H' b=some (.own a)) (ht:∀b u,H b=some u->Wy u->H' b=some u):el P w H' h' a o:=by
 induction o with
 |lst xs=>obtain⟨z,T,n,r,e⟩:=x;exact⟨z,T,n,r,k _ _ (.inl rfl) e⟩
 |tup xs=>obtain⟨z,T,r,ob,e,c⟩:=x;exact⟨z,T,r,ob,k _ _ (.inl rfl) e,c⟩
 |dK l=>obtain⟨z,y,vs,r,ob,g,j,e,c⟩:=x;exact⟨z,y,vs,r,ob,g,j,k _ _ (.inl rfl) e,c⟩
 |dT l=>
  obtain⟨z,y,xs,r,ob,g,j,e,c⟩:=x;exact⟨z,y,xs,Paired.YY r λp q z=>⟨z.1,ht _ _ z.2.1 (.inl ⟨_,rfl⟩),z.2.2⟩,ob,g,j,k _ _ (.inl rfl) e,c⟩
 |set S n=>obtain⟨ob,g,j,t,e,c⟩:=x;exact⟨ob,g,j,t,k _ _ (.inl rfl) e,c⟩
 |ins C dx fs=>
  obtain⟨d,z,ne,e,m,⟨O,g,j,B,c⟩,r⟩:=x;exact⟨Q _ d,z,ne,k _ _ (.inl rfl) e,m,⟨O,g,j,k _ _ (.inr d) B,c⟩,r⟩
 |own y=>obtain⟨ob,e⟩:=x;exact⟨ob,k _ _ (.inl rfl) e⟩
 |xd fs=>obtain⟨m,⟨O,g,j,e,c⟩,r⟩:=x;exact⟨m,⟨O,g,j,k _ _ (.inl rfl) e,c⟩,r⟩
 |vF lo hi=>obtain⟨t,u,v,e⟩:=x;exact⟨t,u,v,k _ _ (.inl rfl) e⟩
 |eh ob u L=>obtain⟨e,q⟩:=x;exact⟨k _ _ (.inl rfl) e,L q⟩
 |V7 ps=>
  have e:h.get? a=some {cls:=.none,data:=.fields ps}:=x;show h'.get? a=some {cls:=.none,data:=.fields ps}
  exact k a _ (.inl rfl) e
 |kG p q=>
  obtain⟨ps,e,A,hc⟩:=x;exact⟨ps,k _ _ (.inl rfl) e,A,λv M=>let⟨c,J,U,B,G⟩:=hc v M;⟨c,J,U,ht _ _ B (.inr ⟨_,_,_,rfl,G⟩),G⟩⟩
 |met f y=>
  have e:h.get? a=some (Ho (.ref f) (.ref y)):=x;show h'.get? a=some (Ho (.ref f) (.ref y))
  exact k a _ (.inl rfl) e
 |ext φ=>obtain⟨p,⟨o,e⟩,st⟩:=x;exact⟨st _ _ p λo q=>k _ _ (.inl rfl) q,⟨o,k _ _ (.inl rfl) e⟩,st⟩
theorem kL.lt (x:kL P w H h)(e:H a=some o):a<h.objs.size:=(x a o e).lt
theorem kL.fresh (x:kL P w H h)(e:h.objs.size<=a):H a=none:=by
 cases q:H a with
 |none=>rfl
 |some u=>exact absurd (AV (x.lt q) e) (B3 _)
theorem kL.kept (x:kL P w H h)(k:∀b u,h.get? b=some u->h'.get? b=some u):kL P w H h':=λa o e=>
 (x a o e).rx (λb u _ q=>k b u q) (λ_ q=>q) λ_ _ q _=>q
theorem kL.laid (x:kL P w H h)(k:∀b u,h.get? b=some u->h'.get? b=some u)(p:h.objs.size<=a)(new:el P w (cP H a o) h' a o):kL P w (cP H a o) h':=λb u e=>by
 have hn:=x.fresh p;by_cases B:b=a
 .subst B;rw[a0]at e;cases e;exact new
 .rw [bI B]at e;exact (x b u e).rx (λc v _ q=>k c v q) (λc q=>by rw[bI (fi q hn)];exact q) λc xs q _=>by rw[bI (fi q hn)];exact q
end
def Rd (H:Hp)(a:Ac)(u:HO):Prop:=H a=some u∨∃o,H a=some (.eh o u)
theorem Rd.ok {P:AA}{w:AT}{H:Hp}{h:Heap}{a:Ac}{u:HO}(r:Rd H a u)(x:kL P w H h):el P w H h a u:=by
 rcases r with r | ⟨o,r⟩
 .exact x a u r
 .obtain ⟨_,q⟩:=x a _ r;exact q
def Û:Option HO->Prop
 |some (.lst _)=>True
 |some (.dK _)=>True
 |some (.dT _)=>True
 |some (.set _ _)=>True
 |some (.ins _ _ _)=>True
 |some (.ext _)=>True
 |_=>False
section
variable {P:AA}{w:AT}{H:Hp}{h h':Heap}{x e:Ac}{o':HO}
theorem kL.write (ok:kL P w H h)(mu:Û (H x))(f:e=x∨H e=some (.own x))(k:∀b u,b≠e->h.get? b=some u->h'.get? b=some u)(o:∃u,h'.get? e=some u)
  (new:el P w (cP H x o') h' x o'):kL P w (cP H x o') h':=λb u q=>by
 have n:∀c y,H c=some (.own y)->c≠x:=λc y r z=>by subst z;rw[r]at mu;exact mu
 have t:∀c u,H c=some u->Wy u->c≠x:=λc u r i z=>by subst z;rw[r]at mu;rcases i with⟨_,rfl⟩ | ⟨_,_,_,rfl,_⟩<;>exact mu
 by_cases a:b=x
 .subst a;rw[a0]at q;cases q;exact new
 .rw [bI a]at q;by_cases B:b=e
  .have q':H b=some (.own x):=by
    rcases f with z |z
    .exact absurd (B.trans z) a
    .rw [B];exact z
   rw[q]at q';cases q';obtain⟨v,g⟩:=o;exact⟨v,by rw[B];exact g⟩
  .refine (ok b u q).rx (λc v hc r=>k c v ?_ r) (λc r=>by rw[bI (n c b r)];exact r) λc xs r i=>by rw[bI (t c xs r i)];exact r
   rcases hc with rfl |hc
   .exact B
   .rintro rfl;rcases f with z |z
    .exact n c b hc z
    .rw [hc]at z;cases z;exact a rfl
end
structure Un (fs ex:List Ac) (H H':Hp) (h h':Heap):Prop where
 keep:∀b o,h.get? b=some o->H b=none->b∉fs->b∉ex->h'.get? b=some o
 slot:∀b o,h.get? b=some o->H b=none->b∈fs->b∉ex->∃sl,h'.get? b=some {o with slots:=sl}
 free:∀b o,h.get? b=some o->H b=none->b∉ex->H' b=none
 there:∀b o,h.get? b=some o->b∉ex->∃o',h'.get? b=some o'
 pk:∀b xs,H b=some (.tup xs)->H' b=some (.tup xs)
 l8:∀b o u,H b=some (.eh o u)->H' b=some (.eh o u)
 pq:∀b ps,H b=some (.V7 ps)->∃more,H' b=some (.V7 (ps++more))
section
variable {fs fs' ex ex':List Ac}{H H1 H2:Hp}{h h1 h2 h':Heap}{a x e:Ac}{o:HO}
theorem Un.any (u:Un fs ex H H1 h h1){b:Ac}{ob:B5}(q:h.get? b=some ob)(n:H b=none)(c:b∉ex):∃l,h1.get? b=some {ob with slots:=l}:=by
 by_cases B:b∈fs
 .exact u.slot b ob q n B c
 .exact ⟨ob.slots,u.keep b ob q n B c⟩
theorem Un.trans (a:Un fs ex H H1 h h1)(b:Un fs ex H1 H2 h1 h2):Un fs ex H H2 h h2 where
 keep:=λc ob q n hc hx=>b.keep c ob (a.keep c ob q n hc hx) (a.free c ob q n hx) hc hx
 slot:=λc ob q n hc hx=>by
  obtain⟨sl,e1⟩:=a.slot c ob q n hc hx;obtain⟨ű,e2⟩:=b.slot c _ e1 (a.free c ob q n hx) hc hx;exact⟨ű,e2⟩
 free:=λc ob q n hx=>by
  obtain⟨o',e1⟩:=a.there c ob q hx;exact b.free c o' e1 (a.free c ob q n hx) hx
 there:=λc ob q hx=>by
  obtain⟨o',e1⟩:=a.there c ob q hx;exact b.there c o' e1 hx
 pk:=λc xs q=>b.pk c xs (a.pk c xs q)
 l8:=λc ob xs q=>b.l8 c ob xs (a.l8 c ob xs q)
 pq:=λc ps q=>by
  obtain⟨m1,e1⟩:=a.pq c ps q;obtain⟨m2,e2⟩:=b.pq c _ e1;exact⟨m1++m2,by rw[e2,Hi]⟩
theorem Un.kept (k:∀b u,h.get? b=some u->h'.get? b=some u):Un fs ex H H h h':=
 ⟨λb ob q _ _ _=>k b ob q,λb ob q _ _ _=>⟨ob.slots,k b ob q⟩,λ_ _ _ n _=>n,λb ob q _=>⟨ob,k b ob q⟩,λ_ _ q=>q,λ_ _ _ q=>q,λ_ ps q=>⟨#[],by rw[q];simp⟩⟩
theorem Un.refl:Un fs ex H H h h:=Un.kept λ_ _ q=>q
theorem Un.laid (k:∀b u,h.get? b=some u->h'.get? b=some u)(hp:h.objs.size<=a)(hn:H a=none):Un fs ex H (cP H a o) h h' where
 keep:=λb u q _ _ _=>k b u q
 slot:=λb u q _ _ _=>⟨u.slots,k b u q⟩
 free:=λb u q n _=>by rw[bI (Bm (AV (AX q) hp))];exact n
 there:=λb u q _=>⟨u,k b u q⟩
 pk:=λb xs q=>by rw[bI (fi q hn)];exact q
 l8:=λb u xs q=>by rw[bI (fi q hn)];exact q
 pq:=λb ps q=>⟨#[],by rw[bI (fi q hn),q];simp⟩
theorem Un.write (mu:Û (H x))(g:e=x∨H e=some (.own x))(k:∀b u,b≠e->h.get? b=some u->h'.get? b=some u)(O:∃u,h'.get? e=some u):Un fs ex H (cP H x o) h h':=by
 have c:∀b,H b=none->b≠x:=λb n z=>by subst z;rw[n]at mu;exact mu
 have f:∀b,H b=none->b≠e:=λb n z=>by
  subst z;rcases g with r |r
  .exact c b n r
  .rw [n]at r;cases r
 have m:∀b u,H b=some u->¬ Û (some u)->b≠x:=λb u q M z=>by subst z;rw[q]at mu;exact M mu
 refine⟨λb u q n _ _=>k b u (f b n) q,λb u q n _ _=>⟨u.slots,k b u (f b n) q⟩,λb u q n _=>by rw[bI (c b n)];exact n,λb u q _=>?_,
  λb xs q=>by rw[bI (m b _ q λz=>z)];exact q,λb u xs q=>by rw[bI (m b _ q λz=>z)];exact q,λb ps q=>⟨#[],by rw[bI (m b _ q λz=>z),q];simp⟩⟩
 by_cases B:b=e
 .subst B;exact O
 .exact ⟨u,k b u B q⟩
end
noncomputable def Ç (h:Heap)(H:Hp):List Ac:=(AE h.objs.size).filter λa=>(H a).isSome
noncomputable def l4 (h:Heap)(H:Hp):Heap:=PySem.W.hideAll h (Ç h H)
theorem tw (h:Heap)(H:Hp):(l4 h H).objs.size=h.objs.size:=PySem.W.hideAll_size _ _
theorem l3 {h:Heap}{H:Hp}{b:Ac}{o:B5}(e:h.get? b=some o)(n:H b=none):(l4 h H).get? b=some o:=
 PySem.W.hideAll_get _ e λm=>by
  have q:(H b).isSome=true:=(Dg.mp m).2;rw[n]at q;simp at q
theorem Lp {h:Heap}{H:Hp}{b:Ac}{o:B5}(e:(l4 h H).get? b=some o):h.get? b=some o/\H b=none:=by
 have e':h.get? b=some o:=PySem.W.of_hideAll (Ç h H) e;refine⟨e',?_⟩
 cases q:H b with
 |none=>rfl
 |some x=>
  have m:b∈Ç h H:=Dg.mpr ⟨BK.mpr (AX e'),by simp[q]⟩;have z:(l4 h H).get? b=none:=PySem.W.hideAll_none (Ç h H) m;rw[z]at e;cases e
noncomputable def UH (g h:Heap)(L:Ac):List (Ac×B5):=(AE h.objs.size).filterMap λa=>if a=L∨(g.get? a).isSome=true then none else (h.get? a).map λo=>(a,o)
noncomputable def cW (g h:Heap)(L d:Ac):List (Ac×B5):=(UH g h L).filter λp=>decide (p.1≠d)
structure Mod (K:Ap) (mg:Al->Option Aa) (base:Heap):Prop where
 Xe:K.In base
 glob:base.Ns Am mg
 blt:∃mb,base.Ns E8 mb/\∀x:Al,x ≠ "__name__"->mb x=Dw x
 nolimit:base.NoLimit
structure Cx where
 prog:AA
 w:AT
 K:Ap
 mg:Al->Option Aa
 base:Heap
 A:AU
 N:List Al
 s₀:Af
 H₀:Hp
 env:DU
 outer:List DU
 stack:List DU
 ex:List Ac
 fn:Al->Bool
 calm:Bool
 pn:List (Ac×B5)
 xe:Aa->Af->Prop
noncomputable def vm (l:List DU):List Ac:=l.filterMap (·.frame)
noncomputable abbrev Cx.fs (X:Cx):List Ac:=vm X.outer
def Yb (sc:BG)(x:Al):Prop:=sc.names.lookup x=some .local∨sc.names.lookup x=some .cell∨sc.names.lookup x=some .free
def X4 (sc:BG)(x:Al):Prop:=sc.names.lookup x=some .local∨sc.names.lookup x=some .cell
def Ħ (env:DU)(h:Heap)(m:Al->Option Aa)(x:Al)(u:Aa):Prop:=
 (env.kindOf x=some .local/\m x=some u)∨((env.kindOf x=some .cell∨env.kindOf x=some .free)/\∃c,env.cells.lookup x=some c/\h.IsCell c (some u))
structure Cx.Ok (X:Cx):Prop where
 mod:Mod X.K X.mg X.base
 kind:X.env.scope.kind = .function
 glob:X.env.globals=Am
 blt:X.env.builtins=E8
 above:X.s₀.heap.objs.size<=X.env.locals
 inj:∀x y c,X.env.cells.lookup x=some c->X.env.cells.lookup y=some c->x=y
 has:∀x,(X.env.kindOf x=some .cell∨X.env.kindOf x=some .free)->∃c,X.env.cells.lookup x=some c
 VR:∀x c,X.fn x=true->X.env.cells.lookup x=some c->X.s₀.heap.objs.size<=c
 hd:X.calm=true->X.A.handled=none
 frames:X.A.frames=some X.stack
 Yu:X.stack=X.outer∨(X.stack=X.env::X.outer/\X.env.frame=some X.env.locals)
 ĝ:∀b∈X.ex,b≠X.env.locals/\∀x c,X.env.cells.lookup x=some c->c≠b
 bs:∀b o,X.base.get? b=some o->X.s₀.heap.get? b=some o/\X.H₀ b=none
 L3:X.base.objs.size<=X.s₀.heap.objs.size
 Nn:∀b o,X.base.get? b=some o->b∉X.ex
 Ru:∀b∈X.ex,b∉X.fs
 j8:X.s₀.heap.FunFrames X.base X.outer
 Rp:∀b∈X.fs,X.H₀ b=none
structure bC (X:Cx) (pins:List (Ac×B5)) (Y:List (Option V)) (H:Hp) (s:Af):Prop where
 ok:X.Ok
 os:s.os=X.s₀.os
 bare:Dy s.gens
 base:Un X.fs X.ex X.H₀ H X.s₀.heap s.heap
 loc:∃m,s.heap.Ns X.env.locals m/\∀(i:Nat) (x:Al) (v:V),X.N[i]?=some x->Y[i]?=some (some v)->Yb X.env.scope x->∃u,cA v u/\Ħ X.env s.heap m x u
 cell:∀x c,X.env.cells.lookup x=some c->∃v,s.heap.IsCell c v
 free:H X.env.locals=none
 j9:∀x c,X.env.cells.lookup x=some c->H c=none
 pin:∀p∈X.pn++pins,s.heap.get? p.1=some p.2/\H p.1=none/\p.1≠X.env.locals/\p.1∉X.fs/\∀v,p.2.data≠.cell v
 cN:kL X.prog X.w H s.heap
 len:Y.length=X.N.length
section
variable {X:Cx}{pins:List (Ac×B5)}{Y:List (Option V)}{H H':Hp}{s:Af}{h':Heap}
theorem Cx.Ok.ö (ok:X.Ok){b:Ac}{o:B5}(e:X.base.get? b=some o):b∉X.fs:=λh=>by
 have:=(ok.j8.mem h).1;rw[e]at this;cases this
theorem bC.bs (I:bC X pins Y H s):∀b o,X.base.get? b=some o->s.heap.get? b=some o/\H b=none:=λb o e=>
 ⟨I.base.keep b o (I.ok.bs b o e).1 (I.ok.bs b o e).2 (I.ok.ö e) (I.ok.Nn b o e),I.base.free b o (I.ok.bs b o e).1 (I.ok.bs b o e).2 (I.ok.Nn b o e)⟩
theorem bC.bk (I:bC X pins Y H s):∀b o,X.base.get? b=some o->s.heap.get? b=some o:=λb o e=>(I.bs b o e).1
theorem bC.mod (I:bC X pins Y H s):Mod X.K X.mg X.base:=I.ok.mod
theorem bC.kE (I:bC X pins Y H s):X.K.In s.heap:=I.ok.mod.Xe.keeps I.bk
theorem bC.nolimit (I:bC X pins Y H s):s.heap.NoLimit:=I.ok.mod.nolimit.keeps I.bk
theorem bC.lt (I:bC X pins Y H s):X.env.locals<s.heap.objs.size:=let⟨_,hn,_⟩:=I.loc;hn.lt
theorem bC.sz (I:bC X pins Y H s):X.s₀.heap.objs.size<=s.heap.objs.size:=Bv I.ok.above (Ew I.lt)
theorem bC.õ (I:bC X pins Y H s){a:Ac}(h:s.heap.objs.size<=a):a∉X.fs:=λB=>by
 obtain⟨_,o,O,_⟩:=I.ok.j8.mem B;exact absurd (AV (AX O) (Bv I.sz h)) (B3 _)
theorem bC.RI (I:bC X pins Y H s):∀x c,X.env.cells.lookup x=some c->c≠X.env.locals:=λx c e z=>by
 obtain⟨v,o,O,hd⟩:=I.cell x c e;obtain⟨m,⟨f,g,p,h,a,_⟩,_⟩:=I.loc;rw[z,h]at O;cases O;rw[a]at hd;cases hd
theorem bC.j8 (I:bC X pins Y H s):s.heap.FunFrames X.base X.outer:=by
 have all:∀(l:List DU),(∀b∈vm l,b∈X.fs)->X.s₀.heap.FunFrames X.base l->s.heap.FunFrames X.base l:=by
  intro l
  induction l with
  |nil=>intro _ _;trivial
  |cons env r f=>
   intro c hl;obtain⟨k,⟨L,o,hf,hn,O,hd⟩,g⟩:=hl;have a:L∈X.fs:=c L (by unfold vm;rw[EA,hf];exact Az);obtain⟨j,e⟩:=I.base.slot L o O (I.ok.Rp L a) a λz=>I.ok.Ru L z a
   exact⟨k,⟨L,_,hf,hn,e,hd⟩,f (λb h=>c b (by unfold vm;rw[EA,hf];exact Aw _ h)) g⟩
 exact all X.outer (λ_ h=>h) I.ok.j8
theorem bC.stack (I:bC X pins Y H s):s.heap.FunFrames X.base X.stack:=by
 rcases I.ok.Yu with e | ⟨e,hf⟩
 .rw [e];exact I.j8
 .rw [e];obtain⟨m,hn,_⟩:=I.loc;refine .cons (by rw[I.ok.kind];decide) hf hn ?_ I.j8;exact Heap.get?_none_of_le (Bv I.ok.L3 I.ok.above)
theorem bC.px (I:bC X pins Y H s):∀b∈vm X.stack,b∈X.env.locals::X.fs:=λb h=>by
 rcases I.ok.Yu with e | ⟨e,hf⟩
 .rw [e]at h;exact Aw _ h
 .rw [e]at h;unfold vm at h;rw[EA,hf]at h;exact h
theorem bC.oD (I:bC X pins Y H s):∀b∈vm X.stack,H b=none:=λb h=>by
 rcases AJ.mp (I.px b h) with e |h
 .rw [e];exact I.free
 .obtain ⟨_,o,O,_⟩:=I.ok.j8.mem h;exact I.base.free b o O (I.ok.Rp b h) λz=>I.ok.Ru b z h
theorem bC.step {g':Array H_}{t':Nat}{d':Drawn}{ch:List Ac}(I:bC X pins Y H s)
  (a:∀b∈ch,(b∈X.ex∨X.s₀.heap.objs.size<=b)/\b≠X.env.locals/\(∀x c,X.env.cells.lookup x=some c->c≠b)/\∀p∈X.pn++pins,p.1≠b)
  (keep:∀b o,b≠X.env.locals->b∉X.fs->b∉ch->s.heap.get? b=some o->H b=none->h'.get? b=some o)
  (slot:∀b o,b≠X.env.locals->b∈X.fs->b∉ch->s.heap.get? b=some o->H b=none->∃Q,h'.get? b=some {o with slots:=Q}) (free:∀b o,b∉ch->s.heap.get? b=some o->H b=none->H' b=none)
  (there:∀b o,b∉ch->s.heap.get? b=some o->∃j,h'.get? b=some j)
  (t:∀b xs,H b=some (.tup xs)->H' b=some (.tup xs)) (G:∀b o u,H b=some (.eh o u)->H' b=some (.eh o u)) (T:∀b ps,H b=some (.V7 ps)->∃more,H' b=some (.V7 (ps++more)))
  (ns:∀m,s.heap.Ns X.env.locals m->h'.Ns X.env.locals m) (U:kL X.prog X.w H' h') (hg:Dy g'):
  bC X pins Y H' {s with heap:=h',gens:=g',drawn:=d',toks:=t'}:=by
 have A:∀b o,X.s₀.heap.get? b=some o->b≠X.env.locals:=λb o e=>Bm (AV (AX e) I.ok.above)
 have f:∀b o,X.s₀.heap.get? b=some o->b∉X.ex->b∉ch:=λb o e h B=>by
  rcases (a b B).1 with z |z
  .exact h z
  .exact absurd (AV (AX e) z) (B3 _)
 have L:∀x c,X.env.cells.lookup x=some c->∀v,s.heap.IsCell c v->h'.IsCell c v:=λx c e v ⟨o,O,hd⟩=>by
  have C:c∉ch:=λz=>(a c z).2.2.1 x c e rfl
  by_cases hc:c∈X.fs
  .obtain ⟨Q,q⟩:=slot c o (I.RI x c e) hc C O (I.j9 x c e);exact⟨_,q,hd⟩
  .exact ⟨o,keep c o (I.RI x c e) hc C O (I.j9 x c e),hd⟩
 refine⟨I.ok,I.os,hg,⟨λb o e n B h=>?_,λb o e n B h=>?_,λb o e n h=>?_,λb o e h=>?_,λb xs e=>t b xs (I.base.pk b xs e),λb o xs e=>G b o xs (I.base.l8 b o xs e),λb ps e=>?_⟩,?_,λx c e=>?_,?_,λx c e=>?_,λp hp=>?_,U,I.len⟩
 .exact keep b o (A b o e) B (f b o e h) (I.base.keep b o e n B h) (I.base.free b o e n h)
 .obtain ⟨Q,g⟩:=I.base.slot b o e n B h;obtain⟨M,J⟩:=slot b _ (A b o e) B (f b o e h) g (I.base.free b o e n h);exact⟨M,J⟩
 .obtain ⟨j,g⟩:=I.base.there b o e h;exact free b j (f b o e h) g (I.base.free b o e n h)
 .obtain ⟨j,g⟩:=I.base.there b o e h;exact there b j (f b o e h) g
 .obtain ⟨m1,g⟩:=I.base.pq b ps e;obtain⟨m2,J⟩:=T b _ g;exact⟨m1++m2,by rw[J,Hi]⟩
 .obtain ⟨m,hn,hl⟩:=I.loc;refine⟨m,ns m hn,λi x v g J e3=>?_⟩;obtain⟨u,r,l⟩:=hl i x v g J e3;refine⟨u,r,?_⟩;rcases l with l | ⟨k,c,e,z⟩
  .exact .inl l
  .exact .inr ⟨k,c,e,L x c e _ z⟩
 .obtain ⟨v,z⟩:=I.cell x c e;exact⟨v,L x c e v z⟩
 .obtain ⟨m,⟨o,_,_,O,_⟩,_⟩:=I.loc;exact free _ o (λz=>(a _ z).2.1 rfl) O I.free
 .obtain ⟨v,o,O,hd⟩:=I.cell x c e;exact free c o (λz=>(a c z).2.2.1 x c e rfl) O (I.j9 x c e)
 .obtain ⟨e,n,ne,nf,d⟩:=I.pin p hp;have C:p.1∉ch:=λz=>(a p.1 z).2.2.2 p hp rfl
  exact⟨keep p.1 p.2 ne nf C e n,free p.1 p.2 C e n,ne,nf,d⟩
theorem bC.un {t':Nat}(I:bC X pins Y H s)(u:Un X.fs [] H H' s.heap h')(k:kL X.prog X.w H' h'):bC X pins Y H' {s with heap:=h',toks:=t'}:=by
 obtain⟨m,⟨o,j,q,O,r⟩,_⟩:=id I.loc;obtain⟨l,L⟩:=u.any O I.free (by simp);exact I.step (g':=s.gens) (d':=s.drawn) (ch:=[]) (λ_ z=>nomatch z) (λb o _ B _ e n=>u.keep b o e n B (by simp)) (λb o _ B _ e n=>u.slot b o e n B (by simp)) (λb o _ e n=>u.free b o e n (by simp)) (λb o _ e=>u.there b o e (by simp)) u.pk u.l8 u.pq (λg M=>by
  obtain⟨f,a,p,h,c⟩:=M;rw[O]at h;cases h;exact⟨_,a,p,L,c⟩) k I.bare
theorem bC.call {g':Array H_}{t':Nat}{d':Drawn}{ch:List Ac}(I:bC X pins Y H s)(u:Un (vm X.stack) ch H H' s.heap h')(k:kL X.prog X.w H' h')(hg:Dy g')
  (C:∀b∈ch,(b∈X.ex∨X.s₀.heap.objs.size<=b)/\b≠X.env.locals/\(∀x c,X.env.cells.lookup x=some c->c≠b)/\∀p∈X.pn++pins,p.1≠b):
  bC X pins Y H' {s with heap:=h',gens:=g',drawn:=d',toks:=t'}:=by
 obtain⟨m,⟨o,t,v,O,r⟩,_⟩:=id I.loc;obtain⟨l,L⟩:=u.any O I.free λz=>(C _ z).2.1 rfl
 exact I.step C (λb o L B hc e n=>u.keep b o e n (λz=>(AJ.mp (I.px b z)).elim L B) hc) (λb o _ _ hc e n=>u.any e n hc) (λb o hc e n=>u.free b o e n hc) (λb o hc e=>u.there b o e hc) u.pk u.l8 u.pq (λq M=>by
  obtain⟨j,a,f,h,g⟩:=M;rw[O]at h;cases h;exact⟨_,a,f,L,g⟩) k hg
theorem bC.turned {t':Nat}{t:Ac}(I:bC X pins Y H s)(k:∀b o,b≠t->s.heap.get? b=some o->h'.get? b=some o)(hn:H t=none)(h:t≠X.env.locals)
  (h1:t∈X.ex∨X.s₀.heap.objs.size<=t) (h2:∀x c,X.env.cells.lookup x=some c->c≠t) (a:∀p∈X.pn++pins,p.1≠t):bC X pins Y H {s with heap:=h',toks:=t'}:=by
 have T:∀b u,H b=some u->b≠t:=λb u e z=>by rw[z,hn]at e;cases e
 refine I.step (g':=s.gens) (d':=s.drawn) (ch:=[t]) (λb B=>?_) (λb o _ _ hc e _=>k b o (λz=>hc (by simp[z])) e) (λb o _ _ hc e _=>⟨o.slots,k b o (λz=>hc (by simp[z])) e⟩) (λ_ _ _ _ n=>n)
  (λb o hc e=>⟨o,k b o (λz=>hc (by simp[z])) e⟩) (λ_ _ e=>e) (λ_ _ _ e=>e) (λb ps e=>⟨#[],by rw[e];simp⟩) (λm M=>?_) (λb u e=>?_) I.bare
 .have e:b=t:=by simpa using B
  subst e;exact⟨h1,h,h2,a⟩
 .obtain ⟨o,f,g,O,r⟩:=M;exact⟨o,f,g,k _ o (Be h) O,r⟩
 .refine (I.cN b u e).rx (λc v hc q=>k c v ?_ q) (λ_ q=>q) λ_ _ q _=>q
  rcases hc with z |z
  .rw [z];exact T b u e
  .exact T c _ z
theorem bC.tok (I:bC X pins Y H s)(t:Nat):bC X pins Y H {s with toks:=t}:=I.un (h':=s.heap) (t':=t) Un.refl I.cN
theorem bC.kept {t':Nat}(I:bC X pins Y H s)(k:∀b u,s.heap.get? b=some u->h'.get? b=some u):bC X pins Y H {s with heap:=h',toks:=t'}:=I.un (Un.kept k) (I.cN.kept k)
theorem bC.laid {a:Ac}{o:HO}{t':Nat}(I:bC X pins Y H s)(k:∀b u,s.heap.get? b=some u->h'.get? b=some u)(h:s.heap.objs.size<=a)(new:el X.prog X.w (cP H a o) h' a o):
  bC X pins Y (cP H a o) {s with heap:=h',toks:=t'}:=I.un (Un.laid k h (I.cN.fresh h)) (I.cN.laid k h new)
theorem bC.write {x e:Ac}{o:HO}{t':Nat}(I:bC X pins Y H s)(mu:Û (H x))(a:e=x∨H e=some (.own x))(k:∀b u,b≠e->s.heap.get? b=some u->h'.get? b=some u)(h:∃u,h'.get? e=some u)
  (new:el X.prog X.w (cP H x o) h' x o):bC X pins Y (cP H x o) {s with heap:=h',toks:=t'}:=I.un (Un.write mu a k h) (I.cN.write mu a k h new)
theorem bC.Li {n:List (Ac×B5)}(I:bC X pins Y H s)(h:∀p∈n,s.heap.get? p.1=some p.2/\H p.1=none/\p.1≠X.env.locals/\p.1∉X.fs/\∀v,p.2.data≠.cell v):bC X n Y H s:=
 ⟨I.ok,I.os,I.bare,I.base,I.loc,I.cell,I.free,I.j9,λp a=>(AB.mp a).elim (λz=>I.pin p (Ee _ z)) (h p),I.cN,I.len⟩
theorem wQ {N:List Al}(hN:N.Nodup){i j:Nat}{x:Al}(a:N[i]?=some x)(b:N[j]?=some x):i=j:=by
 obtain⟨h1,c⟩:=Ab.mp a;obtain⟨h2,e⟩:=Ab.mp b;exact (List.getElem_inj hN).mp (c.trans e.symm)
theorem sy {M:I_}{A:AU}{E:Aa->Af->Prop}{i:Nat}{x:Al}{v:V}{u:Aa}{Q:Unit->Af->Prop}(I:bC X pins Y H s)(hN:X.N.Nodup)(hi:X.N[i]?=some x)(l:X4 X.env.scope x)(r:cA v u)
  (h:∀s',bC X pins (Y.set i (some v)) H s'->(∃a,Heap.SameBut a s.heap s'.heap/\(a=X.env.locals∨X.env.cells.lookup x=some a))->Q () s') (hf:X.fn x=true∨X.env.scope.names.lookup x=some .local:=by first |exact .inl rfl |exact .inr rfl |assumption):AI M A (Ji X.env x u) Q E s:=by
 obtain⟨m,hn,hl⟩:=id I.loc;have Ĕ:(X.env.scope.kind == .class || (X.env.scope.kind == .module && X.env.locals != X.env.globals))=false:=by rw[I.ok.kind];rfl
 have J:i<Y.length:=by rw[I.len];exact (Ab.mp hi).1
 have RI:=I.RI;have t:∀{a:Ac} {h':Heap},(∃o,s.heap.get? a=some o/\H a=none)->Heap.SameBut a s.heap h'->kL X.prog X.w H h':=λ{a h'} ha f b ob e=>by
  obtain⟨_,_,B⟩:=ha;refine (I.cN b ob e).rx (λc w' hc q=>(f.2 c ?_).trans q) (λ_ q=>q) λ_ _ q _=>q
  rintro rfl;rcases hc with rfl |hc
  .rw [B]at e;cases e
  .rw [B]at hc;cases hc
 rcases l with G |G
 .refine wpAny_storeName_local G hn (λh' ŋ f=>?_) Ĕ;obtain⟨oL,_,_,ϛ,_⟩:=id hn;refine h _ ⟨I.ok,I.os,I.bare,⟨λb o e n T l=>?_,λb o e n T l=>?_,I.base.free,λb o e l=>?_,I.base.pk,I.base.l8,I.base.pq⟩,⟨_,ŋ,λj y v' g C e3=>?_⟩,λy c e=>?_,I.free,I.j9,λp hp=>?_,t ⟨oL,ϛ,I.free⟩ f,by simpa using I.len⟩ ⟨_,f,.inl rfl⟩
  .exact (f.2 b (Bm (AV (AX e) I.ok.above))).trans (I.base.keep b o e n T l)
  .obtain ⟨sl,g⟩:=I.base.slot b o e n T l;exact⟨sl,(f.2 b (Bm (AV (AX e) I.ok.above))).trans g⟩
  .obtain ⟨o',g⟩:=I.base.there b o e l;exact⟨o',(f.2 b (Bm (AV (AX e) I.ok.above))).trans g⟩
  .by_cases L:j=i
   .subst L;rw[hi]at g;cases g;rw[Ax J]at C;cases C;exact⟨u,r,.inl ⟨G,by simp⟩⟩
   .rw [AK (Be L)]at C;obtain⟨u',r',q⟩:=hl j y v' g C e3;refine⟨u',r',?_⟩;rcases q with⟨k,e⟩ | ⟨k,c,e,z⟩
    .refine .inl ⟨k,?_⟩;have:y≠x:=λe=>L (wQ hN g (e▸hi))
     simp[this,e]
    .exact .inr ⟨k,c,e,z.sameBut f (RI y c e)⟩
  .obtain ⟨w',z⟩:=I.cell y c e;exact⟨w',z.sameBut f (RI y c e)⟩
  .obtain ⟨e,n,ne,nf,d⟩:=I.pin p hp;exact⟨(f.2 p.1 ne).trans e,n,ne,nf,d⟩
 .have O:X.fn x=true:=by
   rcases hf with z |z
   .exact z
   .rw [z]at G;cases G
  obtain⟨c,hc⟩:=I.ok.has x (.inl G);obtain⟨w',z⟩:=I.cell x c hc;refine wpAny_storeName_cell I.ok.kind G hc z (λh' Oe f=>?_);obtain⟨oc,Ņ,U⟩:=id z;refine h {s with heap:=h'} ⟨I.ok,I.os,I.bare,⟨λb o e n T l=>?_,λb o e n T l=>?_,I.base.free,λb o e l=>?_,I.base.pk,I.base.l8,I.base.pq⟩,⟨m,hn.sameBut f (Be (RI x c hc)),λj y v' g C e3=>?_⟩,λy c' e=>?_,I.free,I.j9,λp hp=>?_,t ⟨oc,Ņ,I.j9 x c hc⟩ f,by simpa using I.len⟩ ⟨c,f,.inr hc⟩
  .exact (f.2 b (Bm (AV (AX e) (I.ok.VR x c O hc)))).trans (I.base.keep b o e n T l)
  .obtain ⟨sl,g⟩:=I.base.slot b o e n T l;exact⟨sl,(f.2 b (Bm (AV (AX e) (I.ok.VR x c O hc)))).trans g⟩
  .obtain ⟨o',g⟩:=I.base.there b o e l;exact⟨o',(f.2 b (Bm (AV (AX e) (I.ok.VR x c O hc)))).trans g⟩
  .by_cases L:j=i
   .subst L;rw[hi]at g;cases g;rw[Ax J]at C;cases C;exact⟨u,r,.inr ⟨.inl G,c,hc,Oe⟩⟩
   .rw [AK (Be L)]at C;obtain⟨u',r',q⟩:=hl j y v' g C e3;refine⟨u',r',?_⟩;rcases q with q | ⟨k,c',e,z'⟩
    .exact .inl q
    .refine .inr ⟨k,c',e,z'.sameBut f ?_⟩;rintro rfl;exact L (wQ hN g (I.ok.inj _ _ _ e hc▸hi))
  .by_cases ŏ:c'=c
   .subst ŏ;exact⟨_,Oe⟩
   .obtain ⟨w2,z2⟩:=I.cell y c' e;exact⟨w2,z2.sameBut f ŏ⟩
  .obtain ⟨e,n,ne,nf,d⟩:=I.pin p hp;refine⟨(f.2 p.1 ?_).trans e,n,ne,nf,d⟩;intro q;rw[q,Ņ]at e;have q':oc=p.2:=A6 e;exact d w' (by rw[<- q'];exact U)
theorem js {M:I_}{A:AU}{E:Aa->Af->Prop}{i:Nat}{x:Al}{v:V}{u:Aa}{Q:Unit->Af->Prop}(I:bC X pins Y H s)(hN:X.N.Nodup)(hi:X.N[i]?=some x)(c:X4 X.env.scope x)(r:cA v u)
  (h:∀a,bC X pins (Y.set i (some v)) H a->Q () a) (hf:X.fn x=true∨X.env.scope.names.lookup x=some .local:=by first |exact .inl rfl |exact .inr rfl |assumption):AI M A (Ji X.env x u) Q E s:=
 sy I hN hi c r (λa e _=>h a e) hf
theorem bC.RJ {a:Af}{ch:List Ac}(I:bC X pins Y H s)(O:a.os=s.os)(u:Un (vm X.stack) ch H H' s.heap a.heap)(h:kL X.prog X.w H' a.heap)(hg:Dy a.gens)
  (C:∀b∈ch,(b∈X.ex∨X.s₀.heap.objs.size<=b)/\b≠X.env.locals/\(∀x c,X.env.cells.lookup x=some c->c≠b)/\∀p∈X.pn++pins,p.1≠b):bC X pins Y H' a:=by
 obtain⟨h',g',d',t',o⟩:=a;have e:o=s.os:=O;subst e;exact I.call (g':=g') (t':=t') (d':=d') u h hg C
end
abbrev XK:=Aa->Option Ac->Hp->Prop
abbrev St:=List (Option V)
abbrev VK:=V->Hp->Prop
abbrev TE:=St->Hp->VK->Prop
abbrev TT:=St->Hp->(Bool->Hp->Prop)->Prop
abbrev TA:=St->Hp->(List V->Hp->Prop)->Prop
structure zB where
 nx:St->Hp->Prop
 rt:VK
 bk:St->Hp->Prop:=λ_ _=>False
 ct:St->Hp->Prop:=λ_ _=>False
abbrev TS:=zB->St->Hp->Prop
def EP (X:Cx)(pins:List (Ac×B5))(Y:St)(Q:VK)(u:Aa)(c:Af):Prop:=∃v a,bC X pins Y a c/\cA v u/\Q v a
def TP (X:Cx)(pins:List (Ac×B5))(Y:St)(Q:Bool->Hp->Prop)(b:Bool)(c:Af):Prop:=∃a,bC X pins Y a c/\Q b a
def AP (X:Cx)(pins:List (Ac×B5))(Y:St)(Q:List V->Hp->Prop)(us:List Aa)(c:Af):Prop:=∃vs a,bC X pins Y a c/\bH vs us/\Q vs a
def SP (X:Cx)(pins:List (Ac×B5))(D:zB)(f:Flow)(e:Af):Prop:=
 match f with
 | .next=>∃c a,bC X pins c a e/\D.nx c a
 | .brk=>∃c a,bC X pins c a e/\D.bk c a
 | .cont=>∃c a,bC X pins c a e/\D.ct c a
 | .ret u=>∃v c a,bC X pins c a e/\cA v u/\D.rt v a
def PE (X:Cx)(e:Expr)(t:TE):Prop:=
 ∀(pins:List (Ac×B5)) (s:Af) (Y:St) (H:Hp) (Q:VK),bC X pins Y H s->t Y H Q->AI (model X.prog X.w) X.A (eval e X.env) (EP X pins Y Q) X.xe s
def PT (X:Cx)(e:Expr)(t:TT):Prop:=
 ∀(pins:List (Ac×B5)) (s:Af) (Y:St) (H:Hp) (Q:Bool->Hp->Prop),bC X pins Y H s->t Y H Q->AI (model X.prog X.w) X.A (isTrue e X.env (eval e X.env)) (TP X pins Y Q) X.xe s
def PW (X:Cx)(e:Expr)(t:TT):Prop:=
 ∀(whole:IZ Aa) (pins:List (Ac×B5)) (s:Af) (Y:St) (H:Hp) (Q:Bool->Hp->Prop),bC X pins Y H s->t Y H Q->AI (model X.prog X.w) X.A (isTrue e X.env whole) (TP X pins Y Q) X.xe s
theorem PW.pt {X:Cx}{e:Expr}{t:TT}(h:PW X e t):PT X e t:=h _
def PA (X:Cx)(e:List Expr)(t:TA):Prop:=
 ∀(pos:Dt) (pins:List (Ac×B5)) (s:Af) (Y:St) (H:Hp) (Q:List V->Hp->Prop),bC X pins Y H s->t Y H Q->AI (model X.prog X.w) X.A (spliced (BY pos (Av e X.env))) (AP X pins Y Q) X.xe s
def PS (X:Cx)(st:AZ)(t:TS):Prop:=
 ∀(pins:List (Ac×B5)) (s:Af) (Y:St) (H:Hp) (D:zB),bC X pins Y H s->t D Y H->AI (model X.prog X.w) X.A (exec st X.env) (SP X pins D) X.xe s
def PSs (X:Cx)(st:List AZ)(t:TS):Prop:=
 ∀(pins:List (Ac×B5)) (s:Af) (Y:St) (H:Hp) (D:zB),bC X pins Y H s->t D Y H->AI (model X.prog X.w) X.A (execs st X.env) (SP X pins D) X.xe s
theorem cy {c:Type}{t:IZ c}{Q e:c->Af->Prop}{M:I_}{A:AU}{E:Aa->Af->Prop}{s:Af}(h:AI M A t Q E s)(f:∀a s,Q a s->e a s):AI M A t e E s:=B6 h f λ_ _ x=>x
section
variable {X:Cx}
def dt (i:Nat):TE:=λY H Q=>∃v,Y[i]?=some (some v)/\Q v H
def tC (v:V):TE:=λ_ H Q=>Q v H
theorem WL {i:Nat}{x:Al}{pos:Dt}(hN:X.N[i]?=some x)(f:Yb X.env.scope x)(hd:(x==("__debug__":Al))=false:=by decide)(a:(x==("__classdict__":Al))=false:=by decide):PE X (.Name x pos) (dt i):=by
 intro pins s Y H Q I h;obtain⟨v,e,h⟩:=h;obtain⟨m,hn,hl⟩:=I.loc;obtain⟨u,r,l⟩:=hl i x v hN e f;have fin:EP X pins Y Q u s:=⟨v,H,I,r,h⟩
 rcases l with⟨k,M⟩ | ⟨k,c,hc,C⟩
 .exact Iy (HS I.ok.kind k hn M fin) hd
 .rcases k with k |k
  .exact Iy (Ip I.ok.kind k hc C fin) hd
  .exact Iy (wpAny_loadName_free I.ok.kind k hc C fin a) hd
theorem aK {i j pos}:PE X (.Constant (.int i) j pos) (tC (.int i)):=λ_ _ _ H _ I h=>wpAny_Constant_int ⟨.int i,H,I.tok _,⟨_,rfl⟩,h⟩
theorem nJ {b j pos}:PE X (.Constant (.bool b) j pos) (tC (.bl b)):=λ_ _ _ H _ I h=>Constant_bool ⟨.bl b,H,I,rfl,h⟩
theorem qf {j pos}:PE X (.Constant .none j pos) (tC .cB):=λ_ _ _ H _ I h=>Constant_none ⟨.cB,H,I,rfl,h⟩
theorem iR {x j pos}:PE X (.Constant (.str x) j pos) (tC (.str x)):=λ_ _ _ H _ I h=>Calls.Constant_str ⟨.str x,H,I.tok _,⟨_,rfl⟩,h⟩
def Gl (X:Cx)(x:Al):Prop:=X.env.kindOf x=some .globalImplicit
theorem oR {E:Aa->Af->Prop}{pins:List (Ac×B5)}{s:Af}{Y:St}{H:Hp}{x:Al}{u:Aa}{pos:Dt}{Q:Aa->Af->Prop}(I:bC X pins Y H s)(hg:Gl X x)(m:X.mg x=some u)(h:Q u s)
  (hd:(x==("__debug__":Al))=false:=by decide):AI (model X.prog X.w) X.A (eval (.Name x pos) X.env) Q E s:=
 Gb I.ok.kind hg (Calls.loadGlobal_global (by rw[I.ok.glob];exact I.mod.glob.keeps I.bk) m h) hd
theorem fG {E:Aa->Af->Prop}{pins:List (Ac×B5)}{s:Af}{Y:St}{H:Hp}{x:Al}{u:Aa}{pos:Dt}{Q:Aa->Af->Prop}(I:bC X pins Y H s)(hg:Gl X x)(m:X.mg x=none)(v:Dw x=some u)(h:Q u s)
  (hn:x ≠ "__name__":=by decide) (hd:(x==("__debug__":Al))=false:=by decide):AI (model X.prog X.w) X.A (eval (.Name x pos) X.env) Q E s:=by
 obtain⟨M,h1,h2⟩:=I.mod.blt;exact Gb I.ok.kind hg (Calls.loadGlobal_builtin (by rw[I.ok.glob];exact I.mod.glob.keeps I.bk) m (by rw[I.ok.blt];exact h1.keeps I.bk) ((h2 x hn).trans v) h) hd
theorem lT {x:Al}{v:V}{u:Aa}{pos:Dt}(hg:Gl X x)(m:X.mg x=some u)(r:cA v u)(hd:(x==("__debug__":Al))=false:=by decide):PE X (.Name x pos) (tC v):=
 λ_ _ _ H _ I h=>oR I hg m ⟨v,H,I,r,h⟩ hd
theorem iS {x:Al}{v:V}{u:Aa}{pos:Dt}(hg:Gl X x)(m:X.mg x=none)(a:Dw x=some u)(r:cA v u)(hn:x ≠ "__name__":=by decide)(hd:(x==("__debug__":Al))=false:=by decide):PE X (.Name x pos) (tC v):=
 λ_ _ _ H _ I h=>fG I hg m a ⟨v,H,I,r,h⟩ hn hd
variable {a b:Expr}{ta tb:TE}{pos:Dt}
def PC (X:Cx)(op:Gv)(a b:Expr)(t:TE):Prop:=
 ∀(pins:List (Ac×B5)) (s:Af) (Y:St) (H:Hp) (Q:VK),bC X pins Y H s->t Y H Q->
  AI (model X.prog X.w) X.A (eval a X.env) (λv e=>AI (model X.prog X.w) X.A (eval b X.env) (λu c=>AI (model X.prog X.w) X.A (BZ op v u) (EP X pins Y Q) X.xe c) X.xe e) X.xe s
theorem QE (b:Expr){op:Gv}(h:op≠.In)(h2:op≠.NotIn):C3 op b=false:=by
 have c:(op==JY)=false:=by cases op<;>first |rfl |exact absurd rfl h
 have e:(op==Jb)=false:=by cases op<;>first |rfl |exact absurd rfl h2
 cases b<;>simp[C3,c,e]
def tB (t:TE):TT:=λY H Q=>t Y H λx e=>∃c,x = .bl c/\Q c e
theorem WE {op:Gv}{t:TE}(h:PC X op a b t)(h1:C3 op b=false:=by first |exact QE _ (by decide) (by decide) |rfl):PT X (.Compare a [op] [b] pos) (tB t):=by
 intro pins s Y H Q I hw;refine HI (cy (h pins s Y H _ I hw) λv l h1=>cy h1 λu k h2=>cy h2 λc j ⟨x,g,f,r,e⟩=>?_) h1;obtain⟨d,rfl,q⟩:=e;cases r;exact Bt ⟨g,f,q⟩
theorem cQ {e:Expr}{t:TE}(h:PE X e t)(f:∀whole,isTrue e X.env whole=(do let v <- whole;F6 e.pos;EC [v] (KI v)):=by intro _;rfl):PT X e (tB t):=by
 intro pins s Y H Q I hw;refine Kk (cy (h pins s Y H _ I hw) λv k ⟨x,j,g,r,c⟩=>?_) (f _);obtain⟨d,rfl,q⟩:=c;cases r;exact Bt ⟨j,g,q⟩
variable {tA È:TT}{cW:List Expr}
def Yt (t u:TT):TT:=λY H Q=>t Y H λc e=>if c=true then u Y e Q else Q false e
def Ĳ (t u:TT):TT:=λY H Q=>t Y H λc e=>if c=true then Q true e else u Y e Q
def Yq (t:TT):TT:=λY H Q=>t Y H λc e=>Q (!c) e
theorem uL (A:PT X a tA):PW X (.BoolOp .And [a] pos) tA:=by
 intro w pins s Y H Q I h;refine K1 (cy (A pins s Y H Q I h) λc f e=>?_)
 cases c with
 |true=>exact isTrue_and_nil e
 |false=>exact e
theorem lb (A:PT X a tA):PW X (.BoolOp .Or [a] pos) tA:=by
 intro w pins s Y H Q I h;refine isTrue_or (cy (A pins s Y H Q I h) λc f e=>?_)
 cases c with
 |false=>exact isTrue_or_nil e
 |true=>exact e
theorem yw (A:PT X a tA)(B:PW X (.BoolOp .And (b::cW) pos) È):PW X (.BoolOp .And (a::b::cW) pos) (Yt tA È):=by
 intro w pins s Y H Q I h;refine K1 (cy (A pins s Y H _ I h) λc g ⟨f,e,q⟩=>?_)
 cases c with
 |true=>exact B w pins g Y f Q e q
 |false=>exact⟨f,e,q⟩
theorem p' (A:PT X a tA)(B:PW X (.BoolOp .Or (b::cW) pos) È):PW X (.BoolOp .Or (a::b::cW) pos) (Ĳ tA È):=by
 intro w pins s Y H Q I h;refine isTrue_or (cy (A pins s Y H _ I h) λc g ⟨f,e,q⟩=>?_)
 cases c with
 |true=>exact⟨f,e,q⟩
 |false=>exact B w pins g Y f Q e q
theorem eu (A:PT X a tA):PT X (.UnaryOp .Not a pos) (Yq tA):=by
 intro pins s Y H Q I h;exact isTrue_not (A pins s Y H (λc e=>Q (!c) e) I h)
def UY (ta tb:TE):TE:=λY H Q=>ta Y H λx e=>∃c,x = .bl c/\if c=true then tb Y e Q else Q (.bl false) e
def å (ta tb:TE):TE:=λY H Q=>ta Y H λx e=>∃c,x = .bl c/\if c=true then Q (.bl true) e else tb Y e Q
def US (ta:TE):TE:=λY H Q=>ta Y H λx e=>∃c,x = .bl c/\Q (.bl (!c)) e
theorem uP {op}{t:TE}(h:PE X a t):PE X (.BoolOp op [a] pos) t:=λpins s Y H Q I hw=>BoolOp_one (h pins s Y H Q I hw)
theorem yD (A:PE X a ta)(B:PE X (.BoolOp .And (b::cW) pos) tb):PE X (.BoolOp .And (a::b::cW) pos) (UY ta tb):=by
 intro pins s Y H Q I h;refine BoolOp_and (cy (A pins s Y H _ I h) λv g ⟨x,f,e,r,q⟩=>?_);obtain⟨c,rfl,q⟩:=q;cases r;refine Bt ?_
 cases c with
 |true=>exact B pins g Y f Q e q
 |false=>exact⟨.bl false,f,e,rfl,q⟩
theorem YM (A:PE X a ta)(B:PE X (.BoolOp .Or (b::cW) pos) tb):PE X (.BoolOp .Or (a::b::cW) pos) (å ta tb):=by
 intro pins s Y H Q I h;refine BoolOp_or (cy (A pins s Y H _ I h) λv g ⟨x,f,e,r,q⟩=>?_);obtain⟨c,rfl,q⟩:=q;cases r;refine Bt ?_
 cases c with
 |false=>exact B pins g Y f Q e q
 |true=>exact⟨.bl true,f,e,rfl,q⟩
theorem WM (A:PE X a ta):PE X (.UnaryOp .Not a pos) (US ta):=by
 intro pins s Y H Q I h;refine UnaryOp_ (cy (A pins s Y H _ I h) λv g ⟨x,f,e,r,q⟩=>?_);obtain⟨c,rfl,q⟩:=q;cases r;exact not_of (Bt ⟨.bl (!c),f,e,rfl,q⟩)
def ĳ (t:TT)(ta tb:TE):TE:=λY H Q=>t Y H λc e=>if c=true then ta Y e Q else tb Y e Q
theorem qh {c:Expr}(hc:PT X c tA)(A:PE X a ta)(B:PE X b tb):PE X (.IfExp c a b pos) (ĳ tA ta tb):=by
 intro pins s Y H Q I h;refine wpAny_IfExp (cy (hc pins s Y H _ I h) λd e ⟨g,f,q⟩=>?_)
 cases d with
 |true=>exact A pins e Y g Q f q
 |false=>exact B pins e Y g Q f q
end
def eE (K:Ap)(H:Hp)(a:Ac)(xs:List V):Prop:=
 Rd H a (.lst xs)∨
  ∃(o:B5) (t:Array Aa) (n:Nat),K.lookup a=some o/\o.cls = .type "list"/\o.dict=none/\o.data = .seq t n/\t.size<=AM/\bH xs t.toList
def ky (K:Ap)(H:Hp)(a:Ac)(xs:List V):Prop:=
 Rd H a (.tup xs)∨
  ∃(o:B5) (t:Array Aa) (n:Nat),K.lookup a=some o/\o.cls = .type "tuple"/\o.data = .seq t n/\t.size<=AM/\bH xs t.toList
noncomputable def Ģ:Aa->Option V
 | .none=>some .cB
 | .bool b=>some (.bl b)
 | .int i _=>some (.int i)
 | .str x _=>some (.str x)
 | .bytes b _=>some (.L1 b)
 | .float b _=>some (.Xv b)
 | .ref a=>some (.ref a)
 | .type n=>some (.ty n)
 |_=>none
theorem cA.abs {x:V}{u:Aa}(r:cA x u):Ģ u=some x:=by
 cases x with
 |cB=>cases r;rfl
 |bl _=>cases r;rfl
 |int _=>obtain⟨t,rfl⟩:=r;rfl
 |str _=>obtain⟨t,rfl⟩:=r;rfl
 |L1 _=>obtain⟨t,rfl⟩:=r;rfl
 |Xv _=>obtain⟨t,rfl⟩:=r;rfl
 |ref _=>cases r;rfl
 |ty _=>cases r;rfl
theorem cA.inj {x y:V}{u:Aa}(r:cA x u)(q:cA y u):x=y:=A6 (r.abs.symm.trans q.abs)
theorem bH.inj:∀{xs ys:List V} {us:List Aa},bH xs us->bH ys us->xs=ys
 |_,_,_,.nil,.nil=>rfl
 |_,_,_,.cons r t,.cons a t'=>by rw[r.inj a,bH.inj t t']
section
variable {X:Cx}{pins:List (Ac×B5)}{Y:St}{H:Hp}{s:Af}{a:Ac}{xs ys:List V}
theorem eE.of {K:Ap}(h:H a=some (.lst xs)):eE K H a xs:=.inl (.inl h)
theorem bC.list (I:bC X pins Y H s)(h:eE X.K H a xs):∃t:List Aa,bH xs t/\PlainL s.heap a t.toArray/\xs.length<=AM:=by
 rcases h with h | ⟨o,t,n,k,hc,hd,c,f,r⟩
 .obtain ⟨z,t,n,r,e⟩:=h.ok I.cN;exact⟨t,r,⟨_,n,e,rfl,rfl,rfl⟩,z⟩
 .refine ⟨t.toList,r,⟨o,n,I.kE a o k,hc,hd,c⟩,?_⟩;have e:=r.length;simp only[DR]at e;lia
theorem bC.tuple (I:bC X pins Y H s)(h:ky X.K H a xs):∃t:List Aa,bH xs t/\ED s.heap a t.toArray/\xs.length<=AM:=by
 rcases h with h | ⟨o,t,n,k,hc,c,f,r⟩
 .obtain ⟨z,t,r,p⟩:=h.ok I.cN;exact⟨t,r,p,z⟩
 .refine ⟨t.toList,r,⟨o,I.kE a o k,hc,n,c⟩,?_⟩;have e:=r.length;simp only[DR]at e;lia
theorem bC.w6 (I:bC X pins Y H s)(h:eE X.K H a xs)(h':eE X.K H a ys):xs=ys:=by
 obtain⟨t,r,⟨o,n,e,_,_,d⟩,_⟩:=I.list h;obtain⟨its',c,⟨O,g,e',_,_,d'⟩,_⟩:=I.list h';rw[e]at e';cases e';rw[d]at d'
 injection d' with f _
 have:t=its':=by simpa using congrArg IP f
 subst this;exact r.inj c
theorem bC.su (I:bC X pins Y H s)(h:ky X.K H a xs)(h':ky X.K H a ys):xs=ys:=by
 obtain⟨t,r,⟨o,e,_,n,d⟩,_⟩:=I.tuple h;obtain⟨its',c,⟨O,e',_,g,d'⟩,_⟩:=I.tuple h';rw[e]at e';cases e';rw[d]at d'
 injection d' with f _
 have:t=its':=by simpa using congrArg IP f
 subst this;exact r.inj c
end
noncomputable abbrev Cx.rp (X:Cx)(E:Aa->Af->Prop):Cx:={X with xe:=E}
noncomputable abbrev Cx.kR (X:Cx):Cx:=X.rp λ_ _=>False
theorem Cx.Ok.rp {X:Cx}(ok:X.Ok)(E:Aa->Af->Prop):(X.rp E).Ok:=
 ⟨ok.mod,ok.kind,ok.glob,ok.blt,ok.above,ok.inj,ok.has,ok.VR,ok.hd,ok.frames,ok.Yu,ok.ĝ,ok.bs,ok.L3,ok.Nn,ok.Ru,ok.j8,ok.Rp⟩
theorem Cx.Ok.jq {X:Cx}{E:Aa->Af->Prop}(ok:(X.rp E).Ok):X.Ok:=
 ⟨ok.mod,ok.kind,ok.glob,ok.blt,ok.above,ok.inj,ok.has,ok.VR,ok.hd,ok.frames,ok.Yu,ok.ĝ,ok.bs,ok.L3,ok.Nn,ok.Ru,ok.j8,ok.Rp⟩
section
variable {X:Cx}{pins:List (Ac×B5)}{Y:St}{H:Hp}{s:Af}{E:Aa->Af->Prop}
theorem bC.rp (I:bC X pins Y H s)(E:Aa->Af->Prop):bC (X.rp E) pins Y H s:=⟨I.ok.rp E,I.os,I.bare,I.base,I.loc,I.cell,I.free,I.j9,I.pin,I.cN,I.len⟩
theorem bC.jq (I:bC (X.rp E) pins Y H s):bC X pins Y H s:=⟨I.ok.jq,I.os,I.bare,I.base,I.loc,I.cell,I.free,I.j9,I.pin,I.cN,I.len⟩
theorem SP.jq {D:zB}{f:Flow}{e:Af}(h:SP (X.rp E) pins D f e):SP X pins D f e:=by
 cases f with
 |next=>obtain⟨a,c,I,q⟩:=h;exact⟨a,c,I.jq,q⟩
 |brk=>obtain⟨a,c,I,q⟩:=h;exact⟨a,c,I.jq,q⟩
 |cont=>obtain⟨a,c,I,q⟩:=h;exact⟨a,c,I.jq,q⟩
 |ret u=>obtain⟨v,a,c,I,r,q⟩:=h;exact⟨v,a,c,I.jq,r,q⟩
theorem PSs.kR {st:List AZ}{t:TS}(h:PSs X.kR st t):PSs X st t:=λpins s Y H D I hw=>
 B6 (h pins s Y H D (I.rp _) hw) (λ_ _ q=>q.jq) λ_ _ z=>A8 z
end
section
variable {X:Cx}{st:AZ}{cW:List AZ}{t u:TS}{e:Expr}{te:TE}{pos:Dt}
def OD:TS:=λD Y H=>D.nx Y H
def rq (t u:TS):TS:=λD Y H=>t {D with nx:=u D} Y H
theorem bM:PSs X [] OD:=λ_ _ Y H _ I h=>Fk ⟨Y,H,I,h⟩
theorem aG (h1:PS X st t)(h2:PSs X cW u):PSs X (st::cW) (rq t u):=by
 intro pins s Y H D I h;refine Jh (cy (h1 pins s Y H {D with nx:=u D} I h) λf a q=>?_)
 cases f with
 |next=>
  obtain⟨c,j,g,q⟩:=q;exact h2 pins a c j D g q
 |ret v=>exact q
 |brk=>exact q
 |cont=>exact q
theorem aH (h1:PS X st t):PSs X [st] t:=by
 intro pins s Y H D I h;refine Jh (cy (h1 pins s Y H D I h) λf a q=>?_)
 cases f with
 |next=>exact Fk q
 |ret v=>exact q
 |brk=>exact q
 |cont=>exact q
def OK:TS:=λD Y H=>D.bk Y H
theorem P8:PS X (.Break pos) OK:=λ_ _ Y H _ I h=>wpAny_Break ⟨Y,H,I,h⟩
theorem bC.quiet {pins:List (Ac×B5)}{Y:St}{H:Hp}{s:Af}(I:bC X pins Y H s):interactive X.env=false:=by simp[interactive,I.ok.kind]
def jr (te:TE):TS:=λD Y H=>te Y H λ_ a=>D.nx Y a
theorem bR (c:PE X e te)(a:Hk e none pos.line X.env=pure false:=by rfl):PS X (.Expr e pos) (jr te):=by
 intro pins s Y H D I h;exact wpAny_Expr_any (cy (c pins s Y H _ I h) λv j ⟨x,g,f,r,q⟩=>⟨Y,g,f,q⟩) I.quiet a
def OB (te:TE):TS:=λD Y H=>te Y H D.rt
theorem aX (a:PE X e te):PS X (.Return (some e) pos) (OB te):=by
 intro pins s Y H D I h;exact wpAny_Return_some (cy (a pins s Y H _ I h) λv g ⟨x,f,c,r,q⟩=>⟨x,Y,f,c,r,q⟩)
def UQ:TS:=λD _ H=>D.rt .cB H
theorem S9:PS X (.Return none pos) UQ:=λ_ _ Y H _ I h=>wpAny_Return_none ⟨.cB,Y,H,I,rfl,h⟩
def OG (c:TT)(t u:TS):TS:=λD Y H=>c Y H λb a=>if b=true then t D Y a else u D Y a
theorem cu {c:Expr}{a b:List AZ}{T:TT}(hc:PT X c T)(A:PSs X a t)(B:PSs X b u):PS X (.If c a b pos) (OG T t u):=by
 intro pins s Y H D I h;refine wpAny_If (cy (hc pins s Y H _ I h) λd f ⟨j,g,q⟩=>?_)
 cases d with
 |true=>exact A pins f Y j D g q
 |false=>exact B pins f Y j D g q
def OE:TS:=λ_ _ _=>False
theorem ib:PS X st OE:=λ_ _ _ _ _ _ h=>h.elim
end
abbrev TG:=V->St->Hp->(St->Hp->Prop)->Prop
abbrev VT:=List V->St->Hp->(St->Hp->Prop)->Prop
def PG (X:Cx)(target:Expr)(t:TG):Prop:=
 ∀(pins:List (Ac×B5)) (s:Af) (Y:St) (H:Hp) (v:V) (u:Aa) (Q:St->Hp->Prop),bC X pins Y H s->cA v u->t v Y H Q->
  AI (model X.prog X.w) X.A (GR target X.env u) (λ_ e=>∃a c,bC X pins a c e/\Q a c) X.xe s
def PGs (X:Cx)(ts:List Expr)(t:VT):Prop:=
 ∀(pins:List (Ac×B5)) (s:Af) (Y:St) (H:Hp) (vs:List V) (us:List Aa) (Q:St->Hp->Prop),bC X pins Y H s->bH vs us->t vs Y H Q->
  AI (model X.prog X.w) X.A (assignInOrder ((E9 ts X.env).map (·.2)) us) (λ_ e=>∃a c,bC X pins a c e/\Q a c) X.xe s
abbrev NQ:=V->V->V->Hp->(Hp->Prop)->Prop
def X1 (X:Cx)(t:NQ):Prop:=
 ∀(pins:List (Ac×B5)) (s:Af) (Y:St) (H:Hp) (o i v:V) (O a u:Aa) (Q:Hp->Prop),bC X pins Y H s->cA o O->cA i a->cA v u->t o i v H Q->
  AI (model X.prog X.w) X.A (Kb O a u) (λ_ e=>∃c,bC X pins Y c e/\Q c) X.xe s
abbrev Yc:=V->V->Hp->VK->Prop
def ĥ (X:Cx)(op:Ga)(t:Yc):Prop:=
 ∀(pins:List (Ac×B5)) (s:Af) (Y:St) (H:Hp) (x y:V) (v u:Aa) (Q:VK),bC X pins Y H s->cA x v->cA y u->t x y H Q->
  AI (model X.prog X.w) X.A (Jj op v u) (EP X pins Y Q) X.xe s
section
variable {X:Cx}{pos:Dt}
def gO (i:Nat):TG:=λv Y H Q=>Q (Y.set i (some v)) H
theorem bt {i:Nat}{x:Al}(hN:X.N.Nodup)(hi:X.N[i]?=some x)(a:X4 X.env.scope x)(hf:X.fn x=true∨X.env.scope.names.lookup x=some .local:=by first |exact .inl rfl |exact .inr rfl |assumption):PG X (.Name x pos) (gO i):=by
 intro pins s Y H v u Q I r h;exact IS (js I hN hi a r (λe c=>⟨_,H,c,h⟩) hf)
def Zl:VT:=λvs Y H Q=>vs=[]/\Q Y H
def Vw (t:TG)(u:VT):VT:=λvs Y H Q=>∃v r,vs=v::r/\t v Y H λa c=>u r a c Q
theorem iQ:PGs X [] Zl:=by
 intro pins s Y H vs us Q I r h;obtain⟨e,h⟩:=h;subst e;exact assignInOrder_nil ⟨Y,H,I,h⟩
theorem cI {e:Expr}{a:List Expr}{t:TG}{u:VT}(h1:PG X e t)(h2:PGs X a u)
  (g:(E9 (e::a) X.env).map (·.2)=GR e X.env::(E9 a X.env).map (·.2):=by rfl):PGs X (e::a) (Vw t u):=by
 intro pins s Y H vs us Q I r h;obtain⟨v,n,j,h⟩:=h;subst j
 cases r with
 |cons r f=>
  rw[g];refine assignInOrder_cons (cy (h1 pins s Y H _ _ _ I r h) λ_ c ⟨k,m,l,q⟩=>?_);exact h2 pins c k m _ _ Q l f q
def Zk (K:Ap)(n:Nat)(t:VT):TG:=λv Y H Q=>∃a xs,v = .ref a/\ky K H a xs/\xs.length=n/\t xs Y H Q
theorem lg {c:List Expr}{k:Nat}{t:VT}{n:Nat}(hc:X.calm=true)(h:PGs X c t)
  (hn:(E9 c X.env).length=n:=by rfl) (T:(E9 c X.env).findIdx? (·.1)=none:=by rfl):PG X (.Tuple c k pos) (Zk X.K n t):=by
 intro pins s Y H v u Q I r hw;obtain⟨a,xs,l,q,hl,hw⟩:=hw;subst l;cases r;obtain⟨g,f,ht,z⟩:=I.tuple q;refine assign_Tuple_tuple (I.ok.hd hc) ht (by simp[hn,<- hl,f.length]) T λh' j=>?_
 have m:bC X pins Y H {s with heap:=h'}:=I.kept (t':=s.toks) λb o e=>j b o (Bm (AX e)) e
 exact h pins _ Y H xs _ Q m f hw
def Uh (T a:TE)(t:NQ):TG:=λv Y H Q=>T Y H λo f=>a Y f λi e=>t o i v e λc=>Q Y c
theorem qe {o i:Expr}{T c:TE}{t:NQ}(n:PE X o T)(hi:PE X i c)(m:X1 X t)
  (J:∀v,GR (.Subscript o i pos) X.env v=(do
   let O <- EC [v] (eval o X.env)
   let a <- EC [v,O] (eval i X.env)
   F6 pos
   EC [v,O,a] (Kb O a v)
   release [v,O,a] []):=by intro _;rfl):PG X (.Subscript o i pos) (Uh T c t):=by
 intro pins s Y H v u Q I r h;refine Ae (FL (cy (n pins s Y H _ I h) λO f ⟨x,C,z,j,l⟩=>?_));refine Ae (FL (cy (hi pins f Y C _ z l) λa e ⟨y,B,w,g,k⟩=>?_));refine Ae (G6 (Ae (FL (cy (m pins e Y B x y v O a u _ w j g r k) λ_ G ⟨A,p,q⟩=>?_))));exact wpAny_release ⟨Y,A,p,q⟩
def kB (t:TE)(g:TG):TS:=λD Y H=>t Y H λx a=>g x Y a D.nx
theorem mM {t e:Expr}{T:TE}{g:TG}(f:PE X e T)(hg:PG X t g)(c:swapsWithSole [t] e pos.line X.env=pure false:=by rfl)(hw:swappedStores [t] e X.env=pure none:=by rfl)
  (h1:(E9 [t] X.env).map (·.2)=[GR t X.env]:=by rfl):PS X (.Assign [t] e pos) (kB T g):=by
 intro pins s Y H D I h;refine wpAny_Assign_stores (cy (f pins s Y H _ I h) λv a ⟨x,k,j,r,Q⟩=>?_) c hw;rw[h1];exact cy (hg pins a Y k x v _ j r Q) λ_ l q=>q
theorem bp {i:Nat}{x:Al}{e:Expr}{t:TE}{pos':Dt}(hN:X.N.Nodup)(hi:X.N[i]?=some x)(a:X4 X.env.scope x)(f:PE X e t)(c:Hk e (some (.Name x pos')) pos.line X.env=pure false:=by rfl)(hf:X.fn x=true∨X.env.scope.names.lookup x=some .local:=by first |exact .inl rfl |exact .inr rfl |assumption):
  PS X (.Assign [.Name x pos'] e pos) (kB t (gO i)):=by
 intro pins s Y H D I h;refine wpAny_Assign_Name (cy (f pins s Y H _ I h) λv m ⟨y,k,j,r,q⟩=>?_) c;exact js j hN hi a r (λl g=>⟨_,k,g,q⟩) hf
def Ys (i:Nat)(e:TE)(t:Yc):TS:=λD Y H=>∃x,Y[i]?=some (some x)/\e Y H λy c=>t x y c λz a=>D.nx (Y.set i (some z)) a
theorem WH {i:Nat}{x:Al}{e:Expr}{T:TE}{op:Ga}{t:Yc}{pos':Dt}(hN:X.N.Nodup)(hi:X.N[i]?=some x)(n:X4 X.env.scope x)(G:PE X e T)(O:ĥ X op t)(hf:X.fn x=true∨X.env.scope.names.lookup x=some .local:=by first |exact .inl rfl |exact .inr rfl |assumption):
  PS X (.AugAssign (.Name x pos') op e pos) (Ys i T t):=by
 intro pins s Y H D I h;obtain⟨v,J,h⟩:=h;obtain⟨m,hn,hl⟩:=I.loc;have j:Yb X.env.scope x:=by rcases n with k |k;exact .inl k;exact .inr (.inl k)
 obtain⟨u,r,l⟩:=hl i x v hi J j;refine wpAny_AugAssign_Name ?_;have go:AI (model X.prog X.w) X.A (eval e X.env) (λw g=>AI (model X.prog X.w) X.A (Jj op u w) (λr f=>AI (model X.prog X.w) X.A (Ji X.env x r) (λ_=>SP X pins D .next) X.xe f) X.xe g) X.xe s:=by
  refine cy (G pins s Y H _ I h) λw o ⟨y,H1,I1,q,B⟩=>?_
  refine cy (O pins o Y H1 v y u w _ I1 r q B) λz s2 ⟨zv,H2,U,p,Q⟩=>?_
  exact js U hN hi n p (λs3 L=>⟨_,H2,L,Q⟩) hf
 rcases l with⟨a,M⟩ | ⟨a,c,hc,C⟩
 .exact HS I.ok.kind a hn M go
 .rcases a with a |a
  .exact Ip I.ok.kind a hc C go
  .rcases n with k |k
   .have:X.env.scope.names.lookup x=some .free:=a;rw[k]at this;cases this
   .have:X.env.scope.names.lookup x=some .free:=a;rw[k]at this;cases this
def UX (T a e:TE)(g:V->V->Hp->VK->Prop)(p:Yc)(t:NQ):TS:=λD Y H=>T Y H λo l=>a Y l λi k=>g o i k λx j=>e Y j λy h=>p x y h λz f=>t o i z f λc=>D.nx Y c
def ZV (X:Cx)(t:V->V->Hp->VK->Prop):Prop:=
 ∀(pins:List (Ac×B5)) (s:Af) (Y:St) (H:Hp) (o i:V) (v a:Aa) (Q:VK),bC X pins Y H s->cA o v->cA i a->t o i H Q->
  AI (model X.prog X.w) X.A (IT v a) (EP X pins Y Q) X.xe s
theorem S_ {o i e:Expr}{j k l:TE}{g:V->V->Hp->VK->Prop}{T:Yc}{t:NQ}{op:Ga}{p:Dt}(ho:PE X o j)(hi:PE X i k)(hg:ZV X g)(he:PE X e l)(hp:ĥ X op T)(hs:X1 X t)
  (ha:∀O a new,augStore i O a new=(do EC [new,O,a] (Kb O a new);release [new,O,a] [];pure .next):=by intros;rfl):PS X (.AugAssign (.Subscript o i p) op e pos) (UX j k l g T t):=by
 intro pins s Y H D I h;refine wpAny_AugAssign_SubscriptAny (cy (ho pins s Y H _ I h) λO C ⟨f,H1,I1,m,q1⟩=>?_) ha;refine cy (hi pins C Y H1 _ I1 q1) λa B ⟨c,H2,I2,r,q2⟩=>?_
 refine cy (hg pins B Y H2 f c O a _ I2 m r q2) λold A ⟨u,H3,I3,L,q3⟩=>?_
 refine cy (he pins A Y H3 _ I3 q3) λv z ⟨q,H4,I4,J,U⟩=>?_
 refine cy (hp pins z Y H4 u q old v _ I4 L J U) λnew w ⟨n,H5,I5,G,M⟩=>?_
 exact cy (hs pins w Y H5 f c n O a new _ I5 m r G M) λ_ s6 ⟨H6,I6,Q⟩=>⟨Y,H6,I6,Q⟩
def þ (f:Int->Int->Int):Yc:=λx y H Q=>∃i j,x = .int i/\y = .int j/\Q (.int (f i j)) H
theorem Q8:ĥ X .Add (þ λi j=>i+j):=by
 intro pins s Y H x y v u Q I a r h;obtain⟨i,j,c,e,q⟩:=h;subst c;subst e;obtain⟨t,rfl⟩:=a;obtain⟨t',rfl⟩:=r;exact HL ⟨.int _,H,I.tok _,⟨_,rfl⟩,q⟩
end
section
variable {X:Cx}{pos:Dt}
def xV (c:TT)(tb:TS):TS:=λD Y H=>∃W:Nat->St->Hp->Prop,(∃m,W m Y H)/\∀m Y H,W m Y H->
 c Y H λb e=>if b=true then ∃N:St->Hp->Prop,(∀a f,N a f->∃M,M<m/\W M a f)/\tb {D with nx:=N,ct:=N,bk:=D.nx} Y e else D.nx Y e
theorem jT {c:Expr}{body:List AZ}{t:TT}{tb:TS}(p:PassesOwn (model X.prog X.w) X.A X.env X.xe)(hc:PT X c t)(U:PSs X body tb):PS X (.While c body [] pos) (xV t tb):=by
 intro pins s Y H D I h;obtain⟨W,⟨T,G⟩,turn⟩:=h;refine wpAny_While (codeAny_whileLoop (λn O=>∃o B,bC X pins o B O/\W n o B) ?_ T ⟨Y,H,I,G⟩);rintro n L ⟨g,z,I1,C⟩;refine Cv p (cy (hc pins L g z _ I1 (turn n g z C)) λb J ⟨u,r,Q⟩=>?_)
 cases b with
 |true=>
  obtain⟨N,hN,Q⟩:=Q;refine Cv p (cy (U pins J g u _ r Q) λf s3 q=>?_)
  cases f with
  |next=>
   obtain⟨a,e,l,k⟩:=q;obtain⟨m,M,j⟩:=hN a e k;exact⟨m,M,a,e,l,j⟩
  |cont=>
   obtain⟨a,e,l,k⟩:=q;obtain⟨m,M,j⟩:=hN a e k;exact⟨m,M,a,e,l,j⟩
  |brk=>exact q
  |ret v=>exact q
 |false=>
  exact Fk ⟨g,u,r,Q⟩
end
structure It where
 go:Nat->Hp->Prop
 Ä:Nat->Hp->V->Hp->Prop
 stop:Nat->Hp->Prop
def jl (X:Cx)(pins:List (Ac×B5))(H:Hp)(b:Ac):Prop:=
 H b=none/\b≠X.env.locals/\b∉X.fs/\(b∈X.ex∨X.s₀.heap.objs.size<=b)/\(∀x c,X.env.cells.lookup x=some c->c≠b)/\∀p∈X.pn++pins,p.1≠b
theorem bC.ow {X:Cx}{pins:List (Ac×B5)}{Y:St}{H a:Hp}{s:Af}{b:Ac}(I:bC X pins Y H s)(h:s.heap.objs.size<=b)(hn:a b=none):jl X pins a b:=by
 refine⟨hn,Gd (AV I.lt h),I.õ h,.inr (Bv I.sz h),λx c e z=>?_,λp f z=>?_⟩
 .obtain ⟨v,q⟩:=I.cell x c e;exact absurd (AV q.lt (by rw[z];exact h)) (B3 _)
 .exact absurd (AV (AX (I.pin p f).1) (by rw[z];exact h)) (B3 _)
structure sf (P:AA) (w:AT) (K:Ap) (tg:Expr) (J:It) (fp:List Ac) (it:Ac) (tn:Nat->Heap->Prop):Prop where
 mem:it∈fp
 obj:∀i h,tn i h->∀b∈fp,∃o,h.get? b=some o/\∀v,o.data≠.cell v
 keep:∀i h h',tn i h->(∀b∈fp,∀o,h.get? b=some o->h'.get? b=some o)->tn i h'
 item:∀(X:Cx),X.prog=P->X.w=w->X.K=K->X.calm=true->∀(i:Nat) (pins:List (Ac×B5)) (s:Af) (Y:St) (H:Hp) (E:Aa->Af->Prop),bC X pins Y H s->(∀b∈fp,jl X pins H b)->tn i s.heap->J.go i H->
  AI (model P w) X.A (FS (.ref it)) (λr s1=>∃u,r=some u/\
   AI (model P w) X.A (GA tg (.ref it) u) (λ_ s2=>∃x H',bC X pins Y H' s2/\cA x u/\J.Ä i H x H'/\tn (i+1) s2.heap/\∀b∈fp,H' b=none) E s1) E s
 done:∀(X:Cx),X.prog=P->X.w=w->X.K=K->X.calm=true->∀(i:Nat) (pins:List (Ac×B5)) (s:Af) (Y:St) (H:Hp) (E:Aa->Af->Prop),bC X pins Y H s->(∀b∈fp,jl X pins H b)->tn i s.heap->J.stop i H->
  AI (model P w) X.A (FS (.ref it)) (λr s1=>r=none/\bC X pins Y H s1) E s
 self:∀(A:AU) (i:Nat) (s:Af) (Q:Aa->Af->Prop) (E:Aa->Af->Prop),tn i s.heap->Q (.ref it) s->AI (model P w) A (Hz (.ref it)) Q E s
abbrev TI:=St->Hp->(It->Hp->Prop)->Prop
def Š (X:Cx)(pins:List (Ac×B5))(Y:St)(g:Expr)(R:It->Hp->Prop)(t:Aa)(c:Af):Prop:=
 ∃(T:Ac) (f:List Ac) (n:Nat->Heap->Prop) (J:It) (a:Hp),t = .ref T/\bC X pins Y a c/\sf X.prog X.w X.K g J f T n/\n 0 c.heap/\(∀b∈f,jl X pins a b)/\R J a
def PI (X:Cx)(t iter:Expr)(a:TI):Prop:=
 ∀(pins:List (Ac×B5)) (s:Af) (Y:St) (H:Hp) (R:It->Hp->Prop),bC X pins Y H s->a Y H R->
  AI (model X.prog X.w) X.A (eval iter X.env) (λv c=>AI (model X.prog X.w) X.A (Hz v) (Š X pins Y t R) X.xe c) X.xe s
theorem nW {M:I_}{A:AU}{E:Aa->Af->Prop}{s:Af}{t:Expr}{T:Ac}{u:Aa}{o:B5}{n:String}{vs:Array Aa}{Q:Unit->Af->Prop}(O:s.heap.get? T=some o)(hc:o.cls = .type n)(hd:o.data = .fields vs)
  (hn:["enumerate","zip","dict_itemiterator","dict_reverseitemiterator","odict_iterator","itertools.zip_longest","itertools.pairwise"].contains n=false) (a:Q () s):AI M A (GA t (.ref T) u) Q E s:=by
 cases t <;> first
  |exact AN a
  | (cases u<;>first
    |exact AN a
    | (refine Ae (wpAny_load O ?_)
       rw[hc,hd];show AI M A (if (["enumerate","zip","dict_itemiterator","dict_reverseitemiterator","odict_iterator","itertools.zip_longest","itertools.pairwise"].contains n && vs[0]?==some (B7 _))=true then _ else _) Q E s
       rw[if_neg (by intro h;rw[hn]at h;cases h)];exact AN a))
noncomputable def ŧ (K:Ap)(a:Ac):It:=
 ⟨λi H=>∃xs x,eE K H a xs/\xs[i]?=some x,λi H x c=>c=H/\∀xs,eE K H a xs->xs[i]?=some x,λi H=>∃xs,eE K H a xs/\xs.length<=i⟩
noncomputable def Ŧ (K:Ap)(a:Ac):It:=
 ⟨λi H=>∃xs x,ky K H a xs/\xs[i]?=some x,λi H x c=>c=H/\∀xs,ky K H a xs->xs[i]?=some x,λi H=>∃xs,ky K H a xs/\xs.length<=i⟩
noncomputable def Ý (lo:Int)(n:Nat):It:=⟨λi _=>i<n,λi H x a=>a=H/\x = .int (lo+i),λi _=>n<=i⟩
theorem Mh {P:AA}{w:AT}{K:Ap}{tg:Expr}(a it:Ac):sf P w K tg (ŧ K a) [it] it (λi h=>h.IsListIter it a i) where
 mem:=by simp
 obj:=λi h st b hb=>by
  have e:b=it:=by simpa using hb
  subst e;obtain⟨o,e,c,d⟩:=st;exact⟨o,e,λv z=>by rw[d]at z;cases z⟩
 keep:=λi h h' st k=>st.at λo e=>k it (by simp) o e
 item:=by
  kj_on
  obtain⟨xs,x,hq,hx⟩:=hg;obtain⟨Vk,rv,p,hz⟩:=I.list hq;obtain⟨u,hu,ru⟩:=rv.get hx;obtain⟨f0,f1,f2,f3,f4,f5⟩:=hf it (by simp);refine wpAny_pyNext_list_item st p.isList (by simpa using hu) λh' uf sb=>?_
  have I1:bC X pins Y H {s with heap:=h'}:=I.turned (t':=s.toks) (λb o hb e=>(sb.2 b hb).trans e) f0 f1 f3 f4 f5;obtain⟨o,e,c,d⟩:=id uf;exact⟨u,rfl,nW (s:={s with heap:=h'}) e c d rfl ⟨x,H,I1,ru,⟨rfl,λys hy=>by rw[I.w6 hy hq];exact hx⟩,uf,λb hb=>(hf b hb).1⟩⟩
 done:=by
  kj_on
  obtain⟨xs,hq,hx⟩:=hg;obtain⟨Vk,rv,p,hz⟩:=I.list hq;obtain⟨f0,f1,f2,f3,f4,f5⟩:=hf it (by simp);have hl:=rv.length;exact wpAny_pyNext_list_end (I.ok.hd hc) st p.isList (by simp;lia) λh' eb=>⟨rfl,I.turned (t':=s.toks) (λb o hb e=>eb b o hb e) f0 f1 f3 f4 f5⟩
 self:=λ_ _ _ _ _ st h=>wpAny_pyIter_listiter st h
theorem xT {P:AA}{w:AT}{K:Ap}{tg:Expr}(a it:Ac):sf P w K tg (Ŧ K a) [it] it (λi h=>h.IsTupleIter it a i) where
 mem:=by simp
 obj:=λi h st b hb=>by
  have e:b=it:=by simpa using hb
  subst e;obtain⟨o,e,c,d⟩:=st;exact⟨o,e,λv z=>by rw[d]at z;cases z⟩
 keep:=λi h h' st k=>st.at λo e=>k it (by simp) o e
 item:=by
  kj_on
  obtain⟨xs,x,hq,hx⟩:=hg;obtain⟨Vk,rv,p,hz⟩:=I.tuple hq;obtain⟨u,hu,ru⟩:=rv.get hx;obtain⟨f0,f1,f2,f3,f4,f5⟩:=hf it (by simp);refine wpAny_pyNext_tuple_item st (show s.heap.IsTuple a Vk.toArray from p) (by simpa using hu) λh' uf sb=>?_
  have I1:bC X pins Y H {s with heap:=h'}:=I.turned (t':=s.toks) (λb o hb e=>(sb.2 b hb).trans e) f0 f1 f3 f4 f5;obtain⟨o,e,c,d⟩:=id uf;exact⟨u,rfl,nW (s:={s with heap:=h'}) e c d rfl ⟨x,H,I1,ru,⟨rfl,λys hy=>by rw[I.su hy hq];exact hx⟩,uf,λb hb=>(hf b hb).1⟩⟩
 done:=by
  kj_on
  obtain⟨xs,hq,hx⟩:=hg;obtain⟨Vk,rv,p,hz⟩:=I.tuple hq;obtain⟨f0,f1,f2,f3,f4,f5⟩:=hf it (by simp);have hl:=rv.length;exact wpAny_pyNext_tuple_end (I.ok.hd hc) st (show s.heap.IsTuple a Vk.toArray from p) (by simp;lia) λh' eb=>⟨rfl,I.turned (t':=s.toks) (λb o hb e=>eb b o hb e) f0 f1 f3 f4 f5⟩
 self:=λ_ _ _ _ _ st h=>wpAny_pyIter_tupleiter st h
theorem xU {P:AA}{w:AT}{K:Ap}{tg:Expr}(it:Ac)(lo:Int)(n:Nat):sf P w K tg (Ý lo n) [it] it (λi h=>KA h it (lo+(i:Nat)*1) ((n:Int)-(i:Nat)) 1) where
 mem:=by simp
 obj := λi h st b hb=>by
  have e:b=it:=by simpa using hb
  subst e;exact⟨_,st,λv z=>by
   have z':G1 _=HJ v:=z;cases z'⟩
 keep:=λi h h' st k=>k it (by simp) _ st
 item:=by
  kj_on
  obtain⟨f0,f1,f2,f3,f4,f5⟩:=hf it (by simp);have W:=IU (prog:=X.prog) (w:=X.w) (I.ok.hd hc) it lo 1 n;refine W.item i s _ _ hg st λv h' tk hv uf kk=>?_
  obtain⟨t,rfl⟩:=hv;have I1:bC X pins Y H {s with heap:=h',toks:=tk}:=I.turned (λb o hb e=>kk b o (by simpa using hb) e) f0 f1 f3 f4 f5;refine⟨_,rfl,nW (s:={s with heap:=h',toks:=tk}) (n := "range_iterator") uf rfl rfl rfl ⟨.int (lo+i),H,I1,⟨t,?_⟩,⟨rfl,rfl⟩,uf,λb hb=>(hf b hb).1⟩⟩;rw[JI]
 done:=by
  intro X hP hw hK hc i pins s Y H E I hf st hg;obtain⟨f0,f1,f2,f3,f4,f5⟩:=hf it (by simp);exact Hx (I.ok.hd hc) st (by have:n<=i:=hg;lia) λh' eb=>⟨rfl,I.turned (t':=s.toks) (λb o hb e=>eb b o hb e) f0 f1 f3 f4 f5⟩
 self:=λ_ _ _ _ _ st h=>Hy st h
section
variable {X:Cx}{tg:Expr}
def Rc (K:Ap)(t:TE):TI:=λY H R=>t Y H λx c=>∃a,x = .ref a/\(∃xs,eE K c a xs)/\R (ŧ K a) c
def Za (K:Ap)(t:TE):TI:=λY H R=>t Y H λx c=>∃a,x = .ref a/\(∃xs,ky K c a xs)/\R (Ŧ K a) c
theorem df {l:Expr}{t:TE}(hl:PE X l t):PI X tg l (Rc X.K t):=by
 intro pins s Y H R I h;refine cy (hl pins s Y H _ I h) λv c ⟨x,j,f,r,Q⟩=>?_
 obtain⟨a,e,⟨xs,g⟩,q⟩:=Q;subst e;cases r;obtain⟨T,k,p,z⟩:=f.list g;refine IQ p.isList ?_;refine⟨c.heap.objs.size,[c.heap.objs.size],_,_,j,rfl,f.kept (t':=c.toks) λb o e=>Ag _ e,Mh a _,⟨_,Aq _ rfl,rfl,rfl⟩,λb B=>?_,q⟩;have e:b=c.heap.objs.size:=by simpa using B
 subst e;exact f.ow (Ah _) (f.cN.fresh (Ah _))
theorem Qa {l:Expr}{T:TE}(hl:PE X l T):PI X tg l (Za X.K T):=by
 intro pins s Y H R I h;refine cy (hl pins s Y H _ I h) λv c ⟨x,j,f,r,Q⟩=>?_
 obtain⟨a,e,⟨xs,g⟩,q⟩:=Q;subst e;cases r;obtain⟨t,k,p,z⟩:=f.tuple g;refine wpAny_pyIter_tuple (show c.heap.IsTuple a t.toArray from p) ?_;refine⟨c.heap.objs.size,[c.heap.objs.size],_,_,j,rfl,f.kept (t':=c.toks) λb o e=>Ag _ e,xT a _,⟨_,Aq _ rfl,rfl,rfl⟩,λb B=>?_,q⟩;have e:b=c.heap.objs.size:=by simpa using B
 subst e;exact f.ow (Ah _) (f.cN.fresh (Ah _))
theorem PX {pins:List (Ac×B5)}{Y:St}{H:Hp}{s:Af}{R:It->Hp->Prop}{E:Aa->Af->Prop}{lo hi:Int}{t u v:Ku}{tk:Nat}(I:bC X pins Y H s)(h1 : -(2^62)<=lo)(h2:lo<2^62)(f : -(2^62)<=hi)(c:hi<2^62)
  (q:R (Ý lo (hi-lo).toNat) H):AI (model X.prog X.w) X.A (Hz (.ref s.heap.objs.size)) (Š X pins Y tg R) E {s with heap:=s.heap.push {cls:=.type "range",data:=.fields #[.int lo t,.int hi u,.int 1 v]},toks:=tk}:=by
 refine FQ (GC ..) (small_one h1 h2 f c) ?_;have a:bC X pins Y H {s with heap:=s.heap.push {cls:=.type "range",data:=.fields #[.int lo t,.int hi u,.int 1 v]},toks:=tk}:=I.kept λb o e=>Ag _ e
 refine⟨(s.heap.push {cls:=.type "range",data:=.fields #[.int lo t,.int hi u,.int 1 v]}).objs.size,[(s.heap.push {cls:=.type "range",data:=.fields #[.int lo t,.int hi u,.int 1 v]}).objs.size],_,_,H,rfl,
  a.kept (t':=tk) λb o e=>Ag _ e,xU _ lo (hi-lo).toNat,?_,λb h=>?_,q⟩
 .have j:lo+((0:Nat):Int)*1=lo:=by simp
  have g:(((hi-lo).toNat:Nat):Int)-((0:Nat):Int)=AS lo hi 1:=by rw[rangeSize_one];split<;>lia
  rw[j,g];exact Aq _ rfl
 .have e:b=(s.heap.push {cls:=.type "range",data:=.fields #[.int lo t,.int hi u,.int 1 v]}).objs.size:=by simpa using h
  subst e;exact a.ow (Ah _) (a.cN.fresh (Ah _))
def Vp (t:TA):TI:=λY H R=>t Y H λvs a=>∃j:Int,vs=[.int j]/\-(2^62)<=j/\j<2^62/\R (Ý 0 j.toNat) a
theorem dh {a:Expr}{T:TA}{p pos:Dt}(hg:Gl X "range")(m:X.mg "range"=none)(A:PA X [a] T)(k:Av [a] X.env=[(false,eval a X.env)]:=by rfl):PI X tg (.Call (.Name "range" p) [a] [] pos) (Vp T):=by
 intro pins s Y H R I h;refine GX (fG I hg m II (A7 (cy (A pos pins s Y H _ I h) λus n ⟨vs,o,l,f,Q⟩=>?_) k rfl));obtain⟨j,e,Q,g,q⟩:=Q;subst e
 cases f with
 |cons r c=>
  cases c;obtain⟨t,rfl⟩:=r;exact call_range_1 (PX l (by lia) (by lia) Q g (by simpa using q))
def Sn (w:TI)(g:TG)(tb:TS):TS:=λD Y H=>w Y H λJ h=>∃W:Nat->Nat->St->Hp->Prop,(∃m,W 0 m Y h)/\∀i m Y H,W i m Y H->
 (J.stop i H/\D.nx Y H)∨(J.go i H/\∃N:St->Hp->Prop,(∀c a,N c a->∃M,M<m/\W (i+1) M c a)/\∀x a,J.Ä i H x a->g x Y a λe f=>tb {D with nx:=N,ct:=N,bk:=D.nx} e f)
noncomputable def uN (f:List Ac)(h:Heap):List (Ac×B5):=f.filterMap λb=>(h.get? b).map λo=>(b,o)
theorem iT {f:List Ac}{h:Heap}{b:Ac}{o:B5}(B:b∈f)(e:h.get? b=some o):(b,o)∈uN f h:=Hv.mpr ⟨b,B,by rw[e];rfl⟩
theorem Nl {f:List Ac}{h:Heap}{p:Ac×B5}(a:p∈uN f h):p.1∈f/\h.get? p.1=some p.2:=by
 obtain⟨b,B,e⟩:=Hv.mp a
 cases q:h.get? b with
 |none=>rw[q]at e;cases e
 |some o=>
  rw[q]at e;have e':(b,o)=p:=A6 e;subst e';exact⟨B,q⟩
theorem bC.pinned {pins:List (Ac×B5)}{Y:St}{H:Hp}{s:Af}{f:List Ac}(I:bC X pins Y H s)(hf:∀b∈f,jl X pins H b)(O:∀b∈f,∃o,s.heap.get? b=some o/\∀v,o.data≠.cell v):bC X (pins++uN f s.heap) Y H s:=
 I.Li λp a=>(AB.mp a).elim (λz=>I.pin p (Bn _ z)) λz=>by
  obtain⟨h,e⟩:=Nl z;obtain⟨c,f1,f2,_⟩:=hf p.1 h;obtain⟨o,e',d⟩:=O p.1 h;rw[e]at e';cases e';exact⟨e,c,f1,f2,d⟩
theorem bC.lA {pins pl:List (Ac×B5)}{Y:St}{H:Hp}{s:Af}(I:bC X (pins++pl) Y H s):bC X pins Y H s:=I.Li λp h=>I.pin p (Bn _ (Ee _ h))
theorem cX {iter:Expr}{body:List AZ}{wi:TI}{g:TG}{tb:TS}{pos:Dt}(C:PassesOwn (model X.prog X.w) X.A X.env X.xe)(hc:X.calm=true)(hi:PI X tg iter wi)(hg:PG X tg g)(B:PSs X body tb)
  (hs:∀x,F9 iter X.env x=pure x:=by intro _;rfl):PS X (.For tg iter body [] pos) (Sn wi g tb):=by
 intro pins s Y H D I h;refine wpAny_For (cy (hi pins s Y H _ I h) λv s1 h1=>cy h1 λž s2 h2=>?_) hs;obtain⟨it,L,tn,J,H2,e,I2,T,U,f2,W,⟨m0,w0⟩,turn⟩:=h2;subst e;have t:∀{k:Hp},(∀b∈L,k b=none)->∀b∈L,jl X pins k b:=λhn b B=>⟨hn b B,(f2 b B).2⟩
 refine codeAny_forLoop_any (λn s'=>∃i O k,bC X pins O k s'/\tn i s'.heap/\(∀b∈L,k b=none)/\W i n O k) ?_ m0 ⟨0,Y,H2,I2,U,λb B=>(f2 b B).1,w0⟩;rintro n s3 ⟨i,M,Q,I3,p,G,w3⟩;rcases turn i n M Q w3 with⟨stop,qn⟩ | ⟨go,N,hN,step⟩
 .refine Cv C (cy (T.done X rfl rfl rfl hc i pins s3 M Q X.xe I3 (t G) p stop) λr s4 ⟨hr,I4⟩=>?_);subst hr;exact Fk ⟨M,Q,I4,qn⟩
 .refine Cv C (cy (T.item X rfl rfl rfl hc i pins s3 M Q X.xe I3 (t G) p go) λr s4 ⟨u,hr,h4⟩=>?_);subst hr;refine Cv C (cy h4 λ_ s5 ⟨x,H5,I5,r5,y5,l,fr5⟩=>?_);have I5':=I5.pinned (t fr5) (T.obj _ _ l);refine Cv C (cy (hg _ s5 M H5 x u _ I5' r5 (step x H5 y5)) λ_ s6 ⟨Y6,H6,I6,q6⟩=>?_);refine Cv C (cy (B _ s6 Y6 H6 _ I6 q6) λf s7 q=>?_);have again:∀{a:St} {j:Hp},bC X (pins++uN L s5.heap) a j s7->N a j->∃m,m<n/\∃i O k,bC X pins O k s7/\tn i s7.heap/\(∀b∈L,k b=none)/\W i m O k:=λ{a j} c z=>by
   obtain⟨m',hm,w7⟩:=hN a j z;refine⟨m',hm,i+1,a,j,c.lA,T.keep _ _ _ l λb B o e=>(c.pin (b,o) (Bn _ (Bn _ (iT B e)))).1,λb B=>?_,w7⟩;obtain⟨o,e,d⟩:=T.obj _ _ l b B;exact (c.pin (b,o) (Bn _ (Bn _ (iT B e)))).2.1
  cases f with
  |next=>obtain⟨a,j,c,z⟩:=q;exact again c z
  |cont=>obtain⟨a,j,c,z⟩:=q;exact again c z
  |brk=>obtain⟨a,j,c,q⟩:=q;exact⟨a,j,c.lA,q⟩
  |ret v=>obtain⟨x7,a,j,c,r7,q⟩:=q;exact⟨x7,a,j,c.lA,r7,q⟩
end
abbrev R2:=V->V->Hp->VK->Prop
def ly (X:Cx)(f:Aa->Aa->IZ Aa)(r:R2):Prop:=
 ∀(pins:List (Ac×B5)) (s:Af) (Y:St) (H:Hp) (x y:V) (v u:Aa) (Q:VK),bC X pins Y H s->cA x v->cA y u->r x y H Q->
  AI (model X.prog X.w) X.A (f v u) (EP X pins Y Q) X.xe s
def ģ (X:Cx)(f:Aa->IZ Aa)(r:V->Hp->VK->Prop):Prop:=
 ∀(pins:List (Ac×B5)) (s:Af) (Y:St) (H:Hp) (x:V) (v:Aa) (Q:VK),bC X pins Y H s->cA x v->r x H Q->
  AI (model X.prog X.w) X.A (f v) (EP X pins Y Q) X.xe s
def gC (X:Cx)(f:Aa)(r:List V->Hp->VK->Prop):Prop:=
 ∀(pins:List (Ac×B5)) (s:Af) (Y:St) (H:Hp) (xs:List V) (us:List Aa) (Q:VK),bC X pins Y H s->bH xs us->r xs H Q->
  AI (model X.prog X.w) X.A (call f us) (EP X pins Y Q) X.xe s
def Ĥ (X:Cx)(r:V->Hp->(Bool->Hp->Prop)->Prop):Prop:=
 ∀(pins:List (Ac×B5)) (s:Af) (Y:St) (H:Hp) (x:V) (v:Aa) (Q:Bool->Hp->Prop),bC X pins Y H s->cA x v->r x H Q->
  AI (model X.prog X.w) X.A (KI v) (TP X pins Y Q) X.xe s
def OC (r:R2)(t tb:TE):TE:=λY H Q=>t Y H λx c=>tb Y c λy a=>r x y a Q
def ı (r:V->Hp->VK->Prop)(t:TE):TE:=λY H Q=>t Y H λx a=>r x a Q
def rI (C:Int->Int->Prop)(g:Int->Int->V):R2:=λx y H Q=>∃i j,x = .int i/\y = .int j/\C i j/\Q (g i j) H
def M5 (g:Int->Int->V):R2:=λx y H Q=>∃i j,x = .int i/\y = .int j/\Q (g i j) H
def rU (g:Int->V):V->Hp->VK->Prop:=λx H Q=>∃i,x = .int i/\Q (g i) H
section
variable {X:Cx}{a b c:Expr}{ta tb tc:TE}{pos:Dt}
theorem XM (p:PE X a ta)(B:PE X b tb){pins:List (Ac×B5)}{s:Af}{Y:St}{H:Hp}{R:V->V->Hp->Prop}(I:bC X pins Y H s)
  (h:ta Y H λx l=>tb Y l λy e=>R x y e) {Q:Aa->Af->Prop} {f:Aa->Aa->IZ Aa}
  (hf:∀v u k x y e,bC X pins Y e k->cA x v->cA y u->R x y e->AI (model X.prog X.w) X.A (f v u) Q X.xe k):
  AI (model X.prog X.w) X.A (eval a X.env) (λv j=>AI (model X.prog X.w) X.A (eval b X.env) (λu g=>AI (model X.prog X.w) X.A (f v u) Q X.xe g) X.xe j) X.xe s:=by
 refine cy (p pins s Y H _ I h) λv m ⟨x,l,z,n,o⟩=>?_
 refine cy (B pins m Y l _ z o) λu k ⟨y,e,t,r,q⟩=>?_
 exact hf v u k x y e t n r q
theorem aV {op:Ga}{r:R2}(o:ly X (Cy op) r)(A:PE X a ta)(B:PE X b tb):PE X (.BinOp a op b pos) (OC r ta tb):=by
 intro pins s Y H Q I h;exact wpAny_BinOp (XM A B I h λv u e x y k j g f q=>o pins e Y k x y v u Q j g f q)
theorem Qc {op:UnaryOp}{r:V->Hp->VK->Prop}(o:ģ X (unaryOp op) r)(A:PE X a ta):PE X (.UnaryOp op a pos) (ı r ta):=by
 intro pins s Y H Q I h;exact UnaryOp_ (cy (A pins s Y H _ I h) λv e ⟨x,j,g,f,q⟩=>o pins e Y j x v Q g f q)
theorem WV {f:Aa->Aa->IZ Aa}{C:Int->Int->Prop}{g:Int->Int->Int}
  (rule:∀(i j:Int) (t u:Ku) (s:Af) (Q:Aa->Af->Prop) (E:Aa->Af->Prop),C i j->Q (.int (g i j) s.toks) {s with toks:=s.toks+1}->AI (model X.prog X.w) X.A (f (.int i t) (.int j u)) Q E s):
  ly X f (rI C λi j=>.int (g i j)):=by
 intro pins s Y H x y v u Q I e r h;obtain⟨i,j,rfl,rfl,hc,q⟩:=h;obtain⟨t,rfl⟩:=e;obtain⟨t',rfl⟩:=r;exact rule i j t t' s _ _ hc ⟨.int (g i j),H,I.tok _,⟨_,rfl⟩,q⟩
theorem Tn {f:Aa->Aa->IZ Aa}{g:Int->Int->Int}
  (rule:∀(i j:Int) (t u:Ku) (s:Af) (Q:Aa->Af->Prop) (E:Aa->Af->Prop),Q (.int (g i j) s.toks) {s with toks:=s.toks+1}->AI (model X.prog X.w) X.A (f (.int i t) (.int j u)) Q E s):
  ly X f (M5 λi j=>.int (g i j)):=by
 intro pins s Y H x y v u Q I e r h;obtain⟨i,j,rfl,rfl,q⟩:=h;obtain⟨t,rfl⟩:=e;obtain⟨t',rfl⟩:=r;exact rule i j t t' s _ _ ⟨.int (g i j),H,I.tok _,⟨_,rfl⟩,q⟩
theorem To {f:Aa->Aa->IZ Aa}{g:Int->Int->Bool}
  (rule:∀(i j:Int) (t u:Ku) (s:Af) (Q:Aa->Af->Prop) (E:Aa->Af->Prop),Q (.bool (g i j)) s->AI (model X.prog X.w) X.A (f (.int i t) (.int j u)) Q E s):
  ly X f (M5 λi j=>.bl (g i j)):=by
 intro pins s Y H x y v u Q I e r h;obtain⟨i,j,rfl,rfl,q⟩:=h;obtain⟨t,rfl⟩:=e;obtain⟨t',rfl⟩:=r;exact rule i j t t' s _ _ ⟨.bl (g i j),H,I,rfl,q⟩
def Z' (i j:Int):Prop:=0<j/\j<1073741824
def X6 (i j:Int):Prop:=0<=j/\j<=1000000/\i.natAbs<2^64
def NV (i j:Int):Prop:=(-(2^64)<i/\i<2^64)∨(-(2^64)<j/\j<2^64)
theorem NV.ok {i j:Int}(h:NV i j):IntMulOk i j:=by
 rcases h with⟨h1,h2⟩ | ⟨h1,h2⟩
 .exact .of_left (J8 h1 h2)
 .exact .of_right (J8 h1 h2)
theorem xS (k:Nat):(0:Int)<=2^k:=by
 exact Int.natCast_nonneg _
theorem cq:ly X (Cy .Add) (M5 λi j=>.int (i+j)):=Tn λ_ _ _ _ _ _ _ q=>add_int q
theorem di:ly X (Cy .Sub) (M5 λi j=>.int (i-j)):=Tn λ_ _ _ _ _ _ _ q=>sub_int q
theorem gv:ly X (Cy .Mult) (rI NV λi j=>.int (i*j)):=WV λ_ _ _ _ _ _ _ hc q=>mul_int q hc.ok
theorem eZ:ly X (Cy .FloorDiv) (rI Z' λi j=>.int (i / j)):=WV λi j _ _ _ _ _ hc q=>by
 have h1:(0:Int)<j:=hc.1;have h2:j<1073741824:=hc.2;exact floordiv_int (by lia) (by rw[Gp i (by lia)];exact q) (.inl (Eu (by omega)))
theorem fE:ly X (Cy .Mod) (rI (λ_ j=>0<j) λi j=>.int (i%j)):=WV λi j _ _ _ _ _ hc q=>by
 exact mod_int' (by lia) (by rw[Int.fmod_eq_emod_of_nonneg i (by lia)];exact q)
theorem WR:ly X (Cy .Pow) (rI X6 λi j=>.int (i^j.toNat)):=WV λ_ _ _ _ _ _ _ hc q=>pow_int_small hc.1 hc.2.1 hc.2.2 q
theorem gu:ly X (Cy .LShift) (rI X6 λi j=>.int (i*2^j.toNat)):=WV λ_ _ _ _ _ _ _ hc q=>lshift_int_small hc.1 hc.2.1 hc.2.2 q
theorem qj:ly X (Cy .RShift) (rI (λ_ j=>0<=j) λi j=>.int (i / 2^j.toNat)):=WV λi j _ _ _ _ _ hc q=>
 rshift_int hc (by rw[Gp i (xS _)];exact q)
theorem Qm:ly X (Cy .BitAnd) (M5 λi j=>.int (BS i j)):=Tn λ_ _ _ _ _ _ _ q=>and_int q
theorem YP:ly X (Cy .BitOr) (M5 λi j=>.int (Dn i j)):=Tn λ_ _ _ _ _ _ _ q=>or_int q
theorem Ŭ {f:Aa->IZ Aa}{g:Int->Int}
  (rule:∀(i:Int) (t:Ku) (s:Af) (Q:Aa->Af->Prop) (E:Aa->Af->Prop),Q (.int (g i) s.toks) {s with toks:=s.toks+1}->AI (model X.prog X.w) X.A (f (.int i t)) Q E s):
  ģ X f (rU λi=>.int (g i)):=by
 intro pins s Y H x v Q I r h;obtain⟨i,rfl,q⟩:=h;obtain⟨t,rfl⟩:=r;exact rule i t s _ _ ⟨.int (g i),H,I.tok _,⟨_,rfl⟩,q⟩
theorem xR:ģ X (unaryOp .USub) (rU λi=>.int (-i)):=Ŭ λ_ _ _ _ _ q=>neg_int q
end
noncomputable def Yw:V->V->Bool
 | .cB,.cB=>true | .cB,.int _=>true | .int _,.cB=>true | .cB,.bl _=>true | .bl _,.cB=>true | .cB,.str _=>true | .str _,.cB=>true
 | .int _,.int _=>true | .bl _,.bl _=>true | .str _,.str _=>true | .L1 _,.L1 _=>true
 | .int _,.str _=>true | .str _,.int _=>true | .bl _,.str _=>true | .str _,.bl _=>true
 |_,_=>false
def ĸ:R2:=λx y H Q=>Yw x y=true/\Q (.bl (decide (x=y))) H
def ķ:R2:=λx y H Q=>Yw x y=true/\Q (.bl (!decide (x=y))) H
theorem LV {i j:Int}:decide (V.int i=V.int j)=(i==j):=by
 rw[CU];simp
theorem Rv {i j:Bool}:decide (V.bl i=V.bl j)=(i==j):=by
 rw[CU];simp
theorem LU {i j:Al}:decide (V.str i=V.str j)=(i==j):=by
 rw[CU];simp
theorem LW {i j:Array UInt8}:decide (V.L1 i=V.L1 j)=(i.toList==j.toList):=by
 rw[CU];cases i;cases j;simp
section
variable {X:Cx}{a b c:Expr}{ta tb tc:TE}{pos:Dt}
theorem cm {pins:List (Ac×B5)}{Y:St}{H:Hp}{s:Af}{Q:VK}{k f:Bool}(I:bC X pins Y H s)(q:Q (.bl k) H)(e:k=f):EP X pins Y Q (.bool f) s:=by
 subst e;exact⟨.bl k,H,I,rfl,q⟩
theorem gw:ly X (BZ .Eq) ĸ:=by
 intro pins s Y H x y v u Q I f r h;obtain⟨e,q⟩:=h
 cases x with
 |cB=>
  cases f
  cases y with
  |cB=>cases r;exact PySem.EqNone.eq_none_none (cm I q rfl)
  |bl j=>cases r;exact PySem.EqNone.eq_none_bool (cm I q rfl)
  |int j=>obtain⟨t',rfl⟩:=r;exact PySem.EqNone.eq_none_int (cm I q rfl)
  |str j=>obtain⟨t',rfl⟩:=r;exact PySem.EqNone.eq_none_str (cm I q rfl)
  |_=>exact absurd (show false=true from e) AL
 |bl i=>
  cases f
  cases y with
  |cB=>cases r;exact PySem.EqNone.eq_bool_none (cm I q rfl)
  |bl j=>cases r;exact eq_bool (cm I q Rv)
  |str j=>obtain⟨t',rfl⟩:=r;exact PySem.EqMixed.eq_bool_str (cm I q rfl)
  |_=>exact absurd (show false=true from e) AL
 |int i=>
  obtain⟨t,rfl⟩:=f
  cases y with
  |cB=>cases r;exact PySem.EqNone.eq_int_none (cm I q rfl)
  |int j=>obtain⟨t',rfl⟩:=r;exact eq_int (cm I q LV)
  |str j=>obtain⟨t',rfl⟩:=r;exact PySem.EqMixed.eq_int_str (cm I q rfl)
  |_=>exact absurd (show false=true from e) AL
 |str i=>
  obtain⟨t,rfl⟩:=f
  cases y with
  |cB=>cases r;exact PySem.EqNone.eq_str_none (cm I q rfl)
  |bl j=>cases r;exact PySem.EqMixed.eq_str_bool (cm I q rfl)
  |int j=>obtain⟨t',rfl⟩:=r;exact PySem.EqMixed.eq_str_int (cm I q rfl)
  |str j=>obtain⟨t',rfl⟩:=r;exact eq_str (cm I q LU)
  |_=>exact absurd (show false=true from e) AL
 |L1 i=>
  obtain⟨t,rfl⟩:=f
  cases y with
  |L1 j=>obtain⟨t',rfl⟩:=r;exact PySem.W.eq_bytes (cm I q LW)
  |_=>exact absurd (show false=true from e) AL
 |_=>cases y<;>exact absurd (show false=true from e) AL
theorem Ql:ly X (BZ .NotEq) ķ:=by
 intro pins s Y H x y v u Q I f r h;obtain⟨e,q⟩:=h
 cases x with
 |cB=>
  cases f
  cases y with
  |cB=>cases r;exact PySem.EqNone.ne_none_none (cm I q rfl)
  |bl j=>cases r;exact PySem.EqNone.ne_none_bool (cm I q rfl)
  |int j=>obtain⟨t',rfl⟩:=r;exact PySem.EqNone.ne_none_int (cm I q rfl)
  |str j=>obtain⟨t',rfl⟩:=r;exact PySem.EqNone.ne_none_str (cm I q rfl)
  |_=>exact absurd (show false=true from e) AL
 |bl i=>
  cases f
  cases y with
  |cB=>cases r;exact PySem.EqNone.ne_bool_none (cm I q rfl)
  |bl j=>cases r;exact ne_bool (cm I q (congrArg not Rv))
  |str j=>obtain⟨t',rfl⟩:=r;exact PySem.EqMixed.ne_bool_str (cm I q rfl)
  |_=>exact absurd (show false=true from e) AL
 |int i=>
  obtain⟨t,rfl⟩:=f
  cases y with
  |cB=>cases r;exact PySem.EqNone.ne_int_none (cm I q rfl)
  |int j=>obtain⟨t',rfl⟩:=r;exact ne_int (cm I q (congrArg not LV))
  |str j=>obtain⟨t',rfl⟩:=r;exact PySem.EqMixed.ne_int_str (cm I q rfl)
  |_=>exact absurd (show false=true from e) AL
 |str i=>
  obtain⟨t,rfl⟩:=f
  cases y with
  |cB=>cases r;exact PySem.EqNone.ne_str_none (cm I q rfl)
  |bl j=>cases r;exact PySem.EqMixed.ne_str_bool (cm I q rfl)
  |int j=>obtain⟨t',rfl⟩:=r;exact PySem.EqMixed.ne_str_int (cm I q rfl)
  |str j=>obtain⟨t',rfl⟩:=r;exact ne_str (cm I q (congrArg not LU))
  |_=>exact absurd (show false=true from e) AL
 |L1 i=>
  obtain⟨t,rfl⟩:=f
  cases y with
  |L1 j=>obtain⟨t',rfl⟩:=r;exact PySem.W.ne_bytes (cm I q (congrArg not LW))
  |_=>exact absurd (show false=true from e) AL
 |_=>cases y<;>exact absurd (show false=true from e) AL
theorem jX:ly X (BZ .Lt) (M5 λi j=>.bl (decide (i<j))):=To λ_ _ _ _ _ _ _ q=>lt_int q
theorem wH:ly X (BZ .LtE) (M5 λi j=>.bl (decide (i<=j))):=To λ_ _ _ _ _ _ _ q=>le_int q
theorem nL:ly X (BZ .Gt) (M5 λi j=>.bl (decide (j<i))):=To λ_ _ _ _ _ _ _ q=>gt_int q
theorem Ln:ly X (BZ .GtE) (M5 λi j=>.bl (decide (j<=i))):=To λ_ _ _ _ _ _ _ q=>ge_int q
theorem WS:ly X (BZ .Is) (λx y H Q=>y = .cB/\Q (.bl (decide (x = .cB))) H):=by
 intro pins s Y H x y v u Q I r e h;obtain⟨rfl,q⟩:=h;cases e;refine is_none_gen (cm I q ?_);cases x<;>first
  | (cases r;rfl)
  | (obtain⟨t,rfl⟩:=r;rfl)
theorem Th:ly X (BZ .IsNot) (λx y H Q=>y = .cB/\Q (.bl (!decide (x = .cB))) H):=by
 intro pins s Y H x y v u Q I r e h;obtain⟨rfl,q⟩:=h;cases e;refine isnot_none_gen (cm I q ?_);cases x<;>first
  | (cases r;rfl)
  | (obtain⟨t,rfl⟩:=r;rfl)
theorem bJ (b:Expr){op:Gv}(h:op≠.In:=by decide)(h2:op≠.NotIn:=by decide):C3 op b=false:=by
 have f:(op==JY)=false:=by cases op<;>first |rfl |exact absurd rfl h
 have e:(op==Jb)=false:=by cases op<;>first |rfl |exact absurd rfl h2
 cases b<;>simp[C3,f,e]
theorem eD {op:Gv}{r:R2}(o:ly X (BZ op) r)(A:PE X a ta)(B:PE X b tb)(m:C3 op b=false):PE X (.Compare a [op] [b] pos) (OC r ta tb):=by
 intro pins s Y H Q I h;exact wpAny_Compare1 (XM A B I h λv u e x y k j g f q=>o pins e Y k x y v u Q j g f q) m
def OA (t:TE):TT:=λY H Q=>t Y H λx e=>∃k,x = .bl k/\Q k e
theorem bQ {op:Gv}{r:R2}(O:ly X (BZ op) r)(A:PE X a ta)(B:PE X b tb)(M:C3 op b=false):PT X (.Compare a [op] [b] pos) (OA (OC r ta tb)):=by
 intro pins s Y H Q I h;refine HI (cy (A pins s Y H _ I h) λv g ⟨x,J,w,m,o⟩=>cy (B pins g Y J _ w o) λu f ⟨y,G,t,l,n⟩=>
  cy (O pins f Y G x y v u _ t m l n) λc L ⟨z,C,p,j,k,e,q⟩=>?_) M
 subst e;cases j;exact Bt ⟨C,p,q⟩
def xX (r f:R2)(ta tb tc:TE):TE:=λY H Q=>ta Y H λx j=>tb Y j λy h=>r x y h λz e=>∃k,z = .bl k/\
 (if k=true then tc Y e λw g=>f y w g Q else Q (.bl false) e)
theorem Qf {op op':Gv}{r g:R2}(O:ly X (BZ op) r)(o:ly X (BZ op') g)(ha:PE X a ta)(U:PE X b tb)(hc:PE X c tc)
  (T:lastMarks [op,op'] [b,c]=false:=by with_unfolding_all rfl):PE X (.Compare a [op,op'] [b,c] pos) (xX r g ta tb tc):=by
 intro pins s Y H Q I h;refine Compare_chain (cy (ha pins s Y H _ I h) λv A ⟨x,H1,I1,G,M⟩=>chain_link (cy (U pins A Y H1 _ I1 M) λu t ⟨y,H2,I2,f,L⟩=>
  cy (O pins t Y H2 x y v u _ I2 G f L) λd p ⟨z,l,j,C,k,e,q⟩=>?_)) T
 subst e;cases C;refine Bt ?_
 cases k with
 |false=>exact ite_ff ⟨.bl false,l,j,rfl,q⟩
 |true=>exact ite_tt (chain_last (cy (hc pins p Y l _ j q) λw n ⟨m,H4,I4,B,J⟩=>o pins n Y H4 y m u w Q I4 f B J))
theorem P7 {op op':Gv}{r g:R2}(U:ly X (BZ op) r)(o:ly X (BZ op') g)(ha:PE X a ta)(hb:PE X b tb)(hc:PE X c tc)
  (hm:lastMarks [op,op'] [b,c]=false:=by with_unfolding_all rfl):PT X (.Compare a [op,op'] [b,c] pos) (OA (xX r g ta tb tc)):=by
 intro pins s Y H Q I h;refine isTrue_chain (cy (ha pins s Y H _ I h) λv A ⟨x,H1,I1,J,T⟩=>test_link (cy (hb pins A Y H1 _ I1 T) λu t ⟨y,H2,I2,f,O⟩=>
  cy (U pins t Y H2 x y v u _ I2 J f O) λd p ⟨z,l,j,G,k,e,q⟩=>?_)) hm
 subst e;cases G;refine Bt ?_
 cases k with
 |false=>
  obtain⟨k',e',q'⟩:=q;cases e';exact ite_ff ⟨l,j,q'⟩
 |true=>
  refine ite_tt (test_last (cy (hc pins p Y l _ j q) λw n ⟨m,H4,I4,C,M⟩=>cy (o pins n Y H4 y m u w _ I4 f C M) λd' s5 ⟨z2,H5,I5,B,k2,e2,L⟩=>?_));subst e2;cases B;exact Bt ⟨H5,I5,L⟩
def XZ (K:Ap)(x:V)(H:Hp)(k:Bool):Prop:=
 match x with
 | .cB=>k=false
 | .bl b=>k=b
 | .int i=>k=(i != 0)
 | .str y=>y.length<=AM/\k=((y.length:Int) != 0)
 | .L1 y=>y.size<=AM/\k=((y.size:Int) != 0)
 | .ref p=>(∃xs,eE K H p xs/\k = !xs.isEmpty)∨(∃xs,ky K H p xs/\k = !xs.isEmpty)∨∃v,H p=some (.dK v)/\k = !v.isEmpty
 |_=>False
theorem yW {e:Type}{k:List (e×V)}{vs:List (e×Aa)}(r:KV k vs):(!vs.isEmpty) = !k.isEmpty:=by
 cases r<;>rfl
theorem qM {xs:List V}{t:List Aa}(r:bH xs t):(!t.toArray.isEmpty) = !xs.isEmpty:=by
 cases r<;>simp
theorem mZ:(AM:Nat)<2^63:=by rw[Cr];decide
theorem V3:Ĥ X (λx H Q=>∃k,XZ X.K x H k/\Q k H):=by
 intro pins s Y H x v Q I g h;obtain⟨k,e,q⟩:=h;have u:AM=16777216:=Cr
 cases x with
 |cB=>
  cases g;have e':k=false:=e;subst e';exact truthy_none ⟨H,I,q⟩
 |bl b=>
  cases g;have e':k=b:=e;subst e';exact Bt ⟨H,I,q⟩
 |int i=>
  obtain⟨t,rfl⟩:=g;have e':k=(i != 0):=e;subst e';exact PySem.P.truthy_int ⟨H,I,q⟩
 |str y=>
  obtain⟨t,rfl⟩:=g;obtain⟨n,e'⟩:y.length<=AM/\k=((y.length:Int) != 0):=e;subst e';exact PySem.P.truthy_str (by lia) ⟨H,I.tok _,q⟩
 |L1 y=>
  obtain⟨t,rfl⟩:=g;obtain⟨n,e'⟩:y.size<=AM/\k=((y.size:Int) != 0):=e;subst e';exact PySem.W.truthy_bytes (by lia) ⟨H,I.tok _,q⟩
 |ref p=>
  cases g;have e':(∃xs,eE X.K H p xs/\k = !xs.isEmpty)∨(∃xs,ky X.K H p xs/\k = !xs.isEmpty)∨∃f,H p=some (.dK f)/\k = !f.isEmpty:=e
  rcases e' with⟨xs,j,e'⟩ | ⟨xs,j,e'⟩ | ⟨f,j,e'⟩
  .subst e';obtain⟨T,r,pl,z⟩:=I.list j;have l:=r.length;exact wpAny_truthy_list pl.isList (by simp only[Ay];lia) ⟨H,I.tok _,by rw[qM r];exact q⟩
  .subst e';obtain⟨T,r,pl,z⟩:=I.tuple j;have l:=r.length;exact truthy_tuple pl (by simp only[Ay];lia) ⟨H,I.tok _,by rw[qM r];exact q⟩
  .subst e';obtain⟨z,o,vs,r,m⟩:f.length<=AM/\(p==E7)=false/\∃vs,KV f vs/\s.heap.DictOf (u9 X.prog X.w) p vs:=I.cN p _ j
   have l:f.length=vs.length:=Paired.length r;exact wpAny_truthy_dict o m (by lia) ⟨H,I.tok _,by rw[yW r];exact q⟩
 |_=>exact (show False from e).elim
theorem P6 (A:PE X a ta)(g:∀whole,isTrue a X.env whole=(do let v <- whole;F6 a.pos;EC [v] (KI v))):
  PT X a (λY H Q=>ta Y H λx e=>∃k,XZ X.K x e k/\Q k e):=by
 intro pins s Y H Q I h;exact Kk (cy (A pins s Y H _ I h) λv f ⟨x,l,j,r,q⟩=>V3 pins f Y l x v Q j r q) (g _)
theorem jo {x:V}{us:List Aa}(r:bH [x] us):∃u,us=[u]/\cA x u:=by
 cases r with
 |cons f e=>cases e;exact⟨_,rfl,f⟩
theorem vM {x y:V}{us:List Aa}(r:bH [x,y] us):∃u w,us=[u,w]/\cA x u/\cA y w:=by
 cases r with
 |cons h g=>
  cases g with
  |cons f e=>cases e;exact⟨_,_,rfl,h,f⟩
theorem xq:gC X (.builtin "abs") (λxs H Q=>∃i,xs=[.int i]/\Q (.int (if i<0 then -i else i)) H):=by
 intro pins s Y H xs us Q I r h;obtain⟨i,rfl,q⟩:=h;obtain⟨u,rfl,t,rfl⟩:=jo r;exact call_abs_int λu tk=>⟨.int (if i<0 then -i else i),H,I.tok _,⟨_,rfl⟩,q⟩
theorem NL (hc:X.calm=true):gC X (.builtin "min") (λxs H Q=>∃i j,xs=[.int i,.int j]/\Q (.int (if j<i then j else i)) H):=by
 intro pins s Y H xs us Q I r h;obtain⟨i,j,rfl,q⟩:=h;obtain⟨u,w,rfl,⟨t,rfl⟩,⟨t',rfl⟩⟩:=vM r;refine min_two_ints (I.ok.hd hc) λh' tk k=>⟨_,H,I.kept k,?_,q⟩
 by_cases J:j<i
 .rw [if_pos J,if_pos J];exact⟨_,rfl⟩
 .rw [if_neg J,if_neg J];exact⟨_,rfl⟩
end
structure zA (h:Heap) (x dx C:Ac) (mA:Al->Option Aa):Prop where
 obj:h.get? x=some (E_ C dx)
 ns:h.Ns1 dx mA
 ne:dx≠x
theorem Nu {h:Heap}{f:Ac}{m:Al->Option Aa}(n:h.Ns1 f m):∃O,h.get? f=some O/\∀name,IA name O=some (m name):=by
 obtain⟨o,c,p,j,hd,l,_,M⟩:=n;refine⟨o,j,λname=>?_⟩;have e:=M name;unfold nsFind JN at e;rw[<- Array.find?_toList]at e;unfold IA;rw[hd];dsimp only;split
 .rename_i y q;rw[q]at e;exact congrArg some e
 .rename_i q;rw[q]at e;have a:c.toList.any (·.refKey)=false:=by
   rw[List.any_eq_false];intro y g;obtain⟨z,t,k⟩:=l y (Array.mem_toList_iff.mp g);simp[Ki,k]
  have A:¬ c.toList.any (·.refKey)=true:=by rw[a];exact AL
  rw[if_neg A];exact congrArg some e
theorem zA.look {h:Heap}{x a C:Ac}{m:Al->Option Aa}(I:zA h x a C m):∃o,PySem.W.InstAt h x (E_ C a) C (some o)/\∀name,IA name o=some (m name):=
 let⟨o,O,hl⟩:=Nu I.ns
 ⟨o,⟨I.obj,rfl,rfl,O⟩,hl⟩
section
variable {prog:AA}{w:AT}{A:AU}{E:Aa->Af->Prop}{s:Af}{K:Ap}{x dx C f:Ac}{mA:Al->Option Aa}{name:Al}{v:Aa}
theorem Uc {expr:Bool}{Q:Aa->Af->Prop}(X:K.In s.heap)(I:zA s.heap x dx C mA)(hg:F_ K C name=true)(e:Gk K C=true)
  (g:DL K (.ref C) name=some none) (c:mA name=some v) (a:JQ v=true) (h:Q v {s with toks:=s.toks+1}):
  AI (model prog w) A (Kc (.ref x) name expr) Q E s:=by
 obtain⟨o,J,hl⟩:=I.look;exact PySem.W.get_value X J (Gq hg).1 (PySem.W.findObj_own e g rfl (by rw[hl,c])) a h
theorem Rh {pl:IZ Bool}{Q:Aa×List Aa->Af->Prop}(X:K.In s.heap)(I:zA s.heap x dx C mA)(hg:F_ K C name=true)
  (hf:DL K (.ref C) name=some (some (.ref f))) (ht:Ke K (.ref f)=true) (a:mA name=none) (h:Q (.ref f,[.ref x]) s):
  AI (model prog w) A (Fz (.ref x) name pl) Q E s:=by
 obtain⟨o,J,hl⟩:=I.look;exact PySem.W.method_fn X J (Gq hg).1 (Gq hg).2 hf (beq_iff_eq.mp ht) (by show (IA name o).map (·.isSome)=some false;rw[hl,a];rfl) h
theorem SG {ns:List Al}{Q:Unit->Af->Prop}(X:K.In s.heap)(I:zA s.heap x dx C mA)
  (k:DL K (.ref C) "__setattr__"=some (some (.builtin "object.__setattr__"))) (p:Hn K C=true) (ht:IV K C name=some none) (l:Gk K C=true)
  (hw:PySem.Within mA ns) (z:ns.length<=AM)
  (h:∀h',zA h' x dx C (λy=>if y=name then some v else mA y)->Heap.SameBut dx s.heap h'->Q () {s with heap:=h',toks:=s.toks+2}):
  AI (model prog w) A (setAttr (.ref x) name v) Q E s:=by
 obtain⟨O,J,hl⟩:=I.look;refine PySem.W.set_plain X J k (PySem.W.osa_open (s:={s with toks:=s.toks+1}) X J p ht λb=>?_);obtain⟨cd,hc,e⟩:=PySem.W.any_some l;have j:s.heap.get? x=some ⟨.ref C,some dx,.plain,#[]⟩:=I.obj;refine Ae (AN (Ae (Ae (wpAny_loadPart j (Ae (PySem.W.Looks.here (s:={s with toks:=s.toks+1}) (PySem.W.looks_clsIn X hc) ?_))))));rw[e];refine AN (a:=some dx) (Ae (AN (Ae ?_)));refine wpAny_nsSet1 (s:={s with toks:=s.toks+1}) I.ns λh' n c=>?_
 obtain⟨r,m,q,o,y7,g⟩:=n.count (PySem.Within.cons name v hw);refine Ae (wpAny_lookBehind o (by rw[y7];exact pastItsLine_dict (Bv g (by rw[AR];lia))) ?_);exact AN (h _ ⟨(c.2 _ (Be I.ne)).trans I.obj,n,I.ne⟩ c)
theorem QQ {R:Gm->Af->Prop}{vs:List Aa}{k:List (Al×Aa)}(X:K.In s.heap)(m:IW K C=true)
  (hi:DL K (.ref C) "__init__"=some (some (.ref f))) (hf:PySem.W.typeIn K (.ref f)=some (.type "function"))
  (h:Cd (model prog w) (A.under (.builtin "type.__call__" ⟨.ref C::vs,k⟩)) (.call (.ref f) ⟨.ref (s.heap.objs.size+1)::vs,k⟩) (PySem.W.InitBack (s.heap.objs.size+1) R)
   {s with heap:=(s.heap.push Dl).push (E_ C s.heap.objs.size)}):
  Cd (model prog w) A (.call (.ref C) ⟨vs,k⟩) R s:=by
 exact PySem.W.make_core (PySem.W.makes_of X m) (PySem.W.looks_findIn X hi) (λself=>PySem.W.bind_fn X self hf) (.inl rfl) h
end
noncomputable def gE (f:Al)(v:V):List (Al×V)->List (Al×V)
 | []=>[(f,v)]
 | (g,x)::r=>if g=f then (g,v)::r else (g,x)::gE f v r
theorem nS (f g:Al)(v:V):∀fs:List (Al×V),(gE f v fs).lookup g=if g=f then some v else fs.lookup g
 | []=>by
  show B9 g [(f,v)]=_
  by_cases h:g=f
  .have B:(g==f)=true:=beq_iff_eq.mpr h;simp only[B9,B,if_pos h]
  .have B:(g==f)=false:=beq_eq_false_iff_ne.mpr h;simp only[B9,B,if_neg h]
 | (k,x)::r=>by
  have c:=nS f g v r;rw[show gE f v ((k,x)::r)=(if k=f then (k,v)::r else (k,x)::gE f v r) from rfl];by_cases a:k=f
  .rw [if_pos a];by_cases h:g=k
   .have B:(g==k)=true:=beq_iff_eq.mpr h;simp only[B9,B,if_pos (h.trans a)]
   .have B:(g==k)=false:=beq_eq_false_iff_ne.mpr h;simp only[B9,B,if_neg (λe:g=f=>h (e.trans a.symm))]
  .rw [if_neg a];by_cases h:g=k
   .have B:(g==k)=true:=beq_iff_eq.mpr h;simp only[B9,B,if_neg (λe:g=f=>a (h.symm.trans e))]
   .have B:(g==k)=false:=beq_eq_false_iff_ne.mpr h;simp only[B9,B];exact c
theorem m6 (f:Al)(v:V):∀fs:List (Al×V),f∈(gE f v fs).map (·.1)/\∀g,g∈fs.map (·.1)->g∈(gE f v fs).map (·.1)
 | []=>⟨by simp[gE],λg h=>by simp at h⟩
 | (k,x)::r=>by
  obtain⟨j,c⟩:=m6 f v r;rw[show gE f v ((k,x)::r)=(if k=f then (k,v)::r else (k,x)::gE f v r) from rfl];by_cases a:k=f
  .subst a;exact⟨by simp,λg h=>by simpa using h⟩
  .rw [if_neg a];refine⟨?_,λg h=>?_⟩
   .exact Aw _ j
   .rcases AJ.mp h with e |e
    .exact AJ.mpr (.inl e)
    .exact Aw _ (c g e)
theorem nU (f:Al)(v:V):∀fs:List (Al×V),(gE f v fs).length<=fs.length+1
 | []=>by simp[gE]
 | (k,x)::r=>by
  have a:=nU f v r;rw[show gE f v ((k,x)::r)=(if k=f then (k,v)::r else (k,x)::gE f v r) from rfl];by_cases h:k=f
  .rw [if_pos h,AR,AR];lia
  .rw [if_neg h,AR,AR];lia
theorem vB.some_of {v:V}{o:Option Aa}(r:vB (some v) o):∃u,o=some u/\cA v u:=by
 cases o with
 |none=>exact (show False from r).elim
 |some u=>exact⟨u,rfl,r⟩
theorem vB.none_of {o:Option Aa}(r:vB none o):o=none:=by
 cases o with
 |none=>rfl
 |some u=>exact (show False from r).elim
theorem Ny {v:V}{u:Aa}(r:cA v u):JQ u=true:=by
 cases v with
 |cB=>cases (show u=Fp from r);rfl
 |bl b=>cases (show u=Fq b from r);rfl
 |int i=>obtain⟨t,e⟩:=(show ∃t,u=DN i t from r);cases e;rfl
 |str x=>obtain⟨t,e⟩:=(show ∃t,u=Gu x t from r);cases e;rfl
 |L1 b=>obtain⟨t,e⟩:=(show ∃t,u=IY b t from r);cases e;rfl
 |Xv b=>obtain⟨t,e⟩:=(show ∃t,u=GU b t from r);cases e;rfl
 |ref a=>cases (show u=Bk a from r);rfl
 |ty n=>cases (show u=EB n from r);rfl
section
variable {P:AA}{w:AT}{H H':Hp}{h h':Heap}{a C dx:Ac}{fs fs':List (Al×V)}
theorem oS (o:kL P w H h)(e:H a=some (.ins C dx fs)):∃m,zA h a dx C m/\(∀f,vB (fs.lookup f) (m f))/\PySem.Within m (fs.map (·.1))/\fs.length<=1000/\H dx=some (.own a):=by
 obtain⟨d,z,ne,ob,m,n,r,q⟩:=(show el P w H h a (.ins C dx fs) from o a _ e)
 exact⟨m,⟨ob,n,ne⟩,r,q,z,d⟩
end
structure xP (K:Ap) (C:Ac):Prop where
 pg:F_ K C GG=true
 hd:Gk K C=true
 po:Hn K C=true
 sa:DL K (.ref C) "__setattr__"=some (some (.builtin "object.__setattr__"))
theorem xP.get {K:Ap}{C:Ac}(c:xP K C)(f:Al):F_ K C f=true:=c.pg
def hZ (K:Ap)(C:Ac)(f:Al):Prop:=DL K (.ref C) f=some none
theorem hZ.Yo {K:Ap}{C:Ac}{f:Al}(n:hZ K C f):IV K C f=some none:=by
 unfold IV;rw[show DL K (.ref C) f=some none from n];rfl
structure RY (K:Ap) (C:Ac) (m:Al) (f:Ac):Prop where
 at_:DL K (.ref C) m=some (some (.ref f))
 fn:Ke K (.ref f)=true
 kp:DJ K (.ref f)=true
section
variable {X:Cx}{pins:List (Ac×B5)}{Y:St}{H:Hp}{s:Af}{a C dx:Ac}{fs:List (Al×V)}{f:Al}{v:V}{A:AU}{E:Aa->Af->Prop}
theorem qR {b:Bool}{Q:Aa->Af->Prop}(I:bC X pins Y H s)(e:H a=some (.ins C dx fs))(c:xP X.K C)(n:hZ X.K C f)(l:fs.lookup f=some v)
  (h:∀u g,bC X pins Y H g->cA v u->Q u g):AI (model X.prog X.w) A (Kc (.ref a) f b) Q E s:=by
 obtain⟨m,O,r,_,_,_⟩:=oS I.cN e;obtain⟨u,j,U⟩:=vB.some_of (o:=m f) (by rw[<- l];exact r f);exact Uc I.kE O (c.get f) c.hd n j (Ny U) (h u _ (I.tok _) U)
theorem qQ {m:Al}{g:Ac}{pl:IZ Bool}{Q:Aa×List Aa->Af->Prop}(I:bC X pins Y H s)(e:H a=some (.ins C dx fs))(c:xP X.K C)(k:RY X.K C m g)(l:fs.lookup m=none)
  (h:Q (.ref g,[.ref a]) s):AI (model X.prog X.w) A (Fz (.ref a) m pl) Q E s:=by
 obtain⟨M,O,r,_,_,_⟩:=oS I.cN e;have hn:M m=none:=vB.none_of (by rw[<- l];exact r m);exact Rh I.kE O (c.get m) k.at_ k.fn hn h
theorem pJ {y:V}{u:Aa}{Q:Unit->Af->Prop}(I:bC X pins Y H s)(e:H a=some (.ins C dx fs))(c:xP X.K C)(n:hZ X.K C f)(hl:fs.length<1000)(p:cA y u)
  (h:∀l,bC X pins Y (cP H a (.ins C dx (gE f y fs))) l->Q () l):AI (model X.prog X.w) A (setAttr (.ref a) f u) Q E s:=by
 obtain⟨M,O,r,k,_,m⟩:=oS I.cN e;have t:(fs.map (·.1)).length<=AM:=by rw[Au,Cr];lia
 refine SG I.kE O c.sa c.po n.Yo c.hd k t λh' j B=>h _ ?_
 have hd:∃o,h'.get? dx=some o:=let⟨o,_,_,e',_⟩:=j.ns;⟨o,e'⟩
 refine I.write (by rw[e];exact DZ) (.inr m) (λb q G z=>(B.2 b G).trans z) hd ?_;refine⟨by rw[bI O.ne];exact m,?_,O.ne,j.obj,_,j.ns,λg=>?_,λg hg=>?_⟩
 .have:=nU f y fs;lia
 .rw [nS];by_cases q:g=f
  .rw [if_pos q,if_pos q];exact p
  .rw [if_neg q,if_neg q];exact r g
 .by_cases q:g=f
  .rw [q];exact (m6 f y fs).1
  .refine (m6 f y fs).2 g (k g λz=>hg ?_);show (if g=f then some u else M g)=none
   rw[if_neg q];exact z
theorem bC.made (I:bC X pins Y H s):bC X pins Y (cP (cP H s.heap.objs.size (.own (s.heap.objs.size+1))) (s.heap.objs.size+1) (.ins C s.heap.objs.size []))
  {s with heap:=(s.heap.push Dl).push (E_ C s.heap.objs.size)}:=by
 have c:(s.heap.push Dl).get? s.heap.objs.size=some Dl:=Aq s.heap rfl;have k:((s.heap.push Dl).push (E_ C s.heap.objs.size)).get? (s.heap.objs.size+1)=some (E_ C s.heap.objs.size):=by
  have:=Aq (s.heap.push Dl) (o:=E_ C s.heap.objs.size) rfl
  rwa[Dm]at this
 have j:(s.heap.push Dl).Ns s.heap.objs.size (λ_=>none):=⟨Dl,#[],_,c,rfl,(λe g=>absurd g (by simp)),λ_=>rfl⟩
 have l:=I.laid (o:=.own (s.heap.objs.size+1)) (h':=s.heap.push Dl) (t':=s.toks) (λb u q=>Ag _ q) (Ah _) ⟨_,c⟩;refine l.laid (a:=s.heap.objs.size+1) (o:=.ins C s.heap.objs.size []) (t':=s.toks) (λb u q=>Ag _ q) (Ii (Dm _ _)) ?_;have ne:s.heap.objs.size≠s.heap.objs.size+1:=Bm (Ig _);refine⟨by rw[bI ne,a0],Br _,ne,k,λ_=>none,(Heap.Ns1.of_empty j).at λo q=>Ag _ q,λ_=>DZ,λy h=>absurd rfl h⟩
theorem UA {prog:AA}{w:AT}{env:DU}{e:Expr}{f:Al}{pos:Dt}{s:Af}{Q:Aa->Af->Prop}(B:FM e f env (eval e env)=eval e env)
  (h:AI (model prog w) A (eval e env) (λo c=>AI (model prog w) A (Kc o f true) Q E c) E s):AI (model prog w) A (eval (.Attribute e f pos) env) Q E s:=
 Attribute_any_ h (by rw[arm_eval_Attribute,B])
end
def xW (K:Ap)(t:TE)(f:Al):TE:=λY H Q=>t Y H λx c=>∃a C e fs v,x = .ref a/\c a=some (.ins C e fs)/\xP K C/\hZ K C f/\fs.lookup f=some v/\Q v c
def Wr (K:Ap)(T t:TE)(f:Al):TS:=λD Y H=>t Y H λy g=>T Y g λx e=>∃a C c fs,x = .ref a/\e a=some (.ins C c fs)/\xP K C/\hZ K C f/\fs.length<1000/\
 D.nx Y (cP e a (.ins C c (gE f y fs)))
def X5 (X:Cx)(op:Ga)(r:V->V->Hp->VK->Prop):Prop:=
 ∀(pins:List (Ac×B5)) (s:Af) (Y:St) (H:Hp) (x y:V) (u v:Aa) (Q:VK),bC X pins Y H s->cA x u->cA y v->r x y H Q->AI (model X.prog X.w) X.A (Jj op u v) (EP X pins Y Q) X.xe s
def K_ (K:Ap)(T t:TE)(r:V->V->Hp->VK->Prop)(f:Al):TS:=λD Y H=>T Y H λx h=>∃a C j fs v,x = .ref a/\h a=some (.ins C j fs)/\xP K C/\hZ K C f/\fs.lookup f=some v/\
 t Y h λy k=>r v y k λz g=>∃e c,g a=some (.ins C e c)/\c.length<1000/\D.nx Y (cP g a (.ins C e (gE f z c)))
section
variable {X:Cx}{o e value:Expr}{f:Al}{pos pos' Sh:Dt}{ta tv:TE}
theorem ck (g:PE X e ta)(B:FM e f X.env (eval e X.env)=eval e X.env):PE X (.Attribute e f pos) (xW X.K ta f):=by
 intro pins s Y H Q I h;refine UA B (cy (g pins s Y H _ I h) λu w ⟨x,m,k,r,a,C,z,fs,v,ex,A,c,n,l,q⟩=>?_);subst ex;obtain rfl:u=Bk a:=r;exact qR k A c n l λp t j U=>⟨v,m,j,U,q⟩
theorem gp (A:PE X o ta)(k:PE X value tv)(m:Hk value (some (.Attribute o f pos')) pos.line X.env=pure false):PS X (.Assign [.Attribute o f pos'] value pos) (Wr X.K ta tv f):=by
 intro pins s Y H D I h;refine plainObj_wpAny_Assign_Attribute (cy (k pins s Y H _ I h) λu g ⟨y,B,z,r,q⟩=>cy (A pins g Y B _ z q) λv J ⟨x,M,w,j,a,C,L,fs,ex,p,c,n,l,Q⟩=>?_) m;subst ex;obtain rfl:v=Bk a:=j;exact pJ w p c n l r λG t=>⟨Y,_,t,Q⟩
theorem ic {op:Ga}{r:V->V->Hp->VK->Prop}(J:PE X o ta)(G:PE X value tv)(p:X5 X op r):PS X (.AugAssign (.Attribute o f Sh) op value pos) (K_ X.K ta tv r f):=by
 intro pins s Y H D I h;refine wpAny_AugAssign_AttributeAny (cy (J pins s Y H _ I h) λO s1 ⟨x,H1,I1,t,a,C,dx,fs,v,ex,T,c,n,l,q⟩=>?_);subst ex;obtain rfl:O=Bk a:=t;refine qR I1 T c n l λu j I2 U=>cy (G pins j Y H1 _ I2 q) λw g ⟨y,H2,I3,m,B⟩=>cy (p pins g Y H2 v y u w _ I3 U m B) λw4 s4 ⟨z,H3,I4,k,Ö,M,A,L,Q⟩=>?_
 exact pJ I4 A c n L k λs5 I5=>⟨Y,_,I5,Q⟩
def ñ:V->V->Hp->VK->Prop:=λx y H Q=>∃i j,x = .int i/\y = .int j/\Q (.int (i+j)) H
def ï:V->V->Hp->VK->Prop:=λx y H Q=>∃i j,x = .int i/\y = .int j/\Q (.int (i-j)) H
theorem Q9:X5 X .Add ñ:=by
 rintro pins s Y H x y u v Q I a r ⟨i,j,rfl,rfl,q⟩;obtain⟨t,rfl⟩:=(show ∃t,u=DN i t from a)
 obtain⟨t',rfl⟩:=(show ∃t',v=DN j t' from r)
 exact HL ⟨.int (i+j),H,I.tok _,⟨_,rfl⟩,q⟩
theorem yX:X5 X .Sub ï:=by
 rintro pins s Y H x y u v Q I a r ⟨i,j,rfl,rfl,q⟩;obtain⟨t,rfl⟩:=(show ∃t,u=DN i t from a)
 obtain⟨t',rfl⟩:=(show ∃t',v=DN j t' from r)
 exact JC ⟨.int (i-j),H,I.tok _,⟨_,rfl⟩,q⟩
end
section
variable {X:Cx}{pins:List (Ac×B5)}{Y:St}{H:Hp}{s:Af}{A:AU}{E:Aa->Af->Prop}{Q:Aa->Af->Prop}{c:Aa}{b:Bool}
inductive kJ (K:Ap) (H:Hp):V->Aa->Prop where
 |cB:kJ K H .cB (.type "NoneType")
 |bl (x:Bool):kJ K H (.bl x) (.type "bool")
 |int (i:Int):kJ K H (.int i) (.type "int")
 |str (x:Al):kJ K H (.str x) (.type "str")
 |Xv (x:UInt64):kJ K H (.Xv x) (.type "float")
 |lst {a:Ac} {xs:List V} (e:H a=some (.lst xs)):kJ K H (.ref a) (.type "list")
 |eh {a:Ac} {o:B5} {xs:List V} (e:H a=some (.eh o (.lst xs))):kJ K H (.ref a) (.type "list")
 |tup {a:Ac} {xs:List V} (e:H a=some (.tup xs)):kJ K H (.ref a) (.type "tuple")
 |dK {a:Ac} {Y1:List (vG×V)} (e:H a=some (.dK Y1)):kJ K H (.ref a) (.type "dict")
 |dT {a:Ac} {Y1:List (List vG×V)} (e:H a=some (.dT Y1)):kJ K H (.ref a) (.type "dict")
 |ins {a C dx:Ac} {fs:List (Al×V)} (e:H a=some (.ins C dx fs)) (cl:xP K C) (ha:DL K (.ref C) "__class__"=some (some (.builtin "object.__class__")))
   (hn:PySem.W.specialIn K (.builtin "object.__class__") "__get__"=some (some (.builtin "getset_descriptor.__get__"))) (htk:PySem.W.takesIn K (.builtin "object.__class__")=some true)
   (hm:PySem.W.mroIn K C (.type "object")=some true):kJ K H (.ref a) (.ref C)
theorem km {x:V}{u t:Aa}(I:bC X pins Y H s)(r:cA x u)(ty:kJ X.K H x t)(e:ID X.K t c=some b)(h:∀tk,Q (.bool b) {s with toks:=tk}):
  AI (model X.prog X.w) A (call (.builtin "isinstance") [u,c]) Q E s:=by
 cases ty with
 |cB=>cases (show u=Fp from r);exact CP PySem.W.kitx_none I.kE DZ e (λz=>nomatch z) h
 |bl y=>cases (show u=Fq y from r);exact CP PySem.W.kitx_bool I.kE DZ e (λz=>nomatch z) h
 |int i=>obtain⟨t,q⟩:=(show ∃t,u=DN i t from r);cases q;exact CP PySem.W.kitx_int I.kE DZ e (λz=>nomatch z) h
 |str y=>obtain⟨t,q⟩:=(show ∃t,u=Gu y t from r);cases q;exact CP PySem.W.kitx_str I.kE DZ e (λz=>nomatch z) h
 |Xv y=>obtain⟨t,q⟩:=(show ∃t,u=GU y t from r);cases q;exact CP PySem.W.kitx_float I.kE DZ e (λz=>nomatch z) h
 | @lst a xs f=>
  cases (show u=Bk a from r)
  obtain⟨_,_,n,_,h1⟩:=(show el X.prog X.w H s.heap a (.lst xs) from I.cN a _ f)
  exact CP Hq I.kE ⟨_,h1,rfl⟩ e (λz=>nomatch z) h
 | @eh a ob xs f=>
  cases (show u=Bk a from r)
  obtain⟨_,_,_,n,_,h1⟩:=(show el X.prog X.w H s.heap a (.eh ob (.lst xs)) from I.cN a _ f)
  exact CP Hq I.kE ⟨_,h1,rfl⟩ e (λz=>nomatch z) h
 | @tup a xs f=>
  cases (show u=Bk a from r)
  obtain⟨_,_,_,p⟩:=(show el X.prog X.w H s.heap a (.tup xs) from I.cN a _ f)
  obtain⟨o,h1,h2,_⟩:=p;exact CP IC I.kE ⟨o,h1,h2⟩ e (λz=>nomatch z) h
 | @dK a k f=>
  cases (show u=Bk a from r)
  obtain⟨_,_,vs,_,p⟩:=(show el X.prog X.w H s.heap a (.dK k) from I.cN a _ f)
  obtain⟨o,j,v,h1,h2,_⟩:=p;exact CP Hr I.kE ⟨o,h1,h2.1⟩ e (λz=>nomatch z) h
 | @dT a k f=>
  cases (show u=Bk a from r)
  obtain⟨_,_,xs,_,o,j,v,h1,h2,_⟩:=(show el X.prog X.w H s.heap a (.dT k) from I.cN a _ f)
  exact CP Hr I.kE ⟨o,h1,h2.1⟩ e (λz=>nomatch z) h
 | @ins a C G fs f l g hn T m=>
  cases (show u=Bk a from r)
  obtain⟨M,O,_⟩:=oS I.cN f;obtain⟨B,J,_⟩:=O.look;exact CP (PySem.W.kitx_own (l.get _) l.hd g hn T m) I.kE J e (λz=>nomatch z) h
end
structure cC (k:Nat) (A:AU):Prop where
 hd:A.handled=none
 dp:A.depth+3*k+5<JK
 un:A.units+16*k+200<cLine
theorem cC.mono {j k:Nat}{A:AU}(r:cC k A)(h:j<=k):cC j A:=⟨r.hd,by have:=r.dp;lia,by have:=r.un;lia⟩
theorem cC.deeper {k:Nat}{A:AU}(r:cC (k+1) A)(env:DU):cC k (A.deeper env):=
 ⟨r.hd,by have:=r.dp;show A.depth+1+3*k+5<_;lia,by have:=r.un;show A.units+3+16*k+200<_;lia⟩
theorem yN {A:AU}{C:Ac}{us:List Aa}{k:List (Al×Aa)}:(A.under (.builtin "type.__call__" ⟨.ref C::us,k⟩)).depth=A.depth+1:=by
 first |rfl |simp[ guardIds]
theorem yM {A:AU}{C:Ac}{us:List Aa}{k:List (Al×Aa)}:(A.under (.builtin "type.__call__" ⟨.ref C::us,k⟩)).units=A.units+1:=by
 first |rfl |simp[ Code.isFrame]
theorem cC.make {k:Nat}{A:AU}(r:cC (k+1) A)(C:Ac)(us:List Aa)(w:List (Al×Aa)):cC k (A.under (.builtin "type.__call__" ⟨.ref C::us,w⟩)):=
 ⟨r.hd,by have:=r.dp;rw[yN];lia,by have:=r.un;rw[yM];lia⟩
theorem cC.depth {k:Nat}{A:AU}(r:cC k A):A.depth<JK:=by have:=r.dp;lia
def gS:TA:=λ_ H Q=>Q [] H
def da (a:TE)(t:TA):TA:=λY H Q=>a Y H λx e=>t Y e λxs c=>Q (x::xs) c
section
variable {X:Cx}{e:Expr}{es:List Expr}{te:TE}{t:TA}{pos:Dt}
theorem aD:PA X [] gS:=λ_ _ _ _ H Q I h=>Ht ⟨[],H,I,.nil,h⟩
theorem ae (A:PE X e te)(j:PA X es t)(g:Av (e::es) X.env=(false,eval e X.env)::Av es X.env:=by rfl):PA X (e::es) (da te t):=by
 intro pos pins s Y H Q I h;rw[g];refine G_ (cy (A pins s Y H _ I h) λu a ⟨x,n,l,c,f⟩=>?_);exact cy (j pos pins a Y n _ l f) λus o ⟨xs,m,k,r,q⟩=>⟨x::xs,m,k,.cons c r,q⟩
end
abbrev Sp:=List V->Hp->VK->XK->Prop
abbrev NU:=List DU->Hp->Af->XK->Aa->Af->Prop
structure kd (P:AA) (w:AT) (K:Ap) (mg:Al->Option Aa) (base:Heap) (A:AU) (outer:List DU) (s:Af) (H:Hp):Prop where
 frames:A.frames=some outer
 mod:Mod K mg base
 bs:∀b o,base.get? b=some o->s.heap.get? b=some o/\H b=none
 L3:base.objs.size<=s.heap.objs.size
 j8:s.heap.FunFrames base outer
 Rp:∀b∈vm outer,H b=none
 cN:kL P w H s.heap
 bare:Dy s.gens
def CE (outer:List DU)(P:AA)(w:AT)(H:Hp)(s:Af)(Q:VK)(u:Aa)(a:Af):Prop:=
 ∃v c,a.os=s.os/\Dy a.gens/\Un (vm outer) [] H c s.heap a.heap/\kL P w c a.heap/\cA v u/\Q v c
def CR (C:NU)(outer:List DU)(P:AA)(w:AT)(H:Hp)(s:Af)(Q:VK)(E:XK)(r:Gm)(a:Af):Prop:=
 match r with
 | .ok (.ret u)=>CE outer P w H s Q u a
 | .ok _=>False
 | .error e=>C outer H s E e a
structure fK (P:AA) (w:AT) (K:Ap) (mg:Al->Option Aa) (base:Heap) (CX:NU) (k:Nat) (f:Ac) (fd:Ak) (ps:List Al) (sp:Sp):Prop where
 len:∀vs H Q E,sp vs H Q E->vs.length=ps.length
 run:∀(A:AU) (outer:List DU) (s:Af) (H:Hp) (args:Args) (us:List Aa) (vs:List V) (Q:VK) (E:XK),cC k A->kd P w K mg base A outer s H->FC s fd args (ps.zip us)->bH vs us->sp vs H Q E->
  Cd (model P w) A (.call (.ref f) args) (CR CX outer P w H s Q E) s
theorem fK.mono {P:AA}{w:AT}{K:Ap}{m:Al->Option Aa}{base:Heap}{C:NU}{j k:Nat}{f:Ac}{fd:Ak}{ps:List Al}{sp:Sp}(F:fK P w K m base C j f fd ps sp)(h:j<=k):
  fK P w K m base C k f fd ps sp:=⟨F.len,λA outer s H args us vs Q E r=>F.run A outer s H args us vs Q E (r.mono h)⟩
theorem kd.make {P:AA}{w:AT}{K:Ap}{m:Al->Option Aa}{base:Heap}{A:AU}{outer:List DU}{s:Af}{H:Hp}(e:kd P w K m base A outer s H)(C:Ac)(us:List Aa)(k:List (Al×Aa)):
  kd P w K m base (A.under (.builtin "type.__call__" ⟨.ref C::us,k⟩)) outer s H:=⟨by first |exact e.frames | (simpa[ pushEnvs] using e.frames),e.mod,e.bs,e.L3,e.j8,e.Rp,e.cN,e.bare⟩
section
variable {X:Cx}{pins:List (Ac×B5)}{Y:St}{H:Hp}{s s':Af}
theorem bC.NI (I:bC X pins Y H s):kd X.prog X.w X.K X.mg X.base X.A X.stack s H:=
 ⟨I.ok.frames,I.ok.mod,I.bs,Bv I.ok.L3 I.sz,I.stack,I.oD,I.cN,I.bare⟩
theorem bC.after {Q:VK}{u:Aa}(I:bC X pins Y H s)(h:CE X.stack X.prog X.w H s Q u s'):EP X pins Y Q u s':=by
 obtain⟨v,e,os,a,un,k,r,q⟩:=h;obtain⟨c,g,d,t,o⟩:=s';obtain rfl:o=s.os:=os;exact⟨v,e,I.call (h':=c) (g':=g) (d':=d) (t':=t) (ch:=[]) un k a (λb z=>absurd z (by simp)),r,q⟩
end
def nt (sp:Sp)(v:List V)(E:XK)(t:TA):TE:=λY H Q=>t Y H λvs a=>sp (vs++v) a Q E
def OF (C:Ac)(m:Al)(sp:Sp)(v:List V)(E:XK)(T:TE)(t:TA):TE:=λY H Q=>T Y H λx c=>∃a e fs,x = .ref a/\c a=some (.ins C e fs)/\fs.lookup m=none/\
 t Y c λvs f=>sp (x::(vs++v)) f Q E
def UT (C:Ac)(sp:Sp)(c:List V)(E:XK)(t:TA):TE:=λY H Q=>t Y H λvs e=>∀x a,e x=none->e a=none->a≠x->
 sp (.ref x::(vs++c)) (cP (cP e a (.own x)) x (.ins C a [])) (λv f=>v = .cB/\Q (.ref x) f) E
def gD (K:Ap)(fd:Ak)(ps:List Al)(ds:List Aa):Prop:=
 ∀(s:Af) (us:List Aa),K.In s.heap->(us++ds).length=ps.length->FC s fd ⟨us,[]⟩ (ps.zip (us++ds))
theorem gD.all {K:Ap}{fd:Ak}{ps:List Al}(h:∀us:List Aa,us.length=ps.length->BP fd ⟨us,[]⟩=pure (ps.zip us)):gD K fd ps []:=λs us _ hl=>by
 rw[Bj]at hl ⊢;exact .of_eq (h us hl)
def lx (C:NU)(X:Cx)(E:XK):Prop:=∀(pins:List (Ac×B5)) (Y:St) (H:Hp) (s:Af) (e:Aa) (a:Af),bC X pins Y H s->C X.stack H s E e a->X.xe e a
section
variable {X:Cx}{CX:NU}{k:Nat}{f C:Ac}{fd:Ak}{ps:List Al}{sp:Sp}{xk:List V}{ds:List Aa}{E:XK}{x m:Al}{p pos apos:Dt}{e o:Expr}{es:List Expr}{ta:TE}{t:TA}
theorem uG {pins:List (Ac×B5)}{Y:St}{H:Hp}{s:Af}{Q:VK}{us:List Aa}{vs:List V}(F:fK X.prog X.w X.K X.mg X.base CX k f fd ps sp)(j:cC k X.A)(B:gD X.K fd ps ds)(hd:bH xk ds)(g:lx CX X E)
  (I:bC X pins Y H s) (r:bH vs us) (h:sp (vs++xk) H Q E):AI (model X.prog X.w) X.A (call (.ref f) us) (EP X pins Y Q) X.xe s:=by
 have a:bH (vs++xk) (us++ds):=r.append hd;have hl:(us++ds).length=ps.length:=by rw[<- a.length];exact F.len _ _ _ _ h
 refine E6 (Cc (F.run X.A X.stack s H ⟨us,[]⟩ (us++ds) (vs++xk) Q E j I.NI (B s us I.kE hl) a h) λr c q=>?_)
 cases r with
 |error e=>exact g pins Y H s e c I q
 |ok l=>
  cases l with
  |ret u=>exact I.after q
  |next=>exact A8 q
  |brk=>exact A8 q
  |cont=>exact A8 q
theorem Tg (F:fK X.prog X.w X.K X.mg X.base CX k f fd ps sp)(g:cC k X.A)(hg:Gl X x)(M:X.mg x=some (.ref f))(j:DJ X.K (.ref f)=true)(u:gD X.K fd ps ds)(hd:bH xk ds)(c:lx CX X E)
  (v:PA X (e::es) t) (B:(x==("__debug__":Al))=false:=by decide) (n:Av (e::es) X.env=(false,eval e X.env)::Av es X.env:=by rfl) (l:(BY pos (Av es X.env)).any (·.1)=false:=by rfl):
  PE X (.Call (.Name x p) (e::es) [] pos) (nt sp xk E t):=by
 intro pins s Y H Q I h;refine BE (oR I hg M ?_ B);refine Fa I.ok.mod.Xe j (cy (v pos pins s Y H _ I h) λus z ⟨vs,G,a,r,q⟩=>⟨a.kE,?_⟩) n l;exact uG F g u hd c a r q
theorem Td {pl:IZ Bool}(O:PE X o ta)(c:xP X.K C)(M:RY X.K C m f)(F:fK X.prog X.w X.K X.mg X.base CX k f fd ps sp)(J:cC k X.A)(U:gD X.K fd ps ds)(hd:bH xk ds)(G:lx CX X E)(ha:PA X (e::es) t)
  (T:Av (e::es) X.env=(false,eval e X.env)::Av es X.env:=by rfl) (L:(BY pos (Av es X.env)).any (·.1)=false:=by rfl)
  (ht:eval (.Call (.Attribute o m apos) (e::es) [] pos) X.env=(do
   let v <- eval o X.env
   F6 apos.atName
   let (f,first) <- EC [v] (Fz v m pl)
   HW pos f first (BY pos (Av (e::es) X.env)) (GQ pos (Fw [] X.env))):=by rfl):
  PE X (.Call (.Attribute o m apos) (e::es) [] pos) (OF C m sp xk E ta t):=by
 intro pins s Y H Q I h;refine PySem.W.methodCall_KW (cy (O pins s Y H _ I h) λu n ⟨x,H1,j,z,a,dx,fs,ex,ea,l,q⟩=>?_) ht;subst ex;obtain rfl:u=Bk a:=z;refine qQ j ea c M l ?_;refine Fa (first:=[.ref a]) I.ok.mod.Xe M.kp (cy (ha pos pins n Y H1 _ j q) λus s2 ⟨vs,H2,g,r,B⟩=>⟨g.kE,?_⟩) T L;exact uG (us:=.ref a::us) (vs:=.ref a::vs) F J U hd G g (.cons rfl r) B
theorem Qd {pl:IZ Bool}(z:PE X o ta)(c:xP X.K C)(M:RY X.K C m f)(F:fK X.prog X.w X.K X.mg X.base CX k f fd ps sp)(n:cC k X.A)(B:gD X.K fd ps ds)(hd:bH xk ds)(j:lx CX X E)
  (ht:eval (.Call (.Attribute o m apos) [] [] pos) X.env=(do
   let v <- eval o X.env
   F6 apos.atName
   let (f,first) <- EC [v] (Fz v m pl)
   HW pos f first (BY pos (Av [] X.env)) (GQ pos (Fw [] X.env))):=by rfl):
  PE X (.Call (.Attribute o m apos) [] [] pos) (OF C m sp xk E ta gS):=by
 intro pins s Y H Q I h;refine PySem.W.methodCall_KW (cy (z pins s Y H _ I h) λu J ⟨x,O,g,r,a,L,fs,ex,G,l,q⟩=>?_) ht;subst ex;obtain rfl:u=Bk a:=r;refine qQ g G c M l ?_;exact PySem.W.callWith_K0 (first:=[.ref a]) g.kE M.kp (uG (us:=[.ref a]) (vs:=[.ref a]) F n B hd j g (.cons rfl .nil) q)
structure Mk (K:Ap) (C f:Ac):Prop where
 makes:IW K C=true
 init:DL K (.ref C) "__init__"=some (some (.ref f))
 fn:Ke K (.ref f)=true
 kp:DJ K (.ref C)=true
theorem PN {pins:List (Ac×B5)}{Y:St}{H:Hp}{s:Af}{Q:VK}{us:List Aa}{vs:List V}(M:Mk X.K C f)(F:fK X.prog X.w X.K X.mg X.base CX k f fd ps sp)(G:cC (k+1) X.A)(J:gD X.K fd ps ds)(hd:bH xk ds)
  (B:lx CX X E) (I:bC X pins Y H s) (r:bH vs us)
  (h:∀x a,H x=none->H a=none->a≠x->sp (.ref x::(vs++xk)) (cP (cP H a (.own x)) x (.ins C a [])) (λv U=>v = .cB/\Q (.ref x) U) E):
  AI (model X.prog X.w) X.A (call (.ref C) us) (EP X pins Y Q) X.xe s:=by
 have j:=h (s.heap.objs.size+1) s.heap.objs.size (I.cN.fresh (Jc _)) (I.cN.fresh (Ah _)) (Bm (Ig _));have c:=bC.made (C:=C) I;have g:bH (V.ref (s.heap.objs.size+1)::(vs++xk)) (Bk (s.heap.objs.size+1)::(us++ds)):=.cons rfl (r.append hd);have hl:(Bk (s.heap.objs.size+1)::us++ds).length=ps.length:=by
  have e:=g.length;rw[F.len _ _ _ _ j]at e;exact e.symm
 refine E6 (QQ I.kE M.makes M.init (beq_iff_eq.mp M.fn) (Cc (F.run _ X.stack _ _ ⟨Bk (s.heap.objs.size+1)::us,[]⟩ (Bk (s.heap.objs.size+1)::(us++ds)) _ _ E (G.make C us [])
  (c.NI.make C us []) (J _ (Bk (s.heap.objs.size+1)::us) c.kE hl) g j) λr l q=>?_))
 cases r with
 |error e=>exact B pins Y _ _ e l c q
 |ok L=>
  cases L with
  |ret u=>
   obtain⟨v,H',T,n,O,z⟩:=c.after q;subst O;exact⟨n,⟨V.ref (s.heap.objs.size+1),H',T,rfl,z⟩⟩
  |next=>exact A8 q
  |brk=>exact A8 q
  |cont=>exact A8 q
theorem Te (M:Mk X.K C f)(F:fK X.prog X.w X.K X.mg X.base CX k f fd ps sp)(g:cC (k+1) X.A)(hg:Gl X x)(j:X.mg x=some (.ref C))(u:gD X.K fd ps ds)(hd:bH xk ds)(c:lx CX X E)
  (v:PA X (e::es) t) (B:(x==("__debug__":Al))=false:=by decide) (n:Av (e::es) X.env=(false,eval e X.env)::Av es X.env:=by rfl) (l:(BY pos (Av es X.env)).any (·.1)=false:=by rfl):
  PE X (.Call (.Name x p) (e::es) [] pos) (UT C sp xk E t):=by
 intro pins s Y H Q I h;refine BE (oR I hg j ?_ B);refine Fa I.ok.mod.Xe M.kp (cy (v pos pins s Y H _ I h) λus z ⟨vs,G,a,r,q⟩=>⟨a.kE,?_⟩) n l;exact PN M F g u hd c a r q
end
section
variable {X:Cx}{CX:NU}{k:Nat}{f C:Ac}{fd:Ak}{ps ks:List Al}{sp:Sp}{E:XK}{x m:Al}{p pos apos Ž:Dt}{e o:Expr}{es:List Expr}{kws:List Kh}{te ta:TE}{t tk:TA}{nm:Option Al}
variable {g:List Aa->List Aa->List Aa}{gV:List V->List V->List V}
end
structure aQ (N P:List Al) (sc:BG):Prop where
 kind:sc.kind = .function
 co:sc.isCoroutine=false
 gen:sc.isGenerator=false
 nd:N.Nodup
 pre:N.take P.length=P
 par:∀x∈P,sc.names.lookup x=some .local∨sc.names.lookup x=some .cell
 W1:∀y∈sc.names,y.2≠.free
theorem tR {kindOf:Al->Option EU}{x:Al}:∀{binds:List (Al×Aa)} {m:Al->Option Aa},(∀v,(x,v)∉binds)->HX kindOf binds m x=m x
 | [],_,_=>rfl
 | (n,v)::r,m,h=>by
  unfold HX;rw[tR λw hw=>h w (Aw _ hw)];split
  .have:x≠n:=by rintro rfl;exact h v Az
   simp[this]
  .rfl
theorem tT {kindOf:Al->Option EU}{x:Al}:∀{binds:List (Al×Aa)} {m:Al->Option Aa},(∀v,(x,v)∉binds)->HY kindOf binds m x=m x
 | [],_,_=>rfl
 | (n,v)::r,m,h=>by
  unfold HY;rw[tT λw hw=>h w (Aw _ hw)];split
  .rfl
  .have:x≠n:=by rintro rfl;exact h v Az
   simp[this]
theorem tS {kindOf:Al->Option EU}{x:Al}{v:Aa}:∀{P:List Al} {vs:List Aa} {i:Nat} {m:Al->Option Aa},P.Nodup->P[i]?=some x->vs[i]?=some v->kindOf x=some .local->
  HX kindOf (P.zip vs) m x=some v
 | [],_,_,_,_,h,_,_=>by simp at h
 |_::_,[],_,_,_,_,h,_=>by simp at h
 |p::P,w::vs,0,m,n,h1,h2,k=>by
  simp at h1 h2;subst h1;subst h2
  show HX kindOf ((p,w)::P.zip vs) m p=_
  unfold HX;rw[tR λv a=>(AD.mp n).1 (Ff a).1,if_pos k];simp
 |p::P,w::vs,i+1,m,n,h1,h2,k=>by
  unfold HX;exact tS (AD.mp n).2 h1 h2 k
theorem tU {kindOf:Al->Option EU}{x:Al}{v:Aa}:∀{P:List Al} {vs:List Aa} {i:Nat} {m:Al->Option Aa},P.Nodup->P[i]?=some x->vs[i]?=some v->kindOf x≠some .local->
  HY kindOf (P.zip vs) m x=some v
 | [],_,_,_,_,h,_,_=>by simp at h
 |_::_,[],_,_,_,_,h,_=>by simp at h
 |p::P,w::vs,0,m,n,h1,h2,k=>by
  simp at h1 h2;subst h1;subst h2
  show HY kindOf ((p,w)::P.zip vs) m p=_
  unfold HY;rw[tT λv a=>(AD.mp n).1 (Ff a).1,if_neg k];simp
 |p::P,w::vs,i+1,m,n,h1,h2,k=>by
  unfold HY;exact tU (AD.mp n).2 h1 h2 k
noncomputable def start (N:List Al)(vs:List V):St:=vs.map some++An (N.length-vs.length) none
noncomputable def eH (CX:NU)(P:AA)(w:AT)(K:Ap)(mg:Al->Option Aa)(base:Heap)(N:List Al)(qual:Al)(scope:BG)(f:Ac)(cd:Aa)(A:AU)(outer:List DU)(s:Af)(H:Hp)(E:XK):Cx where
 prog:=P
 w:=w
 K:=K
 mg:=mg
 base:=base
 A:=A.deeper (B_ qual scope s.heap.objs.size f cd)
 N:=N
 s₀:=s
 H₀:=H
 env:=B_ qual scope s.heap.objs.size f cd
 outer:=outer
 stack:=B_ qual scope s.heap.objs.size f cd::outer
 ex:=[]
 calm:=true
 fn:=λ_=>true
 pn:=[]
 xe:=λe s'=>AI (model P w) (A.deeper (B_ qual scope s.heap.objs.size f cd)) (leaving (B_ qual scope s.heap.objs.size f cd) e) (λ_ ë=>CX outer H s E e ë) (λe' ë=>CX outer H s E e' ë) s'
theorem q9 {sc:BG}{n:Nat}{x:Al}(h:sc.names.lookup x=some .cell):∃c,(Gj n sc.names []).lookup x=some c:=by
 have q:=PySem.W.cellsFrom_some sc.names n [] (.inl h);exact Option.isSome_iff_exists.mp q
theorem Nx {G:NU}{P:AA}{w:AT}{K:Ap}{M:Al->Option Aa}{base:Heap}{N ps:List Al}{l:Al}{scope:BG}{f:Ac}{cd:Aa}{A:AU}{outer:List DU}{s B:Af}{H:Hp}{E:XK}{us:List Aa}{vs:List V}
  (S:aQ N ps scope) (hd:A.handled=none) (g:kd P w K M base A outer s H) (hl:vs.length=ps.length) (r:bH vs us)
  (x:InCallC s s.heap.objs.size (HX (B_ l scope s.heap.objs.size f cd).kindOf (ps.zip us) λ_=>none) (Gj (s.heap.objs.size+1) scope.names []) (HY (B_ l scope s.heap.objs.size f cd).kindOf (ps.zip us) λ_=>none) B):
  bC (eH G P w K M base N l scope f cd A outer s H E) [] (start N vs) H B:=by
 have L:ps.length<=N.length:=by have:=congrArg FW S.pre;rw[BD]at this;lia
 obtain⟨h1,tk,rfl,C⟩:=x.done;have o:∀b:Ac,b∉(eH G P w K M base N l scope f cd A outer s H E).ex:=λb z=>absurd (show b∈([]:List Ac) from z) (by simp)
 refine⟨⟨g.mod,S.kind,rfl,rfl,Ah _,λy z c h1 h2=>?_,λy m=>?_,λy c _ h=>?_,λ_=>hd,GH g.frames,.inr ⟨rfl,rfl⟩,λb z=>absurd z (o b),g.bs,g.L3,λb _ _=>o b,λb z=>absurd z (o b),g.j8,g.Rp⟩,
  rfl,g.bare,Un.kept C,⟨_,x.toInCall.ns,λi y v h1 h2 Q=>?_⟩,λy c h=>⟨_,x.cell y c h⟩,g.cN.fresh (Ah _),λy c h=>?_,λp t=>absurd (show p∈([]:List (Ac×B5)) from t) (by simp),g.cN.kept C,?_⟩
 .exact name_of_addr x.apart (PySem.mem_of_lookup h1) (PySem.mem_of_lookup h2)
 .rcases m with m |m
  .exact q9 m
  .exact absurd rfl (S.W1 _ (PySem.mem_of_lookup m))
 .exact Ew (x.above y c (PySem.mem_of_lookup h))
 .have hi:i<vs.length:=by
   unfold start at h2;by_cases hi:i<vs.length
   .exact hi
   .rw [Bb (by simpa using hi)]at h2;rw[CZ]at h2;split at h2<;>cases h2
  have O:vs[i]?=some v:=by
   unfold start at h2;rw[AW (by simpa using hi),AH]at h2
   cases e:vs[i]? with
   |none=>rw[e]at h2;cases h2
   |some a=>rw[e]at h2;cases h2;rfl
  obtain⟨u,U,J⟩:=r.get O;have t:ps[i]?=some y:=by
   rw[<- S.pre,Ci (by lia)];exact h1
  have j:ps.Nodup:=by rw[<- S.pre];exact S.nd.sublist (FD _ _)
  refine⟨u,J,?_⟩;rcases S.par y (Ai t) with k |k
  .exact .inl ⟨k,tS j t U k⟩
  .obtain ⟨c,e⟩:=q9 (n:=s.heap.objs.size+1) k;refine .inr ⟨.inl k,c,e,?_⟩;have q:=x.cell y c e;rw[tU j t U (by show scope.names.lookup y≠_;rw[k];decide)]at q;exact q
 .exact g.cN.fresh (Ew (x.above y c (PySem.mem_of_lookup h)))
 .unfold start;show _=N.length
  rw[AF,Au,Bs];lia
theorem LQ {C:NU}{P:AA}{w:AT}{K:Ap}{M:Al->Option Aa}{base:Heap}{k:Nat}{f:Ac}{name a:Al}{p:Cp}{body:List AZ}{scope:BG}{dV kV O pm c ct oc:Aa}{an od:Option Ac}
  {T:Array (Option Aa)} {N ps:List Al} {sp:Sp} (lk:K.lookup f=some ⟨oc,od,.func (DC name a p body scope dV kV O pm an c ct),T⟩) (Xq:FT K c a=true) (S:aQ N ps scope)
  (len:∀vs H Q E,sp vs H Q E->vs.length=ps.length)
  (B:∀(A:AU) (outer:List DU) (s:Af) (H:Hp) (vs:List V) (Q:VK) (E:XK),cC k (A.deeper (B_ a scope s.heap.objs.size f c))->sp vs H Q E->
   ∃t,PSs (eH C P w K M base N a scope f c A outer s H E) body t/\t {nx:=λ_ g=>Q .cB g,rt:=Q} (start N vs) H):
  fK P w K M base C (k+1) f (DC name a p body scope dV kV O pm an c ct) ps sp:=by
 refine⟨len,λA outer s H args us vs Q E hr m hb r l=>?_⟩;have hl:=len _ _ _ _ l;have KX:K.In s.heap:=m.mod.Xe.keeps λb o e=>(m.bs b o e).1
 have U:s.heap.NoLimit:=m.mod.nolimit.keeps λb o e=>(m.bs b o e).1
 have h:∀y∈ps.zip us,scope.names.lookup y.1=some .local∨(scope.names.lookup y.1=some .cell/\((Gj (s.heap.objs.size+1) scope.names []).lookup y.1).isSome=true):=λ⟨n,v⟩ hy=>by
  rcases S.par n (Ff hy).1 with q |q
  .exact .inl q
  .exact .inr ⟨q,PySem.W.cellsFrom_some _ _ _ (.inl q)⟩
 refine codeAny_call_function hr.depth (KX _ _ lk) rfl S.co S.gen rfl (PySem.W.codeRec_of KX Xq) (hb _ _ _ _ ?_);refine wpAny_newFunctionEnv_cells S.kind h λenv he s1 x=>?_
 subst he;refine⟨U.keeps x.toInCall.keep,codeAny_func ?_⟩;obtain⟨t,ht,hq⟩:=B A outer s H vs Q E (hr.deeper _) l;have I:bC (eH C P w K M base N a scope f c A outer s H E) [] (start N vs) H s1:=Nx S hr.hd m hl r x;refine B6 (ht [] s1 (start N vs) H _ I hq) (λfl G j=>?_) λe G j=>j
 have fin:∀{z:St} {g:Hp} {v:V} {u:Aa},bC (eH C P w K M base N a scope f c A outer s H E) [] z g G->cA v u->Q v g->CE outer P w H s Q u G:=
  λ{z g v u} J L q=>⟨v,g,J.os,J.bare,J.base,J.cN,L,q⟩
 cases fl with
 |ret u=>
  obtain⟨v,z,g,J,L,q⟩:=j;exact fin J L q
 |next=>
  obtain⟨z,g,J,q⟩:=j;exact fin (v:=V.cB) J rfl q
 |brk=>
  obtain⟨_,_,_,q⟩:=j;exact A8 q
 |cont=>
  obtain⟨_,_,_,q⟩:=j;exact A8 q
section
variable {X:Cx}{x:Al}{p pos:Dt}{e:Expr}{es:List Expr}{t:TA}{id T:String}{r:List V->Hp->VK->Prop}
def Yr (r:List V->Hp->VK->Prop)(t:TA):TE:=λY H Q=>t Y H λvs a=>r vs a Q
theorem aW (hc:gC X (.builtin id) r)(hg:Gl X x)(m:X.mg x=none)(v:Dw x=some (.builtin id))(A:PA X (e::es) t)(hn:x ≠ "__name__":=by decide)(B:(x==("__debug__":Al))=false:=by decide)
  (f:Av (e::es) X.env=(false,eval e X.env)::Av es X.env:=by rfl) (l:(BY pos (Av es X.env)).any (·.1)=false:=by rfl):PE X (.Call (.Name x p) (e::es) [] pos) (Yr r t):=by
 intro pins s Y H Q I h;refine BE (fG I hg m v ?_ hn B);exact JD (cy (A pos pins s Y H _ I h) λus a ⟨vs,j,g,c,q⟩=>hc pins a Y j vs us Q g c q) f l
theorem sX (hc:gC X (.type T) r)(hg:Gl X x)(m:X.mg x=none)(v:Dw x=some (.type T))(A:PA X (e::es) t)(hn:x ≠ "__name__":=by decide)(B:(x==("__debug__":Al))=false:=by decide)
  (f:Av (e::es) X.env=(false,eval e X.env)::Av es X.env:=by rfl) (l:(BY pos (Av es X.env)).any (·.1)=false:=by rfl):PE X (.Call (.Name x p) (e::es) [] pos) (Yr r t):=by
 intro pins s Y H Q I h;refine BE (fG I hg m v ?_ hn B);exact A7 (cy (A pos pins s Y H _ I h) λus a ⟨vs,j,g,c,q⟩=>hc pins a Y j vs us Q g c q) f l
end
end L2
namespace HT
open PySem PyProof.Rows
noncomputable def lexLt:List Int->List Int->Bool
 | [],[]=>false
 | [],_::_=>true
 |_::_,[]=>false
 |x::xs,y::ys=>if x=y then lexLt xs ys else decide (x<y)
theorem iU (x y:Int)(xs ys:List Int):lexLt (x::xs) (y::ys)=if x=y then lexLt xs ys else decide (x<y):=rfl
section
open PySem.SeqAt
open PySem.AutoSeq1(wpAny_loadPart')
open PySem.MeetsSeq PySem.MeetsSeq2 PySem.MeetsSeq3
end
section
variable {prog:AA}{w:AT}{A:AU}{E:Aa->Af->Prop}{s:Af}
noncomputable def rD (n d:Nat):Option Int->Nat
 |none=>d
 |some v=>if v<0 then (v+(n:Int)).toNat else min v.toNat n
theorem K9 (n d k:Nat):rD n d (some (k:Int))=min k n:=by
 show (if (k:Int)<0 then ((k:Int)+(n:Int)).toNat else min (k:Int).toNat n)=min k n
 rw[if_neg (by lia),AQ]
end
end HT
namespace L2
open PySem PySem.Spec PyProof.Rows
abbrev TO:=St->Hp->(Option Int->Hp->Prop)->Prop
def PO (X:Cx)(e:Option Expr)(t:TO):Prop:=
 ∀(pins:List (Ac×B5)) (s:Af) (Y:St) (H:Hp) (Q:Option Int->Hp->Prop),bC X pins Y H s->t Y H Q->
  AI (model X.prog X.w) X.A (evalPart e X.env) (λu c=>∃o a,bC X pins Y a c/\JV u o/\Q o a) X.xe s
def zV:TO:=λ_ H Q=>Q none H
def UR (t:TE):TO:=λY H Q=>t Y H λx a=>∃i,x = .int i/\Q (some i) a
theorem qO {ns:List Int}:∀{us:List Aa},bH (ns.map V.int) us->EE us ns:=by
 induction ns with
 |nil=>intro us r;rw[Je]at r;cases r;exact .nil
 |cons n ns h=>
  intro us r
  cases r with
  |cons c a=>
   obtain⟨t,e⟩:=c;subst e;exact .cons n t (h a)
section
variable {X:Cx}{e:Expr}{te:TE}{lo hi:Option Expr}{tl th:TO}{pos p2:Dt}
theorem S':PO X none zV:=by
 intro pins s Y H Q I h;exact AN ⟨none,H,I,.none,h⟩
theorem uM (h:PE X e te):PO X (some e) (UR te):=by
 intro pins s Y H Q I hw;refine cy (h pins s Y H _ I hw) λu g ⟨x,f,c,r,a⟩=>?_
 obtain⟨i,rfl,q⟩:=a;obtain⟨t,rfl⟩:=r;exact⟨some i,f,c,.int i t,q⟩
def X0 (X:Cx)(r:V->Option Int->Option Int->Hp->VK->Prop):Prop:=
 ∀(pins:List (Ac×B5)) (s:Af) (Y:St) (H:Hp) (x:V) (v l u:Aa) (lo hi:Option Int) (L:Ac) (Q:VK),bC X pins Y H s->cA x v->s.heap.IsSliceOf L l u .none->JV l lo->JV u hi->r x lo hi H Q->
  ∃T id,FR (.type T) "__getitem__"=pure (some (.builtin id))/\s.TypeIs v T/\AI (model X.prog X.w) X.A (IT v (.ref L)) (EP X pins Y Q) X.xe s
def ä (r:V->Option Int->Option Int->Hp->VK->Prop)(te:TE)(tl th:TO):TE:=λY H Q=>te Y H λx f=>tl Y f λl c=>th Y c λu a=>r x l u a Q
theorem wD {r:V->Option Int->Option Int->Hp->VK->Prop}(t:X0 X r)(w:PE X e te)(hl:PO X lo tl)(o:PO X hi th):PE X (.Subscript e (.Slice lo hi none p2) pos) (ä r te tl th):=by
 intro pins s Y H Q I h;refine GW (cy (w pins s Y H _ I h) λv g ⟨x,M,G,j,n⟩=>?_);refine Ks (cy (hl pins g Y M _ G n) λL f ⟨l,J,C,pl,m⟩=>cy (o pins f Y J _ C m) λU a ⟨u,c,B,p,k⟩=>?_);refine AN ?_;have A:bC X pins Y c {a with heap:=a.heap.push {cls:=.type "slice",data:=.fields #[L,U,.none]}}:=B.kept (t':=a.toks) λb ob q=>Ag _ q
 obtain⟨T,id,z,ht,hg⟩:=t pins {a with heap:=a.heap.push {cls:=.type "slice",data:=.fields #[L,U,.none]}} Y c x v L U l u a.heap.objs.size Q A j (Heap.IsSliceOf.new ..) pl p k;exact J1 (ops:=[.ref a.heap.objs.size,v]) ht z hg (by with_unfolding_all rfl)
noncomputable def zm (xs:List V)(lo hi:Option Int):List V:=(xs.drop (HT.rD xs.length 0 lo)).take (HT.rD xs.length xs.length hi-HT.rD xs.length 0 lo)
theorem xm (xs:List V)(lo hi:Option Int):(zm xs lo hi).length<=xs.length:=by
 unfold zm;rw[BD,DX];lia
end
noncomputable def qL (n:Nat)(i:Int):Option Nat:=if 0<=i then (if i<n then some i.toNat else none) else if -(n:Int)<=i then some (i+n).toNat else none
noncomputable def kI {a:Type}(xs:List a)(i:Int):Option a:=(qL xs.length i).bind λj=>xs[j]?
theorem LH {n:Nat}{i:Int}{j:Nat}(h:qL n i=some j):Hm i n=some j/\j<n/\-(n:Int)<=i/\i<n:=by
 unfold qL at h;by_cases a:0<=i
 .rw [if_pos a]at h;by_cases h1:i<n
  .rw [if_pos h1]at h;have e:i.toNat=j:=A6 h;exact⟨by rw[HU a h1,e],by lia,by lia,h1⟩
  .rw [if_neg h1]at h;cases h
 .rw [if_neg a]at h;by_cases h1 : -(n:Int)<=i
  .rw [if_pos h1]at h;have e:(i+n).toNat=j:=A6 h;exact⟨by rw[seqIndex_neg (by lia) h1,e],by lia,h1,by lia⟩
  .rw [if_neg h1]at h;cases h
theorem L4 {a:Type}{xs:List a}{i:Int}{v:a}(h:kI xs i=some v):∃j,Hm i xs.length=some j/\xs[j]?=some v/\j<xs.length/\-(xs.length:Int)<=i/\i<xs.length:=by
 unfold kI at h
 cases e:qL xs.length i with
 |none=>rw[e]at h;cases h
 |some j=>
  rw[e]at h;obtain⟨h1,h2,f,c⟩:=LH e;exact⟨j,h1,h,h2,f,c⟩
theorem dg {a:Type}{xs:List a}{j:Nat}{v:a}(h:xs[j]?=some v):kI xs (j:Int)=some v:=by
 have J:j<xs.length:=(Ab.mp h).1;have e:qL xs.length (j:Int)=some j:=by
  unfold qL;rw[if_pos (by lia),if_pos (by lia)];simp
 unfold kI;rw[e];exact h
theorem RU {a:Type}(xs:List a)(v:a):kI (xs++[v]) (-1)=some v:=by
 have hl:(xs++[v]).length=xs.length+1:=by simp
 have e:qL (xs++[v]).length (-1)=some xs.length:=by
  unfold qL;rw[ if_neg (by decide),if_pos (by lia)];congr 1
  lia
 unfold kI;rw[e];simp
def L_ (b:Expr):Prop:=∀o i,Kt b false o i=operate [o,i] (IT o i)
def ħ (X:Cx)(r:R2):Prop:=
 ∀(value slice:Expr) (pins:List (Ac×B5)) (s:Af) (Y:St) (H:Hp) (x y:V) (v u:Aa) (Q:VK),bC X pins Y H s->cA x v->cA y u->r x y H Q->
  Kt slice false v u=operate [v,u] (IT v u)->AI (model X.prog X.w) X.A (subscriptTail value slice v u) (EP X pins Y Q) X.xe s
def Ü (X:Cx)(id:String)(r:V->List V->Hp->VK->Prop):Prop:=
 ∀(pins:List (Ac×B5)) (s:Af) (Y:St) (H:Hp) (x:V) (xs:List V) (v:Aa) (us:List Aa) (Q:VK),bC X pins Y H s->cA x v->bH xs us->r x xs H Q->
  AI (model X.prog X.w) X.A (call (.builtin id) (v::us)) (EP X pins Y Q) X.xe s
section
variable {X:Cx}{a b:Expr}{ta tb:TE}{pos:Dt}
theorem aR {r:R2}(j:ħ X r)(A:PE X a ta)(B:PE X b tb)(g:L_ b):PE X (.Subscript a b pos) (OC r ta tb):=by
 intro pins s Y H Q I h;exact GW (XM A B I h λv u c x y l k f e q=>j a b pins c Y l x y v u Q k f e q (g _ _))
def S8 (K:Ap):R2:=λx y H Q=>∃p xs i v,x = .ref p/\y = .int i/\eE K H p xs/\kI xs i=some v/\Q v H
def YJ (K:Ap):R2:=λx y H Q=>∃p xs i v,x = .ref p/\y = .int i/\ky K H p xs/\kI xs i=some v/\Q v H
theorem bK:ħ X (S8 X.K):=by
 intro value slice pins s Y H x y v u Q I m l h e;obtain⟨p,xs,i,z,rfl,rfl,n,o,q⟩:=h;cases m;obtain⟨t,rfl⟩:=l;obtain⟨T,r,pl,C⟩:=I.list n;obtain⟨j,h1,h2,G,B,A⟩:=L4 o;obtain⟨w,g,c⟩:=r.get h2;have hl:=r.length;have hn:=mZ;have fin:EP X pins Y Q w s:=⟨z,H,I,c,q⟩
 by_cases f:0<=i
 .have J:i.toNat=j:=by
   rw[HU f A]at h1;exact A6 h1
  exact item_listR pl.isList f (by lia) (by rw[J];simpa using g) fin e
 .have J:(i+(T.toArray.size:Int)).toNat=j:=by
   rw[seqIndex_neg (by lia) B]at h1;rw[Ay,<- hl];exact A6 h1
  exact HD pl.isList.typeIs F7.lookup
   (wpAny_getItem_list_neg (Q:=λr k=>r=w/\EP X pins Y Q r k) pl.isList (by lia) (by rw[Ay]<;>lia) (by lia) (by rw[J];simpa using g) ⟨rfl,fin⟩) e
theorem aS:ħ X (YJ X.K):=by
 intro value slice pins s Y H x y v u Q I g f h k;obtain⟨p,xs,i,z,rfl,rfl,l,m,q⟩:=h;cases g;obtain⟨t,rfl⟩:=f;obtain⟨T,r,pl,o⟩:=I.tuple l;obtain⟨j,h1,h2,C,B,A⟩:=L4 m;obtain⟨w,n,c⟩:=r.get h2;have hl:=r.length;have hn:=mZ;have fin:EP X pins Y Q w s:=⟨z,H,I,c,q⟩
 exact HD pl.typeIs DD.lookup
  (GV (Q:=λr e=>r=w/\EP X pins Y Q r e) pl (by lia) (by lia) (by rw[Ay,<- hl];exact h1) (by simpa using n) ⟨rfl,fin⟩) k
theorem yL (t:List Aa)(n j:Nat)(u:Aa):Cn (·.setIfInBounds j u) {cls:=.type "list",data:=.seq t.toArray n}={cls:=.type "list",data:=.seq (t.set j u).toArray n}:=by
 simp[Cn]
theorem bC.lst {pins:List (Ac×B5)}{Y:St}{H:Hp}{s:Af}{p:Ac}{xs:List V}(I:bC X pins Y H s)(h:H p=some (.lst xs)):
  ∃(t:List Aa) (n:Nat),bH xs t/\s.heap.get? p=some {cls:=.type "list",data:=.seq t.toArray n}/\xs.length<=AM:=by
 obtain⟨z,t,n,r,e⟩:=I.cN p _ h;exact⟨t,n,r,e,z⟩
theorem bC.W6 {pins:List (Ac×B5)}{Y:St}{H:Hp}{s:Af}{p:Ac}{xs ys:List V}{T its':List Aa}{n c:Nat}{f:B5->B5}(I:bC X pins Y H s)(h:H p=some (.lst xs))
  (o:s.heap.get? p=some {cls:=.type "list",data:=.seq T.toArray n}) (hf:f {cls:=.type "list",data:=.seq T.toArray n}={cls:=.type "list",data:=.seq its'.toArray c}) (r:bH ys its') (z:ys.length<=AM) (t:Nat):
  bC X pins Y (cP H p (.lst ys)) {s with heap:=s.heap.update p f,toks:=t}:=by
 have e:(s.heap.update p f).get? p=some {cls:=.type "list",data:=.seq its'.toArray c}:=by
  rw[Co f o (by rw[hf]<;>rfl),hf]
 refine I.write (by rw[h];trivial) (.inl rfl) (λb u B q=>(CK _ _ (Be B)).trans q) ⟨_,e⟩ ?_;exact⟨z,its',c,r,e⟩
def Lc:V->V->V->Hp->(Hp->Prop)->Prop:=λo i v H Q=>∃p xs k j,o = .ref p/\i = .int k/\H p=some (.lst xs)/\qL xs.length k=some j/\Q (cP H p (.lst (xs.set j v)))
theorem h8:X1 X Lc:=by
 intro pins s Y H o i v C G u Q I z A w h;obtain⟨p,xs,k,j,rfl,rfl,e,J,q⟩:=h;cases z;obtain⟨t,rfl⟩:=A;obtain⟨T,n,r,O,B⟩:=I.lst e;obtain⟨h1,h2,g,f⟩:=LH J;have hl:=r.length;have hn:=mZ;have m:bC X pins Y (cP H p (.lst (xs.set j v))) {s with heap:=s.heap.update p (Cn (·.setIfInBounds j u))}:=
  I.W6 e O (yL T n j u) (r.set w j) (by rw[Bi];exact B) s.toks
 by_cases l:0<=k
 .have c:k.toNat=j:=by
   rw[HU l f]at h1;exact A6 h1
  exact PySem.W.ki_setAt O l (by lia) (by rw[Ay,<- hl];exact f) (by rw[c];exact⟨_,m,q⟩)
 .have c:(k+(T.toArray.size:Int)).toNat=j:=by
   rw[seqIndex_neg (by lia) g]at h1;rw[Ay,<- hl];exact A6 h1
  exact PySem.W.ki_setBack O (by lia) (by rw[Ay,<- hl];exact g) (by lia) (by rw[c];exact⟨_,m,q⟩)
theorem uh (lo hi:Option Int)(n:Nat):(CL lo hi none n).1=((HT.rD n 0 lo:Nat):Int)/\(CL lo hi none n).2.1=((HT.rD n n hi:Nat):Int)/\(CL lo hi none n).2.2=1:=by
 refine⟨?_,?_,rfl⟩
 .cases lo with
  |none=>simp[CL,HT.rD]
  |some i=>
   simp only[CL,HT.rD,Jp,if_true];by_cases h:i<0
   .simp only[h,if_true]<;>lia
   .simp only[h,if_false]<;>lia
 .cases hi with
  |none=>simp[CL,HT.rD]
  |some i=>
   simp only[CL,HT.rD,Jp,if_true];by_cases h:i<0
   .simp only[h,if_true]<;>lia
   .simp only[h,if_false]<;>lia
theorem ry (t:List Aa)(lo hi:Option Int):Hl t.toArray lo hi none=((t.drop (HT.rD t.length 0 lo)).take (HT.rD t.length t.length hi-HT.rD t.length 0 lo)).toArray:=by
 obtain⟨h1,h2,h⟩:=uh lo hi t.toArray.size;unfold Hl;rw[h1,h2,h];simp only[sliceRange_one,pick_run]<;>rfl
def ð (K:Ap):V->Option Int->Option Int->Hp->VK->Prop:=λx lo hi H Q=>∃a xs,x = .ref a/\eE K H a xs/\∀p,H p=none->Q (.ref p) (cP H p (.lst (zm xs lo hi)))
theorem Sx:X0 X (ð X.K):=by
 intro pins s Y H x v L u lo hi g Q I c f pl p h;obtain⟨a,xs,rfl,e,q⟩:=h;cases c;obtain⟨t,r,ht,z⟩:=I.list e;have l:=r.length;refine⟨"list",_,F7.lookup,ht.isList.typeIs,?_⟩;refine G8 ht.isList f pl p .none (by simp) ?_ (by rw[Ay]<;>lia);rw[ry,<- l];refine⟨.ref s.heap.objs.size,_,I.laid (t':=s.toks) (o:=.lst (zm xs lo hi)) (λb ob q=>Ag _ q) (Ah _) ?_,rfl,q _ (I.cN.fresh (Ah _))⟩;exact⟨Bv (xm xs lo hi) z,_,0,(r.drop (HT.rD xs.length 0 lo)).take (HT.rD xs.length xs.length hi-HT.rD xs.length 0 lo),Aq _ rfl⟩
theorem bo:gC X (.builtin "len") (λxs H Q=>∃p ys,xs=[.ref p]/\(eE X.K H p ys∨ky X.K H p ys)/\Q (.int ys.length) H):=by
 intro pins s Y H xs us Q I r h;obtain⟨p,ys,rfl,c,q⟩:=h;obtain⟨u,rfl,f⟩:=jo r;cases f;have hn:=mZ;rcases c with c |c
 .obtain ⟨t,e,pl,z⟩:=I.list c;have l:=e.length;exact Calls.call_len_list pl.isList (by simp only[Ay]<;>lia) ⟨.int ys.length,H,I.tok _,⟨s.toks+1,by rw[Ay,l]⟩,q⟩
 .obtain ⟨t,e,pl,z⟩:=I.tuple c;have l:=e.length;exact HE pl (by simp only[Ay]<;>lia) ⟨.int ys.length,H,I.tok _,⟨s.toks+1,by rw[Ay,l]⟩,q⟩
theorem dD:gC X (.builtin "len") (λxs H Q=>∃z,xs=[.str z]/\z.length<=AM/\Q (.int z.length) H):=by
 intro pins s Y H xs us Q I r h;obtain⟨z,rfl,c,q⟩:=h;obtain⟨u,rfl,t,rfl⟩:=jo r;have hn:=mZ;exact len_str (by lia) ⟨.int z.length,H,I.tok _,⟨_,rfl⟩,q⟩
theorem vp:gC X (.type "list") (λxs H Q=>∃p ys,xs=[.ref p]/\(eE X.K H p ys∨ky X.K H p ys)/\∀l,H l=none->Q (.ref l) (cP H l (.lst ys))):=by
 intro pins s Y H xs us Q I r h;obtain⟨p,ys,rfl,f,q⟩:=h;obtain⟨u,rfl,j⟩:=jo r;cases j;have fin:∀(t:List Aa),bH ys t->ys.length<=AM->∀(h':Heap) (c':Nat),(∀b g,s.heap.get? b=some g->h'.get? b=some g)->
   h'.get? s.heap.objs.size=some {cls:=.type "list",dict:=none,data:=.seq t.toArray c',slots:=#[]}->EP X pins Y Q (.ref s.heap.objs.size) {s with heap:=h'}:=λt c z h' c' k e=>
  ⟨.ref s.heap.objs.size,_,I.laid (t':=s.toks) k (Ah _) (show el X.prog X.w _ h' _ (.lst ys) from⟨z,t,c',c,e⟩),rfl,q _ (I.cN.fresh (Ah _))⟩
 rcases f with f |f
 .obtain ⟨t,c,pl,z⟩:=I.list f;have L:=c.length;obtain⟨o,O,hc,n,hd⟩:=pl.isList;exact J9 p (.inl rfl) O hc hd (λh' c' k e=>fin t c z h' c' k e) (by simp only[Ay]<;>lia)
 .obtain ⟨t,c,pl,z⟩:=I.tuple f;have L:=c.length;obtain⟨o,O,hc,n,hd⟩:=pl;exact J9 p (.inr rfl) O hc hd (λh' c' k e=>fin t c z h' c' k e) (by simp only[Ay]<;>lia)
def â (K:Ap)(T:String)(x:V)(H:Hp):Prop:=match x with
 | .str _=>T = "str"
 | .int _=>T = "int"
 | .ref p=>(T = "list"/\∃xs,eE K H p xs)∨(T = "tuple"/\∃o,K.lookup p=some o/\o.cls = .type "tuple"/\o.dict=none)∨
   (T = "dict"/\((∃k,H p=some (.dK k))∨∃k,H p=some (.dT k)))∨(T = "set"/\∃S n,H p=some (.set S n))
 |_=>False
theorem Ou {pins:List (Ac×B5)}{Y:St}{H:Hp}{s:Af}{T:String}{x:V}{v:Aa}(I:bC X pins Y H s)(r:cA x v)(ty:â X.K T x H):
  s.TypeIs v T/\∀a,v = .ref a->∃ob,s.heap.get? a=some ob/\ob.dict=none:=by
 cases x with
 |str z=>
  obtain⟨t,rfl⟩:=r
  cases (show T = "str" from ty)
  exact⟨KH s z t,λ_ e=>nomatch e⟩
 |int i=>
  obtain⟨t,rfl⟩:=r
  cases (show T = "int" from ty)
  exact⟨Iz s i t,λ_ e=>nomatch e⟩
 |ref p =>
  cases r;rcases ty with⟨rfl,xs,q⟩ | ⟨rfl,o,h,hc,hd⟩ | ⟨rfl,h⟩ | ⟨rfl,S,n,h⟩
  .obtain ⟨g,_,pl,_⟩:=I.list q;refine⟨pl.isList.typeIs,λa e=>?_⟩;cases e;obtain⟨o,n,e,c,hd,_⟩:=pl;exact⟨o,e,hd⟩
  .refine ⟨⟨o,I.kE p o h,hc⟩,λa e=>?_⟩;cases e;exact⟨o,I.kE _ o h,hd⟩
  .have z:∃o,s.heap.get? p=some o/\o.ExactDict:=by
    rcases h with⟨k,h⟩ | ⟨k,h⟩
    .obtain ⟨_,_,_,_,o,_,_,e,ex,_⟩:=I.cN p _ h;exact⟨o,e,ex⟩
    .obtain ⟨_,_,_,_,o,_,_,e,ex,_⟩:=I.cN p _ h;exact⟨o,e,ex⟩
   obtain⟨o,e,ex⟩:=z;refine⟨⟨o,e,ex.1⟩,λa f=>?_⟩;cases f;exact⟨o,e,ex.2.1⟩
  .obtain ⟨o,_,_,_,e,ex,_⟩:=I.cN p _ h;refine⟨⟨o,e,ex.1⟩,λa f=>?_⟩;cases f;exact⟨o,e,ex.2.1⟩
 |_=>exact A8 ty
def Sq (K:Ap)(T:String)(r:V->List V->Hp->VK->Prop)(t:TE):TE:=λY H Q=>t Y H λx c=>â K T x c/\r x [] c Q
def UW (K:Ap)(T:String)(r:V->List V->Hp->VK->Prop)(o:TE)(t:TA):TE:=λY H Q=>o Y H λx c=>â K T x c/\t Y c λxs e=>r x xs e Q
variable {o e:Expr}{es:List Expr}{to:TE}{t:TA}{name:Al}{apos q8:Dt}{T id:String}{r:V->List V->Hp->VK->Prop}
theorem yC (p:KU T)(slot:KS T name id)(c:typeOf (.builtin id)=pure (.type "method_descriptor"))(m:Ü X id r)(O:PE X o to)
  (B:FM o name X.env (eval o X.env)=eval o X.env:=by rfl) (l:(apos.endLine==q8.line)=true:=by rfl):PE X (.Call (.Attribute o name apos) [] [] q8) (Sq X.K T r to):=by
 intro pins s Y H Q I h;refine wpAny_Call_method0_late B l (cy (O pins s Y H _ I h) λv j ⟨x,k,g,f,ty,q⟩=>?_);obtain⟨h1,h2⟩:=Ou g f ty;exact⟨T,id,p,slot,c,h1,h2,GD rfl (PySem.evalArgs_none (m pins j Y k x [] v [] Q g f .nil q))⟩
theorem gs (w:KU T)(slot:KS T name id)(c:typeOf (.builtin id)=pure (.type "method_descriptor"))(M:Ü X id r)(O:PE X o to)(C:PA X (e::es) t)
  (B:FM o name X.env (eval o X.env)=eval o X.env:=by rfl)
  (f:((BY q8 (Av (e::es) X.env)).all (λx => !x.1) && (GQ q8 (Fw [] X.env)).all (λx=>x.1.isSome)
   && decide ((e::es).length+([]:List Kh).length+(if ([]:List Kh).isEmpty then 0 else 1)<30))=true:=by rfl)
  (l:(apos.endLine==q8.line)=true:=by rfl) (z:Av (e::es) X.env=(false,eval e X.env)::Av es X.env:=by rfl) (p:(BY q8 (Av es X.env)).any (·.1)=false:=by rfl):
  PE X (.Call (.Attribute o name apos) (e::es) [] q8) (UW X.K T r to t):=by
 intro pins s Y H Q I h;refine wpAny_Call_method_late B f l rfl (cy (O pins s Y H _ I h) λv m ⟨x,L,j,g,ty,u⟩=>?_);obtain⟨h1,h2⟩:=Ou j g ty;refine⟨T,id,w,slot,c,h1,h2,?_⟩;have A:=C q8 pins m Y L _ j u;rw[z]at A ⊢;refine GD (by show (false || (BY q8 (Av es X.env)).any (·.1))=false;rw[p]<;>rfl) (Calls.evalArgs_plain ?_);exact cy A λus k ⟨vs,J,G,n,q⟩=>M pins k Y J x vs v us Q G g n q
end
def ZW (X:Cx)(id:String)(r:V->List V->Hp->VK->Prop):Prop:=
 ∀(pins:List (Ac×B5)) (s:Af) (Y:St) (H:Hp) (x:V) (xs:List V) (v:Aa) (us:List Aa) (Q:VK),bC X pins Y H s->cA x v->bH xs us->r x xs H Q->
  AI (model X.prog X.w) X.A (call (.builtin id) (v::us)) (EP X pins Y Q) X.xe s
theorem bH.one:∀{x:V} {us:List Aa},bH [x] us->∃u,us=[u]/\cA x u
 |_,_,.cons r .nil=>⟨_,rfl,r⟩
theorem bH.zero:∀{us:List Aa},bH [] us->us=[]
 |_,.nil=>rfl
theorem bH.dropLast {xs:List V}{us:List Aa}(h:bH xs us):bH xs.dropLast us.dropLast:=by
 induction h with
 |nil=>exact .nil
 |cons r t a=>
  cases t with
  |nil=>exact .nil
  |cons q t'=>exact .cons r a
theorem bH.eraseIdx:∀{xs:List V} {us:List Aa} (i:Nat),bH xs us->bH (xs.eraseIdx i) (us.eraseIdx i)
 |_,_,_,.nil=>.nil
 |_,_,0,.cons _ t=>t
 |_,_,i+1,.cons r t=>.cons r (bH.eraseIdx i t)
theorem bH.rep {xs:List V}{us:List Aa}(h:bH xs us):∀k:Nat,bH (An k xs).flatten (An k us).flatten
 | 0=>.nil
 |k+1=>by
  exact bH.append h (bH.rep h k)
theorem zh {c:Type}(l:List c):l.eraseIdx (l.length-1)=l.dropLast:=by
 induction l with
 |nil=>rfl
 |cons a r h=>
  cases r with
  |nil=>rfl
  |cons b r=>
   have e:(a::b::r).length-1=((b::r).length-1)+1:=by
    have h1:(a::b::r).length=r.length+2:=rfl;have h2:(b::r).length=r.length+1:=rfl;lia
   rw[e,List.eraseIdx_cons_succ,h]
   all_goals rfl
theorem tp {a:Type}:∀(l:List a) (i:Nat),(l.eraseIdx i).length<=l.length
 | [],_=>Ah _
 |_::_,0=>Jc _
 |_::r,i+1=>Nat.succ_le_succ (tp r i)
theorem tH (t:List Aa):∀(k:Nat) (a:List Aa),
  Hw (λf c=>f++c) a.toArray (An k t.toArray)=(a++(An k t).flatten).toArray
 | 0,a=>by simp
 |k + 1,a=>by
  have e:a.toArray++t.toArray=(a++t).toArray:=by simp
  have g:(a++t)++(An k t).flatten=a++(An (k+1) t).flatten:=by
   rw[Fo,HG,Cf]
  rw[<- g,<- tH t k (a++t),<- e,Fo,BV]
section
variable {X:Cx}{pins:List (Ac×B5)}{Y:St}{H:Hp}{s:Af}{l b:Ac}{xs ys zs:List V}
theorem bC.QS {t its':List Aa}{n:Nat}{f:Array Aa->Array Aa}{t':Nat}(I:bC X pins Y H s)(a:H l=some (.lst xs))
  (e:s.heap.get? l=some {cls:=.type "list",data:=.seq t.toArray n}) (hf:f t.toArray=its'.toArray) (v:bH ys its') (h:ys.length<=AM):
  bC X pins Y (cP H l (.lst ys)) {s with heap:=s.heap.update l (Cn f),toks:=t'}:=by
 have q:=PySem.IsL.update e f;rw[hf]at q;refine I.write (by rw[a];exact trivial) (.inl rfl) (λc u B U=>(CK s.heap (Cn f) (Be B)).trans U) ⟨_,q⟩ ?_;exact⟨h,its',_,v,q⟩
theorem bC.W7 {t:List Aa}{t':Nat}(I:bC X pins Y H s)(v:bH ys t)(h:ys.length<=AM):
  bC X pins Y (cP H s.heap.objs.size (.lst ys)) {s with heap:=s.heap.push {cls:=.type "list",data:=.seq t.toArray},toks:=t'}:=
 I.laid (λ_ _ q=>Ag _ q) (Ah _) ⟨h,t,0,v,Aq _ rfl⟩
theorem bC.fresh (I:bC X pins Y H s):H s.heap.objs.size=none:=I.cN.fresh (Ah _)
theorem bC.Nt (I:bC X pins Y H s)(h:H l=some (.lst xs)):xs.length<=AM/\∃(t:List Aa) (n:Nat),bH xs t/\xs.length=t.length/\s.heap.get? l=some {cls:=.type "list",data:=.seq t.toArray n}:=by
 obtain⟨z,t,n,r,e⟩:=I.cN l _ h;exact⟨z,t,n,r,r.length,e⟩
theorem wO {n:Nat}(h:n<=AM):BX n=false:=by
 exact decide_eq_false (by lia)
end
section
variable {X:Cx}
def oO:V->List V->Hp->VK->Prop:=λx vs H Q=>∃l xs y,x = .ref l/\vs=[y]/\H l=some (.lst xs)/\xs.length<AM/\Q .cB (cP H l (.lst (xs++[y])))
theorem dj:ZW X "list.append" oO:=by
 intro pins s Y H x vs v us Q I c f h;obtain⟨l,xs,y,rfl,rfl,a,g,q⟩:=h;cases c;obtain⟨u,rfl,U⟩:=f.one;obtain⟨z,t,n,r,hl,e⟩:=I.Nt a;refine DI F.slot_list_append ⟨_,e,rfl⟩ F.entry_list_append (F.args_list_append_2 _ _) (PySem.list_append l t.toArray n u (by rw[Ay];lia)) ⟨e,?_⟩;refine⟨.cB,_,I.QS (its':=t++[u]) a e (by simp) (r.append (.cons U .nil)) ?_,rfl,q⟩;rw[AF,BM];lia
def Wz:V->List V->Hp->VK->Prop:=λx vs H Q=>∃l xs y,x = .ref l/\vs=[]/\H l=some (.lst xs)/\xs[xs.length-1]?=some y/\Q y (cP H l (.lst xs.dropLast))
theorem QO:ZW X "list.pop" Wz:=by
 intro pins s Y H x vs v us Q I f g h;obtain⟨l,xs,y,rfl,rfl,c,k,q⟩:=h;cases f;have U:=g.zero;subst U;obtain⟨z,t,n,r,hl,e⟩:=I.Nt c;obtain⟨u,m,j⟩:=r.get k;have a:t.toArray[t.toArray.size-1]?=some u:=by
  show t.toArray[t.length-1]?=some u
  rw[<- EL,<- hl];exact m
 refine DI F.slot_list_pop ⟨_,e,rfl⟩ F.entry_list_pop (F.args_list_pop_1 _) (Kv l t.toArray n u a (by rw[Ay];lia)) ⟨e,?_⟩;refine⟨y,_,I.QS (its':=t.dropLast) c e ?_ r.dropLast ?_,j,q⟩
 .rw [Ay,FK,zh]
 .rw [List.length_dropLast];lia
def PZ:V->List V->Hp->VK->Prop:=λx vs H Q=>∃l xs i k y,x = .ref l/\vs=[.int i]/\H l=some (.lst xs)/\-(2^63)<=i/\i<2^63/\Hm i xs.length=some k/\xs[k]?=some y/\Q y (cP H l (.lst (xs.eraseIdx k)))
theorem QN:ZW X "list.pop" PZ:=by
 intro pins s Y H x vs v us Q I f g h;obtain⟨l,xs,i,k,y,rfl,rfl,c,h1,h2,m,j,q⟩:=h;cases f;obtain⟨u,rfl,U⟩:=g.one;obtain⟨t,rfl⟩:=U;obtain⟨z,T,n,r,hl,e⟩:=I.Nt c;obtain⟨w,hw,a⟩:=r.get j;refine DI F.slot_list_pop ⟨_,e,rfl⟩ F.entry_list_pop (F.args_list_pop_2 _ _)
  (Kw l T.toArray n i t k w (GP h1 h2) (by rw[Ay,<- hl];exact m) (by rw[<- EL];exact hw) (by rw[Ay];lia)) ⟨e,?_⟩
 refine⟨y,_,I.QS (its':=T.eraseIdx k) c e ?_ (r.eraseIdx k) ?_,a,q⟩
 .rw [FK]
 .have:=tp xs k;lia
def YI:R2:=λx y H Q=>∃l k xs,x = .ref l/\y = .int k/\H l=some (.lst xs)/\-(2^63)<=k/\k<2^63/\xs.length*k.toNat<=AM/\
 ∀p,H p=none->Q (.ref p) (cP H p (.lst (An k.toNat xs).flatten))
theorem TX {a:Type}(xs:List a)(k:Nat):(An k xs).flatten.length=k*xs.length:=by
 induction k with
 |zero=>simp
 |succ k h=>rw[Fo,HG,AF,h,Jq,Js]
theorem yE:ly X (Cy .Mult) YI:=by
 intro pins s Y H x y v u Q I G C h;obtain⟨l,k,xs,rfl,rfl,J,h1,h2,A,q⟩:=h;cases G;obtain⟨t,rfl⟩:=C;obtain⟨z,c,n,r,hl,e⟩:=I.Nt J;have L:c.toArray.size*k.toNat<=AM:=by rw[Ay,<- hl];exact A
 have p:¬ c.toArray.size*k.toNat > (2^63-1) / 8:=by
  have:(AM:Nat)<=(2^63-1) / 8:=by decide
  lia
 have f:¬ (!Builtin.List.listFitsIndex k)=true:=by
  rw[GP h1 h2];exact AL
 have o:¬ BX (c.toArray.size*k.toNat)=true:=by
  rw[wO L];exact AL
 have w:Hw (λj g=>j++g) #[] (An (if c.toArray.isEmpty=true then 0 else k.toNat) c.toArray)=(An k.toNat c).flatten.toArray:=by
  have M:∀m:Nat,Hw (λj g=>j++g) #[] (An m c.toArray)=(An m c).flatten.toArray:=λm=>by
   have:=tH c m [];exact this
  rw[M]
  cases c with
  |nil=>simp
  |cons a O=>rw[if_neg (by simp)]
 refine wpAny_binaryOp_repeat_ref (T := "list") (U := "int") rfl ⟨_,e,rfl⟩ (λB=>Iz B k t) noFill_list_mul F.fills_int_mul F.slot_int_rmul repeat_list F.slot_int_index.lookup
  (DI F.slot_int_rmul (Iz s k t) F.entry_int_rmul (F.args_int_rmul_2 _ _) (int___rmul___int_list k t l c.toArray n)
   ⟨e,rfl,⟨_,e,rfl⟩,DI F.slot_list_mul ⟨_,e,rfl⟩ F.entry_list_mul (F.args_list_mul_2 _ _) (Kj l c.toArray n k t f p o) ⟨e,?_⟩⟩)
 rw[w];exact⟨.ref _,_,I.W7 (t':=s.toks) (r.rep k.toNat) (by rw[TX,GY];exact A),rfl,q _ I.fresh⟩
end
section
variable {prog:AA}{w:AT}{A:AU}{E:Aa->Af->Prop}{s:Af}
set_option maxRecDepth 100000 in
end
section
variable {X:Cx}
end
end L2
namespace Att
open PySem PySem.W PySem.Calls PyProof.Rows
theorem ov {P:JT}{h:Heap}:∀(ns:List Int) (vs:List Aa),WellAll P h vs (ns.map HC)->EE vs ns:=by
 intro ns
 induction ns with
 |nil=>
  intro vs w;cases w;exact .nil
 |cons n ns c=>
  intro vs w
  cases w with
  |cons a b=>
   cases a;exact .cons _ _ (c _ b)
theorem sJ {l:IX}{n:Nat}(hn:l.most=some n){P:JT}{h:Heap}{args:List WData}{vals:List Aa}
  (p:l.row.toRowW.claim.pre args=true) (w:WellAll P h vals args):
  ∃a vs ns,vals=[Bk a]/\args=[Jm (ns.map HC)]/\h.get? a=some {cls:=.type "list",data:=.seq vs.toArray}/\EE vs ns/\ns.length<=n:=by
 have f:WShape.hasAll [] args [.list .int]=true:=(KP p).1;have hc:l.pre.holds [] {args:=args}=true:=(KP p).2;obtain⟨d,r,rfl,h1,h2⟩:=hasAllW_cons f;obtain rfl:=hasAllW_nil h2;obtain⟨xs,rfl,m⟩:=hasW_list h1;obtain⟨ns,rfl⟩:=items_int m;have e:ns.length<=n:=by
  have c:(WTm.not (.lt (.lit (.int (n:Int))) (.len (.arg 0)))).holds [] {args:=[.list (ns.map .int)]}=true:=by
   have c:=(holds_andW hc).1;rw[hn]at c;exact c
  have g:=condW_of c (w_not (w_lt w_lit (w_len_list (w_arg rfl))));refine Nat.le_of_not_lt λq=>?_
  first
   | (rw[decide_eq_true q']at g;exact absurd g rfl)
   | (simp at g;lia)
 cases w with
 |cons k j=>
  cases j
  cases k with
  |list o A=>exact⟨_,_,ns,rfl,rfl,o,ov ns _ A,e⟩
theorem sU (l:IX)(args:List WData):l.row.toRowW.claim.post args (.bool true) args=true:=
 postW_of (X:=(true==true))
  (show WShape.has [] (.bool true) .bool=true by first |rfl |decide |simp[ WShape.armsAll])
  (show (WTm.eq .res (.lit (.bool true))).value [] {args:=args,res:=some (.bool true),after:=args}=some (.bool (true==true)) from w_eq_bool (w_res rfl) w_lit) rfl
theorem xE {l:IX}{n:Nat}{q:AA}{e:List Al}{J:(Al->Option Aa)->Heap->Prop}{B:AT->Heap->Prop}{d:JX}
  (hn:l.most=some n) (u:d.params.defaults=[])
  (call:∀(w:AT) (s₀ c:Af) (m M:Al->Option Aa) (A:Ac) (o:B5) (pm cd O:Aa) (a:Ac) (vs:List Aa) (ns:List Int),
   Ground q e [] J w s₀ m M c.heap->B w c.heap->
   c.heap.get? A=some o->o.data = .func (docDef d.name d.params d.body d.scope pm cd O)->c.heap.CodeRec cd d.name->m d.name=some (.ref A)->
   c.heap.get? a=some {cls:=.type "list",data:=.seq vs.toArray}->EE vs ns->ns.length<=n->c.gens=#[]->
   Cd (model l.prog w) CO (.call (.ref A) ⟨[.ref a],[]⟩) (λr g=>r = .ok (.ret (.bool true))/\JU c.heap g.heap/\g.os=c.os/\Dy g.gens) c):
  WalkO q e J B l.row.toRowW d [] (λf vs=>PySem.call f vs):=by
 intro w s₀ c m M G Q A o pm cd O dV kV ho hd C z t hg args vals as p v T k Ϡ;obtain rfl:dV = .none:=Jn z u;obtain rfl:kV = .none:=Jo z;obtain⟨a,vs,ns,rfl,rfl,j,h,L⟩:=sJ hn p k;refine KQ (Cc (call w s₀ c m M A o pm cd O a vs ns G Q ho (fd_plain hd) C t j h L hg) λr g U=>?_);obtain⟨rfl,h2,h3,h4⟩:=U;exact⟨.inl ⟨.bool true,.bool true,[],rfl,λ_=>rfl,.bool true,sU l _,λ_=>⟨EJ,λ_ hm=>(nomatch hm)⟩⟩,h2,h3,h4⟩
section
variable {prog:AA}{w:AT}{A:AU}{E:Aa->Af->Prop}{s:Af}{K:Ap}
end
end Att
namespace L2
open PySem PySem.Spec PyProof.Rows
theorem mB:∀{vs:List Aa} {ns:List Int},EE vs ns->bH (ns.map V.int) vs
 |_,_,.nil=>.nil
 |_,_,.cons n t h=>.cons ⟨t,rfl⟩ (mB h)
def X2 (H:Hp):Prop:=∀b,H b=none∨∃o xs,H b=some (.eh o (.lst xs))
theorem QZ {P:AA}{w:AT}{K:Ap}{M mb:Al->Option Aa}{CX:NU}{k:Nat}{fa a:Ac}{fd:Ak}{x:Al}{sp:Sp}{c:Af}{vs:List Aa}{ns:List Int}
  (KX:K.In c.heap) (A:c.heap.Ns Am M) (B:c.heap.Ns E8 mb) (Ė:∀x:Al,x ≠ "__name__"->mb x=Dw x) (C:c.heap.NoLimit) (hg:c.gens=#[])
  (U:c.heap.get? a=some {cls:=.type "list",data:=.seq vs.toArray}) (hi:EE vs ns) (hl:ns.length<=AM) (hr:cC k CO)
  (F:∀base:Heap,K.In base->base.Ns Am M->fK P w K M base CX k fa fd [x] sp) (l:∀(s:Af) (u:Aa),FC s fd ⟨[u],[]⟩ [(x,u)])
  (Zd:∀H:Hp,X2 H->eE K H a (ns.map V.int)->sp [.ref a] H (λv _=>v = .bl true) λ_ _ _=>False)
  (hCX:∀H e g,CX [] H c (λ_ _ _=>False) e g->False):
  Cd (model P w) CO (.call (.ref fa) ⟨[.ref a],[]⟩) (λr g=>r = .ok (.ret (.bool true))/\JU c.heap g.heap/\g.os=c.os/\Dy g.gens) c:=by
 have rv:=mB hi;have L:=hi.length;have core : ∀H:Hp,X2 H->eE K H a (ns.map V.int)->kL P w H c.heap->(∀b,H b≠none->b=a)->(H a≠none->K.lookup a=none)->
   Cd (model P w) CO (.call (.ref fa) ⟨[.ref a],[]⟩) (λr g=>r = .ok (.ret (.bool true))/\JU c.heap g.heap/\g.os=c.os/\Dy g.gens) c:=by
  intro H hO hS t hA hK;have f:∀{b:Ac} {o:B5},c.heap.get? b=some o->H b=none->(l4 c.heap H).get? b=some o:=λe n=>l3 e n
  have ź:∀{b:Ac} {o:B5} {J:Array Gn} {Q:Nat},c.heap.get? b=some o->o.data = .dict J Q->H b=none:=λ{b o J Q} e d=>by
   cases q:H b with
   |none=>rfl
   |some u=>
    have e':b=a:=hA b (by rw[q];simp);subst e';rw[U]at e;cases e;have d':Data.seq vs.toArray _=Data.dict J Q:=d;cases d'
  have j:∀{b:Ac} {m:Al->Option Aa},c.heap.Ns b m->(l4 c.heap H).Ns b m:=λ{b m} ⟨o,J,Q,e,d,r⟩=>⟨o,J,Q,f e (ź e d),d,r⟩
  have G:K.In (l4 c.heap H):=λb o e=>f (KX b o e) (by
   cases q:H b with
   |none=>rfl
   |some u=>
    have e':b=a:=hA b (by rw[q];simp);subst e';rw[hK (by rw[q];simp)]at e;cases e)
  have hM:Mod K M (l4 c.heap H):=⟨G,j A,⟨mb,j B,Ė⟩,let⟨mc,h1,h2⟩:=C;⟨mc,j h1,h2⟩⟩
  have e0:kd P w K M (l4 c.heap H) CO [] c H:=⟨rfl,hM,λb o e=>Lp e,Ii (tw _ _),trivial,λb B=>absurd (show b∈([]:List Ac) from B) (by simp),t,.of_eq hg⟩
  refine Cc ((F _ G (j A)).run CO [] c H ⟨[.ref a],[]⟩ [.ref a] [.ref a] _ _ hr e0 (l c (.ref a)) (.cons rfl .nil) (Zd H hO hS)) λr g h=>?_
  cases r with
  |error e=>exact (hCX H e g h).elim
  |ok fl =>
   cases fl with
   |next=>exact A8 h
   |brk=>exact A8 h
   |cont=>exact A8 h
   |ret u=>
    obtain⟨v,H',os,T,un,O,r',q⟩:=h;have q':v = .bl true:=q;subst q';obtain rfl:u=Fq true:=r';refine⟨rfl,OldK.of_keep λb o e=>?_,os,T⟩
    cases q:H b with
    |none=>exact un.keep b o e q (by intro z;exact absurd (show b∈([]:List Ac) from z) (by simp)) (by simp)
    |some u=>
     rcases hO b with z | ⟨ob,xs,z⟩
     .rw [q]at z;cases z
     .have z2:=un.l8 b ob _ z;obtain⟨e1,_⟩:=t b _ z;obtain⟨e2,_⟩:=O b _ z2;rw[e]at e1;cases e1;exact e2
 cases hk:K.lookup a with
 |some o=>
  have e:=KX a o hk;rw[U]at e;cases e;refine core (λ_=>none) (λ_=>.inl rfl) (.inr ⟨_,vs.toArray,_,hk,rfl,rfl,rfl,by rw[Ay,L];exact hl,rv⟩) (λb u z=>by have p:(none:Option HO)=some u:=z;cases p) (λb z=>absurd rfl z) λz=>absurd rfl z
 |none=>
  refine core (λb=>if b=a then some (.eh {cls:=.type "list",data:=.seq vs.toArray} (.lst (ns.map V.int))) else none) (λb=>?_) (.inl (.inr ⟨{cls:=.type "list",data:=.seq vs.toArray},if_pos rfl⟩)) (λb u z=>?_) (λb z=>?_) λ_=>hk
  .by_cases B:b=a
   .exact .inr ⟨_,_,if_pos B⟩
   .exact .inl (if_neg B)
  .by_cases B:b=a
   .have p:=(if_pos B).symm.trans z;cases p;subst B;exact⟨U,by rw[Au];exact hl,vs,_,rv,U⟩
   .have p:=(if_neg B).symm.trans z;cases p
  .by_cases B:b=a
   .exact B
   .exact absurd (if_neg B) z
theorem Å {l:PySem.W.OpenLaw}{n k:Nat}{q:AA}{O:List Al}{XP:(Al->Option Aa)->Heap->Prop}{J:AT->Heap->Prop}{d:JX}{K:JT->Ap}{U:AT->NU}{sp:AT->Sp}{x:Al}
  (hn:l.most=some n) (z:n<=AM) (B:d.params.defaults=[]) (hr:cC k CO)
  (hY:∀(w:AT) (h:Heap),J w h->(K w.params).In h)
  (F:∀(w:AT) (m:Al->Option Aa) (A:Ac) (h:Heap),(K w.params).In h->h.Ns Am m->m d.name=some (.ref A)->
   ∃fd:Ak,(∀(s:Af) (u:Aa),FC s fd ⟨[u],[]⟩ [(x,u)])/\
    ∀base:Heap,(K w.params).In base->base.Ns Am m->fK l.prog w (K w.params) m base (U w) k A fd [x] (sp w))
  (r:∀(w:AT) (H:Hp) (a:Ac) (ns:List Int),ns.length<=n->X2 H->eE (K w.params) H a (ns.map V.int)->sp w [.ref a] H (λv _=>v = .bl true) λ_ _ _=>False)
  (C:∀(w:AT) (H:Hp) (s:Af) (e:Aa) (p:Af),U w [] H s (λ_ _ _=>False) e p->False):
  PySem.W.WalkO q O XP J l.row.toRowW d [] (λf vs=>PySem.call f vs):=by
 refine Att.xE hn B λw s₀ c m mb A o pm cd doc a vs ns G σ ho hd Xq M j t L hg=>?_
 have Q:=hY w _ σ;obtain⟨fd,hb,hF⟩:=F w m A _ Q G.T.g M;exact QZ Q G.T.g G.T.b G.T.builtins G.T.nolimit hg j t (Bv L z) hr hF hb (λH hO hS=>r w H a ns L hO hS) λH e p=>C w H c e p
noncomputable def dA (s:AZ)(j:Nat):AZ:=match s with
 | .ClassDef _ _ _ body _ _ _ _ _ _ _=>body.getD j (.Pass ⟨0,0,0,0⟩)
 |_=>.Pass ⟨0,0,0,0⟩
noncomputable def bS (s:AZ):Cp:=match s with
 | .FunctionDef _ a _ _ _ _ _ _ _ _=>a
 |_=>{posonlyargs:=[],args:=[],vararg:=none,kwonlyargs:=[],kw_defaults:=[],kwarg:=none,defaults:=[]}
noncomputable def a9 (s:AZ):List AZ:=match s with
 | .FunctionDef _ _ b _ _ _ _ _ _ _=>b
 |_=>[]
noncomputable def aB (s:AZ):BG:=match s with
 | .FunctionDef _ _ _ _ _ _ sc _ _ _=>sc
 |_=>{kind:=.function,names:=[],isGenerator:=false,isCoroutine:=false}
abbrev jh:NU:=λ_ _ _ _ _ _=>False
abbrev E0:XK:=λ_ _ _=>False
theorem wF {X:Cx}:lx jh X E0:=λ_ _ _ _ _ _ _ h=>h.elim
structure NT (K:Ap) (x qual:Al) (st:AZ) (f:Ac) (fd:Ak):Prop where
 ex:∃(oc:Aa) (od:Option Ac) (kV doc pm:Aa) (an:Option Ac) (Ya ct:Aa) (YN:Array (Option Aa)),
  fd=DC x qual (bS st) (a9 st) (aB st) .none kV doc pm an Ya ct/\K.lookup f=some ⟨oc,od,.func fd,YN⟩/\FT K Ya qual=true
 kp:DJ K (.ref f)=true
section
variable {P:AA}{w:AT}{K:Ap}{mg:Al->Option Aa}{base:Heap}
theorem NT.ok {x u:Al}{st:AZ}{f:Ac}{fd:Ak}{N ps:List Al}{k:Nat}{sp:Sp}(F:NT K x u st f fd)(S:aQ N ps (aB st))(len:∀vs H Q E,sp vs H Q E->vs.length=ps.length)
  (o:∀(c:Aa) (A:AU) (outer:List DU) (s:Af) (H:Hp) (vs:List V) (Q:VK) (E:XK),cC k (A.deeper (B_ u (aB st) s.heap.objs.size f c))->sp vs H Q E->
   ∃t,PSs (eH jh P w K mg base N u (aB st) f c A outer s H E).kR (a9 st) t/\t {nx:=λ_ a=>Q .cB a,rt:=Q} (start N vs) H):fK P w K mg base jh (k+1) f fd ps sp:=by
 obtain⟨g,e,kV,O,pm,n,c,ct,l,rfl,lk,C⟩:=F.ex;refine LQ lk C S len λA outer s H vs Q E r p=>?_
 obtain⟨t,h,q⟩:=o c A outer s H vs Q E r p;exact⟨t,h.kR,q⟩
theorem NT.binds {x q:Al}{st:AZ}{f:Ac}{fd:Ak}{ps:List Al}(F:NT K x q st f fd)
  (h:∀(kV o pm:Aa) (a:Option Ac) (c ct:Aa) (us:List Aa),us.length=ps.length->BP (DC x q (bS st) (a9 st) (aB st) .none kV o pm a c ct) ⟨us,[]⟩=pure (ps.zip us)):gD K fd ps []:=by
 obtain⟨e,O,kV,o,pm,a,c,ct,l,rfl,lk,C⟩:=F.ex;exact .all (h kV o pm a c ct)
theorem zf {x q:Al}{st:AZ}{f:Ac}{C:Aa}{e a:Option Ac}{O:Array (Option Aa)}{kV o pm v ct:Aa}(l:K.lookup f=some ⟨C,e,.func (DC x q (bS st) (a9 st) (aB st) .none kV o pm a v ct),O⟩)
  (c:FT K v q=true) (k:DJ K (.ref f)=true):NT K x q st f (DC x q (bS st) (a9 st) (aB st) .none kV o pm a v ct):=⟨⟨C,e,kV,o,pm,a,v,ct,O,rfl,l,c⟩,k⟩
end
section
variable {X:Cx}
theorem pv (i:Nat){x:Al}{pos:Dt}(hN:X.N[i]?=some x:=by rfl)(v:Yb X.env.scope x:=by first |exact Ar rfl |exact Fm (Ar rfl) |exact Fm (Fm rfl))(hd:(x==("__debug__":Al))=false:=by decide)
  (h:(x==("__classdict__":Al))=false:=by decide):PE X (.Name x pos) (dt i):=WL hN v hd h
end
theorem ý {A B:Prop}(h:B):if false=true then A else B:=by
 rw[if_neg AL];exact h
theorem rS {A B:Prop}(h:A):if true=true then A else B:=by
 rw[if_pos rfl];exact h
def a6 (H a:Hp):Prop:=∀b o,H b=some o->a b=some o
theorem a6.refl (H:Hp):a6 H H:=λ_ _ h=>h
theorem a6.trans {H f e:Hp}(a:a6 H f)(b:a6 f e):a6 H e:=λc o h=>b c o (a c o h)
theorem a6.free {H a:Hp}(e:a6 H a){l:Ac}(h:a l=IJ):H l=IJ:=by
 cases q:H l with
 |none=>rfl
 |some o=>
  rw[e l o q]at h;cases h
theorem a6.seq {K:Ap}{H c:Hp}{a:Ac}{xs:List V}(e:a6 H c)(h:eE K H a xs):eE K c a xs:=by
 rcases h with (h | ⟨o,h⟩) |h
 .exact .inl (.inl (e _ _ h))
 .exact .inl (.inr ⟨o,e _ _ h⟩)
 .exact .inr h
end L2
set_option maxHeartbeats 4000000
namespace L2
open PySem PySem.Spec PyProof.Rows
structure bL (K:Ap) (mg:Al->Option Aa) (x:Al) (st:AZ) (f:Ac) (fd:Ak):Prop where
 fn:NT K x x st f fd
 here:mg x=some (.ref f)
structure cg (P:AA) (w:AT) (K:Ap) (mg:Al->Option Aa) (base:Heap) (x:Al) (k:Nat) (ps:List Al) (sp:Sp):Prop where
 ex:∃f fd,fK P w K mg base jh k f fd ps sp/\mg x=some (.ref f)/\DJ K (.ref f)=true/\gD K fd ps []
theorem cg.of {P:AA}{w:AT}{K:Ap}{m:Al->Option Aa}{base:Heap}{x:Al}{st:AZ}{f:Ac}{fd:Ak}{N ps:List Al}{k:Nat}{sp:Sp}(D:bL K m x st f fd)(S:aQ N ps (aB st))
  (B:∀(kV o pm:Aa) (a:Option Ac) (c ct:Aa) (us:List Aa),us.length=ps.length->BP (DC x x (bS st) (a9 st) (aB st) .none kV o pm a c ct) ⟨us,[]⟩=pure (ps.zip us))
  (len:∀vs H Q E,sp vs H Q E->vs.length=ps.length)
  (h:∀(c:Aa) (A:AU) (outer:List DU) (s:Af) (H:Hp) (vs:List V) (Q:VK) (E:XK),cC k (A.deeper (B_ x (aB st) s.heap.objs.size f c))->sp vs H Q E->
   ∃t,PSs (eH jh P w K m base N x (aB st) f c A outer s H E).kR (a9 st) t/\t {nx:=λ_ e=>Q .cB e,rt:=Q} (start N vs) H):cg P w K m base x (k+1) ps sp:=
 ⟨f,fd,D.fn.ok S len h,D.here,D.fn.kp,D.fn.binds B⟩
theorem aZ (C:cg X.prog X.w X.K X.mg X.base x k ps sp)(r:cC k X.A)(hg:Gl X x)(l:PA X (e::a) t)
  (B:(x==("__debug__":Al))=false:=by decide) (g:Av (e::a) X.env=(false,eval e X.env)::Av a X.env:=by rfl) (h:(BY pos (Av a X.env)).any (·.1)=false:=by rfl):
  PE X (.Call (.Name x p) (e::a) [] pos) (nt sp [] E0 t):=by
 obtain⟨f,fd,F,m,c,j⟩:=C.ex;exact Tg F r hg m c j .nil wF l B g h
def Sw (n:Nat)(R:List V->Hp->VK->Prop):Sp:=λvs H Q _=>vs.length=n/\R vs H Q
structure Blt (mg:Al->Option Aa):Prop where
 len:mg "len"=none
 range:mg "range"=none
 max:mg "max"=none
 min:mg "min"=none
 isinstance:mg "isinstance"=none
 int:mg "int"=none
 bool:mg "bool"=none
 tuple:mg "tuple"=none
 list:mg "list"=none
 all:mg "all"=none
 zip:mg "zip"=none
 reversed:mg "reversed"=none
theorem a6.new (h:H p=none): a6 H (cP H p o):=λb u e=>by rw[bI (fi e h)];exact e
section
variable {X:Cx}{e:Expr}{es:List Expr}{te:TE}{t:TA}{pos:Dt}
def zT (t:TA):TE:=λY H Q=>t Y H λxs c=>xs.length<=AM/\∀p a,c p=none->a6 c a->a p=some (.tup xs)->Q (.ref p) a
def UU (t:TA):TE:=λY H Q=>t Y H λxs c=>xs.length<=AM/\∀p a,c p=none->a6 c a->a p=some (.lst xs)->Q (.ref p) a
theorem cb {g}(h:PA X es t): PE X (.Tuple es g pos) (zT t):=by
 intro pins s Y H Q I j;refine wpAny_Tuple_spliced (cy (h pos pins s Y H _ I j) λus a ⟨xs,f,c,r,z,q⟩=>⟨by rw[<- r.length];exact z,?_⟩);have hf:f a.heap.objs.size=none:=c.cN.fresh (Ah _);refine⟨.ref a.heap.objs.size,cP f a.heap.objs.size (.tup xs),c.laid (t':=a.toks) (λb u e=>Ag _ e) (Ah _) ?_,rfl,q _ _ hf (a6.new hf) a0⟩;exact⟨z,us,r,⟨_,Aq _ rfl,rfl,_,rfl⟩⟩
theorem c8 (h:PA X es t): PE X (.List es pos) (UU t):=by
 intro pins s Y H Q I g;refine wpAny_List_spliced (cy (h pos pins s Y H _ I g) λus a ⟨xs,f,c,r,z,q⟩=>⟨by rw[<- r.length];exact z,?_⟩);have hf:f a.heap.objs.size=none:=c.cN.fresh (Ah _);refine⟨.ref a.heap.objs.size,cP f a.heap.objs.size (.lst xs),c.laid (t':=a.toks) (λb u e=>Ag _ e) (Ah _) ?_,rfl,q _ _ hf (a6.new hf) a0⟩;exact⟨z,us,0,r,Aq _ rfl⟩
end
theorem rT {c:Bool}{A B:Prop}(hc:c=false)(h:B):if c=true then A else B:=by
 rw[hc];exact ý h
noncomputable def UJ (lo c:Int)(n:Nat):It:=⟨λi _=>i<n,λi H x a=>a=H/\x = .int (lo+i*c),λi _=>n<=i⟩
theorem nq {P:AA}{w:AT}{K:Ap}{tg:Expr}(it:Ac)(lo c:Int)(n:Nat):sf P w K tg (UJ lo c n) [it] it (λi h=>KA h it (lo+(i:Nat)*c) ((n:Int)-(i:Nat)) c) where
 mem:=by simp
 obj := λi h st b hb=>by
  have e:b=it:=by simpa using hb
  subst e;exact⟨_,st,λv z=>by
   have z':G1 _=HJ v:=z;cases z'⟩
 keep:=λi h h' st k=>k it (by simp) _ st
 item:=by
  kj_on
  obtain⟨f0,f1,f2,f3,f4,f5⟩:=hf it (by simp);have W:=IU (prog:=X.prog) (w:=X.w) (I.ok.hd hc) it lo c n;refine W.item i s _ _ hg st λv h' tk hv uf kk=>?_
  obtain⟨t,rfl⟩:=hv;have I1:bC X pins Y H {s with heap:=h',toks:=tk}:=I.turned (λb o hb e=>kk b o (by simpa using hb) e) f0 f1 f3 f4 f5;exact⟨_,rfl,nW (s:={s with heap:=h',toks:=tk}) (n := "range_iterator") uf rfl rfl rfl ⟨.int (lo+i*c),H,I1,⟨t,rfl⟩,⟨rfl,rfl⟩,uf,λb hb=>(hf b hb).1⟩⟩
 done:=by
  intro X hP hw hK hc i pins s Y H E I hf st hg;obtain⟨f0,f1,f2,f3,f4,f5⟩:=hf it (by simp);exact Hx (I.ok.hd hc) st (by have:n<=i:=hg;lia) λh' eb=>⟨rfl,I.turned (t':=s.toks) (λb o hb e=>eb b o hb e) f0 f1 f3 f4 f5⟩
 self:=λ_ _ _ _ _ st h=>Hy st h
theorem x6 (f : -(2^61)<=a)(A:a<2^61)(e : -(2^61)<=b)(B:b<2^61)(hc:0<c)(h:c<2^61): C7 a b c=true:=by
 have h1:0<=AS a b c/\AS a b c<=2^62:=by
  unfold AS;rw[if_pos (show c > 0 from hc)];split
  .have j:(b-a-1) / c<=b-a-1:=Int.ediv_le_self _ (by lia);have g:0<=(b-a-1) / c:=Gf (by lia) (by lia);lia
  .lia
 unfold C7;simp only[Fl,Ds,Io,decide_eq_true_eq,show c > 0 from hc,if_true];omega
section
variable {X:Cx}{tg:Expr}
noncomputable def d4 (i j c:Int):Nat:=(AS i j c).toNat
def Vo (t:TA):TI:=λY H R=>t Y H λvs a=>∃i j c:Int,vs=[.int i,.int j,.int c]/\(-(2^61)<=i/\i<2^61/\-(2^61)<=j/\j<2^61/\0<c/\c<2^29)/\R (UJ i c (d4 i j c)) a
theorem kj (hg:Gl X "range")(M:X.mg "range"=none)(U:PA X [a,b,d] A)(L:Av [a,b,d] X.env=(false,eval a X.env)::Av [b,d] X.env:=by rfl)
  (l:(BY pos (Av [b,d] X.env)).any (·.1)=false:=by rfl):
  PI X tg (.Call (.Name "range" p) [a,b,d] [] pos) (Vo A):=by
 intro pins s Y H R I h;refine GX (fG I hg M II (A7 (cy (U pos pins s Y H _ I h) λus f ⟨vs,v,I1,w,Q⟩=>?_) L l));obtain⟨i,j,c,e,⟨Q,J,G,C,n,q6⟩,q⟩:=Q;subst e
 cases w with
 |cons r g =>
  cases g with
  |cons B g=>
   cases g with
   |cons k g=>
    cases g;obtain⟨t,rfl⟩:=r;obtain⟨t',rfl⟩:=B;obtain⟨T,rfl⟩:=k;refine PySem.call_range_3 (by lia) ?_ (.inl (Eu (by omega)));refine FQ (GC ..) (x6 Q J G C n (by lia)) ?_;have m:bC X pins Y v {f with heap:=f.heap.push {cls:=.type "range",data:=.fields #[.int i t,.int j t',.int c T]},toks:=f.toks}:=I1.kept λb o e=>Ag _ e
    refine⟨(f.heap.push {cls:=.type "range",data:=.fields #[.int i t,.int j t',.int c T]}).objs.size,[(f.heap.push {cls:=.type "range",data:=.fields #[.int i t,.int j t',.int c T]}).objs.size],_,_,v,rfl,
     m.kept (t':=f.toks) λb o e=>Ag _ e,nq _ i c (d4 i j c),?_,λb O=>?_,q⟩
    .have e1:i+((0:Nat):Int)*c=i:=by simp
     have u:((d4 i j c:Nat):Int)-((0:Nat):Int)=AS i j c:=by
      have z:0<=AS i j c:=by
       unfold AS;rw[if_pos (show c > 0 from n)];split
       .have u:0<=(j-i-1) / c:=Gf (by lia) (by lia);omega
       .lia
      unfold d4;lia
     rw[e1,u];exact Aq _ rfl
    .have e:b=(f.heap.push {cls:=.type "range",data:=.fields #[.int i t,.int j t',.int c T]}).objs.size:=by simpa using O
     subst e;exact m.ow (Ah _) (m.cN.fresh (Ah _))
end
section
variable {X:Cx}
end
noncomputable def dk (scope:BG)(env:DU):List (Al×Ac):=((scope.names.filter λx=>x.2 == .free).map λx=>(x.1,(env.cells.lookup x.1).getD 0)).reverse
theorem hX (env:DU): ∀(l:List (Al×EU)) (A:List (Al×Ac)),(∀x∈l,x.2 = .free->∃c,env.cells.lookup x.1=some c)->
  (forIn l A (λ(x:Al×EU) (r:List (Al×Ac))=>(match x with | (name,kind)=>if (kind==Bq)=true then do let a <- KO env name;pure (G5 ((name,a)::r)) else pure (G5 r):IZ (ForInStep (List (Al×Ac)))))) =
   (pure (((l.filter λx=>x.2 == .free).map λx=>(x.1,(env.cells.lookup x.1).getD 0)).reverse++A):IZ (List (Al×Ac)))
 | [],A,_=>rfl
 | (n,k)::l,A,h=>by
  rw[List.forIn_cons];by_cases j:k = .free
  .subst j;obtain⟨c,hc⟩:=h (n,.free) Az rfl;have C:env.cells.lookup n=some c:=hc;have f:=hX env l ((n,c)::A) λx g=>h x (Aw _ g)
   have e:KO env n=pure c:=by unfold KO;rw[C]
   simp only[beq_self_eq_true,if_true,e,pure_bind];rw[f];simp[C]
  .have B:(k==Bq)=false:=by simpa using j
   have f:=hX env l A λx g=>h x (Aw _ g)
   simp only[B,C6,if_false,pure_bind];rw[f];simp[B]
theorem jc (h:∀x∈scope.names,x.2 = .free->∃c,env.cells.lookup x.1=some c): Et scope env=pure (dk scope env):=by
 have:=hX env scope.names [] h;unfold Et dk;rw[Bj]at this;simp only[bind_pure];exact this
theorem l_ (x:Al): (dk scope env).lookup x=if (scope.names.any λy=>y.1==x && y.2 == .free) then some ((env.cells.lookup x).getD 0) else none:=by
 have key:∀(l:List (Al×EU)),((l.filter λx=>x.2 == .free).map λx=>(x.1,(env.cells.lookup x.1).getD 0)).lookup x=if (l.any λy=>y.1==x && y.2 == .free) then some ((env.cells.lookup x).getD 0) else none:=by
  intro l
  induction l with
  |nil=>rfl
  |cons p l c=>
   obtain⟨n,k⟩:=p;by_cases h:(k==Bq)=true
   .rw [HP,if_pos (show ((n,k).2==Bq)=true from h),BJ,Cu,c];by_cases hn:n=x
    .subst hn;simp[h]
    .have h1:(x==n)=false:=by simpa using λe=>hn e.symm
     have h2:(n==x)=false:=by simpa using hn
     simp[h1,h2]
   .have a:(k==Bq)=false:=by simpa using h
    rw[HP,if_neg (show ¬ ((n,k).2==Bq)=true from h),c];simp[a]
 have rev:(dk scope env)=((scope.names.reverse.filter λx=>x.2 == .free).map λx=>(x.1,(env.cells.lookup x.1).getD 0)):=by
  unfold dk;rw[<- Ct,<- List.filter_reverse]
 rw[rev,key,List.any_reverse]
theorem zp {R:Gm->Af->Prop}(I:Nat->Af->Prop)
  (turn : ∀n s,I n s->AI (model prog w) A (FS T) (λr a=>match r with
   |none=>R (.ok .next) a
   |some v=>AI (model prog w) A (GA target T v) (λ_ k=>AI (model prog w) A (GR target env v) (λ_ j=>AI (model prog w) A (eval L env) (λx g=>
     AI (model prog w) A (call (.builtin "list.append") [C,x]) (λ_ c=>∃m,m<n/\I m c) (λ_ _=>False) g) (notedBy (model prog w) A env λe u=>R (.error e) u) j) (λ_ _=>False) k) (λ_ _=>False) a) (λ_ _=>False) s)
  (n:Nat) (h:I n s): Cd (model prog w) A (.compLoop (.ListComp L [⟨target,iter,[],0⟩] scope pos) 0 T C env) R s:=by
 refine codeAny_loop rfl I (λn s z=>?_) n h;refine wpAny_noted ?_;rw[compTurn_list1];refine Ae (G6 (Ae (B6 (turn n s z) (λr a l=>?_) λ_ _ f=>f.elim)))
 cases r with
 |none=>exact AN l
 |some v=>
  refine Ae (B6 l (λ_ k t=>?_) λ_ _ f=>f.elim);exact Ae (B6 t (λ_ j q=>Ae (Ae (B6 q (λx g p=>Ae (B6 p (λ_ c o=>AN (AN ⟨rfl,o⟩)) λ_ _ f=>f.elim)) λ_ _ f=>f))) λ_ _ f=>f.elim)
theorem jR (x:Al): (F8 scope env).names.lookup x=(scope.names.lookup x).map λk=>if (k==Bq && env.scope.kind == .function && env.kindOf x==some .cell)=true then ET else k:=by
 have key:∀l:List (Al×EU),(l.map λ(n,k)=>if (k==Bq && env.scope.kind == .function && env.kindOf n==some .cell) then (n,ET) else (n,k)).lookup x =
   (l.lookup x).map λk=>if (k==Bq && env.scope.kind == .function && env.kindOf x==some .cell)=true then ET else k:=by
  intro l
  induction l with
  |nil=>rfl
  |cons p l h=>
   obtain⟨n,k⟩:=p;rw[BJ];by_cases hn:x=n
   .subst hn;by_cases hc:(k==Bq && env.scope.kind == .function && env.kindOf x==some .cell)=true
    .simp only[hc,if_true,Cu,beq_self_eq_true,Gc]
    .simp only[if_neg hc,Cu,beq_self_eq_true,Gc]
   .have B:(x==n)=false:=by simpa using hn
    by_cases hc:(k==Bq && env.scope.kind == .function && env.kindOf n==some .cell)=true
    .simp only[hc,if_true,Cu,B];exact h
    .simp only[if_neg hc,Cu,B];exact h
 exact key scope.names
noncomputable def mm (ix:List (Option Nat))(Y:St):St:=ix.map λo=>o.bind λi=>(Y[i]?).join
def cT (X:Cx)(scope:BG):List Al->List (Option Nat)->Prop
 | [],[]=>True
 |_::N,none::ix=>cT X scope N ix
 |x::N,some i::ix=>(X.N[i]?=some x/\scope.names.lookup x=some .free/\(X.env.kindOf x=some .cell∨X.env.kindOf x=some .free))/\cT X scope N ix
 |_,_=>False
theorem cT.get:∀{N:List Al} {ix:List (Option Nat)},cT X scope N ix->N.length=ix.length/\∀(j i:Nat),ix[j]?=some (some i)->
  ∃x,N[j]?=some x/\X.N[i]?=some x/\scope.names.lookup x=some .free/\(X.env.kindOf x=some .cell∨X.env.kindOf x=some .free)
 | [],[],_=>⟨rfl,λj i h=>by simp at h⟩
 |x::N,none::ix,h=>by
  obtain⟨h1,h2⟩:=cT.get (show cT X scope N ix from h);refine⟨by simp[h1],λj i e=>?_⟩
  cases j with
  |zero=>simp at e
  |succ j=>simpa using h2 j i e
 |x :: N,some c::ix,h=>by
  obtain⟨a,h⟩:=(show _/\cT X scope N ix from h)
  obtain⟨h1,h2⟩:=cT.get h;refine⟨by simp[h1],λj i e=>?_⟩
  cases j with
  |zero=>
   simp at e
   subst e;exact⟨x,rfl,a⟩
  |succ j=>simpa using h2 j i e
 | [],_::_,h=>h.elim
 |_::_,[],h=>by cases h
structure bV (outer scope:BG):Prop where
 kind:scope.kind = .function
 cell:∀y∈scope.names,y.2≠.cell
 free:∀y∈scope.names,y.2 = .free->outer.names.lookup y.1=some .cell∨outer.names.lookup y.1=some .free
 names:∀y∈scope.names,y.2 = .local->scope.names.lookup y.1=some .local
noncomputable abbrev Cx.se (X:Cx)(scope:BG)(N:List Al)(f:List Ac)(s:Af)(H:Hp):Cx:=
 {X with N:=N,s₀:=s,H₀:=H,env:=HV scope (dk scope X.env) s.heap.objs.size X.env,outer:=X.stack,ex:=f,fn:=λ_=>false,pn:=[],xe:=λ_ _=>False}
section
variable {X:Cx}{pins:List (Ac×B5)}{Y:St}{H:Hp}{s:Af}{scope:BG}{N:List Al}{ix:List (Option Nat)}{fp:List Ac}
theorem ip (ok:X.Ok)(S:bV X.env.scope scope)(h:(dk scope X.env).lookup x=some c): X.env.cells.lookup x=some c:=by
 rw[l_]at h;split at h
 .rename_i A;obtain⟨y,a,e⟩:=Fy.mp A;rw[Ds,beq_iff_eq,beq_iff_eq]at e;obtain⟨g,f⟩:=e;subst g;obtain⟨c',C⟩:=ok.has y.1 (S.free y a f);rw[C]at h ⊢;exact h
 .cases h
theorem xC (ok:X.Ok)(h:scope.names.lookup x=some .free)(k:X.env.kindOf x=some .cell∨X.env.kindOf x=some .free): ∃c,(dk scope X.env).lookup x=some c/\X.env.cells.lookup x=some c:=by
 obtain⟨c,hc⟩:=ok.has x k;refine⟨c,?_,hc⟩;rw[l_,if_pos,hc]
 .rfl
 .exact Fy.mpr ⟨(x,.free),PySem.mem_of_lookup h,by simp⟩
theorem bC.ZN (I:bC X pins Y H s)(S:bV X.env.scope scope)(hf:∀b∈fp,jl X pins H b)(yZ:∀b∈fp,b<s.heap.objs.size): (X.se scope N fp s H).Ok where
 mod:=I.ok.mod
 kind:=S.kind
 glob:=I.ok.glob
 blt:=I.ok.blt
 above:=Ah _
 inj:=λx y c h1 h2=>I.ok.inj x y c (ip I.ok S h1) (ip I.ok S h2)
 has := λx hx=>by
  have T8:(F8 scope X.env).names.lookup x=some .cell∨(F8 scope X.env).names.lookup x=some .free:=hx;rw[jR]at T8
  cases e:scope.names.lookup x with
  |none=>rw[e]at T8;simp at T8
  |some k=>
   have hm:=PySem.mem_of_lookup e;have hk:k = .free:=by
    by_cases hk:k = .free
    .exact hk
    .exfalso
     have hb:(k==Bq)=false:=by simpa using hk
     have hc:k≠.cell:=S.cell _ hm;have e2:(if (k==Bq && X.env.scope.kind == .function && X.env.kindOf x==some .cell)=true then ET else k)=k:=if_neg (by rw[hb,E5];exact AL);rw[e,Gc,e2]at T8;rcases T8 with z |z
     .exact hc (A6 z)
     .exact hk (A6 z)
   subst hk;obtain⟨c,h1,_⟩:=xC I.ok e (S.free _ hm rfl);exact⟨c,h1⟩
 VR:=λx c h _=>by cases h
 hd:=I.ok.hd
 frames:=I.ok.frames
 Yu:=.inl rfl
 ĝ:=λb hb=>⟨Bm (yZ b hb),λx c h=>(hf b hb).2.2.2.2.1 x c (ip I.ok S h)⟩
 bs:=I.bs
 L3:=Bv I.ok.L3 I.sz
 Nn:=λb o e hb=>by
  rcases (hf b hb).2.2.2.1 with z |z
  .exact I.ok.Nn b o e z
  .exact absurd (AV (AX e) (Bv I.ok.L3 z)) (B3 _)
 Ru:=λb hb h=>by
  rcases AJ.mp (I.px b h) with z |z
  .exact (hf b hb).2.1 z
  .exact (hf b hb).2.2.1 z
 j8:=I.stack
 Rp:=I.oD
theorem bC.se {m:Al->Option Aa}(I:bC X pins Y H s)(S:bV X.env.scope scope)(J:cT X scope N ix)(hf:∀b∈fp,jl X pins H b)(L:∀b∈fp,b<s.heap.objs.size)
  (A:h.Ns s.heap.objs.size m) (B:Heap.SameBut s.heap.objs.size (s.heap.push o) h): bC (X.se scope N fp s H) [] (mm ix Y) H {s with heap:=h,toks:=t}:=by
 have keep:∀b o,s.heap.get? b=some o->h.get? b=some o:=λb o e=>B.extBut b o (Bm (AX e)) (Ag _ e)
 obtain⟨hl,C⟩:=J.get;refine⟨I.ZN S hf L,rfl,I.bare,Un.kept keep,⟨m,A,λj x v e1 a e3=>?_⟩,λx c e=>?_,I.cN.fresh (Ah _),λx c e=>I.j9 x c (ip I.ok S e),λp hp=>absurd (show p∈([]:List (Ac×B5)) from hp) (by simp),I.cN.kept keep,by unfold mm;rw[Au];exact hl.symm⟩
 .obtain ⟨i,h1,h2⟩:∃i,ix[j]?=some (some i)/\Y[i]?=some (some v):=by
   unfold mm at a;rw[AH]at a
   cases q:ix[j]? with
   |none=>rw[q]at a;cases a
   |some o=>
    rw[q]at a
    cases o with
    |none=>simp at a
    |some i=>
     refine⟨i,rfl,?_⟩
     cases Q:Y[i]? with
     |none=>simp[Q]at a
     |some o2=>simp[Q]at a;rw[a]
  obtain⟨y,T,n2,M,n⟩:=C j i h1;have w:x=y:=by rw[e1]at T;exact A6 T
  subst w;obtain⟨m',ŋ,G⟩:=I.loc;have g:Yb X.env.scope x:=by rcases n with k |k;exact .inr (.inl k);exact .inr (.inr k)
  obtain⟨u,r,l⟩:=G i x v n2 h2 g;refine⟨u,r,.inr ⟨?_,?_⟩⟩
  .show (F8 scope X.env).names.lookup x=some .cell∨(F8 scope X.env).names.lookup x=some .free
   rw[jR,M];by_cases hc:(Bq==Bq && X.env.scope.kind == .function && X.env.kindOf x==some .cell)=true
   .left;simp only[Gc,if_pos hc]
   .right;simp only[Gc,if_neg hc]
  .obtain ⟨c,c1,c2⟩:=xC I.ok M n;refine⟨c,c1,?_⟩;rcases l with⟨U,_⟩ | ⟨_,c',f,z⟩
   .rcases n with k |k
    .rw [U]at k;cases k
    .rw [U]at k;cases k
   .rw [c2]at f;cases f;obtain⟨ob,O,hd⟩:=z;exact⟨ob,keep _ _ O,hd⟩
 .obtain ⟨v,ob,O,hd⟩:=I.cell x c (ip I.ok S e);exact⟨v,ob,keep _ _ O,hd⟩
theorem bC.Ym (I:bC X pins Y H s)(hf:∀b∈fp,jl X pins H b)(J:bC (X.se scope N fp s H) p e c a): bC X pins Y c a:=
 I.RJ J.os J.base J.cN J.bare λb h=>⟨(hf b h).2.2.2.1,(hf b h).2.1,(hf b h).2.2.2.2.1,(hf b h).2.2.2.2.2⟩
theorem bC.tG (I:bC X pins Y H s)(f:jl X pins H C)(h:Heap.SameBut C s.heap h'): bC X pins Y H {s with heap:=h'}:=
 I.turned (t':=s.toks) (λb o B e=>h.extBut b o B e) f.1 f.2.1 f.2.2.2.1 f.2.2.2.2.1 f.2.2.2.2.2
end
def de (J:It)(D:Ac)(g:TG)(t:TE)(a:St)(H₀:Hp)(fin:Hp->Prop):Prop:=
 ∃W:Nat->Nat->St->List V->Hp->Prop,(∃m,W 0 m a [] H₀)/\∀i m Y ys H,W i m Y ys H->
  (J.stop i H/\fin H)∨(ys.length<AM/\J.go i H/\∀x f,J.Ä i H x f->g x Y f λc h=>t c h λy e=>e D=some (.lst ys)/\∃M,M<m/\W (i+1) M c (ys++[y]) (cP e D (.lst (ys++[y]))))
def pw (w:TI)(ix:List (Option Nat))(g:TG)(t:TE):TE:=λY H Q=>w Y H λJ a=>∀D,a D=none->de J D g t (mm ix Y) (cP a D (.lst [])) λc=>Q (.ref D) c
section
variable {X:Cx}{tg elt iter:Expr}{scope:BG}{N:List Al}{ix:List (Option Nat)}{wi:TI}{g:TG}{te:TE}{pos:Dt}
theorem zo {RR:Aa->Ac->Gm->Af->Prop}(hc:X.calm=true)(hi:PI X tg iter wi)(S:bV X.env.scope scope)(cap:cT X scope N ix)
  (hg:∀k s H,PG (X.se scope N k s H) tg g) (I:bC X pins Y H s) (h:pw wi ix g te Y H Q)
  (he:∀D k f H3 U s7 Y7 H7 Q',bC X pins Y H3 f->(∀b∈k,jl X pins H3 b)->bC (X.se scope N k f H3) U Y7 H7 s7->te Y7 H7 Q'->AI (model X.prog X.w) X.A (eval elt (HV scope (dk scope X.env) f.heap.objs.size X.env)) (EP (X.se scope N k f H3) U Y7 Q') (notedBy (model X.prog X.w) X.A (HV scope (dk scope X.env) f.heap.objs.size X.env) λe O=>RR (.ref D) f.heap.objs.size (.error e) O) s7)
  (hRR:∀D C G O,bC X pins Y G O->jl X pins G C->(∃m,O.heap.Ns C m)->Q (.ref D) G->RR (.ref D) C (.ok .next) O):
  AI (model X.prog X.w) X.A (eval iter X.env) (λx é=>AI (model X.prog X.w) X.A (Hz x) (λit è=>AI (model X.prog X.w) X.A (newList []) (λacc ç=>
   AI (model X.prog X.w) X.A (JL scope X.env.globals (dk scope X.env) [] X.env.qual none .none (some X.env)) (λZL æ=>
    Cd (model X.prog X.w) X.A (.compStart (.ListComp elt [⟨tg,iter,[],0⟩] scope pos) 0 it acc {ZL with scope:=F8 scope X.env}) (RR acc ZL.locals) æ) X.xe ç) X.xe è) X.xe é) X.xe s:=by
 refine cy (hi pins s Y H _ I h) λv s1 h1=>cy h1 λž a h2=>?_
 obtain⟨it,k,tn,J,H2,e,I2,T,Ķ,f2,R⟩:=h2;subst e;refine CJ (HR S.cell (by intro y hy;simp at hy) (λT7 L j=>?_) S.kind);dsimp only at L j ⊢;have I3:bC X pins Y (cP H2 a.heap.objs.size (.lst [])) {a with heap:=a.heap.push {cls:=.type "list",data:=.seq ([]:List Aa).toArray},toks:=a.toks}:=I2.W7 .nil (Br _);have hD:H2 a.heap.objs.size=none:=I2.fresh;have Ļ:∀b∈k,b<a.heap.objs.size:=λb B=>by obtain⟨o,e,_⟩:=T.obj 0 _ Ķ b B;exact AX e
 obtain⟨W,⟨m0,w0⟩,turn⟩:=R a.heap.objs.size hD;generalize ŀ:({a with heap:=a.heap.push {cls:=.type "list",data:=.seq ([]:List Aa).toArray},toks:=a.toks}:Af)=f at I3;have e3:f.heap=a.heap.push {cls:=.type "list",data:=.seq ([]:List Aa).toArray}:=by rw[<- ŀ]
 have ů:f.heap.objs.size=a.heap.objs.size+1:=by rw[e3,Dm]
 have f3:∀b∈k,jl X pins (cP H2 a.heap.objs.size (.lst [])) b:=λb B=>⟨by rw[bI (Bm (Ļ b B))];exact (f2 b B).1,(f2 b B).2⟩
 have ĺ:∀b∈k,b<f.heap.objs.size:=λb B=>by rw[ů];exact HM (Ļ b B)
 have q:=L;rw[<- e3]at q;have l:=j;rw[<- e3]at l;have J0:=I3.se (t:=a.toks+([]:List (Al×Aa)).length) S cap f3 ĺ q l;have Y8:∀b o,a.heap.get? b=some o->T7.get? b=some o:=λb o e=>j.extBut b o (by rw[Dm];exact Bm (HM (AX e))) (Ag _ (Ag _ e))
 have zY:tn 0 T7:=T.keep 0 _ _ Ķ λb _ o e=>Y8 b o e
 have M:∀{G:Hp},(∀b∈k,G b=none)->∀b∈k,jl (X.se scope N k f (cP H2 a.heap.objs.size (.lst []))) [] G b:=λ{G} hn b B=>by
  refine⟨hn b B,Bm (ĺ b B),λz=>?_,.inl B,λx c e=>(f2 b B).2.2.2.2.1 x c (ip I.ok S e),λp hp=>absurd (show p∈([]:List (Ac×B5)) from hp) (by simp)⟩;rcases AJ.mp (I3.px b z) with y |y
  .exact (f2 b B).2.1 y
  .exact (f2 b B).2.2.1 y
 have loop:∀s4:Af,s4={f with heap:=T7,toks:=a.toks+([]:List (Al×Aa)).length}->
   Cd (model X.prog X.w) X.A (.compLoop (.ListComp elt [⟨tg,iter,[],0⟩] scope pos) 0 (.ref it) (.ref a.heap.objs.size) (HV scope (dk scope X.env) f.heap.objs.size X.env)) (RR (.ref a.heap.objs.size) f.heap.objs.size) s4:=by
  rintro s4 rfl;refine zp (λn O=>∃i Y' ys G,bC (X.se scope N k f (cP H2 a.heap.objs.size (.lst []))) [] Y' G O/\tn i O.heap/\(∀b∈k,G b=none)/\W i n Y' ys G) ?_ m0 ⟨0,_,[],_,J0,zY,λb B=>(f3 b B).1,w0⟩;rintro n O ⟨i,Y',ys,G,I',uf,ŗ,w'⟩;rcases turn i n Y' ys G w' with⟨stop,fin⟩ | ⟨hy,go,step⟩
  .refine cy (T.done (X.se scope N k f (cP H2 a.heap.objs.size (.lst []))) rfl rfl rfl hc i [] O Y' G _ I' (M ŗ) uf stop) λr s5 ⟨hr,I5⟩=>?_
   subst hr;obtain⟨m,hn,_⟩:=I5.loc;exact hRR _ _ G s5 (I3.Ym f3 I5) (I3.ow (Ah _) I5.free) ⟨m,hn⟩ fin
  .refine cy (T.item (X.se scope N k f (cP H2 a.heap.objs.size (.lst []))) rfl rfl rfl hc i [] O Y' G _ I' (M ŗ) uf go) λr s5 ⟨u,hr,h5⟩=>?_
   subst hr;refine cy h5 λ_ s6 ⟨x,H6,I6,r6,y6,ê,fr6⟩=>?_
   have I6':=I6.pinned (M fr6) (T.obj _ _ ê);refine cy (hg k f _ _ s6 Y' H6 x u _ I6' r6 (step x H6 y6)) λ_ s7 ⟨Y7,H7,I7,q7⟩=>?_
   refine B6 (he a.heap.objs.size k f _ _ s7 Y7 H7 _ I3 f3 I7 q7) (λyv s8 ⟨y,H8,I8,r8,ϥ,m',ċ,w8⟩=>?_) λ_ _ z=>z
   refine cy (dj _ s8 Y7 H8 (.ref a.heap.objs.size) [y] (.ref a.heap.objs.size) [yv] (λ_ H9=>H9=cP H8 a.heap.objs.size (.lst (ys++[y]))) I8 rfl (.cons r8 .nil) ⟨_,ys,y,rfl,rfl,ϥ,hy,rfl⟩) λ_ s9 ⟨_,H9,I9,_,e9⟩=>?_
   subst e9;refine⟨m',ċ,i+1,Y7,ys++[y],_,I9.lA,T.keep _ _ _ ê λb B o e=>(I9.pin (b,o) (Bn _ (Bn _ (iT B e)))).1,λb B=>?_,w8⟩;obtain⟨o,e,_⟩:=T.obj _ _ ê b B;exact (I9.pin (b,o) (Bn _ (Bn _ (iT B e)))).2.1
 have fin:=loop _ rfl;rw[<- ŀ]at fin;exact codeAny_compStart_list fin (T.self _ 0 _ _ _ zY fin)
theorem tM {RR:Aa->Ac->Gm->Af->Prop}(hc:X.calm=true)(hi:PI X tg iter wi)(S:bV X.env.scope scope)(r:cT X scope N ix)
  (hg:∀k s H,PG (X.se scope N k s H) tg g) (B:∀k s H,PE (X.se scope N k s H) elt te) (I:bC X pins Y H s) (h:pw wi ix g te Y H Q)
  (o:∀D C t n,bC X pins Y t n->jl X pins t C->(∃m,n.heap.Ns C m)->Q (.ref D) t->RR (.ref D) C (.ok .next) n):
  AI (model X.prog X.w) X.A (eval iter X.env) (λx j=>AI (model X.prog X.w) X.A (Hz x) (λT f=>AI (model X.prog X.w) X.A (newList []) (λl e=>
   AI (model X.prog X.w) X.A (JL scope X.env.globals (dk scope X.env) [] X.env.qual none .none (some X.env)) (λc a=>
    Cd (model X.prog X.w) X.A (.compStart (.ListComp elt [⟨tg,iter,[],0⟩] scope pos) 0 T l {c with scope:=F8 scope X.env}) (RR l c.locals) a) X.xe e) X.xe f) X.xe j) X.xe s:=
 zo hc hi S r hg I h (λD k v O p u G M J _ _ L q=>B6 (B k v O p u G M J L q) (λ_ _ z=>z) λ_ _ z=>z.elim) o
theorem xD (S:bV X.env.scope scope)(ok:X.Ok): Et scope X.env=pure (dk scope X.env):=jc λx h e=>ok.has x.1 (S.free x h e)
theorem eC (hc:X.calm=true)(hi:PI X tg iter wi)(S:bV X.env.scope scope)(c:cT X scope N ix)(hg:∀f s H,PG (X.se scope N f s H) tg g)(k:∀f s H,PE (X.se scope N f s H) elt te)
  (j:∀x,F9 iter X.env x=pure x:=by intro _;rfl): PE X (.ListComp elt [⟨tg,iter,[],0⟩] scope pos) (pw wi ix g te):=by
 intro pins s Y H Q I h;refine G9 rfl j (xD S I.ok) S.kind S.names (tM (RR:=λe C=>compPost (model X.prog X.w) X.A X.xe none (EP X pins Y Q) e C) hc hi S c hg k I h λD C o p n l hn q=>?_);obtain⟨m,hn⟩:=hn;exact⟨m,hn,λh' a=>⟨.ref D,o,n.tG l a,rfl,q⟩⟩
theorem gn (hN:X.N.Nodup)(k:X.N[i]?=some y)(L:X4 X.env.scope y)(hc:X.calm=true)(hi:PI X tg iter wi)(S:bV X.env.scope scope)(t:cT X scope N ix)
  (hg:∀o s H,PG (X.se scope N o s H) tg g) (T:∀o s H,PE (X.se scope N o s H) elt te)
  (f:Hk (.ListComp elt [⟨tg,iter,[],0⟩] scope pos) (some (.Name y py)) p.line X.env=pure true:=by rfl)
  (M:∀x,F9 iter X.env x=pure x:=by intro _;rfl) (hf:X.fn y=true∨X.env.scope.names.lookup y=some .local:=by first |exact .inl rfl |exact .inr rfl |assumption):
  PS X (.Assign [.Name y py] (.ListComp elt [⟨tg,iter,[],0⟩] scope pos) p) (kB (pw wi ix g te) (gO i)):=by
 intro pins s Y H D I h;rw[exec_Assign_Name_used _ _ _ _ f];refine Ae (G6 (Ae ?_));refine Ae (B6 (G9 (use:=some (GR (.Name y py) X.env)) (Q:=λ_ c=>SP X pins D .next c) rfl M (xD S I.ok) S.kind S.names
  (tM (RR:=λu C=>compPost (model X.prog X.w) X.A X.xe (some (GR (.Name y py) X.env)) (λ_ c=>SP X pins D .next c) u C) hc hi S t hg T I h λl C H' c I' r hn q=>?_)) (λ_ c O=>AN (AN O)) λ_ _ e=>e)
 obtain⟨m,hn⟩:=hn;refine IS (sy (v:=.ref l) I' hN k L rfl (λJ G ⟨a,B,U⟩=>?_) hf);have n:C≠a:=by
  rcases U with z |z
  .rw [z];exact r.2.1
  .exact Be (r.2.2.2.2.1 y a z)
 exact⟨m,hn.sameBut B n,λh' j=>⟨_,H',G.tG r j,q⟩⟩
end
section
variable {X:Cx}
set_option exponentiation.threshold 5000 in
def U' (K:Ap):List V->Hp->VK->Prop:=λxs H Q=>∃(l:Ac) (ns:List Int),xs=[.ref l]/\eE K H l (ns.map V.int)/\0<ns.length/\∀M,M∈ns->(∀a,a∈ns->a<=M)->Q (.int M) H
theorem kr (hc:X.calm=true):gC X (.builtin "max") (U' X.K):=by
 intro pins s Y H xs us Q I r h;obtain⟨l,ns,rfl,m,c,q⟩:=h;obtain⟨u,rfl,U⟩:=jo r;cases U;obtain⟨T,g,pl,p⟩:=I.list m;have hi:EE T ns:=qO g;have hl:=pl.isList;obtain⟨ys,e⟩:=hi.allInts.items;have n:ns=ys.toList.map (·.1):=by rw[<- hi.numsOf,<- J7,<- e]
 have z:0<ys.size:=by
  have f:=c;rw[n,Au]at f;exact f
 rw[e]at hl;refine max_intList (I.ok.hd hc) hl z λv h' tk k o=>?_
 obtain⟨t,rfl⟩:=intItems_at k;obtain⟨h1,h2⟩:=argBest_gt (numAt ys) (ys.size-1);refine⟨.int _,H,I.kept o,⟨t,rfl⟩,q _ ?_ λa A=>?_⟩
 .rw [n,numAt_eq];exact getD_mem (by rw[Au,DR];omega)
 .rw [n]at A;obtain⟨j,J,rfl⟩:=mem_getD A;rw[Au,DR]at J;rw[<- numAt_eq];exact h2 j (by lia)
def Vc (K:Ap):V->V->Hp->VK->Prop:=λx y H Q=>∃p xs i v,x = .ref p/\y = .int i/\eE K H p xs/\0<=i/\xs[i.toNat]?=some v/\Q v H
theorem NB:ZV X (Vc X.K):=by
 intro pins s Y H o i m n Q I O c h;obtain⟨p,xs,k,v,rfl,rfl,e,f,a,q⟩:=h;cases O;obtain⟨t,rfl⟩:=c;obtain⟨T,r,pl,z⟩:=I.list e;obtain⟨j,g,w⟩:=r.get a;have hn:=mZ;have l:k.toNat<xs.length:=(Ab.mp a).1;exact wpAny_getItem_list pl.isList f (by lia) (by simpa using g) ⟨v,H,I,w,q⟩
end
section
variable {X:Cx}
theorem gC.imp {f:Aa}{r a:List V->Hp->VK->Prop}(h:gC X f r)(hi:∀xs H Q,a xs H Q->r xs H Q):gC X f a:=λpins s Y H xs us Q I rs q=>h pins s Y H xs us Q I rs (hi xs H Q q)
def P1 (K:Ap):List V->Hp->VK->Prop:=λxs H Q=>∃p ys,xs=[.ref p]/\(eE K H p ys∨ky K H p ys)/\∀l a,H l=none->a6 H a->a l=some (.lst ys)->Q (.ref l) a
theorem q_:gC X (.type "list") (P1 X.K):=vp.imp λxs H Q ⟨p,ys,e,h,q⟩=>⟨p,ys,e,h,λl hl=>q l _ hl (a6.new hl) a0⟩
def YH (K:Ap):V->Option Int->Option Int->Hp->VK->Prop:=λx lo hi H Q=>∃a xs,x = .ref a/\eE K H a xs/\∀p c,H p=none->a6 H c->c p=some (.lst (zm xs lo hi))->Q (.ref p) c
theorem X0.imp {r c:V->Option Int->Option Int->Hp->VK->Prop}(h:X0 X r)(hi:∀x lo hi H Q,c x lo hi H Q->r x lo hi H Q):X0 X c:=λpins s Y H x v l u lo a L Q I e f pl p q=>h pins s Y H x v l u lo a L Q I e f pl p (hi _ _ _ _ _ q)
theorem OO:X0 X (YH X.K):=Sx.imp λx lo hi H Q ⟨a,xs,e,h,q⟩=>⟨a,xs,e,h,λp c=>q p _ c (a6.new c) a0⟩
end
end L2
namespace PySem
namespace F
theorem nO:Kz.lookup (String.ofList ['d','e','s','r','e','v','e','r'].reverse)=some Ky:=by kernel_rfl
theorem gy:KS "reversed" "__next__" "reversed.__next__":=
 .of (owner := "reversed") (n := "__next__") (by rw[Cw,CI];kernel_rfl) (by decide +kernel) (by decide +kernel) (by decide +kernel)
  (by first |exact .inl (by decide +kernel) |exact .inr (by decide +kernel)) (by rw[Dv];kernel_rfl)
theorem nQ:JO table "reversed.__next__"=some Ch.«reversed.__next__»:=Jk (by kernel_rfl)
theorem qG (a:Aa):HA "reversed.__next__" ⟨[a],[]⟩:=by
 unfold HA;rw[J6 (id := "reversed.__next__") (n:=['_','_','t','x','e','n','_','_']) (o:=['d','e','s','r','e','v','e','r']) (by kernel_rfl) nO];kernel_rfl
theorem qE:KS "reversed" "__iter__" "reversed.__iter__":=
 .of (owner := "reversed") (n := "__iter__") (by rw[Cw,CI];kernel_rfl) (by decide +kernel) (by decide +kernel) (by decide +kernel)
  (by first |exact .inl (by decide +kernel) |exact .inr (by decide +kernel)) (by rw[Dv];kernel_rfl)
theorem wW (a:Aa):HA "reversed.__iter__" ⟨[a],[]⟩:=by
 unfold HA;rw[J6 (id := "reversed.__iter__") (n:=['_','_','r','e','t','i','_','_']) (o:=['d','e','s','r','e','v','e','r']) (by kernel_rfl) nO];kernel_rfl
theorem vd:JO table "reversed.__iter__"=some Ch.«dict_keyiterator.__iter__»:=
 entryFor_alias (id' := "dict_keyiterator.__iter__") (by kernel_rfl) (by first |rfl |decide +kernel | (unfold String.splitOn;simp +decide [String.splitOnAux])) (by decide +kernel) (by kernel_rfl)
theorem tf:mroOf (.type "reversed")=pure [.type "reversed",.type "object"]:=by rw[mroOf_type];kernel_rfl
theorem wV:FR (.type "reversed") "__new__"=pure (some (.builtin "reversed.__new__")):=by rw[Cw,CI];kernel_rfl
theorem yO:Bind.madeBy (.type "reversed")=pure (some "reversed.__new__"):=madeBy_type tf wV (by decide +kernel)
theorem qA (a:Aa):checkTypeCall "reversed" ⟨[a],[]⟩=pure ():=by kernel_rfl
theorem rQ (a:Aa):checkBuiltinCall "reversed.__new__" ⟨[.type "reversed",a],[]⟩=pure ():=by kernel_rfl
theorem qC:JO table "reversed.__new__"=some Ch.«reversed.__new__»:=Jk (by kernel_rfl)
theorem wR:plainId "reversed.__new__"=true:=by decide +kernel
theorem ve:((Hs "reversed").bind (·.mro.findSome? λt=>(Hs t).bind λb=>if b.noNew then some true else if b.attrs.any (·.1 == "__new__") then some false else none)).getD false=false:=by decide +kernel
theorem td:isSubtype (.type "reversed") (.type "reversed")=pure true:=by rw[Dv];kernel_rfl
theorem wU:FR (.type "tuple") "__reversed__"=pure none:=by rw[Cw,CI];kernel_rfl
theorem vb:isSubtype (.type "tuple") (.type "dict")=pure false:=by rw[Dv];kernel_rfl
end F
section
variable {prog:AA}{w:AT}{A:AU}{E:Aa->Af->Prop}{s:Af}
noncomputable def j0 (t:Ac)(i:Int):B5:={cls:=.type "reversed",data:=.fields #[.ref t,B7 i]}
def Heap.kc (h:Heap)(a t:Ac)(i:Int):Prop:=h.get? a=some (j0 t i)
theorem Heap.kc.typeIs {a t:Ac}{i:Int}(x:s.heap.kc a t i):s.TypeIs (.ref a) "reversed":=⟨_,x,rfl⟩
theorem qD (a:Aa):EH "reversed" ⟨[.type "reversed",a],[]⟩=pure (.type "reversed",[a]):=by
 unfold EH;simp only[isType,F.td,pure_bind,Er,C6,if_false]
theorem F.yQ:KS "reversed" "__init__" "object.__init__":=
 .of (owner := "object") (n := "__init__") (by rw[Cw,CI];kernel_rfl) (by decide +kernel) (by decide +kernel) (by decide +kernel)
  (by first |exact .inl (by decide +kernel) |exact .inr (by decide +kernel)) (by rw[Dv];kernel_rfl)
theorem F.qF (obj a:Aa):HA "object.__init__" ⟨[obj,a],[]⟩:=by
 first |exact F.initArgs_range_1 obj a | (unfold HA;kernel_rfl)
theorem F.vf:TypeCalled "reversed" "reversed.__new__" "object.__init__":=⟨by decide +kernel,F.ve,⟨_,_,F.tf⟩,F.yO,F.wR,F.td,F.yQ⟩
theorem QR (t:Ac)(items:Array Aa):
  MeetsIn prog w (Ch.«reversed.__new__» ⟨[.type "reversed",.ref t],[]⟩) (λA R s=>(s.heap.IsTuple t items/\items.size<=AM)/\∀tk,R (.ok (.ret (.ref s.heap.objs.size))) {s with heap:=s.heap.push (j0 t ((items.size:Int)-1)),toks:=tk}):=
 .of_wp λA R s h=>by
  obtain⟨⟨ht,z⟩,h⟩:=h;have T:s.TypeIs (.ref t) "tuple":=EW ht;unfold Ch.«reversed.__new__»;refine Ae (Dk (qD _) ?_)
  try dsimp only
  refine Ae (Dk (a:=()) (by first |rfl |kernel_rfl) ?_);refine Ae (Dk (a:=()) (by first |rfl |kernel_rfl) ?_)
  try dsimp only
  refine Ae (D_ T F.wU ?_)
  try dsimp only
  refine Ae ?_;show AI _ _ (isInstance (.ref t) (.type "dict") >>= _) _ _ s
  refine Ae (EQ T F.vb ?_);show AI _ _ (specialOf (.ref t) "__getitem__" >>= _) _ _ s
  refine Ae (D_ T DD.lookup ?_);show AI _ _ (if (["tuple.__getitem__","str.__getitem__","bytes.__getitem__","bytearray.__getitem__","memoryview.__getitem__","numpy.ndarray.__getitem__","sqlite3.Row.__getitem__"].contains "tuple.__getitem__")=true then pure true else _) _ _ s
  rw[if_pos (by decide)];refine AN ?_;show AI _ _ (if (!true)=true then _ else _) _ _ s
  rw[if_neg (by decide)];have hn:(AM:Nat)<2^63:=by rw[Cr];decide
  refine Ae (HE ht (by lia) ?_);refine Ae (Dk (a:=some (items.size:Int)) rfl ?_);show AI _ _ (HK (.type "reversed") [.ref t,B7 ((items.size:Int)-1)] >>= _) _ _ _
  refine Ae ?_;show AI _ _ (newObj (.type "reversed") (.fields #[.ref t,B7 ((items.size:Int)-1)])) _ _ _
  refine CJ ?_ (by size_fits);exact AN ⟨_,rfl,h _⟩
theorem kH {t:Ac}{items:Array Aa}{Q:Aa->Af->Prop}(ht:s.heap.IsTuple t items)(z:items.size<=AM)
  (h:∀tk,Q (.ref s.heap.objs.size) {s with heap:=s.heap.push (j0 t ((items.size:Int)-1)),toks:=tk}):AI (model prog w) A (call (.type "reversed") [.ref t]) Q E s:=
 callType_newIn F.vf (by decide) (F.qA _) (F.rQ _) (λobj=>F.qF obj _) F.qC (QR t items) ⟨⟨ht,z⟩,λtk=>⟨⟨_,Aq _ rfl,rfl⟩,h tk⟩⟩
theorem yP {T t:Ac}{i:Nat}{items:Array Aa}{x:Aa}{Q:Option Aa->Af->Prop}(hit:s.heap.kc T t (i:Int))(ht:s.heap.IsTuple t items)(z:items.size<=AM)(h:items[i]?=some x)
  (e:∀h' tk,h'.kc T t ((i:Int)-1)->Heap.SameBut T s.heap h'->Q (some x) {s with heap:=h',toks:=tk}):AI (model prog w) A (FS (.ref T)) Q E s:=by
 have c:s.TypeIs (.ref t) "tuple":=EW ht;have hn:(AM:Nat)<2^63:=by rw[Cr];decide
 have hi:i<items.size:=(Array.getElem?_eq_some_iff.mp h).1;unfold FS;refine Ae (EG (BR (name:=Bp "__next__") hit.typeIs F.gy
  (Cm F.gy hit.typeIs F.nQ ?_ (F.qG _))))
 unfold Ch.«reversed.__next__»;refine Ae (Dk (a:=(Bk T,[])) rfl ?_)
 try dsimp only
 refine Ae (Bu hit rfl (x:=.ref t) rfl ?_);refine Ae (Bu hit rfl (x:=B7 (i:Int)) rfl ?_);show AI _ _ (if (i:Int)<0 then _ else _) _ _ s
 rw[if_neg (by lia)];show AI _ _ (specialOf (.ref t) "__getitem__" >>= _) _ _ s
 refine Ae (D_ c DD.lookup ?_);show AI _ _ (if (Option.isNone (some _))=true then _ else _) _ _ s
 rw[if_neg (by decide)];show AI _ _ (mkInt (i:Int) >>= _) _ _ s
 refine Ae (wpAny_mkInt ?_);refine Ae (EG (GV (j:=i) ht (by lia) (by lia) (PySem.StrLaws.seqIndex_nonneg (by lia) (by lia)) h ?_));dsimp only;refine Ae (Bu hit rfl (x:=B7 (i:Int)) rfl ?_);show AI _ _ (setField (.ref T) 1 (B7 ((i:Int)-1)) >>= _) _ _ _
 refine Ae (Es hit rfl (by simp) ?_);refine AN ⟨x,rfl,AN (e _ _ ?_ (Heap.SameBut.update ..))⟩;exact (Co _ hit (ES (CY rfl _))).trans rfl
theorem Nr {c t:Ac}{Q:Option Aa->Af->Prop}(h:A.handled=none)(hit:s.heap.kc c t (-1))
  (f:∀h',Heap.ExtBut c s.heap h'->Q none {s with heap:=h'}):AI (model prog w) A (FS (.ref c)) Q E s:=by
 unfold FS;refine Ae (EG (BR (name:=Bp "__next__") hit.typeIs F.gy
  (Cm F.gy hit.typeIs F.nQ ?_ (F.qG _))))
 unfold Ch.«reversed.__next__»;refine Ae (Dk (a:=(Bk c,[])) rfl ?_)
 try dsimp only
 refine Ae (Bu hit rfl (x:=.ref t) rfl ?_);refine Ae (Bu hit rfl (x:=B7 (-1)) rfl ?_);show AI _ _ (if (-1:Int)<0 then _ else _) _ _ s
 rw[if_pos (by decide)];refine Ae (GO ?_);refine Ae ?_;show AI _ _ (setField (.ref c) 1 (B7 (-1)) >>= _) _ _ _
 refine Ae (Es hit rfl (by simp) ?_);refine Es (o:=Obj.mapFields (λa=>a.setIfInBounds 1 (B7 (-1))) (j0 t (-1))) (Co _ hit (ES (CY rfl _))) (CY rfl _) (by simp) ?_;refine Ae ?_;show AI _ _ (KN (.type "StopIteration") [] >>= _) _ _ _
 refine Ae ?_;simp only[KN,newTuple];refine Ae (CJ ?_ (by size_fits));refine Ae (m:=Fx _ _) (Dk (a:=Fp) (by first |rfl | (simp only[Fx];rfl)) ?_);refine CJ ?_ (by size_fits);simp only[raiseNew];refine Ae (J5 ?_)
 first |rw[show A.in1.handled=none from h] |rw[h]
 refine Ae (AN (Kq ?_));refine Ae (EQ (T := "StopIteration") (b:=true) ⟨_,Aq _ rfl,rfl⟩ JM ?_);refine AN (f _ ?_);refine Heap.ExtBut.push (Heap.ExtBut.push ?_ _) _;intro b o B e;exact (CK _ _ (Be B)).trans ((CK _ _ (Be B)).trans e)
theorem qB {T t:Ac}{i:Int}{Q:Aa->Af->Prop}(hit:s.heap.kc T t i)(h:Q (.ref T) s):AI (model prog w) A (Hz (.ref T)) Q E s:=by
 refine wpAny_pyIter_slot hit.typeIs F.qE (Cm F.qE hit.typeIs F.vd ?_ (F.wW _));show AI _ _ (ret (.ref T)) _ _ s
 exact AN ⟨_,rfl,"reversed",_,hit.typeIs,F.gy.lookup,h⟩
end
end PySem
namespace L2
open PySem PySem.Spec PyProof.Rows
noncomputable def ť (K:Ap)(a:Ac)(n:Nat):It:=
 ⟨λi H=>∃xs x,ky K H a xs/\xs.length=n/\i<n/\xs[n-1-i]?=some x,λi H x c=>c=H/\∀xs,ky K H a xs->xs[n-1-i]?=some x,λi _=>n<=i⟩
theorem Ox {P:AA}{w:AT}{K:Ap}{tg:Expr}(a it:Ac)(n:Nat):sf P w K tg (ť K a n) [it] it (λi h=>i<=n/\h.kc it a ((n:Int)-1-(i:Nat))) where
 mem:=by simp
 obj := λi h st b hb=>by
  have e:b=it:=by simpa using hb
  subst e;exact⟨_,st.2,λv z=>by
   have z':G1 _=HJ v:=z;cases z'⟩
 keep:=λi h h' st k=>⟨st.1,k it (by simp) _ st.2⟩
 item:=by
  kj_on
  obtain⟨xs,x,hq,hn,hi,hx⟩:=hg;obtain⟨Vk,rv,p,hz⟩:=I.tuple hq;obtain⟨u,hu,ru⟩:=rv.get hx;obtain⟨f0,f1,f2,f3,f4,f5⟩:=hf it (by simp);have hl:=rv.length;have ue:s.heap.kc it a (((n-1-i:Nat)):Int):=by
   have e:(((n-1-i:Nat)):Int)=(n:Int)-1-(i:Nat):=by lia
   rw[e];exact st.2
  refine yP (items:=Vk.toArray) ue p (by rw[Ay,<- hl];exact hz) (x:=u) (by simpa using hu) λh' tk uf sb=>?_
  have I1:bC X pins Y H {s with heap:=h',toks:=tk}:=I.turned (λb o hb e=>(sb.2 b hb).trans e) f0 f1 f3 f4 f5;have zY:h'.kc it a ((n:Int)-1-((i+1:Nat):Int)):=by
   have e:(n:Int)-1-((i+1:Nat):Int)=(((n-1-i:Nat)):Int)-1:=by lia
   rw[e];exact uf
  exact⟨u,rfl,nW (s:={s with heap:=h',toks:=tk}) (n := "reversed") uf rfl rfl (by decide) ⟨x,H,I1,ru,⟨rfl,λys hy=>by rw[I.su hy hq];exact hx⟩,⟨by lia,zY⟩,λb hb=>(hf b hb).1⟩⟩
 done:=by
  kj_on
  obtain⟨f0,f1,f2,f3,f4,f5⟩:=hf it (by simp);have ue:s.heap.kc it a (-1):=by
   have h1:=st.1;have h2:n<=i:=hg;have e:(-1:Int)=(n:Int)-1-(i:Nat):=by lia
   rw[e];exact st.2
  exact Nr (I.ok.hd hc) ue λh' eb=>⟨rfl,I.turned (t':=s.toks) (λb o hb e=>eb b o hb e) f0 f1 f3 f4 f5⟩
 self:=λ_ _ _ _ _ st h=>qB st.2 h
section
variable {X:Cx}{tg:Expr}
def Zc (K:Ap)(t:TA):TI:=λY H R=>t Y H λvs c=>∃a xs,vs=[.ref a]/\ky K c a xs/\R (ť K a xs.length) c
theorem wC {l:Expr}{T:TA}{p pos:Dt}(hg:Gl X "reversed")(M:X.mg "reversed"=none)(A:PA X [l] T)(k:Av [l] X.env=[(false,eval l X.env)]:=by rfl):PI X tg (.Call (.Name "reversed" p) [l] [] pos) (Zc X.K T):=by
 intro pins s Y H R I h;refine GX (fG I hg M Du (A7 (cy (A pos pins s Y H _ I h) λus c ⟨vs,n,f,j,Q⟩=>?_) k rfl));obtain⟨a,xs,e,m,q⟩:=Q;subst e;obtain⟨u,rfl,U⟩:=jo j;cases U;obtain⟨t,r,pt,z⟩:=f.tuple m;have hl:=r.length;refine kH (items:=t.toArray) pt (by rw[Ay,<- hl];exact z) λtk=>?_
 have g:(c.heap.push (j0 a ((t.toArray.size:Int)-1))).kc c.heap.objs.size a ((xs.length:Int)-1-((0:Nat):Int)):=by
  have e:(xs.length:Int)-1-((0:Nat):Int)=(t.toArray.size:Int)-1:=by rw[Ay,hl];lia
  rw[e];exact Aq _ rfl
 refine qB g ?_;refine⟨c.heap.objs.size,[c.heap.objs.size],_,_,n,rfl,f.kept λb o e=>Ag _ e,Ox a _ xs.length,⟨Br _,g⟩,λb B=>?_,q⟩;have e:b=c.heap.objs.size:=by simpa using B
 subst e;exact f.ow (Ah _) (f.cN.fresh (Ah _))
end
theorem a6.lK {K:Ap}{H c:Hp}{a:Ac}{xs:List V}(e:a6 H c)(h:ky K H a xs):ky K c a xs:=by
 rcases h with (h | ⟨o,h⟩) |h
 .exact .inl (.inl (e _ _ h))
 .exact .inl (.inr ⟨o,e _ _ h⟩)
 .exact .inr h
theorem aN {X:Cx}{x:Al}{i:Int}{pos:Dt}(hg:Gl X x)(h:∃t,X.mg x=some (.int i t))(hd:(x==("__debug__":Al))=false:=by decide):PE X (.Name x pos) (tC (.int i)):=by
 obtain⟨t,e⟩:=h;exact lT hg e ⟨t,rfl⟩ hd
def mr (l:Ac)(H a:Hp):Prop:=∀b o,b≠l->H b=some o->a b=some o
theorem mr.trans {l:Ac}{H f e:Hp}(a:mr l H f)(b:mr l f e):mr l H e:=λc o hc h=>b c o hc (a c o hc h)
noncomputable def oV:AZ->Al
 | .FunctionDef n _ _ _ _ _ _ _ _ _=>n
 |_ => ""
noncomputable abbrev fj (q:Al)(st:AZ)(l:List (Al×Ac))(o pm:Aa)(c:Ac)(t:Aa):B5:=PySem.W.fnMade (oV st) q (bS st) (a9 st) (aB st) l o pm c t
def lz (F:Hp)(c:List (Al×Ac))(vs:List V):Prop:=∀(i:Nat) (v:V),vs[i]?=some v->∃x a o u,c[i]?=some (x,a)/\F a=some (.eh o (.own a))/\o.data = .cell (some u)/\cA v u
inductive D where
 |int (i:Int) |bl (b:Bool) |cB |str (x:Al) |ty (n:String) |fn (x:Al) |tup (ds:List D) |lst (ds:List D) |Of |exc (c:Al) |obj (c:Al) (ns:List Al) (ds:List D) |oW (q:Al) (st:AZ) (cl:List (Al×Ac)) (ds:List D)
def VQ (a:Ac)(c:Aa):Heap->Prop:=λh=>∃o,h.get? a=some o/\o.cls=c
mutual
def dY (K:Ap)(F:Hp):D->V->Prop
 | .int i,v=>v = .int i
 | .bl b,v=>v = .bl b
 | .cB,v=>v = .cB
 | .str x,v=>v = .str x
 | .ty n,v=>v = .ty n
 | .fn x,v=>∃f,v = .ref f/\C4 K Am x=some (some (.ref f))
 | .tup ds,v=>∃a vs,v = .ref a/\ky K F a vs/\bA K F ds vs
 | .lst ds,v=>∃a vs,v = .ref a/\eE K F a vs/\bA K F ds vs
 | .Of,v=>∃a,v = .ref a/\F a=some (.ext (VQ a (.type "dict")))
 | .exc c,v=>∃a C,v = .ref a/\C4 K Am c=some (some (.ref C))/\F a=some (.ext (VQ a (.ref C)))
 | .obj c ns ds,v=>∃a C e vs,v = .ref a/\C4 K Am c=some (some (.ref C))/\F a=some (.ins C e (ns.zip vs))/\ds.length<=ns.length/\bA K F ds vs
 | .oW q st l ds,v=>∃f c O o pm t vs,v = .ref f/\F f=some (.eh (fj q st l o pm c t) (.own f))/\F c=some (.eh O (.own c))/\kS O q/\bA K F ds vs/\lz F l vs
def bA (K:Ap)(F:Hp):List D->List V->Prop
 | [],vs=>vs=[]
 |d::ds,vs=>∃v r,vs=v::r/\dY K F d v/\bA K F ds r
end
section
variable {K:Ap}{F F' H H':Hp}
mutual
theorem dY.mono (s:a6 F F'): ∀{d:D} {v:V},dY K F d v->dY K F' d v
 | .int _,_,h=>h
 | .bl _,_,h=>h
 | .cB,_,h=>h
 | .str _,_,h=>h
 | .ty _,_,h=>h
 | .fn _,_,h=>h
 | .tup ds,v,h=>by
  obtain⟨a,vs,e,h1,h2⟩:=h;exact⟨a,vs,e,s.lK h1,bA.mono s h2⟩
 | .lst ds,v,h=>by
  obtain⟨a,vs,e,h1,h2⟩:=h;exact⟨a,vs,e,s.seq h1,bA.mono s h2⟩
 | .Of,v,h=>by
  obtain⟨a,e,h1⟩:=h;exact⟨a,e,s _ _ h1⟩
 | .exc _,v,h=>by
  obtain⟨a,C,e,g,h1⟩:=h;exact⟨a,C,e,g,s _ _ h1⟩
 | .obj _ _ ds,v,h=>by
  obtain⟨a,C,r,vs,e,g,h1,hl,h2⟩:=h;exact⟨a,C,r,vs,e,g,s _ _ h1,hl,bA.mono s h2⟩
 | .oW _ _ _ ds,v,h=>by
  obtain⟨f,c,j,O,pm,t,vs,e,h1,h2,m,l,k⟩:=h;exact⟨f,c,j,O,pm,t,vs,e,s _ _ h1,s _ _ h2,m,bA.mono s l,λi v hi=>let⟨x,a,o,u,q,p,n⟩:=k i v hi;⟨x,a,o,u,q,s _ _ p,n⟩⟩
theorem bA.mono (s:a6 F F'): ∀{ds:List D} {vs:List V},bA K F ds vs->bA K F' ds vs
 | [],_,h=>h
 |d::ds,vs,h=>by
  obtain⟨v,r,e,h1,h2⟩:=h;exact⟨v,r,e,dY.mono s h1,bA.mono s h2⟩
end
theorem bA.length:∀{ds:List D} {vs:List V},bA K F ds vs->ds.length=vs.length
 | [],_,h=>by cases h;rfl
 |d::ds,vs,h=>by
  obtain⟨v,r,rfl,h1,h2⟩:=h;simp[bA.length h2]
theorem bA.get:∀{ds:List D} {vs:List V} {i:Nat} {d:D},bA K F ds vs->ds[i]?=some d->∃v,vs[i]?=some v/\dY K F d v
 | [],_,_,_,_,e=>by simp at e
 |d::ds,vs,i,d',h,e=>by
  obtain⟨v,r,rfl,h1,h2⟩:=h
  cases i with
  |zero=>simp at e;subst e;exact⟨v,rfl,h1⟩
  |succ i=>simpa using bA.get h2 e
theorem bA.get':∀{ds:List D} {vs:List V} {i:Nat} {v:V},bA K F ds vs->vs[i]?=some v->∃d,ds[i]?=some d/\dY K F d v:=λ{ds vs i v} h e=>by
 have hl:=h.length;have hi:=(Ab.mp e).1;obtain⟨a,e',r⟩:=h.get (Ad (i:=i) (by lia));rw[e]at e';cases e';exact⟨_,Ad (by lia),r⟩
theorem bA.append:∀{ds e:List D} {vs us:List V},bA K F ds vs->bA K F e us->bA K F (ds++e) (vs++us)
 | [],_,_,_,h,g=>by cases h;exact g
 |d::ds,_,_,_,h,g=>by
  obtain⟨v,r,rfl,h1,h2⟩:=h;exact⟨v,r++_,rfl,h1,bA.append h2 g⟩
theorem bA.take:∀{ds:List D} {vs:List V} (n:Nat),bA K F ds vs->bA K F (ds.take n) (vs.take n)
 | [],_,n,h=>by cases h;simp[bA]
 |d::ds,_,0,h=>by simp[bA]
 |d::ds,_,n+1,h=>by
  obtain⟨v,r,rfl,h1,h2⟩:=h;exact⟨v,r.take n,rfl,h1,bA.take n h2⟩
theorem bA.drop:∀{ds:List D} {vs:List V} (n:Nat),bA K F ds vs->bA K F (ds.drop n) (vs.drop n)
 | [],_,n,h=>by cases h;simp[bA]
 |d::ds,_,0,h=>h
 |d::ds,_,n+1,h=>by
  obtain⟨v,r,rfl,h1,h2⟩:=h;simpa using bA.drop n h2
theorem bA.of:∀{ds:List D} {vs:List V},ds.length=vs.length->(∀(i:Nat) d v,ds[i]?=some d->vs[i]?=some v->dY K F d v)->bA K F ds vs
 | [],[],_,_=>rfl
 |d::ds,v::vs,e,h=>⟨v,vs,rfl,h 0 d v rfl rfl,bA.of (by simpa using e) λi d' a f c=>h (i+1) d' a f c⟩
 | [],_::_,e,_=>by simp at e
 |_::_,[],e,_=>by simp at e
theorem bA.reverse (h:bA K F ds vs): bA K F ds.reverse vs.reverse:=by
 have hl:=h.length;refine bA.of (by simp[hl]) λi d v e a=>?_
 have h1:=(Ab.mp e).1;rw[BQ]at h1;rw[B4 (by omega)]at e;rw[B4 (by lia),<- hl]at a;obtain⟨c,e',r⟩:=h.get e;rw[a]at e';cases e';exact r
theorem h_:∀{xs:List Int} {vs:List V},bA K F (xs.map D.int) vs↔vs=xs.map V.int
 | [],vs=>Jy
 |x :: xs,vs=>by
  constructor
  .rintro ⟨v,r,rfl,h1,h2⟩;have h:v=V.int x:=h1;rw[h,h_.mp h2];rfl
  .rintro rfl;exact⟨_,_,rfl,rfl,h_.mpr rfl⟩
end
noncomputable def Vl:HO->Bool
 | .tup _=>true
 | .eh _ _=>true
 |_=>false
inductive OV where
 |fz (d:D)
 |nl (ts:List OV)
 |rt (a:Ac) (ts:List OV)
 |fx (v:V) (d:D)
 |ob (o:Option Ac) (c:Al) (ns:List Al) (ts:List OV)
mutual
noncomputable def OV.val:OV->D
 | .fz d=>d
 | .nl ts=>.lst (OV.vals ts)
 | .rt _ ts=>.lst (OV.vals ts)
 | .fx _ d=>d
 | .ob _ c ns ts=>.obj c ns (OV.vals ts)
noncomputable def OV.vals:List OV->List D
 | []=>[]
 |t::ts=>t.val::OV.vals ts
end
theorem OV.c4:∀(ts:List OV),OV.vals ts=ts.map OV.val
 | []=>by simp[OV.vals]
 |t::ts=>by simp[OV.vals,OV.c4 ts]
mutual
def gz (K:Ap)(F H:Hp):OV->V->List Ac->Prop
 | .fz d,v,A=>A=[]/\dY K F d v
 | .nl ts,v,A=>∃a vs B,v = .ref a/\A=a::B/\H a=some (.lst vs)/\a8 K F H ts vs B
 | .rt a ts,v,A=>∃vs B,v = .ref a/\A=a::B/\H a=some (.lst vs)/\a8 K F H ts vs B
 | .fx u d,v,A=>A=[]/\v=u/\dY K F d v
 | .ob o c ns ts,v,A=>∃a C e vs B,v = .ref a/\A=a::e::B/\C4 K Am c=some (some (.ref C))/\(∀f,o=some f->a=f)/\H a=some (.ins C e (ns.zip vs))/\H e=some (.own a)/\ts.length<=ns.length/\a8 K F H ts vs B
def a8 (K:Ap)(F H:Hp):List OV->List V->List Ac->Prop
 | [],vs,A=>vs=[]/\A=[]
 |t::ts,vs,A=>∃v r B C,vs=v::r/\A=B++C/\gz K F H t v B/\a8 K F H ts r C
end
section
variable {K:Ap}{F F' H H':Hp}
mutual
theorem gz.frame (s:a6 F F'): ∀{t:OV} {v:V} {A:List Ac},(∀a∈A,∀xs,H a=some xs->H' a=some xs)->gz K F H t v A->gz K F' H' t v A
 | .fz d,v,A,_,h=>⟨h.1,h.2.mono s⟩
 | .nl ts,v,A,k,h=>by
  obtain⟨a,vs,B,e,rfl,h1,h2⟩:=h;exact⟨a,vs,B,e,rfl,k a Az _ h1,a8.frame s (λb f=>k b (Aw _ f)) h2⟩
 | .rt a ts,v,A,k,h=>by
  obtain⟨vs,B,e,rfl,h1,h2⟩:=h;exact⟨vs,B,e,rfl,k a Az _ h1,a8.frame s (λb f=>k b (Aw _ f)) h2⟩
 | .fx u d,v,A,_,h=>⟨h.1,h.2.1,h.2.2.mono s⟩
 | .ob o c ns ts,v,A,k,h=>by
  obtain⟨a,C,g,vs,B,e,rfl,l,O,h1,h2,hl,j⟩:=h;exact⟨a,C,g,vs,B,e,rfl,l,O,k a (by simp) _ h1,k g (by simp) _ h2,hl,a8.frame s (λb f=>k b (by simp[f])) j⟩
theorem a8.frame (s:a6 F F'): ∀{ts:List OV} {vs:List V} {A:List Ac},(∀a∈A,∀xs,H a=some xs->H' a=some xs)->a8 K F H ts vs A->a8 K F' H' ts vs A
 | [],vs,A,_,h=>h
 |t::ts,vs,A,k,h=>by
  obtain⟨v,r,B,C,e,rfl,h1,h2⟩:=h;exact⟨v,r,B,C,e,rfl,gz.frame s (λb c=>k b (Ee _ c)) h1,a8.frame s (λb c=>k b (Bn _ c)) h2⟩
end
mutual
theorem gz.rV:∀{t:OV} {v:V} {A:List Ac},gz K F H t v A->∀a∈A,∃xs,H a=some xs/\Vl xs=false
 | .fz d,v,A,h,a,f=>by rw[h.1]at f;cases f
 | .nl ts,v,A,h,a,f=>by
  obtain⟨b,vs,B,e,rfl,h1,h2⟩:=h;rcases AJ.mp f with rfl |z
  .exact ⟨_,h1,rfl⟩
  .exact a8.rV h2 a z
 | .rt b ts,v,A,h,a,f=>by
  obtain⟨vs,B,e,rfl,h1,h2⟩:=h;rcases AJ.mp f with rfl |z
  .exact ⟨_,h1,rfl⟩
  .exact a8.rV h2 a z
 | .fx u d,v,A,h,a,f=>by rw[h.1]at f;cases f
 | .ob o c ns ts,v,A,h,a,f=>by
  obtain⟨b,C,k,vs,B,e,rfl,j,O,h1,h2,hl,g⟩:=h;rcases AJ.mp f with rfl |z
  .exact ⟨_,h1,rfl⟩
  .rcases AJ.mp z with rfl |z
   .exact ⟨_,h2,rfl⟩
   .exact a8.rV g a z
theorem a8.rV:∀{ts:List OV} {vs:List V} {A:List Ac},a8 K F H ts vs A->∀a∈A,∃xs,H a=some xs/\Vl xs=false
 | [],vs,A,h,a,c=>by rw[h.2]at c;cases c
 |t::ts,vs,A,h,a,c=>by
  obtain⟨v,r,B,C,e,rfl,h1,h2⟩:=h;rcases AB.mp c with z |z
  .exact gz.rV h1 a z
  .exact a8.rV h2 a z
end
mutual
theorem gz.rep (s:a6 F F'): ∀{t:OV} {v:V} {A:List Ac},(∀a∈A,∀xs,H a=some xs->F' a=some xs)->gz K F H t v A->dY K F' t.val v
 | .fz d,v,A,_,h=>h.2.mono s
 | .nl ts,v,A,k,h=>by
  obtain⟨a,vs,B,e,rfl,h1,h2⟩:=h;exact⟨a,vs,e,eE.of (k a Az _ h1),a8.rep s (λb f=>k b (Aw _ f)) h2⟩
 | .fx u d,v,A,_,h=>h.2.2.mono s
 | .ob o c ns ts,v,A,k,h=>by
  obtain⟨a,C,l,vs,B,e,rfl,j,O,h1,h2,hl,g⟩:=h;exact⟨a,C,l,vs,e,j,k a (by simp) _ h1,by rw[OV.c4,Au];exact hl,a8.rep s (λb f=>k b (by simp[f])) g⟩
 | .rt a ts,v,A,k,h=>by
  obtain⟨vs,B,e,rfl,h1,h2⟩:=h;exact⟨a,vs,e,eE.of (k a Az _ h1),a8.rep s (λb f=>k b (Aw _ f)) h2⟩
theorem a8.rep (s:a6 F F'):∀{ts:List OV} {vs:List V} {A:List Ac},(∀a∈A,∀xs,H a=some xs->F' a=some xs)->a8 K F H ts vs A->bA K F' (OV.vals ts) vs
 | [],vs,A,_,h=>h.1
 |t::ts,vs,A,k,h=>by
  obtain⟨v,r,B,C,e,rfl,h1,h2⟩:=h;exact⟨v,r,e,gz.rep s (λb c=>k b (Ee _ c)) h1,a8.rep s (λb c=>k b (Bn _ c)) h2⟩
end
theorem a8.length:∀{ts:List OV} {vs:List V} {A:List Ac},a8 K F H ts vs A->ts.length=vs.length
 | [],_,_,h=>by rw[h.1];rfl
 |t::ts,_,_,h=>by
  obtain⟨v,r,B,C,rfl,rfl,h1,h2⟩:=h;simp[a8.length h2]
theorem a8.append:∀{ts us:List OV} {vs w:List V} {A B:List Ac},a8 K F H ts vs A->a8 K F H us w B->a8 K F H (ts++us) (vs++w) (A++B)
 | [],_,_,_,_,_,h,g=>by obtain⟨rfl,rfl⟩:=h;exact g
 |t::ts,_,_,_,_,_,h,g=>by
  obtain⟨v,r,B,C,rfl,rfl,h1,h2⟩:=h;exact⟨v,_,B,_,rfl,by rw[Cf],h1,a8.append h2 g⟩
theorem a8.one (h:gz K F H t v A): a8 K F H [t] [v] A:=⟨v,[],A,[],rfl,by simp,h,rfl,rfl⟩
theorem a8.focus:∀{ts:List OV} {vs:List V} {A:List Ac} {i:Nat} {t:OV},a8 K F H ts vs A->ts[i]?=some t->∃v j B g,vs[i]?=some v/\A=j++(B++g)/\gz K F H t v B/\
  ∀F' H' t' c f,a6 F F'->(∀a∈j++g,∀xs,H a=some xs->H' a=some xs)->gz K F' H' t' c f->a8 K F' H' (ts.set i t') (vs.set i c) (j++(f++g))
 | [],_,_,_,_,_,e=>by simp at e
 |t::ts,_,_,0,T,h,e=>by
  obtain⟨v,r,B,C,rfl,rfl,h1,h2⟩:=h;simp at e
  subst e;refine⟨v,[],B,C,rfl,rfl,h1,λF' H' t' c f s l h'=>?_⟩;exact⟨c,r,f,C,rfl,rfl,h',a8.frame s (λa k=>l a k) h2⟩
 |t::ts,_,_,i+1,T,h,e=>by
  obtain⟨v,r,B,C,rfl,rfl,h1,h2⟩:=h;obtain⟨v0,j,p,g,o,rfl,n,m⟩:=a8.focus h2 e;refine⟨v0,B++j,p,g,o,by simp,n,λF' H' t' c f s l h'=>?_⟩;refine⟨v,r.set i c,B,j++(f++g),rfl,by simp,gz.frame s (λa k=>l a (by simp[k])) h1,m F' H' t' c f s (λa k=>l a ?_) h'⟩;rcases AB.mp k with z |z<;>simp[z]
theorem a8.Ó:∀{ds:List D} {vs:List V},bA K F ds vs->a8 K F H (ds.map OV.fz) vs []
 | [],_,h=>⟨h,rfl⟩
 |d::ds,_,h=>by
  obtain⟨v,r,rfl,h1,h2⟩:=h;exact⟨v,r,[],[],rfl,rfl,⟨rfl,h1⟩,a8.Ó h2⟩
end
structure cE (F H F' H':Hp):Prop where
 ff:a6 F F'
 hh:a6 H H'
 fh:a6 F' H'
 no:∀a o,F a=none->H a=some o->Vl o=false->F' a=none
theorem cE.refl (s:a6 F H): cE F H F H:=⟨a6.refl _,a6.refl _,s,λ_ _ h _ _=>h⟩
theorem cE.trans (a:cE F H g f)(b:cE g f e c): cE F H e c:=
 ⟨a.ff.trans b.ff,a.hh.trans b.hh,b.fh,λx o h1 h2 h=>b.no x o (a.no x o h1 h2 h) (a.hh _ _ h2) h⟩
def eO (K:Ap)(H c e:Hp)(r:OV)(v:V):Prop:=∃A,gz K c e r v A/\A.Nodup/\∀a∈A,H a=none/\c a=none
theorem eO.fz {K:Ap}{H a c:Hp}{d:D}{v:V}(h:dY K a d v):eO K H a c (.fz d) v:=⟨[],⟨rfl,h⟩,CF,λ_ h=>by cases h⟩
theorem eO.old {K:Ap}{f H j g:Hp}{r:OV}{v:V}(s:a6 f H)(h:eO K H j g r v):eO K f j g r v:=by
 obtain⟨A,h1,h2,e⟩:=h;exact⟨A,h1,h2,λa c=>⟨s.free (e a c).1,(e a c).2⟩⟩
theorem eO.on {K:Ap}{H l k f c:Hp}{r:OV}{v:V}(h:eO K H l k r v)(x:cE l k f c):eO K H f c r v:=by
 obtain⟨A,h1,h2,j⟩:=h;refine⟨A,h1.frame x.ff λa _ xs e=>x.hh _ _ e,h2,λa g=>⟨(j a g).1,?_⟩⟩;obtain⟨xs,e,m⟩:=h1.rV a g;exact x.no a _ (j a g).2 e m
theorem eO.eh {K:Ap}{F H j g:Hp}{r:OV}{v:V}(x:cE F H j g)(h:eO K H j g r v):∃c,cE F H c g/\a6 j c/\dY K c r.val v:=by
 obtain⟨A,h1,h2,f⟩:=h;refine⟨λa=>if a∈A then g a else j a,⟨λb o e=>?_,x.hh,λb o e=>?_,λa o n l m=>?_⟩,λb o e=>?_,?_⟩
 .have B:b∉A:=λz=>by rw[(x.ff.free (f b z).2)]at e;cases e
  rw[if_neg B];exact x.ff _ _ e
 .split at e
  .exact e
  .exact x.fh _ _ e
 .have k:a∉A:=λz=>by rw[(f a z).1]at l;cases l
  rw[if_neg k];exact x.no a o n l m
 .have B:b∉A:=λz=>by rw[(f b z).2]at e;cases e
  try dsimp only
  rw[if_neg B];exact e
 .refine h1.rep (λb o e=>?_) λa k xs e=>?_
  .have B:b∉A:=λz=>by rw[(f b z).2]at e;cases e
   rw[if_neg B];exact e
  .rw [if_pos k];exact e
inductive Sl where
 |own (t:OV)
 |bw (d:D)
abbrev cY:=List (Option Sl)
structure ER (K:Ap) (F0 H0 F H:Hp) (Y:St) (δ:cY) (A:Nat->List Ac):Prop where
 len:Y.length=δ.length
 ext:cE F0 H0 F H
 own:∀(i:Nat) (t:OV),δ[i]?=some (some (.own t))->∃v,Y[i]?=some (some v)/\gz K F H t v (A i)
 bw:∀(i:Nat) (d:D),δ[i]?=some (some (.bw d))->∃v,Y[i]?=some (some v)/\dY K H0 d v
 ji:∀i,(A i).Nodup
 ko:∀i j a,i≠j->a∈A i->a∉A j
 new:∀i a,a∈A i->F a=none/\H0 a=none/\∃xs,H a=some xs/\Vl xs=false
def cx (K:Ap)(c a F H:Hp)(Y:St)(δ:cY):Prop:=∃A,ER K c a F H Y δ A
section
variable {K:Ap}{F0 H0 F H F' H':Hp}{Y:St}{δ:cY}{A:Nat->List Ac}
theorem ER.on (e:ER K F0 H0 F H Y δ A)(x:cE F H F' H'): ER K F0 H0 F' H' Y δ A where
 len:=e.len
 ext:=e.ext.trans x
 own:=λi t h=>by
  obtain⟨v,h1,h2⟩:=e.own i t h;exact⟨v,h1,h2.frame x.ff λa _ xs z=>x.hh _ _ z⟩
 bw:=e.bw
 ji:=e.ji
 ko:=e.ko
 new:=λi a ha=>by
  obtain⟨h1,h2,xs,h3,h4⟩:=e.new i a ha;exact⟨x.no a _ h1 h3 h4,h2,xs,x.hh _ _ h3,h4⟩
theorem cx.on (e:cx K F0 H0 F H Y δ)(x:cE F H F' H'): cx K F0 H0 F' H' Y δ:=let⟨A,e⟩:=e;⟨A,e.on x⟩
theorem cx.ext (e:cx K F0 H0 F H Y δ): cE F0 H0 F H:=let⟨_,e⟩:=e;e.ext
theorem cx.put (e:cx K F0 H0 F H Y δ)(x:cE F H F' H')(i:Nat)(h:eO K H F' H' r v): cx K F0 H0 F' H' (Y.set i (some v)) (δ.set i (some (.own r))):=by
 obtain⟨A,e⟩:=e;obtain⟨B,l,o,g⟩:=h;have e':=e.on x;refine⟨λj=>if j=i then B else A j,by simp[e.len],e'.ext,λj t J=>?_,λj d J=>?_,λj=>?_,λj k a f h1 h2=>?_,λj a c=>?_⟩
 .by_cases z:j=i
  .subst z;rw[if_pos rfl];have hl:j<δ.length:=by
    have:=(Ab.mp J).1
    rwa[Bi]at this
   rw[Ax hl]at J;cases J;exact⟨v,Ax (by rw[e.len];exact hl),l⟩
  .rw [if_neg z];rw[AK (Be z)]at J ⊢;exact e'.own j t J
 .by_cases z:j=i
  .subst z;have hl:j<δ.length:=by
    have:=(Ab.mp J).1
    rwa[Bi]at this
   rw[Ax hl]at J;cases J
  .rw [AK (Be z)]at J ⊢;exact e'.bw j d J
 .split
  .exact o
  .exact e.ji j
 .have key:∀k,a∈B->a∈A k->False:=λk n m=>by
   obtain⟨_,_,xs,q,_⟩:=e.new k a m;rw[(g a n).1]at q;cases q
  split at h1
  .split at h2
   .lia
   .exact key _ h1 h2
  .split at h2
   .exact key _ h2 h1
   .exact e.ko j k a f h1 h2
 .split at c
  .exact ⟨(g a c).2,e.ext.hh.free (g a c).1,l.rV a c⟩
  .exact e'.new j a c
theorem ER.YK (e:ER K F0 H0 F H Y δ A)(i:Nat)(h:dY K F d v): ER K F0 H0 F H (Y.set i (some v)) (δ.set i (some (.own (.fz d)))) (λj=>if j=i then [] else A j):=by
 refine⟨by simp[e.len],e.ext,λj t J=>?_,λj d J=>?_,λj=>?_,λj k a c h1 h2=>?_,λj a f=>?_⟩
 .by_cases z:j=i
  .subst z;rw[if_pos rfl];have hl:j<δ.length:=by
    have:=(Ab.mp J).1
    rwa[Bi]at this
   rw[Ax hl]at J;cases J;exact⟨v,Ax (by rw[e.len];exact hl),rfl,h⟩
  .rw [if_neg z];rw[AK (Be z)]at J ⊢;exact e.own j t J
 .by_cases z:j=i
  .subst z;have hl:j<δ.length:=by
    have:=(Ab.mp J).1
    rwa[Bi]at this
   rw[Ax hl]at J;cases J
  .rw [AK (Be z)]at J ⊢;exact e.bw j d J
 .split
  .exact CF
  .exact e.ji j
 .split at h1
  .cases h1
  .split at h2
   .cases h2
   .exact e.ko j k a c h1 h2
 .split at f
  .cases f
  .exact e.new j a f
end
abbrev DE:=cY->(D->Prop)->Prop
abbrev DO:=cY->(OV->Prop)->Prop
abbrev DA:=cY->(List D->Prop)->Prop
abbrev Yg:=cY->(List OV->Prop)->Prop
abbrev DT:=cY->(Bool->Prop)->Prop
structure R4 where
 nx:cY->Prop
 rt:OV->Prop
 bk:cY->Prop:=λ_=>False
 ct:cY->Prop:=λ_=>False
abbrev DS:=R4->cY->Prop
section
variable (K:Ap)
def ez (t:TE)(E:DO):Prop:=∀f e F H Y δ P Q,cx K f e F H Y δ->E δ P->(∀r v c a,P r->cE F H c a->eO K H c a r v->Q v a)->t Y H Q
def cO (t:TE)(E:DE):Prop:=∀f e F H Y δ P Q,cx K f e F H Y δ->E δ P->(∀d v c a,P d->cE F H c a->dY K c d v->Q v a)->t Y H Q
def dN (t:TE)(E:DE):Prop:=∀e c F H Y δ P Q,cx K e c F H Y δ->E δ P->(∀d v f a,P d->cE F H f a->dY K a d v->Q v a)->t Y H Q
def jk (t:TT)(C:DT):Prop:=∀e c F H Y δ P Q,cx K e c F H Y δ->C δ P->(∀b f a,P b->cE F H f a->Q b a)->t Y H Q
def ei (t:TA)(E:DA):Prop:=∀f e F H Y δ P Q,cx K f e F H Y δ->E δ P->(∀ds vs c a,P ds->cE F H c a->bA K c ds vs->Q vs a)->t Y H Q
def ka (t:TA)(E:DA):Prop:=∀e c F H Y δ P Q,cx K e c F H Y δ->E δ P->(∀ds vs f a,P ds->cE F H f a->bA K a ds vs->Q vs a)->t Y H Q
def ZT (H c e:Hp)(rs:List OV)(vs:List V):Prop:=∃A,a8 K c e rs vs A/\A.Nodup/\∀a∈A,H a=none/\c a=none
def L8 (t:TA)(E:Yg):Prop:=∀f e F H Y δ P Q,cx K f e F H Y δ->E δ P->(∀rs vs c a,P rs->cE F H c a->ZT K H c a rs vs->Q vs a)->t Y H Q
structure Lk (F0 H0:Hp) (De:R4) (E:zB):Prop where
 nx:∀F H Y δ,cx K F0 H0 F H Y δ->De.nx δ->E.nx Y H
 bk:∀F H Y δ,cx K F0 H0 F H Y δ->De.bk δ->E.bk Y H
 ct:∀F H Y δ,cx K F0 H0 F H Y δ->De.ct δ->E.ct Y H
 rt:∀F H r v,cE F0 H0 F H->eO K H0 F H r v->De.rt r->E.rt v H
def bY (t:TS)(T:DS):Prop:=∀c a F H Y δ e E,cx K c a F H Y δ->Lk K c a e E->T e δ->t E Y H
def ls (c a:Hp)(t:TS)(T:DS):Prop:=∀F H Y δ e n,cx K c a F H Y δ->Lk K c a e n->T e δ->t n Y H
def rn (f e:Hp)(t:TE)(E:DO):Prop:=∀F H Y δ P Q,cx K f e F H Y δ->E δ P->(∀r v c a,P r->cE F H c a->eO K H c a r v->Q v a)->t Y H Q
def d5 (TF:Hp->Prop)(t:TS)(T:DS):Prop:=∀a c,TF a->ls K a c t T
def jg (TF:Hp->Prop)(t:TE)(E:DO):Prop:=∀a c,TF a->rn K a c t E
abbrev rm (TF:Hp->Prop):Prop:=∀F a,a6 F a->TF F->TF a
def vA (g:TG)(G:D->cY->(cY->Prop)->Prop):Prop:=∀h f F H Y δ A d v P Q,ER K h f F H Y δ A->dY K F d v->G d δ P->(∀e c j,P c->ER K h f F H e c j->(∀i a,a∈j i->a∈A i)->Q e H)->g v Y H Q
def L7 (g:VT)(G:List D->cY->(cY->Prop)->Prop):Prop:=∀h f F H Y δ A ds vs P Q,ER K h f F H Y δ A->bA K F ds vs->G ds δ P->(∀e c j,P c->ER K h f F H e c j->(∀i a,a∈j i->a∈A i)->Q e H)->g vs Y H Q
end
section
variable {K:Ap}{t ta tb tc:TE}{E Ea Eb Ec:DE}
def ZF (E:DE):DO:=λδ P=>E δ λd=>P (.fz d)
def zi (E:DO):DE:=λδ P=>E δ λr=>P r.val
theorem aM (h:cO K t E): dN K t E:=λf a F H Y δ P Q e w q=>h f a F H Y δ P Q e w λd v g c p x r=>q d v g c p x (r.mono x.fh)
theorem br (h:cO K t E): ez K t (ZF E):=λf a F H Y δ P Q e w q=>h f a F H Y δ _ Q e w λd v g c p x r=>q _ v g c p x (.fz r)
theorem bX {E:DO}(h:ez K t E):cO K t (zi E):=λk g F H Y δ P Q e w q=>h k g F H Y δ _ Q e w λd v l j p x r=>by
 obtain⟨a,c,_,f⟩:=r.eh x;exact q _ v a j p c f
mutual
noncomputable def D.lf:D->Bool
 | .tup ds=>D.jj ds
 | .lst _=>false
 | .Of=>false
 | .exc _=>false
 | .obj _ _ _=>false
 | .oW _ _ _ _=>false
 |_=>true
noncomputable def D.jj:List D->Bool
 | []=>true
 |d::ds=>d.lf && D.jj ds
end
noncomputable def ll (F H:Hp):Hp:=λa=>match F a with
 |some o=>some o
 |none=>match H a with
  |some o=>if Vl o=true then some o else none
  |none=>none
theorem fv (s:a6 F H): cE F H (ll F H) H:=by
 refine⟨λb o e=>?_,a6.refl _,λb o e=>?_,λa o g f c=>?_⟩
 .unfold ll;rw[e]
 .unfold ll at e
  cases q:F b with
  |some O=>rw[q]at e;rw[<- e];exact s _ _ q
  |none=>
   rw[q]at e
   cases Q:H b with
   |none=>rw[Q]at e;cases e
   |some O=>
    rw[Q]at e;dsimp only at e;split at e
    .exact e
    .cases e
 .unfold ll;rw[g,f];dsimp only;rw[c];rfl
theorem xh (s:a6 F H)(h:H a=some o)(hi:Vl o=true): ll F H a=some o:=by
 unfold ll
 cases q:F a with
 |some O=>rw[s _ _ q]at h;exact h
 |none=>rw[h];dsimp only;rw[hi];rfl
theorem NG (s:a6 F H)(h:ky K H a xs): ky K (ll F H) a xs:=by
 rcases h with (h | ⟨o,h⟩) |h
 .exact .inl (.inl (xh s h rfl))
 .exact .inl (.inr ⟨o,xh s h rfl⟩)
 .exact .inr h
mutual
theorem dY.lf (s:a6 F H): ∀{d:D} {v:V},dY K H d v->d.lf=true->dY K (ll F H) d v
 | .int _,_,h,_=>h
 | .bl _,_,h,_=>h
 | .cB,_,h,_=>h
 | .str _,_,h,_=>h
 | .ty _,_,h,_=>h
 | .fn _,_,h,_=>h
 | .tup ds,v,h,z=>by
  obtain⟨a,vs,e,h1,h2⟩:=h;exact⟨a,vs,e,NG s h1,bA.lf s h2 (by simpa[D.lf] using z)⟩
 | .lst ds,v,h,z=>by simp[D.lf]at z
 | .Of,v,h,z=>by simp[D.lf]at z
 | .exc _,v,h,z=>by simp[D.lf]at z
 | .obj _ _ _,v,h,z=>by simp[D.lf]at z
 | .oW _ _ _ _,v,h,z=>by simp[D.lf]at z
theorem bA.lf (s:a6 F H): ∀{ds:List D} {vs:List V},bA K H ds vs->D.jj ds=true->bA K (ll F H) ds vs
 | [],_,h,_=>h
 |d::ds,vs,h,z=>by
  obtain⟨v,r,e,h1,h2⟩:=h;simp[D.jj]at z
  exact⟨v,r,e,dY.lf s h1 z.1,bA.lf s h2 z.2⟩
end
theorem D.j4:∀(ds:List D),D.jj ds=ds.all D.lf
 | []=>rfl
 |d::ds=>by simp[D.jj,D.j4 ds]
def Ŝ (E:DE):DE:=λδ P=>E δ λd=>d.lf=true/\P d
theorem K' (h:dN K t E): cO K t (Ŝ E):=λf a F H Y δ P Q e w q=>h f a F H Y δ _ Q e w λd v g c p x r=>
 q d v _ c p.2 (x.trans (fv x.fh)) (dY.lf x.fh r p.1)
def dV (i:Nat):DE:=λδ P=>match δ[i]? with
 |some (some (.own (.fz d)))=>P d
 |some (some (.own (.fx _ d)))=>P d
 |_=>False
def dB (i:Nat):DE:=λδ P=>match δ[i]? with
 |some (some (.own t))=>P t.val
 |some (some (.bw d))=>P d
 |_=>False
theorem aE:cO K (dt i) (dV i):=λc a F H Y δ P Q ⟨A,e⟩ w q=>by
 unfold dV at w;split at w
 .rename_i d hd;obtain⟨v,h1,h2⟩:=e.own i _ hd;exact⟨v,h1,q d v F H w (cE.refl e.ext.fh) h2.2⟩
 .rename_i u d hd;obtain⟨v,h1,h2⟩:=e.own i _ hd;exact⟨v,h1,q d v F H w (cE.refl e.ext.fh) h2.2.2⟩
 .exact w.elim
theorem aC:dN K (dt i) (dB i):=λf c F H Y δ P Q ⟨A,e⟩ w q=>by
 unfold dB at w;split at w
 .rename_i t hd;obtain⟨v,h1,h2⟩:=e.own i _ hd;exact⟨v,h1,q _ v F H w (cE.refl e.ext.fh) (h2.rep e.ext.fh λa _ xs z=>z)⟩
 .rename_i d hd;obtain⟨v,h1,h2⟩:=e.bw i _ hd;exact⟨v,h1,q _ v F H w (cE.refl e.ext.fh) (h2.mono e.ext.hh)⟩
 .exact w.elim
def dC (d:D):DE:=λ_ P=>P d
theorem Py (h:∀F,dY K F d v): cO K (tC v) (dC d):=λc a F H Y δ P Q e w q=>q d v F H w (cE.refl e.ext.fh) (h _)
theorem aF:cO K (tC (.int i)) (dC (.int i)):=Py λ_=>rfl
theorem nG:cO K (tC (.bl b)) (dC (.bl b)):=Py λ_=>rfl
theorem pX:cO K (tC .cB) (dC .cB):=Py λ_=>rfl
theorem iN:cO K (tC (.str x)) (dC (.str x)):=Py λ_=>rfl
theorem pW:cO K (tC (.ty n)) (dC (.ty n)):=Py λ_=>rfl
abbrev xO:=D->D->(D->Prop)->Prop
def L' (K:Ap)(R:R2)(r:xO):Prop:=∀F H x y v u P Q,a6 F H->dY K H x v->dY K H y u->r x y P->(∀d w c a,P d->cE F H c a->dY K c d w->Q w a)->R v u H Q
def š (K:Ap)(R:R2)(r:xO):Prop:=∀H x y v u P Q,dY K H x v->dY K H y u->r x y P->(∀d w,P d->dY K H d w->Q w H)->R v u H Q
def Ù (r:xO)(Ea Eb:DE):DE:=λδ P=>Ea δ λx=>Eb δ λy=>r x y P
theorem aP (h:L' K R r)(A:dN K ta Ea)(B:dN K tb Eb): cO K (OC R ta tb) (Ù r Ea Eb):=λg f F H Y δ P Q e w q=>
 A g f F H Y δ _ _ e w λx v L C l c n=>B g f L C Y δ _ _ (e.on c) l λy u J z k a m=>
  h J z x y v u P _ a.fh (n.mono a.hh) m k λd w M G p j o=>q d w M G p (c.trans (a.trans j)) o
theorem bx (h:š K R r)(A:dN K ta Ea)(B:dN K tb Eb): dN K (OC R ta tb) (Ù r Ea Eb):=λj g F H Y δ P Q e w q=>
 A j g F H Y δ _ _ e w λx v G z l c n=>B j g G z Y δ _ _ (e.on c) l λy u C f k a m=>
  h f x y v u P _ (n.mono a.hh) m k λd w p o=>q d w C f p (c.trans a) o
def WC (g:Int->Int->D):xO:=λx y P=>match x,y with
 | .int i,.int j=>P (g i j)
 |_,_=>False
def P5 (C:Int->Int->Prop)(g:Int->Int->D):xO:=λx y P=>match x,y with
 | .int i,.int j=>C i j/\P (g i j)
 |_,_=>False
theorem Lh {g:Int->Int->D}{P:D->Prop}(h:WC g x y P): ∃i j,x = .int i/\y = .int j/\P (g i j):=by
 unfold WC at h;split at h
 .exact ⟨_,_,rfl,rfl,h⟩
 .exact h.elim
theorem P4 {C:Int->Int->Prop}{g:Int->Int->D}{P:D->Prop}(h:P5 C g x y P): ∃i j,x = .int i/\y = .int j/\C i j/\P (g i j):=by
 unfold P5 at h;split at h
 .exact ⟨_,_,rfl,rfl,h.1,h.2⟩
 .exact h.elim
theorem Vh {g:Int->Int->V}{g':Int->Int->D}(hg:∀F i j,dY K F (g' i j) (g i j)): L' K (M5 g) (WC g'):=λF H x y v u P Q s a r w q=>by
 obtain⟨i,j,rfl,rfl,p⟩:=Lh w;exact⟨i,j,a,r,q _ _ F H p (cE.refl s) (hg _ _ _)⟩
theorem ô {C:Int->Int->Prop}{g:Int->Int->V}{g':Int->Int->D}(hg:∀F i j,dY K F (g' i j) (g i j)): L' K (rI C g) (P5 C g'):=λF H x y v u P Q s a r w q=>by
 obtain⟨i,j,rfl,rfl,c,p⟩:=P4 w;exact⟨i,j,a,r,c,q _ _ F H p (cE.refl s) (hg _ _ _)⟩
theorem bU {g:Int->Int->Int}: L' K (M5 λi j=>.int (g i j)) (WC λi j=>.int (g i j)):=Vh λ_ _ _=>rfl
theorem cG {C:Int->Int->Prop}{g:Int->Int->Int}: L' K (rI C λi j=>.int (g i j)) (P5 C λi j=>.int (g i j)):=ô λ_ _ _=>rfl
theorem dq {g:Int->Int->Bool}: L' K (M5 λi j=>.bl (g i j)) (WC λi j=>.bl (g i j)):=Vh λ_ _ _=>rfl
def WD:xO:=λx y P=>match x,y with
 | .int i,.int j=>P (.bl (decide (i=j)))
 | .str i,.str j=>P (.bl (decide (i=j)))
 | .bl i,.bl j=>P (.bl (decide (i=j)))
 |_,_=>False
def WA:xO:=λx y P=>match x,y with
 | .int i,.int j=>P (.bl (!decide (i=j)))
 | .str i,.str j=>P (.bl (!decide (i=j)))
 | .bl i,.bl j=>P (.bl (!decide (i=j)))
 |_,_=>False
theorem Om:decide (V.int i=V.int j)=decide (i=j):=by
 by_cases h:i=j
 .subst h;simp
 .rw [decide_eq_false h,decide_eq_false λz=>h (by injection z)]
theorem Ol:decide (V.str i=V.str j)=decide (i=j):=by
 by_cases h:i=j
 .subst h;simp
 .rw [decide_eq_false h,decide_eq_false λz=>h (by injection z)]
theorem UN:decide (V.bl i=V.bl j)=decide (i=j):=by
 by_cases h:i=j
 .subst h;simp
 .rw [decide_eq_false h,decide_eq_false λz=>h (by injection z)]
theorem gL:L' K ĸ WD:=λF H x y v u P Q s a r w q=>by
 unfold WD at w;split at w
 .cases a;cases r;exact⟨rfl,by rw[Om];exact q _ _ F H w (cE.refl s) rfl⟩
 .cases a;cases r;exact⟨rfl,by rw[Ol];exact q _ _ F H w (cE.refl s) rfl⟩
 .cases a;cases r;exact⟨rfl,by rw[UN];exact q _ _ F H w (cE.refl s) rfl⟩
 .exact w.elim
theorem QD:L' K ķ WA:=λF H x y v u P Q s a r w q=>by
 unfold WA at w;split at w
 .cases a;cases r;exact⟨rfl,by rw[Om];exact q _ _ F H w (cE.refl s) rfl⟩
 .cases a;cases r;exact⟨rfl,by rw[Ol];exact q _ _ F H w (cE.refl s) rfl⟩
 .cases a;cases r;exact⟨rfl,by rw[UN];exact q _ _ F H w (cE.refl s) rfl⟩
 .exact w.elim
noncomputable def D.LI:D->Bool
 | .cB=>true
 |_=>false
def WB:xO:=λx y P=>match y with
 | .cB=>P (.bl x.LI)
 |_=>False
def P0:xO:=λx y P=>match y with
 | .cB=>P (.bl (!x.LI))
 |_=>False
theorem tu:∀{x:D} {v:V},dY K F x v->decide (v = .cB)=x.LI
 | .int _,_,h=>by rw[show _=V.int _ from h];rfl
 | .bl _,_,h=>by rw[show _=V.bl _ from h];rfl
 | .cB,_,h=>by rw[show _=V.cB from h];rfl
 | .str _,_,h=>by rw[show _=V.str _ from h];rfl
 | .ty _,_,h=>by rw[show _=V.ty _ from h];rfl
 | .fn _,_,h=>by obtain⟨f,rfl,_⟩:=h;rfl
 | .tup _,_,h=>by obtain⟨a,vs,rfl,_⟩:=h;rfl
 | .lst _,_,h=>by obtain⟨a,vs,rfl,_⟩:=h;rfl
 | .Of,_,h=>by obtain⟨a,rfl,_⟩:=h;rfl
 | .exc _,_,h=>by obtain⟨a,C,rfl,_⟩:=h;rfl
 | .obj _ _ _,_,h=>by obtain⟨a,C,c,vs,rfl,_⟩:=h;rfl
 | .oW _ _ _ _,_,h=>by obtain⟨_,_,_,_,_,_,_,rfl,_⟩:=h;rfl
theorem WZ:L' K (λx y H Q=>y = .cB/\Q (.bl (decide (x = .cB))) H) WB:=λF H x y v u P Q s a r w q=>by
 unfold WB at w;split at w
 .refine ⟨r,?_⟩;rw[tu a];exact q _ _ F H w (cE.refl s) rfl
 .exact w.elim
theorem TB:L' K (λx y H Q=>y = .cB/\Q (.bl (!decide (x = .cB))) H) P0:=λF H x y v u P Q s a r w q=>by
 unfold P0 at w;split at w
 .refine ⟨r,?_⟩;rw[tu a];exact q _ _ F H w (cE.refl s) rfl
 .exact w.elim
def Ř (r:D->(D->Prop)->Prop)(Ea:DE):DE:=λδ P=>Ea δ λx=>r x P
def î (g:Int->D):D->(D->Prop)->Prop:=λx P=>match x with
 | .int i=>P (g i)
 |_=>False
theorem yo {g:Int->Int}(h:dN K ta Ea): cO K (ı (rU λi=>.int (g i)) ta) (Ř (î λi=>.int (g i)) Ea):=λl j F H Y δ P Q e w q=>
 h l j F H Y δ _ _ e w λx v k f a c r=>by
  unfold î at a;split at a
  .exact ⟨_,r,q _ _ k f a c rfl⟩
  .exact a.elim
def Ø (E:DE):DT:=λδ P=>E δ λd=>match d with
 | .bl b=>P b
 |_=>False
theorem UZ (h:cO K t E): ∀(f c F H:Hp) (Y:St) (δ:cY) (P:Bool->Prop) (Q:Bool->Hp->Prop),cx K f c F H Y δ->Ø E δ P->(∀b g a,P b->cE F H g a->Q b a)->t Y H λx a=>∃k,x = .bl k/\Q k a:=λf c F H Y δ P Q e w q=>
 h f c F H Y δ _ _ e w λd v g a p x r=>by
  split at p
  .exact ⟨_,r,q _ g a p x⟩
  .exact p.elim
theorem bO (h:cO K t E): jk K (OA t) (Ø E):=UZ h
theorem gk (h:cO K t E): jk K (tB t) (Ø E):=UZ h
section
variable {ua ub:TT}{Ca Cb:DT}
def Zz (C:DT):DT:=λδ P=>C δ λb=>P (!b)
def ZJ (Ca Cb:DT):DT:=λδ P=>Ca δ λb=>if b=true then Cb δ P else P false
def ś (Ca Cb:DT):DT:=λδ P=>Ca δ λb=>if b=true then P true else Cb δ P
theorem et (h:jk K ua Ca): jk K (Yq ua) (Zz Ca):=λf a F H Y δ P Q e w q=>h f a F H Y δ _ _ e w λb g c p x=>q _ g c p x
theorem yj (h:jk K ua Ca)(g:jk K ub Cb): jk K (Yt ua ub) (ZJ Ca Cb):=λf a F H Y δ P Q e w q=>h f a F H Y δ _ _ e w λb j c p x=>by
 cases b with
 |true=>exact rS (g f a j c Y δ P Q (e.on x) p λb n m l k=>q b n m l (x.trans k))
 |false=>exact rT rfl (q _ j c p x)
theorem pS (h:jk K ua Ca)(g:jk K ub Cb): jk K (Ĳ ua ub) (ś Ca Cb):=λf a F H Y δ P Q e w q=>h f a F H Y δ _ _ e w λb j c p x=>by
 cases b with
 |true=>exact rS (q _ j c p x)
 |false=>exact rT rfl (g f a j c Y δ P Q (e.on x) p λb n m l k=>q b n m l (x.trans k))
def ŝ (C:DT)(Ea Eb:DE):DE:=λδ P=>C δ λb=>if b=true then Ea δ P else Eb δ P
theorem Pw (h:jk K ua Ca)(A:cO K ta Ea)(B:cO K tb Eb): cO K (ĳ ua ta tb) (ŝ Ca Ea Eb):=λk g F H Y δ P Q e w q=>h k g F H Y δ _ _ e w λb m l p x=>by
 cases b with
 |true=>exact rS (A k g m l Y δ P Q (e.on x) p λd v j f c a r=>q d v j f c (x.trans a) r)
 |false=>exact rT rfl (B k g m l Y δ P Q (e.on x) p λd v j f c a r=>q d v j f c (x.trans a) r)
end
def VP (Ea Eb:DE):DE:=λδ P=>Ea δ λx=>match x with
 | .bl c=>if c=true then Eb δ P else P (.bl false)
 |_=>False
def VH (Ea:DE):DE:=λδ P=>Ea δ λx=>match x with
 | .bl c=>P (.bl (!c))
 |_=>False
theorem uE (A:cO K ta Ea)(B:cO K tb Eb): cO K (UY ta tb) (VP Ea Eb):=λg a F H Y δ P Q e w q=>A g a F H Y δ _ _ e w λd v h f p x r=>by
 split at p
 .rename_i c;refine⟨c,r,?_⟩
  cases c with
  |true=>exact rS (B g a h f Y δ P Q (e.on x) p λd v m l k j r=>q d v m l k (x.trans j) r)
  |false=>exact rT rfl (q _ _ h f p x rfl)
 .exact p.elim
theorem S0 (h:cO K ta Ea): cO K (US ta) (VH Ea):=λf a F H Y δ P Q e w q=>h f a F H Y δ _ _ e w λd v g c p x r=>by
 split at p
 .exact ⟨_,r,q _ _ g c p x rfl⟩
 .exact p.elim
def RC (r a:xO)(Ea Eb Ec:DE):DE:=λδ P=>Ea δ λx=>Eb δ λy=>r x y λz=>match z with
 | .bl k=>if k=true then Ec δ λw=>a y w P else P (.bl false)
 |_=>False
theorem wa (h:L' K R r)(h':L' K R' U)(ha:dN K ta Ea)(hb:dN K tb Eb)(hc:dN K tc Ec): cO K (xX R R' ta tb tc) (RC r U Ea Eb Ec):=λj g F H Y δ P Q e w q=>
 ha j g F H Y δ _ _ e w λx v F1 H1 J m T=>hb j g F1 H1 Y δ _ _ (e.on m) J λy u F2 H2 G f n=>
  h F2 H2 x y v u _ _ f.fh (T.mono f.hh) n G λd w A o p l O=>by
   have a:=m.trans (f.trans l);split at p
   .rename_i k;refine⟨k,O,?_⟩
    cases k with
    |true=>exact rS (hc j g A o Y δ _ _ (e.on a) p λz C F4 H4 p4 c M=>h' F4 H4 y z u C P Q c.fh (n.mono (l.hh.trans c.hh)) M p4 λd w F5 H5 p5 B L=>q d w F5 H5 p5 (a.trans (c.trans B)) L)
    |false=>exact rT rfl (q _ _ A o p a rfl)
   .exact p.elim
section
variable {a:TA}{As:DA}
def Rx:DA:=λ_ P=>P []
def tK (Ea:DE)(As:DA):DA:=λδ P=>Ea δ λd=>As δ λds=>P (d::ds)
theorem aO:ka K gS Rx:=λf c F H Y δ P Q e w q=>q [] [] F H w (cE.refl e.ext.fh) rfl
theorem aJ:ei K gS Rx:=λf c F H Y δ P Q e w q=>q [] [] F H w (cE.refl e.ext.fh) rfl
theorem aI (A:dN K ta Ea)(m:ka K a As): ka K (da ta a) (tK Ea As):=λh g F H Y δ P Q e w q=>A h g F H Y δ _ _ e w λd v u o k f l=>
 m h g u o Y δ _ _ (e.on f) k λds vs p n j c r=>q (d::ds) (v::vs) p n j (f.trans c) ⟨v,vs,rfl,l.mono c.hh,r⟩
theorem aA (A:cO K ta Ea)(m:ei K a As): ei K (da ta a) (tK Ea As):=λh g F H Y δ P Q e w q=>A h g F H Y δ _ _ e w λd v u o k f l=>
 m h g u o Y δ _ _ (e.on f) k λds vs p n j c r=>q (d::ds) (v::vs) p n j (f.trans c) ⟨v,vs,rfl,l.mono c.ff,r⟩
def VJ:Yg:=λ_ P=>P []
def Rz (Ea:DO)(As:Yg):Yg:=λδ P=>Ea δ λd=>As δ λds=>P (d::ds)
theorem c7:L8 K gS VJ:=λf c F H Y δ P Q e w q=>q [] [] F H w (cE.refl e.ext.fh) ⟨[],⟨rfl,rfl⟩,CF,λ_ h=>by cases h⟩
theorem ey (O:ez K ta Eo)(M:L8 K a Ao): L8 K (da ta a) (Rz Eo Ao):=λo n F H Y δ P Q e w q=>O o n F H Y δ _ _ e w λd v F1 H1 r g C=>
 M o n F1 H1 Y δ _ _ (e.on g) r λds vs F2 H2 p f u=>q (d::ds) (v::vs) F2 H2 p (g.trans f) (by
  obtain⟨A,l,a2,m⟩:=C;obtain⟨B,U,T,k⟩:=u;refine⟨A++B,⟨v,vs,A,B,rfl,rfl,l.frame f.ff λa _ xs e=>f.hh _ _ e,U⟩,AY.mpr ⟨a2,T,λx L y J z=>?_⟩,λz G=>?_⟩
  .subst z;obtain⟨xs,c,_⟩:=l.rV _ L;rw[(k _ J).1]at c;cases c
  .rcases AB.mp G with h |h
   .obtain ⟨xs,c,j⟩:=l.rV _ h;exact⟨(m z h).1,f.no z _ (m z h).2 c j⟩
   .exact ⟨g.hh.free (k z h).1,(k z h).2⟩)
def XA (As:DA):DE:=λδ P=>As δ λds=>ds.length<=1000000/\P (.tup ds)
theorem eI (h:n<=1000000): n<=AM:=by rw[Cr];lia
theorem sv (h:n<1000000): n<AM:=by rw[Cr];lia
theorem cE.new (s:a6 F H)(f:H p=none)(c:a6 H j)(h:j p=some o): cE F H (cP F p o) j:=by
 refine⟨λb u e=>?_,c,λb u e=>?_,λb u k g l=>?_⟩
 .rw [bI λz=>by rw[z,s.free f]at e;cases e];exact e
 .by_cases B:b=p
  .subst B;rw[a0]at e;rw[<- e];exact h
  .rw [bI B]at e;exact c _ _ (s _ _ e)
 .rw [bI λz=>by rw[z,f]at g;cases g];exact k
theorem a6.Md (h:F p=none): a6 F (cP F p o):=a6.new h
theorem cD (h:ei K a As): cO K (zT a) (XA As):=λn l F H Y δ P Q e w q=>h n l F H Y δ _ _ e w λds vs u o g c r=>by
 have hl:=r.length;refine⟨eI (by lia),λp m f j k=>?_⟩;exact q _ _ _ m g.2 (c.trans (cE.new c.fh f j k)) ⟨p,vs,rfl,.inl (.inl a0),r.mono (a6.Md (c.fh.free f))⟩
def ZA (As:Yg):DO:=λδ P=>As δ λts=>ts.length<=1000000/\P (.nl ts)
theorem d3 (h:L8 K a O): ez K (UU a) (ZA O):=λC o F H Y δ P Q e w q=>h C o F H Y δ _ _ e w λts vs v G k c r=>by
 obtain⟨A,j,n,m⟩:=r;have hl:=j.length;refine⟨eI (by lia),λp u g f l=>?_⟩;refine q _ _ v u k.2 (c.trans ⟨a6.refl _,f,c.fh.trans f,λ_ _ z _ _=>z⟩) ⟨p::A,⟨p,vs,A,rfl,rfl,l,j.frame (a6.refl _) λb _ xs z=>f _ _ z⟩,AD.mpr ⟨λz=>?_,n⟩,λb B=>?_⟩
 .obtain ⟨xs,z,_⟩:=j.rV p z;rw[g]at z;cases z
 .rcases AJ.mp B with rfl |B
  .exact ⟨c.hh.free g,c.fh.free g⟩
  .exact m b B
end
end
section
variable {K:Ap}{t ta tb tc:TE}{E Ea Eb Ec:DE}{a:TA}{As:DA}{Ao:Yg}
theorem bA.kI (h:bA K F ds vs)(e:L2.kI ds i=some d): ∃v,L2.kI vs i=some v/\dY K F d v:=by
 unfold L2.kI at e ⊢;rw[h.length]at e
 cases q:qL vs.length i with
 |none=>rw[q]at e;cases e
 |some j=>
  rw[q]at e;exact h.get e
def ü:xO:=λx y P=>match x,y with
 | .lst ds,.int i=>∃d,kI ds i=some d/\P d
 |_,_=>False
def û:xO:=λx y P=>match x,y with
 | .tup ds,.int i=>∃d,kI ds i=some d/\P d
 |_,_=>False
def ixS:xO:=λx y P=>match x,y with
 | .str z,.int i=>z.length<=1000000/\∃c,kI z.cps.toList i=some c/\P (.str ⟨#[c]⟩)
 |_,_=>False
def dm (K:Ap)(R:R2)(r:xO):Prop:=∀F H x y v u P Q,a6 F H->dY K F x v->dY K F y u->r x y P->(∀d w,P d->dY K F d w->Q w H)->R v u H Q
theorem dm.b (h:dm K R r): š K R r:=λH x y v u P Q e c w q=>h H H x y v u P Q (a6.refl _) e c w q
theorem bF (h:dm K R r)(C:cO K ta Ea)(B:cO K tb Eb): cO K (OC R ta tb) (Ù r Ea Eb):=λl j F H Y δ P Q e w q=>
 C l j F H Y δ _ _ e w λx v J G n f z=>B l j J G Y δ _ _ (e.on f) n λy u k g m c o=>
  h k g x y v u P _ c.fh (z.mono c.ff) o m λd w p A=>q d w k g p (f.trans c) A
theorem cn:dm K (S8 K) ü:=λF H x y v u P Q s g f w q=>by
 unfold ü at w;split at w
 .obtain ⟨d,e,w⟩:=w;obtain⟨p,vs,rfl,h1,h2⟩:=g;obtain⟨c,e',r⟩:=h2.kI e;exact⟨p,vs,_,c,rfl,f,s.seq h1,e',q d c w r⟩
 .exact w.elim
theorem aU:dm K (YJ K) û:=λF H x y v u P Q s g f w q=>by
 unfold û at w;split at w
 .obtain ⟨d,e,w⟩:=w;obtain⟨p,vs,rfl,h1,h2⟩:=g;obtain⟨c,e',r⟩:=h2.kI e;exact⟨p,vs,_,c,rfl,f,s.lK h1,e',q d c w r⟩
 .exact w.elim
def UK (K:Ap)(R:List V->Hp->VK->Prop)(r:List D->(D->Prop)->Prop):Prop:=∀F H ds vs P Q,a6 F H->bA K H ds vs->r ds P->(∀d w e c,P d->cE F H e c->dY K e d w->Q w c)->R vs H Q
def Ū (K:Ap)(R:List V->Hp->VK->Prop)(r:List D->(OV->Prop)->Prop):Prop:=∀F H ds vs P Q,a6 F H->bA K F ds vs->r ds P->(∀o w e c,P o->cE F H e c->eO K H e c o w->Q w c)->R vs H Q
def ş (r:List D->(D->Prop)->Prop)(As:DA):DE:=λδ P=>As δ λds=>r ds P
def ZI (r:List D->(OV->Prop)->Prop)(As:DA):DO:=λδ P=>As δ λds=>r ds P
theorem bT {R:List V->Hp->VK->Prop}{r:List D->(D->Prop)->Prop}(h:UK K R r)(A:ka K a As): cO K (Yr R a) (ş r As):=λu m F H Y δ P Q e w q=>
 A u m F H Y δ _ _ e w λds vs o l g c j=>h o l ds vs P _ c.fh j g λd w v n p f k=>q d w v n p (c.trans f) k
theorem U1 {R:List V->Hp->VK->Prop}{r:List D->(OV->Prop)->Prop}(h:Ū K R r)(A:ei K a As): ez K (Yr R a) (ZI r As):=λu m F H Y δ P Q e w q=>
 A u m F H Y δ _ _ e w λds vs o l g c j=>h o l ds vs P _ c.fh j g λd w v n p f k=>q d w v n p (c.trans f) (k.old c.hh)
theorem gJ (h:bA K F [d] vs): ∃v,vs=[v]/\dY K F d v:=by
 obtain⟨v,r,rfl,h1,h2⟩:=h;exact⟨v,by rw[show r=[] from h2],h1⟩
theorem wq (h:bA K F [d,d'] vs): ∃v u,vs=[v,u]/\dY K F d v/\dY K F d' u:=by
 obtain⟨v,r,rfl,h1,h2⟩:=h;obtain⟨u,rfl,c⟩:=gJ h2;exact⟨v,u,rfl,h1,c⟩
def W_:List D->(D->Prop)->Prop:=λds P=>match ds with
 | [.lst xs]=>P (.int xs.length)
 | [.tup xs]=>P (.int xs.length)
 |_=>False
def W9:List D->(D->Prop)->Prop:=λds P=>match ds with
 | [.str x]=>x.length<=1000000/\P (.int x.length)
 |_=>False
theorem cR:UK K (λxs H Q=>∃p ys,xs=[.ref p]/\(eE K H p ys∨ky K H p ys)/\Q (.int ys.length) H) W_:=λF H ds vs P Q s rs w q=>by
 unfold W_ at w;split at w
 .obtain ⟨v,rfl,p,us,rfl,h1,h2⟩:=gJ rs;exact⟨p,us,rfl,.inl h1,by rw[<- h2.length];exact q _ _ F H w (cE.refl s) rfl⟩
 .obtain ⟨v,rfl,p,us,rfl,h1,h2⟩:=gJ rs;exact⟨p,us,rfl,.inr h1,by rw[<- h2.length];exact q _ _ F H w (cE.refl s) rfl⟩
 .exact w.elim
theorem iY:UK K (λxs H Q=>∃z,xs=[.str z]/\z.length<=AM/\Q (.int z.length) H) W9:=λF H ds vs P Q s rs w q=>by
 unfold W9 at w;split at w
 .obtain ⟨v,rfl,r⟩:=gJ rs;exact⟨_,by rw[show v=_ from r],eI w.1,q _ _ F H w.2 (cE.refl s) rfl⟩
 .exact w.elim
def ż:List D->(D->Prop)->Prop:=λds P=>match ds with
 | [.int i,.int j]=>P (.int (max i j))
 |_=>False
def W5:List D->(D->Prop)->Prop:=λds P=>match ds with
 | [.int i,.int j]=>P (.int (min i j))
 |_=>False
theorem Uz:UK K (λxs H Q=>∃i j,xs=[.int i,.int j]/\Q (.int (if j<i then j else i)) H) W5:=λF H ds vs P Q s rs w q=>by
 unfold W5 at w;split at w
 .rename_i i j;obtain⟨v,u,rfl,c,r⟩:=wq rs;refine⟨i,j,by rw[show v=_ from c,show u=_ from r],?_⟩;rw[show (if j<i then j else i)=min i j by split<;>lia];exact q _ _ F H w (cE.refl s) rfl
 .exact w.elim
def XX:List D->(D->Prop)->Prop:=λds P=>match ds with
 | [.int i]=>P (.int i.natAbs)
 |_=>False
theorem RP:UK K (λxs H Q=>∃i,xs=[.int i]/\Q (.int (if i<0 then -i else i)) H) XX:=λF H ds vs P Q s rs w q=>by
 unfold XX at w;split at w
 .rename_i i;obtain⟨v,rfl,r⟩:=gJ rs;refine⟨i,by rw[show v=_ from r],?_⟩;rw[show (if i<0 then -i else i)=(i.natAbs:Int) by split<;>lia];exact q _ _ F H w (cE.refl s) rfl
 .exact w.elim
def QV:List D->(OV->Prop)->Prop:=λds P=>match ds with
 | [.lst xs]=>P (.nl (xs.map .fz))
 | [.tup xs]=>P (.nl (xs.map .fz))
 |_=>False
theorem eO.list (f:H l=none)(g:c l=none)(h:j l=some (.lst vs))(r:bA K c ds vs): eO K H c j (.nl (ds.map .fz)) (.ref l):=
 ⟨[l],⟨l,vs,[],rfl,rfl,h,a8.Ó r⟩,by simp,λa A=>by
  have e:a=l:=by simpa using A
  rw[e];exact⟨f,g⟩⟩
theorem cE.grow (s:a6 F H)(h:a6 H c): cE F H F c:=⟨a6.refl _,h,s.trans h,λ_ _ z _ _=>z⟩
theorem L0:Ū K (P1 K) QV:=λF H ds vs P Q s rs w q=>by
 unfold QV at w;split at w
 .obtain ⟨v,rfl,p,us,rfl,h1,h2⟩:=gJ rs;exact⟨p,us,rfl,.inl (s.seq h1),λl e L m c=>q _ _ F e w (cE.grow s m) (eO.list L (s.free L) c h2)⟩
 .obtain ⟨v,rfl,p,us,rfl,h1,h2⟩:=gJ rs;exact⟨p,us,rfl,.inr (s.lK h1),λl e L m c=>q _ _ F e w (cE.grow s m) (eO.list L (s.free L) c h2)⟩
 .exact w.elim
abbrev Ye:=cY->(Option Int->Prop)->Prop
def NR (K:Ap)(t:TO)(E:Ye):Prop:=∀f e F H Y δ P Q,cx K f e F H Y δ->E δ P->(∀o g c,P o->cE F H g c->Q o c)->t Y H Q
def VI:Ye:=λ_ P=>P none
def Ś (E:DE):Ye:=λδ P=>E δ λd=>match d with
 | .int i=>P (some i)
 |_=>False
theorem Yz:NR K zV VI:=λf c F H Y δ P Q e w q=>q none F H w (cE.refl e.ext.fh)
theorem Pk (h:dN K t E): NR K (UR t) (Ś E):=λl j F H Y δ P Q e w q=>h l j F H Y δ _ _ e w λd v k g c f r=>by
 split at c
 .exact ⟨_,r,q _ k g c f⟩
 .exact c.elim
noncomputable def cutD (xs:List D)(lo hi:Option Int):List D:=(xs.drop (HT.rD xs.length 0 lo)).take (HT.rD xs.length xs.length hi-HT.rD xs.length 0 lo)
theorem bA.cut (h:bA K F ds vs)(lo hi:Option Int): bA K F (cutD ds lo hi) (zm vs lo hi):=by
 unfold cutD zm;rw[h.length];exact (h.drop _).take _
def Zx (Ea:DE)(L U:Ye):DO:=λδ P=>Ea δ λx=>L δ λlo=>U δ λhi=>match x with
 | .lst xs=>P (.nl ((cutD xs lo hi).map .fz))
 |_=>False
theorem Wm (C:cO K ta Ea)(hl:NR K T L)(B:NR K u U): ez K (ä (YH K) ta T u) (Zx Ea L U):=λm k F H Y δ P Q e w q=>
 C m k F H Y δ _ _ e w λx v F1 J r h z=>hl m k F1 J Y δ _ _ (e.on h) r λlo F2 G o g=>B m k F2 G Y δ _ _ ((e.on h).on g) o λhi F3 H3 j c=>by
  have f:=h.trans (g.trans c);split at j
  .obtain ⟨p,vs,rfl,h1,h2⟩:=z.mono (g.ff.trans c.ff);exact⟨p,vs,rfl,c.fh.seq h1,λl O n M A=>q _ _ F3 O j (f.trans (cE.grow c.fh M)) (eO.list (f.hh.free n) (c.fh.free n) A (h2.cut lo hi))⟩
  .exact j.elim
mutual
noncomputable def OV.lf:OV->Bool
 | .fz d=>d.lf
 | .nl ts=>OV.jj ts
 | .rt _ ts=>OV.jj ts
 | .fx _ d=>d.lf
 | .ob _ _ _ ts=>OV.jj ts
noncomputable def OV.jj:List OV->Bool
 | []=>true
 |t::ts=>t.lf && OV.jj ts
end
theorem OV.j4:∀(ts:List OV),OV.jj ts=ts.all OV.lf
 | []=>rfl
 |d::ds=>by simp[OV.jj,OV.j4 ds]
mutual
theorem gz.lf (s:a6 F g): ∀{t:OV} {v:V} {A:List Ac},gz K g m t v A->t.lf=true->gz K (ll F g) m t v A
 | .fz d,v,A,h,z=>⟨h.1,dY.lf s h.2 (by simpa[OV.lf] using z)⟩
 | .nl ts,v,A,h,z=>by
  obtain⟨a,vs,B,e,f,h1,h2⟩:=h;exact⟨a,vs,B,e,f,h1,a8.lf s h2 (by simpa[OV.lf] using z)⟩
 | .fx u d,v,A,h,z=>⟨h.1,h.2.1,dY.lf s h.2.2 (by simpa[OV.lf] using z)⟩
 | .rt a ts,v,A,h,z=>by
  obtain⟨vs,B,e,f,h1,h2⟩:=h;exact⟨vs,B,e,f,h1,a8.lf s h2 (by simpa[OV.lf] using z)⟩
 | .ob o c ns ts,v,A,h,z=>by
  obtain⟨a,C,l,vs,B,e,f,k,O,h1,h2,hl,j⟩:=h;exact⟨a,C,l,vs,B,e,f,k,O,h1,h2,hl,a8.lf s j (by simpa[OV.lf] using z)⟩
theorem a8.lf {F c e:Hp}(s:a6 F c):∀{ts:List OV} {vs:List V} {A:List Ac},a8 K c e ts vs A->OV.jj ts=true->a8 K (ll F c) e ts vs A
 | [],_,_,h,_=>h
 |t::ts,vs,A,h,z=>by
  obtain⟨v,r,B,C,g,f,h1,h2⟩:=h;simp[OV.jj]at z
  exact⟨v,r,B,C,g,f,gz.lf s h1 z.1,a8.lf s h2 z.2⟩
end
abbrev dF:=List D->(OV->Prop)->Prop
def b7 (K:Ap)(n:Nat)(sp:dF):Sp:=Sw n λvs H Q=>∃F ds P,a6 F H/\bA K F ds vs/\sp ds P/\∀r v e c,P r->cE F H e c->eO K H e c r v->Q v c
def LZ (n:Nat)(sp:dF)(As:DA):DO:=λδ P=>As δ λds=>ds.length=n/\sp ds P
def RE (n:Nat)(sp:dF)(As:DA):DO:=λδ P=>As δ λds=>ds.length=n/\sp ds λr=>r.lf=true/\P r
theorem aY (A:ei K a As): ez K (nt (b7 K n sp) [] E0 a) (LZ n sp As):=λo k F H Y δ P Q e w q=>A o k F H Y δ _ _ e w λds vs m z f c g=>by
 rw[Bj];exact⟨by rw[<- g.length];exact f.1,m,ds,P,c.fh,g,f.2,λr v u l p h j=>q r v u l p (c.trans h) (j.old c.hh)⟩
theorem eV (L:ka K a As): ez K (nt (b7 K n sp) [] E0 a) (RE n sp As):=λF0 U F H Y δ P Q e w q=>L F0 U F H Y δ _ _ e w λds vs m T h g k=>by
 rw[Bj];refine⟨by rw[<- k.length];exact h.1,T,ds,_,a6.refl _,k,h.2,λr v u H' p f J=>?_⟩;have j:a6 m u:=g.fh.trans f.ff;have c:=fv j;obtain⟨A,O,M,l⟩:=J;refine q r v (ll m u) H' p.2 (g.trans ⟨c.ff,f.hh,c.fh.trans f.fh,λb o G C z=>?_⟩) ⟨A,O.lf j p.1,M,λb B=>⟨g.hh.free (l b B).1,c.fh.free (l b B).2⟩⟩;exact c.no b o G (f.ff _ _ C) z
end
section
variable {K:Ap}{te ti ta:TE}{E Ea Ei:DE}{Eo:DO}{t u:TS}{T U:DS}
def U2:DS:=λe δ=>e.nx δ
def Pc (T U:DS):DS:=λe δ=>T {e with nx:=U e} δ
theorem bP:bY K OD U2:=λc a F H Y δ f E e l w=>l.nx F H Y δ e w
theorem aT (h:bY K t T)(g:bY K u U): bY K (rq t u) (Pc T U):=λj f F H Y δ c E e l w=>
 h j f F H Y δ {c with nx:=U c} _ e ⟨λp o n a m k=>g j f p o n a c E m l k,l.bk,l.ct,l.rt⟩ w
def PK:DS:=λe δ=>e.bk δ
theorem Ph:bY K OK PK:=λc a F H Y δ f E e l w=>l.bk F H Y δ e w
def U3 (E:DE):DS:=λe δ=>E δ λ_=>e.nx δ
theorem SO (h:dN K te E):bY K (jr te) (U3 E):=λf a F H Y δ j n e l w=>h f a F H Y δ _ _ e w λd v g c p x r=>l.nx g c Y δ (e.on x) p
def SS (E:DO):DS:=λe δ=>E δ e.rt
theorem a_ (h:ez K te Eo): bY K (OB te) (SS Eo):=λf a F H Y δ k j e l w=>h f a F H Y δ _ _ e w λr v g c p x n=>l.rt g c r v (e.ext.trans x) (n.old e.ext.hh) p
def Pj (i:Nat):DS:=λe δ=>match δ[i]? with
 |some (some (.own t))=>e.rt t
 |_=>False
theorem fT:bY K (OB (dt i)) (Pj i):=λf c F H Y δ g n ⟨A,e⟩ l w=>by
 unfold Pj at w;split at w
 .rename_i t ht;obtain⟨v,h1,h2⟩:=e.own i t ht;exact⟨v,h1,l.rt F H t v e.ext ⟨A i,h2,e.ji i,λa h=>⟨(e.new i a h).2.1,(e.new i a h).1⟩⟩ w⟩
 .exact w.elim
def Ê (C:DT)(T U:DS):DS:=λe δ=>C δ λb=>if b=true then T e δ else U e δ
theorem cz (h:jk K c C)(ht:bY K t T)(m:bY K u U): bY K (OG c t u) (Ê C T U):=λf a F H Y δ k n e l w=>h f a F H Y δ _ _ e w λb j g p x=>by
 cases b with
 |true=>exact rS (ht f a j g Y δ k n (e.on x) l p)
 |false=>exact rT rfl (m f a j g Y δ k n (e.on x) l p)
def SM (i:Nat)(E:DO):DS:=λe δ=>E δ λr=>e.nx (δ.set i (some (.own r)))
theorem bB (h:ez K te Eo): bY K (kB te (gO i)) (SM i Eo):=λf a F H Y δ k j e l w=>h f a F H Y δ _ _ e w λr v g c p x n=>l.nx g c _ _ (e.put x i n) p
def YC (i:Nat)(r:xO)(E:DE):DS:=λe δ=>dV i δ λx=>E δ λy=>r x y λz=>e.nx (δ.set i (some (.own (.fz z))))
theorem Wg (O:L' K R r)(h:dN K te E): bY K (Ys i te R) (YC i r E):=λk j F H Y δ De En e l w=>by
 obtain⟨v,C,w⟩:=aE k j F H Y δ _ (λv J=>te Y J λy g=>R v y g λz f=>En.nx (Y.set i (some z)) f) e w λd v Q g p c q=>h k j Q g Y δ _ _ (e.on c) p λy u M f B a o=>O M f d y v u _ _ a.fh (q.mono (c.fh.trans a.hh |> λs=>s)) o B λz w L G A m n=>l.nx L G _ _ (((e.on c).on a).put m i (.fz n)) A
 exact⟨v,C,w⟩
def gN (i:Nat):D->cY->(cY->Prop)->Prop:=λd δ P=>P (δ.set i (some (.own (.fz d))))
theorem bu:vA K (gO i) (gN i):=λf c F H Y δ A d v P Q e r w q=>q _ _ _ w (e.YK i r) λj a h=>by
 split at h
 .cases h
 .exact h
def tx:List D->cY->(cY->Prop)->Prop:=λds δ P=>match ds with
 | []=>P δ
 |_=>False
def m7 (G:D->cY->(cY->Prop)->Prop)(c:List D->cY->(cY->Prop)->Prop):List D->cY->(cY->Prop)->Prop:=λds δ P=>match ds with
 |d::r=>G d δ λa=>c r a P
 |_=>False
theorem iM:L7 K Zl tx:=λc a F H Y δ A ds vs P Q e r w q=>by
 unfold tx at w;split at w
 .exact ⟨r,q _ _ A w e λ_ _ z=>z⟩
 .exact w.elim
theorem cH {G:D->cY->(cY->Prop)->Prop}{l:List D->cY->(cY->Prop)->Prop}(h:vA K g G)(C:L7 K J l): L7 K (Vw g J) (m7 G l):=λm k F H Y δ A ds vs P Q e r w q=>by
 unfold m7 at w;split at w
 .obtain ⟨v,j,rfl,h1,h2⟩:=r;exact⟨v,j,rfl,h m k F H Y δ A _ v _ _ e h1 w λO f A' o e' p=>C m k F H O f A' _ j P Q e' h2 o λM c A2 n L B=>q M c A2 n L λi a z=>p i a (B i a z)⟩
 .exact w.elim
def gT (n:Nat)(G:List D->cY->(cY->Prop)->Prop):D->cY->(cY->Prop)->Prop:=λd δ P=>match d with
 | .tup ds=>ds.length=n/\G ds δ P
 |_=>False
theorem k_ {G:List D->cY->(cY->Prop)->Prop}(h:L7 K g G): vA K (Zk K n g) (gT n G):=λf c F H Y δ A d v P Q e r w q=>by
 unfold gT at w;split at w
 .obtain ⟨a,vs,rfl,h1,h2⟩:=r;exact⟨a,vs,rfl,e.ext.fh.lK h1,by rw[<- h2.length];exact w.1,h f c F H Y δ A _ vs P Q e h2 w.2 q⟩
 .exact w.elim
def YD (E:DE)(G:D->cY->(cY->Prop)->Prop):DS:=λe δ=>E δ λd=>G d δ e.nx
theorem ER.change {A:Nat->List Ac}(e:ER K M w F H Y δ A)(i:Nat)(p:Y[i]?=some (some v))(r:gz K F C t' v B)(G:B.Nodup)
  (n:∀b∈B,F b=none/\w b=none) (q:∀j,j≠i->∀b∈B,b∉A j) (keep:∀b o,b∉A i->H b=some o->C b=some o): cx K M w F C Y (δ.set i (some (.own t'))):=by
 have hi:i<δ.length:=by rw[<- e.len];exact (Ab.mp p).1
 refine⟨λj=>if j=i then B else A j,by simp[e.len],⟨e.ext.ff,λb o h=>?_,λb o h=>?_,e.ext.no⟩,λj t J=>?_,λj d J=>?_,λj=>?_,λj k a f h1 h2=>?_,λj a c=>?_⟩
 .exact keep b o (λz=>by rw[(e.new i b z).2.1]at h;cases h) (e.ext.hh _ _ h)
 .exact keep b o (λz=>by rw[(e.new i b z).1]at h;cases h) (e.ext.fh _ _ h)
 .by_cases z:j=i
  .subst z;rw[if_pos rfl];rw[Ax hi]at J;cases J;exact⟨v,p,r⟩
  .rw [if_neg z];rw[AK (Be z)]at J;obtain⟨u,h1,h2⟩:=e.own j t J;exact⟨u,h1,h2.frame (a6.refl _) λa c xs h=>keep a _ (e.ko j i a z c) h⟩
 .by_cases z:j=i
  .subst z;rw[Ax hi]at J;cases J
  .rw [AK (Be z)]at J;exact e.bw j d J
 .split
  .exact G
  .exact e.ji j
 .split at h1
  .split at h2
   .lia
   .rename_i l g;exact q k g a h1 h2
  .split at h2
   .rename_i l g;exact q j l a h2 h1
   .exact e.ko j k a f h1 h2
 .split at c
  .exact ⟨(n a c).1,(n a c).2,r.rV a c⟩
  .rename_i z;obtain⟨h1,h2,xs,L,m⟩:=e.new j a c;exact⟨h1,h2,xs,keep a _ (e.ko j i a z c) L,m⟩
def Wu (i:Nat)(E:DO):DS:=λe δ=>match δ[i]? with
 |some (some (.own (.nl ts)))=>ts.length<1000000/\E δ λr=>e.nx (δ.set i (some (.own (.nl (ts++[r])))))
 |_=>False
theorem a5 (h:b≠a)(e:H b=some O): cP H a o b=some O:=by rw[bI h];exact e
theorem ym (h:ez K te Eo): bY K (jr (UW K "list" oO (dt i) (da te gS))) (Wu i Eo):=λF0 H0 F H Y δ De En e l w=>by
 obtain⟨A,e⟩:=e;unfold Wu at w;split at w
 .rename_i ts hs;obtain⟨pl,w⟩:=w;obtain⟨v,hv,a,vs,B,rfl,g,ha,hB⟩:=e.own i _ hs;refine⟨_,hv,.inl ⟨rfl,_,eE.of ha⟩,?_⟩;refine h F0 H0 F H Y δ _ _ ⟨A,e⟩ w λr u F1 H1 p G n=>?_
  obtain⟨C,c1,c2,O⟩:=n;have M:=e.on G;have hl:=hB.length;refine⟨a,vs,u,rfl,rfl,G.hh _ _ ha,sv (by lia),?_⟩;have L:a8 K F1 H1 ts vs B:=hB.frame G.ff λb _ xs z=>G.hh _ _ z
  have k:=e.ji i;rw[g]at k;obtain⟨Q,n2⟩:=AD.mp k;have f:∀j b,b∈C->b∉A j:=λj b c z=>by
   obtain⟨_,_,xs,q,_⟩:=e.new j b z;rw[(O b c).1]at q;cases q
  have m:a∉C:=λz=>f i a z (by rw[g];exact Az)
  refine l.nx F1 _ Y _ (M.change i hv (t':=.nl (ts++[r])) (B:=a::(B++C)) ⟨a,vs++[u],B++C,rfl,rfl,a0,?_⟩ ?_ ?_ ?_ ?_) p
  .exact a8.append (L.frame (a6.refl _) λb c xs z=>a5 (λq=>Q (by rw[<- q];exact c)) z) (a8.one (c1.frame (a6.refl _) λb c xs z=>a5 (λq=>m (by rw[<- q];exact c)) z))
  .refine AD.mpr ⟨λz=>?_,AY.mpr ⟨n2,c2,λx hx y hy z=>?_⟩⟩
   .rcases AB.mp z with z |z
    .exact Q z
    .exact m z
   .subst z;exact f i x hy (by rw[g];exact Aw _ hx)
  .intro b c;have J:b∈A i∨b∈C:=by
    rw[g];rcases AJ.mp c with z |z
    .exact .inl (by rw[z];exact Az)
    .rcases AB.mp z with z |z
     .exact .inl (Aw _ z)
     .exact .inr z
   rcases J with z |z
   .exact ⟨(M.new i b z).1,(M.new i b z).2.1⟩
   .exact ⟨(O b z).2,e.ext.hh.free (O b z).1⟩
  .intro j hj b c z;rcases AJ.mp c with q |q
   .subst q;exact e.ko j i b hj z (by rw[g];exact Az)
   .rcases AB.mp q with q |q
    .exact e.ko j i b hj z (by rw[g];exact Aw _ q)
    .exact f j b q z
  .intro b o c q;exact a5 (λz=>c (by rw[g,z];exact Az)) q
 .exact w.elim
def Yy (i:Nat)(Ei:DE)(E:DO):DS:=λe δ=>E δ λr=>match δ[i]? with
 |some (some (.own (.nl ts)))=>Ei δ λk=>match k with
  | .int k=>∃j,qL ts.length k=some j/\e.nx (δ.set i (some (.own (.nl (ts.set j r)))))
  |_=>False
 |_=>False
theorem yk (h:ez K te Eo)(hi:dN K ti Ei): bY K (kB te (Uh (dt i) ti Lc)) (Yy i Ei Eo):=λF0 H0 F H Y δ De En e l w=>by
 refine h F0 H0 F H Y δ _ _ e w λr u F1 H1 p x1 n=>?_
 obtain⟨A,e⟩:=e;split at p
 .rename_i ts hs;have e1:=e.on x1;obtain⟨v,hv,a,vs,B,rfl,m,ha,hB⟩:=e1.own i _ hs;refine⟨_,hv,?_⟩;refine hi F0 H0 F1 H1 Y δ _ _ ⟨A,e1⟩ p λk kv F2 H2 G g r2=>?_
  split at G
  .rename_i k;obtain⟨j,J,G⟩:=G;have e2:=e1.on g;have Ϸ:=g.hh _ _ ha;have hB2:a8 K F2 H2 ts vs B:=hB.frame g.ff λb _ xs z=>g.hh _ _ z
   obtain⟨C,c1,c2,c3⟩:=n;have c1':gz K F2 H2 r u C:=c1.frame g.ff λb _ xs z=>g.hh _ _ z
   have hl:=hB.length;refine⟨a,vs,k,j,rfl,r2,Ϸ,by rw[<- hl];exact J,?_⟩;have Vs:j<ts.length:=by
    unfold qL at J;split at J
    .split at J
     .cases J;lia
     .cases J
    .split at J
     .cases J;lia
     .cases J
   obtain⟨v0,A1,B0,A2,f1,rfl,f3,f4⟩:=hB2.focus (Ad Vs);have M:=e.ji i;rw[m]at M;obtain⟨n1,n2⟩:=AD.mp M;have f:∀j b,b∈C->b∉A j:=λj b c z=>by
    obtain⟨_,_,xs,q,_⟩:=e.new j b z;rw[(c3 b c).1]at q;cases q
   have Q:a∉C:=λz=>f i a z (by rw[m];exact Az)
   have sub:∀b,b∈A1++A2->b∈A1++(B0++A2):=λb c=>by
    rcases AB.mp c with z |z<;>simp[z]
   have L:∀b,b∈a::(A1++(C++A2))->b∈A i∨b∈C:=λb c=>by
    rw[m];rcases AJ.mp c with z |z
    .exact .inl (by rw[z];exact Az)
    .rcases AB.mp z with z |z
     .exact .inl (by simp[z])
     .rcases AB.mp z with z |z
      .exact .inr z
      .exact .inl (by simp[z])
   refine l.nx F2 _ Y _ (e2.change i hv (t':=.nl (ts.set j r)) (B:=a::(A1++(C++A2))) ⟨a,vs.set j u,_,rfl,rfl,a0,f4 F2 _ r u C (a6.refl _) (λb c xs z=>?_) (c1'.frame (a6.refl _) λb c xs z=>a5 (λq=>Q (by rw[<- q];exact c)) z)⟩ ?_ ?_ ?_ ?_) G
   .exact a5 (λq=>n1 (by rw[<- q];exact sub b c)) z
   .obtain ⟨m1,m2,m3⟩:=AY.mp n2;obtain⟨k1,k2,k3⟩:=AY.mp m2;refine AD.mpr ⟨λz=>?_,AY.mpr ⟨m1,AY.mpr ⟨c2,k2,λx hx y hy z=>?_⟩,λx hx y hy z=>?_⟩⟩
    .rcases AB.mp z with z |z
     .exact n1 (by simp[z])
     .rcases AB.mp z with z |z
      .exact Q z
      .exact n1 (by simp[z])
    .subst z;exact f i x hx (by rw[m];simp[hy])
    .rcases AB.mp hy with q |q
     .subst z;exact f i x q (by rw[m];simp[hx])
     .exact m3 x hx y (by simp[q]) z
   .intro b c;rcases L b c with z |z
    .exact ⟨(e2.new i b z).1,(e2.new i b z).2.1⟩
    .obtain ⟨xs,q,O⟩:=c1.rV b z;exact⟨g.no b _ (c3 b z).2 q O,e.ext.hh.free (c3 b z).1⟩
   .intro j' T9 b c z;rcases L b c with q |q
    .exact e.ko j' i b T9 z q
    .exact f j' b q z
   .intro b o c q;exact a5 (λz=>c (by rw[m,z];exact Az)) q
  .exact G.elim
 .exact p.elim
def PL (i:Nat)(g:Int->Int->Int)(Ei E:DE):DS:=λe δ=>match δ[i]? with
 |some (some (.own (.nl ts)))=>Ei δ λk=>match k with
  | .int k=>0<=k/\∃x,ts[k.toNat]?=some (.fz (.int x))/\E δ λy=>match y with
   | .int y=>e.nx (δ.set i (some (.own (.nl (ts.set k.toNat (.fz (.int (g x y))))))))
   |_=>False
  |_=>False
 |_=>False
theorem SQ {g:Int->Int->Int}(hi:dN K ti Ei)(h:dN K te E): bY K (UX (dt i) ti te (Vc K) (þ g) Lc) (PL i g Ei E):=λF0 H0 F H Y δ De En e l w=>by
 obtain⟨A,e⟩:=e;unfold PL at w;split at w
 .rename_i ts hs;obtain⟨v,hv,a,vs,B,rfl,m,ha,hB⟩:=e.own i _ hs;refine⟨_,hv,?_⟩;refine hi F0 H0 F H Y δ _ _ ⟨A,e⟩ w λk kv F1 H1 p C O=>?_
  split at p
  .rename_i k;obtain⟨Q,x,hx,p⟩:=p;have e1:=e.on C;have f:=C.hh _ _ ha;have J:a8 K F1 H1 ts vs B:=hB.frame C.ff λb _ xs z=>C.hh _ _ z
   obtain⟨v0,A1,B0,A2,f1,rfl,L,f4⟩:=J.focus hx;obtain⟨rfl,L⟩:=L;refine⟨a,vs,k,v0,rfl,O,eE.of f,Q,f1,?_⟩;refine h F0 H0 F1 H1 Y δ _ _ ⟨A,e1⟩ p λy yv F2 H2 G r r2=>?_
   split at G
   .rename_i y;have M:=e1.on r;have Vs:k.toNat<vs.length:=(Ab.mp f1).1;refine⟨x,y,L,r2,a,vs,k,k.toNat,rfl,O,r.hh _ _ f,?_,?_⟩
    .unfold qL;rw[if_pos Q,if_pos (by lia)]
    .have n:=e.ji i;rw[m]at n;obtain⟨n1,n2⟩:=AD.mp n;refine l.nx F2 _ Y _ (M.change i hv (t':=.nl (ts.set k.toNat (.fz (.int (g x y))))) (B:=a::(A1++([]++A2))) ⟨a,_,_,rfl,rfl,a0,f4 F2 _ (.fz (.int (g x y))) _ [] r.ff (λb c xs z=>a5 (λq=>n1 (by rw[<- q];exact c)) (r.hh _ _ z)) ⟨rfl,rfl⟩⟩ ?_ ?_ ?_ ?_) G
     .exact n
     .intro b c;exact⟨(M.new i b (by rw[m];exact c)).1,(M.new i b (by rw[m];exact c)).2.1⟩
     .intro j hj b c z;exact e.ko j i b hj z (by rw[m];exact c)
     .intro b o c q;exact a5 (λz=>c (by rw[m,z];exact Az)) q
   .exact G.elim
  .exact p.elim
 .exact w.elim
end
section
variable {K:Ap}{te ti ta tl:TE}{E Ea Ei El:DE}{Eo:DO}{t u:TS}{T U:DS}{a:TA}{As:DA}
theorem ER.rebase {A:Nat->List Ac}(e:ER K f c F H Y δ A): ER K F c F H Y δ A:=⟨e.len,⟨a6.refl _,e.ext.hh,e.ext.fh,λ_ _ z _ _=>z⟩,e.own,e.bw,e.ji,e.ko,e.new⟩
theorem cx.rebase (e:cx K f c F H Y δ): cx K F c F H Y δ:=let⟨A,e⟩:=e;⟨A,e.rebase⟩
theorem cE.pf (x:cE h e g j)(y:cE g e F H): cE h e F H:=⟨x.ff.trans y.ff,y.hh,y.fh,λa o f c z=>y.no a o (x.no a o f c z) c z⟩
theorem cx.pf (x:cE g c f h)(e:cx K f c F H Y δ): cx K g c F H Y δ:=let⟨A,e⟩:=e;⟨A,e.len,x.pf e.ext,e.own,e.bw,e.ji,e.ko,e.new⟩
def O_ (C:DT)(T:DS):DS:=λe δ=>∃W:Nat->cY->Prop,(∃m,W m δ)/\∀m δ,W m δ->C δ λb=>if b=true then T {nx:=λc=>∃M,M<m/\W M c,ct:=λc=>∃M,M<m/\W M c,bk:=e.nx,rt:=e.rt} δ else e.nx δ
theorem vH {TF:Hp->Prop}(h:jk K c C)(ht:d5 K TF t T): d5 K TF (xV c t) (O_ C T):=λn k hT F H Y δ Q En e l w=>by
 obtain⟨W,⟨m0,w0⟩,hW⟩:=w;refine⟨λm Y H=>∃F δ,cx K n k F H Y δ/\W m δ,⟨m0,F,δ,e,w0⟩,?_⟩;rintro m A H1 ⟨F1,f,v,w1⟩;refine h n k F1 H1 A f _ _ v (hW m f w1) λb O J p x=>?_
 cases b with
 |true=>
  refine rS ⟨λG L=>∃M,M<m/\∃F δ,cx K n k F L G δ/\W M δ,λG L z=>z,?_⟩;refine ht n k hT O J A f {nx:=λj=>∃M,M<m/\W M j,ct:=λj=>∃M,M<m/\W M j,bk:=Q.nx,rt:=Q.rt} _ (v.on x) ⟨λB H3 Y3 g r ⟨M,q,o⟩=>⟨M,q,B,g,r,o⟩,l.nx,λB H3 Y3 g r ⟨M,q,o⟩=>⟨M,q,B,g,r,o⟩,l.rt⟩ p
 |false=>exact rT rfl (l.nx O J A f (v.on x) p)
theorem pT (h:jk K c C)(ht:bY K t T): bY K (xV c t) (O_ C T):=λf e=>vH (TF:=λ_=>True) h (λf e _=>ht f e) f e trivial
def Ĩ (K:Ap)(F:Hp)(J:It)(ds:List D):Prop:=∀e c,a6 F e->a6 e c->(∀i,i<ds.length->J.go i c)/\J.stop ds.length c/\∀i x f,i<ds.length->J.Ä i c x f->∃d g,ds[i]?=some d/\cE e c g f/\dY K g d x
def lu (K:Ap)(w:TI)(I:DA):Prop:=∀g f F H Y δ P R,cx K g f F H Y δ->I δ P->(∀ds J e c,P ds->cE F H e c->Ĩ K e J ds->R J c)->w Y H R
def ĩ (G:D->cY->(cY->Prop)->Prop)(T:DS)(e:R4)(ds:List D)(δ:cY):Prop:=∃W:Nat->cY->Prop,W 0 δ/\
 (∀i d δ,ds[i]?=some d->W i δ->G d δ λc=>T {nx:=W (i+1),ct:=W (i+1),bk:=e.nx,rt:=e.rt} c)/\∀δ,W ds.length δ->e.nx δ
def SY (I:DA)(G:D->cY->(cY->Prop)->Prop)(T:DS):DS:=λe δ=>I δ λds=>ĩ G T e ds δ
theorem V1 {G:D->cY->(cY->Prop)->Prop}(hi:lu K wi I)(hg:vA K g G)(ht:∀f H1,cE F0 n f H1->ls K f n t T): ls K F0 n (Sn wi g t) (SY I G T):=λF H Y δ De En e l w=>
 hi F0 n F H Y δ _ _ e w λds J f H1 p x1 hJ=>by
  have B:=(e.on x1).ext;obtain⟨W,w0,ws,wd⟩:=p;refine⟨λi m Y H=>m=ds.length-i/\i<=ds.length/\∃F δ,cx K f n F H Y δ/\W i δ,⟨ds.length,rfl,Br _,f,δ,(e.on x1).rebase,w0⟩,?_⟩;rintro i m Y2 H2 ⟨rfl,Ŏ,F2,h,⟨A2,z⟩,w2⟩;obtain⟨j1,j2,j3⟩:=hJ F2 H2 z.ext.ff z.ext.fh;by_cases L:i<ds.length
  .refine .inr ⟨j1 i L,λY' H'=>∃F δ,cx K f n F H' Y' δ/\W (i+1) δ,λY' H' ⟨A,M,e3,w3⟩=>⟨ds.length-(i+1),by omega,rfl,L,A,M,e3,w3⟩,λx H3 y=>?_⟩;obtain⟨d,A,hd,x3,r3⟩:=j3 i x H3 L y;refine hg f n A H3 Y2 h A2 d x _ _ (z.on x3) r3 (ws i d h hd w2) λY4 C A4 w4 e4 _=>?_
   exact ht f H1 B A H3 Y4 C {nx:=W (i+1),ct:=W (i+1),bk:=De.nx,rt:=De.rt} _ ⟨A4,e4⟩ ⟨λk q Q c o j=>⟨k,c,o,j⟩,λk q Q c o j=>l.nx k q Q c (o.pf B) j,λk q Q c o j=>⟨k,c,o,j⟩,λk q r v x5 n5 j=>l.rt k q r v (B.pf x5) n5 j⟩ w4
  .have O:i=ds.length:=by lia
   subst O;exact .inl ⟨j2,l.nx F2 H2 Y2 h (cx.pf B ⟨A2,z⟩) (wd _ w2)⟩
theorem Oi {TF:Hp->Prop}{G:D->cY->(cY->Prop)->Prop}(m:rm TF)(hi:lu K w I)(hg:vA K g G)(ht:d5 K TF t T): d5 K TF (Sn w g t) (SY I G T):=λj c h=>V1 hi hg λe f x=>ht e c (m _ _ x.ff h)
theorem c_ {G:D->cY->(cY->Prop)->Prop}(hi:lu K w I)(hg:vA K g G)(ht:bY K t T): bY K (Sn w g t) (SY I G T):=λe c=>Oi (TF:=λ_=>True) (λ_ _ _ z=>z) hi hg (λe c _=>ht e c) e c trivial
def ZE (El:DE):DA:=λδ P=>El δ λd=>match d with
 | .lst ds=>P ds
 |_=>False
def ZC (El:DE):DA:=λδ P=>El δ λd=>match d with
 | .tup ds=>P ds
 |_=>False
theorem dR (h:cO K tl El): lu K (Rc K tl) (ZE El):=λm j F H Y δ P R e w q=>h m j F H Y δ _ _ e w λd v n k p x r=>by
 split at p
 .obtain ⟨a,vs,rfl,h1,h2⟩:=r;refine⟨a,rfl,⟨vs,x.fh.seq h1⟩,q _ _ n k p x λl z f c=>?_⟩;have hl:=h2.length;have Q:=(f.trans c).seq h1;refine⟨λi hi=>⟨vs,vs[i],Q,Ad (by lia)⟩,⟨vs,Q,by lia⟩,λi x o hi y=>?_⟩;obtain⟨rfl,y⟩:=y;obtain⟨d,hd,g⟩:=h2.get' (y vs Q);exact⟨d,l,hd,cE.refl c,g.mono f⟩
 .exact p.elim
theorem Pq (h:cO K tl El): lu K (Za K tl) (ZC El):=λm j F H Y δ P R e w q=>h m j F H Y δ _ _ e w λd v n k p x r=>by
 split at p
 .obtain ⟨a,vs,rfl,h1,h2⟩:=r;refine⟨a,rfl,⟨vs,x.fh.lK h1⟩,q _ _ n k p x λl z f c=>?_⟩;have hl:=h2.length;have Q:=(f.trans c).lK h1;refine⟨λi hi=>⟨vs,vs[i],Q,Ad (by lia)⟩,⟨vs,Q,by lia⟩,λi x o hi y=>?_⟩;obtain⟨rfl,y⟩:=y;obtain⟨d,hd,g⟩:=h2.get' (y vs Q);exact⟨d,l,hd,cE.refl c,g.mono f⟩
 .exact p.elim
noncomputable def vF (lo c:Int)(n:Nat):List D:=(AE n).map λ(i:Nat)=>D.int (lo+i*c)
theorem dz {lo c:Int}{n:Nat}:(vF lo c n).length=n:=by simp[vF]
theorem uH {lo c:Int}{n i:Nat}(h:i<n):(vF lo c n)[i]?=some (.int (lo+i*c)):=by simp[vF,h]
theorem dS {lo c:Int}{n i:Nat}{d:D}(h:(vF lo c n)[i]?=some d):i<n/\d = .int (lo+i*c):=by
 have hi:i<n:=by
  have:=(Ab.mp h).1
  rwa[dz]at this
 rw[uH hi]at h;exact⟨hi,(A6 h).symm⟩
theorem T5 {F:Hp}{lo:Int}{n:Nat}:Ĩ K F (Ý lo n) (vF lo 1 n):=λe h f c=>by
 rw[dz];refine⟨λi hi=>hi,Ah _,λi x g hi y=>?_⟩;obtain⟨rfl,rfl⟩:=y;exact⟨_,e,uH hi,cE.refl c,by rw[JI];rfl⟩
theorem xa {F:Hp}{lo c:Int}{n:Nat}:Ĩ K F (UJ lo c n) (vF lo c n):=λf j g e=>by
 rw[dz];refine⟨λi hi=>hi,Ah _,λi x h hi y=>?_⟩;obtain⟨rfl,rfl⟩:=y;exact⟨_,f,uH hi,cE.refl e,rfl⟩
def VE (As:DA):DA:=λδ P=>As δ λds=>match ds with
 | [.int j]=>(-(2^62)<=j/\j<2^62)/\P (vF 0 1 j.toNat)
 |_=>False
def VD (As:DA):DA:=λδ P=>As δ λds=>match ds with
 | [.int i,.int j,.int c]=>(-(2^61)<=i/\i<2^61/\-(2^61)<=j/\j<2^61/\0<c/\c<2^29)/\P (vF i c (d4 i j c))
 |_=>False
theorem U5 (h:bA K F [d,d',c] vs): ∃v u w,vs=[v,u,w]/\dY K F d v/\dY K F d' u/\dY K F c w:=by
 obtain⟨v,r,rfl,h1,h2⟩:=h;obtain⟨u,w,rfl,f,e⟩:=wq h2;exact⟨v,u,w,rfl,h1,f,e⟩
theorem eW (h:ka K a As): lu K (Vp a) (VE As):=λj f F H Y δ P R e w q=>h j f F H Y δ _ _ e w λds vs k g p x r=>by
 split at p
 .obtain ⟨v,rfl,c⟩:=gJ r;exact⟨_,by rw[show v=_ from c],p.1.1,p.1.2,q _ _ k g p.2 x T5⟩
 .exact p.elim
theorem oM (h:ka K a As): lu K (Vo a) (VD As):=λl j F H Y δ P R e w q=>h l j F H Y δ _ _ e w λds vs m k p x r=>by
 split at p
 .obtain ⟨v,u,z,rfl,g,f,c⟩:=U5 r;exact⟨_,_,_,by rw[show v=_ from g,show u=_ from f,show z=_ from c],p.1,q _ _ m k p.2 x xa⟩
 .exact p.elim
def Zy (As:DA):DA:=λδ P=>As δ λds=>match ds with
 | [.tup xs]=>P xs.reverse
 |_=>False
theorem Wp (h:ei K a As):lu K (Zc K a) (Zy As):=λm j F H Y δ P R e w q=>h m j F H Y δ _ _ e w λds vs n k p x r=>by
 split at p
 .obtain ⟨v,rfl,a,us,rfl,h1,h2⟩:=gJ r;have hl:=h2.length;refine⟨a,us,rfl,x.fh.lK h1,q _ _ n k p x λl z f c=>?_⟩;have Q:=(f.trans c).lK h1;rw[BQ];refine⟨λi hi=>⟨us,us[us.length-1-i]'(by omega),Q,rfl,by lia,Ad (by omega)⟩,by show us.length<=_;lia,λi x o hi y=>?_⟩;obtain⟨rfl,y⟩:=y;obtain⟨d,hd,g⟩:=h2.get' (y us Q);refine⟨d,l,?_,cE.refl c,g.mono f⟩;rw[B4 hi,hl];exact hd
 .exact p.elim
noncomputable def zx (ix:List (Option Nat))(δ:cY):cY:=ix.map λo=>match o with
 |none=>none
 |some i=>match δ[i]? with
  |some (some (.own (.fz d)))=>some (.own (.fz d))
  |some (some (.own (.fx _ d)))=>some (.own (.fz d))
  |some (some (.own t))=>some (.bw t.val)
  |some (some (.bw d))=>some (.bw d)
  |_=>none
def gA (G:D->cY->(cY->Prop)->Prop)(Eo:DO)(ds:List D)(δ:cY)(P:OV->Prop):Prop:=∃W:Nat->cY->List OV->Prop,W 0 δ []/\
 (∀i d δ ts,ds[i]?=some d->W i δ ts->ts.length<1000000/\G d δ λc=>Eo c λr=>W (i+1) c (ts++[r]))/\∀δ ts,W ds.length δ ts->P (.nl ts)
def RB (I:DA)(ix:List (Option Nat))(G:D->cY->(cY->Prop)->Prop)(Eo:DO):DO:=λδ P=>I δ λds=>gA G Eo ds (zx ix δ) P
theorem ER.se {A:Nat->List Ac}(e:ER K n m F H Y δ A)(ix:List (Option Nat))(s:a6 H l): ER K F H F l (mm ix Y) (zx ix δ) (λ_=>[]):=by
 have get:∀(j:Nat) (s:Sl),(zx ix δ)[j]?=some (some s)->∃(i:Nat) (v:V),(mm ix Y)[j]?=some (some v)/\Y[i]?=some (some v)/\((∃d,s = .own (.fz d)/\dY K F d v)∨∃d,s = .bw d/\dY K H d v):=by
  intro j s c;unfold zx at c;rw[AH]at c
  cases q:ix[j]? with
  |none=>rw[q]at c;cases c
  |some o=>
   rw[q]at c
   cases o with
   |none=>cases c
   |some i=>
    have fin:∀v,Y[i]?=some (some v)->(mm ix Y)[j]?=some (some v):=λv k=>by
     unfold mm;rw[AH,q];simp[k]
    have J:=A6 c;dsimp only at J;split at J
    .rename_i d hd;cases J;obtain⟨v,h1,h2⟩:=e.own i _ hd;exact⟨i,v,fin v h1,h1,.inl ⟨d,rfl,h2.2⟩⟩
    .rename_i u d hd;cases J;obtain⟨v,h1,h2⟩:=e.own i _ hd;exact⟨i,v,fin v h1,h1,.inl ⟨d,rfl,h2.2.2⟩⟩
    .rename_i t _ _ hd;cases J;obtain⟨v,h1,h2⟩:=e.own i _ hd;exact⟨i,v,fin v h1,h1,.inr ⟨_,rfl,h2.rep e.ext.fh λa _ xs z=>z⟩⟩
    .rename_i d hd;cases J;obtain⟨v,h1,h2⟩:=e.bw i _ hd;exact⟨i,v,fin v h1,h1,.inr ⟨_,rfl,h2.mono e.ext.hh⟩⟩
    .cases J
 refine⟨by simp[mm,zx],cE.grow e.ext.fh s,λj t c=>?_,λj d c=>?_,λ_=>CF,(λ_ _ _ _ h=>by cases h),(λ_ _ h=>by cases h)⟩
 .obtain ⟨i,v,h1,h2,f⟩:=get j _ c;rcases f with⟨d,f,g⟩ | ⟨d,f,_⟩
  .cases f;exact⟨v,h1,rfl,g⟩
  .cases f
 .obtain ⟨i,v,h1,h2,f⟩:=get j _ c;rcases f with⟨d',f,g⟩ | ⟨d',f,g⟩
  .cases f
  .cases f;exact⟨v,h1,g⟩
theorem zD {TF:Hp->Prop}{G:D->cY->(cY->Prop)->Prop}(mo:rm TF)(hi:lu K wi I)(hg:vA K g G)(he:jg K TF te Eo): jg K TF (pw wi ix g te) (RB I ix G Eo):=λF0 H0 hT F H Y δ P Q e w q=>
 hi F0 H0 F H Y δ _ _ e w λds J F1 H1 p x1 hJ=>by
  intro L hL;obtain⟨A,e⟩:=e.on x1;obtain⟨W,w0,ws,wd⟩:=p;have f1:a6 F1 H1:=x1.fh;have ϻ:=mo _ _ e.ext.ff hT;refine⟨λi m Y ys H=>m=ds.length-i/\i<=ds.length/\∃F δ ts B,ER K F1 H1 F H Y δ (λ_=>[])/\W i δ ts/\F L=none/\H L=some (.lst ys)/\a8 K F H ts ys B/\(L::B).Nodup/\∀b∈B,H1 b=none/\F b=none,
   ⟨ds.length,rfl,Br _,F1,_,[],[],e.se ix (a6.new hL),w0,f1.free hL,a0,⟨rfl,rfl⟩,by simp,λ_ h=>by cases h⟩,?_⟩
  rintro i m Y2 ys H2 ⟨rfl,Ŏ,F2,ß,ts,B,e2,w2,l1,l2,hr,nd,nw⟩;obtain⟨j1,j2,j3⟩:=hJ F2 H2 e2.ext.ff e2.ext.fh;by_cases l:i<ds.length
  .obtain ⟨d0,Xp⟩:∃d,ds[i]?=some d:=⟨_,Ad l⟩
   have hl:=hr.length;refine .inr ⟨sv (by have:=(ws i d0 ß ts Xp w2).1;lia),j1 i l,λx H3 y=>?_⟩;obtain⟨d,F3,hd,x3,r3⟩:=j3 i x H3 l y;refine hg F1 H1 F3 H3 Y2 ß (λ_=>[]) d x _ _ (e2.on x3) r3 (ws i d ß ts hd w2).2 λY4 O A4 w4 e4 sub=>?_
   have Zp:ER K F1 H1 F3 H3 Y4 O (λ_=>[]):=by
    have:A4=λ_=>[]:=funext λk=>List.eq_nil_iff_forall_not_mem.mpr λb f=>by cases sub k b f
    rw[this]at e4;exact e4
   refine he F1 H1 ϻ F3 H3 Y4 O _ _ ⟨_,Zp⟩ w4 λr v F5 H5 p5 x5 n5=>?_
   have c:=x3.trans x5;have l5:=c.hh _ _ l2;have ļ:=c.no L _ l1 l2 rfl;refine⟨l5,ds.length-(i+1),by lia,rfl,l,F5,O,ts++[r],?_⟩;obtain⟨C,c1,c2,c3⟩:=n5;obtain⟨n1,n2⟩:=AD.mp nd;have Zh:L∉C:=λz=>by
    have q:=(c3 L z).1;rw[x3.hh _ _ l2]at q;cases q
   have ě:∀b,b∈B->b∉C:=λb f z=>by
    obtain⟨xs,q,M⟩:=hr.rV b f;have:=(c3 b z).1;rw[x3.hh _ _ q]at this;cases this
   have n:=Zp.on x5;refine⟨B++C,⟨n.len,⟨n.ext.ff,λb o h=>?_,λb o h=>?_,n.ext.no⟩,λj t hj=>?_,n.bw,n.ji,n.ko,λ_ _ h=>by cases h⟩,p5,ļ,a0,?_,?_,λb f=>?_⟩
   .exact a5 (λz=>by rw[z,hL]at h;cases h) (n.ext.hh _ _ h)
   .exact a5 (λz=>by rw[z,ļ]at h;cases h) (n.ext.fh _ _ h)
   .obtain ⟨u,h1,h2⟩:=n.own j t hj;exact⟨u,h1,h2.frame (a6.refl _) λ_ z=>by cases z⟩
   .exact a8.append (hr.frame c.ff λb f xs z=>a5 (λq=>n1 (by rw[<- q];exact f)) (c.hh _ _ z)) (a8.one (c1.frame (a6.refl _) λb f xs z=>a5 (λq=>Zh (by rw[<- q];exact f)) z))
   .refine AD.mpr ⟨λz=>?_,AY.mpr ⟨n2,c2,λx hx y hy z=>by subst z;exact ě x hx hy⟩⟩;rcases AB.mp z with z |z
    .exact n1 z
    .exact Zh z
   .rcases AB.mp f with z |z
    .obtain ⟨xs,qq,M⟩:=hr.rV b z;exact⟨(nw b z).1,c.no b _ (nw b z).2 qq M⟩
    .exact ⟨(e2.ext.hh.trans x3.hh).free (c3 b z).1,(c3 b z).2⟩
  .have ď:i=ds.length:=by lia
   subst ď;refine .inl ⟨j2,q _ _ F2 H2 (wd _ _ w2) (x1.trans e2.ext) ⟨L::B,⟨L,ys,B,rfl,rfl,l2,hr⟩,nd,λb f=>?_⟩⟩;rcases AJ.mp f with rfl |z
   .exact ⟨x1.hh.free hL,l1⟩
   .exact ⟨x1.hh.free (nw b z).1,(nw b z).2⟩
noncomputable def du (N:List Al)(ds:List D):cY:=ds.map (λd=>some (.own (.fz d)))++An (N.length-ds.length) none
theorem dQ {G:D->cY->(cY->Prop)->Prop}(hi:lu K w I)(hg:vA K g G)(h:ez K te Eo): ez K (pw w ix g te) (RB I ix G Eo):=λe c=>zD (TF:=λ_=>True) (λ_ _ _ z=>z) hi hg (λe c _=>h e c) e c trivial
theorem e_ (s:a6 F H)(h:bA K F ds vs): ER K F H F H (start N vs) (du N ds) (λ_=>[]):=by
 have hl:=h.length;refine⟨by simp[start,du,hl],cE.refl s,λi t hi=>?_,λi d hi=>?_,λ_=>CF,(λ_ _ _ _ h=>by cases h),(λ_ _ h=>by cases h)⟩
 .unfold du at hi;by_cases z:i<ds.length
  .rw [AW (by simpa using z),AH,Ad z]at hi;simp at hi
   subst hi;obtain⟨v,h1,h2⟩:=h.get (Ad z);refine⟨v,?_,rfl,h2⟩;unfold start;rw[AW (by simp;lia),AH,h1];rfl
  .rw [Bb (by simpa using z)]at hi;have:=Ai hi;rw[CG]at this;cases this.2
 .unfold du at hi;by_cases z:i<ds.length
  .rw [AW (by simpa using z),AH]at hi;simp at hi
  .rw [Bb (by simpa using z)]at hi;have:=Ai hi;rw[CG]at this;cases this.2
end
theorem cZ.of {P:AA}{w:AT}{K:Ap}{m:Al->Option Aa}{base:Heap}{x:Al}{st:AZ}{f:Ac}{fd:Ak}{N ps:List Al}{k n:Nat}{sp:dF}(M:bL K m x st f fd)(S:aQ N ps (aB st))
  (G:∀(kV O pm:Aa) (L:Option Ac) (c ct:Aa) (us:List Aa),us.length=ps.length->BP (DC x x (bS st) (a9 st) (aB st) .none kV O pm L c ct) ⟨us,[]⟩=pure (ps.zip us)) (hn:n=ps.length)
  (o:∀(c:Aa) (A:AU) (outer:List DU) (s:Af) (H:Hp) (E:XK),cC k (A.deeper (B_ x (aB st) s.heap.objs.size f c))->
   ∃t T,PSs (eH jh P w K m base N x (aB st) f c A outer s H E).kR (a9 st) t/\bY K t T/\∀ds a,sp ds a->T {nx:=λ_=>a (.fz .cB),rt:=a} (du N ds)):cg P w K m base x (k+1) ps (b7 K n sp):=
 cg.of M S G (λvs H Q E h=>by rw[<- hn];exact h.1) λc A outer s H vs Q E C h=>by
  obtain⟨_,F,ds,a,B,j,g,u⟩:=h;obtain⟨t,T,h1,h2,J⟩:=o c A outer s H E C;refine⟨t,h1,h2 F H F H (start N vs) (du N ds) {nx:=λ_=>a (.fz .cB),rt:=a} _ ⟨_,e_ B j⟩ ⟨λq l Y δ e p=>?_,λ_ _ _ _ _ z=>z.elim,λ_ _ _ _ _ z=>z.elim,λq l r v x n p=>u r v q l p x n⟩ (J ds a g)⟩;exact u _ _ q l p e.ext (.fz rfl)
section
variable {X:Cx}{K:Ap}
noncomputable def D.Æ:D->String
 | .int _ => "int"
 | .bl _ => "bool"
 | .cB => "NoneType"
 | .str _ => "str"
 | .ty _ => "type"
 | .fn _ => "function"
 | .tup _ => "tuple"
 | .lst _ => "list"
 | .Of => "dict"
 | .exc _ => "exception"
 | .obj _ _ _ => "object"
 | .oW _ _ _ _ => "function"
def Vb (K:Ap):List V->Hp->VK->Prop:=λxs H Q=>∃d v n b,xs=[v,.ty n]/\dY K H d v/\((∀m,d≠.ty m)/\(∀x,d≠.fn x)/\(∀x,d≠.exc x)/\(∀c ns ds,d≠.obj c ns ds)/\∀a b c e,d≠.oW a b c e)/\ID K (.type d.Æ) (.type n)=some b/\Q (.bl b) H
theorem fk:gC X (.builtin "isinstance") (Vb X.K):=by
 intro pins s Y H xs us Q I r h;obtain⟨d,x,n,b,rfl,f,⟨T,l,hex,A⟩,e,q⟩:=h;obtain⟨u,G,rfl,g,m⟩:=vM r;cases m;have fin:∀tk,EP X pins Y Q (.bool b) {s with toks:=tk}:=λtk=>⟨.bl b,H,I.tok tk,rfl,q⟩
 cases d with
 |int i=>cases f;exact km I g (kJ.int i) e fin
 |bl i=>cases f;exact km I g (kJ.bl i) e fin
 |cB=>cases f;exact km I g kJ.cB e fin
 |str i=>cases f;exact km I g (kJ.str i) e fin
 |ty i=>exact absurd rfl (T i)
 |fn i=>exact absurd rfl (l i)
 |tup ds=>
  obtain⟨a,vs,rfl,h1,h2⟩:=f
  cases (show u=Bk a from g)
  obtain⟨t,v,p,C⟩:=I.tuple h1;obtain⟨o,k,j,_⟩:=p;exact CP IC I.kE ⟨o,k,j⟩ e (λz=>nomatch z) fin
 |lst ds=>
  obtain⟨a,vs,rfl,h1,h2⟩:=f
  cases (show u=Bk a from g)
  obtain⟨t,v,p,C⟩:=I.list h1;obtain⟨o,k,j,_⟩:=p.isList;exact CP Hq I.kE ⟨o,k,j⟩ e (λz=>nomatch z) fin
 |Of=>
  obtain⟨a,rfl,h1⟩:=f
  cases (show u=Bk a from g)
  obtain⟨⟨o,k,j⟩,_,_⟩:=I.cN a _ h1;exact CP Hr I.kE ⟨o,k,j⟩ e (λz=>nomatch z) fin
 |exc c=>exact absurd rfl (hex c)
 |obj c ns ds=>exact absurd rfl (A.1 c ns ds)
 |oW k j B w=>exact absurd rfl (A.2 k j B w)
noncomputable def Q4 (d:D)(n:String):Bool:=match d with
 | .int _=>n == "int"
 | .bl _=>n == "bool" ||n == "int"
 | .str _=>n == "str"
 | .tup _=>n == "tuple"
 | .lst _=>n == "list"
 |_=>false
noncomputable def nV:List String:=["int","bool","str","tuple","list"]
structure bZ (K:Ap):Prop where
 all:∀d:D,((∀m,d≠.ty m)/\(∀x,d≠.fn x)/\(∀x,d≠.exc x)/\(∀c ns ds,d≠.obj c ns ds)/\∀a b c e,d≠.oW a b c e)->∀n∈nV,ID K (.type d.Æ) (.type n)=some (Q4 d n)
def Xl:List D->(D->Prop)->Prop:=λds P=>match ds with
 | [.ty _,.ty _]=>False
 | [.fn _,.ty _]=>False
 | [.exc _,.ty _]=>False
 | [.obj _ _ _,.ty _]=>False
 | [.oW _ _ _ _,.ty _]=>False
 | [d,.ty n]=>n∈nV/\P (.bl (Q4 d n))
 |_=>False
theorem lq (KT:bZ K): UK K (Vb K) Xl:=λF H ds vs P Q s rs w q=>by
 unfold Xl at w;split at w
 .exact w.elim
 .exact w.elim
 .exact w.elim
 .exact w.elim
 .exact w.elim
 .rename_i d n h1 l h2 k j;obtain⟨v,u,rfl,g,r⟩:=wq rs;have ht:∀m,d≠.ty m:=λm z=>h1 m z
  have hf:∀m,d≠.fn m:=λm z=>l m z
  have f:∀m,d≠.exc m:=λm z=>h2 m z
  have h:(∀c ns ds,d≠.obj c ns ds)/\∀a b c e,d≠.oW a b c e:=⟨λc ns ds z=>k c ns ds z,λa b c e z=>j a b c e z⟩
  exact⟨d,v,n,_,by rw[show u=_ from r],g,⟨ht,hf,f,h⟩,KT.all d ⟨ht,hf,f,h⟩ n w.1,q _ _ F H w.2 (cE.refl s) rfl⟩
 .exact w.elim
theorem YR {g:Int->Int->Int}: L' K (þ g) (WC λi j=>.int (g i j)):=λF H x y v u P Q s a r w q=>by
 obtain⟨i,j,rfl,rfl,p⟩:=Lh w;exact⟨i,j,a,r,q _ _ F H p (cE.refl s) rfl⟩
theorem zy {c:Type}{a:c}{xs:List c}:kI (a::xs) 0=some a:=dg rfl
theorem XS {c:Type}{a b:c}{xs:List c}:kI (a::b::xs) 1=some b:=dg rfl
theorem XR {e:Type}{a b c:e}{xs:List e}:kI (a::b::c::xs) 2=some c:=dg rfl
theorem XQ {e:Type}{a b c d:e}{xs:List e}:kI (a::b::c::d::xs) 3=some d:=dg rfl
theorem XO {f:Type}{a b c d e:f}{xs:List f}:kI (a::b::c::d::e::xs) 4=some e:=dg rfl
theorem mq {xs:List Int}{i:Int}(a:0<=i)(h:i<xs.length):kI (xs.map D.int) i=some (.int (xs.getD i.toNat 0)):=by
 have hi:i.toNat<xs.length:=by lia
 have e:=dg (xs:=xs.map D.int) (j:=i.toNat) (v:=.int (xs.getD i.toNat 0)) (by simp[hi])
 rwa[show ((i.toNat:Nat):Int)=i by lia]at e
theorem LP {ds:List D}:OV.vals (ds.map OV.fz)=ds:=by
 rw[OV.c4];simp[Bx,OV.val]
theorem mulL (h1 : -1000000<=i)(h2:i<=1000000): NV i j:=.inl ⟨by lia,by lia⟩
theorem mulR {i j:Int}(h1 : -1000000<=j)(h2:j<=1000000):NV i j:=.inr ⟨by lia,by lia⟩
theorem mX {c a:Type}{xs:List c}{f:c->a}{i:Nat}{d:a}(h:(xs.map f)[i]?=some d):∃x,xs[i]?=some x/\d=f x:=by
 rw[AH]at h
 cases q:xs[i]? with
 |none=>rw[q]at h;cases h
 |some x=>rw[q]at h;exact⟨x,rfl,(A6 h).symm⟩
theorem Sg {xs:List Int}:BA OV.val (xs.map λx=>OV.fz (D.int x))=xs.map D.int:=by
 rw[A9];rfl
theorem Ud {xs:List Int}{i:Int}(a:0<=i)(h:i<xs.length):(xs.map λx=>OV.fz (D.int x))[i.toNat]?=some (.fz (.int (xs.getD i.toNat 0))):=by
 have hi:i.toNat<xs.length:=by lia
 simp[hi]
theorem SI {xs:List Int}{i:Nat}{v:Int}:(xs.map λx=>OV.fz (D.int x)).set i (.fz (.int v))=(xs.set i v).map λx=>OV.fz (D.int x):=by
 rw[Jd]
theorem UC:(xs.map λx=>OV.fz (D.int x))++[.fz (.int v)]=(xs++[v]).map λx=>OV.fz (D.int x):=by
 rw[A_];rfl
theorem Xu {xs:List Int}:(xs.map D.int).map OV.fz=xs.map λx=>OV.fz (D.int x):=by
 rw[A9];rfl
theorem Xd:("int"∈nV)=True:=eq_true (by decide)
theorem T2:("bool"∈nV)=True:=eq_true (by decide)
theorem Q2:("tuple"∈nV)=True:=eq_true (by decide)
theorem T1:("list"∈nV)=True:=eq_true (by decide)
theorem YU:(J4 10<2^64)=True:=eq_true (by decide)
theorem gA.map {a:Type}{O:DO}{o:Option Sl}{cW:cY}{P:OV->Prop}(xs:List a)(g:a->D)(f:a->OV)(hn:xs.length<=1000000)
  (h:∀x∈xs,∀Q:OV->Prop,Q (f x)->O (some (.own (.fz (g x)))::cW) Q) (k:P (.nl (xs.map f))):gA (gN 0) O (xs.map g) (o::cW) P:=by
 refine⟨λi δ ts=>∃o,δ=o::cW/\ts=(xs.take i).map f,⟨o,rfl,rfl⟩,?_,?_⟩
 .rintro i d δ ts hd ⟨o,rfl,rfl⟩;obtain⟨x,c,rfl⟩:=mX hd;obtain⟨hi,e⟩:=Ab.mp c;refine⟨by rw[Au,BD];lia,h x (Ai c) _ ⟨_,rfl,?_⟩⟩;rw[AO hi,e,A_];rfl
 .rintro δ ts ⟨o,rfl,rfl⟩;rw[Au,BC];exact k
theorem gA.vF {O:DO}{o:Option Sl}{cW:cY}{P:OV->Prop}{lo c:Int}{n:Nat}(f:Nat->OV)(hn:n<=1000000)
  (h:∀i,i<n->∀Q:OV->Prop,Q (f i)->O (some (.own (.fz (.int (lo+i*c))))::cW) Q) (k:P (.nl ((AE n).map f))):gA (gN 0) O (vF lo c n) (o::cW) P:=
 gA.map (AE n) _ f (by simpa using hn) (λi hi Q q=>h i (BK.mp hi) Q q) k
theorem Pb (h:∀N:cY->Prop,(∀a,U e a->N a)->T {e with nx:=N} δ): Pc T U e δ:=h _ λ_ z=>z
end
end L2
namespace PySem
open AutoSeq1
noncomputable abbrev tj (T:String)(o:Option Ac)(xs:Array Aa)(k:Nat)(l:Array (Option Aa)):B5:={cls:=.type T,dict:=o,data:=.seq xs k,slots:=l}
theorem qH (l b:Ac)(xs ys:Array Aa)(k m:Nat)(o:Option Ac)(L:Array (Option Aa))(c:¬(!xs.isEmpty && BX (xs.size+ys.size))=true)(h1:xs.size<=AM)(h2:xs.size+ys.size<=AM+1):
  Kx (Ch.«list.extend» ⟨[.ref l,.ref b],[]⟩) (λ_ R s=>s.heap.get? l=some (tj "list" none xs k #[])/\s.heap.get? b=some (tj "list" o ys m L)/\R (.ok (.ret .none)) {s with heap:=s.heap.update l (Cn (·++ys)),toks:=s.toks}):=by
 refine .of_wp λprog w A R s h=>?_
 obtain⟨e,a,fin⟩:=h;have room:(xs++ys).size<=AM+1:=by
  rw[Gy];exact h2
 wp_walk using (Fj e rfl (_hz':=room)),wpAny_loadPart' e,wpAny_loadPart' a
 exact⟨_,rfl,fin⟩
theorem ot (l b:Ac)(xs ys:Array Aa)(k m:Nat)(o:Option Ac)(L:Array (Option Aa))(c:¬(!xs.isEmpty && BX (xs.size+ys.size))=true)(h1:xs.size<=AM)(h2:xs.size+ys.size<=AM+1):
  Kx (Ch.«list.extend» ⟨[.ref l,.ref b],[]⟩) (λ_ R s=>s.heap.get? l=some (tj "list" none xs k #[])/\s.heap.get? b=some (tj "tuple" o ys m L)/\R (.ok (.ret .none)) {s with heap:=s.heap.update l (Cn (·++ys)),toks:=s.toks}):=by
 refine .of_wp λprog w A R s h=>?_
 obtain⟨e,a,fin⟩:=h;have room:(xs++ys).size<=AM+1:=by
  rw[Gy];exact h2
 wp_walk using (Fj e rfl (_hz':=room)),wpAny_loadPart' e,wpAny_loadPart' a
 exact⟨_,rfl,fin⟩
theorem wX (l b:Ac)(xs ys:Array Aa)(k m:Nat)(O o:Option Ac)(L M:Array (Option Aa))(f:xs.size+ys.size<=AM):
  Kx (Ch.«list.__add__» ⟨[.ref l,.ref b],[]⟩) (λ_ R s=>s.heap.get? l=some (tj "list" O xs k L)/\s.heap.get? b=some (tj "list" o ys m M)/\R (.ok (.ret (.ref s.heap.objs.size))) {s with heap:=s.heap.push {cls:=.type "list",data:=.seq (xs++ys)},toks:=s.toks}):=by
 refine .of_wp λprog w A R s h=>?_
 obtain⟨a,e,fin⟩:=h;have c:=sub_list_list
 wp_walk using wpAny_loadPart' a,wpAny_loadPart' e
 exact⟨_,rfl,fin⟩
end PySem
namespace L2
open PySem PySem.Spec PyProof.Rows
section
variable {X:Cx}{K:Ap}
def wy (K:Ap):V->List V->Hp->VK->Prop:=λx vs H Q=>∃l b xs z,x = .ref l/\vs=[.ref b]/\H l=some (.lst xs)/\(eE K H b z∨ky K H b z)/\xs.length+z.length<=AM/\Q .cB (cP H l (.lst (xs++z)))
theorem qy:ZW X "list.extend" (wy X.K):=by
 intro pins s Y H x vs v us Q I C G h;obtain⟨l,b,xs,f,rfl,rfl,w,B,M,q⟩:=h;cases C;obtain⟨u,rfl,U⟩:=G.one;cases U;obtain⟨z,t,n,r,hl,e⟩:=I.Nt w;have room:∀ys:List Aa,ys.length=f.length->t.toArray.size+ys.toArray.size<=AM:=λys a=>by rw[Ay,Ay];lia
 have fits:∀ys:List Aa,ys.length=f.length->¬ (!t.toArray.isEmpty && BX (t.toArray.size+ys.toArray.size))=true:=λys a=>by
  rw[wO (room ys a),Bool.and_false];exact AL
 have fin:∀ys:List Aa,bH f ys->EP X pins Y Q .none {s with heap:=s.heap.update l (Cn (·++ys.toArray)),toks:=s.toks}:=λys c=>
  ⟨.cB,_,I.QS (its':=t++ys) w e (by simp) (r.append c) (by rw[AF];omega),rfl,q⟩
 rcases B with B |B
 .obtain ⟨ys,c,⟨o,m,p,k,L,j⟩,_⟩:=I.list B;obtain⟨J,g,A,O⟩:=o;subst k j;have a:=c.length;exact DI F.slot_list_extend ⟨_,e,rfl⟩ F.entry_list_extend (F.args_list_extend_2 _ _) (qH l b t.toArray ys.toArray n m g O (fits ys a.symm) (by rw[Ay];lia) (by have:=room ys a.symm;lia)) ⟨e,p,fin ys c⟩
 .obtain ⟨ys,c,⟨o,p,k,m,j⟩,_⟩:=I.tuple B;obtain⟨J,g,A,O⟩:=o;subst k j;have a:=c.length;exact DI F.slot_list_extend ⟨_,e,rfl⟩ F.entry_list_extend (F.args_list_extend_2 _ _) (ot l b t.toArray ys.toArray n m g O (fits ys a.symm) (by rw[Ay];lia) (by have:=room ys a.symm;lia)) ⟨e,p,fin ys c⟩
def Vd (K:Ap):R2:=λx y H Q=>∃l b xs z,x = .ref l/\y = .ref b/\eE K H l xs/\eE K H b z/\xs.length+z.length<=AM/\∀p a,H p=none->a6 H a->a p=some (.lst (xs++z))->Q (.ref p) a
theorem Tj:ly X (Cy .Add) (Vd X.K):=by
 intro pins s Y H x y v u Q I g f h;obtain⟨l,b,xs,zs,rfl,rfl,M,L,hz,q⟩:=h;cases g;cases f;obtain⟨T,r,⟨o,n,e,C,o2,B⟩,_⟩:=I.list M;obtain⟨t,a,⟨G,J,c,m,p2,k⟩,_⟩:=I.list L;obtain⟨oc,z,w,O⟩:=o;obtain⟨pc,j,A,p⟩:=G;subst C B m k;have l1:=r.length;have l2:=a.length;refine PySem.concat_meets ⟨_,e,rfl⟩ ⟨_,c,rfl⟩ PySem.noFill_list_add PySem.seq_list_add F.slot_list_add F.entry_list_add (F.args_list_add_2 _ _) (wX l b T.toArray t.toArray n J z j O p (by rw[Ay,Ay];lia)) ⟨e,c,?_⟩;have U:T.toArray++t.toArray=(T++t).toArray:=by simp
 rw[U];exact⟨.ref _,_,I.W7 (t':=s.toks) (r.append a) (by rw[AF];omega),rfl,q _ _ I.fresh (a6.new I.fresh) a0⟩
def Ş (a B:DE):DO:=λδ P=>a δ λx=>B δ λy=>match x,y with
 | .lst xs,.lst ys=>xs.length+ys.length<=1000000/\P (.nl ((xs++ys).map .fz))
 |_,_=>False
noncomputable def Ť (K:Ap)(a:Ac)(n:Nat):It:=
 ⟨λi H=>∃xs x,eE K H a xs/\xs.length=n/\i<n/\xs[n-1-i]?=some x,λi H x c=>c=H/\∀xs,eE K H a xs->xs[n-1-i]?=some x,λi _=>n<=i⟩
theorem Mg (a it:Ac)(n:Nat): sf P w K tg (Ť K a n) [it] it (λi h=>i<=n/\h.IsRevIter it a ((n:Int)-1-(i:Nat))) where
 mem:=by simp
 obj:=λi h st b hb=>by
  have e:b=it:=by simpa using hb
  subst e;obtain⟨_,o,ho,_,hd⟩:=st;exact⟨o,ho,λv z=>by rw[hd]at z;cases z⟩
 keep:=λi h h' st k=>⟨st.1,st.2.at λo e=>k it (by simp) o e⟩
 item:=by
  kj_on
  obtain⟨xs,x,hq,hn,hi,hx⟩:=hg;obtain⟨Vk,rv,p,hz⟩:=I.list hq;obtain⟨u,hu,ru⟩:=rv.get hx;obtain⟨f0,f1,f2,f3,f4,f5⟩:=hf it (by simp);have ue:s.heap.IsRevIter it a (((n-1-i:Nat)):Int):=by
   have e:(((n-1-i:Nat)):Int)=(n:Int)-1-(i:Nat):=by lia
   rw[e];exact st.2
  refine PySem.wpAny_pyNext_rev_item ue p.isList (by simpa using hu) λh' uf sb=>?_
  have I1:bC X pins Y H {s with heap:=h',toks:=s.toks}:=I.turned (t':=s.toks) (λb o hb e=>(sb.2 b hb).trans e) f0 f1 f3 f4 f5;have zY:h'.IsRevIter it a ((n:Int)-1-((i+1:Nat):Int)):=by
   have e:(n:Int)-1-((i+1:Nat):Int)=(((n-1-i:Nat)):Int)-1:=by lia
   rw[e];exact uf
  obtain⟨o,ho,Oe,R_⟩:=id zY;exact⟨u,rfl,nW (s:={s with heap:=h',toks:=s.toks}) (n := "list_reverseiterator") ho Oe R_ rfl ⟨x,H,I1,ru,⟨rfl,λys hy=>by rw[I.w6 hy hq];exact hx⟩,⟨by lia,zY⟩,λb hb=>(hf b hb).1⟩⟩
 done:=by
  intro X hP hw hK hc i pins s Y H E I hf st hg;obtain⟨f0,f1,f2,f3,f4,f5⟩:=hf it (by simp);have ue:s.heap.IsRevIter it a (-1):=by
   have h2:n<=i:=hg;have e:(-1:Int)=(n:Int)-1-(i:Nat):=by lia
   rw[e];exact st.2
  exact PySem.wpAny_pyNext_rev_end (I.ok.hd hc) ue λh' eb=>⟨rfl,I.turned (t':=s.toks) (λb o hb e=>eb b o hb e) f0 f1 f3 f4 f5⟩
 self:=λ_ _ _ _ _ st h=>PySem.wpAny_pyIter_revIter st.2 h
def Vq (K:Ap)(t:TA):TI:=λY H R=>t Y H λvs c=>∃a xs,vs=[.ref a]/\eE K c a xs/\R (Ť K a xs.length) c
theorem uO (hg:Gl X "reversed")(M:X.mg "reversed"=none)(A:PA X [l] T)(k:Av [l] X.env=[(false,eval l X.env)]:=by rfl): PI X G (.Call (.Name "reversed" p) [l] [] pos) (Vq X.K T):=by
 intro pins s Y H R I h;refine GX (fG I hg M Du (A7 (cy (A pos pins s Y H _ I h) λus c ⟨vs,n,f,j,Q⟩=>?_) k rfl));obtain⟨a,xs,e,m,q⟩:=Q;subst e;obtain⟨u,rfl,U⟩:=jo j;cases U;obtain⟨t,r,pt,z⟩:=f.list m;have hl:=r.length;refine PySem.call_reversed_list pt.isList ?_;have g:(c.heap.push (KL a ((t.toArray.size:Int)-1))).IsRevIter c.heap.objs.size a ((xs.length:Int)-1-((0:Nat):Int)):=by
  have e:(xs.length:Int)-1-((0:Nat):Int)=(t.toArray.size:Int)-1:=by rw[Ay];lia
  rw[e];exact⟨_,Aq _ rfl,rfl,rfl⟩
 refine PySem.wpAny_pyIter_revIter g ?_;refine⟨c.heap.objs.size,[c.heap.objs.size],_,_,n,rfl,f.kept (t':=c.toks) λb o e=>Ag _ e,Mg a _ xs.length,⟨Br _,g⟩,λb B=>?_,q⟩;have e:b=c.heap.objs.size:=by simpa using B
 subst e;exact f.ow (Ah _) (f.cN.fresh (Ah _))
def VF (A:DA):DA:=λδ P=>A δ λds=>match ds with
 | [.lst xs]=>P xs.reverse
 |_=>False
theorem SX (h:ei K a A): lu K (Vq K a) (VF A):=λm j F H Y δ P R e w q=>h m j F H Y δ _ _ e w λds vs n k p x r=>by
 split at p
 .obtain ⟨v,rfl,a,us,rfl,h1,h2⟩:=gJ r;have hl:=h2.length;refine⟨a,us,rfl,x.fh.seq h1,q _ _ n k p x λl t f c=>?_⟩;have Q:=(f.trans c).seq h1;rw[BQ];refine⟨λi hi=>⟨us,us[us.length-1-i]'(by omega),Q,rfl,by lia,Ad (by omega)⟩,by show us.length<=_;lia,λi x o hi y=>?_⟩;obtain⟨rfl,y⟩:=y;obtain⟨d,hd,g⟩:=h2.get' (y us Q);refine⟨d,l,?_,cE.refl c,g.mono f⟩;rw[B4 hi,hl];exact hd
 .exact p.elim
theorem ER.eh {A:Nat->List Ac}(e:ER K L G F H Y δ A)(i:Nat)(hi:δ[i]?=some (some (.own t))): ∃M,cx K L G M H Y (δ.set i (some (.own (.fz t.val)))):=by
 obtain⟨v,r,w⟩:=e.own i t hi;have l:=(Ab.mp hi).1;have m:a6 F λa=>if a∈A i then H a else F a:=λb o z=>by
  have B:b∉A i:=λy=>by rw[(e.new i b y).1]at z;cases z
  dsimp only;rw[if_neg B];exact z
 refine⟨λa=>if a∈A i then H a else F a,λj=>if j=i then [] else A j,by simp[e.len],⟨e.ext.ff.trans m,e.ext.hh,λb o z=>?_,λb o n f g=>?_⟩,λj u h=>?_,λj d h=>?_,λj=>?_,λj k a J h1 h2=>?_,λj a c=>?_⟩
 .split at z
  .exact z
  .exact e.ext.fh _ _ z
 .have B:b∉A i:=λy=>by rw[(e.new i b y).2.1]at f;cases f
  rw[if_neg B];exact e.ext.no b o n f g
 .by_cases z:j=i
  .subst z;rw[if_pos rfl];rw[Ax l]at h;cases h;exact⟨v,r,rfl,w.rep m λa c xs q=>by rw[if_pos c];exact q⟩
  .rw [if_neg z];rw[AK (Be z)]at h;obtain⟨p,h1,h2⟩:=e.own j u h;exact⟨p,h1,h2.frame m λa _ xs q=>q⟩
 .by_cases z:j=i
  .subst z;rw[Ax l]at h;cases h
  .rw [AK (Be z)]at h;exact e.bw j d h
 .split
  .exact CF
  .exact e.ji j
 .split at h1
  .cases h1
  .split at h2
   .cases h2
   .exact e.ko j k a J h1 h2
 .split at c
  .cases c
  .rename_i z;obtain⟨h1,h2,C⟩:=e.new j a c;refine⟨?_,h2,C⟩;rw[if_neg λy=>e.ko j i a z c y];exact h1
def Wq (i:Nat)(T:DS):DS:=λe δ=>match δ[i]? with
 |some (some (.own t))=>T e (δ.set i (some (.own (.fz t.val))))
 |_=>False
theorem Pe (i:Nat)(h:bY K t T): bY K t (Wq i T):=λc a F H Y δ g n ⟨A,e⟩ l w=>by
 unfold Wq at w;split at w
 .rename_i u U;obtain⟨f,e'⟩:=e.eh i U;exact h c a f H Y _ g n e' l w
 .exact w.elim
def PM (i:Nat)(a:DE)(E:DO):DS:=λe δ=>match δ[i]? with
 |some (some (.own (.nl ts)))=>a δ λk=>match k with
  | .int k=>0<=k/\∃us,ts[k.toNat]?=some (.nl us)/\us.length<1000000/\E δ λr=>e.nx (δ.set i (some (.own (.nl (ts.set k.toNat (.nl (us++[r])))))))
  |_=>False
 |_=>False
theorem fu {a:Type}{xs:List a}{i:Nat}{v:a}(h:xs[i]?=some v):xs.set i v=xs:=by
 obtain⟨hi,e⟩:=Ab.mp h;rw[<- e];exact List.set_getElem_self hi
theorem SR {i:Nat}{ti te:TE}{Ei:DE}{Eo:DO}(hi:dN K ti Ei)(h:ez K te Eo):bY K (jr (UW K "list" oO (OC (S8 K) (dt i) ti) (da te gS))) (PM i Ei Eo):=λF0 H0 F H Y δ De En e l w=>by
 obtain⟨A,e⟩:=e;unfold PM at w;split at w
 .rename_i ts hs;obtain⟨v,hv,a,vs,B,rfl,eA,ha,hB⟩:=e.own i _ hs;refine⟨_,hv,?_⟩;refine hi F0 H0 F H Y δ _ _ ⟨A,e⟩ w λk kv F1 H1 p x1 r1=>?_
  split at p
  .rename_i k;obtain⟨k0,us,hk,ā,p⟩:=p;have e1:=e.on x1;have X_:=x1.hh _ _ ha;have hB1:a8 K F1 H1 ts vs B:=hB.frame x1.ff λb _ xs z=>x1.hh _ _ z
   obtain⟨v0,A1,B0,A2,f1,rfl,f3,f4⟩:=hB1.focus hk;obtain⟨c,ws,B1,rfl,rfl,hc,Q⟩:=f3;have ġ:kI vs k=some (.ref c):=by
    have:=dg f1
    rwa[show ((k.toNat:Nat):Int)=k by lia]at this
   refine⟨a,vs,k,.ref c,rfl,r1,eE.of X_,ġ,.inl ⟨rfl,_,eE.of hc⟩,?_⟩;refine h F0 H0 F1 H1 Y δ _ _ ⟨A,e1⟩ p λr u F2 H2 p2 t n=>?_
   obtain⟨C,c1,c2,c3⟩:=n;have e2:=e1.on t;have hl:=Q.length;refine⟨c,ws,u,rfl,rfl,t.hh _ _ hc,sv (by lia),?_⟩;have G:=e.ji i;rw[eA]at G;have hA:A i=a::(A1++(c::B1++A2)):=eA;obtain⟨L,n2⟩:=AD.mp G;obtain⟨m1,m2,M⟩:=AY.mp n2;obtain⟨q1,q2,q3⟩:=AY.mp m2;obtain⟨s1,s2⟩:=AD.mp q1;have J:∀j b,b∈C->b∉A j:=λj b f z=>by
    obtain⟨_,_,xs,q,_⟩:=e1.new j b z;rw[(c3 b f).1]at q;cases q
   have U:c∈A i:=by rw[hA];simp
   have ė:a≠c:=λz=>L (by rw[z];simp)
   have T:c∉C:=λz=>J i c z U
   have off:∀b∈A1++A2,b≠c:=λb f z=>by
    subst z;rcases AB.mp f with y |y
    .exact M b y b (by simp) rfl
    .exact q3 b (by simp) b y rfl
   have O:∀b,b∈a::(A1++(c::(B1++C)++A2))->b∈A i∨b∈C:=λb f=>by
    rw[hA];simp only[AJ,AB,CM]at f ⊢;rcases f with z |z |z | (z |z) |z<;>simp[z]
   have Õ:=f4 F2 (cP H2 c (.lst (ws++[u]))) (.nl (us++[r])) (.ref c) (c::(B1++C)) t.ff (λb f xs z=>a5 (off b f) (t.hh _ _ z))
    ⟨c,ws++[u],B1++C,rfl,rfl,a0,a8.append (Q.frame t.ff λb f xs z=>a5 (λy=>s1 (by rw[<- y];exact f)) (t.hh _ _ z)) (a8.one (c1.frame (a6.refl _) λb f xs z=>a5 (λy=>T (by rw[<- y];exact f)) z))⟩
   rw[fu f1]at Õ;refine l.nx F2 _ Y _ (e2.change i hv (t':=.nl (ts.set k.toNat (.nl (us++[r])))) (B:=a::(A1++(c::(B1++C)++A2))) ⟨a,vs,_,rfl,rfl,a5 ė (t.hh _ _ X_),Õ⟩ ?_ ?_ ?_ ?_) p2
   .have dC:∀x∈C,∀y∈A i,x≠y:=λx m y g z=>J i x m (by rw[z];exact g)
    rw[hA]at dC;simp only[CM,AD,AY,AJ,AB,not_or]at G L n2 m1 m2 M q1 q2 q3 s1 s2 ⊢;refine⟨⟨L.1,L.2.1,⟨L.2.2.1,λz=>dC a z a (by simp) rfl⟩,L.2.2.2⟩,m1,⟨⟨⟨s1,T⟩,λz=>?_⟩,⟨s2,c2,λx m y g z=>dC y g x (by simp[m]) z.symm⟩,q2,λx m y g z=>?_⟩,λx m y g z=>?_⟩
    .exact q3 c (by simp) c z rfl
    .rcases m with m |m
     .exact q3 x (by simp[m]) y g z
     .exact dC x m y (by simp[g]) z
    .rcases g with g | (g |g) |g
     .exact M x m y (by simp[g]) z
     .exact M x m y (by simp[g]) z
     .exact dC y g x (by simp[m]) z.symm
     .exact M x m y (by simp[g]) z
   .intro b f;rcases O b f with z |z
    .exact ⟨(e2.new i b z).1,(e2.new i b z).2.1⟩
    .exact ⟨(c3 b z).2,e1.ext.hh.free (c3 b z).1⟩
   .intro j hj b f z;rcases O b f with y |y
    .exact e.ko j i b hj z y
    .exact J j b y z
   .intro b o f q;exact a5 (λz=>f (by rw[z];exact U)) q
  .exact p.elim
 .exact w.elim
def Wt (i:Nat)(E:DE):DS:=λe δ=>match δ[i]? with
 |some (some (.own (.nl ts)))=>E δ λd=>match d with
  | .lst ds=>ts.length+ds.length<=1000000/\e.nx (δ.set i (some (.own (.nl (ts++ds.map .fz)))))
  | .tup ds=>ts.length+ds.length<=1000000/\e.nx (δ.set i (some (.own (.nl (ts++ds.map .fz)))))
  |_=>False
 |_=>False
theorem Pg (h:cO K T E): bY K (jr (UW K "list" (wy K) (dt i) (da T gS))) (Wt i E):=λF0 H0 F H Y δ De En e l w=>by
 obtain⟨A,e⟩:=e;unfold Wt at w;split at w
 .rename_i ts hs;obtain⟨v,L,a,vs,B,rfl,k,r,M⟩:=e.own i _ hs;refine⟨_,L,.inl ⟨rfl,_,eE.of r⟩,?_⟩;refine h F0 H0 F H Y δ _ _ ⟨A,e⟩ w λd u G O p g J=>?_
  have C:=e.on g;have hl:=M.length;have t:a8 K G O ts vs B:=M.frame g.ff λb _ xs z=>g.hh _ _ z
  have n:=e.ji i;rw[k]at n;obtain⟨U,n2⟩:=AD.mp n;have fin:∀(ds:List D) (us:List V),bA K G ds us->De.nx (δ.set i (some (.own (.nl (ts++ds.map .fz)))))->En.nx Y (cP O a (.lst (vs++us))):=λds us hu p=>by
   refine l.nx G _ Y _ (C.change i L (t':=.nl (ts++ds.map .fz)) (B:=a::(B++[])) ⟨a,vs++us,B++[],rfl,rfl,a0,?_⟩ ?_ ?_ ?_ ?_) p
   .exact a8.append (t.frame (a6.refl _) λb f xs z=>a5 (λq=>U (by rw[<- q];exact f)) z) (a8.Ó hu)
   .rw [Bj];exact n
   .intro b f;rw[Bj,<- k]at f;exact⟨(C.new i b f).1,(C.new i b f).2.1⟩
   .intro j hj b f z;rw[Bj,<- k]at f;exact e.ko j i b hj z f
   .intro b o f q;exact a5 (λz=>f (by rw[k,z];exact Az)) q
  split at p
  .obtain ⟨c,us,rfl,m,Q⟩:=J;have:=Q.length;exact⟨a,c,vs,us,rfl,rfl,g.hh _ _ r,.inl (g.fh.seq m),eI (by lia),fin _ us Q p.2⟩
  .obtain ⟨c,us,rfl,m,Q⟩:=J;have:=Q.length;exact⟨a,c,vs,us,rfl,rfl,g.hh _ _ r,.inr (g.fh.lK m),eI (by lia),fin _ us Q p.2⟩
  .exact p.elim
 .exact w.elim
end
mutual
noncomputable def D.eqb:D->D->Bool
 | .int i,.int j=>decide (i=j)
 | .str x,.str y=>decide (x=y)
 | .cB,.cB=>true
 | .bl a,.bl b=>a==b
 | .bl a,.int j=>decide ((if a then 1 else 0)=j)
 | .int i,.bl b=>decide (i=if b then 1 else 0)
 | .tup xs,.tup ys=>D.Xy xs ys
 | .lst xs,.lst ys=>D.Xy xs ys
 |_,_=>false
noncomputable def D.Xy:List D->List D->Bool
 | [],[]=>true
 |x::xs,y::ys=>D.eqb x y && D.Xy xs ys
 |_,_=>false
end
def XW:List D->(D->Prop)->Prop:=λds P=>match ds with
 | [.lst xs]=>∃bs:List Bool,xs=bs.map D.bl/\P (.bl (bs.all id))
 |_=>False
def QP:List D->(D->Prop)->Prop:=λds P=>match ds with
 | [.lst xs]=>∃ns:List Int,xs=ns.map D.int/\0<ns.length/\∀M:Int,M∈ns->(∀a∈ns,a<=M)->P (.int M)
 |_=>False
def Rw (E:DE):DT:=λδ P=>E δ λd=>match d with
 | .bl b=>P b
 | .int i=>P (decide (i≠0))
 | .lst xs=>P (!xs.isEmpty)
 | .tup xs=>P (!xs.isEmpty)
 | .cB=>P false
 |_=>False
def U0 (i:Nat)(a M E:DE):DS:=λe δ=>E δ λd=>match δ[i]? with
 |some (some (.own (.nl ts)))=>a δ λk=>match k with
  | .int k=>∃j us,qL ts.length k=some j/\ts[j]?=some (.nl us)/\M δ λm=>match m with
   | .int m=>∃l,qL us.length m=some l/\e.nx (δ.set i (some (.own (.nl (ts.set j (.nl (us.set l (.fz d))))))))
   |_=>False
  |_=>False
 |_=>False
noncomputable def lE {a:Type}(xs:List a)(c:Int):List a:=(Db 0 xs.length c).filterMap (xs[·]?)
def VB (a C:DE):DO:=λδ P=>a δ λx=>C δ λc=>match x,c with
 | .lst xs,.int c=>0<c/\P (.nl ((lE xs c).map .fz))
 |_,_=>False
section
variable {K:Ap}{X:Cx}
end
structure b9 (mg:Al->Option Aa):Prop extends Blt mg where
 abs:mg "abs"=none
 any:mg "any"=none
 sum:mg "sum"=none
 sorted:mg "sorted"=none
 set:mg "set"=none
 enumerate:mg "enumerate"=none
 dict:mg "dict"=none
 str:mg "str"=none
 divmod:mg "divmod"=none
 ord:mg "ord"=none
abbrev Þ:=List (Al×dF)
def zk (i n:Nat)(tb:Þ)(A:DA):DO:=λδ P=>match δ[i]? with
 |some (some (.own (.fz (.fn x))))=>∃sp,(x,sp)∈tb/\A δ λds=>ds.length=n/\sp ds P
 |_=>False
def vn (i n:Nat)(tb:Þ)(A:DA):DO:=λδ P=>match δ[i]? with
 |some (some (.own (.fz (.fn x))))=>∃sp,(x,sp)∈tb/\A δ λds=>ds.length=n/\sp ds λr=>r.lf=true/\P r
 |_=>False
abbrev Z0:=List OV->List D->(List OV->Prop)->Prop
def uF (i n:Nat)(sp:Z0)(A:DA):DS:=λe δ=>match δ[i]? with
 |some (some (.own (.nl ts)))=>A δ λds=>ds.length+1=n/\sp ts ds λt=>e.nx (δ.set i (some (.own (.nl t))))
 |_=>False
noncomputable def iv (N:List Al)(a:Ac)(ts:List OV)(ds:List D):cY:=some (.own (.rt a ts))::(ds.map (λd=>some (.own (.fz d)))++An (N.length-(ds.length+1)) none)
def Wf (i:Nat)(T:DS):DS:=λe δ=>match δ[i]? with
 |some (some (.own (.rt a ts)))=>T {e with nx:=λc=>match c[i]? with
   |some (some (.own (.nl t)))=>e.nx (c.set i (some (.own (.rt a t))))
   |_=>False} (δ.set i (some (.own (.nl ts))))
 |_=>False
def gB (i:Nat):D->cY->(cY->Prop)->Prop:=λd δ P=>P (δ.set i (some (.bw d)))
def RA (l:DE)(ix:List (Option Nat))(o:DO):DO:=λδ P=>l δ λd=>match d with
 | .lst ds=>gA (gB 0) o ds (zx ix δ) P
 |_=>False
section
variable {K:Ap}{X:Cx}{mg:Al->Option Aa}
def kK (K:Ap)(mg:Al->Option Aa)(x:Al):Prop:=∃f,C4 K Am x=some (some (.ref f))/\mg x=some (.ref f)
def ĵ (K:Ap)(x:Al):TE:=λY H Q=>∃f,C4 K Am x=some (some (.ref f))/\Q (.ref f) H
theorem Qe (hg:Gl X x)(h:kK X.K X.mg x)(hd:(x==("__debug__":Al))=false:=by decide): PE X (.Name x pos) (ĵ X.K x):=by
 intro pins s Y H Q I ⟨f,e,q⟩;obtain⟨g,a,c⟩:=h;rw[e]at a;cases a;exact lT (v:=.ref f) hg c rfl hd pins s Y H Q I q
theorem Px (h:kK K mg x): cO K (ĵ K x) (dC (.fn x)):=λg c F H Y δ P Q e w q=>by
 obtain⟨f,a,_⟩:=h;exact⟨f,a,q _ _ F H w (cE.refl e.ext.fh) ⟨f,rfl,a⟩⟩
def xY (mg:Al->Option Aa)(i:Nat)(tb:List (Al×Sp))(t:TA):TE:=λY H Q=>∃x sp f,(x,sp)∈tb/\mg x=some (.ref f)/\Y[i]?=some (some (.ref f))/\t Y H λvs a=>sp vs a Q E0
theorem Lm (hn:PE X (.Name y p) (dt i))(C:∀x sp,(x,sp)∈tb->∃ps,cg X.prog X.w X.K X.mg X.base x k ps sp)(G:cC k X.A)(T:PA X (e::a) t)
  (L:Av (e::a) X.env=(false,eval e X.env)::Av a X.env:=by rfl) (l:(BY pos (Av a X.env)).any (·.1)=false:=by rfl):
  PE X (.Call (.Name y p) (e::a) [] pos) (xY X.mg i tb t):=by
 intro pins s Y H Q I ⟨x,sp,f,M,g,B,h⟩;obtain⟨ps,⟨f',fd,F,m,J,O⟩⟩:=C x sp M;rw[g]at m;cases m;refine BE (cy (hn pins s Y H (λv c=>v = .ref f/\c=H) I ⟨_,B,rfl,rfl⟩) λu o ⟨v,c,n,z,e1,U⟩=>?_);subst e1 U;cases z;refine Fa n.ok.mod.Xe J (cy (T pos pins o Y c _ n h) λus s2 ⟨vs,H2,j,r,q⟩=>⟨j.kE,?_⟩) L l;exact uG F G O .nil wF j r (by rw[Bj];exact q)
theorem cg.mono (C:cg P w K mg base x j ps sp)(h:j<=k): cg P w K mg base x k ps sp:=by
 obtain⟨f,fd,F,a,b,c⟩:=C.ex;exact⟨f,fd,F.mono h,a,b,c⟩
noncomputable def ã (K:Ap)(n:Nat)(tb:Þ):List (Al×Sp):=tb.map λp=>(p.1,b7 K n p.2)
theorem zS (h:∀p∈tb,∃ps,cg P w K mg base p.1 k ps (b7 K n p.2)): ∀x sp,(x,sp)∈ã K n tb->∃ps,cg P w K mg base x k ps sp:=λx sp m=>by
 obtain⟨p,a,e⟩:=Bf.mp m;cases e;exact h p a
theorem Pn (hN:∀p∈tb,kK K mg p.1)(z:ei K a M): ez K (xY mg i (ã K n tb) a) (zk i n tb M):=λJ B F H Y δ P Q e w q=>by
 unfold zk at w;split at w
 .rename_i x t;obtain⟨A,e⟩:=e;obtain⟨v,u,_,f,rfl,hf⟩:=e.own i _ t;obtain⟨sp,m,w⟩:=w;obtain⟨O,j,o⟩:=hN _ m;rw[hf]at j;cases j;refine⟨x,b7 K n sp,f,Bf.mpr ⟨_,m,rfl⟩,o,u,?_⟩;refine z J B F H Y δ _ _ ⟨A,e⟩ w λds vs G T g c h=>?_
  exact⟨by rw[<- h.length];exact g.1,G,ds,P,c.fh,h,g.2,λr v L C p k l=>q r v L C p (c.trans k) (l.old c.hh)⟩
 .exact w.elim
theorem MZ (hN:∀p∈tb,kK K mg p.1)(ha:ka K a As): ez K (xY mg i (ã K n tb) a) (vn i n tb As):=λF0 H0 F H Y δ P Q e w q=>by
 unfold vn at w;split at w
 .rename_i x T;obtain⟨A,e⟩:=e;obtain⟨v,U,_,f,rfl,hf⟩:=e.own i _ T;obtain⟨sp,M,w⟩:=w;obtain⟨f',m,O⟩:=hN _ M;rw[hf]at m;cases m;refine⟨x,b7 K n sp,f,Bf.mpr ⟨_,M,rfl⟩,O,U,?_⟩;refine ha F0 H0 F H Y δ _ _ ⟨A,e⟩ w λds vs u H1 j h l=>?_
  refine⟨by rw[<- l.length];exact j.1,H1,ds,_,a6.refl _,l,j.2,λr v z H' p g L=>?_⟩;have k:a6 u z:=h.fh.trans g.ff;have c:=fv k;obtain⟨A,a1,a2,t⟩:=L;refine q r v (ll u z) H' p.2 (h.trans ⟨c.ff,g.hh,c.fh.trans g.fh,λb o J G C=>?_⟩) ⟨A,a1.lf k p.1,a2,λb B=>⟨h.hh.free (t b B).1,c.fh.free (t b B).2⟩⟩;exact c.no b o J (g.ff _ _ G) C
 .exact w.elim
def ug (K:Ap)(n:Nat)(sp:Z0):Sp:=Sw n λvs H Q=>∃F a ts v B cW ds P,vs=V.ref a::cW/\a6 F H/\H a=some (.lst v)/\a8 K F H ts v B/\(a::B).Nodup/\(∀b∈a::B,F b=none)/\bA K F ds cW/\sp ts ds P/\
 ∀t f e c g,P t->a6 F f->a6 f e->(∀b o,b∉a::B->H b=some o->e b=some o)->(∀b o,F b=none->H b=some o->Vl o=false->b∉a::B->f b=none)->e a=some (.lst c)->a8 K f e t c g->(a::g).Nodup->
  (∀b∈a::g,f b=none/\(b∈a::B∨H b=none))->Q .cB e
theorem ki (ha:ei K a As): bY K (jr (nt (ug K n sp) [] E0 (da (dt i) a))) (uF i n sp As):=λF0 H0 F H Y δ De En e l w=>by
 obtain⟨A,e⟩:=e;unfold uF at w;split at w
 .rename_i ts hs;obtain⟨v,hv,p,vs,B,rfl,g,hp,hB⟩:=e.own i _ hs;refine⟨_,hv,?_⟩;refine ha F0 H0 F H Y δ _ _ ⟨A,e⟩ w λds us F1 H1 w1 G r1=>?_
  show ug K n sp ((V.ref p::us)++[]) H1 (λ_ H2=>En.nx Y H2) E0
  rw[Bj];have c:=e.on G;have Q:=e.ji i;rw[g]at Q;have T:i<δ.length:=(Ab.mp hs).1;refine⟨by rw[AR,<- r1.length];exact w1.1,F1,p,ts,vs,B,us,ds,_,rfl,G.fh,G.hh _ _ hp,hB.frame G.ff λb _ xs z=>G.hh _ _ z,Q,λb f=>(c.new i b (by rw[g];exact f)).1,r1,w1.2,?_⟩;intro ŭ F' H' á B' pt sF sH keep O L U ø r;refine l.nx F' H' Y _ ⟨λj=>if j=i then p::B' else A j,?_⟩ pt;refine⟨by simp[e.len],⟨c.ext.ff.trans sF,λb o h=>?_,sH,λb o h1 h2 h3=>?_⟩,λj t J=>?_,λj d J=>?_,λj=>?_,λj k b Ñ h1 h2=>?_,λj b f=>?_⟩
  .exact keep b o (λz=>by rw[(c.new i b (by rw[g];exact z)).2.1]at h;cases h) (c.ext.hh _ _ h)
  .exact O b o (c.ext.no b o h1 h2 h3) (c.ext.hh _ _ h2) h3 (λz=>by rw[(c.new i b (by rw[g];exact z)).2.1]at h2;cases h2)
  .by_cases z:j=i
   .subst z;rw[if_pos rfl];rw[Ax T]at J;cases J;exact⟨_,hv,p,á,B',rfl,rfl,L,U⟩
   .rw [if_neg z];rw[AK (Be z)]at J;obtain⟨u,h1,h2⟩:=c.own j t J;exact⟨u,h1,h2.frame sF λb f xs q=>keep b _ (λy=>e.ko j i b z f (by rw[g];exact y)) q⟩
  .by_cases z:j=i
   .subst z;rw[Ax T]at J;cases J
   .rw [AK (Be z)]at J;exact c.bw j d J
  .split
   .exact ø
   .exact e.ji j
  .have key:∀k,k≠i->b∈p::B'->b∈A k->False:=λk hk z1 C=>by
    rcases (r b z1).2 with y |y
    .exact e.ko k i b hk C (by rw[g];exact y)
    .obtain ⟨_,_,xs,q,_⟩:=c.new k b C;rw[y]at q;cases q
   split at h1
   .split at h2
    .lia
    .rename_i z1 C;exact key k C h1 h2
   .split at h2
    .rename_i z1 C;exact key j z1 h2 h1
    .exact e.ko j k b Ñ h1 h2
  .split at f
   .have hh:H0 b=none:=by
     rcases (r b f).2 with y |y
     .exact (c.new i b (by rw[g];exact y)).2.1
     .exact c.ext.hh.free y
    refine⟨(r b f).1,hh,?_⟩;rcases AJ.mp f with y |y
    .rw [y];exact⟨_,L,rfl⟩
    .exact U.rV b y
   .rename_i z;obtain⟨h1,h2,xs,h3,m⟩:=c.new j b f;have M:b∉p::B:=λy=>e.ko j i b z f (by rw[g];exact y)
    exact⟨O b _ h1 h3 m M,h2,xs,keep b _ M h3,m⟩
 .exact w.elim
theorem VV.of {P:AA}{w:AT}{base:Heap}{x:Al}{st:AZ}{f:Ac}{fd:Ak}{N ps:List Al}{k n:Nat}{sp:Z0}(Df:bL K mg x st f fd)(S:aQ N ps (aB st))
  (g:∀(kV U pm:Aa) (an:Option Ac) (C ct:Aa) (us:List Aa),us.length=ps.length->BP (DC x x (bS st) (a9 st) (aB st) .none kV U pm an C ct) ⟨us,[]⟩=pure (ps.zip us)) (hn:n=ps.length)
  (O:∀(C:Aa) (A:AU) (outer:List DU) (s:Af) (H:Hp) (E:XK),cC k (A.deeper (B_ x (aB st) s.heap.objs.size f C))->
   ∃t T,PSs (eH jh P w K mg base N x (aB st) f C A outer s H E).kR (a9 st) t/\bY K t T/\∀(a:Ac) ts ds m,sp ts ds m->T {nx:=λδ=>∃c,δ[0]?=some (some (.own (.rt a c)))/\m c,rt:=λ_=>False} (iv N a ts ds)):cg P w K mg base x (k+1) ps (ug K n sp):=
 cg.of Df S g (λvs H Q E h=>by rw[<- hn];exact h.1) λC A outer s H vs Q E hr h=>by
  obtain⟨_,F,a,ts,u,B,cW,ds,m,rfl,hs,ha,hB,M,L,r,J,hq⟩:=h;obtain⟨t,T,h1,h2,h3⟩:=O C A outer s H E hr;have hl:=r.length;have er : ER K F (λb=>if b∈a::B then none else H b) F H (start N (V.ref a::cW)) (iv N a ts ds) (λj=>if j=0 then a::B else []):=by
   refine⟨by simp[start,iv,hl],⟨a6.refl _,λb o z=>?_,hs,λ_ _ z _ _=>z⟩,λi t hi=>?_,λi d hi=>?_,λj=>?_,λj k b Ñ y1 y2=>?_,λj b g=>?_⟩
   .split at z
    .cases z
    .exact z
   .unfold iv at hi
    cases i with
    |zero=>
     simp at hi
     subst hi;exact⟨.ref a,rfl,u,B,rfl,rfl,ha,hB⟩
    |succ i=>
     rw[BN]at hi;by_cases z:i<ds.length
     .rw [AW (by simpa using z),AH,Ad z]at hi;simp at hi
      subst hi;obtain⟨v,g1,g2⟩:=r.get (Ad z);refine⟨v,?_,rfl,g2⟩;unfold start;rw[BJ,CM,BN,AW (by simp;lia),AH,g1];rfl
     .rw [Bb (by simpa using z)]at hi;have:=Ai hi;rw[CG]at this;cases this.2
   .unfold iv at hi
    cases i with
    |zero=>simp at hi
    |succ i=>
     rw[BN]at hi;by_cases z:i<ds.length
     .rw [AW (by simpa using z),AH]at hi;simp at hi
     .rw [Bb (by simpa using z)]at hi;have:=Ai hi;rw[CG]at this;cases this.2
   .split
    .exact M
    .exact CF
   .split at y1
    .split at y2
     .lia
     .cases y2
    .cases y1
   .split at g
    .refine ⟨L b g,if_pos g,?_⟩;rcases AJ.mp g with y |y
     .rw [y];exact⟨_,ha,rfl⟩
     .exact hB.rV b y
    .cases g
  refine⟨t,h1,h2 F _ F H (start N (V.ref a::cW)) (iv N a ts ds) {nx:=λδ=>∃c,δ[0]?=some (some (.own (.rt a c)))/\m c,rt:=λ_=>False} _ ⟨_,er⟩ ⟨λF' H' Y δ e p=>?_,λ_ _ _ _ _ z=>z.elim,λ_ _ _ _ _ z=>z.elim,λ_ _ _ _ _ _ z=>z.elim⟩ (h3 a ts ds m J)⟩;obtain⟨A',e⟩:=e;obtain⟨c,h0,hp⟩:=p;obtain⟨v,hv,G,B',rfl,eA,g1,g2⟩:=e.own 0 _ h0;have l:=e.ji 0;rw[eA]at l;refine hq c F' H' G B' hp e.ext.ff e.ext.fh (λb o y z=>?_) (λb o y1 y2 y3 y4=>?_) g1 g2 l (λb g=>?_)
  .exact e.ext.hh b o (by rw[if_neg y];exact z)
  .exact e.ext.no b o y1 (by rw[if_neg y4];exact y2) y3
  .obtain ⟨z1,z2,_⟩:=e.new 0 b (by rw[eA];exact g);refine⟨z1,?_⟩;by_cases q:b∈a::B
   .exact .inl q
   .rw [if_neg q]at z2;exact .inr z2
def ZX (t:TS):Prop:=∀E Y H,t {E with nx:=λa c=>a=Y->E.nx a c} Y H->t E Y H
theorem W0 {E:zB}{Y:St}:(λa=>Y=Y->E.nx Y a)=E.nx Y:=funext λa=>propext ⟨λz=>z rfl,λz _=>z⟩
theorem LC {e t T:TE}{r:NQ}:ZX (kB e (Uh t T r)):=λE Y H h=>by
 have h':e Y H λx f=>t Y f λo c=>T Y c λi a=>r o i x a (λg=>Y=Y->E.nx Y g):=h
 rw[W0]at h';exact h'
theorem cx.Yj (e:cx K k g F H Y δ)(h:δ[i]?=some (some (.own (.rt a ts)))): Y[i]?=some (some (.ref a))/\cx K k g F H Y (δ.set i (some (.own (.nl ts)))):=by
 obtain⟨A,e⟩:=e;obtain⟨v,c,vs,B,rfl,f,h1,h2⟩:=e.own i _ h;have l:i<δ.length:=(Ab.mp h).1;refine⟨c,A,by simp[e.len],e.ext,λj t J=>?_,λj d J=>?_,e.ji,e.ko,e.new⟩
 .by_cases z:j=i
  .subst z;rw[Ax l]at J;cases J;exact⟨_,c,a,vs,B,rfl,f,h1,h2⟩
  .rw [AK (Be z)]at J;exact e.own j t J
 .by_cases z:j=i
  .subst z;rw[Ax l]at J;cases J
  .rw [AK (Be z)]at J;exact e.bw j d J
theorem cx.YF (e:cx K m k F H Y δ)(h:δ[i]?=some (some (.own (.nl ts))))(c:Y[i]?=some (some (.ref a))): cx K m k F H Y (δ.set i (some (.own (.rt a ts)))):=by
 obtain⟨A,e⟩:=e;obtain⟨v,f,n,vs,B,rfl,g,h1,h2⟩:=e.own i _ h;rw[c]at f;cases f;have l:i<δ.length:=(Ab.mp h).1;refine⟨A,by simp[e.len],e.ext,λj t J=>?_,λj d J=>?_,e.ji,e.ko,e.new⟩
 .by_cases z:j=i
  .subst z;rw[Ax l]at J;cases J;exact⟨_,c,vs,B,rfl,g,h1,h2⟩
  .rw [AK (Be z)]at J;exact e.own j t J
 .by_cases z:j=i
  .subst z;rw[Ax l]at J;cases J
  .rw [AK (Be z)]at J;exact e.bw j d J
theorem Pd (hl:ZX t)(h:bY K t T): bY K t (Wf i T):=λn m F H Y δ o E e l w=>by
 unfold Wf at w;split at w
 .rename_i a ts r;obtain⟨g,e'⟩:=e.Yj r;have lk:Lk K n m {o with nx:=λc=>match c[i]? with |some (some (.own (.nl f)))=>o.nx (c.set i (some (.own (.rt a f)))) |_=>False} {E with nx:=λk z=>k=Y->E.nx k z}:=by
   refine⟨λA v B q u p Q=>?_,l.bk,l.ct,l.rt⟩;subst Q;dsimp only at p;split at p
   .rename_i f j;exact l.nx A v _ _ (u.YF j g) p
   .exact p.elim
  exact hl E Y H (h n m F H Y _ _ _ e' lk w)
 .exact w.elim
end
section
variable {K:Ap}{X:Cx}
theorem ER.YL {A:Nat->List Ac}(e:ER K c a F H Y δ A)(i:Nat)(h:dY K a d v): ER K c a F H (Y.set i (some v)) (δ.set i (some (.bw d))) A:=by
 refine⟨by simp[e.len],e.ext,λj t J=>?_,λj d' J=>?_,e.ji,e.ko,e.new⟩
 .by_cases z:j=i
  .subst z;have l:j<δ.length:=by
    have:=(Ab.mp J).1
    rwa[Bi]at this
   rw[Ax l]at J;cases J
  .rw [AK (Be z)]at J ⊢;exact e.own j t J
 .by_cases z:j=i
  .subst z;have l:j<δ.length:=by
    have:=(Ab.mp J).1
    rwa[Bi]at this
   rw[Ax l]at J;cases J;exact⟨v,Ax (by rw[e.len];exact l),h⟩
  .rw [AK (Be z)]at J ⊢;exact e.bw j d' J
theorem v8 (hl:dN K tl El)(he:ez K te Eo): ez K (pw (Rc K tl) ix (gO 0) te) (RA El ix Eo):=λF0 H0 F H Y δ P Q e w q=>
 hl F0 H0 F H Y δ _ _ e w λd v F1 H1 p l r1=>by
  split at p
  case h_2=>exact p.elim
  rename_i ds;obtain⟨aL,c,rfl,T,O⟩:=r1;have ł:=O.length;refine⟨aL,rfl,⟨c,T⟩,?_⟩;intro L hL;obtain⟨A,e⟩:=e.on l;obtain⟨W,w0,ws,wd⟩:=p;have f1:a6 F1 H1:=l.fh;refine⟨λi m Y ys H=>m=ds.length-i/\i<=ds.length/\∃F δ ts B,ER K F1 H1 F H Y δ (λ_=>[])/\W i δ ts/\F L=none/\H L=some (.lst ys)/\a8 K F H ts ys B/\(L::B).Nodup/\∀b∈B,H1 b=none/\F b=none,
   ⟨ds.length,rfl,Br _,F1,_,[],[],e.se ix (a6.new hL),w0,f1.free hL,a0,⟨rfl,rfl⟩,by simp,λ_ h=>by cases h⟩,?_⟩
  rintro i m Y2 ys H2 ⟨rfl,Ŏ,F2,k,ts,B,e2,w2,l1,l2,J,nd,nw⟩;have n:=e2.ext.hh.seq T;by_cases U:i<ds.length
  .obtain ⟨d0,Xp⟩:∃d,ds[i]?=some d:=⟨_,Ad U⟩
   have hl:=J.length;refine .inr ⟨sv (by have:=(ws i d0 k ts Xp w2).1;lia),⟨c,c[i]'(by lia),n,Ad (by lia)⟩,λx H3 y=>?_⟩;obtain⟨rfl,y⟩:=y;obtain⟨d,hd,r3⟩:=O.get' (y c n);have x3:=cE.refl e2.ext.fh;have w4:=(ws i d k ts hd w2).2;have Zp:=e2.YL 0 r3;refine he F1 H1 F2 _ _ _ _ _ ⟨_,Zp⟩ w4 λr v F5 H5 p5 x5 n5=>?_
   have a:=x3.trans x5;have l5:=a.hh _ _ l2;have G:=a.no L _ l1 l2 rfl;refine⟨l5,ds.length-(i+1),by lia,rfl,U,F5,k.set 0 (some (.bw d)),ts++[r],?_⟩;obtain⟨C,c1,c2,c3⟩:=n5;obtain⟨n1,n2⟩:=AD.mp nd;have Zh:L∉C:=λz=>by
    have q:=(c3 L z).1;rw[x3.hh _ _ l2]at q;cases q
   have ě:∀b,b∈B->b∉C:=λb f z=>by
    obtain⟨xs,q,M⟩:=J.rV b f;have:=(c3 b z).1;rw[x3.hh _ _ q]at this;cases this
   have g:=Zp.on x5;refine⟨B++C,⟨g.len,⟨g.ext.ff,λb o h=>?_,λb o h=>?_,g.ext.no⟩,λj t hj=>?_,g.bw,g.ji,g.ko,λ_ _ h=>by cases h⟩,p5,G,a0,?_,?_,λb f=>?_⟩
   .exact a5 (λz=>by rw[z,hL]at h;cases h) (g.ext.hh _ _ h)
   .exact a5 (λz=>by rw[z,G]at h;cases h) (g.ext.fh _ _ h)
   .obtain ⟨u,h1,h2⟩:=g.own j t hj;exact⟨u,h1,h2.frame (a6.refl _) λ_ z=>by cases z⟩
   .exact a8.append (J.frame a.ff λb f xs z=>a5 (λq=>n1 (by rw[<- q];exact f)) (a.hh _ _ z)) (a8.one (c1.frame (a6.refl _) λb f xs z=>a5 (λq=>Zh (by rw[<- q];exact f)) z))
   .refine AD.mpr ⟨λz=>?_,AY.mpr ⟨n2,c2,λx hx y hy z=>by subst z;exact ě x hx hy⟩⟩;rcases AB.mp z with z |z
    .exact n1 z
    .exact Zh z
   .rcases AB.mp f with z |z
    .obtain ⟨xs,qq,M⟩:=J.rV b z;exact⟨(nw b z).1,a.no b _ (nw b z).2 qq M⟩
    .exact ⟨(e2.ext.hh.trans x3.hh).free (c3 b z).1,(c3 b z).2⟩
  .have ď:i=ds.length:=by lia
   subst ď;refine .inl ⟨⟨c,n,by lia⟩,q _ _ F2 H2 (wd _ _ w2) (l.trans e2.ext) ⟨L::B,⟨L,ys,B,rfl,rfl,l2,J⟩,nd,λb f=>?_⟩⟩;rcases AJ.mp f with rfl |z
   .exact ⟨l.hh.free hL,l1⟩
   .exact ⟨l.hh.free (nw b z).1,(nw b z).2⟩
def Vf (K:Ap):List V->Hp->VK->Prop:=λxs H Q=>∃(l:Ac) (bs:List Bool),xs=[.ref l]/\eE K H l (bs.map V.bl)/\Q (.bl (bs.all id)) H
theorem tQ:∀{bs:List Bool} {us:List Aa},bH (bs.map V.bl) us->∀{i:Nat} {v:Aa},us[i]?=some v->∃b,bs[i]?=some b/\v = .bool b
 | [],_,.nil,i,v,e=>by simp at e
 |b::bs,u::us,.cons r t,0,v,e=>by
  simp at e
  subst e;exact⟨b,rfl,r⟩
 |b::bs,u::us,.cons r t,i+1,v,e=>by
  obtain⟨B,h1,h2⟩:=tQ t e;exact⟨B,h1,h2⟩
theorem ku (hc:X.calm=true): gC X (.builtin "all") (Vf X.K):=by
 intro pins s Y H xs us Q I r h;obtain⟨l,bs,rfl,f,q⟩:=h;obtain⟨u,rfl,U⟩:=jo r;cases U;obtain⟨t,a,pl,z⟩:=I.list f;have hl:=pl.isList;have hn:=a.length;rw[Au]at hn;have L:l<s.heap.objs.size:=by obtain⟨_,e,_⟩:=hl;exact AX e
 refine call_all_walk (IQ hl ?_);refine⟨s.heap.objs.size,[s.heap.objs.size,l],[s.heap.objs.size],t.toArray.size,_,_,λi=>(bs[i]?).getD true,rfl,Walks.list (A:=X.A.in1) (I.ok.hd hc) _ l (Bm L) t.toArray,
  ⟨⟨_,Aq _ rfl,rfl,rfl⟩,hl.push _⟩,λi v g j m hP c=>?_,λh' tk k=>?_⟩
 .obtain ⟨b,e,rfl⟩:=tQ a (by simpa using hP);simp only[e]at c;exact Bt c
 .have e:((AE t.toArray.size).all λi=>(bs[i]?).getD true)=bs.all id:=by
   rw[Ay,<- hn];exact LSm.range_all bs
  rw[e];exact⟨.bl _,H,I.kept (t':=tk) (LSm.kept_iter k),rfl,q⟩
theorem pZ:∀{bs:List Bool} {vs:List V},bA K F (bs.map D.bl) vs->vs=bs.map V.bl
 | [],vs,h=>h
 |b::bs,vs,h=>by
  obtain⟨v,r,rfl,h1,h2⟩:=h;rw[show v=V.bl b from h1,pZ h2];rfl
theorem vx:UK K (Vf K) XW:=λF H ds vs P Q s rs w q=>by
 unfold XW at w;split at w
 .obtain ⟨bs,rfl,w⟩:=w;obtain⟨v,rfl,p,us,rfl,h1,h2⟩:=gJ rs;have e:=pZ h2;subst e;exact⟨p,bs,rfl,h1,q _ _ F H w (cE.refl s) rfl⟩
 .exact w.elim
theorem Xj (h:qL n k=some j): j<n:=by
 unfold qL at h;split at h
 .split at h
  .cases h;lia
  .cases h
 .split at h
  .cases h;lia
  .cases h
theorem K5 (h:cO K te E)(hk:dN K tk Ek)(hm:dN K tm Em): bY K (kB te (Uh (OC (S8 K) (dt i) tk) tm Lc)) (U0 i Ek Em E):=λF0 H0 F H Y δ De En e l w=>by
 refine h F0 H0 F H Y δ _ _ e w λd u F1 H1 p x1 rd=>?_
 obtain⟨A,e⟩:=e;split at p
 .rename_i ts hs;have e1:=e.on x1;obtain⟨v,hv,a,vs,B,rfl,eA,ha,hB⟩:=e1.own i _ hs;refine⟨_,hv,?_⟩;refine hk F0 H0 F1 H1 Y δ _ _ ⟨A,e1⟩ p λk kv F2 H2 C n r2=>?_
  split at C
  .rename_i k;obtain⟨j,us,hj,hu,C⟩:=C;have e2:=e1.on n;have M:=n.hh _ _ ha;have Q:a8 K F2 H2 ts vs B:=hB.frame n.ff λb _ xs z=>n.hh _ _ z
   have ϟ:=Q.length;obtain⟨v0,A1,B0,A2,f1,rfl,f3,f4⟩:=Q.focus hu;obtain⟨c,r,C0,rfl,rfl,hc,J⟩:=f3;have ġ:kI vs k=some (.ref c):=by
    unfold kI;rw[<- ϟ,hj];exact f1
   refine⟨a,vs,k,.ref c,rfl,r2,eE.of M,ġ,?_⟩;refine hm F0 H0 F2 H2 Y δ _ _ ⟨A,e2⟩ C λm mv U H3 t g r3=>?_
   split at t
   .rename_i m;obtain⟨q,hq,t⟩:=t;have e3:=e2.on g;have Ϟ:=J.length;refine⟨c,r,m,q,rfl,r3,g.hh _ _ hc,by rw[<- Ϟ];exact hq,?_⟩;have ł:=Xj hq;have G:a8 K U H3 us r C0:=J.frame g.ff λb _ xs z=>g.hh _ _ z
    obtain⟨w0,C1,D0,C2,g1,rfl,g3,g4⟩:=G.focus (Ad ł);have L:=e.ji i;rw[eA]at L;have hA:A i=a::(A1++(c::(C1++(D0++C2))++A2)):=eA;obtain⟨n1,n2⟩:=AD.mp L;obtain⟨m1,m2,m3⟩:=AY.mp n2;obtain⟨q1,q2,q3⟩:=AY.mp m2;obtain⟨s1,s2⟩:=AD.mp q1;have ė:a≠c:=λz=>n1 (by rw[z];simp)
    have off:∀b∈A1++A2,b≠c:=λb f z=>by
     subst z;rcases AB.mp f with y |y
     .exact m3 b y b (by simp) rfl
     .exact q3 b (by simp) b y rfl
    have O:∀b∈C1++C2,b≠c:=λb f z=>by
     subst z
     apply s1
     rcases AB.mp f with y |y<;>simp[y]
    have Ų:dY K U d u:=rd.mono (n.ff.trans g.ff);have g4':=g4 U (cP H3 c (.lst (r.set q u))) (.fz d) u [] (a6.refl _) (λb f xs z=>a5 (O b f) z) ⟨rfl,Ų⟩;have T:=f4 U (cP H3 c (.lst (r.set q u))) (.nl (us.set q (.fz d))) (.ref c) (c::(C1++([]++C2))) g.ff (λb f xs z=>a5 (off b f) (g.hh _ _ z)) ⟨c,r.set q u,_,rfl,rfl,a0,g4'⟩;rw[fu f1]at T;have sub:(a::(A1++(c::(C1++([]++C2))++A2))).Sublist (A i):=by
     rw[hA];exact FY _ (Di (DG _) (Di (FY _ (Di (DG _) (Di (List.nil_sublist _) (DG _)))) (DG _)))
    refine l.nx U _ Y _ (e3.change i hv (t':=.nl (ts.set j (.nl (us.set q (.fz d))))) (B:=a::(A1++(c::(C1++([]++C2))++A2))) ⟨a,vs,_,rfl,rfl,a5 ė (g.hh _ _ M),T⟩ ?_ ?_ ?_ ?_) t
    .exact (e.ji i).sublist sub
    .intro b f;exact⟨(e3.new i b (sub.subset f)).1,(e3.new i b (sub.subset f)).2.1⟩
    .intro j' T9 b f z;exact e.ko j' i b T9 z (sub.subset f)
    .intro b o f q';exact a5 (λz=>f (by rw[hA,z];simp)) q'
   .exact t.elim
  .exact C.elim
 .exact p.elim
def U8 (K:Ap):V->Int->Hp->VK->Prop:=λx c H Q=>∃a xs,x = .ref a/\eE K H a xs/\0<c/\∀p e,H p=none->a6 H e->e p=some (.lst (lE xs c))->Q (.ref p) e
def UP (r:V->Int->Hp->VK->Prop)(t T:TE):TE:=λY H Q=>t Y H λx e=>T Y e λc a=>∃i,c = .int i/\r x i a Q
theorem my (h:bH xs us): ∀(J:List Nat),bH (J.filterMap (xs[·]?)) (J.filterMap (us.toArray[·]?))
 | []=>.nil
 |j :: J=>by
  have c:=my h J;by_cases g:j<xs.length
  .obtain ⟨u,U,r⟩:=h.get (i:=j) (x:=xs[j]) (by simp);have a:xs[j]?=some xs[j]:=by simp
   have e:us.toArray[j]?=some u:=by simpa using U
   rw[Cj a,Cj e];exact .cons r c
  .have f:¬ j<us.length:=by rw[<- h.length];exact g
   have a:xs[j]?=none:=by simp;lia
   have e:us.toArray[j]?=none:=by simp;lia
   rw[CN a,CN e];exact c
theorem Lj (J:PE X e j)(hc:PE X c C): PE X (.Subscript e (.Slice none none (some c) p2) pos) (UP (U8 X.K) j C):=by
 intro pins s Y H Q I h;refine GW (cy (J pins s Y H _ I h) λv k ⟨x,H1,O,n,w⟩=>?_);refine Ks ?_;refine AN ?_;refine AN ?_;refine cy (hc pins k Y H1 _ O w) λvc f ⟨y,U,M,m,i,L,u⟩=>?_
 subst L;obtain⟨a,xs,rfl,G,hi,q⟩:=u;obtain⟨tk,rfl⟩:=m;cases n;have g:bC X pins Y U {f with heap:=f.heap.push {cls:=.type "slice",data:=.fields #[.none,.none,.int i tk]}}:=M.kept (t':=f.toks) λb ob q=>Ag _ q
 obtain⟨t,r,pl,A⟩:=g.list G;have hn:=r.length;have B:CL none none (some i) t.toArray.size=(0,(xs.length:Int),i):=by
  unfold CL;simp[hi,hn]
 have p:Hl t.toArray none none (some i)=((Db 0 xs.length i).filterMap (t.toArray[·]?)).toArray:=by
  unfold Hl;rw[B]
 refine J1 (T := "list") (ops:=[.ref a,.ref f.heap.objs.size]) pl.isList.typeIs F7.lookup ?_ (by with_unfolding_all rfl);refine G8 pl.isList (Heap.IsSliceOf.new ..) .none .none (.int i tk) (by intro z;injection z with z;lia) ?_ (by rw[Ay]<;>lia);rw[p];have l:(lE xs i).length<=xs.length:=by
  have h1:=slicePick_size_le t.toArray none none (some i);rw[p,Ay,Ay]at h1;have h2:=(my r (Db 0 xs.length i)).length;show ((Db 0 xs.length i).filterMap (xs[·]?)).length<=_
  lia
 have hf:=g.cN.fresh (Ah _);refine⟨.ref _,_,g.laid (t':=f.toks) (o:=.lst (lE xs i)) (λb ob q=>Ag _ q) (Ah _) ?_,rfl,q _ _ hf (a6.new hf) a0⟩;exact⟨Bv l A,_,0,my r (Db 0 xs.length i),Aq _ rfl⟩
theorem bA.pick (h:bA K F ds vs): ∀(J:List Nat),bA K F (J.filterMap (ds[·]?)) (J.filterMap (vs[·]?))
 | []=>rfl
 |j :: J=>by
  have a:=bA.pick h J;have hl:=h.length;by_cases g:j<ds.length
  .obtain ⟨v,c,r⟩:=h.get (i:=j) (d:=ds[j]) (by simp);have e:ds[j]?=some ds[j]:=by simp
   rw[Cj e,Cj c];exact⟨v,_,rfl,r,a⟩
  .have e:ds[j]?=none:=by simp;lia
   have f:vs[j]?=none:=by simp;lia
   rw[CN e,CN f];exact a
theorem bA.step (h:bA K F ds vs)(c:Int): bA K F (lE ds c) (lE vs c):=by
 unfold lE;rw[h.length];exact h.pick _
theorem K7 (A:cO K T U)(hc:dN K t O): ez K (UP (U8 K) T t) (VB U O):=λk j F H Y δ P Q e w q=>
 A k j F H Y δ _ _ e w λx v J z m h n=>hc k j J z Y δ _ _ (e.on h) m λc u G H2 g a r=>by
  have f:=h.trans a;split at g
  .obtain ⟨C,g⟩:=g;obtain⟨p,vs,rfl,h1,h2⟩:=n.mono a.ff;exact⟨_,r,p,vs,rfl,a.fh.seq h1,C,λl B L M o=>q _ _ G B g (f.trans (cE.grow a.fh M)) (eO.list (f.hh.free L) (a.fh.free L) o (h2.step _))⟩
  .exact g.elim
structure vC (K:Ap) (mg:Al->Option Aa) (x:Al) (st:AZ) (f:Ac) (fd:Ak) (T:Ac) (items:Array Aa):Prop where
 ex:∃(oc:Aa) (od:Option Ac) (kV doc pm:Aa) (an:Option Ac) (Ya ct:Aa) (YN:Array (Option Aa)),
  fd=DC x x (bS st) (a9 st) (aB st) (.ref T) kV doc pm an Ya ct/\K.lookup f=some ⟨oc,od,.func fd,YN⟩/\FT K Ya x=true
 tup:∃o n,K.lookup T=some o/\o.data = .seq items n
 kp:DJ K (.ref f)=true
 here:mg x=some (.ref f)
structure zC (P:AA) (w:AT) (K:Ap) (mg:Al->Option Aa) (base:Heap) (x:Al) (k:Nat) (ps:List Al) (sp:Sp) (xk:List V):Prop where
 ex:∃f fd ds,fK P w K mg base jh k f fd ps sp/\mg x=some (.ref f)/\DJ K (.ref f)=true/\gD K fd ps []/\gD K fd ps ds/\bH xk ds
theorem zC.Ġ {m:Al->Option Aa}(C:zC P w K m base x k ps sp v): cg P w K m base x k ps sp:=by
 obtain⟨f,fd,ds,a,b,c,d,_⟩:=C.ex;exact⟨f,fd,a,b,c,d⟩
theorem VU.of {P:AA}{w:AT}{M:Al->Option Aa}{base:Heap}{x:Al}{st:AZ}{f T:Ac}{items:Array Aa}{fd:Ak}{N ps:List Al}{k n:Nat}{sp:dF}{ds:List Aa}{j:List V}(q:vC K M x st f fd T items)(S:aQ N ps (aB st))
  (hb:∀(kV O pm:Aa) (g:Option Ac) (c ct:Aa) (us:List Aa),us.length=ps.length->∃k,BP (DC x x (bS st) (a9 st) (aB st) (.ref T) kV O pm g c ct) ⟨us,[]⟩=seqItems? (.ref T) >>= k/\k (some items)=pure (ps.zip us))
  (L:∀(kV O pm:Aa) (g:Option Ac) (c ct:Aa) (us:List Aa),(us++ds).length=ps.length->∃k,BP (DC x x (bS st) (a9 st) (aB st) (.ref T) kV O pm g c ct) ⟨us,[]⟩=seqItems? (.ref T) >>= k/\k (some items)=pure (ps.zip (us++ds)))
  (hv:bH j ds) (hn:n=ps.length)
  (B:∀(c:Aa) (A:AU) (outer:List DU) (s:Af) (H:Hp) (E:XK),cC k (A.deeper (B_ x (aB st) s.heap.objs.size f c))->
   ∃t T,PSs (eH jh P w K M base N x (aB st) f c A outer s H E).kR (a9 st) t/\bY K t T/\∀ds a,sp ds a->T {nx:=λ_=>a (.fz .cB),rt:=a} (du N ds)):zC P w K M base x (k+1) ps (b7 K n sp) j:=by
 obtain⟨oc,od,kV,O,pm,g,c,ct,YN,rfl,lk,J⟩:=q.ex;obtain⟨o,m,ht,hs⟩:=q.tup;refine⟨f,_,ds,LQ lk J S (λvs H Q E h=>by rw[<- hn];exact h.1) (λA outer s H vs Q E hr h=>?_),q.here,q.kp,λs us KX hl=>?_,λs us KX hl=>?_,hv⟩
 .obtain ⟨_,F,l,a,C,G,u,hq⟩:=h;obtain⟨t,T',h1,h2,h3⟩:=B c A outer s H E hr;refine⟨t,h1.kR,h2 F H F H (start N vs) (du N l) {nx:=λ_=>a (.fz .cB),rt:=a} _ ⟨_,e_ C G⟩ ⟨λF' H' Y δ e p=>?_,λ_ _ _ _ _ z=>z.elim,λ_ _ _ _ _ z=>z.elim,λF' H' r v x n p=>hq r v F' H' p x n⟩ (h3 l a u)⟩;exact hq _ _ F' H' p e.ext (.fz rfl)
 .rw [Bj]at hl ⊢;obtain⟨k',e1,U⟩:=hb kV O pm g c ct us hl;exact Kf KX rfl ht hs e1 U
 .obtain ⟨k',e1,U⟩:=L kV O pm g c ct us hl;exact Kf KX rfl ht hs e1 U
end
def VC (A:DA):DA:=λδ P=>A δ λds=>match ds with
 | [.int i,.int j,.int c]=>c = -1/\(-(2^61)<=i/\i<2^61/\-(2^61)<=j/\j<2^61)/\P (vF i (-1) (i-j).toNat)
 |_=>False
section
variable {X:Cx}{K:Ap}{tg:Expr}
theorem wj {i j:Int}:AS i j (-1)=((i-j).toNat:Int):=by
 unfold AS;rw[if_neg (by decide)];split
 .rw [show (-(-1):Int)=1 by decide];lia
 .lia
theorem x8 {a b:Int}(h1 : -(2^61)<=a)(h2:a<2^61)(c : -(2^61)<=b)(h:b<2^61):C7 a b (-1)=true:=by
 unfold C7;rw[wj];simp only[Fl,Ds,Io,decide_eq_true_eq,show ¬ ((-1:Int) > 0) from by decide,if_false];omega
def Vn (t:TA):TI:=λY H R=>t Y H λvs a=>∃i j:Int,vs=[.int i,.int j,.int (-1)]/\(-(2^61)<=i/\i<2^61/\-(2^61)<=j/\j<2^61)/\R (UJ i (-1) (i-j).toNat) a
theorem M7 {a b d:Expr}{A:TA}{p pos:Dt}(hg:Gl X "range")(M:X.mg "range"=none)(G:PA X [a,b,d] A)(B:Av [a,b,d] X.env=(false,eval a X.env)::Av [b,d] X.env:=by rfl)
  (l:(BY pos (Av [b,d] X.env)).any (·.1)=false:=by rfl):
  PI X tg (.Call (.Name "range" p) [a,b,d] [] pos) (Vn A):=by
 intro pins s Y H R I h;refine GX (fG I hg M II (A7 (cy (G pos pins s Y H _ I h) λus c ⟨vs,m,O,n,Q⟩=>?_) B l));obtain⟨i,j,e,⟨Q,z,w,v⟩,q⟩:=Q;subst e
 cases n with
 |cons r f=>
  cases f with
  |cons u f=>
   cases f with
   |cons g f=>
    cases f;obtain⟨t,rfl⟩:=r;obtain⟨t',rfl⟩:=u;obtain⟨T,rfl⟩:=g;refine PySem.call_range_3 (by lia) ?_ (.inl (Eu (by decide)));refine FQ (GC ..) (x8 Q z w v) ?_;have k:bC X pins Y m {c with heap:=c.heap.push {cls:=.type "range",data:=.fields #[.int i t,.int j t',.int (-1) T]},toks:=c.toks}:=O.kept λb o e=>Ag _ e
    refine⟨(c.heap.push {cls:=.type "range",data:=.fields #[.int i t,.int j t',.int (-1) T]}).objs.size,[(c.heap.push {cls:=.type "range",data:=.fields #[.int i t,.int j t',.int (-1) T]}).objs.size],_,_,m,rfl,
     k.kept (t':=c.toks) λb o e=>Ag _ e,nq _ i (-1) (i-j).toNat,?_,λb C=>?_,q⟩
    .have L:i+((0:Nat):Int)*(-1)=i:=by simp
     have J:(((i-j).toNat:Nat):Int)-((0:Nat):Int)=AS i j (-1):=by rw[wj];simp
     rw[L,J];exact Aq _ rfl
    .have e:b=(c.heap.push {cls:=.type "range",data:=.fields #[.int i t,.int j t',.int (-1) T]}).objs.size:=by simpa using C
     subst e;exact k.ow (Ah _) (k.cN.fresh (Ah _))
theorem SW {a:TA}{A:DA}(h:ka K a A):lu K (Vn a) (VC A):=λn l F H Y δ P R e w q=>h n l F H Y δ _ _ e w λds vs o m p x r=>by
 split at p
 .obtain ⟨v,u,z,rfl,g,f,c⟩:=U5 r;obtain⟨rfl,k,j⟩:=p;exact⟨_,_,by rw[show v=_ from g,show u=_ from f,show z=_ from c],k,q _ _ o m j x xa⟩
 .exact p.elim
end
theorem gA.YZ {a:Type}{O:DO}{o:Option Sl}{cW:cY}{P:OV->Prop}(xs:List a)(g:a->D)(f:a->OV)(hn:xs.length<=1000000)
  (h:∀x∈xs,∀Q:OV->Prop,Q (f x)->O (some (.bw (g x))::cW) Q) (k:P (.nl (xs.map f))):gA (gB 0) O (xs.map g) (o::cW) P:=by
 refine⟨λi δ ts=>∃o,δ=o::cW/\ts=(xs.take i).map f,⟨o,rfl,rfl⟩,?_,?_⟩
 .rintro i d δ ts hd ⟨o,rfl,rfl⟩;obtain⟨x,c,rfl⟩:=mX hd;obtain⟨hi,e⟩:=Ab.mp c;refine⟨by rw[Au,BD];lia,h x (Ai c) _ ⟨_,rfl,?_⟩⟩;rw[AO hi,e,A_];rfl
 .rintro δ ts ⟨o,rfl,rfl⟩;rw[Au,BC];exact k
noncomputable def iW (i:Int):Nat:=if i=0 then 0 else i.natAbs.log2+1
def Z_ (i j:Int):Prop:=iW i<=2000000/\iW j<=2000000
theorem T6:iW (i.natAbs:Int)=iW i:=by
 unfold iW;by_cases h:i=0
 .subst h;rfl
 .rw [if_neg h,if_neg (by lia)];rfl
theorem Xn (h1 : -(2^n)<i)(h2:i<2^n): iW i<=n:=by
 unfold iW;split
 .exact Br _
 .have h:((2^n:Nat):Int)=(2:Int)^n:=rfl;have hn:i.natAbs<2^n:=by omega
  have:i.natAbs.log2<n:=(Nat.log2_lt (by lia)).mpr hn;lia
section
variable {K:Ap}{X:Cx}
theorem yY:Dp i=iW i:=by
 unfold Dp iW;by_cases h:i=0
 .subst h;rfl
 .simp
theorem Ti:ly X (Cy .Mult) (rI Z_ λi j=>.int (i*j)):=WV λi j _ _ _ _ _ hc q=>mul_int q (by
 unfold IntMulOk;have e:JZ (Dp i+Dp j)=false:=by
  rw[yY,yY];have h1:=hc.1;have h2:=hc.2;exact decide_eq_false (by have:(bitsLine:Int)=2^27:=rfl;lia)
 rw[e];simp)
theorem nk:∀(ns:List Int),(∀m∈ns,iW m<=PySem.W.WData.weightAll (ns.map PySem.W.WData.int))
 | [],m,h=>by cases h
 |n :: ns,m,h=>by
  rw[BJ];simp only[PySem.W.WData.weightAll];rcases AJ.mp h with rfl |h
  .have:iW m=PySem.W.WData.weight (PySem.W.WData.int m):=by
    unfold iW;simp only[PySem.W.WData.weight];by_cases z:m=0
    .subst z;rfl
    .simp
   lia
  .have:=nk ns m h;lia
end
end L2
namespace Att
open PySem PySem.W PySem.Calls PyProof.Rows
theorem vy {l:IX}{n:Nat}{q:AA}{e:List Al}{U:(Al->Option Aa)->Heap->Prop}{T:AT->Heap->Prop}{d:JX}
  (hn:l.most=some n) (C:d.params.defaults=[])
  (call:∀(w:AT) (s₀ c:Af) (M k:Al->Option Aa) (A:Ac) (o:B5) (pm cd O:Aa) (a:Ac) (vs:List Aa) (ns:List Int),
   Ground q e [] U w s₀ M k c.heap->T w c.heap->
   c.heap.get? A=some o->o.data = .func (docDef d.name d.params d.body d.scope pm cd O)->c.heap.CodeRec cd d.name->M d.name=some (.ref A)->
   c.heap.get? a=some {cls:=.type "list",data:=.seq vs.toArray}->EE vs ns->ns.length<=n->(∀m∈ns,L2.iW m<=1048576)->c.gens=#[]->
   Cd (model l.prog w) CO (.call (.ref A) ⟨[.ref a],[]⟩) (λr g=>r = .ok (.ret (.bool true))/\JU c.heap g.heap/\g.os=c.os/\Dy g.gens) c):
  WalkO q e U T l.row.toRowW d [] (λf vs=>PySem.call f vs):=by
 intro w s₀ c M k G σ A o pm cd O dV kV ho hd J Q v hg args vals as p h hrd u Ϡ;obtain rfl:dV = .none:=Jn Q C;obtain rfl:kV = .none:=Jo Q;obtain⟨a,vs,ns,rfl,rfl,j,t,L⟩:=sJ hn p u;have B:∀m∈ns,L2.iW m<=1048576:=λm z=>by
  have h1:=L2.nk ns m z;have h2:IF (Jm (ns.map HC))<=2^20:=by
   simp only[WData.layableAll,List.all_cons,WData.layable,Ds,decide_eq_true_eq]at h;exact h.1.2
  simp only[IF]at h2;lia
 refine KQ (Cc (call w s₀ c M k A o pm cd O a vs ns G σ ho (fd_plain hd) J v j t L B hg) λr g hq=>?_);obtain⟨rfl,h2,h3,h4⟩:=hq;exact⟨.inl ⟨.bool true,.bool true,[],rfl,λ_=>rfl,.bool true,sU l _,λ_=>⟨EJ,λ_ z=>(nomatch z)⟩⟩,h2,h3,h4⟩
end Att
namespace L2
open PySem PySem.Spec PyProof.Rows
section
variable {X:Cx}{K:Ap}{mg:Al->Option Aa}
end
def VO (E:DE):DE:=λδ P=>E δ λd=>match d with
 | .int i=>P (.int (iW i))
 |_=>False
section
variable {X:Cx}{K:Ap}
def Ve:V->List V->Hp->VK->Prop:=λx xs H Q=>∃i,x = .int i/\xs=[]/\Q (.int (iW i)) H
theorem TR:Ü X "int.bit_length" Ve:=by
 intro pins s Y H x vs v us Q I r a h;obtain⟨i,rfl,rfl,q⟩:=h;obtain⟨t,rfl⟩:=r;cases a;refine call_int_bit_length ?_;rw[yY];exact⟨.int _,H,I.tok _,⟨_,rfl⟩,q⟩
theorem S4 (h:dN K t E): cO K (Sq K "int" Ve t) (VO E):=λl j F H Y δ P Q e w q=>h l j F H Y δ _ _ e w λd v k g a c r=>by
 split at a
 .have f:v=_:=r;subst f;exact⟨rfl,_,rfl,rfl,q _ _ k g a c rfl⟩
 .exact a.elim
theorem oY:UK K (U' K) QP:=λF H ds vs P Q s rs w q=>by
 unfold QP at w;split at w
 .obtain ⟨ns,rfl,hn,w⟩:=w;obtain⟨v,rfl,p,us,rfl,h1,h2⟩:=gJ rs;rw[h_]at h2;subst h2;exact⟨p,ns,rfl,h1,hn,λM h A=>q _ _ F H (w M h A) (cE.refl s) rfl⟩
 .exact w.elim
end
section
variable {K:Ap}{mg:Al->Option Aa}
end
section
variable {X:Cx}{K:Ap}
end
section
variable {X:Cx}{K:Ap}
end
def Zv (A:DA):DA:=λδ P=>A δ λds=>match ds with
 | [.lst xs,.lst ys]=>P ((xs.zip ys).map λp=>D.tup [p.1,p.2])
 |_=>False
section
variable {X:Cx}{K:Ap}{mg:Al->Option Aa}
theorem bC.oC {pins:List (Ac×B5)}{Y:St}{H:Hp}{s:Af}{h':Heap}{t':Nat}{L:List Ac}(I:bC X pins Y H s)(k:∀b o,b∉L->s.heap.get? b=some o->h'.get? b=some o)(f:∀b∈L,jl X pins H b):bC X pins Y H {s with heap:=h',toks:=t'}:=by
 have g:∀b u,H b=some u->b∉L:=λb u e z=>by
  obtain⟨a,_⟩:=f b z;rw[a]at e;cases e
 refine I.step (g':=s.gens) (d':=s.drawn) (λb B=>?_) (λb o _ _ hc e _=>k b o hc e) (λb o _ _ hc e _=>⟨o.slots,k b o hc e⟩) (λ_ _ _ _ n=>n)
  (λb o hc e=>⟨o,k b o hc e⟩) (λ_ _ e=>e) (λ_ _ _ e=>e) (λb ps e=>⟨#[],by rw[e];simp⟩) (λm M=>?_) (λb u e=>?_) I.bare
 .obtain ⟨a,p,A,l,j,h⟩:=f b B;exact⟨l,p,j,h⟩
 .obtain ⟨o,t,w,O,r⟩:=M;refine⟨o,t,w,k _ o (λz=>?_) O,r⟩;obtain⟨a,p,_⟩:=f _ z;exact p rfl
 .refine (I.cN b u e).rx (λc v hc q=>k c v ?_ q) (λ_ q=>q) λ_ _ q _=>q
  rcases hc with z |z
  .rw [z];exact g b u e
  .exact g c _ z
noncomputable def Ţ (K:Ap)(A a:Ac)(xs ys:List V):It:=
 ⟨λi H=>eE K H A xs/\eE K H a ys/\i<xs.length/\i<ys.length,λi H x c=>∃p y1 y2,x = .ref p/\H p=none/\a6 H c/\xs[i]?=some y1/\ys[i]?=some y2/\c p=some (.tup [y1,y2]),λi H=>eE K H A xs/\eE K H a ys/\(xs.length<=i∨ys.length<=i)⟩
theorem gM {h:Heap}{l z:Ac}{xs:Array Aa}{o:B5}(hl:h.IsList l xs)(e:h.get? z=some o)(hc:o.cls≠.type "list"):l≠z:=λq=>by
 subst q;obtain⟨O,a,c,_⟩:=hl;rw[e]at a;cases a;exact hc c
structure XY (z TI TO i1 i2:Ac):Prop where
 TIz:TI≠z
 TOz:TO≠z
 i1z:i1≠z
 i2z:i2≠z
 TITO:TI≠TO
 TIi1:TI≠i1
 TIi2:TI≠i2
 TOi1:TO≠i1
 TOi2:TO≠i2
 i12:i1≠i2
theorem Sd (n:Nat):XY (n+4) (n+2) (n+3) n (n+1):=
 ⟨λq=>by have q:(n+2:Nat)=n+4:=q;lia,λq=>by have q:(n+3:Nat)=n+4:=q;lia,λq=>by have q:(n+0:Nat)=n+4:=q;lia,λq=>by have q:(n+1:Nat)=n+4:=q;lia,λq=>by have q:(n+2:Nat)=n+3:=q;lia,λq=>by have q:(n+2:Nat)=n+0:=q;lia,λq=>by have q:(n+2:Nat)=n+1:=q;lia,λq=>by have q:(n+3:Nat)=n+0:=q;lia,λq=>by have q:(n+3:Nat)=n+1:=q;lia,λq=>by have q:(n+0:Nat)=n+1:=q;lia⟩
theorem sq {h:Heap}{z TI TO e c g f:Ac}{xs ys:Array Aa}{a b:Aa}{o n:Nat}{p C:Ac}(D:XY z TI TO e c)(j:IsZip h z TI TO .none)(T:KY h TO a b)(h1:h.IsListIter e p o)(h2:h.IsListIter c C n)(L:h.IsList g xs)(l:h.IsList f ys):ZipApart z TI TO e c g f:=by
 obtain⟨r,m,Q,_⟩:=h1;obtain⟨O,k,q,_⟩:=h2;exact⟨D.TIz,D.TOz,D.i1z,D.i2z,D.TITO,D.TIi1,D.TIi2,D.TOi1,D.TOi2,D.i12,gM L j (by simp),gM L T (by simp),gM L m (by rw[Q];simp),gM L k (by rw[q];simp),
  gM l j (by simp),gM l T (by simp),gM l m (by rw[Q];simp),gM l k (by rw[q];simp)⟩
theorem Ow {P:AA}{w:AT}{K:Ap}{elts:List Expr}{x1:Nat}{Sh:Dt}(a1 a2 z TI TO i1 i2:Ac)(xs ys:List V)(D:XY z TI TO i1 i2):
  sf P w K (.Tuple elts x1 Sh) (Ţ K a1 a2 xs ys) [z,TI,TO,i1,i2] z (λi h=>IsZip h z TI TO .none/\KY h TI (.ref i1) (.ref i2)/\(∃a b,KY h TO a b)/\h.IsListIter i1 a1 i/\h.IsListIter i2 a2 i) where
 mem:=by simp
 obj:=λi h st b hb=>by
  obtain⟨h1,h2,⟨a,b',h3⟩,⟨o4,q4,_,r4⟩,⟨o5,q5,_,r5⟩⟩:=st;have Xr:b=z∨b=TI∨b=TO∨b=i1∨b=i2:=by simpa using hb
  rcases Xr with q |q |q |q |q
  .subst q;exact⟨_,h1,λv q=>by cases q⟩
  .subst q;exact⟨_,h2,λv q=>by cases q⟩
  .subst q;exact⟨_,h3,λv q=>by cases q⟩
  .subst q;exact⟨_,q4,λv q=>by rw[r4]at q;cases q⟩
  .subst q;exact⟨_,q5,λv q=>by rw[r5]at q;cases q⟩
 keep:=λi h h' st k=>by
  obtain⟨h1,h2,⟨a,b',h3⟩,h4,h5⟩:=st;exact⟨k z (by simp) _ h1,k TI (by simp) _ h2,⟨a,b',k TO (by simp) _ h3⟩,h4.at λo q=>k i1 (by simp) o q,h5.at λo q=>k i2 (by simp) o q⟩
 item := by
  kj_on
  obtain⟨h1,h2,⟨a,b',h3⟩,h4,h5⟩:=st;obtain⟨Xo,Ze,ϫ,Ϫ⟩:=hg;obtain⟨Xk,Wv,p1,ÿ⟩:=I.list Xo;obtain⟨Y9,YE,p2,ľ⟩:=I.list Ze;obtain⟨u1,ă,í⟩:=Wv.get (i:=i) (x:=xs[i]) (by simp);obtain⟨u2,Ă,ì⟩:=YE.get (i:=i) (x:=ys[i]) (by simp);refine wpAny_pyNext_zip_item (sq D h1 h3 h4 h5 p1.isList p2.isList) h1 h2 h3 h4 h5 p1.isList p2.isList (by simpa using ă) (by simpa using Ă) λh' g1 g2 g3 g4 g5 g6 g7=>?_
  refine⟨_,rfl,G0 g1 λZi k1 k2=>?_⟩;have Zf:=I.cN.fresh (Ah _);have I0:bC X pins Y (cP H s.heap.objs.size (.tup [xs[i],ys[i]])) {s with heap:=s.heap.push {cls:=.type "tuple",data:=.seq #[u1,u2]},toks:=s.toks}:=
   I.laid (t':=s.toks) (o:=.tup [xs[i],ys[i]]) (λb ob q=>Ag _ q) (Ah _) ⟨eI (n:=2) (by decide),[u1,u2],.cons í (.cons ì .nil),⟨_,Aq _ rfl,rfl,_,rfl⟩⟩
  have old:∀b∈[z,TI,TO,i1,i2],b≠s.heap.objs.size:=λb hb q=>by
   have Xr:b=z∨b=TI∨b=TO∨b=i1∨b=i2:=by simpa using hb
   have yZ:b<s.heap.objs.size:=by
    rcases Xr with y |y |y |y |y
    .rw [y];exact AX h1
    .rw [y];exact AX h2
    .rw [y];exact AX h3
    .obtain ⟨o,r1,_⟩:=h4;rw[y];exact AX r1
    .obtain ⟨o,r1,_⟩:=h5;rw[y];exact AX r1
   rw[q]at yZ;exact B3 _ yZ
  have fe:∀b∈[z,TI,TO,i1,i2],jl X pins (cP H s.heap.objs.size (.tup [xs[i],ys[i]])) b:=λb hb=>by
   obtain⟨q0,q1,q2,q3,q4,q5⟩:=hf b hb;refine⟨?_,q1,q2,q3,q4,q5⟩;rw[bI]
   .exact q0
   .exact old b hb
  have I1 : bC X pins Y (cP H s.heap.objs.size (.tup [xs[i],ys[i]])) {s with heap:=Zi,toks:=s.toks}:=by
   have:=I0.oC (h':=Zi) (t':=s.toks) (L:=[z,TO,i1,i2]) (λb o hb q=>?_) (λb hb=>fe b (by
    have Xr:b=z∨b=TO∨b=i1∨b=i2:=by simpa using hb
    rcases Xr with y |y |y |y<;>simp[y]))
   .exact this
   .have bz:b≠z:=λy=>hb (by simp[y])
    have Ò:h'.get? b=some o:=by
     by_cases y:b=s.heap.objs.size
     .subst y;rw[Aq _ rfl]at q;rw[<- q];exact g5
     .rw [Heap.get?_push_ne _ _ _ y]at q;exact g7 b o bz (λy=>hb (by simp[y])) (λy=>hb (by simp[y])) (λy=>hb (by simp[y])) q
    exact k2.extBut b o bz Ò
  have ę:h'.get? TI=_:=g7 TI _ D.TIz D.TITO D.TIi1 D.TIi2 h2;refine⟨.ref s.heap.objs.size,_,I1,rfl,⟨_,xs[i],ys[i],rfl,Zf,a6.new Zf,by simp,by simp,a0⟩,⟨k1,k2.extBut _ _ D.TIz ę,⟨_,_,k2.extBut _ _ D.TOz g2⟩,g3.extBut k2.extBut D.i1z,g4.extBut k2.extBut D.i2z⟩,λb hb=>(fe b hb).1⟩
 done:=by
  kj_on
  obtain⟨h1,h2,⟨a,b',h3⟩,h4,h5⟩:=st;obtain⟨Xo,Ze,hi⟩:=hg;obtain⟨Xk,Wv,p1,ÿ⟩:=I.list Xo;obtain⟨Y9,YE,p2,ľ⟩:=I.list Ze;have Ϧ:=Wv.length;have hl2:=YE.length;refine wpAny_pyNext_zip_end (I.ok.hd hc) (sq D h1 h3 h4 h5 p1.isList p2.isList) h1 h2 h3 h4 h5 p1.isList p2.isList (by
   rcases hi with q |q
   .exact .inl (by simp;lia)
   .exact .inr (by simp;lia)) λh' eb=>⟨rfl,I.oC (t':=s.toks) (L:=[z,TO,i1,i2]) (λb o hb q=>eb b o (λy=>hb (by simp[y])) (λy=>hb (by simp[y])) (λy=>hb (by simp[y])) (λy=>hb (by simp[y])) q) (λb hb=>hf b (by
    have Xr:b=z∨b=TO∨b=i1∨b=i2:=by simpa using hb
    rcases Xr with y |y |y |y<;>simp[y]))⟩
 self:=λ_ _ _ _ _ st h=>by
  obtain⟨h1,_⟩:=st;exact EO h1 h
def Y_ (K:Ap)(t:TA):TI:=λY H R=>t Y H λvs c=>∃A a xs ys,vs=[.ref A,.ref a]/\eE K c A xs/\eE K c a ys/\R (Ţ K A a xs ys) c
theorem WI {T:List Expr}{v:Nat}{t:Dt}{l m:Expr}{A:TA}{p pos:Dt}(hg:Gl X "zip")(hm:X.mg "zip"=none)(ha:PA X [l,m] A)(O:Av [l,m] X.env=(false,eval l X.env)::Av [m] X.env:=by rfl)(U:(BY pos (Av [m] X.env)).any (·.1)=false:=by rfl):PI X (.Tuple T v t) (.Call (.Name "zip" p) [l,m] [] pos) (Y_ X.K A):=by
 intro pins s Y H R I h;refine GX (fG I hg hm FU (A7 (cy (ha pos pins s Y H _ I h) λus a ⟨vs,o,c,C,G⟩=>?_) O U));obtain⟨a1,a2,xs,ys,e,j,Q,q⟩:=G;subst e;obtain⟨u1,u2,rfl,u,r⟩:=vM C;cases u;cases r;obtain⟨n,z,g,M⟩:=c.list j;obtain⟨k,w,f,J⟩:=c.list Q;refine PySem.call_zip_2 g.isList f.isList λh' g1 g2 g3 g4 g5 g6 g7=>?_
 have I2:bC X pins Y o {a with heap:=h',toks:=a.toks}:=c.kept (t':=a.toks) g7;refine EO (s:={a with heap:=h',toks:=a.toks}) g1 ?_;refine⟨a.heap.objs.size+4,[a.heap.objs.size+4,a.heap.objs.size+2,a.heap.objs.size+3,a.heap.objs.size,a.heap.objs.size+1],_,_,o,rfl,I2,Ow a1 a2 _ _ _ _ _ xs ys ?_,⟨g1,g2,⟨_,_,g3⟩,g4,g5⟩,λb hb=>?_,q⟩
 .exact Sd _
 have L:a.heap.objs.size<=b:=by
  have B:b=a.heap.objs.size+4∨b=a.heap.objs.size+2∨b=a.heap.objs.size+3∨b=a.heap.objs.size∨b=a.heap.objs.size+1:=by simpa using hb
  rcases B with y |y |y |y |y
  .rw [y];exact CQ _ _
  .rw [y];exact CQ _ _
  .rw [y];exact CQ _ _
  .rw [y];exact Ah _
  .rw [y];exact CQ _ _
 exact c.ow L (c.cN.fresh L)
theorem Wn {a:TA}{G:DA}(h:ei K a G):lu K (Y_ K a) (Zv G):=λF0 H0 F H Y δ P R e w q=>h F0 H0 F H Y δ _ _ e w λds vs F' H' p x r=>by
 split at p
 .rename_i xs ys;obtain⟨v1,v2,rfl,⟨a1,U,rfl,h1,h2⟩,⟨a2,u,rfl,A,v⟩⟩:=wq r;have O:=h2.length;have J:=v.length;refine⟨a1,a2,U,u,rfl,x.fh.seq h1,x.fh.seq A,q _ _ F' H' p x λF1 H1 g c=>?_⟩;have f:=(g.trans c).seq h1;have Q:=(g.trans c).seq A;have L:((xs.zip ys).map λp=>D.tup [p.1,p.2]).length=min xs.length ys.length:=by simp
  refine⟨λi hi=>⟨f,Q,by lia,by lia⟩,⟨f,Q,by lia⟩,λi x H2 hi y=>?_⟩;obtain⟨t,y1,y2,rfl,ht,M,m,l,T⟩:=y;obtain⟨C,o,k⟩:=h2.get' m;obtain⟨B,n,j⟩:=v.get' l;refine⟨.tup [C,B],cP F1 t (.tup [y1,y2]),?_,cE.new c ht M T,t,[y1,y2],rfl,.inl (.inl a0),?_⟩
  .rw [AH,Ce (z:=(C,B)) |>.mpr ⟨o,n⟩];rfl
  .exact ⟨_,_,rfl,(k.mono g).mono (a6.Md (c.free ht)),_,_,rfl,(j.mono g).mono (a6.Md (c.free ht)),rfl⟩
 .exact p.elim
end
def VG (o:DO)(B:DE):DO:=λδ P=>o δ λr=>match r with
 | .nl [.fz d]=>B δ λy=>match y with
  | .int k=>(0<=k/\k<=1000000)/\P (.nl (An k.toNat (.fz d)))
  |_=>False
 |_=>False
section
variable {X:Cx}{K:Ap}{mg:Al->Option Aa}
theorem bA.rep (h:dY K F d v): ∀n:Nat,bA K F (An n d) (An n v)
 | 0=>rfl
 |n+1=>⟨v,An n v,rfl,h,bA.rep h n⟩
theorem uD (M:ez K t Eo)(J:dN K tb Eb): ez K (OC YI t tb) (VG Eo Eb):=λm j F H Y δ P Q e w q=>
 M m j F H Y δ _ _ e w λr v F1 H1 g h z=>by
  split at g
  .rename_i d;obtain⟨A0,⟨p,vs,B,rfl,rfl,G,T⟩,a2,a3⟩:=z;obtain⟨v0,r0,B1,C,rfl,rfl,⟨_,n⟩,O,_⟩:=T;subst O;refine J m j F1 H1 Y δ _ _ (e.on h) g λy u F2 H2 f a o=>?_
   split at f
   .rename_i k;obtain⟨⟨k0,k1⟩,A⟩:=f;have c:=h.trans a;cases o;refine⟨p,k,[v0],rfl,rfl,a.hh _ _ G,by lia,by lia,eI (by simp;omega),λl L=>?_⟩;have ef:(An k.toNat [v0]).flatten=An k.toNat v0:=List.flatten_replicate_singleton;rw[ef];have U:(An k.toNat d).map OV.fz=An k.toNat (OV.fz d):=DQ;refine q _ _ F2 _ A (c.trans (cE.grow a.fh (a6.new L))) ?_;rw[<- U];exact eO.list (c.hh.free L) (a.fh.free L) a0 (bA.rep (n.mono a.ff) _)
   .exact f.elim
  .exact g.elim
end
section
variable {prog:AA}{w:AT}{A:AU}{E:Aa->Af->Prop}{s:Af}
end
section
variable {X:Cx}{K:Ap}{tg:Expr}
end
section
variable {X:Cx}{K:Ap}
end
section
variable {prog:AA}{w:AT}{A:AU}{E:Aa->Af->Prop}{s:Af}
end
def Xab (a:DE)(L U:Ye):DE:=λδ P=>a δ λx=>L δ λlo=>U δ λhi=>match x with
 | .lst xs=>P (.lst (cutD xs lo hi))
 |_=>False
def V_:List D->(D->Prop)->Prop:=λds P=>match ds with
 | [.lst xs]=>∃ns:List Int,xs=ns.map D.int/\P (.int ns.sum)
 |_=>False
section
variable {X:Cx}{K:Ap}{mg:Al->Option Aa}
def U7 (K:Ap):List V->Hp->VK->Prop:=λxs H Q=>∃(l:Ac) (ns:List Int),xs=[.ref l]/\eE K H l (ns.map V.int)/\Q (.int ns.sum) H
theorem nh (hc:X.calm=true:=by rfl):gC X (.builtin "sum") (U7 X.K):=by
 intro pins s Y H xs us Q I r h;obtain⟨l,ns,rfl,a,q⟩:=h;obtain⟨u,rfl,U⟩:=jo r;cases U;obtain⟨t,v,pl,z⟩:=I.list a;have hi:EE t ns:=qO v;have hl:=pl.isList;obtain⟨ys,e⟩:=hi.allInts.items;have n:ns=ys.toList.map (·.1):=by rw[<- hi.numsOf,<- J7,<- e]
 rw[e]at hl;refine sum_intListG (I.ok.hd hc) hl λh' tk t' k=>?_
 refine⟨.int _,H,I.kept k,⟨t',rfl⟩,?_⟩;rw[preSum_eq,BI (by simp),<- n];exact q
theorem zw:UK K (U7 K) V_:=λF H ds vs P Q s rs w q=>by
 unfold V_ at w;split at w
 .obtain ⟨ns,rfl,w⟩:=w;obtain⟨v,rfl,p,us,rfl,h1,h2⟩:=gJ rs;rw[h_]at h2;subst h2;exact⟨p,ns,rfl,h1,q _ _ F H w (cE.refl s) rfl⟩
 .exact w.elim
end
def ř (A:DA):DE:=λδ P=>A δ λds=>match ds with
 | [.lst xs]=>D.jj xs=true/\P (.tup xs)
 |_=>False
def VN (a B:DE):DO:=λδ P=>a δ λx=>B δ λy=>match x,y with
 | .lst xs,.lst ys=>D.jj xs=true/\D.jj ys=true/\xs.length+ys.length<=1000000/\P (.nl ((xs++ys).map .fz))
 |_,_=>False
section
variable {X:Cx}{K:Ap}{mg:Al->Option Aa}
theorem ER.drop {g f F H:Hp}{Y:St}{δ:cY}{A:Nat->List Ac}(e:ER K g f F H Y δ A)(i:Nat):ER K g f F H Y (δ.set i none) (λj=>if j=i then [] else A j):=by
 have off:∀(j:Nat) (s:Sl),(δ.set i none)[j]?=some (some s)->j≠i/\δ[j]?=some (some s):=λj s h=>by
  by_cases z:j=i
  .subst z;have hi:j<δ.length:=by
    have:=(Ab.mp h).1
    rwa[Bi]at this
   rw[Ax hi]at h;cases h
  .rw [AK (Be z)]at h;exact⟨z,h⟩
 refine⟨by simp[e.len],e.ext,λj t h=>?_,λj d h=>e.bw j d (off j _ h).2,λj=>?_,λj k a J h1 h2=>?_,λj a c=>?_⟩
 .obtain ⟨z,h⟩:=off j _ h;rw[if_neg z];exact e.own j t h
 .split
  .exact CF
  .exact e.ji j
 .split at h1
  .cases h1
  .split at h2
   .cases h2
   .exact e.ko j k a J h1 h2
 .split at c
  .cases c
  .exact e.new j a c
theorem jt {e:Expr}{cW:List Expr}{env:DU}(h:∀a p,e≠.Starred a p):Av (e::cW) env=(false,eval e env)::Av cW env:=by
 rw[Av];exact h
def zz (K:Ap)(mg:Al->Option Aa)(x:Al)(d:D):Prop:=∃a,mg x=some (.ref a)/\∀F,dY K F d (.ref a)
def Ĵ (K:Ap)(d:D):TE:=λ_ H Q=>∀v,(∀F,dY K F d v)->Q v H
theorem jW (hg:Gl X x)(m:zz X.K X.mg x d)(hd:(x==("__debug__":Al))=false:=by decide): PE X (.Name x pos) (Ĵ X.K d):=by
 intro pins s Y H Q I h;obtain⟨a,e,r⟩:=m;exact lT (v:=.ref a) hg e rfl hd pins s Y H Q I (h _ r)
theorem v_:cO K (Ĵ K d) (dC d):=λc a F H Y δ P Q e w q=>λv r=>q d v F H w (cE.refl e.ext.fh) (r F)
theorem SU {t tb:TE}{A B:DE}(T:dN K t A)(O:dN K tb B):ez K (OC (Vd K) t tb) (VN A B):=λm k F H Y δ P Q e w q=>
 T m k F H Y δ _ _ e w λx v F1 H1 z h G=>O m k F1 H1 Y δ _ _ (e.on h) z λy u F2 H2 f g C=>by
  have a:=h.trans g;have c:=fv a.fh;split at f
  .obtain ⟨r,o,w5,n⟩:=f;obtain⟨p,vs,rfl,h1,h2⟩:=G.mono g.hh;obtain⟨J,us,rfl,U,j⟩:=C;have l1:=h2.length;have l2:=j.length;refine⟨p,J,vs,us,rfl,rfl,h1,U,eI (by lia),λl H' L M lk=>?_⟩;exact q _ _ _ H' n (a.trans (c.trans (cE.grow c.fh M))) (eO.list (a.hh.free L) (c.fh.free L) lk ((bA.lf a.fh h2 r).append (bA.lf a.fh j o)))
  .exact f.elim
end
open PySem PySem.Spec PyProof.Rows PyProof.V PySem.W
section
variable {P:AA}{w:AT}{H:Hp}{h:Heap}{a:Ac}{o:HO}
end
section
variable {P:AA}{w:AT}{K:Ap}{mg:Al->Option Aa}{base:Heap}{N:List Al}{qual:Al}{scope:BG}{f:Ac}{cd:Aa}{A:AU}{outer:List DU}{s:Af}{H:Hp}{E:XK}
end
section
variable {X:Cx}{pins:List (Ac×B5)}{Y:St}{H:Hp}{s:Af}
end
section
variable {X:Cx}
end
open PySem PySem.Spec PyProof.Rows
abbrev o9:=List OV->List D->(List OV->Prop)->Prop
def ZH (c:Al)(ns:List Al)(j:Nat)(E:DE):DE:=λδ P=>E δ λd=>match d with
 | .obj c' n ds=>c'=c/\n=ns/\∃x,ds[j]?=some x/\P x
 |_=>False
def Pz (c:Al)(ns:List Al)(i j:Nat)(O:DO):DS:=λe δ=>match δ[i]? with
 |some (some (.own (.ob o c' n ts)))=>c'=c/\n=ns/\j<ts.length/\O δ λr=>e.nx (δ.set i (some (.own (.ob o c ns (ts.set j r)))))
 |_=>False
def PD (c:Al)(ns:List Al)(i j:Nat)(O:DO):DS:=λe δ=>match δ[i]? with
 |some (some (.own (.ob o c' n ts)))=>c'=c/\n=ns/\j=ts.length/\O δ λr=>e.nx (δ.set i (some (.own (.ob o c ns (ts++[r])))))
 |_=>False
def PF (c:Al)(ns:List Al)(i j:Nat)(g:Int->Int->Int)(E:DE):DS:=λe δ=>match δ[i]? with
 |some (some (.own (.ob o c' n ts)))=>c'=c/\n=ns/\match ts[j]? with
  |some (.fz (.int x))=>E δ λd=>match d with
   | .int y=>e.nx (δ.set i (some (.own (.ob o c ns (ts.set j (.fz (.int (g x y))))))))
   |_=>False
  |_=>False
 |_=>False
def PH (c:Al)(ns:List Al)(i j:Nat)(O:DO):DS:=λe δ=>match δ[i]? with
 |some (some (.own (.ob o c' n ts)))=>c'=c/\n=ns/\match ts[j]? with
  |some (.nl us)=>us.length<1000000/\O δ λr=>e.nx (δ.set i (some (.own (.ob o c ns (ts.set j (.nl (us++[r])))))))
  |_=>False
 |_=>False
def PB (c:Al)(ns:List Al)(i j k:Nat):DS:=λe δ=>match δ[i]? with
 |some (some (.own (.ob o c' n ts)))=>c'=c/\n=ns/\∃us d,ts[j]?=some (.nl (us++[.fz d]))/\e.nx ((δ.set i (some (.own (.ob o c ns (ts.set j (.nl us)))))).set k (some (.own (.fz d))))
 |_=>False
def v9 (c:Al)(ns:List Al)(i n:Nat)(sp:o9)(A:DA):DS:=λe δ=>match δ[i]? with
 |some (some (.own (.ob o c' a ts)))=>c'=c/\a=ns/\A δ λds=>ds.length+1=n/\sp ts ds λt=>e.nx (δ.set i (some (.own (.ob o c ns t))))
 |_=>False
def pV (c:Al)(ns:List Al)(i j:Nat)(sp:o9):DS:=λe δ=>match δ[i]? with
 |some (some (.own (.ob o c' n ts)))=>c'=c/\n=ns/\∃us d,ts[j]?=some (.nl (us++[.fz d]))/\sp (ts.set j (.nl us)) [d] λt=>e.nx (δ.set i (some (.own (.ob o c ns t))))
 |_=>False
def Ry (c:Al)(ns:List Al)(n:Nat)(sp:dF)(E:DE)(A:DA):DO:=λδ P=>E δ λd=>match d with
 | .obj c' a fs=>c'=c/\a=ns/\A δ λds=>ds.length+1=n/\sp (.obj c ns fs::ds) λr=>r.lf=true/\P r
 |_=>False
def LY (c:Al)(ns:List Al)(n:Nat)(sp:o9)(A:DA):DO:=λδ P=>A δ λds=>ds.length+1=n/\sp [] ds λts=>P (.ob none c ns ts)
noncomputable def eQ (N:List Al)(c:Al)(ns:List Al)(a:Ac)(ts:List OV)(ds:List D):cY:=some (.own (.ob (some a) c ns ts))::(ds.map (λd=>some (.own (.fz d)))++An (N.length-(ds.length+1)) none)
section
theorem mY:∀{ns:List Al} {vs:List V} {j:Nat},ns.Nodup->ns[j]?=some f->(ns.zip vs).lookup f=vs[j]?
 | [],_,_,_,h=>by simp at h
 |g::ns,[],j,_,_=>rfl
 |g::ns,v::vs,0,a,h=>by
  simp at h
  subst h;simp
 |g :: ns,v::vs,j+1,a,h=>by
  have h':ns[j]?=some f:=h;obtain⟨e,c⟩:=AD.mp a;have n:(f==g)=false:=by
   rw[beq_eq_false_iff_ne];intro z;exact e (by rw[<- z];exact Ai h')
  simp only[EI,B9,n];exact mY c h'
theorem eJ:∀{ns:List Al} {vs:List V},f∉ns->(ns.zip vs).lookup f=none
 | [],_,_=>rfl
 |g::ns,[],_=>rfl
 |g :: ns,v::vs,h=>by
  have n:(f==g)=false:=by
   rw[beq_eq_false_iff_ne];intro z;exact h (by rw[z];exact Az)
  simp only[EI,B9,n];exact eJ λz=>h (Aw _ z)
theorem qa:∀{ns:List Al} {vs:List V} {j:Nat},ns.Nodup->ns[j]?=some f->j<vs.length->gE f u (ns.zip vs)=ns.zip (vs.set j u)
 | [],_,_,_,h,_=>by simp at h
 |g::ns,[],j,_,_,h=>by simp at h
 |g::ns,v::vs,0,a,h,_=>by
  simp at h
  subst h;simp[gE]
 |g::ns,v::vs,j+1,a,h,hl=>by
  have h':ns[j]?=some f:=h;obtain⟨e,c⟩:=AD.mp a;have n:¬ g=f:=λz=>e (by rw[z];exact Ai h')
  simp only[EI,gE,if_neg n,CD];rw[qa c h' (by simpa using hl)]
theorem wz:∀{ns:List Al} {vs:List V},ns.Nodup->ns[vs.length]?=some f->gE f u (ns.zip vs)=ns.zip (vs++[u])
 | [],_,_,h=>by simp at h
 |g::ns,[],a,h=>by
  simp at h
  subst h;simp[gE]
 |g::ns,v::vs,a,h=>by
  have h':ns[vs.length]?=some f:=h;obtain⟨e,c⟩:=AD.mp a;have n:¬ g=f:=λz=>e (by rw[z];exact Ai h')
  simp only[EI,gE,if_neg n,CM];rw[wz c h']
theorem QF {g f A B:List Ac}(h:(g++(f++A)).Nodup)(h1:B.Nodup)(h2:∀b∈B,b∈f∨b∉g++(f++A)):(g++(B++A)).Nodup:=by
 obtain⟨j,M,m⟩:=AY.mp h;obtain⟨k,Q,q⟩:=AY.mp M;refine AY.mpr ⟨j,AY.mpr ⟨h1,Q,λx c y e z=>?_⟩,λx c y e z=>?_⟩
 .rcases h2 x c with a |a
  .exact q x a y e z
  .exact a (by rw[z];simp[e])
 .rcases AB.mp e with a |a
  .rcases h2 y a with w |w
   .exact m x c y (by simp[w]) z
   .exact w (by rw[<- z];simp[c])
  .exact m x c y (by simp[a]) z
end
structure dE (K:Ap) (c:Al) (ns:List Al):Prop where
 ex:∃C,C4 K Am c=some (some (.ref C))/\xP K C/\(∀f∈ns,hZ K C f)
 nd:ns.Nodup
 zg:ns.length<1000
structure e7 (K:Ap) (c m q:Al) (st:AZ) (f:Ac) (fd:Ak):Prop where
 fn:NT K m q st f fd
 cl:∃C,C4 K Am c=some (some (.ref C))/\xP K C/\RY K C m f
structure cS (P:AA) (w:AT) (K:Ap) (mg:Al->Option Aa) (base:Heap) (c m:Al) (k:Nat) (ps:List Al) (sp:Sp):Prop where
 ex:∃C f fd,C4 K Am c=some (some (.ref C))/\xP K C/\RY K C m f/\fK P w K mg base jh k f fd ps sp/\gD K fd ps []
structure xH (K:Ap) (mg:Al->Option Aa) (c:Al) (f:Ac):Prop where
 cl:∃C,C4 K Am c=some (some (.ref C))/\Mk K C f/\mg c=some (.ref C)
structure sk (P:AA) (w:AT) (K:Ap) (mg:Al->Option Aa) (base:Heap) (c:Al) (k:Nat) (ps:List Al) (sp:Sp):Prop where
 ex:∃C f fd,C4 K Am c=some (some (.ref C))/\Mk K C f/\mg c=some (.ref C)/\fK P w K mg base jh k f fd ps sp/\gD K fd ps []
def ir (K:Ap)(c m:Al)(sp:Sp)(a:TE)(t:TA):TE:=λY H Q=>∃C,C4 K Am c=some (some (.ref C))/\OF C m sp [] E0 a t Y H Q
def tZ (K:Ap)(c:Al)(sp:Sp)(t:TA):TE:=λY H Q=>∃C,C4 K Am c=some (some (.ref C))/\UT C sp [] E0 t Y H Q
section
variable {X:Cx}{c m:Al}{k:Nat}{ps:List Al}{sp:Sp}{o e:Expr}{es:List Expr}{ta:TE}{t:TA}{p pos apos:Dt}
theorem ed (C:cS X.prog X.w X.K X.mg X.base c m k ps sp)(r:cC k X.A)(g:PE X o ta)(j:PA X (e::es) t)
  (T:Av (e::es) X.env=(false,eval e X.env)::Av es X.env:=by rfl) (l:(BY pos (Av es X.env)).any (·.1)=false:=by rfl)
  (ht:eval (.Call (.Attribute o m apos) (e::es) [] pos) X.env=(do
   let v <- eval o X.env
   F6 apos.atName
   let (f,first) <- EC [v] (Fz v m pl)
   HW pos f first (BY pos (Av (e::es) X.env)) (GQ pos (Fw [] X.env))):=by rfl):
  PE X (.Call (.Attribute o m apos) (e::es) [] pos) (ir X.K c m sp ta t):=by
 intro pins s Y H Q I ⟨q,a,h⟩;obtain⟨C,f,fd,n,L,M,F,B⟩:=C.ex;rw[n]at a;cases a;exact Td g L M F r B .nil wF j T l ht pins s Y H Q I h
theorem eY (C:cS X.prog X.w X.K X.mg X.base c m k ps sp)(r:cC k X.A)(g:PE X o ta)
  (ht:eval (.Call (.Attribute o m apos) [] [] pos) X.env=(do
   let v <- eval o X.env
   F6 apos.atName
   let (f,first) <- EC [v] (Fz v m pl)
   HW pos f first (BY pos (Av [] X.env)) (GQ pos (Fw [] X.env))):=by rfl):
  PE X (.Call (.Attribute o m apos) [] [] pos) (ir X.K c m sp ta gS):=by
 intro pins s Y H Q I ⟨n,a,h⟩;obtain⟨C,f,fd,j,l,M,F,B⟩:=C.ex;rw[j]at a;cases a;exact Qd g l M F r B .nil wF (ht:=ht) pins s Y H Q I h
theorem uQ (C:sk X.prog X.w X.K X.mg X.base c k ps sp)(r:cC (k+1) X.A)(hg:Gl X c)(q:PA X (e::es) t)
  (B:(c==("__debug__":Al))=false:=by decide) (j:Av (e::es) X.env=(false,eval e X.env)::Av es X.env:=by rfl) (l:(BY pos (Av es X.env)).any (·.1)=false:=by rfl):
  PE X (.Call (.Name c p) (e::es) [] pos) (tZ X.K c sp t):=by
 intro pins s Y H Q I ⟨v,a,h⟩;obtain⟨C,f,fd,u,M,g,F,n⟩:=C.ex;rw[u]at a;cases a;exact Te M F r hg g n .nil wF q B j l pins s Y H Q I h
end
section
variable {K:Ap}{c f m:Al}{ns:List Al}{i j:Nat}{ta te:TE}{E:DE}{Eo:DO}
theorem cV (l:dE K c ns)(hf:ns[j]?=some f)(h:dN K ta E): dN K (xW K ta f) (ZH c ns j E):=λM G F H Y δ P Q e w q=>h M G F H Y δ _ _ e w λd v J B g n o=>by
 split at g
 .obtain ⟨rfl,rfl,x,p,g⟩:=g;obtain⟨a,C,z,vs,rfl,t,h1,hl,h2⟩:=o;obtain⟨O,k,L,A⟩:=l.ex;rw[t]at k;cases k;obtain⟨u,U,r⟩:=h2.get p;exact⟨a,C,z,_,u,rfl,h1,L,A f (Ai hf),by rw[mY l.nd hf];exact U,q _ _ J B g n r⟩
 .exact g.elim
theorem ER.obj {A:Nat->List Ac}(e:ER K F0 u F H Y δ A)(Q:Y[i]?=some (some (.ref a)))(q:A i=a::g::B)
  (h0:C4 K Am c=some (some (.ref C))) (T:∀J,o=some J->a=J) (h1:r a=some (.ins C g (ns.zip v))) (h2:r g=some (.own a)) (hl:t.length<=ns.length) (h3:a8 K F r t v k) (L:k.Nodup)
  (G:∀b∈k,b∈B∨(F b=none/\u b=none/\∀j,b∉A j)) (keep:∀b o,b∉A i->H b=some o->r b=some o): cx K F0 u F r Y (δ.set i (some (.own (.ob o c ns t)))):=by
 have p:=e.ji i;rw[q]at p;obtain⟨w,O⟩:=AD.mp p;obtain⟨M,n4⟩:=AD.mp O;have l:∀b,b∈a::g::k->b∈A i∨(F b=none/\u b=none/\∀j,b∉A j):=λb h=>by
  rw[q];rcases AJ.mp h with z |z
  .exact .inl (by simp[z])
  .rcases AJ.mp z with z |z
   .exact .inl (by simp[z])
   .rcases G b z with y |y
    .exact .inl (by simp[y])
    .exact .inr y
 have n:∀b,b∈A i->b∉B->b∉k:=λb h hn z=>by
  rcases G b z with y |y
  .exact hn y
  .exact y.2.2 i h
 refine e.change i Q (t':=.ob o c ns t) (B:=a::g::k) ⟨a,C,g,v,k,rfl,rfl,h0,T,h1,h2,hl,h3⟩ ?_ ?_ ?_ keep
 .refine AD.mpr ⟨λz=>?_,AD.mpr ⟨λz=>?_,L⟩⟩
  .rcases AJ.mp z with z |z
   .exact w (by simp[z])
   .exact n a (by simp[q]) (λy=>w (by simp[y])) z
  .exact n g (by simp[q]) M z
 .intro b h;rcases l b h with z |z
  .exact ⟨(e.new i b z).1,(e.new i b z).2.1⟩
  .exact ⟨z.1,z.2.1⟩
 .intro j U b h z;rcases l b h with y |y
  .exact e.ko j i b U z y
  .exact y.2.2 j z
theorem K6 (CV:dE K c ns)(hf:ns[j]?=some f)(h:ez K te Eo):bY K (Wr K (dt i) te f) (Pz c ns i j Eo):=λF0 H0 F H Y δ De En e l w=>by
 obtain⟨A,e⟩:=e;unfold Pz at w;split at w
 .rename_i o c' O ts hs;obtain⟨rfl,rfl,hj,w⟩:=w;obtain⟨v,hv,a,C,dx,vs,B,rfl,M,h0,ho,h1,h2,hl,h3⟩:=e.own i _ hs;obtain⟨C',L,cl,na⟩:=CV.ex;rw[h0]at L;cases L;refine h F0 H0 F H Y δ _ _ ⟨A,e⟩ w λr u F1 H1 p t n=>?_
  obtain⟨C0,c1,c2,U⟩:=n;have e1:=e.on t;have hlen:=h3.length;refine⟨_,hv,a,C,dx,_,rfl,t.hh _ _ h1,cl,na f (Ai hf),?_,?_⟩
  .have:=CV.zg;rw[FV];lia
  rw[qa CV.nd hf (by lia)];have Q:a8 K F1 H1 ts vs B:=h3.frame t.ff λb _ xs z=>t.hh _ _ z
  obtain⟨v0,A1,B0,A2,f1,rfl,f3,f4⟩:=Q.focus (Ad hj);have G:=e.ji i;rw[M]at G;obtain⟨n1,n2⟩:=AD.mp G;obtain⟨n3,n4⟩:=AD.mp n2;have k:∀j b,b∈C0->b∉A j:=λj b g z=>by
   obtain⟨_,_,xs,q,_⟩:=e.new j b z;rw[(U b g).1]at q;cases q
  have J:=k i;have off:∀b,b∈A1++(B0++A2)->b≠a:=λb g z=>n1 (by rw[<- z];exact Aw _ g)
  have sub:∀b,b∈A1++A2->b∈A1++(B0++A2):=λb g=>by
   rcases AB.mp g with z |z<;>simp[z]
  have T:=f4 F1 (cP H1 a (.ins C dx (O.zip (vs.set j u)))) r u C0 (a6.refl _) (λb g xs z=>a5 (off b (sub b g)) z) (c1.frame (a6.refl _) λb g xs z=>a5 (λy=>J b g (by rw[M,y];simp)) z);refine l.nx F1 _ Y _ (e1.obj hv M h0 ho a0 (a5 (λz=>n1 (by rw[<- z];simp)) (t.hh _ _ h2)) (by rw[Bi];exact hl) T (QF n4 c2 λb g=>.inr λz=>J b g (by rw[M];simp only[AJ];exact .inr (.inr z))) (λb g=>?_) λb o' g z=>a5 (λy=>g (by rw[M,y];simp)) z) p;rcases AB.mp g with z |z
  .exact .inl (by simp[z])
  .rcases AB.mp z with z |z
   .exact .inr ⟨(U b z).2,e.ext.hh.free (U b z).1,λj=>k j b z⟩
   .exact .inl (by simp[z])
 .exact w.elim
theorem fV (CV:dE K c ns)(hf:ns[j]?=some f)(h:ez K te Eo): bY K (Wr K (dt i) te f) (PD c ns i j Eo):=λF0 H0 F H Y δ De En e l w=>by
 obtain⟨A,e⟩:=e;unfold PD at w;split at w
 .rename_i o c' T ts hs;obtain⟨rfl,rfl,hj,w⟩:=w;obtain⟨v,hv,a,C,dx,vs,B,rfl,Q,h0,ho,h1,h2,hl,h3⟩:=e.own i _ hs;obtain⟨C',O,cl,na⟩:=CV.ex;rw[h0]at O;cases O;refine h F0 H0 F H Y δ _ _ ⟨A,e⟩ w λr u F1 H1 p G n=>?_
  obtain⟨C0,c1,c2,c3⟩:=n;have e1:=e.on G;have L:=h3.length;refine⟨_,hv,a,C,dx,_,rfl,G.hh _ _ h1,cl,na f (Ai hf),?_,?_⟩
  .have:=CV.zg;rw[FV];lia
  have t:=hf;rw[hj,L]at t;rw[wz CV.nd t];have U:a8 K F1 H1 ts vs B:=h3.frame G.ff λb _ xs z=>G.hh _ _ z
  have J:=e.ji i;rw[Q]at J;obtain⟨n1,n2⟩:=AD.mp J;obtain⟨n3,n4⟩:=AD.mp n2;have k:∀j b,b∈C0->b∉A j:=λj b g z=>by
   obtain⟨_,_,xs,q,_⟩:=e.new j b z;rw[(c3 b g).1]at q;cases q
  have M:=k i;have off:∀b,b∈B->b≠a:=λb g z=>n1 (by rw[<- z];exact Aw _ g)
  have yZ:=(Ab.mp t).1;have Õ:a8 K F1 (cP H1 a (.ins C dx (T.zip (vs++[u])))) (ts++[r]) (vs++[u]) (B++C0):=a8.append (U.frame (a6.refl _) λb g xs z=>a5 (off b g) z) (a8.one (c1.frame (a6.refl _) λb g xs z=>a5 (λy=>M b g (by rw[Q,y];simp)) z));refine l.nx F1 _ Y _ (e1.obj hv Q h0 ho a0 (a5 (λz=>n1 (by rw[<- z];simp)) (G.hh _ _ h2)) (by rw[AF,BM];lia) Õ (AY.mpr ⟨n4,c2,λx hx y hy z=>M y hy (by rw[Q,<- z];simp[hx])⟩) (λb g=>?_) λb o' g z=>a5 (λy=>g (by rw[Q,y];simp)) z) p;rcases AB.mp g with z |z
  .exact .inl z
  .exact .inr ⟨(c3 b z).2,e.ext.hh.free (c3 b z).1,λj=>k j b z⟩
 .exact w.elim
theorem lR {g:Int->Int->Int}{rd:V->V->Hp->VK->Prop}(J:dE K c ns)(hf:ns[j]?=some f)(L:∀x y H Q,Q (.int (g x y)) H->rd (.int x) (.int y) H Q)(h:dN K te E): bY K (K_ K (dt i) te rd f) (PF c ns i j g E):=λF0 H0 F H Y δ De En e l w=>by
 obtain⟨A,e⟩:=e;unfold PF at w;split at w
 .rename_i o c' n ts hs;obtain⟨rfl,rfl,w⟩:=w;obtain⟨x,hx,w⟩:∃x,ts[j]?=some (.fz (.int x))/\E δ λd=>match d with
   | .int y=>De.nx (δ.set i (some (.own (.ob o c' n (ts.set j (.fz (.int (g x y))))))))
   |_=>False:=by
   split at w
   .exact ⟨_,by assumption,w⟩
   .exact w.elim
  obtain⟨v,hv,a,C,U,vs,B,rfl,T,h0,ho,h1,h2,hl,h3⟩:=e.own i _ hs;obtain⟨C',G,cl,na⟩:=J.ex;rw[h0]at G;cases G;obtain⟨v0,A1,B0,A2,f1,eB,⟨f3,O⟩,f4⟩:=h3.focus hx;subst f3
  cases (show v0=V.int x from O)
  refine⟨_,hv,a,C,U,_,_,rfl,h1,cl,na f (Ai hf),(by rw[mY J.nd hf];exact f1),?_⟩;refine h F0 H0 F H Y δ _ _ ⟨A,e⟩ w λd u F1 H1 p k ru=>?_
  split at p
  .rename_i y
   cases (show u=V.int y from ru)
   have e1:=e.on k;refine L _ _ _ _ ⟨U,_,k.hh _ _ h1,?_,?_⟩
   .have:=J.zg;rw[FV];lia
   rw[qa J.nd hf (Ab.mp f1).1];have r:=e.ji i;rw[T]at r;obtain⟨n1,n2⟩:=AD.mp r;obtain⟨n3,n4⟩:=AD.mp n2;subst eB;have M:=f4 F1 (cP H1 a (.ins C U (n.zip (vs.set j (.int (g x y)))))) (.fz (.int (g x y))) (.int (g x y)) [] k.ff (λb t xs z=>a5 (λq=>n1 (by rw[<- q];exact Aw _ t)) (k.hh _ _ z)) ⟨rfl,rfl⟩;exact l.nx F1 _ Y _ (e1.obj hv T h0 ho a0 (a5 (λz=>n1 (by rw[<- z];simp)) (k.hh _ _ h2)) (by rw[Bi];exact hl) M n4 (λb t=>.inl t) λb o' t z=>a5 (λy=>t (by rw[T,y];simp)) z) p
  .exact p.elim
 .exact w.elim
theorem kh (CV:dE K c ns)(hf:ns[j]?=some f)(h:ez K te Eo):bY K (jr (UW K "list" oO (xW K (dt i) f) (da te gS))) (PH c ns i j Eo):=λF0 H0 F H Y δ De En e l w=>by
 obtain⟨A,e⟩:=e;unfold PH at w;split at w
 .rename_i o c' Ĺ ts hs;obtain⟨rfl,rfl,w⟩:=w;obtain⟨us,hx,ā,w⟩:∃us,ts[j]?=some (.nl us)/\us.length<1000000/\Eo δ λr=>De.nx (δ.set i (some (.own (.ob o c' Ĺ (ts.set j (.nl (us++[r]))))))):=by
   split at w
   .exact ⟨_,by assumption,w⟩
   .exact w.elim
  obtain⟨v,hv,a,C,dx,vs,B,rfl,T,h0,ho,h1,h2,hl,h3⟩:=e.own i _ hs;obtain⟨C',O,cl,na⟩:=CV.ex;rw[h0]at O;cases O;obtain⟨v0,A1,B0,A2,f1,rfl,f3,f4⟩:=h3.focus hx;obtain⟨t,U,B1,rfl,rfl,hc,L⟩:=f3;refine⟨_,hv,a,C,dx,_,.ref t,rfl,h1,cl,na f (Ai hf),(by rw[mY CV.nd hf];exact f1),.inl ⟨rfl,_,eE.of hc⟩,?_⟩;refine h F0 H0 F H Y δ _ _ ⟨A,e⟩ w λr u F1 H1 p G n=>?_
  obtain⟨C0,c1,c2,c3⟩:=n;have e1:=e.on G;have Ā:=L.length;refine⟨t,U,u,rfl,rfl,G.hh _ _ hc,sv (by lia),?_⟩;have M:=e.ji i;rw[T]at M;obtain⟨n1,n2⟩:=AD.mp M;obtain⟨n3,n4⟩:=AD.mp n2;have g:∀j b,b∈C0->b∉A j:=λj b k z=>by
   obtain⟨_,_,xs,q,_⟩:=e.new j b z;rw[(c3 b k).1]at q;cases q
  have J:t∈A i:=by rw[T];simp
  obtain⟨m1,m2,m3⟩:=AY.mp n4;obtain⟨q1,q2,q3⟩:=AY.mp m2;obtain⟨s1,s2⟩:=AD.mp q1;have off:∀b∈A1++A2,b≠t:=λb k z=>by
   subst z;rcases AB.mp k with y |y
   .exact m3 b y b (by simp) rfl
   .exact q3 b (by simp) b y rfl
  have ϶:a≠t:=λz=>n1 (by rw[z];simp)
  have ē:dx≠t:=λz=>n3 (by rw[z];simp)
  have Q:=f4 F1 (cP H1 t (.lst (U++[u]))) (.nl (us++[r])) (.ref t) (t::(B1++C0)) G.ff (λb k xs z=>a5 (off b k) (G.hh _ _ z))
   ⟨t,U++[u],B1++C0,rfl,rfl,a0,a8.append (L.frame G.ff λb k xs z=>a5 (λy=>s1 (by rw[<- y];exact k)) (G.hh _ _ z)) (a8.one (c1.frame (a6.refl _) λb k xs z=>a5 (λy=>g i b k (by rw[y];exact J)) z))⟩
  rw[fu f1]at Q;refine l.nx F1 _ Y _ (e1.obj hv T h0 ho (a5 ϶ (G.hh _ _ h1)) (a5 ē (G.hh _ _ h2)) (by rw[Bi];exact hl) Q (QF n4 ?_ λb k=>?_) (λb k=>?_) λb o' k z=>a5 (λy=>k (by rw[y];exact J)) z) p
  .refine AD.mpr ⟨λz=>?_,AY.mpr ⟨s2,c2,λx hx y hy z=>g i y hy (by rw[T,<- z];simp[hx])⟩⟩;rcases AB.mp z with y |y
   .exact s1 y
   .exact g i t y J
  .rcases AJ.mp k with y |y
   .exact .inl (by simp[y])
   .rcases AB.mp y with y |y
    .exact .inl (by simp[y])
    .exact .inr λz=>g i b y (by rw[T];simp only[AJ];exact .inr (.inr z))
  .simp only[AB,AJ]at k;rcases k with z | (z |z |z) |z
   .exact .inl (by simp[z])
   .exact .inl (by simp[z])
   .exact .inl (by simp[z])
   .exact .inr ⟨(c3 b z).2,e.ext.hh.free (c3 b z).1,λj=>g j b z⟩
   .exact .inl (by simp[z])
 .exact w.elim
theorem ER.Zm {A:Nat->List Ac}(e:ER K F0 H0 F H Y δ A)(CV:dE K c ns)(hf:ns[j]?=some f)(hs:δ[i]?=some (some (.own (.ob o c ns ts))))(hx:ts[j]?=some (.nl (us++[.fz d]))):
  ∃a g k y C G fs,Y[i]?=some (some (.ref a))/\H a=some (.ins C G fs)/\C4 K Am c=some (some (.ref C))/\xP K C/\hZ K C f/\fs.lookup f=some (.ref g)/\H g=some (.lst k)/\k[k.length-1]?=some y/\dY K F d y/\(cP H g (.lst k.dropLast)) a=some (.ins C G fs)/\
   cx K F0 H0 F (cP H g (.lst k.dropLast)) Y (δ.set i (some (.own (.ob o c ns (ts.set j (.nl us)))))):=by
 obtain⟨v,hv,a,C,G,vs,B,rfl,J,h0,ho,h1,h2,hl,h3⟩:=e.own i _ hs;obtain⟨C',q,cl,na⟩:=CV.ex;rw[h0]at q;cases q;obtain⟨v0,A1,B0,A2,f1,rfl,f3,f4⟩:=h3.focus hx;obtain⟨g,k,M,rfl,rfl,hc,l⟩:=f3;obtain⟨w,y,rfl,L,Q,O,eB⟩:∃w y,k=w++[y]/\∃L,a8 K F H us w L/\dY K F d y/\M=L:=by
  clear f4 h3 hx J hc f1
  induction us generalizing k M with
  |nil=>
   obtain⟨v,r,B,C,rfl,rfl,g1,g2,g3⟩:=l;subst g2 g3;exact⟨[],v,rfl,[],⟨rfl,rfl⟩,g1.2,by rw[g1.1];rfl⟩
  |cons t us ih=>
   obtain⟨v,r,B,C,rfl,rfl,g1,g2⟩:=l;obtain⟨w,y,rfl,L,k1,k2,rfl⟩:=ih _ _ g2;exact⟨v::w,y,rfl,B++C,⟨v,w,B,C,rfl,rfl,g1,k1⟩,k2,rfl⟩
 subst eB;have n:=e.ji i;rw[J]at n;obtain⟨n1,n2⟩:=AD.mp n;obtain⟨n3,n4⟩:=AD.mp n2;have U:g∈A i:=by rw[J];simp
 obtain⟨m1,m2,m3⟩:=AY.mp n4;obtain⟨q1,q2,q3⟩:=AY.mp m2;obtain⟨s1,s2⟩:=AD.mp q1;have off:∀b∈A1++A2,b≠g:=λb h z=>by
  subst z;rcases AB.mp h with y |y
  .exact m3 b y b (by simp) rfl
  .exact q3 b (by simp) b y rfl
 have p:a≠g:=λz=>n1 (by rw[z];simp)
 have T:G≠g:=λz=>n3 (by rw[z];simp)
 have edl:(w++[y]).dropLast=w:=by simp
 have u:=f4 F (cP H g (.lst (w++[y]).dropLast)) (.nl us) (.ref g) (g::M) (a6.refl _) (λb h xs z=>a5 (off b h) z) ⟨g,(w++[y]).dropLast,M,rfl,rfl,a0,by
  rw[edl];exact Q.frame (a6.refl _) λb h xs z=>a5 (λy=>s1 (by rw[<- y];exact h)) z⟩
 rw[fu f1]at u;refine⟨a,g,w++[y],y,C,G,_,hv,h1,h0,cl,na f (Ai hf),(by rw[mY CV.nd hf];exact f1),hc,by simp,O,a5 p h1,?_⟩;exact e.obj hv J h0 ho (a5 p h1) (a5 T h2) (by rw[Bi];exact hl) u n4 (λb h=>.inl h) λb o' h z=>a5 (λy=>h (by rw[y];exact U)) z
theorem SN (z:dE K c ns)(hf:ns[j]?=some f): bY K (kB (Sq K "list" Wz (xW K (dt i) f)) (gO k)) (PB c ns i j k):=λM J F H Y δ Q O e l w=>by
 obtain⟨A,e⟩:=e;unfold PB at w;split at w
 .rename_i o c' n ts t;obtain⟨rfl,rfl,us,d,q,w⟩:=w;obtain⟨a,B,g,y,C,u,fs,v,h1,G,L,h,hl,hc,p,r,_,e'⟩:=e.Zm z hf t q;refine⟨_,v,a,C,u,fs,.ref B,rfl,h1,L,h,hl,.inl ⟨rfl,_,eE.of hc⟩,B,g,y,rfl,rfl,hc,p,?_⟩;exact l.nx F _ _ _ (e'.put (cE.refl e'.ext.fh) k (.fz r)) w
 .exact w.elim
def OM (K:Ap)(n:Nat)(c:Al)(ns:List Al)(SP:Hp->o9):Sp:=Sw n λvs H Q=>∃F a C g ts v B cW ds P,vs=V.ref a::cW/\C4 K Am c=some (some (.ref C))/\a6 F H/\H a=some (.ins C g (ns.zip v))/\H g=some (.own a)/\ts.length<=ns.length/\a8 K F H ts v B/\
 (a::g::B).Nodup/\(∀b∈a::g::B,F b=none)/\bA K F ds cW/\SP F ts ds P/\
 ∀t l h e k p,P t->a6 F l->a6 l h->(∀b o,b∉a::g::B->H b=some o->h b=some o)->(∀b o,F b=none->H b=some o->Vl o=false->b∉a::g::B->l b=none)->h a=some (.ins C e (ns.zip k))->h e=some (.own a)->t.length<=ns.length->a8 K l h t k p->
  (a::e::p).Nodup->(∀b∈a::e::p,l b=none/\(b∈a::g::B∨H b=none))->Q .cB h
abbrev pF (K:Ap)(n:Nat)(c:Al)(ns:List Al)(sp:o9):Sp:=OM K n c ns λ_=>sp
theorem x4 (e:cx K F0 H0 F H Y δ)(hs:δ[i]?=some (some (.own (.ob o c ns ts))))(Ľ:Y[i]?=some (some (.ref p)))(l:Lk K F0 H0 De En)(hn:ds.length+1=n)
  (r:bA K F ds us) {SP:Hp->o9} (Zd:SP F ts ds λU=>De.nx (δ.set i (some (.own (.ob o c ns U))))): OM K n c ns SP (.ref p::us) H (λ_ H2=>En.nx Y H2) E0:=by
 obtain⟨A,e⟩:=e;obtain⟨v,hv,a,C,dx,vs,B,rfl,w,h0,ho,h1,h2,hl,L⟩:=e.own i _ hs;rw[Ľ]at hv;cases hv;have R9:=e.ji i;rw[w]at R9;have yZ:i<δ.length:=(Ab.mp hs).1;refine⟨by rw[AR,<- r.length];exact hn,F,p,C,dx,ts,vs,B,us,ds,_,rfl,h0,e.ext.fh,h1,h2,hl,L,R9,λb g=>(e.new i b (by rw[w];exact g)).1,r,Zd,?_⟩;intro U F' H' Q á B' pt sF sH keep O ń R_ č Vu ø G;refine l.nx F' H' Y _ ⟨λj=>if j=i then p::Q::B' else A j,?_⟩ pt;refine⟨by simp[e.len],⟨e.ext.ff.trans sF,λb o h=>?_,sH,λb o h1 h2 L=>?_⟩,λj t J=>?_,λj d J=>?_,λj=>?_,λj k b Ñ h1 h2=>?_,λj b g=>?_⟩
 .exact keep b o (λz=>by rw[(e.new i b (by rw[w];exact z)).2.1]at h;cases h) (e.ext.hh _ _ h)
 .exact O b o (e.ext.no b o h1 h2 L) (e.ext.hh _ _ h2) L (λz=>by rw[(e.new i b (by rw[w];exact z)).2.1]at h2;cases h2)
 .by_cases z:j=i
  .subst z;rw[if_pos rfl];rw[Ax yZ]at J;cases J;exact⟨_,Ľ,p,C,Q,á,B',rfl,rfl,h0,ho,ń,R_,č,Vu⟩
  .rw [if_neg z];rw[AK (Be z)]at J;obtain⟨u,h1,h2⟩:=e.own j t J;exact⟨u,h1,h2.frame sF λb g xs q=>keep b _ (λy=>e.ko j i b z g (by rw[w];exact y)) q⟩
 .by_cases z:j=i
  .subst z;rw[Ax yZ]at J;cases J
  .rw [AK (Be z)]at J;exact e.bw j d J
 .split
  .exact ø
  .exact e.ji j
 .have key:∀k,k≠i->b∈p::Q::B'->b∈A k->False:=λk hk z1 T=>by
   rcases (G b z1).2 with y |y
   .exact e.ko k i b hk T (by rw[w];exact y)
   .obtain ⟨_,_,xs,q,_⟩:=e.new k b T;rw[y]at q;cases q
  split at h1
  .split at h2
   .lia
   .rename_i z1 T;exact key k T h1 h2
  .split at h2
   .rename_i z1 T;exact key j z1 h2 h1
   .exact e.ko j k b Ñ h1 h2
 .split at g
  .have hh:H0 b=none:=by
    rcases (G b g).2 with y |y
    .exact (e.new i b (by rw[w];exact y)).2.1
    .exact e.ext.hh.free y
   refine⟨(G b g).1,hh,?_⟩;rcases AJ.mp g with y |y
   .rw [y];exact⟨_,ń,rfl⟩
   .rcases AJ.mp y with y |y
    .rw [y];exact⟨_,R_,rfl⟩
    .exact Vu.rV b y
  .rename_i z;obtain⟨h1,h2,xs,L,M⟩:=e.new j b g;have Ð:b∉p::dx::B:=λy=>e.ko j i b z g (by rw[w];exact y)
   exact⟨O b _ h1 L M Ð,h2,xs,keep b _ Ð L,M⟩
theorem fU (CV:dE K c ns)(M:m∉ns)(u:ei K a O): bY K (jr (ir K c m (pF K n c ns sp) (dt i) a)) (v9 c ns i n sp O):=λL J F H Y δ De En e l w=>by
 unfold v9 at w;split at w
 .rename_i o c' t ts k;obtain⟨rfl,rfl,w⟩:=w;obtain⟨A,e⟩:=e;obtain⟨v,h,p,C,G,vs,B,rfl,U,z,Q,h1,h2,hl,T⟩:=e.own i _ k;refine⟨C,z,_,h,p,G,_,rfl,h1,eJ M,?_⟩;refine u L J F H Y δ _ _ ⟨A,e⟩ w λds us F1 H1 g q r=>?_
  rw[Bj];exact x4 (SP:=λ_=>sp) ⟨A,e.on q⟩ k h l g.1 r g.2
 .exact w.elim
theorem yl (CV:dE K c ns)(hf:ns[j]?=some f)(Q:m∉ns): bY K (jr (ir K c m (pF K 2 c ns sp) (dt i) (da (Sq K "list" Wz (xW K (dt i) f)) gS))) (pV c ns i j sp):=λF0 H0 F H Y δ De En e l w=>by
 unfold pV at w;split at w
 .rename_i o c' n ts g;obtain⟨rfl,rfl,us,d,O,w⟩:=w;obtain⟨A,e⟩:=e;obtain⟨v,h,p,C',r,vs,B,rfl,eA,q,ho,k,U,T,h3⟩:=e.own i _ g;obtain⟨a,z,G,y,C,dx,fs,u,h1,h0,cl,L,hl,hc,M,J,h1b,e'⟩:=e.Zm CV hf g O;rw[h]at u;cases u;refine⟨C',q,_,h,p,r,_,rfl,k,eJ Q,?_⟩;refine⟨_,h,p,C,dx,fs,.ref z,rfl,h1,cl,L,hl,.inl ⟨rfl,_,eE.of hc⟩,z,G,y,rfl,rfl,hc,M,?_⟩;have t:i<δ.length:=(Ab.mp g).1;exact x4 (SP:=λ_=>sp) (δ:=δ.set i (some (.own (.ob o c' n (ts.set j (.nl us)))))) e' (Ax t) h l (ds:=[d]) rfl (show bA K F [d] [y] from⟨y,[],rfl,J,rfl⟩) (by simpa only[List.set_set] using w)
 .exact w.elim
theorem gm (CV:dE K c ns)(hm:m∉ns)(h:dN K te E)(ha:ka K a As): ez K (ir K c m (b7 K n sp) te a) (Ry c ns n sp E As):=λF0 H0 F H Y δ P Q e w q=>by
 have key:(∃C,C4 K Am c=some (some (.ref C)))->ir K c m (b7 K n sp) te a Y H Q:=λ⟨C,U⟩=>by
  refine⟨C,U,?_⟩;refine h F0 H0 F H Y δ _ _ e w λd v F1 H1 k G O=>?_
  split at k
  .rename_i c' B fs;obtain⟨rfl,rfl,k⟩:=k;have z:=O;obtain⟨p,C',dx,vs,rfl,h0,h1,hl,h2⟩:=O;rw[U]at h0;cases h0;refine⟨p,dx,_,rfl,h1,eJ hm,?_⟩;refine ha F0 H0 F1 H1 Y δ _ _ (e.on G) k λds us F2 H2 J u M=>?_
   rw[Bj];have g:=G.trans u;refine⟨by rw[AR,<- M.length];exact J.1,H2,.obj c' B fs::ds,_,a6.refl _,⟨.ref p,us,rfl,z.mono u.hh,M⟩,J.2,λr v F' H' p t r'=>?_⟩;have L:a6 F2 F':=u.fh.trans t.ff;have l:=fv L;obtain⟨A,a1,a2,a3⟩:=r';refine q r v (ll F2 F') H' p.2 (g.trans ⟨l.ff,t.hh,l.fh.trans t.fh,λb o z1 z2 z3=>?_⟩) ⟨A,a1.lf L p.1,a2,λb T=>⟨g.hh.free (a3 b T).1,l.fh.free (a3 b T).2⟩⟩;exact l.no b o z1 (t.ff _ _ z2) z3
  .exact k.elim
 exact key ⟨_,CV.ex.choose_spec.1⟩
theorem zG {SP:Hp->o9}(CV:dE K c ns)(ha:ei K a As)(hS:∀F ds P,a6 F0 F->sp [] ds P->SP F [] ds P): rn K F0 H0 (tZ K c (OM K n c ns SP) a) (LY c ns n sp As):=λF H Y δ P Q e w q=>by
 obtain⟨C,J,_⟩:=CV.ex;refine⟨C,J,ha F0 H0 F H Y δ _ _ e w λds us F1 T w1 g r1=>λx t r hd k=>?_⟩;rw[Bj];have p:a6 T (cP (cP T t (.own x)) x (.ins C t [])):=λb o z=>a5 (λy=>by rw[y,r]at z;cases z) (a5 (λy=>by rw[y,hd]at z;cases z) z)
 refine⟨by rw[AR,<- r1.length];exact w1.1,F1,x,C,t,[],[],[],us,ds,_,rfl,J,g.fh.trans p,(by rw[List.zip_nil_right];exact a0),a5 k a0,Br _,⟨rfl,rfl⟩,?_,λb B=>?_,r1,hS F1 ds _ (e.ext.ff.trans g.ff) w1.2,?_⟩
 .simp only[AD,AJ,DW,or_false,not_false_eq_true,CF,and_true];exact λz=>k z.symm
 .rcases AJ.mp B with z |z
  .rw [z];exact g.fh.free r
  .rw [A3.mp z];exact g.fh.free hd
 intro ŭ F' H' l v B' pt sF sH keep O A G L M u h;have s1:∀b o,T b=some o->b∉x::t::([]:List Ac):=λb o z y=>by
  rcases AJ.mp y with y |y
  .rw [y,r]at z;cases z
  .rw [A3.mp y,hd]at z;cases z
 refine⟨rfl,q _ _ F' H' pt (g.trans ⟨sF,λb o z=>keep b o (s1 b o z) (p _ _ z),sH,λb o z1 U z3=>O b o z1 (p _ _ U) z3 (s1 b o U)⟩) ⟨x::l::B',⟨x,C,l,v,B',rfl,rfl,J,(λ_ z=>by cases z),A,G,L,M⟩,u,λb B=>⟨?_,(h b B).1⟩⟩⟩;rcases (h b B).2 with y |y
 .rcases AJ.mp y with y |y
  .rw [y];exact g.hh.free r
  .rw [A3.mp y];exact g.hh.free hd
 .exact g.hh.free (p.free y)
theorem K8 (C:dE K c ns)(A:ei K a e): ez K (tZ K c (pF K n c ns sp) a) (LY c ns n sp e):=λk g=>zG C A λ_ _ _ _ h=>h
end
section
variable {P:AA}{w:AT}{K:Ap}{mg:Al->Option Aa}{base:Heap}{c m q:Al}{ns:List Al}{st:AZ}{f:Ac}{fd:Ak}{N ps:List Al}{k n:Nat}
theorem mD {F H:Hp}{a C g:Ac}{ts:List OV}{e cW:List V}{B:List Ac}{ds:List D}(M:C4 K Am c=some (some (.ref C)))(J:a6 F H)(A:H a=some (.ins C g (ns.zip e)))(hd:H g=some (.own a))(l:ts.length<=ns.length)(G:a8 K F H ts e B)(u:(a::g::B).Nodup)(r:∀b∈a::g::B,F b=none)(h:bA K F ds cW):
  ER K F (λb=>if b∈a::g::B then none else H b) F H (start N (V.ref a::cW)) (eQ N c ns a ts ds) (λj=>if j=0 then a::g::B else []):=by
 have hl:=h.length;refine⟨by simp[start,eQ,hl],⟨a6.refl _,λb o z=>?_,J,λ_ _ z _ _=>z⟩,λi t hi=>?_,λi d hi=>?_,λj=>?_,λj k b L y1 y2=>?_,λj b p=>?_⟩
 .split at z
  .cases z
  .exact z
 .unfold eQ at hi
  cases i with
  |zero=>
   simp at hi
   subst hi;exact⟨.ref a,rfl,a,C,g,e,B,rfl,rfl,M,(λ_ z=>A6 z),A,hd,l,G⟩
  |succ i=>
   rw[BN]at hi;by_cases z:i<ds.length
   .rw [AW (by simpa using z),AH,Ad z]at hi;simp at hi
    subst hi;obtain⟨v,g1,g2⟩:=h.get (Ad z);refine⟨v,?_,rfl,g2⟩;unfold start;rw[BJ,CM,BN,AW (by simp;lia),AH,g1];rfl
   .rw [Bb (by simpa using z)]at hi;have:=Ai hi;rw[CG]at this;cases this.2
 .unfold eQ at hi
  cases i with
  |zero=>simp at hi
  |succ i=>
   rw[BN]at hi;by_cases z:i<ds.length
   .rw [AW (by simpa using z),AH]at hi;simp at hi
   .rw [Bb (by simpa using z)]at hi;have:=Ai hi;rw[CG]at this;cases this.2
 .split
  .exact u
  .exact CF
 .split at y1
  .split at y2
   .lia
   .cases y2
  .cases y1
 .split at p
  .refine ⟨r b p,if_pos p,?_⟩;rcases AJ.mp p with y |y
   .rw [y];exact⟨_,A,rfl⟩
   .rcases AJ.mp y with y |y
    .rw [y];exact⟨_,hd,rfl⟩
    .exact G.rV b y
  .cases p
theorem u6 {SP:Hp->o9}(Fn:NT K m q st f fd)(S:aQ N ps (aB st))(hn:n=ps.length)
  (O:∀(j:Aa) (A:AU) (outer:List DU) (s:Af) (H:Hp) (E:XK),cC k (A.deeper (B_ q (aB st) s.heap.objs.size f j))->
   ∃t T,PSs (eH jh P w K mg base N q (aB st) f j A outer s H E).kR (a9 st) t/\∀(F H0:Hp) (a:Ac) ts ds r,SP F ts ds r->ls K F H0 t T/\T {nx:=λδ=>∃g,δ[0]?=some (some (.own (.ob (some a) c ns g)))/\r g,rt:=λ_=>False} (eQ N c ns a ts ds)):
  fK P w K mg base jh (k+1) f fd ps (OM K n c ns SP):=
 Fn.ok S (λvs H Q E h=>by rw[<- hn];exact h.1) λj A outer s H vs Q E hr h=>by
  obtain⟨_,F,a,C,dx,ts,Į,B,cW,ds,r,rfl,hC,hs,ha,hd,L,hB,U,M,J,G,hq⟩:=h;obtain⟨t,T,h1,h2⟩:=O j A outer s H E hr;obtain⟨h2,h3⟩:=h2 F (λb=>if b∈a::dx::B then none else H b) a ts ds r G;have er:=mD (N:=N) hC hs ha hd L hB U M J;refine⟨t,h1,h2 F H (start N (V.ref a::cW)) (eQ N c ns a ts ds) {nx:=λδ=>∃g,δ[0]?=some (some (.own (.ob (some a) c ns g)))/\r g,rt:=λ_=>False} _ ⟨_,er⟩ ⟨λF' H' Y δ e p=>?_,λ_ _ _ _ _ z=>z.elim,λ_ _ _ _ _ z=>z.elim,λ_ _ _ _ _ _ z=>z.elim⟩ h3⟩;obtain⟨A',e⟩:=e;obtain⟨g,h0,hp⟩:=p;obtain⟨v,hv,a',C',Ö,u,B',rfl,eA,g0,go,g1,g2,g3,g4⟩:=e.own 0 _ h0;obtain rfl:=go a rfl;rw[hC]at g0;cases g0;have l:=e.ji 0;rw[eA]at l;refine hq g F' H' Ö u B' hp e.ext.ff e.ext.fh (λb o y z=>?_) (λb o y1 y2 y3 y4=>?_) g1 g2 g3 g4 l (λb hb=>?_)
  .exact e.ext.hh b o (by rw[if_neg y];exact z)
  .exact e.ext.no b o y1 (by rw[if_neg y4];exact y2) y3
  .obtain ⟨z1,z2,_⟩:=e.new 0 b (by rw[eA];exact hb);refine⟨z1,?_⟩;by_cases q:b∈a'::dx::B
   .exact .inl q
   .rw [if_neg q]at z2;exact .inr z2
theorem cS.of (g:e7 K c m q st f fd)(S:aQ N ps (aB st))
  (B:∀(kV O pm:Aa) (G:Option Ac) (v ct:Aa) (us:List Aa),us.length=ps.length->BP (DC m q (bS st) (a9 st) (aB st) .none kV O pm G v ct) ⟨us,[]⟩=pure (ps.zip us)) (hn:n=ps.length)
  (o:∀(v:Aa) (A:AU) (outer:List DU) (s:Af) (H:Hp) (E:XK),cC k (A.deeper (B_ q (aB st) s.heap.objs.size f v))->
   ∃t T,PSs (eH jh P w K mg base N q (aB st) f v A outer s H E).kR (a9 st) t/\bY K t T/\∀(a:Ac) ts ds r,sp ts ds r->T {nx:=λδ=>∃e,δ[0]?=some (some (.own (.ob (some a) c ns e)))/\r e,rt:=λ_=>False} (eQ N c ns a ts ds)):
  cS P w K mg base c m (k+1) ps (pF K n c ns sp):=by
 obtain⟨C,l,L,M⟩:=g.cl;exact⟨C,f,fd,l,L,M,u6 (SP:=λ_=>sp) g.fn S hn λz A u s H E j=>let⟨t,T,h1,h2,p⟩:=o z A u s H E j;⟨t,T,h1,λF J a ts ds r h=>⟨h2 F J,p a ts ds r h⟩⟩,g.fn.binds B⟩
theorem sk.of (g:NT K m q st f fd)(L:xH K mg c f)(S:aQ N ps (aB st))
  (B:∀(kV O pm:Aa) (J:Option Ac) (v ct:Aa) (us:List Aa),us.length=ps.length->BP (DC m q (bS st) (a9 st) (aB st) .none kV O pm J v ct) ⟨us,[]⟩=pure (ps.zip us)) (hn:n=ps.length)
  (o:∀(v:Aa) (A:AU) (outer:List DU) (s:Af) (H:Hp) (E:XK),cC k (A.deeper (B_ q (aB st) s.heap.objs.size f v))->
   ∃t T,PSs (eH jh P w K mg base N q (aB st) f v A outer s H E).kR (a9 st) t/\bY K t T/\∀(a:Ac) ts ds r,sp ts ds r->T {nx:=λδ=>∃e,δ[0]?=some (some (.own (.ob (some a) c ns e)))/\r e,rt:=λ_=>False} (eQ N c ns a ts ds)):
  sk P w K mg base c (k+1) ps (pF K n c ns sp):=by
 obtain⟨C,p,M,l⟩:=L.cl;exact⟨C,f,fd,p,M,l,u6 (SP:=λ_=>sp) g S hn λG A u s H E j=>let⟨t,T,h1,h2,z⟩:=o G A u s H E j;⟨t,T,h1,λF Q a ts ds r h=>⟨h2 F Q,z a ts ds r h⟩⟩,g.binds B⟩
theorem UL.of (G:e7 K c m q st f fd)(S:aQ N ps (aB st))
  (hb:∀(kV O pm:Aa) (an:Option Ac) (a ct:Aa) (us:List Aa),us.length=ps.length->BP (DC m q (bS st) (a9 st) (aB st) .none kV O pm an a ct) ⟨us,[]⟩=pure (ps.zip us)) (hn:n=ps.length)
  (o:∀(a:Aa) (A:AU) (outer:List DU) (s:Af) (H:Hp) (E:XK),cC k (A.deeper (B_ q (aB st) s.heap.objs.size f a))->
   ∃t T,PSs (eH jh P w K mg base N q (aB st) f a A outer s H E).kR (a9 st) t/\bY K t T/\∀ds g,sp ds g->T {nx:=λ_=>g (.fz .cB),rt:=g} (du N ds)): cS P w K mg base c m (k+1) ps (b7 K n sp):=by
 obtain⟨C,hC,cl,U⟩:=G.cl;refine⟨C,f,fd,hC,cl,U,G.fn.ok S (λvs H Q E h=>by rw[<- hn];exact h.1) λa A outer s H vs Q E M h=>?_,G.fn.binds hb⟩;obtain⟨_,F,ds,g,L,l,j,J⟩:=h;obtain⟨t,T,h1,h2,h3⟩:=o a A outer s H E M;refine⟨t,h1,h2 F H F H (start N vs) (du N ds) {nx:=λ_=>g (.fz .cB),rt:=g} _ ⟨_,e_ L l⟩ ⟨λB u Y δ e p=>?_,λ_ _ _ _ _ z=>z.elim,λ_ _ _ _ _ z=>z.elim,λB u r v x n p=>J r v B u p x n⟩ (h3 ds g j)⟩;exact J _ _ B u p e.ext (.fz rfl)
end
end L2
namespace PySem
section
variable {prog:AA}{w:AT}{A:AU}{E:Aa->Af->Prop}{s:Af}
theorem yS:FR (.type "list_reverseiterator") "__len__"=pure none:=by rw[Cw];kernel_rfl
theorem QT:FR (.type "list_reverseiterator") "__length_hint__"=pure (some (.builtin "list_reverseiterator.__length_hint__")):=by rw[Cw];kernel_rfl
theorem o_ {I l:Ac}{i:Int}{Q:Bool->Af->Prop}(r:s.heap.IsRevIter I l i)(h:Q false s):AI (model prog w) A (Jz (.ref I)) Q E s:=by
 refine Ae (D_ r.typeIs yS ?_);refine Ae (D_ r.typeIs QT ?_);generalize c:("list_reverseiterator.__length_hint__":String)=e
 wp_delta
 subst c;refine Ae (EQ (T := "list_reverseiterator") (b:=true) r.typeIs (by rw[Dv];kernel_rfl) ?_);refine Gz (λa=>absurd a (by decide)) (λ_=>?_);refine Gz (λ_=>?_) (λa=>absurd (by decide +kernel) a);exact AN h
theorem mx {R:Gm->Af->Prop}{I l:Ac}{items:Array Aa}(u:A.handled=none)(r:s.heap.IsRevIter I l ((items.size:Int)-1))(hl:s.heap.IsList l items)(t:items.size<=2^24)
  (S:Ac) (res:Aa) (c:Nat) (G:s.heap.get? S=some {cls:=.type "list",data:=.seq #[] c}) (j:S≠I) (n:S≠l) (L:l≠I)
  (J:∀h' tk a c',(∀b o,b≠S->b≠I->s.heap.get? b=some o->h'.get? b=some o)->h'.get? S=some {cls:=.type "list",dict:=none,data:=.seq a c',slots:=#[]}->
   Ja (λi v=>items[items.size-1-i]?=some v) a items.size->R (.ok (.ret res)) {s with heap:=h',toks:=tk}):
  AI (model prog w) A.in1 (JA (.ref S) (.ref I) res)
   (λfin g=>match fin with | .done f=>R (.ok f) g | .again c'=>c'.quiet=true/\Cd (model prog w) A c' R g) (λe g=>R (.error e) g) s:=by
 have p:S∉[I,l]:=λm=>by
  rcases AJ.mp m with e |e
  .exact j e
  .exact n (A3.mp e)
 have W:=(Walks.listRev (prog:=prog) (w:=w) (A:=A.in1) u I l L items).toS;refine Ae (wpAny_typeOf r.typeIs ?_);have h1:FA (.ref S) (.ref I)=false:=by simp[FA,j]
 have h2:(EB "list_reverseiterator"==EB "list")=false:=rfl;have M:(EB "list_reverseiterator"==EB "tuple")=false:=rfl;simp only[h1,if_false];refine Ae (wpAny_pyIter_revIter r ?_);refine Ae (FL (o_ r ?_));refine Gz (λk=>absurd k (by decide)) (λ_=>AN ⟨plainId_quiet F.plain_extend_loop _,?_⟩);refine codeAny_extend_loopS W (by rw[Cr];omega) S p res items.size 0 _ #[] c rfl (Br _) ⟨Br _,by simpa using r,hl⟩ G (KW _) λg a c' m q C=>?_
 rw[Moved.eq_with m];refine J g.heap g.toks a c' (λb o z B e=>m.heap b o (λh=>?_) e) q C;rcases AJ.mp h with e' |h
 .exact z e'
 .exact B (A3.mp h)
theorem kz {R:Gm->Af->Prop}{I l:Ac}{items:Array Aa}(z:A.handled=none)(r:s.heap.IsRevIter I l ((items.size:Int)-1))(hl:s.heap.IsList l items)(n:items.size<=2^24)
  (S:Ac) (q:s.heap.get? S=some {cls:=.type "list",data:=.seq #[]}) (g:S≠I) (L:S≠l) (k:l≠I)
  (C:∀h' tk a c',(∀b o,b≠S->b≠I->s.heap.get? b=some o->h'.get? b=some o)->h'.get? S=some {cls:=.type "list",dict:=none,data:=.seq a c',slots:=#[]}->
   Ja (λi v=>items[items.size-1-i]?=some v) a items.size->R (.ok (.ret .none)) {s with heap:=h',toks:=tk}):
  AI (model prog w) A.in1 (Ch.«list.__init__» ⟨[.ref S,.ref I],[]⟩)
   (λfin j=>match fin with | .done f=>R (.ok f) j | .again c'=>c'.quiet=true/\Cd (model prog w) A c' R j) (λe j=>R (.error e) j) s:=by
 refine Ae ?_;refine Ae (Ck q rfl (AN ?_));refine Ae (Fj q rfl ?_);have h:=Co (Cn (λ_=>(#[]:Array Aa))) q rfl;have t:∀b o,b≠S->s.heap.get? b=some o->(s.heap.update S (Cn (λ_=>(#[]:Array Aa)))).get? b=some o:=
  λb o B e=>(CK _ _ (Be B)).trans e
 refine mx z (r.at λo e=>t I o (Be g) e) (hl.at λo e=>t l o (Be L) e) n S .none _ h g L k λh' tk a c' u p c=>?_
 exact C h' tk a c' (λb o B m e=>u b o B m (t b o B e)) p c
theorem rX {Q:Aa->Af->Prop}{I l:Ac}{items:Array Aa}(m:A.handled=none)(r:s.heap.IsRevIter I l ((items.size:Int)-1))(hl:s.heap.IsList l items)(n:items.size<=2^24)(L:l≠I)
  (p:∀h' tk a c',(∀b o,b≠I->s.heap.get? b=some o->h'.get? b=some o)->
   h'.get? s.heap.objs.size=some {cls:=.type "list",dict:=none,data:=.seq a c',slots:=#[]}->Ja (λi v=>items[items.size-1-i]?=some v) a items.size->Q (.ref s.heap.objs.size) {s with heap:=h',toks:=tk}):
  AI (model prog w) A (call (.type "list") [.ref I]) Q E s:=by
 refine callType_codes (Q₁:=λobj c=>obj = .ref s.heap.objs.size/\c={s with heap:=s.heap.push {cls:=.type "list",data:=.seq #[]}}) F.called_list (F.typeCall_list_1 _) F.entry_list_init
  (code_list_new _ ⟨rfl,rfl⟩) λobj c h=>?_
 obtain⟨rfl,rfl⟩:=h;have j:(s.heap.push {cls:=.type "list",data:=.seq #[]}).get? s.heap.objs.size=some {cls:=.type "list",data:=.seq #[]}:=Aq _ rfl;obtain⟨q,f,_⟩:=id r;obtain⟨ol,O,_⟩:=id hl;refine⟨⟨_,j,rfl⟩,F.args_list_init_2 _ _,kz (A:=A.in1) m (r.at λo e=>Ag _ e) (hl.at λo e=>Ag _ e) n _ j (Be (Bm (AX f))) (Be (Bm (AX O))) L λh' tk a c' k g C=>?_⟩;exact⟨rfl,p h' tk a c' (λb o B e=>k b o (Bm (AX e)) B (Ag _ e)) g C⟩
end
end PySem
namespace L2
open PySem PySem.Spec PyProof.Rows
def xl (A:DA):DO:=λδ P=>A δ λds=>match ds with
 | [.lst xs]=>D.jj xs=true/\xs.length<=1000000/\P (.nl (xs.reverse.map .fz))
 |_=>False
section
variable {X:Cx}{K:Ap}
def vP (K:Ap)(t:TA):TE:=λY H Q=>t Y H λvs c=>∃a xs,vs=[.ref a]/\eE K c a xs/\xs.length<=1000000/\∀p e,c p=none->a6 c e->e p=some (.lst xs.reverse)->Q (.ref p) e
theorem Oo (r:bH xs t)(h:Ja (λi v=>t.toArray[t.toArray.size-1-i]?=some v) c t.toArray.size): bH xs.reverse c.toList:=by
 have g:bH xs.reverse t.reverse:=by
  clear h
  induction r with
  |nil=>exact .nil
  |cons a r f=>
   rw[Fe,Fe];exact f.append (.cons a .nil)
 have e:c.toList=t.reverse:=by
  obtain⟨h1,h2⟩:=h;have j:c.size=t.length:=h1;refine Ep λi=>?_
  by_cases hi:i<t.length
  .rw [B4 hi];have A:i<c.size:=by lia
   have q:=h2 i c[i] (by simp);rw[EL,Gi A,<- q];simp
  .rw [Bg (by simp;lia),Bg (by simp;lia)]
 rw[e];exact g
theorem qg (hg:Gl X "list")(M:X.mg "list"=none)(hc:X.calm=true)(m:X.mg "reversed"=none)(ha:PA X [a] T)(G:Gl X "reversed":=by rfl)
  (w:Av [a] X.env=[(false,eval a X.env)]:=by rfl)
  (g:Av [JW (.Name "reversed" k) [a] [] pos'] X.env=[(false,eval (JW (.Name "reversed" k) [a] [] pos') X.env)]:=by rfl):
  PE X (.Call (.Name "list" p) [.Call (.Name "reversed" k) [a] [] pos'] [] pos) (vP X.K T):=by
 intro pins s Y H Q I h;refine GX (fG I hg M BL (A7 ?_ g rfl));refine G_ ?_;refine GX (fG I G m Du (A7 (cy (ha pos' pins s Y H _ I h) λus c ⟨vs,H1,j,n,v⟩=>?_) w rfl));obtain⟨l,xs,e,B,f,q⟩:=v;subst e;obtain⟨u,rfl,U⟩:=jo n;cases U;obtain⟨t,r,pt,hz⟩:=j.list B;have hl:=r.length;refine PySem.call_reversed_list pt.isList ?_;refine Ht ?_;have I2:bC X pins Y H1 {c with heap:=c.heap.push (KL l ((t.toArray.size:Int)-1)),toks:=c.toks}:=j.kept λb o e=>Ag _ e
 obtain⟨ol,O,_⟩:=id pt.isList;have L:=AX O;refine PySem.rX (I.ok.hd hc) ⟨_,Aq _ rfl,rfl,rfl⟩ (pt.isList.at λo e=>Ag _ e) (by rw[Ay];lia) (Bm L) λh' tk A c' J C hit=>?_
 have hf:=I2.cN.fresh (Ah _);have z:(c.heap.push (KL l ((t.toArray.size:Int)-1))).objs.size=c.heap.objs.size+1:=by simp
 refine⟨.ref _,_,j.laid (t':=tk) (o:=.lst xs.reverse) (λb o e=>J b o (Bm (AX e)) (Ag _ e)) (by rw[z];exact Jc _) ⟨?_,A.toList,c',Oo r hit,?_⟩,rfl,q _ _ hf (a6.new hf) a0⟩
 .rw [BQ];exact eI f
 .simpa using C
theorem pU (h:ka K a A): ez K (vP K a) (xl A):=λu n F H Y δ P Q e w q=>h u n F H Y δ _ _ e w λds vs t l f c r=>by
 split at f
 .obtain ⟨v,rfl,⟨a,us,rfl,h1,h2⟩⟩:=gJ r;refine⟨a,us,rfl,h1,by rw[<- h2.length];exact f.2.1,λp o g m j=>?_⟩;have k:=(bA.lf c.fh h2 f.1).reverse;refine q _ _ (ll t l) o f.2.2 (c.trans ((fv c.fh).trans (cE.grow (fv c.fh).fh m))) ?_;exact eO.list (c.hh.free g) ((fv c.fh).fh.free g) j k
 .exact f.elim
end
def VL (E L:DE):DE:=λδ P=>E δ λd=>match d with
 | .str x=>L δ λl=>match l with
  | .lst ds=>∃ys:List Al,ds=ys.map D.str/\(ys.map (·.length)).sum+ys.length*x.length<=16777216/\P (.str (FH x ys))
  |_=>False
 |_=>False
section
variable {X:Cx}{K:Ap}
def Va (K:Ap):V->List V->Hp->VK->Prop:=λx vs H Q=>∃sep p xs,∃ys:List Al,x = .str sep/\vs=[.ref p]/\eE K H p xs/\xs=ys.map V.str/\(ys.map (·.length)).sum+ys.length*sep.length<=16777216/\Q (.str (FH sep ys)) H
theorem lC:∀{ys:List Al} {us:List Aa},bH (ys.map V.str) us->StrsAre us ys
 | [],us,r=>by rw[Je]at r;cases r;exact .nil
 |y :: ys,us,r=>by
  cases r with
  |cons c a=>
   obtain⟨t,e⟩:=c;subst e;exact .cons y t (lC a)
theorem TQ:Ü X "str.join" (Va X.K):=by
 intro pins s Y H x xs v us Q I a r h;obtain⟨sep,p,z,ys,rfl,rfl,e,rfl,B,q⟩:=h;obtain⟨t,rfl⟩:=a;obtain⟨u,rfl,U⟩:=jo r;cases U;obtain⟨T,c,pt,f⟩:=I.list e;refine JB pt.isList (by simpa using lC c) B λt' k=>⟨.str _,H,I.tok k,⟨_,rfl⟩,q⟩
def PY:V->Option Int->Option Int->Hp->VK->Prop:=λx lo hi H Q=>∃z,x = .str z/\z.length<=AM/\Q (.str (Dx z lo hi)) H
theorem Wb:X0 X PY:=by
 intro pins s Y H x v L g lo hi j Q I r c pl U h;obtain⟨z,rfl,a,q⟩:=h;obtain⟨t,rfl⟩:=r;refine⟨"str",_,F.slot_str_getitem.lookup,KH _ _ _,?_⟩;have fin:∀t' k,EP X pins Y Q (.str (Dx z lo hi) t') {s with toks:=k}:=λt' k=>⟨.str _,H,I.tok k,⟨_,rfl⟩,q⟩
 have p:∀{v:Aa} {o:Option Int},JV v o->∃l:Option (Int×Ku),v=partValue l/\l.map (·.1)=o:=λh=>by
  cases h with
  |none=>exact⟨none,rfl,rfl⟩
  |int i t=>exact⟨some (i,t),rfl,rfl⟩
 obtain⟨l,rfl,f⟩:=p pl;obtain⟨u,rfl,e⟩:=p U;subst f e;exact wpAny_getItem_str_slice (st:=none) c rfl (post_val_or_str ⟨Bv (Txt.slice_le z _ _) a,λt' k=>fin t' k⟩)
theorem S1 (h:dN K t E)(A:dN K T L): cO K (UW K "str" (Va K) t (da T gS)) (VL E L):=λk j F H Y δ P Q e w q=>h k j F H Y δ _ _ e w λd v J C f g o=>by
 split at f
 .rename_i x
  cases (show v=V.str x from o)
  refine⟨rfl,A k j J C Y δ _ _ (e.on g) f λl u G z c m n=>?_⟩;split at c
  .obtain ⟨ys,rfl,B,c⟩:=c;obtain⟨a,us,rfl,h1,h2⟩:=n;have U:us=ys.map V.str:=by
    clear h1 B c
    induction ys generalizing us with
    |nil=>exact h2
    |cons y ys p=>
     obtain⟨v,r,rfl,g1,g2⟩:=h2;rw[p _ g2,show v=V.str y from g1];rfl
   exact⟨x,a,us,ys,rfl,rfl,h1,U,B,q _ _ G z c (g.trans m) rfl⟩
  .exact c.elim
 .exact f.elim
def Zw (E:DE)(L U:Ye):DE:=λδ P=>E δ λd=>L δ λlo=>U δ λhi=>match d with
 | .str z=>z.length<=1000000/\P (.str (Dx z lo hi))
 |_=>False
theorem Ws (m:cO K A J)(hl:NR K T L)(u:NR K t U): cO K (ä PY A T t) (Zw J L U):=λg f F H Y δ P Q e w q=>
 m g f F H Y δ _ _ e w λd v G p l c r=>hl g f G p Y δ _ _ (e.on c) l λlo C o k h=>u g f C o Y δ _ _ (e.on (c.trans h)) k λhi B n a j=>by
  split at a
  .rename_i z
   cases (show v=V.str z from r)
   exact⟨z,rfl,eI a.1,q _ _ B n a.2 (c.trans (h.trans j)) rfl⟩
  .exact a.elim
theorem l0:∀{ds:List D} {vs:List V},bA K F ds vs->vs.isEmpty=ds.isEmpty
 | [],vs,h=>by cases (show vs=[] from h);rfl
 |d::ds,vs,h=>by obtain⟨v,r,rfl,_⟩:=h;rfl
theorem O' (h:dN K t E): jk K (λY H Q=>t Y H λx c=>∃k,XZ K x c k/\Q k c) (Rw E):=λm l F H Y δ P Q e w q=>h m l F H Y δ _ _ e w λd v j c f g r=>by
 split at f
 .cases r;exact⟨_,rfl,q _ j c f g⟩
 .rename_i i;cases r;refine⟨_,rfl,q _ j c ?_ g⟩;rw[show (i != 0)=decide (i≠0) by rw[CU];simp];exact f
 .obtain ⟨a,vs,rfl,h1,h2⟩:=r;exact⟨_,.inl ⟨vs,h1,by rw[l0 h2]⟩,q _ j c f g⟩
 .obtain ⟨a,vs,rfl,h1,h2⟩:=r;exact⟨_,.inr (.inl ⟨vs,h1,by rw[l0 h2]⟩),q _ j c f g⟩
 .cases r;exact⟨_,rfl,q _ j c f g⟩
 .exact f.elim
end
noncomputable def uk (x:Al):List Al:=x.cps.toList.map λc=>⟨#[c]⟩
def ZD (E:DE):DA:=λδ P=>E δ λd=>match d with
 | .str x=>P ((uk x).map D.str)
 |_=>False
section
variable {X:Cx}{K:Ap}
noncomputable def ţ (x:Al):It:=⟨λi _=>i<x.cps.size,λi H v a=>a=H/\∃c,x.cps[i]?=some c/\v = .str ⟨#[c]⟩,λi _=>x.cps.size<=i⟩
theorem vN (it:Ac)(x:Al)(t:Ku): sf P w K tg (ţ x) [it] it (λi h=>i<=x.cps.size/\(h.IsStrIter it "str_ascii_iterator" x t i∨h.IsStrIter it "str_iterator" x t i)) where
 mem:=by simp
 obj:=λi h st b hb=>by
  have e:b=it:=by simpa using hb
  subst e;rcases st.2 with⟨o,ho,_,hd⟩ | ⟨o,ho,_,hd⟩
  .exact ⟨o,ho,λv z=>by rw[hd]at z;cases z⟩
  .exact ⟨o,ho,λv z=>by rw[hd]at z;cases z⟩
 keep:=λi h h' st k=>⟨st.1,st.2.imp (λ⟨o,e,r⟩=>⟨o,k it (by simp) o e,r⟩) (λ⟨o,e,r⟩=>⟨o,k it (by simp) o e,r⟩)⟩
 item:=by
  intro X hP hw hK hc i pins s Y H E I hf st hg;have hi:i<x.cps.size:=hg;obtain⟨f0,f1,f2,f3,f4,f5⟩:=hf it (by simp);have hx:x.cps[i]?=some x.cps[i]:=Gi hi;rcases st.2 with ue |ue
  .refine PySem.wpAny_pyNext_ascii_item ue hx λh' zY sb=>?_
   have I1:bC X pins Y H {s with heap:=h',toks:=s.toks+1}:=I.turned (t':=s.toks+1) (λb o hb e=>(sb.2 b hb).trans e) f0 f1 f3 f4 f5;obtain⟨o,ho,Oe,R_⟩:=id zY;exact⟨_,rfl,nW (s:={s with heap:=h',toks:=s.toks+1}) (n := "str_ascii_iterator") ho Oe R_ rfl ⟨.str ⟨#[x.cps[i]]⟩,H,I1,⟨_,rfl⟩,⟨rfl,_,hx,rfl⟩,⟨by lia,.inl zY⟩,λb hb=>(hf b hb).1⟩⟩
  .refine PySem.wpAny_pyNext_wide_item ue hx λh' zY sb=>?_
   have I1:bC X pins Y H {s with heap:=h',toks:=s.toks+1}:=I.turned (t':=s.toks+1) (λb o hb e=>(sb.2 b hb).trans e) f0 f1 f3 f4 f5;obtain⟨o,ho,Oe,R_⟩:=id zY;exact⟨_,rfl,nW (s:={s with heap:=h',toks:=s.toks+1}) (n := "str_iterator") ho Oe R_ rfl ⟨.str ⟨#[x.cps[i]]⟩,H,I1,⟨_,rfl⟩,⟨rfl,_,hx,rfl⟩,⟨by lia,.inr zY⟩,λb hb=>(hf b hb).1⟩⟩
 done:=by
  intro X hP hw hK hc i pins s Y H E I hf st hg;obtain⟨f0,f1,f2,f3,f4,f5⟩:=hf it (by simp);have hx:x.cps[i]?=none:=Array.getElem?_eq_none hg;rcases st.2 with ue |ue
  .exact PySem.wpAny_pyNext_ascii_end (I.ok.hd hc) ue hx λh' eb=>⟨rfl,I.turned (t':=s.toks) (λb o hb e=>eb b o hb e) f0 f1 f3 f4 f5⟩
  .exact PySem.wpAny_pyNext_wide_end (I.ok.hd hc) ue hx λh' eb=>⟨rfl,I.turned (t':=s.toks) (λb o hb e=>eb b o hb e) f0 f1 f3 f4 f5⟩
 self:=λ_ _ _ _ _ st h=>by
  rcases st.2 with ue |ue
  .exact PySem.wpAny_pyIter_striter_ascii ue h
  .exact PySem.wpAny_pyIter_striter_wide ue h
def Zb (t:TE):TI:=λY H R=>t Y H λv a=>∃x,v = .str x/\R (ţ x) a
theorem WJ (g:PE X l T): PI X G l (Zb T):=by
 intro pins s Y H R I h;refine cy (g pins s Y H _ I h) λu a ⟨v,f,c,r,Q⟩=>?_
 obtain⟨x,e,q⟩:=Q;subst e;obtain⟨t,rfl⟩:=r
 cases A:x.cps.all (· < 128)
 .refine PySem.wpAny_pyIter_wide A ?_;refine⟨a.heap.objs.size,[a.heap.objs.size],_,_,f,rfl,c.kept (t':=a.toks) λb o e=>Ag _ e,vN a.heap.objs.size x t,⟨Br _,.inr ⟨_,Aq _ rfl,rfl,rfl⟩⟩,λb B=>?_,q⟩;have e:b=a.heap.objs.size:=by simpa using B
  subst e;exact c.ow (Ah _) (c.cN.fresh (Ah _))
 .refine PySem.wpAny_pyIter_ascii A ?_;refine⟨a.heap.objs.size,[a.heap.objs.size],_,_,f,rfl,c.kept (t':=a.toks) λb o e=>Ag _ e,vN a.heap.objs.size x t,⟨Br _,.inl ⟨_,Aq _ rfl,rfl,rfl⟩⟩,λb B=>?_,q⟩;have e:b=a.heap.objs.size:=by simpa using B
  subst e;exact c.ow (Ah _) (c.cN.fresh (Ah _))
theorem Wo (h:dN K t E): lu K (Zb t) (ZD E):=λk f F H Y δ P R e w q=>h k f F H Y δ _ _ e w λd v l g p x r=>by
 split at p
 .rename_i z
  cases (show v=V.str z from r)
  refine⟨z,rfl,q _ _ l g p x λj o m a=>?_⟩;have hl:((uk z).map D.str).length=z.cps.size:=by simp[uk]
  rw[hl];refine⟨λi hi=>hi,Ah _,λi v n hi y=>?_⟩;obtain⟨rfl,c,hc,rfl⟩:=y;refine⟨.str ⟨#[c]⟩,j,?_,cE.refl a,rfl⟩;simp[uk,hc]
 .exact p.elim
end
section
variable {X:Cx}{K:Ap}
end
section
variable {K:Ap}{c f:Al}{ns:List Al}{j:Nat}{ta:TE}{E:DE}
end
section
variable {X:Cx}{tg elt iter cd:Expr}{scope:BG}{N:List Al}{ix:List (Option Nat)}{wi:TI}{g:TG}{tc:TT}{te:TE}{pos:Dt}
end
section
variable {K:Ap}{te:TE}{Eo:DO}
end
theorem mw {x y:Nat}(h:x≠y):(show Ac from x)≠(show Ac from y):=h
section
variable {prog:AA}{w:AT}{A:AU}{E:Aa->Af->Prop}{s:Af}
end
section
variable {X:Cx}{K:Ap}{mg:Al->Option Aa}
end
section
variable {X:Cx}{K:Ap}
end
abbrev TK:=V->St->Hp->(Bool->Hp->Prop)->Prop
section
variable {X:Cx}{K:Ap}{a e e':Expr}{es:List Expr}{op op':Gv}{ops:List Gv}{r:R2}{ta te:TE}{tk:TK}{pos:Dt}
end
abbrev DK:=D->cY->(Bool->Prop)->Prop
section
variable {K:Ap}{ta te:TE}{E Ea:DE}{tk:TK}{k:DK}{R:R2}{r:xO}
end
def Pp:DS:=λ_ _=>False
section
variable {X:Cx}{K:Ap}{st:AZ}{sts:List AZ}
theorem h9:bY K OE Pp:=λ_ _ _ _ _ _ _ _ _ _ w=>w.elim
end
abbrev P2 (h:Heap)(t:Ac)(a b:Aa):Prop:=h.get? t=some {cls:=.type "tuple",data:=.seq #[a,b]}
abbrev Zt (h:Heap)(b:Nat)(v:Aa):Prop:=IsZip h (b+4) (b+2) (b+3) v
theorem fO (x:By h a t i)(e:∀o,h.get? a=some o->h'.get? a=some o): By h' a t i:=let⟨o,O,r⟩:=x;⟨o,e _ O,r⟩
section
variable {prog:AA}{w:AT}{A:AU}{E:Aa->Af->Prop}{s:Af}
theorem qt {Q:Aa->Af->Prop}(hi:By s.heap T t i)(ht:ED s.heap t c)(j:c[i]?=some x)(q:∀g,By g T t (i+1)->Heap.SameBut T s.heap g->Q x {s with heap:=g}): AI (model prog w) A (EV (.ref T)) Q E s:=by
 obtain⟨o,a,h,O⟩:=id hi;obtain⟨p,f,_,n,e⟩:=ht;refine Ae (BR (name:=Bp "__next__") hi.typeIs Ef (Cm Ef hi.typeIs Ia ?_ (Iq _)));show AI _ _ (field (.ref T) 0 >>= _) _ _ s
 refine Ae (Bu a O (x:=.ref t) rfl ?_);refine Ae (Bu a O (x:=.int i 0) rfl ?_);refine Ae (Ck f e ?_);simp only[j,AQ];refine Ae (Es a O (by simp) (AN ⟨x,rfl,AN (q _ ?_ (Heap.SameBut.update ..))⟩));exact⟨_,Co _ a (ES (CY O _)),(Obj.cls_mapFields ..).trans h,by rw[CY O];simp[B7]⟩
theorem Np {a t:Ac}{i:Nat}{T:Array Aa}{Q:Aa->Af->Prop}(h:A.handled=none)(hi:By s.heap a t i)(ht:ED s.heap t T)(k:T[i]?=none)(q:∀g e,Heap.ExtBut a s.heap g->(∃o,g.get? e=some o/\o.cls = .type "StopIteration")->E (.ref e) {s with heap:=g}):AI (model prog w) A (EV (.ref a)) Q E s:=by
 obtain⟨o,c,l,O⟩:=id hi;obtain⟨p,j,_,n,f⟩:=ht;refine Ae (BR (name:=Bp "__next__") hi.typeIs Ef (Cm Ef hi.typeIs Ia ?_ (Iq _)));show AI _ _ (field (.ref a) 0 >>= _) _ _ s
 refine Ae (Bu c O (x:=.ref t) rfl ?_);refine Ae (Bu c O (x:=.int i 0) rfl ?_);refine Ae (Ck j f ?_);simp only[k,AQ];refine Ae (GO (Ae (Es c O (by simp) ?_)));refine Ae ?_;simp only[ KN];refine Ae (CJ ?_ (by size_fits));refine Ae (m:=Fx _ _) (Dk (by first |rfl | (simp only[Fx];rfl)) ?_);refine CJ ?_ (by size_fits);simp only[raiseNew];refine Ae (J5 ?_);first |rw[show A.in1.handled=none from h] |rw[h]
 exact Ae (AN (Kq (q _ _ (((Heap.SameBut.update ..).extBut.push _).push _) ⟨_,Aq _ rfl,rfl⟩)))
theorem Qk {t:Ac}{a b x:Aa}{k:Nat}{Q:Unit->Af->Prop}(ht:P2 s.heap t a b)
  (q:∀g,g.get? t=some {cls:=.type "tuple",data:=.seq ((#[a,b]:Array Aa).setIfInBounds k x)}->Heap.SameBut t s.heap g->Q () {s with heap:=g}):AI (model prog w) A (updateSeq t (·.setIfInBounds k x)) Q E s:=by
 refine Fj ht rfl (q _ ?_ (Heap.SameBut.update ..));rw[Co _ ht rfl];simp[Cn]
theorem Mb {Q:Aa->Af->Prop}(hb:n<b/\L<b)
  (Z:Zt s.heap b .none) (I0:P2 s.heap (b+2) (.ref b) (.ref (b+1))) (O0:P2 s.heap (b+3) a1 a2) (w1:By s.heap b n k) (w2:By s.heap (b+1) L k)
  (p1:ED s.heap n xs) (p2:ED s.heap L ys) (e1:xs[k]?=some x) (e2:ys[k]?=some y)
  (q:∀g,Zt g b (B7 s.heap.objs.size)->P2 g (b+3) x y->By g b n (k+1)->By g (b+1) L (k+1)->P2 g s.heap.objs.size x y->g.objs.size=s.heap.objs.size+1->
   (∀c o,c≠b+4->c≠b+3->c≠b->c≠b+1->s.heap.get? c=some o->g.get? c=some o)->Q (.ref s.heap.objs.size) {s with heap:=g}):
  AI (model prog w) A (Ch.«zip.__next__» ⟨[.ref (b+4)],[]⟩) (λr s'=>∃v,r = .done (.ret v)/\Q v s') E s:=by
 obtain⟨b1,b2⟩:=hb;have off:∀l:Nat,l<b->l≠b+4/\l≠b+3/\l≠b:=λl h=>⟨by lia,by lia,by lia⟩
 obtain⟨a14,_,_⟩:=off n b1;obtain⟨a24,a23,a20⟩:=off L b2;show AI _ _ (field (.ref (b+4)) 2 >>= _) _ _ _
 refine Ae (Bu Z rfl (x:=.bool false) rfl ?_);refine Ae (Bu Z rfl (x:=.ref (b+2)) rfl (Ae (Ck I0 rfl ?_)));refine Ae ?_;refine Ae (Bu Z rfl rfl (AN ?_));simp only[if_true];refine Ae (GO (Ae (Bu Z rfl (x:=.ref (b+3)) rfl (Ae (C_ Z (by simp) λg1 Z1 f1=>?_)))));refine Ae ?_;refine Ae (Ae (G7 ?_));refine Ae (qt (w1.extBut f1.extBut (mw (by lia))) (p1.extBut f1.extBut a14) e1 λg2 v1 f2=>AN ?_);have O2:P2 g2 (b+3) a1 a2:=f2.extBut _ _ (mw (by lia)) (f1.extBut _ _ (mw (by lia)) O0);refine Ae (Ck O2 rfl (Ae (Qk O2 λg3 O3 m=>Ae (Kr (AN ?_)))));refine Ae (Ae (G7 ?_));refine Ae (qt (((w2.extBut f1.extBut (mw (by lia))).extBut f2.extBut (mw (by lia))).extBut m.extBut (mw (by lia))) (((p2.extBut f1.extBut a24).extBut f2.extBut a20).extBut m.extBut a23) e2 λg4 v2 u=>AN ?_);have O4:P2 g4 (b+3) x a2:=u.extBut _ _ (mw (by lia)) O3;refine Ae (Ck O4 rfl (Ae (Qk O4 λG O p=>Ae (Kr (AN (AN ?_))))))
 replace O:P2 G (b+3) x y:=O
 refine Ae (Ck O rfl (Ae (wpAny_newTuple ?_)));have f:G.objs.size=s.heap.objs.size:=by rw[p.1,u.1,m.1,f2.1,f1.1]
 have Z5:Zt G b .ellipsis:=p.extBut _ _ (mw (by lia)) (u.extBut _ _ (mw (by lia)) (m.extBut _ _ (mw (by lia)) (f2.extBut _ _ (mw (by lia)) Z1)));have keep:∀c o,c≠b+4->c≠b+3->c≠b->c≠b+1->s.heap.get? c=some o->G.get? c=some o:=λc o C J c3 U e=>
  p.extBut _ _ J (u.extBut _ _ U (m.extBut _ _ J (f2.extBut _ _ c3 (f1.extBut _ _ C e))))
 have m1:By G b n (k+1):=((v1.extBut m.extBut (mw (by lia))).extBut u.extBut (mw (by lia))).extBut p.extBut (mw (by lia));have m2:By G (b+1) L (k+1):=v2.extBut p.extBut (mw (by lia));have t:b+4<G.objs.size:=AX Z5;refine Ae ?_;have Z8:Zt (G.push {cls:=.type "tuple",data:=.seq #[x,y]}) b .ellipsis:=Ag _ Z5;refine Ae (C_ Z8 (by simp) λg9 Z9 M=>?_);refine C_ Z9 (by simp) λa B j=>?_
 have up:∀c o,c≠b+4->G.get? c=some o->a.get? c=some o:=λc o C e=>j.extBut _ _ C (M.extBut _ _ C (Ag _ e))
 have T:P2 a G.objs.size x y:=j.extBut _ _ (Gd t) (M.extBut _ _ (Gd t) (Aq _ rfl));have z:a.objs.size=G.objs.size+1:=by rw[j.1,M.1,Dm]
 rw[f]at B T z;refine AN ⟨_,rfl,?_⟩;rw[f];exact q a B (up _ _ (mw (by lia)) O) (fO m1 λo e=>up _ o (mw (by lia)) e) (fO m2 λo e=>up _ o (mw (by lia)) e) T z λc o C J c3 U e=>up c o C (keep c o C J c3 U e)
theorem Ma {b k:Nat}{l:Ac}{xs:Array Aa}{r:Aa}{Q:Fin->Af->Prop}(t:A.handled=none)(B:l<b)(Z:Zt s.heap b .none)(L:P2 s.heap (b+2) (.ref b) r)(m:By s.heap b l k)(p:ED s.heap l xs)(v:xs[k]?=none)
  (q:∀g e,(∀c o,c≠b+4->c≠b->s.heap.get? c=some o->g.get? c=some o)->(∃o,g.get? e=some o/\o.cls = .type "StopIteration")->E (.ref e) {s with heap:=g}):AI (model prog w) A (Ch.«zip.__next__» ⟨[.ref (b+4)],[]⟩) Q E s:=by
 have a:l≠b+4:=Bm (AV B (CQ b 4));show AI _ _ (field (.ref (b+4)) 2 >>= _) _ _ _
 refine Ae (Bu Z rfl (x:=.bool false) rfl ?_);refine Ae (Bu Z rfl (x:=.ref (b+2)) rfl (Ae (Ck L rfl ?_)));refine Ae ?_;refine Ae (Bu Z rfl rfl (AN ?_));simp only[if_true];refine Ae (GO (Ae (Bu Z rfl (x:=.ref (b+3)) rfl (Ae (C_ Z (by simp) λg1 J f1=>?_)))));refine Ae ?_;refine Ae (Ae (G7 ?_));refine Ae (Np t (m.extBut f1.extBut (mw (by lia))) (p.extBut f1.extBut a) v λg2 e f2 u=>?_);obtain⟨n,O,f⟩:=u;have j:Zt g2 b .ellipsis:=f2 _ _ (mw (by lia)) J;have z:e≠b+4:=λy=>by subst y;rw[j]at O;cases O;simp at f
 exact C_ j (by simp) λg3 _ h=>q g3 e (λc o C G y=>h.extBut _ _ C (f2 _ _ G (f1.extBut _ _ C y))) ⟨n,h.extBut _ _ z O,f⟩
theorem TC {Q:Option Aa->Af->Prop}(h:L<b/\l<b)
  (Z:Zt s.heap b .none) (G:P2 s.heap (b+2) (.ref b) (.ref (b+1))) (O:P2 s.heap (b+3) M J) (e:By s.heap b L k) (a:By s.heap (b+1) l k)
  (f:ED s.heap L xs) (p:ED s.heap l ys) (m:xs[k]?=some x) (j:ys[k]?=some y)
  (q:∀g,Zt g b (B7 s.heap.objs.size)->P2 g (b+3) x y->By g b L (k+1)->By g (b+1) l (k+1)->P2 g s.heap.objs.size x y->g.objs.size=s.heap.objs.size+1->
   (∀c o,c≠b+4->c≠b+3->c≠b->c≠b+1->s.heap.get? c=some o->g.get? c=some o)->Q (some (.ref s.heap.objs.size)) {s with heap:=g}): AI (model prog w) A (FS (.ref (b+4))) Q E s:=by
 have t:s.TypeIs (.ref (b+4)) "zip":=⟨_,Z,rfl⟩
 exact Ae (EG (BR (name:=Bp "__next__") t F.slot_zip_next (Cm F.slot_zip_next t F.entry_zip_next
  (Mb h Z G O e a f p m j λg B z v u r n C=>AN (q g B z v u r n C)) (F.args_zip_next_1 _))))
theorem wM {Q:Option Aa->Af->Prop}(m:A.handled=none)(B:l<b)(Z:Zt s.heap b .none)(r:P2 s.heap (b+2) (.ref b) u)(a:By s.heap b l k)(p:ED s.heap l xs)(n:xs[k]?=none)
  (q:∀g,(∀c o,c≠b+4->c≠b->s.heap.get? c=some o->g.get? c=some o)->Q none {s with heap:=g}): AI (model prog w) A (FS (.ref (b+4))) Q E s:=by
 have t:s.TypeIs (.ref (b+4)) "zip":=⟨_,Z,rfl⟩
 refine Ae (EG (BR (name:=Bp "__next__") t F.slot_zip_next (Cm F.slot_zip_next t F.entry_zip_next (Ma m B Z r a p n λg e j h=>?_) (F.args_zip_next_1 _))));obtain⟨o,f,O⟩:=h;exact Ae (EQ (T := "StopIteration") ⟨o,f,O⟩ JM (AN (q _ j)))
end
noncomputable abbrev à (l:Ac):B5:={cls:=.type "tuple_iterator",data:=.fields #[.ref l,.int 0 0]}
noncomputable abbrev Ã (h:Heap)(l:Ac):Heap:=h.push (à l)
noncomputable abbrev Â (h:Heap)(L l:Ac):Heap:=(Ã h L).push (à l)
noncomputable abbrev Á (h:Heap)(l L:Ac):Heap:=(Â h l L).push {cls:=.type "tuple",data:=.seq #[.ref h.objs.size,.ref (Ã h l).objs.size]}
noncomputable abbrev À (h:Heap)(L l:Ac):Heap:=(Á h L l).push {cls:=.type "tuple",data:=.seq #[.none,.none]}
noncomputable abbrev X7 (h:Heap)(L l:Ac):Heap:=(À h L l).push {cls:=.type "zip",data:=.fields #[.none,.bool false,.bool false,.ref (Â h L l).objs.size,.ref (Á h L l).objs.size]}
theorem Og (l L:Ac)(xs ys:Array Aa): Kx (Ch.«zip.__new__» ⟨[.type "zip",.ref l,.ref L],[]⟩) (λ_ R s=>ED s.heap l xs/\ED s.heap L ys/\R (.ok (.ret (.ref (À s.heap l L).objs.size))) {s with heap:=X7 s.heap l L}):=
 .of_wp λprog w A R s h=>by
  obtain⟨p,g,d,tk,os⟩:=s;obtain⟨c,a,h⟩:=h;have u:=sub_zip;have e:ED (IH ⟨p,g,d,tk,os⟩) l xs:=c;have n:ED (IH ⟨p.push (à l),g,d,tk,os⟩) L ys:=IsTup.push a _
  wp_walk using K0 e,K0 n
  exact⟨_,rfl,h⟩
theorem NK {prog:AA}{w:AT}{A:AU}{E:Aa->Af->Prop}{s:Af}{l L:Ac}{xs ys:Array Aa}{Q:Aa->Af->Prop}(m:ED s.heap l xs)(p:ED s.heap L ys)
  (q:∀g,Zt g s.heap.objs.size .none->P2 g (s.heap.objs.size+2) (.ref s.heap.objs.size) (.ref (s.heap.objs.size+1))->P2 g (s.heap.objs.size+3) .none .none->By g s.heap.objs.size l 0->By g (s.heap.objs.size+1) L 0->
   (∀c o,s.heap.get? c=some o->g.get? c=some o)->Q (.ref (s.heap.objs.size+4)) {s with heap:=g}):AI (model prog w) A (call (.type "zip") [.ref l,.ref L]) Q E s:=by
 refine callType_new F.called_zip rfl (F.typeCall_zip_2 _ _) (F.newCall_zip_2 _ _) (λo=>F.args_object_init_3 o _ _) F.entry_zip_new (Og l L xs ys) ⟨m,p,?_⟩;have y1:(Ã s.heap l).objs.size=s.heap.objs.size+1:=Dm ..;have y2:(Â s.heap l L).objs.size=s.heap.objs.size+2:=by rw[Dm,y1]
 have y3:(Á s.heap l L).objs.size=s.heap.objs.size+3:=by rw[Dm,y2]
 have y4:(À s.heap l L).objs.size=s.heap.objs.size+4:=by rw[Dm,y3]
 have on:∀{h:Heap} {o O:B5} {c:Ac},h.get? c=some o->(h.push O).get? c=some o:=λe=>Ag _ e
 have k:(X7 s.heap l L).get? (À s.heap l L).objs.size=some _:=Aq _ rfl;have a:(X7 s.heap l L).get? (Á s.heap l L).objs.size=some _:=on (Aq _ rfl);have f:(X7 s.heap l L).get? (Â s.heap l L).objs.size=some _:=on (on (Aq _ rfl));have j:(X7 s.heap l L).get? (Ã s.heap l).objs.size=some _:=on (on (on (Aq _ rfl)));have n:(X7 s.heap l L).get? s.heap.objs.size=some _:=on (on (on (on (Aq _ rfl))));rw[y2,y3,y4]at k;rw[y3]at a;rw[y1,y2]at f;rw[y1]at j;rw[y4];exact⟨⟨_,k,rfl⟩,q _ k f a ⟨_,n,rfl,rfl⟩ ⟨_,j,rfl,rfl⟩ λc o e=>on (on (on (on (on e))))⟩
def VA (A:DA):DA:=λδ P=>A δ λds=>match ds with
 | [.tup xs,.tup ys]=>xs.length<=ys.length/\P ((xs.zip ys).map λp=>D.tup [p.1,p.2])
 |_=>False
section
variable {X:Cx}{K:Ap}{mg:Al->Option Aa}
noncomputable def ZY (K:Ap)(a A:Ac)(xs ys:List V):It:=
 ⟨λi H=>ky K H a xs/\ky K H A ys/\i<xs.length/\i<ys.length,λi H x c=>∃p y1 y2,x = .ref p/\H p=none/\a6 H c/\xs[i]?=some y1/\ys[i]?=some y2/\c p=some (.tup [y1,y2]),λi H=>ky K H a xs/\xs.length<=i⟩
theorem Xw (h:c∈[b+4,b+2,b+3,b,b+1]): c=b+4∨c=b+2∨c=b+3∨c=b∨c=b+1:=by simpa using h
theorem Me (a1 a2:Ac)(b:Nat)(xs ys:List V)(hb:a1<b/\a2<b):
  sf P w K (.Tuple elts x1 Sh) (ZY K a1 a2 xs ys) [b+4,b+2,b+3,b,b+1] (b+4) (λi h=>Zt h b .none/\P2 h (b+2) (.ref b) (.ref (b+1))/\(∃c d,P2 h (b+3) c d)/\By h b a1 i/\By h (b+1) a2 i) where
 mem:=by simp
 obj:=λi h st c hc=>by
  obtain⟨h1,h2,⟨_,_,h3⟩,⟨o4,q4,_,r4⟩,⟨o5,q5,_,r5⟩⟩:=st;rcases Xw hc with q |q |q |q |q
  .rw [q];exact⟨_,h1,λv q=>by cases q⟩
  .rw [q];exact⟨_,h2,λv q=>by cases q⟩
  .rw [q];exact⟨_,h3,λv q=>by cases q⟩
  .rw [q];exact⟨_,q4,λv q=>by rw[r4]at q;cases q⟩
  .rw [q];exact⟨_,q5,λv q=>by rw[r5]at q;cases q⟩
 keep:=λi h h' st k=>by
  obtain⟨h1,h2,⟨c,d,h3⟩,h4,h5⟩:=st;exact⟨k _ (by simp) _ h1,k _ (by simp) _ h2,⟨c,d,k _ (by simp) _ h3⟩,fO h4 λo q=>k _ (by simp) o q,fO h5 λo q=>k _ (by simp) o q⟩
 item := by
  kj_on
  obtain⟨h1,h2,⟨c,d,h3⟩,h4,h5⟩:=st;obtain⟨Xo,Ze,ϫ,Ϫ⟩:=hg;obtain⟨Xk,Wv,p1,ÿ⟩:=I.tuple Xo;obtain⟨Y9,YE,p2,ľ⟩:=I.tuple Ze;obtain⟨u1,ă,í⟩:=Wv.get (i:=i) (x:=xs[i]) (by simp);obtain⟨u2,Ă,ì⟩:=YE.get (i:=i) (x:=ys[i]) (by simp);refine TC hb h1 h2 h3 h4 h5 p1 p2 (by simpa using ă) (by simpa using Ă) λh' g1 g2 g3 g4 g6 g7 g8=>?_
  refine⟨_,rfl,G0 g1 λZi k1 k2=>?_⟩;have Zf:=I.cN.fresh (Ah _);have I0:bC X pins Y (cP H s.heap.objs.size (.tup [xs[i],ys[i]])) {s with heap:=s.heap.push {cls:=.type "tuple",data:=.seq #[u1,u2]},toks:=s.toks}:=
   I.laid (t':=s.toks) (o:=.tup [xs[i],ys[i]]) (λb ob q=>Ag _ q) (Ah _) ⟨eI (n:=2) (by decide),[u1,u2],.cons í (.cons ì .nil),⟨_,Aq _ rfl,rfl,_,rfl⟩⟩
  have old:∀c∈[b+4,b+2,b+3,b,b+1],c≠s.heap.objs.size:=λc hc q=>by
   have yZ:c<s.heap.objs.size:=by
    rcases Xw hc with y |y |y |y |y
    .rw [y];exact AX h1
    .rw [y];exact AX h2
    .rw [y];exact AX h3
    .obtain ⟨o,r1,_⟩:=h4;rw[y];exact AX r1
    .obtain ⟨o,r1,_⟩:=h5;rw[y];exact AX r1
   rw[q]at yZ;exact B3 _ yZ
  have fe:∀c∈[b+4,b+2,b+3,b,b+1],jl X pins (cP H s.heap.objs.size (.tup [xs[i],ys[i]])) c:=λc hc=>by
   obtain⟨q0,q1,q2,q3,q4,q5⟩:=hf c hc;refine⟨?_,q1,q2,q3,q4,q5⟩;rw[bI]
   .exact q0
   .exact old c hc
  have I1 : bC X pins Y (cP H s.heap.objs.size (.tup [xs[i],ys[i]])) {s with heap:=Zi,toks:=s.toks}:=by
   have:=I0.oC (h':=Zi) (t':=s.toks) (L:=[b+4,b+3,b,b+1]) (λc o hb q=>?_) (λc hc=>fe c (by
    have Oe:c=b+4∨c=b+3∨c=b∨c=b+1:=by simpa using hc
    rcases Oe with y |y |y |y<;>simp[y]))
   .exact this
   .have bz:c≠b+4:=λy=>hb (by simp[y])
    have Ò:h'.get? c=some o:=by
     by_cases y:c=s.heap.objs.size
     .subst y;rw[Aq _ rfl]at q;rw[<- q];exact g6
     .rw [Heap.get?_push_ne _ _ _ y]at q;exact g8 c o bz (λy=>hb (by simp[y])) (λy=>hb (by simp[y])) (λy=>hb (by simp[y])) q
    exact k2.extBut c o bz Ò
  have hT:P2 h' (b+2) _ _:=g8 (b+2) _ (mw (by lia)) (mw (by lia)) (mw (by lia)) (mw (by lia)) h2;refine⟨.ref s.heap.objs.size,_,I1,rfl,⟨_,xs[i],ys[i],rfl,Zf,a6.new Zf,by simp,by simp,a0⟩,⟨k1,k2.extBut _ _ (mw (by lia)) hT,⟨_,_,k2.extBut _ _ (mw (by lia)) g2⟩,g3.extBut k2.extBut (mw (by lia)),g4.extBut k2.extBut (mw (by lia))⟩,λc hc=>(fe c hc).1⟩
 done:=by
  kj_on
  obtain⟨h1,h2,_,h4,_⟩:=st;obtain⟨Xo,hi⟩:=hg;obtain⟨Xk,Wv,p1,ÿ⟩:=I.tuple Xo;have Ϧ:=Wv.length;refine wM (I.ok.hd hc) hb.1 h1 h2 h4 p1 (by simp;lia) λh' eb=>⟨rfl,I.oC (t':=s.toks) (L:=[b+4,b]) (λc o hb q=>eb c o (λy=>hb (by simp[y])) (λy=>hb (by simp[y])) q) (λc hc=>hf c (by
    have Oe:c=b+4∨c=b:=by simpa using hc
    rcases Oe with y |y<;>simp[y]))⟩
 self:=λ_ _ _ _ _ st h=>by
  obtain⟨h1,_⟩:=st;exact EO h1 h
def Vm (K:Ap)(t:TA):TI:=λY H R=>t Y H λvs c=>∃A a xs ys,vs=[.ref A,.ref a]/\ky K c A xs/\ky K c a ys/\R (ZY K A a xs ys) c
theorem Tb (hg:Gl X "zip")(U:X.mg "zip"=none)(ha:PA X [l,m] A)(M:Av [l,m] X.env=(false,eval l X.env)::Av [m] X.env:=by rfl)(O:(BY pos (Av [m] X.env)).any (·.1)=false:=by rfl): PI X (.Tuple n x1 o) (.Call (.Name "zip" p) [l,m] [] pos) (Vm X.K A):=by
 intro pins s Y H R I h;refine GX (fG I hg U FU (A7 (cy (ha pos pins s Y H _ I h) λus a ⟨vs,v,f,B,C⟩=>?_) M O));obtain⟨a1,a2,xs,ys,e,g,Q,q⟩:=C;subst e;obtain⟨u1,u2,rfl,u,r⟩:=vM B;cases u;cases r;obtain⟨k,z,T,J⟩:=f.tuple g;obtain⟨j,w,t,G⟩:=f.tuple Q;refine NK T t λh' g1 g2 g3 g4 g5 g7=>?_
 have I2:bC X pins Y v {a with heap:=h',toks:=a.toks}:=f.kept (t':=a.toks) g7;refine EO (s:={a with heap:=h',toks:=a.toks}) g1 ?_;refine⟨a.heap.objs.size+4,_,_,_,v,rfl,I2,Me a1 a2 a.heap.objs.size xs ys ⟨T.lt,t.lt⟩,⟨g1,g2,⟨_,_,g3⟩,g4,g5⟩,λc hc=>?_,q⟩;have L:a.heap.objs.size<=c:=by
  rcases Xw hc with y |y |y |y |y<;>(rw[y];first |exact CQ _ _ |exact Ah _)
 exact f.ow L (f.cN.fresh L)
theorem SV (h:ei K a As): lu K (Vm K a) (VA As):=λF0 H0 F H Y δ P R e w q=>h F0 H0 F H Y δ _ _ e w λds vs F' H' p x r=>by
 split at p
 .rename_i xs ys;obtain⟨G,p⟩:=p;obtain⟨v1,v2,rfl,⟨a1,U,rfl,h1,h2⟩,⟨a2,u,rfl,A,v⟩⟩:=wq r;have O:=h2.length;have J:=v.length;refine⟨a1,a2,U,u,rfl,x.fh.lK h1,x.fh.lK A,q _ _ F' H' p x λF1 H1 f c=>?_⟩;have Q:=(f.trans c).lK h1;have m:=(f.trans c).lK A;have L:((xs.zip ys).map λp=>D.tup [p.1,p.2]).length=xs.length:=by simp;lia
  refine⟨λi hi=>⟨Q,m,by lia,by lia⟩,⟨Q,by lia⟩,λi x H2 hi y=>?_⟩;obtain⟨t,y1,y2,rfl,ht,M,l,k,T⟩:=y;obtain⟨C,o,j⟩:=h2.get' l;obtain⟨B,n,g⟩:=v.get' k;refine⟨.tup [C,B],cP F1 t (.tup [y1,y2]),?_,cE.new c ht M T,t,[y1,y2],rfl,.inl (.inl a0),?_⟩
  .rw [AH,Ce (z:=(C,B)) |>.mpr ⟨o,n⟩];rfl
  .exact ⟨_,_,rfl,(j.mono f).mono (a6.Md (c.free ht)),_,_,rfl,(g.mono f).mono (a6.Md (c.free ht)),rfl⟩
 .exact p.elim
end
def R3 (w:AT)(K:Ap)(m:Al->Option Aa)(x:Al)(c:List (Al×D)):Prop:=
 ∃a e n,m x=some (.ref a)/\K.lookup a=some ⟨.type "dict",none,.dict e n,#[]⟩/\Kg w.params e.toList/\(a==E7)=false/\
  ∀k,match c.lookup k with
   |some d=>∃b,JN Eg e k=some (.ref b)/\∀F,dY K F d (.ref b)
   |none=>JN Eg e k=none
inductive Yf (K:Ap):List (Al×D)->List Gn->Prop
 |nil:Yf K [] []
 |cons {k:Al} {d:D} {hs:Int} {t:Ku} {b:Ac} {LG:List (Al×D)} {es:List Gn}:(∀F,dY K F d (.ref b))->Yf K LG es->Yf K ((k,d)::LG) (⟨hs,.str k t,.ref b⟩::es)
theorem Yf.find {K:Ap}{a:List (Al×D)}{f:List Gn}(r:Yf K a f)(k:Al):match a.lookup k with
   |some d=>∃b,(f.find? λe=>Eg k e.key).map (·.val)=some (.ref b)/\∀F,dY K F d (.ref b)
   |none=>(f.find? λe=>Eg k e.key).map (·.val)=none:=by
 induction r with
 |nil=>rfl
 | @cons c d j t b a f h r g=>
  by_cases z:c=k
  .subst z;rw[Cu,beq_self_eq_true];refine⟨b,?_,h⟩;rw[List.find?_cons_of_pos (by show (c==c)=true;exact beq_self_eq_true _)];rfl
  .have h1:(k==c)=false:=beq_eq_false_iff_ne.mpr (Be z);have h2:(c==k)=false:=beq_eq_false_iff_ne.mpr z;rw[Cu,h1,List.find?_cons_of_neg (by show ¬ (c==k)=true;rw[h2];exact AL)];exact g
theorem Up {w:AT}{K:Ap}{m:Al->Option Aa}{x:Al}{c:List (Al×D)}{a:Ac}{f:List Gn}{n:Nat}(e:m x=some (.ref a))(lk:K.lookup a=some ⟨.type "dict",none,.dict f.toArray n,#[]⟩)
  (l:Kg w.params f) (M:(a==E7)=false) (r:Yf K c f):R3 w K m x c:=
 ⟨a,f.toArray,n,e,lk,l,M,λk=>by
  have h:=r.find k;unfold JN;rw[List.find?_toArray];exact h⟩
def zU (a:List (Al×D))(ty:TE):TE:=λY H Q=>ty Y H λy c=>∃k,y = .str k/\Q (.bl (a.lookup k).isNone) c
def OH (K:Ap)(a:List (Al×D))(ty:TE):TE:=λY H Q=>ty Y H λy c=>∃k d,y = .str k/\a.lookup k=some d/\∀v,(∀F,dY K F d v)->Q v c
def LX (a:List (Al×D))(E:DE):DE:=λδ P=>E δ λd=>match d with
 | .str k=>P (.bl (a.lookup k).isNone)
 |_=>False
def VM (a:List (Al×D))(E:DE):DE:=λδ P=>E δ λd=>match d with
 | .str k=>∃d,a.lookup k=some d/\P d
 |_=>False
section
variable {X:Cx}{K:Ap}{x:Al}{LG:List (Al×D)}{i:Expr}{ty:TE}{pos pos':Dt}
theorem M_ (hg:Gl X x)(M:R3 X.w X.K X.mg x LG)(hi:PE X i ty)(hd:(x==("__debug__":Al))=false:=by decide): PC X .NotIn i (.Name x pos) (zU LG ty):=by
 intro pins s Y H Q I h;obtain⟨a,J,n,e,lk,L,m,c⟩:=M;refine cy (hi pins s Y H _ I h) λG l ⟨y,B,A,r,k,z,p⟩=>?_
 subst z;refine cy (lT (v:=.ref a) hg e rfl hd pins l Y B (λx g=>x = .ref a/\Q (.bl (LG.lookup k).isNone) g) A ⟨rfl,p⟩) λu C ⟨x,g,j,o,ex,q⟩=>?_
 subst ex;obtain rfl:u=Bk a:=o;obtain⟨t,rfl⟩:=r;refine wpAny_notIn_of (KJ X.prog X.w k t) m (Kd j.kE lk L) ?_;refine⟨.bl (LG.lookup k).isNone,g,j.tok _,?_,q⟩;have f:=c k;split at f
 .rename_i d hl;obtain⟨b,f1,_⟩:=f;rw[hl];rw[f1];rfl
 .rename_i hl;rw[hl];rw[f];rfl
theorem Tf (hg:Gl X x)(m:R3 X.w X.K X.mg x LG)(hi:PE X i ty)(z:L_ i)(hd:(x==("__debug__":Al))=false:=by decide): PE X (.Subscript (.Name x pos') i pos) (OH X.K LG ty):=by
 intro pins s Y H Q I h;obtain⟨a,O,n,e,lk,L,M,c⟩:=m;refine GW (cy (lT (v:=.ref a) hg e rfl hd pins s Y H (λx g=>x = .ref a/\OH X.K LG ty Y g Q) I ⟨rfl,h⟩) λu l ⟨x,C,B,o,ex,p⟩=>?_);subst ex;obtain rfl:u=Bk a:=o;refine cy (hi pins l Y C _ B p) λJ G ⟨y,g,j,r,k,d,A,hl,q⟩=>?_
 subst A;obtain⟨t,rfl⟩:=r;have f:=c k;rw[hl]at f;obtain⟨b,f1,f2⟩:=f;have m:=Kd (prog:=X.prog) j.kE lk L;exact J1 m.typeIs slot_dict_getitem.lookup (wpAny_getItem_of (KJ X.prog X.w k t) m f1 ⟨.ref b,g,j.tok _,rfl,q _ f2⟩) (z _ _)
theorem M0 (h:cO K t E): cO K (zU LG t) (LX LG E):=λf a F H Y δ P Q e w q=>h f a F H Y δ _ _ e w λd v g c p x r=>by
 split at p
 .obtain rfl:v = .str _:=r;exact⟨_,rfl,q _ _ g c p x rfl⟩
 .exact p.elim
theorem S3 (h:cO K t E): cO K (OH K LG t) (VM LG E):=λg c F H Y δ P Q e w q=>h g c F H Y δ _ _ e w λd v a f p x r=>by
 split at p
 .obtain rfl:v = .str _:=r;obtain⟨d',hl,p⟩:=p;exact⟨_,d',rfl,hl,λu U=>q _ _ a f p x (U a)⟩
 .exact p.elim
end
section
variable {M:I_}{A:AU}{E:Aa->Af->Prop}{s:Af}
end
section
variable {X:Cx}{pins:List (Ac×B5)}{Y:St}{H:Hp}{s:Af}{scope:BG}{N:List Al}{ix:List (Option Nat)}{fp:List Ac}{z:Al}
end
section
variable {X:Cx}{tg elt iter:Expr}{scope:BG}{N:List Al}{ix:List (Option Nat)}{wi:TI}{g:TG}{te:TE}{pos:Dt}{z:Al}
end
section
variable {X:Cx}
end
section
variable {K:Ap}
end
noncomputable def g1 {c:Type}(l r:List c):List c->List c->List c
 | [a],[b]=>a::(l++b::r)
 |_,_=>[]
section
variable {P:AA}{w:AT}{K:Ap}{mg:Al->Option Aa}{base:Heap}{x:Al}{k:Nat}{ps:List Al}{sp:Sp}{d0 d1:V}
end
section
variable {X:Cx}{x:Al}{k:Nat}{ps:List Al}{sp:Sp}{d0 d1:V}{e c:Expr}{t tk:TA}{p pos kp:Dt}{nm:Al}
end
section
variable {K:Ap}
end
section
variable {K:Ap}
end
section
variable {K:Ap}{F0 H0 F H F' H':Hp}{Y:St}{δ:cY}{A:Nat->List Ac}{i:Nat}
end
section
variable {K:Ap}{c f m c2:Al}{ns ns2:List Al}{i j:Nat}
end
end L2
namespace PySem
section
variable {prog:AA}{w:AT}{A:AU}{R:Gm->Af->Prop}{I:Ac}{fp wr:List Ac}{G:Array H_->Array H_->Prop}{n:Nat}{P:Nat->Aa->Prop}{St:Nat->Af->Prop}
end
section
variable {prog:AA}{w:AT}{A:AU}{E:Aa->Af->Prop}{s:Af}
end
end PySem
namespace L2
open PySem PySem.Spec PyProof.Rows
section
variable {X:Cx}
end
section
variable {K:Ap}{c f:Al}{ns:List Al}{i j:Nat}
end
end L2
namespace PySem.W
open PySem PySem.Spec PySem.Calls PyProof.Rows Builtin Builtin.ObjectAttr Builtin.Getset_descriptor
section
variable {prog:AA}{w:AT}{A:AU}{E:Aa->Af->Prop}{s:Af}{K:Ap}{x D:Ac}{ox:B5}
end
end PySem.W
namespace L2
open PySem PySem.Spec PyProof.Rows PyProof.V PySem.W
section
variable {X:Cx}
end
section
variable {K:Ap}{F0 H0:Hp}{t u:TS}{T U:DS}
theorem bY.x (h:bY K t T): ls K F0 H0 t T:=λF H Y δ e n=>h F0 H0 F H Y δ e n
theorem yn (h:ls K F0 H0 t T)(g:ls K F0 H0 u U): ls K F0 H0 (rq t u) (Pc T U):=λF H Y δ c E e l w=>
 h F H Y δ {c with nx:=U c} _ e ⟨λn m k a j f=>g n m k a c E j l f,l.bk,l.ct,l.rt⟩ w
theorem YA (h:jk K c C)(ht:ls K F0 H0 t T)(j:ls K F0 H0 u U): ls K F0 H0 (OG c t u) (Ê C T U):=λF H Y δ g n e l w=>h F0 H0 F H Y δ _ _ e w λb f a p x=>by
 cases b with
 |true=>exact rS (ht f a Y δ g n (e.on x) l p)
 |false=>exact rT rfl (j f a Y δ g n (e.on x) l p)
end
section
variable {P:AA}{w:AT}{K:Ap}{mg:Al->Option Aa}{base:Heap}{N:List Al}{qual:Al}{scope:BG}{f:Ac}{cd:Aa}{A:AU}{outer:List DU}{s:Af}{H:Hp}{E:XK}
end
section
variable {K:Ap}{F0 H0 F H:Hp}{Y:St}{δ:cY}{A:Nat->List Ac}
end
open PySem PySem.Spec PyProof.Rows
section
variable {X:Cx}{K:Ap}
end
open PySem PySem.Spec PyProof.Rows PyProof.V PySem.W
section
variable {X:Cx}
end
section
variable {K:Ap}{X:Cx}
end
section
variable {M:I_}{A:AU}{E:Aa->Af->Prop}{s:Af}
end
section
variable {P:AA}{w:AT}{K:Ap}{mg:Al->Option Aa}{base:Heap}{N:List Al}{qual:Al}{scope:BG}{f:Ac}{cd:Aa}{A:AU}{outer:List DU}{s:Af}{H:Hp}{E:XK}
end
section
variable {P:AA}{w:AT}{K:Ap}{mg:Al->Option Aa}{base:Heap}{N0:List Al}{qual:Al}{Wd:BG}{f:Ac}{cd:Aa}{A:AU}{outer:List DU}{s0:Af}{H0:Hp}{E:XK}
variable {X:Cx}{tg iter e:Expr}{es:List Expr}{scope:BG}{N:List Al}{ix:List (Option Nat)}{wi:TI}{g:TG}{ta:TA}{pos p q8:Dt}{x:Al}{k:Nat}{ps:List Al}{sp:Sp}
end
section
variable {K:Ap}{F0 H0:Hp}
end
open PySem PySem.Spec PyProof.Rows
section
variable {X:Cx}{K:Ap}
end
open PySem PySem.Spec PyProof.Rows PyProof.V PySem.W
section
variable {K:Ap}{h:Heap}{mg:Al->Option Aa}{x m q c:Al}{st:AZ}{f T C:Ac}{od an Ÿ:Option Ac}{sl Ű:Array (Option Aa)}{oc kV dc pm cd ct Ź:Aa}{nT:Nat}{ds:Array Aa}
theorem fL (X:K.In h)(G:h.Ns Am mg)(a:C4 K Am x=some (some (.ref f)):=by k_is)(l:K.lookup f=some ⟨oc,od,.func (DC x x (bS st) (a9 st) (aB st) .none kV dc pm an cd ct),sl⟩:=by k_is)(d:FT K cd x=true:=by k_is)(k:DJ K (.ref f)=true:=by k_is):
  bL K mg x st f (DC x x (bS st) (a9 st) (aB st) .none kV dc pm an cd ct):=⟨zf l d k,Gr X G a⟩
theorem Zr (X:K.In h)(G:h.Ns Am mg)(a:C4 K Am x=some (some (.ref f)):=by k_is)(l:K.lookup f=some ⟨oc,od,.func (DC x x (bS st) (a9 st) (aB st) (.ref T) kV dc pm an cd ct),sl⟩:=by k_is)(d:FT K cd x=true:=by k_is)(k:DJ K (.ref f)=true:=by k_is)(dl:K.lookup T=some ⟨Ź,Ÿ,.seq ds nT,Ű⟩:=by k_is):
  vC K mg x st f (DC x x (bS st) (a9 st) (aB st) (.ref T) kV dc pm an cd ct) T ds:=⟨⟨_,_,_,_,_,_,_,_,_,rfl,l,d⟩,⟨_,_,dl,rfl⟩,k,Gr X G a⟩
theorem Zq (X:K.In h)(G:h.Ns Am mg)(a:C4 K Am x=some (some (.ref f)):=by k_is): kK K mg x:=⟨_,a,Gr X G a⟩
theorem Zu (X:K.In h)(A:C4 K Am c=some (some (.ref C)):=by k_is)(p:F_ K C GG=true:=by k_is)(hd:Gk K C=true:=by k_is)(po:Hn K C=true:=by k_is)(a:DL K (.ref C) "__setattr__"=some (some (.builtin "object.__setattr__")):=by k_is)(hn:∀f∈ns,DL K (.ref C) f=some none)(h1:ns.Nodup)(h2:ns.length<1000): dE K c ns:=
 ⟨⟨C,A,⟨p,hd,po,a⟩,hn⟩,h1,h2⟩
theorem m_ (X:K.In h)(g:dE K c ns)(A:C4 K Am c=some (some (.ref C)):=by k_is)(a:DL K (.ref C) m=some (some (.ref f)):=by k_is)(i:Ke K (.ref f)=true:=by k_is)(l:K.lookup f=some ⟨oc,od,.func (DC m q (bS st) (a9 st) (aB st) .none kV dc pm an cd ct),sl⟩:=by k_is)(d:FT K cd q=true:=by k_is)(k:DJ K (.ref f)=true:=by k_is):
  e7 K c m q st f (DC m q (bS st) (a9 st) (aB st) .none kV dc pm an cd ct):=by
 obtain⟨j,e,Z,_⟩:=g.ex;rw[A]at e;cases e;exact⟨zf l d k,⟨_,A,Z,⟨a,i,k⟩⟩⟩
theorem Zs (X:K.In h)(G:h.Ns Am mg)(A:C4 K Am c=some (some (.ref C)):=by k_is)(mk:IW K C=true:=by k_is)(e:DJ K (.ref C)=true:=by k_is)(a:DL K (.ref C) "__init__"=some (some (.ref f)):=by k_is)(i:Ke K (.ref f)=true:=by k_is)(l:K.lookup f=some ⟨oc,od,.func (DC "__init__" q (bS st) (a9 st) (aB st) .none kV dc pm an cd ct),sl⟩:=by k_is)(d:FT K cd q=true:=by k_is)(k:DJ K (.ref f)=true:=by k_is):
  NT K "__init__" q st f (DC "__init__" q (bS st) (a9 st) (aB st) .none kV dc pm an cd ct)/\xH K mg c f:=⟨zf (x := "__init__") l d k,⟨⟨_,A,⟨mk,a,i,e⟩,Gr X G A⟩⟩⟩
theorem mz (X:K.In h)(G:h.Ns Am mg)(e:C4 K Am n=some none:=by k_is): mg n=none:=PySem.W.mg_none_of X G e
theorem mv (X:K.In h)(G:h.Ns Am mg)(e:C4 K Am n=some (some v):=by k_is): mg n=some v:=Gr X G e
end
section
variable {K:Ap}
end
section
variable {X:Cx}
end
section
variable {K:Ap}
end
section
variable {K:Ap}
end
section
variable {X:Cx}
end
section
variable {P:AA}{w:AT}{K:Ap}{mg:Al->Option Aa}{base:Heap}{c m q:Al}{ns:List Al}{st:AZ}{f:Ac}{fd:Ak}{N ps:List Al}{k n:Nat}
end
section
variable {K:Ap}
end
end L2
namespace PySem
open Builtin
end PySem
namespace L2
open PySem PySem.Spec PyProof.Rows PyProof.V PySem.W
section
variable {X:Cx}
end
section
variable {K:Ap}
end
section
variable {P:AA}{w:AT}{K:Ap}{mg:Al->Option Aa}{base:Heap}{N:List Al}
end
def Ld:V->List V->Hp->VK->Prop:=λx vs H Q=>∃l xs i y,x = .ref l/\vs=[.int i,y]/\H l=some (.lst xs)/\0<=i/\i<=(xs.length:Int)/\xs.length<AM/\Q .cB (cP H l (.lst (xs.take i.toNat++y::xs.drop i.toNat)))
section
variable {X:Cx}
theorem Nq:ZW X "list.insert" Ld:=by
 intro pins s Y H x vs v us Q I c f h;obtain⟨l,xs,i,y,rfl,rfl,a,p,h1,m,q⟩:=h;cases c;obtain⟨j,u,rfl,U,g⟩:=vM f;obtain⟨t,rfl⟩:=U;obtain⟨z,T,n,r,hl,e⟩:=I.Nt a;have o:=Cr;refine DI F.slot_list_insert ⟨_,e,rfl⟩ F.entry_list_insert (F.args_list_insert_3 _ _ _) (KC l T.toArray n i t u (by rw[GP (by lia) (by lia)];decide) (by rw[Ay];lia)) ⟨e,?_⟩;refine⟨.cB,_,I.QS (its':=T.take i.toNat++u::T.drop i.toNat) a e ?_ ((r.take _).append (.cons g (r.drop _))) ?_,rfl,q⟩
 .have k:(if i<0 then (i+((T.toArray.size:Nat):Int)).toNat else min i.toNat T.toArray.size)=i.toNat:=by
   rw[if_neg (by lia),Ay];lia
  rw[k];simp
  exact BI (by rw[DX];exact Ah _)
 .rw [AF,AR,BD,DX];omega
end
section
variable {K:Ap}{te ti:TE}{Eo:DO}{Ei:DE}
end
section
variable {X:Cx}
end
section
variable {K:Ap}
end
section
variable {P:AA}{w:AT}{K:Ap}{mg:Al->Option Aa}{base:Heap}{N:List Al}{qual:Al}{scope:BG}{f:Ac}{cd:Aa}{A:AU}{outer:List DU}{s:Af}{H:Hp}{E:XK}
end
section
variable {K:Ap}{F0 H0:Hp}{t ta tc:TE}{Ec:DO}{Ea:DE}
theorem YB (h:rn K F0 H0 tc Ec): rn K F0 H0 tc (ZF (zi Ec)):=λF H Y δ P Q e w q=>h F H Y δ _ _ e w λr v l j f c n=>by
 obtain⟨k,a,_,g⟩:=n.eh c;exact q _ v k j f a (.fz g)
theorem Wj (h:rn K F0 H0 tc Ec): ls K F0 H0 (OB tc) (SS Ec):=λF H Y δ g f e l w=>h F H Y δ _ _ e w λr v c a p x n=>l.rt c a r v (e.ext.trans x) (n.old e.ext.hh) p
theorem Wi (h:rn K F0 H0 tc Ec): ls K F0 H0 (kB tc (gO i)) (SM i Ec):=λF H Y δ g f e l w=>h F H Y δ _ _ e w λr v c a p x n=>l.nx c a _ _ (e.put x i n) p
end
section
variable {P:AA}{w:AT}{K:Ap}{mg:Al->Option Aa}{base:Heap}{N0:List Al}{qual:Al}{Wd:BG}{f:Ac}{cd:Aa}{A:AU}{outer:List DU}{s0:Af}{H0:Hp}{E:XK}
variable {X:Cx}{tg iter e:Expr}{es:List Expr}{scope:BG}{N:List Al}{ix:List (Option Nat)}{wi:TI}{g:TG}{ta:TA}{pos p q8:Dt}{x:Al}{k:Nat}{ps:List Al}{sp:Sp}
end
section
variable {K:Ap}{ti:TE}{Ei:DE}
end
section
variable {K:Ap}{c:Al}{ns:List Al}{i:Nat}
end
structure DER where
 nx:cY->Prop
 rt:D->cY->Prop
 xr:Al->cY->Prop
abbrev DSR:=DER->cY->Prop
section
variable {K:Ap}{F0 H0:Hp}{E:XK}{t u:TS}{T U:DSR}
end
section
variable {P:AA}{w:AT}{K:Ap}{mg:Al->Option Aa}{base:Heap}{c m q:Al}{ns:List Al}{st:AZ}{f:Ac}{fd:Ak}{N ps:List Al}{k n:Nat}
end
abbrev Ũ:=cY->(D->cY->Prop)->Prop
abbrev DTf:=cY->(Bool->cY->Prop)->Prop
def eF (E:DE):Ũ:=λδ P=>E δ λd=>P d δ
section
variable {K:Ap}{ta tb:TE}{Ea Eb:Ũ}{Eb':DE}{ua ub:TT}{Ca Cb:DTf}{t u:TS}{T U:DS}
end
section
variable {X:Cx}
end
section
variable {K:Ap}
end
section
variable {P:AA}{w:AT}{K:Ap}{mg:Al->Option Aa}{base:Heap}{c m q:Al}{ns:List Al}{st:AZ}{f:Ac}{fd:Ak}{N ps:List Al}{k n:Nat}
end
section
variable {K:Ap}{h:Heap}{mg:Al->Option Aa}{c wx:Al}{C W:Ac}
theorem t2 (l:K.lookup x=some ⟨.type "tuple",o,.seq #[.int p T,.int q t] n,L⟩)(F:Hp): dY K F (.tup [.int p,.int q]) (.ref x):=⟨_,[.int p,.int q],rfl,.inr ⟨_,_,_,l,rfl,rfl,eI (show 2<=1000000 by decide),.cons ⟨_,rfl⟩ (.cons ⟨_,rfl⟩ (.nil))⟩,⟨_,_,rfl,rfl,⟨_,_,rfl,rfl,rfl⟩⟩⟩
theorem t5 (l:K.lookup x=some ⟨.type "tuple",o,.seq #[.int p e,.int q Q,.int r a,.int u T,.int v t] n,L⟩)(F:Hp): dY K F (.tup [.int p,.int q,.int r,.int u,.int v]) (.ref x):=⟨_,[.int p,.int q,.int r,.int u,.int v],rfl,.inr ⟨_,_,_,l,rfl,rfl,eI (show 5<=1000000 by decide),.cons ⟨_,rfl⟩ (.cons ⟨_,rfl⟩ (.cons ⟨_,rfl⟩ (.cons ⟨_,rfl⟩ (.cons ⟨_,rfl⟩ (.nil)))))⟩,⟨_,_,rfl,rfl,⟨_,_,rfl,rfl,⟨_,_,rfl,rfl,⟨_,_,rfl,rfl,⟨_,_,rfl,rfl,rfl⟩⟩⟩⟩⟩⟩
end
theorem bZ.of2 {K:Ap}{h:Heap}(X:K.In h)(h:∀d∈[D.int 0,.bl true,.cB,.str GG,.tup [],.lst [],.Of],∀n∈nV,ID K (.type d.Æ) (.type n)=some (Q4 d n)):bZ K:=by
 refine⟨λd ⟨hd,e,a⟩ n hn=>?_⟩
 cases d with
 |ty m=>exact absurd rfl (hd m)
 |fn m=>exact absurd rfl (e m)
 |exc m=>exact absurd rfl (a.1 m)
 |obj c ns ds=>exact absurd rfl (a.2.1 c ns ds)
 |oW g f Q q=>exact absurd rfl (a.2.2 g f Q q)
 |int _=>exact h (.int 0) (by simp) n hn
 |bl _=>exact h (.bl true) (by simp) n hn
 |cB=>exact h .cB (by simp) n hn
 |str _=>exact h (.str GG) (by simp) n hn
 |tup _=>exact h (.tup []) (by simp) n hn
 |lst _=>exact h (.lst []) (by simp) n hn
 |Of=>exact h .Of (by simp) n hn
noncomputable def kA (C:List Ac)(H:Hp):Hp:=λb=>if b∈C then none else H b
noncomputable def m4 (C:List Ac)(T H:Hp):Hp:=λb=>if b∈C then T b else H b
theorem kX {C:List Ac}{H:Hp}{b:Ac}(h:b∈C):kA C H b=none:=if_pos h
theorem cJ {C:List Ac}{H:Hp}{b:Ac}(h:b∉C):kA C H b=H b:=if_neg h
theorem hV {C:List Ac}{T H:Hp}{b:Ac}(h:b∈C):m4 C T H b=T b:=if_pos h
theorem cv {C:List Ac}{T H:Hp}{b:Ac}(h:b∉C):m4 C T H b=H b:=if_neg h
def fN (C:List Ac)(T:Hp):Prop:=∀c∈C,∃o u,T c=some (.eh o (.own c))/\o.data = .cell u
section
variable {P:AA}{w:AT}{C:List Ac}{T H H':Hp}{h:Heap}
theorem fN.not (t:fN C T){c:Ac}{u:HO}(hc:c∈C)(e:T c=some u):(∀x,u≠.own x)/\¬ Wy u:=by
 obtain⟨o,z,a,g⟩:=t c hc;rw[e]at a;cases a;refine⟨λx q=>(by cases q),λq=>?_⟩;rcases q with⟨_,q⟩ | ⟨O,c',q',f,vs,t,Q,_⟩
 .cases q
 .cases f;rw[g]at Q;cases Q
theorem kL.kA (ok:kL P w H h)(t:fN C H):kL P w (kA C H) h:=λa o e=>by
 by_cases A:a∈C
 .rw [kX A]at e;cases e
 rw[cJ A]at e;refine (ok a o e).rx (λ_ _ _ q=>q) (λb q=>?_) λb u q r=>?_
 .rw [cJ λz=>(t.not z q).1 _ rfl];exact q
 .rw [cJ λz=>(t.not z q).2 r];exact q
theorem kL.m4 (ok:kL P w H h)(n:∀c∈C,H c=none)(t:fN C T)(g:∀c∈C,∀o u,T c=some (.eh o u)->h.get? c=some o):kL P w (m4 C T H) h:=λa o e=>by
 by_cases A:a∈C
 .rw [hV A]at e;obtain⟨O,u,f,j⟩:=t a A;rw[e]at f;cases f;have:=g a A _ _ e;exact⟨this,_,this⟩
 rw[cv A]at e;refine (ok a o e).rx (λ_ _ _ q=>q) (λb q=>?_) λb u q r=>?_
 .rw [cv λz=>by rw[n b z]at q;cases q];exact q
 .rw [cv λz=>by rw[n b z]at q;cases q];exact q
variable {outer:List DU}{s s':Af}{Q:VK}{u:Aa}
theorem CE.U6 (t:fN C H)(l:∀c∈C,∀o u,H c=some (.eh o u)->s.heap.get? c=some o)(hf:∀c∈C,c∉vm outer)(x:CE outer P w (L2.kA C H) s (λv f=>Q v (L2.m4 C H f)) u s'):CE outer P w H s Q u s':=by
 obtain⟨v,f,os,A,un,k,r,q⟩:=x;have g:∀c∈C,f c=none/\∀o z,H c=some (.eh o z)->s'.heap.get? c=some o:=λc hc=>by
  obtain⟨o,z,a,G⟩:=t c hc;have O:=l c hc o _ a;exact⟨un.free c o O (kX hc) (by simp),λp m e=>by rw[a]at e;cases e;exact un.keep c o O (kX hc) (hf c hc) (by simp)⟩
 have U:∀b,H b=none->L2.kA C H b=none:=λb n=>by unfold L2.kA;split;rfl;exact n
 refine⟨v,_,os,A,⟨λb o e n=>un.keep b o e (U b n),λb o e n=>un.slot b o e (U b n),λb o e n j=>?_,un.there,λb xs e=>?_,λb o y e=>?_,λb ps e=>?_⟩,k.m4 (λc hc=>(g c hc).1) t λc hc o z e=>(g c hc).2 o z e,r,q⟩
 .by_cases B:b∈C
  .rw [hV B];exact n
  .rw [cv B];exact un.free b o e (U b n) j
 .have B:b∉C:=λz=>by obtain⟨_,_,a,_⟩:=t b z;rw[e]at a;cases a
  rw[cv B];exact un.pk b xs (by rw[cJ B];exact e)
 .by_cases B:b∈C
  .rw [hV B];exact e
  .rw [cv B];exact un.l8 b o y (by rw[cJ B];exact e)
 .have B:b∉C:=λz=>by obtain⟨_,_,a,_⟩:=t b z;rw[e]at a;cases a
  obtain⟨more,q⟩:=un.pq b ps (by rw[cJ B];exact e);exact⟨more,by rw[cv B];exact q⟩
theorem CE.Yk (n:∀c∈C,H c=none)(t:fN C T)(G:∀c∈C,∀o u,T c=some (.eh o u)->s.heap.get? c=some o)(hf:∀c∈C,c∉vm outer)(x:CE outer P w (L2.m4 C T H) s (λv m=>Q v (L2.kA C m)) u s'):CE outer P w H s Q u s':=by
 obtain⟨v,m,os,A,un,k,r,q⟩:=x;have p:∀c∈C,∃o z,s.heap.get? c=some o/\s'.heap.get? c=some o/\m c=some (.eh o (.own c))/\o.data = .cell z:=λc hc=>by
  obtain⟨o,z,l,j⟩:=t c hc;have e:=un.l8 c o (.own c) (by rw[hV hc];exact l);exact⟨o,z,G c hc o _ l,(k c _ e).1,e,j⟩
 have a:∀b,b∉C->H b=none->L2.m4 C T H b=none:=λb B n=>by rw[cv B];exact n
 have f:∀{b y},H b=some y->b∉C:=λe z=>by rw[n _ z]at e;cases e
 refine⟨v,_,os,A,⟨λb o e n B g=>?_,λb o e n B g=>?_,λb o e n g=>?_,un.there,λb xs e=>?_,λb o y e=>?_,λb ps e=>?_⟩,k.kA λc hc=>?_,r,q⟩
 .by_cases h:b∈C
  .obtain ⟨O,_,l,j,_⟩:=p b h;rw[e]at l;cases l;exact j
  .exact un.keep b o e (a b h n) B g
 .exact un.slot b o e (a b (λz=>hf b z B) n) B g
 .by_cases h:b∈C
  .exact kX h
  .rw [cJ h];exact un.free b o e (a b h n) g
 .rw [cJ (f e)];exact un.pk b xs (by rw[cv (f e)];exact e)
 .rw [cJ (f e)];exact un.l8 b o y (by rw[cv (f e)];exact e)
 .obtain ⟨more,q⟩:=un.pq b ps (by rw[cv (f e)];exact e);exact⟨more,by rw[cJ (f e)];exact q⟩
 .obtain ⟨o,z,_,_,e,j⟩:=p c hc;exact⟨o,z,e,j⟩
variable {K:Ap}{mg:Al->Option Aa}{base:Heap}{A:AU}
theorem kd.kA (e:kd P w K mg base A outer s H)(t:fN C H):kd P w K mg base A outer s (L2.kA C H):=
 ⟨e.frames,e.mod,λb o q=>⟨(e.bs b o q).1,by unfold L2.kA;split;rfl;exact (e.bs b o q).2⟩,e.L3,e.j8,λb B=>by unfold L2.kA;split;rfl;exact e.Rp b B,e.cN.kA t,e.bare⟩
theorem kd.m4 (e:kd P w K mg base A outer s H)(n:∀c∈C,H c=none)(t:fN C T)(a:∀c∈C,∀o u,T c=some (.eh o u)->s.heap.get? c=some o)(hf:∀c∈C,c∉vm outer)(B:∀c∈C,base.get? c=none):kd P w K mg base A outer s (L2.m4 C T H):=
 ⟨e.frames,e.mod,λb o q=>⟨(e.bs b o q).1,by rw[cv λz=>by rw[B b z]at q;cases q];exact (e.bs b o q).2⟩,e.L3,e.j8,λb h=>by rw[cv λz=>hf b z h];exact e.Rp b h,e.cN.m4 n t a,e.bare⟩
end
structure i4 (h:Heap) (H:Hp) (cl:List (Al×Ac)) (ws:List V):Prop where
 len:cl.length=ws.length
 at':∀(i:Nat) x c v,cl[i]?=some (x,c)->ws[i]?=some v->H c=none/\∃u,cA v u/\h.IsCell c (some u)
 YS:(cl.map (·.1)).Nodup
 YT:(cl.map (·.2)).Nodup
structure iq (N fs ps:List Al) (sc:BG):Prop where
 kind:sc.kind = .function
 co:sc.isCoroutine=false
 gen:sc.isGenerator=false
 nd:N.Nodup
 pre:N.take (fs.length+ps.length)=fs++ps
 fre:∀x∈fs,sc.names.lookup x=some .free
 par:∀x∈ps,sc.names.lookup x=some .local
 only:∀y∈sc.names,y.2≠.cell/\(y.2 = .free->y.1∈fs)
noncomputable def X' (P:AA)(w:AT)(K:Ap)(mg:Al->Option Aa)(base:Heap)(N:List Al)(q:Al)(scope:BG)(f:Ac)(cd:Aa)(cl:List (Al×Ac))(A:AU)(outer:List DU)(s:Af)(H:Hp):Cx where
 prog:=P
 w:=w
 K:=K
 mg:=mg
 base:=base
 A:=A.deeper (JR q scope s.heap.objs.size f cd cl)
 N:=N
 s₀:=s
 H₀:=H
 env:=JR q scope s.heap.objs.size f cd cl
 outer:=outer
 stack:=JR q scope s.heap.objs.size f cd cl::outer
 ex:=[]
 fn:=λ_=>false
 calm:=true
 pn:=[]
 xe:=λ_ _=>False
structure n_ (P:AA) (w:AT) (K:Ap) (mg:Al->Option Aa) (base:Heap) (k:Nat) (q:Al) (st:AZ) (fs:List Al) (sp:Sp):Prop where
 run:∀(A:AU) (outer:List DU) (s:Af) (H:Hp) (f c:Ac) (cl:List (Al×Ac)) (doc pm ZK:Aa) (us:List Aa) (ws vs:List V) (Q:VK),cC k A->kd P w K mg base A outer s H->s.heap.get? f=some (fj q st cl doc pm c ZK)->s.heap.CodeRec (.ref c) q->
  cl.map (·.1)=fs->i4 s.heap H cl ws->bH vs us->sp (ws++vs) H Q E0->Cd (model P w) A (.call (.ref f) ⟨us,[]⟩) (CR jh outer P w H s Q E0) s
theorem W2 {l:List (Al×Ac)}{x y:Al}{c:Ac}(h:(l.map (·.2)).Nodup)(a:(x,c)∈l)(b:(y,c)∈l):x=y:=by
 induction l with
 |nil=>cases a
 |cons p r f=>
  rw[BJ,AD]at h;rcases AJ.mp a with e |a
  .rcases AJ.mp b with e' |b
   .rw [<- e]at e';cases e';rfl
   .exact absurd (Bf.mpr ⟨_,b,by rw[<- e]⟩) h.1
  .rcases AJ.mp b with e' |b
   .exact absurd (Bf.mpr ⟨_,a,by rw[<- e']⟩) h.1
   .exact f h.2 a b
theorem QU {c:Type}{l:List (Al×c)}{x:Al}{a:c}(n:(l.map (·.1)).Nodup)(m:(x,a)∈l):l.lookup x=some a:=by
 induction l with
 |nil=>cases m
 |cons p r h=>
  rw[BJ,AD]at n;rcases AJ.mp m with e |M
  .rw [<- e,Cu,beq_self_eq_true]
  .have:(x==p.1)=false:=by
    rw[beq_eq_false_iff_ne];rintro rfl;exact n.1 (Bf.mpr ⟨_,M,rfl⟩)
   obtain⟨g,f⟩:=p;rw[Cu,this];exact h n.2 M
section
variable {P:AA}{w:AT}{K:Ap}{mg:Al->Option Aa}{base:Heap}{N fs ps:List Al}{q:Al}{st:AZ}{k:Nat}{sp:Sp}
theorem qN {A:AU}{outer:List DU}{s:Af}{H:Hp}{f:Ac}{cd:Aa}{L:List (Al×Ac)}{us:List Aa}{j vs:List V}{g:Heap}{tk:Nat}(S:iq N fs ps (aB st))(hd:A.handled=none)(n:kd P w K mg base A outer s H)(hl:vs.length=ps.length)(hf:L.map (·.1)=fs)
  (hc:i4 s.heap H L j) (r:bH vs us) (J:g.Ns s.heap.objs.size (λx=>(ps.zip us).reverse.lookup x)) (Q:∀b o,s.heap.get? b=some o->g.get? b=some o):
  bC (X' P w K mg base N q (aB st) f cd L A outer s H) [] (start N (j++vs)) H {s with heap:=g,toks:=tk}:=by
 have Ē:fs.length=j.length:=by rw[<- hf,Au,hc.len]
 have Vr:fs.length+ps.length<=N.length:=by have:=congrArg FW S.pre;rw[BD,AF]at this;omega
 have O:∀b:Ac,b∉(X' P w K mg base N q (aB st) f cd L A outer s H).ex:=λb z=>absurd (show b∈([]:List Ac) from z) (by simp)
 have C:∀{c v},s.heap.IsCell c v->g.IsCell c v:=λ⟨o,ho,hd⟩=>⟨o,Q _ _ ho,hd⟩
 have m:∀{x c},L.lookup x=some c->(x,c)∈L:=λh=>PySem.mem_of_lookup h
 have all:∀{x c},(x,c)∈L->H c=none/\∃u,s.heap.IsCell c (some u):=λ{x c} h=>by
  obtain⟨i,hi,e⟩:=G4.mp h;have T:i<j.length:=by rw[<- hc.len];exact hi
  obtain⟨a,u,_,b⟩:=hc.at' i x c j[i] (by rw[Ad hi,e]) (Ad T);exact⟨a,u,b⟩
 refine⟨⟨n.mod,S.kind,rfl,rfl,Ah _,λy z c h1 h2=>W2 hc.YT (m h1) (m h2),λy t=>?_,λy c z=>(by cases z),λ_=>hd,GH n.frames,.inr ⟨rfl,rfl⟩,λb z=>absurd z (O b),n.bs,n.L3,λb _ _=>O b,λb z=>absurd z (O b),n.j8,n.Rp⟩,
  rfl,n.bare,Un.kept Q,⟨_,J,λi y v h1 h2 h3=>?_⟩,λy c h=>?_,n.cN.fresh (Ah _),λy c h=>(all (m h)).1,λp l=>absurd (show p∈([]:List (Ac×B5)) from l) (by simp),n.cN.kept Q,?_⟩
 .have t:(aB st).names.lookup y=some .cell∨(aB st).names.lookup y=some .free:=t;rcases t with t |t
  .exact absurd rfl (S.only _ (PySem.mem_of_lookup t)).1
  .have hm:=(S.only _ (PySem.mem_of_lookup t)).2 rfl;rw[<- hf]at hm;obtain⟨⟨x,c⟩,M,rfl⟩:=Bf.mp hm;exact⟨c,QU hc.YS M⟩
 .have hi:i<j.length+vs.length:=by
   unfold start at h2;by_cases hi:i<j.length+vs.length
   .exact hi
   .rw [Bb (by simpa using hi),CZ]at h2;split at h2<;>cases h2
  have B:(j++vs)[i]?=some v:=by
   unfold start at h2;rw[AW (by simpa using hi),AH]at h2
   cases e:(j++vs)[i]? with
   |none=>rw[e]at h2;cases h2
   |some a=>rw[e]at h2;cases h2;rfl
  have l:(fs++ps)[i]?=some y:=by
   rw[<- S.pre,Ci (by omega)];exact h1
  by_cases hw:i<j.length
  .rw [AW hw]at B;rw[AW (by omega),<- hf,AH]at l
   cases e:L[i]? with
   |none=>rw[e]at l;cases l
   |some p=>
    rw[e]at l;obtain⟨x,c⟩:=p;cases l;obtain⟨_,u,ru,ϰ⟩:=hc.at' i x c v e B;refine⟨u,ru,.inr ⟨.inr (S.fre x ?_),c,QU hc.YS (Ai e),C ϰ⟩⟩;rw[<- hf];exact Bf.mpr ⟨_,Ai e,rfl⟩
  .rw [Bb (by omega)]at B l;obtain⟨u,U,rv⟩:=r.get B;have G:ps.Nodup:=by
    have:(fs++ps).Nodup:=by rw[<- S.pre];exact S.nd.sublist (FD _ _)
    exact (AY.mp this).2.1
   rw[Ē]at l;refine⟨u,rv,.inl ⟨S.par y (Ai l),(show B9 y (ps.zip us).reverse=some u from QU ?_ ?_)⟩⟩
   .rw [Ct];refine (List.reverse_perm _).nodup_iff.mpr ?_;rw[List.map_fst_zip (by rw[<- r.length,hl];exact Ah _)];exact G
   .rw [Dq];exact Ai (i:=i-j.length) (by rw[Ce];exact⟨l,U⟩)
 .obtain ⟨_,u,U⟩:=all (m h);exact⟨_,C U⟩
 .unfold start;show _=N.length
  rw[AF,Au,Bs,AF];omega
theorem XC (S:iq N fs ps (aB st))
  (hb:∀(l:List (Al×Ac)) (O pm:Aa) (c:Ac) (C:Aa) (us:List Aa),us.length=ps.length->BP (fnX (oV st) q (bS st) (a9 st) (aB st) l .none .none O pm none (.ref c) C) ⟨us,[]⟩=pure (ps.zip us))
  (n:∀vs H Q,sp vs H Q E0->vs.length=fs.length+ps.length)
  (h:∀(A:AU) (outer:List DU) (s:Af) (H:Hp) (f:Ac) (cd:Aa) (l:List (Al×Ac)),l.map (·.1)=fs->cC k (A.deeper (JR q (aB st) s.heap.objs.size f cd l))->
   ∃t,PSs (X' P w K mg base N q (aB st) f cd l A outer s H) (a9 st) t/\∀vs Q,sp vs H Q E0->t {nx:=λ_ a=>Q .cB a,rt:=Q} (start N vs) H):n_ P w K mg base (k+1) q st fs sp:=by
 refine⟨λA outer s H f c l O pm C us ws vs Q T e0 ho Xq hf hc r p=>?_⟩;have M:s.heap.NoLimit:=e0.mod.nolimit.keeps λb o e=>(e0.bs b o e).1
 have hl:=n _ _ _ p;have Ē:fs.length=ws.length:=by rw[<- hf,Au,hc.len]
 rw[AF]at hl;have L:vs.length=ps.length:=by omega
 refine codeAny_call_def (fd:=fnX (oV st) q (bS st) (a9 st) (aB st) l .none .none O pm none (.ref c) C) (body:=a9 st) (binds:=ps.zip us) T.depth ho rfl M Xq rfl (KZ (hb l O pm c C us (by rw[<- r.length];exact L)))
  (λx G=>(S.only x G).1) (λx G=>S.par _ (Ff G).1) (λT7 U hk=>?_) S.co S.gen S.kind
 obtain⟨t,ht,hq⟩:=h A outer s H f (.ref c) l hf (T.deeper _);have I:=qN (tk:=s.toks+(ps.zip us).length) (q:=q) (f:=f) (cd:=.ref c) S T.hd e0 L hf hc r U hk;refine B6 (ht [] _ _ H _ I (hq _ Q p)) (λfl m g=>?_) λe m z=>(show False from z).elim
 have fin:∀{j:St} {a:Hp} {v:V} {u:Aa},bC (X' P w K mg base N q (aB st) f (.ref c) l A outer s H) [] j a m->cA v u->Q v a->CE outer P w H s Q u m:=
  λ{j a v u} J B q=>⟨v,a,J.os,J.bare,J.base,J.cN,B,q⟩
 cases fl with
 |ret u=>
  obtain⟨v,j,a,J,B,q⟩:=g;exact fin J B q
 |next=>
  obtain⟨j,a,J,q⟩:=g;exact fin (v:=V.cB) (u:=Fp) J rfl q
 |brk=>
  obtain⟨_,_,_,q⟩:=g;exact A8 q
 |cont=>
  obtain⟨_,_,_,q⟩:=g;exact A8 q
end
structure oz (X:Cx) (cl:List (Al×Ac)) (ix:List Nat):Prop where
 len:cl.length=ix.length
 nm:∀(i:Nat) x c,cl[i]?=some (x,c)->X.env.cells.lookup x=some c/\X.env.kindOf x=some .cell/\Yb X.env.scope x/\∃j:Nat,ix[i]?=some j/\X.N[j]?=some x
 YS:(cl.map (·.1)).Nodup
 fn:∀(i:Nat) x c,cl[i]?=some (x,c)->X.fn x=true
def XN (Y:St)(ix:List Nat)(w:List V):Prop:=w.length=ix.length/\∀(i j:Nat) v,ix[i]?=some j->w[i]?=some v->Y[j]?=some (some v)
section
variable {X:Cx}{cl:List (Al×Ac)}{ix:List Nat}{pins:List (Ac×B5)}{Y:St}{H:Hp}{s:Af}{ws:List V}
theorem oz.YT (S:oz X cl ix)(ok:X.Ok):(cl.map (·.2)).Nodup:=by
 rw[Gg,Ej];have:=S.YS;rw[Gg,Ej]at this;refine DH (λ{a b} A B h e=>h ?_) this;obtain⟨i,hi⟩:=CC A;obtain⟨j,J⟩:=CC B;exact ok.inj a.1 b.1 a.2 (S.nm i a.1 a.2 hi).1 (by rw[(S.nm j b.1 b.2 J).1,e])
theorem oz.at' (S:oz X cl ix)(I:bC X pins Y H s)(h:XN Y ix ws){i:Nat}{x:Al}{c:Ac}{v:V}(hi:cl[i]?=some (x,c))(hw:ws[i]?=some v):H c=none/\∃u,cA v u/\s.heap.IsCell c (some u):=by
 obtain⟨h1,h2,g,j,f,a⟩:=S.nm i x c hi;refine⟨I.j9 x c h1,?_⟩;obtain⟨m,hn,hl⟩:=I.loc;obtain⟨u,r,l⟩:=hl j x v a (h.2 i j v f hw) g;rcases l with⟨k,_⟩ | ⟨_,c',e,z⟩
 .rw [h2]at k;cases k
 .rw [h1]at e;cases e;exact⟨u,r,z⟩
theorem oz.cells (S:oz X cl ix)(I:bC X pins Y H s)(h:XN Y ix ws):i4 s.heap H cl ws:=
 ⟨S.len.trans h.1.symm,λi x c v hi hw=>S.at' I h hi hw,S.YS,S.YT I.ok⟩
theorem S5 {k:Nat}{q:Al}{st:AZ}{fs:List Al}{sp:Sp}{f c:Ac}{O:B5}{o pm v:Aa}{us:List Aa}{vs:List V}{Q:VK}(C:n_ X.prog X.w X.K X.mg X.base k q st fs sp)(l:cC k X.A)(I:bC X pins Y H s)(hf:cl.map (·.1)=fs)
  (h1:H f=some (.eh (fj q st cl o pm c v) (.own f))) (h2:H c=some (.eh O (.own c))) (j:kS O q) (hc:i4 s.heap H cl ws) (r:bH vs us) (h:sp (ws++vs) H Q E0):AI (model X.prog X.w) X.A (call (.ref f) us) (EP X pins Y Q) X.xe s:=by
 obtain⟨g,t,j,m⟩:=j;refine E6 (Cc (C.run X.A X.stack s H f c cl o pm v us ws vs Q l I.NI (I.cN f _ h1).1 ⟨c,O,g,t,rfl,(I.cN c _ h2).1,j,m⟩ hf hc r h) λr n a=>?_)
 cases r with
 |error e=>exact (show False from a).elim
 |ok L=>
  cases L with
  |ret u=>exact I.after a
  |next=>exact A8 a
  |brk=>exact A8 a
  |cont=>exact A8 a
def OJ (i:Nat)(q:Al)(st:AZ)(cl:List (Al×Ac))(ix:List Nat)(sp:Sp)(t:TA):TE:=λY H Q=>∃f c O o pm v ws,Y[i]?=some (some (.ref f))/\H f=some (.eh (fj q st cl o pm c v) (.own f))/\XN Y ix ws/\t Y H λvs a=>
 a f=some (.eh (fj q st cl o pm c v) (.own f))/\a c=some (.eh O (.own c))/\kS O q/\sp (ws++vs) a Q E0
theorem Qi {y:Al}{i k:Nat}{q:Al}{st:AZ}{fs:List Al}{sp:Sp}{e:Expr}{g:List Expr}{t:TA}{p pos:Dt}(hn:PE X (.Name y p) (dt i))(C:n_ X.prog X.w X.K X.mg X.base k q st fs sp)(L:cC k X.A)(S:oz X cl ix)(hf:cl.map (·.1)=fs)(O:PA X (e::g) t)
  (M:Av (e::g) X.env=(false,eval e X.env)::Av g X.env:=by rfl) (l:(BY pos (Av g X.env)).any (·.1)=false:=by rfl):PE X (.Call (.Name y p) (e::g) [] pos) (OJ i q st cl ix sp t):=by
 intro pins s Y H Q I ⟨f,c,oc,o,pm,T,ws,J,h1,j,h⟩;refine BE (cy (hn pins s Y H (λv n=>v = .ref f/\n=H) I ⟨_,J,rfl,rfl⟩) λu B ⟨v,n,z,G,e1,U⟩=>?_);subst e1 U;cases G;have a:∀{Y H s pins},bC X pins Y H s->H f=some (.eh (fj q st cl o pm c T) (.own f))->FnAt f s.heap:=λI h=>⟨_,_,_,_,(I.cN f _ h).1⟩
 refine IE (a z h1) (cy (O pos pins B Y n _ z h) λus s2 ⟨vs,H2,m,r,g1,g2,g3,q⟩=>⟨a m g1,?_⟩) M l;rw[Fg];exact S5 C L m hf g1 g2 g3 (S.cells m j) r q
def OI (i:Nat)(q:Al)(st:AZ)(fs:List Al)(sp:Sp)(t:TA):TE:=λY H Q=>∃f c O cl o pm C ws,Y[i]?=some (some (.ref f))/\H f=some (.eh (fj q st cl o pm c C) (.own f))/\cl.map (·.1)=fs/\(cl.map (·.2)).Nodup/\(cl.map (·.1)).Nodup/\cl.length=ws.length/\
 t Y H λvs a=>a f=some (.eh (fj q st cl o pm c C) (.own f))/\a c=some (.eh O (.own c))/\kS O q/\lz a cl ws/\sp (ws++vs) (kA (cl.map (·.2)) a) (λv e=>Q v (m4 (cl.map (·.2)) a e)) E0
theorem Qh {y:Al}{i k:Nat}{q:Al}{st:AZ}{fs:List Al}{sp:Sp}{e:Expr}{G:List Expr}{t:TA}{p pos:Dt}(hn:PE X (.Name y p) (dt i))(C:n_ X.prog X.w X.K X.mg X.base k q st fs sp)(hr:cC k X.A)(ha:PA X (e::G) t)
  (he:Av (e::G) X.env=(false,eval e X.env)::Av G X.env:=by rfl) (Vr:(BY pos (Av G X.env)).any (·.1)=false:=by rfl):PE X (.Call (.Name y p) (e::G) [] pos) (OI i q st fs sp t):=by
 intro pins s Y H Q I ⟨f,c,oc,cl,O,pm,J,ws,hs,h1,hf,R9,Ĉ,n,h⟩;refine BE (cy (hn pins s Y H (λv H1=>v = .ref f/\H1=H) I ⟨_,hs,rfl,rfl⟩) λu s1 ⟨v,H1,I1,r1,g,l⟩=>?_);subst g l;cases r1;have T:∀{Y H s pins},bC X pins Y H s->H f=some (.eh (fj q st cl O pm c J) (.own f))->FnAt f s.heap:=λI h=>⟨_,_,_,_,(I.cN f _ h).1⟩
 refine IE (T I1 h1) (cy (ha pos pins s1 Y H1 _ I1 h) λus U ⟨vs,H2,m,r,g1,g2,⟨M,t,g3,g4⟩,gc,q⟩=>⟨T m g1,?_⟩) he Vr;rw[Fg];have ct:fN (cl.map (·.2)) H2:=λa ha=>by
  obtain⟨⟨x,a'⟩,hm,rfl⟩:=Bf.mp ha;obtain⟨j,hj⟩:=CC hm;obtain⟨Vs,_⟩:=Ab.mp hj;obtain⟨x',a2,o,u,g,l,L,_⟩:=gc j ws[j] (Ad (by rw[<- n];exact Vs));rw[hj]at g;cases g;exact⟨o,_,l,L⟩
 have nf:f∉cl.map (·.2):=λz=>by
  obtain⟨o,u,g,l⟩:=ct f z;rw[g1]at g;cases g;cases l
 have nc:c∉cl.map (·.2):=λz=>by
  obtain⟨o,u,g,l⟩:=ct c z;rw[g2]at g;cases g;rw[g3]at l;cases l
 have hT:∀b∈cl.map (·.2),∀o u,H2 b=some (.eh o u)->U.heap.get? b=some o:=λb _ o u e=>(m.cN b _ e).1
 have đ:∀b∈cl.map (·.2),b∉vm X.stack:=λb hb z=>by
  obtain⟨o,u,g,_⟩:=ct b hb;rw[m.oD b z]at g;cases g
 have hc:i4 U.heap (kA (cl.map (·.2)) H2) cl ws:=⟨n,λj x a v g l=>⟨kX (Bf.mpr ⟨_,Ai g,rfl⟩),by
  obtain⟨x',a2,o,u,L,e4,e5,e6⟩:=gc j v l;rw[g]at L;cases L;exact⟨u,e6,o,(m.cN a _ e4).1,e5⟩⟩,Ĉ,R9⟩
 refine E6 (Cc (C.run X.A X.stack U _ f c cl O pm J us ws vs _ hr (m.NI.kA ct) (m.cN f _ g1).1 ⟨c,oc,M,t,rfl,(m.cN c _ g2).1,g3,g4⟩ hf hc r q) λr s' B=>?_)
 cases r with
 |error e=>exact (show False from B).elim
 |ok fl=>
  cases fl with
  |ret u=>exact m.after (CE.U6 ct hT đ B)
  |next=>exact A8 B
  |brk=>exact A8 B
  |cont=>exact A8 B
def t_ (sp:Sp)(cl:List (Al×Ac))(ix:List Nat)(t:TA):TE:=λY H Q=>∃ws,XN Y ix ws/\t Y H λvs a=>∀T:Hp,lz T cl ws->fN (cl.map (·.2)) T->(∀c∈cl.map (·.2),a c=none)->(cl.map (·.2)).Nodup->sp vs (m4 (cl.map (·.2)) T a) (λv e=>Q v (kA (cl.map (·.2)) e)) E0
theorem Qg {x:Al}{f:Ac}{fd:Ak}{ps:List Al}{k:Nat}{sp:Sp}{e:Expr}{L:List Expr}{t:TA}{p pos:Dt}(F:fK X.prog X.w X.K X.mg X.base jh k f fd ps sp)(hr:cC k X.A)(hg:Gl X x)(hm:X.mg x=some (.ref f))(hk:DJ X.K (.ref f)=true)(B:gD X.K fd ps [])(S:oz X cl ix)
  (ha:PA X (e::L) t) (ē:(x==("__debug__":Al))=false:=by decide) (he:Av (e::L) X.env=(false,eval e X.env)::Av L X.env:=by rfl) (U:(BY pos (Av L X.env)).any (·.1)=false:=by rfl):PE X (.Call (.Name x p) (e::L) [] pos) (t_ sp cl ix t):=by
 intro pins s Y H Q I ⟨ws,hw,h⟩;refine BE (oR I hg hm ?_ ē);refine Fa (h₀:=X.base) I.ok.mod.Xe hk (cy (ha pos pins s Y H _ I h) λus g ⟨vs,H2,a,r,q⟩=>⟨a.kE,?_⟩) he U;have CA:=S.cells a hw
 let T:Hp:=λb=>(g.heap.get? b).map λo=>HO.eh o (.own b)
 have l:∀b∈cl.map (·.2),∃i x v,cl[i]?=some (x,b)/\ws[i]?=some v:=λb B=>by
  obtain⟨⟨x,a'⟩,hm,rfl⟩:=Bf.mp B;obtain⟨j,hj⟩:=CC hm;obtain⟨Vs,_⟩:=Ab.mp hj;exact⟨j,x,ws[j]'(by rw[<- CA.len];exact Vs),hj,Ad _⟩
 have ct:fN (cl.map (·.2)) T:=λb B=>by
  obtain⟨i,x,v,m,M⟩:=l b B;obtain⟨_,u,_,o,e3,e4⟩:=CA.at' i x b v m M;exact⟨o,_,by show (g.heap.get? b).map _=_;rw[e3];rfl,e4⟩
 have cf:lz T cl ws:=λi v hv=>by
  have hi:i<cl.length:=by rw[CA.len];exact (Ab.mp hv).1
  have O:=Ad hi;generalize cl[i]=p at O;obtain⟨x1,c1⟩:=p;obtain⟨_,u,ru,o,e3,e4⟩:=CA.at' i x1 c1 v O hv;exact⟨x1,c1,o,u,O,by show (g.heap.get? c1).map _=_;rw[e3];rfl,e4,ru⟩
 have n:∀c∈cl.map (·.2),H2 c=none:=λb B=>by
  obtain⟨i,x,v,m,M⟩:=l b B;exact (CA.at' i x b v m M).1
 have hT:∀c∈cl.map (·.2),∀o u,T c=some (.eh o u)->g.heap.get? c=some o:=λb _ o u e=>by
  have e:(g.heap.get? b).map (λo=>HO.eh o (.own b))=some (.eh o u):=e
  cases q:g.heap.get? b with
  |none=>rw[q]at e;cases e
  |some o'=>rw[q]at e;cases e;rfl
 have RI:∀c∈cl.map (·.2),∃x,X.env.cells.lookup x=some c/\X.fn x=true:=λb B=>by
  obtain⟨i,x,v,m,M⟩:=l b B;exact⟨x,(S.nm i x b m).1,S.fn i x b m⟩
 have G:∀c∈cl.map (·.2),c∉vm X.stack:=λb B z=>by
  obtain⟨x,h1,h2⟩:=RI b B;rcases AJ.mp (a.px b z) with e |e
  .exact a.RI x b h1 e
  .obtain ⟨_,o,ho,_⟩:=a.ok.j8.mem e;exact absurd (AV (AX ho) (a.ok.VR x b h2 h1)) (B3 _)
 have X9:∀c∈cl.map (·.2),X.base.get? c=none:=λb B=>by
  cases q:X.base.get? b with
  |none=>rfl
  |some o=>
   obtain⟨x,h1,h2⟩:=RI b B;have:=a.ok.VR x b h2 h1;exact absurd (AV (AX q) (Bv a.ok.L3 this)) (B3 _)
 have hl:(us++[]).length=ps.length:=by rw[Bj,<- r.length];exact F.len _ _ _ _ (q T cf ct n (S.YT a.ok))
 have J:=B g us a.kE hl;rw[Bj]at J;refine E6 (Cc (F.run X.A X.stack g _ ⟨us,[]⟩ us vs _ _ hr (a.NI.m4 n ct hT G X9) J r (q T cf ct n (S.YT a.ok))) λr s' C=>?_)
 cases r with
 |error e=>exact (show False from C).elim
 |ok fl=>
  cases fl with
  |ret u=>exact a.after (CE.Yk n ct hT G C)
  |next=>exact A8 C
  |brk=>exact A8 C
  |cont=>exact A8 C
end
def V9 (i:Nat)(P:Ac)(pos:Dt)(q:Al)(st:AZ)(l:List (Al×Ac)):TS:=λD Y H=>H P=some (.kG pos q)/\∀f c O o pm t a,H f=none->a6 H a->a f=some (.eh (fj q st l o pm c t) (.own f))->a c=some (.eh O (.own c))->kS O q->D.nx (Y.set i (some (.ref f))) a
section
variable {X:Cx}
theorem WG {i:Nat}{P c:Ac}{pos:Dt}{q name:Al}{p:Cp}{body:List AZ}{scope:BG}{cl:List (Al×Ac)}(a:X.env.code = .ref c)(hC:GS X.base c P)(hB:X.base.BuiltinsAt X.mg P)(Vt:X.Ok->Et scope X.env=pure cl)
  (hN:X.N.Nodup) (hi:X.N[i]?=some name) (hx:X4 X.env.scope name) (Xp:p.defaults=[]:=by rfl) (ϧ:p.kw_defaults=[]:=by rfl) (ha:annTrees p none X.env=[]:=by rfl) (hq:qualnameIn X.env name name=q:=by rfl)
  (hf:X.fn name=true∨X.env.scope.names.lookup name=some .local:=by first |exact .inl rfl |exact .inr rfl |assumption):
  PS X (.FunctionDef name p body [] none [] scope none name pos) (V9 i P pos q (.FunctionDef name p body [] none [] scope none name pos) cl):=by
 intro pins s Y H D I ⟨hP,h⟩;obtain⟨ps,ho,ht,hc⟩:=I.cN P _ hP;refine nestDef_K Xp ϧ ha ?_;rw[hq];have hg:s.heap.Ns Am X.mg:=I.mod.glob.keeps I.bk;have nb:∀{b o},X.base.get? b=some o->b≠P:=λ{b o} e z=>by rw[z]at e;rw[(I.bs P o e).2]at hP;cases hP
 have Đ:Am≠P:=by obtain⟨o,es,ep,e,_⟩:=I.mod.glob;exact nb e
 have Vu:s.heap.BuiltinsAt X.mg P:=by obtain⟨bm,o,h1,h2,h3,h4,h5,h6⟩:=hB;exact⟨bm,o,h1,h2,h3,h4,I.bk _ _ h5,h6⟩
 cases j:Jl pos ps.toList with
 |some v=>
  obtain⟨c',A,rfl,m,l⟩:=hc v j;refine makeFunction_hit (Vt I.ok) I.ok.glob hg a (hC.keeps I.bk) ho ht j Vu λC O h' tk hk J=>?_
  have hn:H h'.objs.size=none:=I.cN.fresh J;have I1:bC X pins Y (cP H h'.objs.size (.eh (fj q (.FunctionDef name p body [] none [] scope none name pos) cl O ((X.mg "__name__").getD .none) c' C) (.own h'.objs.size))) _:=
   I.laid (t':=tk) (h':=h'.push (fj q (.FunctionDef name p body [] none [] scope none name pos) cl O ((X.mg "__name__").getD .none) c' C)) (λb u e=>Ag _ (hk b u e)) J ⟨Aq _ rfl,_,Aq _ rfl⟩
  refine js I1 hN hi hx (v:=.ref h'.objs.size) rfl (λs2 I2=>⟨_,_,I2,h _ c' A O _ C _ hn (a6.new hn) a0 ?_ l⟩) hf;rw[bI λz=>by rw[z,hn]at m;cases m];exact m
 |none=>
  refine makeFunction_K (Vt I.ok) I.ok.glob hg a (hC.keeps I.bk) ho ht j Đ Vu λc' C O h' tk T8 g L M ą=>?_
  obtain⟨c2,A,vs,t,e0,l,hd,hv⟩:=M;cases e0;have ĉ:H c'=none:=I.cN.fresh g;have Q:H h'.objs.size=none:=I.cN.fresh (Bv g (Ew L));have U:h'.objs.size≠c':=Gd L;generalize T:fj q (.FunctionDef name p body [] none [] scope none name pos) cl O ((X.mg "__name__").getD .none) c' C=k
  let H':Hp:=cP (cP H c' (.eh A (.own c'))) h'.objs.size (.eh k (.own h'.objs.size))
  have r:∀b u,H b=some u->H' b=some u:=λb u e=>by
   show cP _ _ _ b=_
   rw[bI (λz=>by rw[z,Q]at e;cases e),bI (λz=>by rw[z,ĉ]at e;cases e)];exact e
  have keep:∀b o,b≠P->s.heap.get? b=some o->(h'.push k).get? b=some o:=λb o B e=>Ag _ (T8 b o B e)
  have nP:∀{b},H b=none->b≠P:=λe z=>by rw[z,hP]at e;cases e
  have Zg:(h'.push k).get? P=some (HB (ps++#[B7 pos.line,B7 pos.col,.ref c'])):=Ag _ ą;have un:Un (vm X.stack) [] H H' s.heap (h'.push k):=⟨λb o e n _ _=>keep b o (nP n) e,λb o e n _ _=>⟨o.slots,keep b o (nP n) e⟩,λb o e n _=>?_,λb o e _=>?_,λb xs e=>r _ _ e,λb o u e=>r _ _ e,λb ps e=>⟨#[],by rw[Hh];exact r _ _ e⟩⟩
  rotate_left
  .have B:=AX e;show cP _ _ _ b=_
   rw[bI (Bm (AV B (Bv g (Ew L)))),bI (Bm (AV B g))];exact n
  .by_cases B:b=P
   .subst B;exact⟨_,Zg⟩
   .exact ⟨_,keep b o B e⟩
  have cN:kL X.prog X.w H' (h'.push k):=λb u e=>by
   by_cases h1:b=h'.objs.size
   .subst h1;have e:cP _ _ _ _=some u:=e;rw[a0]at e;cases e;have:(h'.push k).get? h'.objs.size=some k:=Aq _ (by rw[<- T];rfl);exact⟨this,_,this⟩
   by_cases h2:b=c'
   .subst h2;have e:cP _ _ _ _=some u:=e;rw[bI h1,a0]at e;cases e;have:=Ag k l;exact⟨this,_,this⟩
   have e:cP _ _ _ _=some u:=e;rw[bI h1,bI h2]at e;by_cases h3:b=P
   .subst h3;rw[hP]at e;cases e;refine⟨_,Zg,?_,λv G=>?_⟩
    .have:=JS pos.line pos.col (.ref c') ps.toList ht;simpa using this
    .have:=JP (pos:=pos) (c:=.ref c') ps.toList ht j;rw[show (ps++#[B7 pos.line,B7 pos.col,.ref c']).toList=ps.toList++[B7 pos.line,B7 pos.col,.ref c'] by simp,this]at G;cases G;refine⟨c',A,rfl,?_,vs,t,hd,hv⟩;show cP _ _ _ _=_
     rw[bI (Be U),a0]
   .refine (I.cN b u e).rx (λd v f qv=>keep d v ?_ qv) (λd qd=>r _ _ qd) λd v qd _=>r _ _ qd
    rcases f with rfl |f
    .exact h3
    .rintro rfl;rw[hP]at f;cases f
  have I1:bC X pins Y H' {s with heap:=h'.push k,toks:=tk}:=I.RJ (ch:=[]) rfl un cN I.bare (λb z=>absurd z (by simp));subst T;refine js I1 hN hi hx (v:=.ref h'.objs.size) rfl (λs2 I2=>⟨_,_,I2,h _ c' A O ((X.mg "__name__").getD .none) C H' Q r ?_ ?_ ⟨vs,t,hd,hv⟩⟩) hf
  .show cP _ _ _ _=_
   rw[a0]
  .show cP _ _ _ _=_
   rw[bI (Be U),a0]
end
noncomputable def D.MU:D->Bool
 | .int _=>true
 | .bl _=>true
 | .cB=>true
 | .str _=>true
 |_=>false
theorem dY.MU {K:Ap}{F a:Hp}:∀{d:D} {v:V},dY K F d v->d.MU=true->dY K a d v
 | .int _,_,h,_=>h
 | .bl _,_,h,_=>h
 | .cB,_,h,_=>h
 | .str _,_,h,_=>h
 | .ty _,_,_,z=>by cases z
 | .fn _,_,_,z=>by cases z
 | .tup _,_,_,z=>by cases z
 | .lst _,_,_,z=>by cases z
 | .Of,_,_,z=>by cases z
 | .exc _,_,_,z=>by cases z
 | .obj _ _ _,_,_,z=>by cases z
 | .oW _ _ _ _,_,_,z=>by cases z
noncomputable def OV.MU:OV->Bool
 | .fz d=>d.MU
 |_=>false
theorem eO.MU {K:Ap}{H F e c f a:Hp}:∀{r:OV} {v:V},eO K H F e r v->r.MU=true->eO K c f a r v
 | .fz d,v,⟨A,h,_,_⟩,z=>.fz (h.2.MU z)
 | .nl _,_,_,z=>by cases z
 | .rt _ _,_,_,z=>by cases z
 | .fx _ _,_,_,z=>by cases z
 | .ob _ _ _ _,_,_,z=>by cases z
def U4 (i:Nat)(q:Al)(st:AZ)(c:List (Al×Ac)):DS:=λe δ=>e.nx (δ.set i (some (.own (.fz (.oW q st c [])))))
def tL:List Nat->DA
 | []=>Rx
 |j::r=>tK (dV j) (tL r)
def zl (i n:Nat)(q:Al)(st:AZ)(l:List (Al×Ac))(ix:List Nat)(sp:dF)(A:DA):DO:=λδ P=>match δ[i]? with
 |some (some (.own (.fz (.oW q' t c _))))=>q'=q/\t=st/\c=l/\tL ix δ λC=>A δ λds=>(C++ds).length=n/\sp (C++ds) P
 |_=>False
def RD (n:Nat)(q:Al)(st:AZ)(c:List (Al×Ac))(fs:List Al)(ix:List Nat)(sp:dF)(A:DA):DO:=λδ P=>tL ix δ λC=>A δ λds=>match ds with
 | [a,b,.oW q' t l _]=>q'=q/\t=st/\l=c/\n=3/\((c.map (·.2)).Nodup->c.map (·.1)=fs->sp [a,b,.oW q st c C] λr=>r.MU=true/\P r)
 |_=>False
def zj (i n:Nat)(q:Al)(st:AZ)(fs:List Al)(sp:dF)(A:DA):DO:=λδ P=>match δ[i]? with
 |some (some (.own (.fz (.oW q' t l c))))=>q'=q/\t=st/\l.map (·.1)=fs/\fs.Nodup/\(l.map (·.2)).Nodup/\l.length=c.length/\A δ λds=>D.jj c=true/\D.jj ds=true/\(c++ds).length=n/\sp (c++ds) λr=>r.MU=true/\P r
 |_=>False
section
variable {K:Ap}{F0 H0 F H:Hp}{Y:St}{δ:cY}
theorem Wl {i:Nat}{T:Ac}{pos:Dt}{q:Al}{st:AZ}{C:List (Al×Ac)}(hP:F0 T=some (.kG pos q)):ls K F0 H0 (V9 i T pos q st C) (U4 i q st C):=λF H Y δ De U e l w=>by
 have h:=cx.ext e;refine⟨h.fh _ _ (h.ff _ _ hP),λf c u O pm t g hn k h1 h2 L=>?_⟩;have n:F f=none:=h.fh.free hn
 let j:Hp:=λb=>if b=f then g f else if b=c then g c else F b
 have p:j f=g f:=if_pos rfl;have G:j c=g c:=by
  show (if c=f then g f else if c=c then g c else F c)=_
  split
  .rename_i z;rw[z]
  .rw [if_pos rfl]
 have go:∀b,b≠f->b≠c->j b=F b:=λb B A=>by
  show (if b=f then g f else if b=c then g c else F b)=_
  rw[if_neg B,if_neg A]
 have x:cE F H j g:=by
  refine⟨λb o e'=>?_,k,λb o e'=>?_,λb o Q m M=>?_⟩
  .by_cases z:b=f
   .rw [z,n]at e';cases e'
   by_cases a:b=c
   .rw [a,G];rw[a]at e';exact k _ _ (h.fh _ _ e')
   .rw [go b z a];exact e'
  .by_cases z:b=f
   .rw [z,p]at e';rw[z];exact e'
   by_cases a:b=c
   .rw [a,G]at e';rw[a];exact e'
   .rw [go b z a]at e';exact k _ _ (h.fh _ _ e')
  .by_cases z:b=f
   .rw [z,hn]at m;cases m
   by_cases a:b=c
   .rw [a]at m;rw[k _ _ m]at h2;cases h2;cases M
   .rw [go b z a];exact Q
 exact l.nx j g _ _ (e.put x i (r:=.fz (.oW q st C [])) (v:=.ref f) (.fz ⟨f,c,u,O,pm,t,[],rfl,p.trans h1,G.trans h2,L,rfl,λi v J=>by simp at J⟩)) w
theorem mf (e:cx K F0 H0 F H Y δ):∀{ix:List Nat} {P:List D->Prop},tL ix δ P->∃c w,P c/\XN Y ix w/\bA K F c w
 | [],P,h=>⟨[],[],h,⟨rfl,λi j v h=>by simp at h⟩,rfl⟩
 |j :: r,P,h=>by
  have h:dV j δ λd=>tL r δ λds=>P (d::ds):=h
  have key:∀{d:D} {v:V} {c:List D} {w:List V},Y[j]?=some (some v)->dY K F d v->P (d::c)->XN Y r w->bA K F c w->∃c w,P c/\XN Y (j::r) w/\bA K F c w:=λ{d v c w} f g p a rs=>by
   refine⟨d::c,v::w,p,⟨by simp[a.1],λi k u h1 h2=>?_⟩,v,w,rfl,g,rs⟩
   cases i with
   |zero=>simp at h1 h2;subst h1 h2;exact f
   |succ i=>exact a.2 i k u (by simpa using h1) (by simpa using h2)
  unfold dV at h;split at h
  .rename_i d hd;obtain⟨A,e'⟩:=e;obtain⟨v,f,_,g⟩:=e'.own j _ hd;obtain⟨c,w,p,a,rs⟩:=mf ⟨A,e'⟩ h;exact key f g p a rs
  .rename_i u d hd;obtain⟨A,e'⟩:=e;obtain⟨v,f,_,_,g⟩:=e'.own j _ hd;obtain⟨c,w,p,a,rs⟩:=mf ⟨A,e'⟩ h;exact key f g p a rs
  .exact h.elim
theorem Po {i n:Nat}{q:Al}{st:AZ}{l:List (Al×Ac)}{ix:List Nat}{sp:dF}{a:TA}{u:DA}(M:ei K a u):ez K (OJ i q st l ix (b7 K n sp) a) (zl i n q st l ix sp u):=λF0 H0 F H Y δ P Q e w q'=>by
 unfold zl at w;split at w
 .rename_i q1 T cl1 cs1 L;obtain⟨rfl,rfl,rfl,w⟩:=w;obtain⟨C,h,w,hw,rs⟩:=mf e w;have fh:=(cx.ext e).fh;have e0:=e;obtain⟨A,e'⟩:=e;obtain⟨v,J,_,f,c,O,o,pm,t,vs,rfl,h1,h2,U,h4,h5⟩:=e'.own i _ L;refine⟨f,c,O,o,pm,t,h,J,fh _ _ h1,hw,M F0 H0 F H Y δ _ _ e0 w λds us m H1 j g B=>⟨g.fh _ _ (g.ff _ _ h1),g.fh _ _ (g.ff _ _ h2),U,?_⟩⟩;have k:bA K m (C++ds) (h++us):=(rs.mono g.ff).append B;exact⟨by rw[<- k.length];exact j.1,m,C++ds,P,g.fh,k,j.2,λr v F' H' p z G=>q' r v F' H' p (g.trans z) (G.old g.hh)⟩
 .exact w.elim
theorem Pl {n:Nat}{q:Al}{st:AZ}{L:List (Al×Ac)}{fs:List Al}{ix:List Nat}{sp:dF}{a:TA}{As:DA}(hf:L.map (·.1)=fs)(ha:ei K a As):ez K (t_ (b7 K n sp) L ix a) (RD n q st L fs ix sp As):=λF0 H0 F H Y δ P Q e w q'=>by
 obtain⟨cs,t,w,hw,rs⟩:=mf e w;refine⟨t,hw,ha F0 H0 F H Y δ _ _ e w λds us k H1 g h r1 T cf ct hn C=>?_⟩
 try dsimp only at g
 split at g
 .rename_i d1 d2 q1 A l cs1;obtain⟨rfl,rfl,rfl,G,g⟩:=g;have g:=g C hf;obtain⟨v1,r,rfl,ra,v2,r2,rfl,rb,v3,r3,rfl,rc,e3⟩:=r1
  cases (show r3=[] from e3)
  obtain⟨f,c,oc,O,pm,J,vs,rfl,h1,h2,h3,h4,h5⟩:=rc;have j:a6 k (m4 (l.map (·.2)) T k):=λb o z=>by
   rw[cv (λy=>by have:=h.fh _ _ z;rw[hn b y]at this;cases this)];exact z
  have s2:a6 (m4 (l.map (·.2)) T k) (m4 (l.map (·.2)) T H1):=λb o z=>by
   by_cases y:b∈l.map (·.2)
   .rw [hV y]at z ⊢;exact z
   .rw [cv y]at z ⊢;exact h.fh _ _ z
  have M:lz (m4 (l.map (·.2)) T k) l t:=λi v hv=>by
   obtain⟨x,a,o,u,e1,e2,e4⟩:=cf i v hv;exact⟨x,a,o,u,e1,by rw[hV (Bf.mpr ⟨_,Ai e1,rfl⟩)];exact e2,e4⟩
  refine⟨by rw[G];rfl,_,[d1,d2,.oW q1 A l cs],_,s2,⟨v1,_,rfl,ra.mono j,v2,_,rfl,rb.mono j,.ref f,_,rfl,⟨f,c,oc,O,pm,J,t,rfl,j _ _ h1,j _ _ h2,h3,(rs.mono h.ff).mono j,M⟩,rfl⟩,g,λr v F' H' p U r'=>?_⟩;refine q' r v k (kA (l.map (·.2)) H') p.2 (h.trans ⟨a6.refl _,λb o z=>?_,λb o z=>?_,λ_ _ z _ _=>z⟩) (r'.MU p.1)
  .have B:b∉l.map (·.2):=λy=>by rw[hn b y]at z;cases z
   rw[cJ B];exact U.hh _ _ (by rw[cv B];exact z)
  .have m:=h.fh _ _ z;have B:b∉l.map (·.2):=λy=>by rw[hn b y]at m;cases m
   rw[cJ B];exact U.hh _ _ (by rw[cv B];exact m)
 .exact g.elim
theorem Ot {C:List Ac}(ct:fN C F){a:Ac}{xs:List V}(h:ky K F a xs):ky K (kA C F) a xs:=by
 rcases h with (h | ⟨o,h⟩) |h
 .exact .inl (.inl (by rw[cJ (λy=>by obtain⟨_,_,e,_⟩:=ct a y;rw[h]at e;cases e)];exact h))
 .exact .inl (.inr ⟨o,by rw[cJ (λy=>by obtain⟨_,_,e,_⟩:=ct a y;rw[h]at e;cases e)];exact h⟩)
 .exact .inr h
mutual
theorem dY.Oq {C:List Ac}(ct:fN C F):∀{d:D} {v:V},dY K F d v->d.lf=true->dY K (kA C F) d v
 | .int _,_,h,_=>h
 | .bl _,_,h,_=>h
 | .cB,_,h,_=>h
 | .str _,_,h,_=>h
 | .ty _,_,h,_=>h
 | .fn _,_,h,_=>h
 | .tup ds,v,h,z=>by
  obtain⟨a,vs,e,h1,h2⟩:=h;exact⟨a,vs,e,Ot ct h1,bA.Oq ct h2 (by simpa[D.lf] using z)⟩
 | .lst ds,v,h,z=>by simp[D.lf]at z
 | .Of,v,h,z=>by simp[D.lf]at z
 | .exc _,v,h,z=>by simp[D.lf]at z
 | .obj _ _ _,v,h,z=>by simp[D.lf]at z
 | .oW _ _ _ _,v,h,z=>by simp[D.lf]at z
theorem bA.Oq {C:List Ac}(ct:fN C F):∀{ds:List D} {vs:List V},bA K F ds vs->D.jj ds=true->bA K (kA C F) ds vs
 | [],_,h,_=>h
 |d::ds,vs,h,z=>by
  obtain⟨v,r,e,h1,h2⟩:=h;simp[D.jj]at z
  exact⟨v,r,e,dY.Oq ct h1 z.1,bA.Oq ct h2 z.2⟩
end
theorem Pm {i n:Nat}{q:Al}{st:AZ}{fs:List Al}{sp:dF}{a:TA}{As:DA}(ha:ei K a As):ez K (OI i q st fs (b7 K n sp) a) (zj i n q st fs sp As):=λF0 H0 F H Y δ P Q e w q'=>by
 unfold zj at w;split at w
 .rename_i q1 zY l cs hs;obtain⟨rfl,rfl,hf,O,G,L,w⟩:=w;have e0:=e;have fh:=(cx.ext e).fh;obtain⟨A,e'⟩:=e;obtain⟨v,hv,_,f,c,oc,T,pm,U,k,rfl,h1,h2,h3,h4,h5⟩:=e'.own i _ hs;have h:l.length=k.length:=by rw[L,h4.length]
  refine⟨f,c,oc,l,T,pm,U,k,hv,fh _ _ h1,hf,G,by rw[hf];exact O,h,ha F0 H0 F H Y δ _ _ e0 w λds us m H1 B g r1=>?_⟩;have C:a6 F H1:=g.ff.trans g.fh;have ct:fN (l.map (·.2)) m:=λb hb=>by
   obtain⟨⟨x,b'⟩,hm,rfl⟩:=Bf.mp hb;obtain⟨j,J⟩:=CC hm;obtain⟨M,_⟩:=Ab.mp J;obtain⟨t,a2,o,u,e1,e2,e3,_⟩:=h5 j (k[j]'(by rw[<- h];exact M)) (Ad _);rw[J]at e1;cases e1;exact⟨o,_,g.ff _ _ e2,e3⟩
  refine⟨C _ _ h1,C _ _ h2,h3,λj v J=>let⟨x,b,o,u,g1,g2,g3⟩:=h5 j v J;⟨x,b,o,u,g1,C _ _ g2,g3⟩,?_⟩;obtain⟨l1,l2,ln,B⟩:=B;have rr:bA K m (cs++ds) (k++us):=(h4.mono g.ff).append r1;have lf:D.jj (cs++ds)=true:=by rw[D.j4]at l1 l2 ⊢;rw[List.all_append,l1,l2];rfl
  have s2:a6 (kA (l.map (·.2)) m) (kA (l.map (·.2)) H1):=λb o z=>by
   by_cases y:b∈l.map (·.2)
   .rw [kX y]at z;cases z
   .rw [cJ y]at z ⊢;exact g.fh _ _ z
  refine⟨by rw[<- rr.length];exact ln,_,cs++ds,_,s2,bA.Oq ct rr lf,B,λr v F' H' p t r'=>?_⟩;refine q' r v m (m4 (l.map (·.2)) H1 H') p.2 (g.trans ⟨a6.refl _,λb o z=>?_,λb o z=>?_,λ_ _ z _ _=>z⟩) (r'.MU p.1)
  .by_cases y:b∈l.map (·.2)
   .rw [hV y];exact z
   .rw [cv y];exact t.hh _ _ (by rw[cJ y];exact z)
  .have z:=g.fh _ _ z;by_cases y:b∈l.map (·.2)
   .rw [hV y];exact z
   .rw [cv y];exact t.hh _ _ (by rw[cJ y];exact z)
 .exact w.elim
end
def É (K:Ap)(n:Nat)(T:Ac)(pos:Dt)(q:Al)(sp:dF):Sp:=Sw n λvs H Q=>∃F ds P,F T=some (.kG pos q)/\a6 F H/\bA K F ds vs/\sp ds P/\∀r v c a,P r->cE F H c a->eO K H c a r v->Q v a
def ZR (K:Ap)(f e:Hp)(t:TE)(E:DE):Prop:=∀F H Y δ P Q,cx K f e F H Y δ->E δ P->(∀d v c a,P d->cE F H c a->dY K c d v->Q v a)->t Y H Q
section
variable {K:Ap}{F0 H0:Hp}{te ta tb:TE}{t u:TS}{T U:DS}{a:TA}{As:DA}{E Ea Eb:DE}{n:Nat}{sp:dF}
theorem Yi {E:DO}(h:rn K F0 H0 te E):ZR K F0 H0 te (zi E):=λF H Y δ P Q e w q=>h F H Y δ _ Q e w λd v k j p x r=>by
 obtain⟨c,f,_,g⟩:=r.eh x;exact q _ v c j p f g
end
section
variable {P:AA}{w:AT}{K:Ap}{mg:Al->Option Aa}{base:Heap}{x q:Al}{st:AZ}{f c T:Ac}{fd:Ak}{pos:Dt}{N ps fs:List Al}{k n:Nat}{sp:dF}
theorem ī.of (S:iq N fs ps (aB st))
  (L:∀(l:List (Al×Ac)) (O pm:Aa) (c:Ac) (C:Aa) (us:List Aa),us.length=ps.length->BP (fnX (oV st) q (bS st) (a9 st) (aB st) l .none .none O pm none (.ref c) C) ⟨us,[]⟩=pure (ps.zip us)) (hn:n=fs.length+ps.length)
  (o:∀(A:AU) (outer:List DU) (s:Af) (H:Hp) (f:Ac) (cd:Aa) (l:List (Al×Ac)),l.map (·.1)=fs->cC k (A.deeper (JR q (aB st) s.heap.objs.size f cd l))->
   ∃t T,PSs (X' P w K mg base N q (aB st) f cd l A outer s H) (a9 st) t/\bY K t T/\∀ds a,sp ds a->T {nx:=λ_=>a (.fz .cB),rt:=a} (du N ds)):n_ P w K mg base (k+1) q st fs (b7 K n sp):=
 XC S L (λvs H Q h=>by rw[<- hn];exact h.1) λA outer s H f cd l hf J=>by
  obtain⟨t,T,h1,h2,M⟩:=o A outer s H f cd l hf J;refine⟨t,h1,λvs Q h=>?_⟩;obtain⟨_,F,ds,a,G,j,g,B⟩:=h;refine h2 F H F H (start N vs) (du N ds) {nx:=λ_=>a (.fz .cB),rt:=a} _ ⟨_,e_ G j⟩ ⟨λu m Y δ e p=>?_,λ_ _ _ _ _ z=>z.elim,λ_ _ _ _ _ z=>z.elim,λu m r v x n p=>B r v u m p x n⟩ (M ds a g);exact B _ _ u m p e.ext (.fz rfl)
theorem Ĭ.of {sc:BG}(g:bL K mg x st f fd)(hc:fd.code = .ref c)(S:aQ N ps (aB st))
  (hb:∀(kV O pm:Aa) (J:Option Ac) (C ct:Aa) (us:List Aa),us.length=ps.length->BP (DC x x (bS st) (a9 st) (aB st) .none kV O pm J C ct) ⟨us,[]⟩=pure (ps.zip us)) (hn:n=ps.length)
  (o:∀(A:AU) (outer:List DU) (s:Af) (H:Hp) (E:XK),cC k (A.deeper (B_ x (aB st) s.heap.objs.size f (.ref c)))->∀F:Hp,F T=some (.kG pos q)->∀cl,cl=dk sc (eH jh P w K mg base N x (aB st) f (.ref c) A outer s H E).kR.env->
   ∃t U,PSs (eH jh P w K mg base N x (aB st) f (.ref c) A outer s H E).kR (a9 st) t/\ls K F H t U/\∀ds a,sp ds a->U {nx:=λ_=>a (.fz .cB),rt:=a} (du N ds)):cg P w K mg base x (k+1) ps (É K n T pos q sp):=by
 obtain⟨oc,od,kV,O,pm,J,C,ct,L,rfl,lk,m⟩:=g.fn.ex
 cases (show C = .ref c from hc)
 refine⟨f,_,?_,g.here,g.fn.kp,g.fn.binds hb⟩;refine LQ lk m S (λvs H Q E h=>by rw[<- hn];exact h.1) λA outer s H vs Q E hr h=>?_
 obtain⟨_,F,ds,a,hT,M,l,j,G⟩:=h;obtain⟨t,U,h1,h2,h3⟩:=o A outer s H E hr F hT _ rfl;refine⟨t,h1.kR,h2 F H (start N vs) (du N ds) {nx:=λ_=>a (.fz .cB),rt:=a} _ ⟨_,e_ M l⟩ ⟨λB u Y δ e p=>?_,λ_ _ _ _ _ z=>z.elim,λ_ _ _ _ _ z=>z.elim,λB u r v x n p=>G r v B u p x n⟩ (h3 ds a j)⟩;exact G _ _ B u p e.ext (.fz rfl)
end
theorem Us {X:Cx}{scope:BG}(ok:X.Ok)(h:∀x∈scope.names,x.2 = .free->X.env.kindOf x.1=some .cell):Et scope X.env=pure (dk scope X.env):=jc λx a e=>ok.has x.1 (.inl (h x a e))
theorem xo {X:Cx}{scope:BG}{c:List (Al×Ac)}(e:c=dk scope X.env)(ok:X.Ok)(h:∀x∈scope.names,x.2 = .free->X.env.kindOf x.1=some .cell):Et scope X.env=pure c:=by rw[e];exact Us ok h
theorem G2 {g:NU}{P:AA}{w:AT}{K:Ap}{m:Al->Option Aa}{base:Heap}{N fs:List Al}{q:Al}{scope sc:BG}{f:Ac}{cd:Aa}{A:AU}{outer:List DU}{s:Af}{H:Hp}{E:XK}{ix:List Nat}
  (h1:((sc.names.filter λx=>x.2 == .free).map (·.1)).reverse=fs) (k:fs.Nodup) (hl:fs.length=ix.length) (h2:(fs.zip ix).all (λp=>scope.names.lookup p.1==some .cell && N[p.2]?==some p.1)=true):
  oz (eH g P w K m base N q scope f cd A outer s H E).kR (dk sc (eH g P w K m base N q scope f cd A outer s H E).kR.env) ix:=by
 have M:(dk sc (eH g P w K m base N q scope f cd A outer s H E).kR.env).map (·.1)=fs:=by
  rw[<- h1];unfold dk;rw[Ct,A9];rfl
 have key:∀(i:Nat) x c,(dk sc (eH g P w K m base N q scope f cd A outer s H E).kR.env)[i]?=some (x,c)->∃j:Nat,ix[i]?=some j/\N[j]?=some x/\scope.names.lookup x=some .cell/\(Gj (s.heap.objs.size+1) scope.names []).lookup x=some c:=λi x c e=>by
  have t:fs[i]?=some x:=by rw[<- M,AH,e];rfl
  have hi:=(Ab.mp t).1;have r:ix[i]?=some ix[i]:=Ad (by rw[<- hl];exact hi);have z:=Gx.mp h2 (x,ix[i]) (Ai (i:=i) (by rw[Ce];exact⟨t,r⟩));rw[Ds,beq_iff_eq,beq_iff_eq]at z;refine⟨ix[i],r,z.2,z.1,?_⟩;obtain⟨c',C⟩:=q9 (n:=s.heap.objs.size+1) z.1;have h:=Ai e;unfold dk at h;rw[Dq]at h;obtain⟨p,J,a⟩:=Bf.mp h;have G:p.1=x:=congrArg Prod.fst a;have o:((Gj (s.heap.objs.size+1) scope.names []).lookup p.1).getD 0=c:=congrArg Prod.snd a;rw[G,C]at o;rw[C];exact congrArg some o
 refine⟨by rw[<- hl,<- M,Au],λi x c e=>?_,by rw[M];exact k,λ_ _ _ _=>rfl⟩;obtain⟨j,B,v,l,u⟩:=key i x c e;exact⟨u,l,.inr (.inl l),j,B,v⟩
theorem Ll {X:Cx}{x:Al}{k:Nat}{ps:List Al}{sp:Sp}{c:List (Al×Ac)}{ix:List Nat}{e:Expr}{a:List Expr}{t:TA}{p pos:Dt}(C:cg X.prog X.w X.K X.mg X.base x k ps sp)(r:cC k X.A)(hg:Gl X x)(S:oz X c ix)(n:PA X (e::a) t)
  (B:(x==("__debug__":Al))=false:=by decide) (j:Av (e::a) X.env=(false,eval e X.env)::Av a X.env:=by rfl) (h:(BY pos (Av a X.env)).any (·.1)=false:=by rfl):
  PE X (.Call (.Name x p) (e::a) [] pos) (t_ sp c ix t):=by
 obtain⟨f,fd,F,m,g,l⟩:=C.ex;exact Qg F r hg m g l S n B j h
noncomputable def ZM (o:B5)(T:Ac):Bool:=o.cls == .type "code" && match o.data with
 | .fields vs=>vs[11]?==some (.ref T) && vs.getD 11 .none == .ref T && (match vs.getD 18 .none,vs.getD 7 .none,vs.getD 9 .none,vs.getD 10 .none with
  | .str _ _,.int _ _,.bool _,.int _ _=>true
  |_,_,_,_=>false)
 |_=>false
theorem kq {K:Ap}{base:Heap}{c T:Ac}{o:B5}(X:K.In base)(l:K.lookup c=some o)(h:ZM o T=true)(n:c≠T):GS base c T:=by
 unfold ZM at h;rw[Ds,beq_iff_eq]at h;obtain⟨h1,h⟩:=h;split at h
 .rename_i vs hd;simp only[Ds,beq_iff_eq]at h;obtain⟨⟨h2,q⟩,h⟩:=h;split at h
  .rename_i _ _ _ _ a b c d e f g p m k j;exact⟨o,vs,a,b,c,d,e,f,g,X _ _ l,h1,hd,h2,q,p,m,k,j,n⟩
  .cases h
 .cases h
noncomputable abbrev iV (q:Al)(a:Cp)(B:Expr)(sc:BG)(l:List (Al×Ac))(pm:Aa)(c:Ac)(t:Aa):B5:=kla_obj "<lambda>" q a B sc l pm c t
noncomputable def Q0 (a:Cp)(sc:BG):AZ:=.FunctionDef "" a [] [] none [] sc none "" ⟨0,0,0,0⟩
structure R0 (P:AA) (w:AT) (K:Ap) (mg:Al->Option Aa) (base:Heap) (k:Nat) (q:Al) (ar:Cp) (bd:Expr) (sc:BG) (fs:List Al) (sp:Sp):Prop where
 run:∀(A:AU) (outer:List DU) (s:Af) (H:Hp) (f c:Ac) (cl:List (Al×Ac)) (pm ZK:Aa) (us:List Aa) (ws vs:List V) (Q:VK),cC k A->kd P w K mg base A outer s H->s.heap.get? f=some (iV q ar bd sc cl pm c ZK)->s.heap.CodeRec (.ref c) q->
  cl.map (·.1)=fs->i4 s.heap H cl ws->bH vs us->sp (ws++vs) H Q E0->Cd (model P w) A (.call (.ref f) ⟨us,[]⟩) (CR jh outer P w H s Q E0) s
section
variable {P:AA}{w:AT}{K:Ap}{mg:Al->Option Aa}{base:Heap}{N fs ps:List Al}{q:Al}{ar:Cp}{bd:Expr}{sc:BG}{k:Nat}{sp:Sp}
theorem Xa (S:iq N fs ps (aB (Q0 ar sc)))
  (hb:∀(l:List (Al×Ac)) (pm:Aa) (c:Ac) (C:Aa) (us:List Aa),us.length=ps.length->BP (kla_fn "<lambda>" q ar bd sc l pm (.ref c) C) ⟨us,[]⟩=pure (ps.zip us))
  (n:∀vs H Q,sp vs H Q E0->vs.length=fs.length+ps.length)
  (h:∀(A:AU) (outer:List DU) (s:Af) (H:Hp) (f:Ac) (cd:Aa) (l:List (Al×Ac)),l.map (·.1)=fs->cC k (A.deeper (JR q sc s.heap.objs.size f cd l))->
   ∃t,PE (X' P w K mg base N q sc f cd l A outer s H) bd t/\∀vs Q,sp vs H Q E0->t (start N vs) H Q):R0 P w K mg base (k+1) q ar bd sc fs sp:=by
 refine⟨λA outer s H f c l pm C us T vs Q j O ho M hf hc r p=>?_⟩;have m:s.heap.NoLimit:=O.mod.nolimit.keeps λb o e=>(O.bs b o e).1
 have hl:=n _ _ _ p;have Ē:fs.length=T.length:=by rw[<- hf,Au,hc.len]
 rw[AF]at hl;have L:vs.length=ps.length:=by omega
 refine kla_callFunE (fd:=kla_fn "<lambda>" q ar bd sc l pm (.ref c) C) j.depth ho rfl S.co S.gen rfl M ?_;rw[hb l pm c C us (by rw[<- r.length];exact L)];refine AN (HR (λx g=>(S.only x g).1) (λx g=>S.par _ (Ff g).1) (λa G B=>⟨m.fresh _ B,?_⟩) S.kind);have hk:∀b o,s.heap.get? b=some o->a.get? b=some o:=λb o e=>B.extBut b o (Bm (AX e)) (Ag _ e)
 show Cd _ _ (.expr bd (JR q sc s.heap.objs.size f (.ref c) l)) _ _
 obtain⟨t,ht,hq⟩:=h A outer s H f (.ref c) l hf (j.deeper _);have I:=qN (tk:=s.toks+(ps.zip us).length) (q:=q) (f:=f) (cd:=.ref c) (st:=Q0 ar sc) S j.hd O L hf hc r G hk;refine kla_codeExpr (B6 (ht [] _ _ H _ I (hq _ Q p)) (λu U hs=>?_) λe U z=>(show False from z).elim);obtain⟨v,H',J,rv,q⟩:=hs;exact⟨v,H',J.os,J.bare,J.base,J.cN,rv,q⟩
end
section
variable {X:Cx}
def V8 (P:Ac)(pos:Dt)(q:Al)(r:Cp)(B:Expr)(sc:BG)(l:List (Al×Ac)):TE:=λ_ H Q=>H P=some (.kG pos q)/\∀f c o pm t a,H f=none->a6 H a->a f=some (.eh (iV q r B sc l pm c t) (.own f))->a c=some (.eh o (.own c))->kS o q->Q (.ref f) a
theorem WN {P c:Ac}{pos:Dt}{q:Al}{p:Cp}{body:Expr}{scope:BG}{cl:List (Al×Ac)}(O:X.env.code = .ref c)(hC:GS X.base c P)(hB:X.base.BuiltinsAt X.mg P)(Vt:X.Ok->Et scope X.env=pure cl)
  (hq:X.env.qual ++ "<lambda>"=q:=by rfl) (Xp:defaultsOf p X.env=([],[]):=by rfl):
  PE X (.Lambda p body scope pos) (V8 P pos q p body scope cl):=by
 intro pins s Y H Q I ⟨hP,h⟩;obtain⟨ps,ho,ht,hc⟩:=I.cN P _ hP;refine kla_eval Xp ?_;rw[hq];have hg:s.heap.Ns Am X.mg:=I.mod.glob.keeps I.bk;have nb:∀{b o},X.base.get? b=some o->b≠P:=λ{b o} e z=>by rw[z]at e;rw[(I.bs P o e).2]at hP;cases hP
 have Đ:Am≠P:=by obtain⟨o,es,ep,e,_⟩:=I.mod.glob;exact nb e
 have Vu:s.heap.BuiltinsAt X.mg P:=by obtain⟨bm,o,h1,h2,h3,h4,h5,h6⟩:=hB;exact⟨bm,o,h1,h2,h3,h4,I.bk _ _ h5,h6⟩
 cases f:Jl pos ps.toList with
 |some v=>
  obtain⟨c',A,rfl,m,k⟩:=hc v f;refine kla_makeFunctionHit (Vt I.ok) I.ok.glob hg O (hC.keeps I.bk) ho ht f Vu λC h' tk hk J=>?_
  have hn:H h'.objs.size=none:=I.cN.fresh J;have I1:bC X pins Y (cP H h'.objs.size (.eh (iV q p body scope cl ((X.mg "__name__").getD .none) c' C) (.own h'.objs.size))) _:=
   I.laid (t':=tk) (h':=h'.push (iV q p body scope cl ((X.mg "__name__").getD .none) c' C)) (λb u e=>Ag _ (hk b u e)) J ⟨Aq _ rfl,_,Aq _ rfl⟩
  refine⟨.ref h'.objs.size,_,I1,rfl,h _ c' A _ C _ hn (a6.new hn) a0 ?_ k⟩;rw[bI λz=>by rw[z,hn]at m;cases m];exact m
 |none=>
  refine kla_makeFunction (Vt I.ok) I.ok.glob hg O (hC.keeps I.bk) ho ht f Đ Vu λc' C h' tk T8 g l L ą=>?_
  obtain⟨c2,A,vs,t,e0,k,hd,hv⟩:=L;cases e0;have ĉ:H c'=none:=I.cN.fresh g;have M:H h'.objs.size=none:=I.cN.fresh (Bv g (Ew l));have U:h'.objs.size≠c':=Gd l;generalize T:iV q p body scope cl ((X.mg "__name__").getD .none) c' C=j
  let H':Hp:=cP (cP H c' (.eh A (.own c'))) h'.objs.size (.eh j (.own h'.objs.size))
  have r:∀b u,H b=some u->H' b=some u:=λb u e=>by
   show cP _ _ _ b=_
   rw[bI (λz=>by rw[z,M]at e;cases e),bI (λz=>by rw[z,ĉ]at e;cases e)];exact e
  have keep:∀b o,b≠P->s.heap.get? b=some o->(h'.push j).get? b=some o:=λb o B e=>Ag _ (T8 b o B e)
  have nP:∀{b},H b=none->b≠P:=λe z=>by rw[z,hP]at e;cases e
  have Zg:(h'.push j).get? P=some (HB (ps++#[B7 pos.line,B7 pos.col,.ref c'])):=Ag _ ą;have un:Un (vm X.stack) [] H H' s.heap (h'.push j):=⟨λb o e n _ _=>keep b o (nP n) e,λb o e n _ _=>⟨o.slots,keep b o (nP n) e⟩,λb o e n _=>?_,λb o e _=>?_,λb xs e=>r _ _ e,λb o u e=>r _ _ e,λb ps e=>⟨#[],by rw[Hh];exact r _ _ e⟩⟩
  rotate_left
  .have B:=AX e;show cP _ _ _ b=_
   rw[bI (Bm (AV B (Bv g (Ew l)))),bI (Bm (AV B g))];exact n
  .by_cases B:b=P
   .subst B;exact⟨_,Zg⟩
   .exact ⟨_,keep b o B e⟩
  have cN:kL X.prog X.w H' (h'.push j):=λb u e=>by
   by_cases h1:b=h'.objs.size
   .subst h1;have e:cP _ _ _ _=some u:=e;rw[a0]at e;cases e;have:(h'.push j).get? h'.objs.size=some j:=Aq _ (by rw[<- T];rfl);exact⟨this,_,this⟩
   by_cases h2:b=c'
   .subst h2;have e:cP _ _ _ _=some u:=e;rw[bI h1,a0]at e;cases e;have:=Ag j k;exact⟨this,_,this⟩
   have e:cP _ _ _ _=some u:=e;rw[bI h1,bI h2]at e;by_cases h3:b=P
   .subst h3;rw[hP]at e;cases e;refine⟨_,Zg,?_,λv G=>?_⟩
    .have:=JS pos.line pos.col (.ref c') ps.toList ht;simpa using this
    .have:=JP (pos:=pos) (c:=.ref c') ps.toList ht f;rw[show (ps++#[B7 pos.line,B7 pos.col,.ref c']).toList=ps.toList++[B7 pos.line,B7 pos.col,.ref c'] by simp,this]at G;cases G;refine⟨c',A,rfl,?_,vs,t,hd,hv⟩;show cP _ _ _ _=_
     rw[bI (Be U),a0]
   .refine (I.cN b u e).rx (λd v a qv=>keep d v ?_ qv) (λd qd=>r _ _ qd) λd v qd _=>r _ _ qd
    rcases a with rfl |a
    .exact h3
    .rintro rfl;rw[hP]at a;cases a
  have I1:bC X pins Y H' {s with heap:=h'.push j,toks:=tk}:=I.RJ (ch:=[]) rfl un cN I.bare (λb z=>absurd z (by simp));subst T;refine⟨.ref h'.objs.size,_,I1,rfl,h _ c' A ((X.mg "__name__").getD .none) C H' M r ?_ ?_ ⟨vs,t,hd,hv⟩⟩
  .show cP _ _ _ _=_
   rw[a0]
  .show cP _ _ _ _=_
   rw[bI (Be U),a0]
def So (i:Nat)(q:Al)(r:Cp)(B:Expr)(sc:BG)(fs:List Al)(sp:Sp)(t:TA):TE:=λY H Q=>∃f c o l pm C w,Y[i]?=some (some (.ref f))/\H f=some (.eh (iV q r B sc l pm c C) (.own f))/\l.map (·.1)=fs/\(l.map (·.2)).Nodup/\(l.map (·.1)).Nodup/\l.length=w.length/\
 t Y H λvs a=>a f=some (.eh (iV q r B sc l pm c C) (.own f))/\a c=some (.eh o (.own c))/\kS o q/\lz a l w/\sp (w++vs) (kA (l.map (·.2)) a) (λv e=>Q v (m4 (l.map (·.2)) a e)) E0
theorem M9 {y:Al}{i k:Nat}{q:Al}{ar:Cp}{bd:Expr}{sc:BG}{fs:List Al}{sp:Sp}{e:Expr}{B:List Expr}{t:TA}{p pos:Dt}(hn:PE X (.Name y p) (dt i))(C:R0 X.prog X.w X.K X.mg X.base k q ar bd sc fs sp)(hr:cC k X.A)(ha:PA X (e::B) t)
  (he:Av (e::B) X.env=(false,eval e X.env)::Av B X.env:=by rfl) (Vr:(BY pos (Av B X.env)).any (·.1)=false:=by rfl):PE X (.Call (.Name y p) (e::B) [] pos) (So i q ar bd sc fs sp t):=by
 intro pins s Y H Q I ⟨f,c,oc,L,pm,J,O,hs,h1,hf,R9,Ĉ,l,h⟩;refine BE (cy (hn pins s Y H (λv H1=>v = .ref f/\H1=H) I ⟨_,hs,rfl,rfl⟩) λu s1 ⟨v,H1,I1,r1,g,G⟩=>?_);subst g G;cases r1;have T:∀{Y H s pins},bC X pins Y H s->H f=some (.eh (iV q ar bd sc L pm c J) (.own f))->FnAt f s.heap:=λI h=>⟨_,_,_,_,(I.cN f _ h).1⟩
 refine IE (T I1 h1) (cy (ha pos pins s1 Y H1 _ I1 h) λus s2 ⟨vs,H2,m,r,g1,g2,⟨U,t,g3,g4⟩,gc,q⟩=>⟨T m g1,?_⟩) he Vr;rw[Fg];have ct:fN (L.map (·.2)) H2:=λa ha=>by
  obtain⟨⟨x,a'⟩,hm,rfl⟩:=Bf.mp ha;obtain⟨j,hj⟩:=CC hm;obtain⟨Vs,_⟩:=Ab.mp hj;obtain⟨x',a2,o,u,g,G,M,_⟩:=gc j O[j] (Ad (by rw[<- l];exact Vs));rw[hj]at g;cases g;exact⟨o,_,G,M⟩
 have hT:∀b∈L.map (·.2),∀o u,H2 b=some (.eh o u)->s2.heap.get? b=some o:=λb _ o u e=>(m.cN b _ e).1
 have đ:∀b∈L.map (·.2),b∉vm X.stack:=λb hb z=>by
  obtain⟨o,u,g,_⟩:=ct b hb;rw[m.oD b z]at g;cases g
 have hc:i4 s2.heap (kA (L.map (·.2)) H2) L O:=⟨l,λj x a v g G=>⟨kX (Bf.mpr ⟨_,Ai g,rfl⟩),by
  obtain⟨x',a2,o,u,M,e4,e5,e6⟩:=gc j v G;rw[g]at M;cases M;exact⟨u,e6,o,(m.cN a _ e4).1,e5⟩⟩,Ĉ,R9⟩
 refine E6 (Cc (C.run X.A X.stack s2 _ f c L pm J us O vs _ hr (m.NI.kA ct) (m.cN f _ g1).1 ⟨c,oc,U,t,rfl,(m.cN c _ g2).1,g3,g4⟩ hf hc r q) λr s' n=>?_)
 cases r with
 |error e=>exact (show False from n).elim
 |ok fl=>
  cases fl with
  |ret u=>exact m.after (CE.U6 ct hT đ n)
  |next=>exact A8 n
  |brk=>exact A8 n
  |cont=>exact A8 n
end
section
variable {K:Ap}{F0 H0:Hp}{c c':TT}{C C':DT}
end
def ON (q:Al)(r:Cp)(B:Expr)(sc:BG)(fs:List Al)(sp:Sp):Sp:=Sw 3 λvs H Q=>∃(lo hi:Int) (f c:Ac) (o:B5) (l:List (Al×Ac)) (pm v:Aa) (w:List V) (I:Int->Int->Hp->Prop),vs=[.int lo,.int hi,.ref f]/\kS o q/\l.map (·.1)=fs/\(l.map (·.2)).Nodup/\fs.Nodup/\l.length=w.length/\I lo hi H/\
 (∀b g a,b<g->I b g a->a f=some (.eh (iV q r B sc l pm c v) (.own f))/\a c=some (.eh o (.own c))/\lz a l w/\
  ∀R:VK,(∀t e,I (if t=true then b else (b+g) / 2+1) (if t=true then (b+g) / 2 else g) (m4 (l.map (·.2)) a e)->R (.bl t) e)->sp (w++[.int ((b+g) / 2)]) (kA (l.map (·.2)) a) R E0)/\
 (∀b g a,¬ b<g->I b g a->Q (.int g) a)
section
variable {K:Ap}{TF:Hp->Prop}{te tc:TE}{t u:TS}{T U:DS}{E Ec:DO}{c:TT}{C:DT}
theorem bY.y (h:bY K t T):d5 K TF t T:=λe a _=>h e a
theorem cU (h:d5 K TF t T)(g:d5 K TF u U):d5 K TF (rq t u) (Pc T U):=λf e a=>yn (h f e a) (g f e a)
theorem Yh (h:jk K c C)(ht:d5 K TF t T)(g:d5 K TF u U):d5 K TF (OG c t u) (Ê C T U):=λf e a=>YA h (ht f e a) (g f e a)
theorem VW {i:Nat}(h:jg K TF tc Ec):d5 K TF (kB tc (gO i)) (SM i (ZF (zi Ec))):=λf e a=>Wi (YB (h f e a))
theorem VX (h:jg K TF tc Ec):d5 K TF (OB tc) (SS Ec):=λf e a=>Wj (h f e a)
theorem VZ {g:TG}{G:D->cY->(cY->Prop)->Prop}(h:jg K TF tc Ec)(hg:vA K g G):d5 K TF (kB tc g) (YD (zi Ec) G):=λm j a F H Y δ L J e l w=>Yi (h m j a) F H Y δ _ _ e w λd v n k p x r=>by
 obtain⟨A,e'⟩:=e.on x;exact hg m j n k Y δ A d v _ _ e' r p λz f B o q _=>l.nx n k z f ⟨B,q⟩ o
theorem Se {o:DE}(h:cO K te o)(hc:jg K TF tc Ec):jg K TF (zT (da te (da tc gS))) (ZF (XA (tK o (tK (zi Ec) Rx)))):=λn m a F H Y δ P Q e w q=>by
 refine h n m F H Y δ _ _ e w λd v M J r k A=>Yi (hc n m a) M J Y δ _ _ (e.on k) r λO j F2 H2 g f z=>?_
 have g:=g;refine⟨eI (show 2<=1000000 by decide),λp L l B G=>?_⟩;exact q _ _ _ L g.2 ((k.trans f).trans (cE.new f.fh l B G)) (.fz ⟨p,[v,j],rfl,.inl (.inl a0),bA.mono (a6.Md (f.fh.free l)) ⟨v,[j],rfl,A.mono f.ff,j,[],rfl,z,rfl⟩⟩)
def Su (K:Ap)(n:Nat)(TF:Hp->Prop)(sp:dF):Sp:=Sw n λvs H Q=>∃F ds P,TF F/\a6 F H/\bA K F ds vs/\sp ds P/\∀r v e a,P r->cE F H e a->eO K H e a r v->Q v a
theorem zE {TG:Hp->Prop}{a:TA}{A:DA}{n:Nat}{sp:dF}(m:rm TG)(M:∀F,TF F->TG F)(l:ei K a A):jg K TF (nt (Su K n TG sp) [] E0 a) (LZ n sp A):=λJ z o F H Y δ P Q e w q=>l J z F H Y δ _ _ e w λds vs G O g f h=>by
 rw[Bj];exact⟨by rw[<- h.length];exact g.1,G,ds,P,m _ _ ((cx.ext e).ff.trans f.ff) (M _ o),f.fh,h,g.2,λr v L B p j k=>q r v L B p (f.trans j) (k.old f.hh)⟩
theorem Oj {B:Ac}{pos:Dt}{q:Al}{a:TA}{A:DA}{n:Nat}{sp:dF}(m:∀F,TF F->F B=some (.kG pos q))(e:ei K a A):jg K TF (nt (É K n B pos q sp) [] E0 a) (LZ n sp A):=zE (TG:=λF=>F B=some (.kG pos q)) (λ_ _ s h=>s _ _ h) m e
end
abbrev oa (K:Ap)(n:Nat)(c:Al)(ns:List Al)(TF:Hp->Prop)(sp:o9):Sp:=OM K n c ns λF ts ds P=>TF F/\sp ts ds P
abbrev ZZ:=List OV->List D->(D->Prop)->Prop
def Sv (K:Ap)(n:Nat)(c:Al)(ns:List Al)(TF:Hp->Prop)(sp:ZZ):Sp:=Sw n λvs H Q=>∃F a C f ts e B cW ds P,vs=V.ref a::cW/\C4 K Am c=some (some (.ref C))/\a6 F H/\H a=some (.ins C f (ns.zip e))/\H f=some (.own a)/\ts.length<=ns.length/\a8 K F H ts e B/\
 (a::f::B).Nodup/\(∀b∈a::f::B,F b=none)/\bA K F ds cW/\(TF F/\sp ts ds P)/\
 ∀d v h g,P d->cE F (λb=>if b∈a::f::B then none else H b) h g->dY K h d v->Q v g
section
variable {P:AA}{w:AT}{K:Ap}{mg:Al->Option Aa}{base:Heap}{c m q x:Al}{ns:List Al}{st:AZ}{f:Ac}{fd:Ak}{N ps:List Al}{k n:Nat}{TF:Hp->Prop}
theorem Z6.of {sp:o9}(g:e7 K c m q st f fd)(S:aQ N ps (aB st))
  (B:∀(kV O pm:Aa) (G:Option Ac) (v ct:Aa) (us:List Aa),us.length=ps.length->BP (DC m q (bS st) (a9 st) (aB st) .none kV O pm G v ct) ⟨us,[]⟩=pure (ps.zip us)) (hn:n=ps.length)
  (o:∀(v:Aa) (A:AU) (outer:List DU) (s:Af) (H:Hp) (E:XK),cC k (A.deeper (B_ q (aB st) s.heap.objs.size f v))->
   ∃t T,PSs (eH jh P w K mg base N q (aB st) f v A outer s H E).kR (a9 st) t/\d5 K TF t T/\∀(a:Ac) ts ds r,sp ts ds r->T {nx:=λδ=>∃e,δ[0]?=some (some (.own (.ob (some a) c ns e)))/\r e,rt:=λ_=>False} (eQ N c ns a ts ds)):
  cS P w K mg base c m (k+1) ps (oa K n c ns TF sp):=by
 obtain⟨C,l,L,M⟩:=g.cl;exact⟨C,f,fd,l,L,M,u6 (SP:=λF ts ds P=>TF F/\sp ts ds P) g.fn S hn λz A u s H E j=>let⟨t,T,h1,h2,p⟩:=o z A u s H E j;⟨t,T,h1,λF J a ts ds r h=>⟨h2 F J h.1,p a ts ds r h.2⟩⟩,g.fn.binds B⟩
theorem Z3.of {sp:o9}{sc:BG}{J:Ac}(Df:e7 K c m q st f fd)(hc:fd.code = .ref J)(S:aQ N ps (aB st))
  (hb:∀(kV G pm:Aa) (an:Option Ac) (l ct:Aa) (us:List Aa),us.length=ps.length->BP (DC m q (bS st) (a9 st) (aB st) .none kV G pm an l ct) ⟨us,[]⟩=pure (ps.zip us)) (hn:n=ps.length)
  (O:∀(A:AU) (outer:List DU) (s:Af) (H:Hp) (E:XK),cC k (A.deeper (B_ q (aB st) s.heap.objs.size f (.ref J)))->∀cl,cl=dk sc (eH jh P w K mg base N q (aB st) f (.ref J) A outer s H E).kR.env->
   ∃t C tr U,PSs (eH jh P w K mg base N q (aB st) f (.ref J) A outer s H E).kR (a9 st) (rq (OG t UQ OD) tr)/\jk K t C/\d5 K TF tr U/\∀(a:Ac) ts ds r,sp ts ds r->C (eQ N c ns a ts ds) λb=>if b=true then r ts else U {nx:=λδ=>∃T,δ[0]?=some (some (.own (.ob (some a) c ns T)))/\r T,rt:=λ_=>False} (eQ N c ns a ts ds)):
  cS P w K mg base c m (k+1) ps (oa K n c ns TF sp):=by
 obtain⟨C0,hC0,ğ,ϝ⟩:=Df.cl;obtain⟨oc,od,kV,G,pm,an,l,ct,YN,rfl,lk,Xq⟩:=Df.fn.ex
 cases (show l = .ref J from hc)
 refine⟨C0,f,_,hC0,ğ,ϝ,?_,Df.fn.binds hb⟩;refine LQ lk Xq S (λvs H Q E h=>by rw[<- hn];exact h.1) λA outer s H vs Q E hr h=>?_
 obtain⟨_,F,a,C,dx,ts,Į,B,cW,ds,r,rfl,hC,hs,ha,hd,L,hB,R9,Ϝ,ϔ,⟨hT,Zd⟩,hq⟩:=h;obtain⟨t,C1,tr,U,h1,h2,h3,h4⟩:=O A outer s H E hr _ rfl;refine⟨_,h1.kR,?_⟩;have er:=mD (N:=N) hC hs ha hd L hB R9 Ϝ ϔ;have fin:∀j g Y δ T,cx K F (λb=>if b∈a::dx::B then none else H b) j g Y δ->δ[0]?=some (some (.own (.ob (some a) c ns T)))->r T->Q .cB g:=λj g Y δ T e h0 hp=>by
  obtain⟨A',e⟩:=e;obtain⟨v,hv,a',C',Ö,M,B',rfl,eA,g0,go,g1,g2,g3,g4⟩:=e.own 0 _ h0;obtain rfl:=go a rfl;rw[hC]at g0;cases g0;have u:=e.ji 0;rw[eA]at u;refine hq T j g Ö M B' hp e.ext.ff e.ext.fh (λb o y z=>?_) (λb o y1 y2 y3 y4=>?_) g1 g2 g3 g4 u (λb hb=>?_)
  .exact e.ext.hh b o (by rw[if_neg y];exact z)
  .exact e.ext.no b o y1 (by rw[if_neg y4];exact y2) y3
  .obtain ⟨z1,z2,_⟩:=e.new 0 b (by rw[eA];exact hb);refine⟨z1,?_⟩;by_cases q:b∈a'::dx::B
   .exact .inl q
   .rw [if_neg q]at z2;exact .inr z2
 refine h2 F _ F H _ _ _ _ ⟨_,er⟩ (h4 a ts ds r Zd) λb j g p x=>?_
 have e2:cx K F (λb=>if b∈a::dx::B then none else H b) j g _ _:=⟨_,er.on x⟩
 cases b with
 |true=>exact rS (fin j g _ _ ts e2 rfl p)
 |false=>exact rT rfl (h3 F _ hT j g _ _ {nx:=λδ=>∃T,δ[0]?=some (some (.own (.ob (some a) c ns T)))/\r T,rt:=λ_=>False} _ e2 ⟨λj g Y δ e ⟨T,h0,hp⟩=>fin j g Y δ T e h0 hp,λ_ _ _ _ _ z=>z.elim,λ_ _ _ _ _ z=>z.elim,λ_ _ _ _ _ _ z=>z.elim⟩ p)
theorem Z7.of {sp:o9}(g:NT K m q st f fd)(L:xH K mg c f)(S:aQ N ps (aB st))
  (B:∀(kV O pm:Aa) (J:Option Ac) (v ct:Aa) (us:List Aa),us.length=ps.length->BP (DC m q (bS st) (a9 st) (aB st) .none kV O pm J v ct) ⟨us,[]⟩=pure (ps.zip us)) (hn:n=ps.length)
  (o:∀(v:Aa) (A:AU) (outer:List DU) (s:Af) (H:Hp) (E:XK),cC k (A.deeper (B_ q (aB st) s.heap.objs.size f v))->
   ∃t T,PSs (eH jh P w K mg base N q (aB st) f v A outer s H E).kR (a9 st) t/\d5 K TF t T/\∀(a:Ac) ts ds r,sp ts ds r->T {nx:=λδ=>∃e,δ[0]?=some (some (.own (.ob (some a) c ns e)))/\r e,rt:=λ_=>False} (eQ N c ns a ts ds)):
  sk P w K mg base c (k+1) ps (oa K n c ns TF sp):=by
 obtain⟨C,p,M,l⟩:=L.cl;exact⟨C,f,fd,p,M,l,u6 (SP:=λF ts ds P=>TF F/\sp ts ds P) g S hn λG A u s H E j=>let⟨t,T,h1,h2,z⟩:=o G A u s H E j;⟨t,T,h1,λF Q a ts ds r h=>⟨h2 F Q h.1,z a ts ds r h.2⟩⟩,g.binds B⟩
theorem Z4.of {sp:ZZ}(U:e7 K c m q st f fd)(S:aQ N ps (aB st))
  (hb:∀(kV O pm:Aa) (an:Option Ac) (e ct:Aa) (us:List Aa),us.length=ps.length->BP (DC m q (bS st) (a9 st) (aB st) .none kV O pm an e ct) ⟨us,[]⟩=pure (ps.zip us)) (hn:n=ps.length)
  (o:∀(e:Aa) (A:AU) (outer:List DU) (s:Af) (H:Hp) (E:XK),cC k (A.deeper (B_ q (aB st) s.heap.objs.size f e))->
   ∃t T,PSs (eH jh P w K mg base N q (aB st) f e A outer s H E).kR (a9 st) t/\d5 K TF t T/\∀(a:Ac) ts ds g,sp ts ds g->T {nx:=λ_=>False,rt:=λr=>g r.val} (eQ N c ns a ts ds)):
  cS P w K mg base c m (k+1) ps (Sv K n c ns TF sp):=by
 obtain⟨C,L,cl,hm⟩:=U.cl;refine⟨C,f,fd,L,cl,hm,U.fn.ok S (λvs H Q E h=>by rw[<- hn];exact h.1) λe A outer s H vs Q E hr h=>?_,U.fn.binds hb⟩;obtain⟨_,F,a,C,dx,ts,Į,B,cW,ds,g,rfl,L,hs,ha,hd,l,hB,J,G,u,⟨hT,j⟩,hq⟩:=h;obtain⟨t,T,h1,h2,h3⟩:=o e A outer s H E hr;refine⟨t,h1,h2 F _ hT F H _ _ {nx:=λ_=>False,rt:=λr=>g r.val} _ ⟨_,mD (N:=N) L hs ha hd l hB J G u⟩ ⟨λ_ _ _ _ _ z=>z.elim,λ_ _ _ _ _ z=>z.elim,λ_ _ _ _ _ z=>z.elim,λF' H' r v x n p=>?_⟩ (h3 a ts ds g j)⟩;obtain⟨M,x',_,r'⟩:=n.eh x;exact hq _ v M H' p x' r'
theorem Z2.of {sp:dF}(Df:bL K mg x st f fd)(S:aQ N ps (aB st))
  (L:∀(kV O pm:Aa) (an:Option Ac) (C ct:Aa) (us:List Aa),us.length=ps.length->BP (DC x x (bS st) (a9 st) (aB st) .none kV O pm an C ct) ⟨us,[]⟩=pure (ps.zip us)) (hn:n=ps.length)
  (o:∀(C:Aa) (A:AU) (outer:List DU) (s:Af) (H:Hp) (E:XK),cC k (A.deeper (B_ x (aB st) s.heap.objs.size f C))->
   ∃t T,PSs (eH jh P w K mg base N x (aB st) f C A outer s H E).kR (a9 st) t/\d5 K TF t T/\∀ds a,sp ds a->T {nx:=λ_=>a (.fz .cB),rt:=a} (du N ds)):cg P w K mg base x (k+1) ps (Su K n TF sp):=
 cg.of Df S L (λvs H Q E h=>by rw[<- hn];exact h.1) λC A outer s H vs Q E J h=>by
  obtain⟨_,F,ds,a,M,G,j,g,B⟩:=h;obtain⟨t,T,h1,h2,U⟩:=o C A outer s H E J;refine⟨t,h1,h2 F H M F H (start N vs) (du N ds) {nx:=λ_=>a (.fz .cB),rt:=a} _ ⟨_,e_ G j⟩ ⟨λu l Y δ e p=>?_,λ_ _ _ _ _ z=>z.elim,λ_ _ _ _ _ z=>z.elim,λu l r v x n p=>B r v u l p x n⟩ (U ds a g)⟩;exact B _ _ u l p e.ext (.fz rfl)
end
section
variable {K:Ap}{TF:Hp->Prop}{c m f:Al}{ns:List Al}{i j k n:Nat}{te:TE}{a:TA}{As:DA}
theorem oB {sp:o9}(M:rm TF)(CV:dE K c ns)(z:m∉ns)(G:ei K a As): d5 K TF (jr (ir K c m (oa K n c ns TF sp) (dt i) a)) (v9 c ns i n sp As):=λQ O T F H Y δ De En e l w=>by
 unfold v9 at w;split at w
 .rename_i o c' u ts r;obtain⟨rfl,rfl,w⟩:=w;obtain⟨A,e⟩:=e;obtain⟨v,q,p,C,L,vs,B,rfl,eA,J,U,h1,h2,hl,h3⟩:=e.own i _ r;refine⟨C,J,_,q,p,L,_,rfl,h1,eJ z,?_⟩;refine G Q O F H Y δ _ _ ⟨A,e⟩ w λds us F1 H1 h g t=>?_
  rw[Bj];exact x4 (SP:=λF ts ds P=>TF F/\sp ts ds P) ⟨A,e.on g⟩ r q l h.1 t ⟨M _ _ (e.ext.ff.trans g.ff) T,h.2⟩
 .exact w.elim
def ZG (c:Al)(ns:List Al)(sp:ZZ)(o:DO):DO:=λδ P=>o δ λr=>match r with
 | .ob none c' e ts=>c'=c/\e=ns/\sp ts [] λd=>P (.fz d)
 |_=>False
theorem Sf {sp:o9}(o:rm TF)(C:dE K c ns)(A:ei K a As): jg K TF (tZ K c (oa K n c ns TF sp) a) (LY c ns n sp As):=λg e T=>zG (SP:=λF ts ds P=>TF F/\sp ts ds P) C A λF ds P s h=>⟨o _ _ s T,h⟩
theorem V0 {sp:ZZ}{U:DO}(mo:rm TF)(hm:m∉ns)(h:jg K TF te U)(t:∃C,C4 K Am c=some (some (.ref C))): jg K TF (ir K c m (Sv K 1 c ns TF sp) te gS) (ZG c ns sp U):=λF0 H0 T F H Y δ P Q e w q=>by
 obtain⟨C,t⟩:=t;refine⟨C,t,h F0 H0 T F H Y δ _ _ e w λr v F1 H1 l g n1=>?_⟩;split at l
 .rename_i c' Ĺ ts;obtain⟨rfl,rfl,l⟩:=l;obtain⟨A,⟨p,C',J,vs,B,rfl,rfl,O,ho,h1,h2,hl,h3⟩,nd,M⟩:=n1;rw[t]at O;cases O;refine⟨p,J,_,rfl,h1,eJ hm,?_⟩;refine⟨rfl,F1,p,C,J,ts,vs,B,[],[],_,rfl,t,g.fh,h1,h2,hl,h3,nd,λb hb=>(M b hb).2,rfl,⟨mo _ _ ((cx.ext e).ff.trans g.ff) T,l⟩,λd v F' H' pd u r'=>?_⟩;have off:∀b o,H b=some o->b∉p::J::B:=λb o z y=>by rw[(M b y).1]at z;cases z
  refine q _ v F' H' pd ⟨g.ff.trans u.ff,λb o z=>u.hh b o (by rw[if_neg (off b o z)];exact g.hh _ _ z),u.fh,λb o z1 G L=>?_⟩ (.fz r');exact u.no b o (g.no b o z1 G L) (by rw[if_neg (off b o G)];exact g.hh _ _ G) L
 .exact l.elim
theorem a8.Yl {F H:Hp}:∀{xs:List D} {vs:List V} {A:List Ac},a8 K F H (xs.map .fz) vs A->bA K F xs vs/\A=[]
 | [],_,_,h=>h
 |x::xs,_,_,h=>by
  obtain⟨v,r,B,C,rfl,rfl,⟨rfl,h1⟩,h2⟩:=h;obtain⟨e,rfl⟩:=a8.Yl h2;exact⟨⟨v,r,rfl,h1,e⟩,rfl⟩
theorem ER.Vx {F0 H0 F H:Hp}{Y:St}{δ:cY}{A:Nat->List Ac}{o:Option Ac}{ts:List OV}{xs:List D}(e:ER K F0 H0 F H Y δ A)(CV:dE K c ns)(hf:ns[j]?=some f)(hs:δ[i]?=some (some (.own (.ob o c ns ts))))(hx:ts[j]?=some (.nl (xs.map .fz))):
  ∃a g J C L fs,Y[i]?=some (some (.ref a))/\H a=some (.ins C L fs)/\C4 K Am c=some (some (.ref C))/\xP K C/\hZ K C f/\fs.lookup f=some (.ref g)/\H g=some (.lst J)/\F g=none/\H0 g=none/\bA K F xs J/\
   ∀G M ys us,cE F H G M->bA K G ys us->cx K F0 H0 G (cP M g (.lst us)) Y (δ.set i (some (.own (.ob o c ns (ts.set j (.nl (ys.map .fz))))))):=by
 obtain⟨v,hv,a,C,L,vs,B,rfl,eA,h0,ho,h1,h2,hl,h3⟩:=e.own i _ hs;obtain⟨C',u,cl,na⟩:=CV.ex;rw[h0]at u;cases u;obtain⟨v0,A1,B0,A2,f1,rfl,f3,f4⟩:=h3.focus hx;obtain⟨g,J,B1,rfl,rfl,hc,O⟩:=f3;obtain⟨Q,rfl⟩:=a8.Yl O;have t:g∈A i:=by rw[eA];simp
 have q:=e.new i g t;refine⟨a,g,J,C,L,_,hv,h1,h0,cl,na f (Ai hf),by rw[mY CV.nd hf];exact f1,hc,q.1,q.2.1,Q,λG M ys us l r=>?_⟩;have e1:=e.on l;have p:=e.ji i;rw[eA]at p;obtain⟨n1,n2⟩:=AD.mp p;obtain⟨n3,n4⟩:=AD.mp n2;obtain⟨m1,m2,m3⟩:=AY.mp n4;obtain⟨q1,q2,q3⟩:=AY.mp m2;have off:∀b∈A1++A2,b≠g:=λb h z=>by
  subst z;rcases AB.mp h with y |y
  .exact m3 b y b (by simp) rfl
  .exact q3 b (by simp) b y rfl
 have U:a≠g:=λz=>n1 (by rw[z];simp)
 have T:L≠g:=λz=>n3 (by rw[z];simp)
 have w:=f4 G (cP M g (.lst us)) (.nl (ys.map .fz)) (.ref g) [g] l.ff (λb h xs z=>a5 (off b h) (l.hh _ _ z)) ⟨g,us,[],rfl,rfl,a0,a8.Ó r⟩;rw[fu f1]at w;refine e1.obj hv eA h0 ho (a5 U (l.hh _ _ h1)) (a5 T (l.hh _ _ h2)) (by rw[Bi];exact hl) w n4 (λb h=>.inl h) λb o' h z=>a5 (λy=>h (by rw[y];exact t)) z
def yp (c:Al)(ns:List Al)(i j k:Nat)(g:DE):DS:=λh δ=>match δ[i]? with
 |some (some (.own (.ob o c' e ts)))=>c'=c/\e=ns/\∃xs:List D,ts[j]?=some (.nl (xs.map .fz))/\xs.length<=1000000/\g δ λd=>∃(p:Nat) (x:D),d = .int p/\xs[p]?=some x/\
   h.nx ((δ.set i (some (.own (.ob o c ns (ts.set j (.nl ((xs.eraseIdx p).map .fz))))))).set k (some (.own (.fz x))))
 |_=>False
theorem bA.erase {F:Hp}:∀{xs:List D} {vs:List V} (p:Nat),bA K F xs vs->bA K F (xs.eraseIdx p) (vs.eraseIdx p)
 | [],_,p,h=>by cases h;exact rfl
 |x::xs,_,0,h=>by obtain⟨v,r,rfl,h1,h2⟩:=h;exact h2
 |x::xs,_,p+1,h=>by obtain⟨v,r,rfl,h1,h2⟩:=h;exact⟨v,_,rfl,h1,bA.erase p h2⟩
theorem Pf {J:DE}(CV:dE K c ns)(hf:ns[j]?=some f)(h:dN K te J):bY K (kB (UW K "list" PZ (xW K (dt i) f) (da te gS)) (gO k)) (yp c ns i j k J):=λF0 H0 F H Y δ De En e l w=>by
 unfold yp at w;split at w
 .rename_i o c' T ts hs;obtain⟨rfl,rfl,xs,hx,Î,w⟩:=w;obtain⟨A,e⟩:=e;obtain⟨a,B,M,C,dx,fs,hv,h1,h0,cl,U,hl,hc,_,_,t,put⟩:=e.Vx CV hf hs hx;refine⟨_,hv,a,C,dx,fs,.ref B,rfl,h1,cl,U,hl,.inl ⟨rfl,_,eE.of hc⟩,?_⟩;refine h F0 H0 F H Y δ _ _ ⟨A,e⟩ w λd v G H1 q g Q=>?_
  obtain⟨p,x,rfl,u,q⟩:=q;cases Q;have Ā:=t.length;have L:=(Ab.mp u).1;have r:=t.mono g.ff;obtain⟨y,hy,O⟩:=r.get u;refine⟨B,M,p,p,y,rfl,rfl,g.hh _ _ hc,by lia,by lia,?_,hy,?_⟩
  .unfold Hm;rw[if_neg (show ¬ (p:Int)<0 by lia),if_pos (by simp;lia),AQ]
  .have z:=put G H1 _ _ g (r.erase p);exact l.nx G _ _ _ (z.put (cE.refl z.ext.fh) k (.fz O)) q
 .exact w.elim
end
def oG (K:Ap)(T:Ac)(pos:Dt)(q:Al)(T':Ac)(pos':Dt)(q':Al):Sp:=Sw 1 λvs H Q=>∃(a:Ac) (ns:List Int),vs=[.ref a]/\eE K H a (ns.map V.int)/\(H T=some (.kG pos q)/\H T'=some (.kG pos' q'))/\ns.length<=63/\(∀m∈ns,iW m<=1048576)/\∀c,c T=some (.kG pos q)->c T'=some (.kG pos' q')->Q (.bl true) c
theorem yV {P:AA}{w:AT}{K:Ap}{M mb:Al->Option Aa}{k:Nat}{fa a c T c' T':Ac}{pos pos':Dt}{q q':Al}{fd:Ak}{x:Al}{f:Af}{vs:List Aa}{ns:List Int}
  (KX:K.In f.heap) (G:f.heap.Ns Am M) (B:f.heap.Ns E8 mb) (Ė:∀x:Al,x ≠ "__name__"->mb x=Dw x) (Č:f.heap.NoLimit) (hg:f.gens=#[])
  (ϳ:∃bm ob,M "__builtins__"=some (.ref bm)/\bm≠E8/\f.heap.get? bm=some ob/\ob.cls = .type "module"/\ob.dict=some E8/\ob.data = .plain)
  (hC:GS f.heap c T) (U:f.heap.get? T=some (HB #[])) (hKT:K.lookup T=none) (hC':GS f.heap c' T') (j:f.heap.get? T'=some (HB #[])) (Ě:K.lookup T'=none) (Ϲ:T'≠T)
  (Q:f.heap.get? a=some {cls:=.type "list",data:=.seq vs.toArray}) (hi:EE vs ns) (hl:ns.length<=63) (J:∀m∈ns,iW m<=1048576) (hr:cC k CO)
  (F:∀base:Heap,K.In base->base.Ns Am M->base.BuiltinsAt M T->base.BuiltinsAt M T'->fK P w K M base jh k fa fd [x] (oG K T pos q T' pos' q')) (L:∀(s:Af) (u:Aa),FC s fd ⟨[u],[]⟩ [(x,u)]):
  Cd (model P w) CO (.call (.ref fa) ⟨[.ref a],[]⟩) (λr l=>r = .ok (.ret (.bool true))/\JU f.heap l.heap/\l.os=f.os/\Dy l.gens) f:=by
 have rv:=mB hi;have ù:=hi.length;have ϸ:T≠a:=λz=>by rw[z,Q]at U;cases U
 have Ę:T'≠a:=λz=>by rw[z,Q]at j;cases j
 have core : ∀H:Hp,H T=some (.kG pos q)->H T'=some (.kG pos' q')->eE K H a (ns.map V.int)->kL P w H f.heap->(∀b u,H b=some u->b=T∨b=T'∨(b=a/\K.lookup a=none/\∃o y,u = .eh o y))->
   Cd (model P w) CO (.call (.ref fa) ⟨[.ref a],[]⟩) (λr l=>r = .ok (.ret (.bool true))/\JU f.heap l.heap/\l.os=f.os/\Dy l.gens) f:=by
  intro H Ŗ C hS cN hA;have tr:∀{b o},f.heap.get? b=some o->o.cls≠.none->o.cls≠.type "list"->H b=none:=λ{b o} e n1 n2=>by
   cases q:H b with
   |none=>rfl
   |some u=>
    rcases hA b u q with rfl |rfl | ⟨rfl,_⟩
    .rw [U]at e;cases e;exact absurd rfl n1
    .rw [j]at e;cases e;exact absurd rfl n1
    .rw [Q]at e;cases e;exact absurd rfl n2
  have Ů:∀{b o es ep},f.heap.get? b=some o->o.data = .dict es ep->H b=none:=λ{b o es ep} e d=>by
   cases q:H b with
   |none=>rfl
   |some u=>
    rcases hA b u q with rfl |rfl | ⟨rfl,_⟩
    .rw [U]at e;cases e;cases d
    .rw [j]at e;cases e;cases d
    .rw [Q]at e;cases e;cases d
  have t:∀{b:Ac} {m:Al->Option Aa},f.heap.Ns b m->(l4 f.heap H).Ns b m:=λ{b m} ⟨o,es,ep,e,d,r⟩=>⟨o,es,ep,l3 e (Ů e d),d,r⟩
  have ŕ:K.In (l4 f.heap H):=λb o e=>l3 (KX b o e) (by
   cases q:H b with
   |none=>rfl
   |some u=>
    rcases hA b u q with rfl |rfl | ⟨rfl,z,_⟩
    .rw [hKT]at e;cases e
    .rw [Ě]at e;cases e
    .rw [z]at e;cases e)
  have hM:Mod K M (l4 f.heap H):=⟨ŕ,t G,⟨mb,t B,Ė⟩,let⟨mc,h1,h2⟩:=Č;⟨mc,t h1,h2⟩⟩
  have hB:∀T,(∃u,H T=some u)->(l4 f.heap H).BuiltinsAt M T:=λT ⟨u,hu⟩=>by
   obtain⟨bm,ob,b1,b2,b3,b4,b5,b6⟩:=ϳ;have hm:H bm=none:=tr b3 (by rw[b4];decide) (by rw[b4];decide);refine⟨bm,ob,b1,b2,λz=>?_,λz=>?_,l3 b3 hm,b4,b5,b6⟩
   .obtain ⟨o,es,ep,e,hd,_⟩:=G;rw[z,e]at b3;cases b3;rw[hd]at b6;cases b6
   .rw [z,hu]at hm;cases hm
  have e0:kd P w K M (l4 f.heap H) CO [] f H:=⟨rfl,hM,λb o e=>Lp e,Ii (tw _ _),trivial,λb B=>absurd (show b∈([]:List Ac) from B) (by simp),cN,.of_eq hg⟩
  refine Cc ((F _ ŕ (t G) (hB T ⟨_,Ŗ⟩) (hB T' ⟨_,C⟩)).run CO [] f H ⟨[.ref a],[]⟩ [.ref a] [.ref a] (λv H'=>v = .bl true/\H' T=some (.kG pos q)/\H' T'=some (.kG pos' q')) E0 hr e0 (L f (.ref a)) (.cons rfl .nil) ⟨rfl,a,ns,rfl,hS,⟨Ŗ,C⟩,hl,J,λH' z z'=>⟨rfl,z,z'⟩⟩) λr l h=>?_
  cases r with
  |error e=>exact (show False from h).elim
  |ok fl =>
   cases fl with
   |next=>exact A8 h
   |brk=>exact A8 h
   |cont=>exact A8 h
   |ret u =>
    obtain⟨v,H',os,bare,un,O,r',q1,q2,q3⟩:=h;subst q1;obtain rfl:u=Fq true:=r';obtain⟨ps,Ń,_⟩:=O T _ q2;obtain⟨ŵ,A,_⟩:=O T' _ q3;have kp:∀b o,b≠T->b≠T'->f.heap.get? b=some o->l.heap.get? b=some o:=λb o n n' e=>by
     cases q:H b with
     |none=>exact un.keep b o e q (by intro z;exact absurd (show b∈([]:List Ac) from z) (by simp)) (by simp)
     |some u=>
      rcases hA b u q with z |z | ⟨rfl,_,ob,y,rfl⟩
      .exact absurd z n
      .exact absurd z n'
      .have z2:=un.l8 _ ob y q;obtain⟨e1,_⟩:=cN _ _ q;obtain⟨e2,_⟩:=O _ _ z2;rw[e]at e1;cases e1;exact e2
    refine⟨rfl,⟨λb o e=>?_,λb o e=>?_⟩,os,bare⟩
    .by_cases B:b=T
     .subst B;rw[U]at e;cases e;exact .inr (.inl ⟨(hC.tab U).isCodeTable,rfl,#[],ps,rfl,by rw[Hg];exact Ń⟩)
     by_cases p:b=T'
     .subst p;rw[j]at e;cases e;exact .inr (.inl ⟨(hC'.tab j).isCodeTable,rfl,#[],ŵ,rfl,by rw[Hg];exact A⟩)
     .exact .inl (kp b o B p e)
    .by_cases B:b=T
     .subst B;exact⟨_,Ń⟩
     by_cases p:b=T'
     .subst p;exact⟨_,A⟩
     .exact ⟨o,kp b o B p e⟩
 have ŷ:∀H:Hp,el P w H f.heap T (.kG pos q):=λH=>⟨#[],U,trivial,λv hv=>by cases hv⟩
 have ò:∀H:Hp,el P w H f.heap T' (.kG pos' q'):=λH=>⟨#[],j,trivial,λv hv=>by cases hv⟩
 have Ō:ns.length<=AM:=Bv hl (by rw[Cr];decide);have go:∀g:Option HO,(∀u,g=some u->∃o y,u = .eh o y/\K.lookup a=none)->(∀H:Hp,H a=g->eE K H a (ns.map V.int))->(∀(H:Hp) u,g=some u->el P w H f.heap a u)->
   Cd (model P w) CO (.call (.ref fa) ⟨[.ref a],[]⟩) (λr l=>r = .ok (.ret (.bool true))/\JU f.heap l.heap/\l.os=f.os/\Dy l.gens) f:=λg h1 h2 h3=>by
  have key:∀b u,(if b=T then some (.kG pos q) else if b=T' then some (.kG pos' q') else if b=a then g else none)=some u->(b=T/\u = .kG pos q)∨(b=T'/\u = .kG pos' q')∨(b=a/\g=some u):=λb u z=>by
   split at z
   .rename_i B;cases z;exact .inl ⟨B,rfl⟩
   split at z
   .rename_i B;cases z;exact .inr (.inl ⟨B,rfl⟩)
   split at z
   .rename_i B;exact .inr (.inr ⟨B,z⟩)
   .cases z
  refine core (λb=>if b=T then some (.kG pos q) else if b=T' then some (.kG pos' q') else if b=a then g else none) (if_pos rfl) ((if_neg Ϲ).trans (if_pos rfl)) (h2 _ ((if_neg (Be ϸ)).trans ((if_neg (Be Ę)).trans (if_pos rfl)))) (λb u z=>?_) λb u z=>?_
  .rcases key b u z with⟨rfl,rfl⟩ | ⟨rfl,rfl⟩ | ⟨rfl,y⟩
   .exact ŷ _
   .exact ò _
   .exact h3 _ u y
  .rcases key b u z with⟨rfl,_⟩ | ⟨rfl,_⟩ | ⟨rfl,y⟩
   .exact .inl rfl
   .exact .inr (.inl rfl)
   .obtain ⟨o,y,e,hk⟩:=h1 u y;exact .inr (.inr ⟨rfl,hk,o,y,e⟩)
 cases hk:K.lookup a with
 |some o=>
  have e:=KX a o hk;rw[Q]at e;cases e;exact go none (λ_ z=>by cases z) (λH _=>.inr ⟨_,vs.toArray,_,hk,rfl,rfl,rfl,by rw[Ay,ù];exact Ō,rv⟩) λ_ _ z=>by cases z
 |none=>
  refine go (some (.eh {cls:=.type "list",data:=.seq vs.toArray} (.lst (ns.map V.int)))) (λu z=>?_) (λH z=>.inl (.inr ⟨_,z⟩)) λH u z=>?_
  .cases z;exact⟨_,_,rfl,hk⟩
  .cases z;exact⟨Q,by rw[Au];exact Ō,vs,_,rv,Q⟩
theorem yU {l:PySem.W.OpenLaw}{k:Nat}{U:AA}{e:List Al}{XP:(Al->Option Aa)->Heap->Prop}{O:AT->Heap->Prop}{d:JX}{K:JT->Ap}{c T c' T':Ac}{pos pos':Dt}{q q':Al}(hn:l.most=some 63)(v:d.params.defaults=[])(hr:cC k CO)
  (hY:∀(w:AT) (h:Heap),O w h->(K w.params).In h/\h.get? T=some (HB #[])/\h.get? T'=some (HB #[])) (J:∀(w:AT) (h:Heap),(K w.params).In h->GS h c T/\GS h c' T') (p:∀w:AT,(K w.params).lookup T=none/\(K w.params).lookup T'=none) (z:T'≠T)
  (F:∀(w:AT) (m:Al->Option Aa) (A:Ac) (h:Heap),(K w.params).In h->h.Ns Am m->m d.name=some (.ref A)->
   ∃fd:Ak,(∀(s:Af) (u:Aa),FC s fd ⟨[u],[]⟩ [("_law_script",u)])/\∀base:Heap,(K w.params).In base->base.Ns Am m->base.BuiltinsAt m T->base.BuiltinsAt m T'->fK l.prog w (K w.params) m base jh k A fd ["_law_script"] (oG (K w.params) T pos q T' pos' q')):
  PySem.W.WalkO U e XP O l.row.toRowW d [] (λf vs=>PySem.call f vs):=by
 refine Att.vy hn v λw s₀ C m mb A o pm cd doc a vs ns G Q ho hd Xq M j n L t hg=>?_
 obtain⟨r,hT,B⟩:=hY w _ Q;obtain⟨fd,hb,hF⟩:=F w m A _ r G.T.g M;exact yV r G.T.g G.T.b G.T.builtins G.T.nolimit hg G.T.bmain (J w _ r).1 hT (p w).1 (J w _ r).2 B (p w).2 z j n L t hr hF hb
theorem QY {P:AA}{w:AT}{K:Ap}{g:Al->Option Aa}{base:Heap}{st:AZ}{f T T':Ac}{pos pos':Dt}{q q':Al}{fd:Ak}{N:List Al}{k:Nat}(Df:bL K g "law" st f fd)(S:aQ N ["_law_script"] (aB st))
  (o:∀(c:Aa) (A:AU) (outer:List DU) (s:Af) (H:Hp) (E:XK),cC k (A.deeper (B_ "law" (aB st) s.heap.objs.size f c))->
   ∃t U,PSs (eH jh P w K g base N "law" (aB st) f c A outer s H E).kR (a9 st) t/\d5 K (λF=>F T=some (.kG pos q)/\F T'=some (.kG pos' q')) t U/\∀ns:List Int,ns.length<=63->(∀m∈ns,iW m<=1048576)->U {nx:=λ_=>False,rt:=λr=>r = .fz (.bl true)} (du N [.lst (ns.map .int)])):fK P w K g base jh (k+1) f fd ["_law_script"] (oG K T pos q T' pos' q'):=
 Df.fn.ok S (λvs H Q E h=>h.1) λc A outer s H vs Q E J h=>by
  obtain⟨_,a,ns,rfl,L,u,l,B,q⟩:=h;obtain⟨t,U,h1,h2,M⟩:=o c A outer s H E J;have j:bA K H [.lst (ns.map D.int)] [.ref a]:=⟨_,_,rfl,⟨a,_,rfl,L,h_.mpr rfl⟩,rfl⟩
  refine⟨t,h1,h2 H H u H H (start N [.ref a]) (du N [.lst (ns.map .int)]) {nx:=λ_=>False,rt:=λr=>r = .fz (.bl true)} _ ⟨_,e_ (a6.refl H) j⟩ ⟨λO C Y δ e p=>p.elim,λ_ _ _ _ _ z=>z.elim,λ_ _ _ _ _ z=>z.elim,λO C r v x n p=>?_⟩ (M ns l B)⟩;subst p;obtain⟨A,G,_⟩:=n;have:v = .bl true:=G.2;subst this;exact q C (x.hh _ _ u.1) (x.hh _ _ u.2)
theorem W' {P:AA}{w:AT}{K:Ap}{m:Al->Option Aa}{x:Al}{st:AZ}{f T T':Ac}{fd:Ak}{k:Nat}{sp:Sp}(a:bL K m x st f fd)(h:∀(s:Af) (v:Aa),FC s fd ⟨[v],[]⟩ [("_law_script",v)])(hc:∀base:Heap,K.In base->base.Ns Am m->base.BuiltinsAt m T->base.BuiltinsAt m T'->fK P w K m base jh k f fd ["_law_script"] sp):
  ∃fd:Ak,(∀(s:Af) (v:Aa),FC s fd ⟨[v],[]⟩ [("_law_script",v)])/\∀base:Heap,K.In base->base.Ns Am m->base.BuiltinsAt m T->base.BuiltinsAt m T'->fK P w K m base jh k f fd ["_law_script"] sp:=⟨fd,h,hc⟩
end L2
namespace Lw
open PySem L2 PyProof.Rows
noncomputable def top (i:Nat):AZ:=PySem.Challenge.pw_liftwave_k44_whole_no_better.main.body.getD i (.Pass ⟨0,0,0,0⟩)
noncomputable abbrev vD (d:D):Option Sl:=some (.own (.fz d))
noncomputable abbrev vI (i:Int):Option Sl:=some (.own (.fz (.int i)))
noncomputable abbrev vL (ts:List OV):Option Sl:=some (.own (.nl ts))
theorem bl1{us:List Aa}(h:us.length=1):∃y0,us=[y0]:=match us,h with|[y0],_=>⟨y0,rfl⟩
theorem bl2{us:List Aa}(h:us.length=2):∃y0 y1,us=[y0,y1]:=match us,h with|[y0,y1],_=>⟨y0,y1,rfl⟩
theorem bl3{us:List Aa}(h:us.length=3):∃y0 y1 y2,us=[y0,y1,y2]:=match us,h with|[y0,y1,y2],_=>⟨y0,y1,y2,rfl⟩
theorem bl4{us:List Aa}(h:us.length=4):∃y0 y1 y2 y3,us=[y0,y1,y2,y3]:=match us,h with|[y0,y1,y2,y3],_=>⟨y0,y1,y2,y3,rfl⟩
theorem bl5{us:List Aa}(h:us.length=5):∃y0 y1 y2 y3 y4,us=[y0,y1,y2,y3,y4]:=match us,h with|[y0,y1,y2,y3,y4],_=>⟨y0,y1,y2,y3,y4,rfl⟩
set_option hygiene false
local macro_rules | `(tactic|walk_at "b")=>`(tactic| (intro _ _ _ _ _ _ us hl;first | (obtain⟨y0,rfl⟩:=bl1 hl;rfl) | (obtain⟨y0,y1,rfl⟩:=bl2 hl;rfl) | (obtain⟨y0,y1,y2,rfl⟩:=bl3 hl;rfl) | (obtain⟨y0,y1,y2,y3,rfl⟩:=bl4 hl;rfl) | (obtain⟨y0,y1,y2,y3,y4,rfl⟩:=bl5 hl;rfl)))
local macro_rules | `(tactic|walk_at "S")=>`(tactic|exact⟨rfl,rfl,rfl,by decide +kernel,rfl,by decide +kernel,by decide +kernel⟩)
local macro_rules | `(tactic|fin2)=>`(tactic|simp only[ZG,yp,vD,vI,vL,du,U2,Pc,PK,U3,SS,Pj,Ê,SM,YC,YD,Wu,Yy,PL,PM,Wt,Wq,Pp,VF,SY,gN,tx,m7,gT,ZF,zi,Ŝ,dV,dB,dC,Ù,Ř,î,WC,P5,WD,WA,WB,P0,D.LI,Ø,Zz,ZJ,ś,ŝ,VP,VH,RC,Rx,tK,VJ,Rz,XA,ZA,ü,û,ş,ZI,W_,W9,W5,XX,QV,VI,Ś,Zx,LZ,RE,ZE,ZC,VE,VD,Zy,zx,RB,Xl,Q4,XW,QP,VO,Zv,VA,LX,VM,V_,VN,VG,Rw,U0,VB,zk,U4,tL,zl,RD,zj,OV.MU,D.MU,vn,uF,iv,Wf,RA,VC,ZH,Pz,PD,PF,PH,v9,Ry,LY,eQ,xl,VL,Zw,ZD,OV.val,OV.vals,OV.c4,D.lf,D.jj,OV.lf,OV.jj,BJ,Je,CM,Fg,AR,Dh,An,Ft,Nat.reduceSub,Nat.reduceLeDiff,GF,BN,C5,CD,Er,EZ,Cq,Fs,true_and,and_true,if_true,if_false,C6,Au,decide_eq_true_eq,J3,Sl.own.injEq,OV.ob.injEq,exists_eq_left',Sg,Xu,SI,UC,Z',NV,X6,Int.reduceLT,Int.reduceLE,Int.reduceNeg,Int.reducePow,Int.reduceToNat,Int.reduceAdd,Int.reduceSub,true_or,or_true,YU,Xd,T2,Q2,T1,Hj,decide_true,Bool.or_self,IN,Bool.not_not,ne_eq,not_true,zy,XS,XR,XQ,XO,beq_self_eq_true,Jg,Bool.or_true])
local macro_rules | `(tactic|gn_on)=>`(tactic| (refine Pb λN hN=>?_;fin2))
local macro_rules | `(tactic|gp_on)=>`(tactic| (refine hN _ ?_;clear hN;clear N))
set_option hygiene true
section
variable (P:AA)(w:AT){K:Ap}{mg:Al->Option Aa}(base:Heap)
seal L2.PA L2.PE L2.PS L2.PSs L2.PT L2.PW L2.PG L2.PGs L2.PO L2.PI
noncomputable def iZ (b:Bool):Al:=if b then "1" else "0"
theorem mn (b:Bool):(iZ b).length=1:=by cases b<;>rfl
theorem xj {c:Type}:∀l:List c,(AE l.length).filterMap (λk=>l[k]?)=l
 | []=>rfl
 |a::l=>by
  rw[AR,GI,EA];simp only[GF];rw[Fv];have e:((λk=>(a::l)[k]?)∘Nat.succ)=λk=>l[k]?:=by funext k;simp
  rw[e,xj l]
theorem Ra {n i:Nat}(h:i<=n):Cg (some (i:Int)) none 1 n=(AE (n-i)).map λk=>i+k:=by
 unfold Cg Db;have a:¬ ((i:Int)<0):=by lia
 simp only[a,if_false,show (1:Int) > 0 by decide,if_true];have e:max 0 (min (i:Int) (n:Int))=(i:Int):=by lia
 rw[e];have c:(if (i:Int)<(n:Int) then ((n:Int)-(i:Int)+1-1) / 1 else 0).toNat=n-i:=by
  split
  .rw [Jx];(clear h a;lia)
  .lia
 rw[c];refine B8 λk _=>?_
 clear h a;lia
theorem Ov (x:Al){i:Nat}(h:i<=x.length):Dx x (some (i:Int)) none=⟨(x.cps.toList.drop i).toArray⟩:=by
 have e:((AE (x.length-i)).map λk=>i+k).filterMap (x.cps[·]?)=x.cps.toList.drop i:=by
  rw[Fv];have:=xj (x.cps.toList.drop i);rw[DX]at this;rw[<- this];refine congrArg (λg=>List.filterMap g _) (funext λk=>?_);simp
 unfold Dx;rw[Ra h];split
 .rename_i c;have hi:i=0:=by simp at c;lia
  subst hi;simp
 .rw [e]
noncomputable def dd (bs:List Bool):Al:=FH "" (bs.map iZ)
theorem Sr:(Bp "")=⟨#[]⟩:=by decide +kernel
theorem iu (b:Bool)(bs:List Bool):dd (b::bs)=iZ b++dd bs:=by
 unfold dd;rw[show ∀l,FH (Bp "") l=IG (Bp "") l from λl=>PySem.StrLaws.glued_eq_join _ l,show ∀l,FH (Bp "") l=IG (Bp "") l from λl=>PySem.StrLaws.glued_eq_join _ l]
 cases bs with
 |nil=>exact (HZ _).symm
 |cons c C=>
  show iZ b++Bp ""++IG (Bp "") (iZ c::C.map iZ)=_
  rw[Sr,show (iZ b++(⟨#[]⟩:Al))=iZ b from HZ _];rfl
theorem L5 (x y:Al):(x++y).length=x.length+y.length:=by
 show (x.cps++y.cps).size=_
 rw[Gy];rfl
theorem c0:∀bs:List Bool,(dd bs).length=bs.length
 | []=>rfl
 |b::bs=>by rw[iu,L5,c0 bs,mn,AR];lia
theorem sx:∀(as bs:List Bool),dd (as++bs)=dd as++dd bs
 | [],bs=>(Str.empty_append _).symm
 |a::as,bs=>by rw[CM,iu,sx as bs,iu,Str.append_assoc]
theorem Yp (b:Bool)(t:Al):Dx (iZ b++t) (some 1) none=t:=by
 have e:(iZ b).cps.toList.length=1:=mn b;rw[show (some (1:Int))=some ((1:Nat):Int) from rfl,Ov _ (by rw[L5,mn];lia)];show (⟨(((iZ b).cps++t.cps).toList.drop 1).toArray⟩:Al)=t
 rw[FP,List.drop_append_of_le_length (by rw[e];lia),List.drop_of_length_le (by rw[e];lia),Fg]
theorem OZ (x y:Al):uk (x++y)=uk x++uk y:=by
 show (x.cps++y.cps).toList.map _=_
 rw[FP,A_];rfl
theorem OY (b:Bool):uk (iZ b)=[iZ b]:=by cases b<;>decide +kernel
theorem pI:∀bs:List Bool,uk (dd bs)=bs.map iZ
 | []=>rfl
 |b::bs=>by rw[iu,OZ,OY,pI bs];rfl
theorem RT (b:Bool):decide (iZ b=Bp "1")=b:=by cases b<;>decide +kernel
theorem Xm {n i:Nat}(h:i<=n):Cg none (some (i:Int)) 1 n=AE i:=by
 unfold Cg Db;have a:¬ ((i:Int)<0):=by lia
 simp only[a,if_false,show (1:Int) > 0 by decide,if_true];have e:max 0 (min (i:Int) (n:Int))=(i:Int):=by lia
 rw[e];have c:(if (0:Int)<(i:Int) then ((i:Int)-0+1-1) / 1 else 0).toNat=i:=by
  split
  .rw [Jx];(clear h a;lia)
  .clear h a;lia
 rw[c];refine Ep λk=>?_
 by_cases f:k<i
 .simp
 .simp
theorem Uj {a:Type}(l:List a){i:Nat}(h:i<=l.length):(AE i).filterMap (λk=>l[k]?)=l.take i:=by
 have e:∀n:Nat,n<=l.length->(AE n).filterMap (λk=>l[k]?)=l.take n:=by
  intro n
  induction n with
  |zero=>intro _;simp
  |succ n c=>
   intro hn;rw[Ez,List.filterMap_append,c (by lia),Fd];simp[Ad (show n<l.length by lia)]
 exact e i h
theorem V2 (x:Al){i:Nat}(h:i<=x.length):Dx x none (some (i:Int))=⟨(x.cps.toList.take i).toArray⟩:=by
 have e:(AE i).filterMap (x.cps[·]?)=x.cps.toList.take i:=by
  rw[<- Uj x.cps.toList (show i<=x.cps.toList.length by rw[DR];exact h)];simp
 unfold Dx;rw[Xm h];split
 .rename_i c;have hi:i=x.length:=by simpa using c
  rw[hi,show x.length=x.cps.toList.length by simp;rfl,BC]
 .rw [e]
theorem OL (bs:List Bool){i:Nat}(h:i<=bs.length):Dx (dd bs) none (some (i:Int))=dd (bs.take i):=by
 rw[V2 _ (by rw[c0];exact h)];have e:dd bs=dd (bs.take i)++dd (bs.drop i):=by rw[<- sx,CS]
 have hl:(dd (bs.take i)).cps.toList.length=i:=by
  have:=c0 (bs.take i);rw[BD,Ge h]at this;exact this
 rw[e];show (⟨(((dd (bs.take i)).cps++(dd (bs.drop i)).cps).toList.take i).toArray⟩:Al)=_
 rw[FP,List.take_append_of_le_length (by lia),BI (by lia)]
noncomputable def bD:List Al:=["plane","used","row_ends","walked","ahead"]
structure Pa where
 a:Int
 s:Int
 e:Int
 lo:Int
 hi:Int
noncomputable def Pa.d (p:Pa):D:=.tup [.int p.a,.int p.s,.int p.e,.tup [.int p.lo,.int p.hi]]
structure Wk where
 pl:Int
 us:Int
 re:List Int
 wk:List Pa
 ah:List Pa
noncomputable def Wk.ts (w:Wk):List OV:=[.fz (.int w.pl),.fz (.int w.us),.nl (w.re.map λi=>.fz (.int i)),.nl (w.wk.map λp=>.fz p.d),.nl (w.ah.map λp=>.fz p.d)]
noncomputable def Wk.turn (w:Wk):Wk:=if w.pl-1>=0 then {w with pl:=w.pl-1,ah:=w.wk.reverse,wk:=[]} else {w with pl:=w.pl-1}
noncomputable def Wk.wake (w:Wk)(p:Pa):Wk:=if p.e-p.s=1 then {w with ah:=w.ah++[⟨2,p.s,p.e,p.lo,p.hi⟩]} else {w with ah:=w.ah++[⟨0,(p.s+p.e) / 2,p.e,p.lo,p.hi⟩,⟨1,p.s,(p.s+p.e) / 2,p.lo,p.hi⟩]}
def Wk.fits (w:Wk):Prop:=w.re.length<900000/\w.wk.length<900000/\w.ah.length<900000
def jv:dF:=λds P=>∃p:Pa,ds=[p.d]/\P (.fz (.bl (decide (p.e-p.s=1))))
def iz:dF:=λds P=>∃n:Nat,ds=[.int n]/\n<=5000/\P (.fz (.tup [.int (1-2^n),.int (2^n-1)]))
def ju:dF:=λds P=>∃(n:Nat) (b:Bool),ds=[.int n,.bl b]/\n<=5000/\P (.fz (if b then .tup [.int (1-2^n-2^n),.int (-2^n)] else .tup [.int (2^n),.int (2^n+2^n-1)]))
def i7:dF:=λds P=>∃(lo hi:Int) (n:Nat) (b:Bool),ds=[.tup [.int lo,.int hi],.int n,.bl b]/\n<=5000/\P (.fz (if b=decide (lo > 0) then .tup [.int (lo+2^n),.int hi] else .tup [.int lo,.int (hi-2^n)]))
def iB:o9:=λts ds P=>∃w:Wk,ts=w.ts/\w.wk.length<=1000000/\ds=[]/\P w.turn.ts
def fc:o9:=λts ds P=>∃(m:Int) (n:Nat),ts=[]/\ds=[.int m,.int n]/\n<=5000/\P (Wk.turn ⟨n,0,[],[⟨0,0,m,1-2^n,2^n-1⟩],[]⟩).ts
def f7:o9:=λts ds P=>∃(w:Wk) (p:Pa) (lo hi:Int),ts=w.ts/\w.wk.length<1000000/\ds=[p.d,.tup [.int lo,.int hi]]/\P {w with wk:=w.wk++[⟨3,p.s,p.e,lo,hi⟩]:Wk}.ts
def iA:o9:=λts ds P=>∃(w:Wk) (p:Pa),ts=w.ts/\w.ah.length<900000/\ds=[p.d]/\P (w.wake p).ts
def d7:dF:=λds P=>∃w:Wk,ds=[.obj "Walk" bD (OV.vals w.ts)]/\P (.fz (.bl (decide (w.pl<0))))
noncomputable def Wk.walked (w:Wk)(p:Pa):Wk:={w with wk:=w.wk++[p]}
noncomputable def Wk.calm (w:Wk)(p:Pa):Wk:=if p.a=1 then {w.walked ⟨0,p.s,p.e,1-2^w.pl.toNat,2^w.pl.toNat-1⟩ with ah:=w.ah.dropLast:Wk}.wake (w.ah.getLastD p) else w.walked ⟨0,p.s,p.e,1-2^w.pl.toNat,2^w.pl.toNat-1⟩
noncomputable def Pa.bG (p:Pa)(n:Nat)(b:Bool):Pa:=if b=decide (p.lo > 0) then ⟨3,p.s,p.e,p.lo+2^n,p.hi⟩ else ⟨3,p.s,p.e,p.lo,p.hi-2^n⟩
noncomputable def Pa.signed (p:Pa)(n:Nat)(b:Bool):Pa:=if b then ⟨3,p.s,p.e,1-2^n-2^n,-2^n⟩ else ⟨3,p.s,p.e,2^n,2^n+2^n-1⟩
noncomputable def Wk.step (w:Wk)(ah:List Pa)(p:Pa)(b:Bool):Wk:=
 if p.a=3 then {w with us:=w.us+1,ah:=ah,wk:=w.wk++[p.bG w.pl.toNat b]} else if p.a=2 then {w with us:=w.us+1,ah:=ah,wk:=w.wk++[p.signed w.pl.toNat b]}
 else if b then Wk.wake {w with us:=w.us+1,ah:=ah} p else Wk.calm {w with us:=w.us+1,ah:=ah} p
noncomputable def Wk.dy (w:Wk):Wk:=if w.ah=[] then Wk.turn {w with re:=w.re++[w.us]} else w
def lJ:o9:=λts ds P=>∃(w:Wk) (p:Pa),ts=w.ts/\(w.wk.length<1000000/\w.ah.length<900000)/\ds=[p.d]/\0<=w.pl/\w.pl<=5000/\(p.a=1->w.ah≠[])/\P (w.calm p).ts
def iC:o9:=λts ds P=>∃(w:Wk) (ah:List Pa) (p:Pa) (b:Bool),ts=w.ts/\w.fits/\ds=[.bl b]/\w.ah=ah++[p]/\0<=w.pl/\w.pl<=5000/\(p.a=1->b=false->ah≠[])/\P ((w.step ah p b).dy).ts
theorem tY (n:Nat):(1:Int)*2^((n:Int).toNat)=2^n:=by rw[Jf,AQ]
theorem pH {n:Nat}(h:n<=5000):0<=(n:Int)/\(n:Int)<=1000000/\J4 1<2^64:=⟨by lia,by lia,by decide⟩
theorem oQ (ps:List Pa):(ps.map λp=>OV.fz p.d).map OV.val=ps.map Pa.d:=by rw[A9];rfl
theorem uR (ps:List Pa):D.jj (ps.map Pa.d)=true:=by
 rw[D.j4];simp[Pa.d,D.lf,D.jj]
theorem Vg (p:Pa):p.d.lf=true:=by simp[Pa.d,D.lf,D.jj]
theorem WO (ps:List Pa):BA OV.fz (ps.map Pa.d).reverse=ps.reverse.map λp=>OV.fz p.d:=by rw[<- Ct,A9];rfl
theorem WQ (ps:List Pa)(p:Pa):(ps.map λp=>OV.fz p.d)++[OV.fz p.d]=(ps++[p]).map λp=>OV.fz p.d:=by simp
theorem lV (ps:List Pa)(a s e lo hi:Int):(ps.map λp=>OV.fz p.d)++[OV.fz (.tup [.int a,.int s,.int e,.tup [.int lo,.int hi]])]=(ps++[(⟨a,s,e,lo,hi⟩:Pa)]).map λ(p:Pa)=>OV.fz p.d:=WQ ps ⟨a,s,e,lo,hi⟩
theorem mN (p:Pa):p.d = .tup [.int p.a,.int p.s,.int p.e,.tup [.int p.lo,.int p.hi]]:=rfl
noncomputable abbrev g_:AZ:=top 54
theorem pL:aQ ["part"] ["part"] (aB g_):=by walk_at "S"
noncomputable abbrev jM:AZ:=top 55
theorem uw:aQ ["plane"] ["plane"] (aB jM):=by walk_at "S"
noncomputable abbrev gZ:AZ:=top 56
theorem jC:aQ ["plane","below","least"] ["plane","below"] (aB gZ):=by walk_at "S"
noncomputable abbrev gg:AZ:=top 57
theorem og:aQ ["span","plane","figure"] ["span","plane","figure"] (aB gg):=by walk_at "S"
noncomputable abbrev jO:AZ:=dA (top 58) 1
theorem ux:aQ ["self"] ["self"] (aB jO):=by walk_at "S"
noncomputable abbrev fC:AZ:=dA (top 58) 0
theorem mI:aQ ["self","many","planes"] ["self","many","planes"] (aB fC):=by walk_at "S"
noncomputable abbrev eU:AZ:=dA (top 58) 7
theorem k6:aQ ["self","part","span"] ["self","part","span"] (aB eU):=by walk_at "S"
noncomputable abbrev jN:AZ:=dA (top 58) 8
theorem lN:aQ ["self","part","middle"] ["self","part"] (aB jN):=by walk_at "S"
noncomputable abbrev fB:AZ:=dA (top 58) 2
theorem mH:aQ ["self"] ["self"] (aB fB):=by walk_at "S"
noncomputable abbrev jQ:AZ:=dA (top 58) 9
theorem uy:aQ ["self","part"] ["self","part"] (aB jQ):=by walk_at "S"
noncomputable abbrev jP:AZ:=dA (top 58) 6
theorem lO:aQ ["self","told","part"] ["self","told"] (aB jP):=by walk_at "S"
theorem ql {f:Ac}{fd:Ak}(e:bL K mg "part_of_one" g_ f fd)(B:b9 mg)(KV:bZ K)(a:∃t,mg "END_walks"=some (.int 2 t))(g:∃t,mg "START_walks"=some (.int 1 t)):
  cg P w K mg base "part_of_one" 1 ["part"] (b7 K 1 jv):=by
 refine cZ.of e pL (by walk_at "b") rfl (λc A o s H E r=>⟨_,_,(aH (aX (eD gw (aV di (aR aS (pv 0) (aN (by rfl) a) (λ_ _=>rfl)) (aR aS (pv 0) (aN (by rfl) g) (λ_ _=>rfl))) aK (bJ _)))),
  (a_ (br (aP gL (aM (aP bU (bx (dm.b aU) aC (aM aF)) (bx (dm.b aU) aC (aM aF)))) (aM aF)))),?_⟩)
 rintro ds j ⟨p,rfl,h⟩;unfold Pa.d;fin2;exact h
theorem uZ {f:Ac}{fd:Ak}(a:bL K mg "calm_span" jM f fd)(B:b9 mg)(KV:bZ K):
  cg P w K mg base "calm_span" 1 ["plane"] (b7 K 1 iz):=by
 refine cZ.of a uw (by walk_at "b") rfl (λc A o s H E r=>⟨_,_,(aH (aX (cb (ae (aV di aK (aV gu aK (pv 0))) (ae (aV di (aV gu aK (pv 0)) aK) aD))))),
  (a_ (br (cD (aA (aP bU (aM aF) (aM (aP cG (aM aF) aC))) (aA (aP bU (aM (aP cG (aM aF) aC)) (aM aF)) aJ))))),?_⟩)
 rintro ds e ⟨n,rfl,hn,h⟩;fin2;refine⟨pH hn,pH hn,?_⟩;rw[tY];exact h
theorem qk {f:Ac}{fd:Ak}(a:bL K mg "signed_span" gZ f fd)(B:b9 mg)(KV:bZ K)(l:kK K mg "least"):
  cg P w K mg base "signed_span" 1 ["plane","below"] (b7 K 2 ju):=by
 refine cZ.of a jC (by walk_at "b") rfl (λc A o s H E r=>⟨_,_,(aG (bp (i:=2) jC.nd rfl (Ar rfl) (aV gu aK (pv 0)))
   (aG (cu (cQ (pv 1)) (aH (aX (cb (ae (aV di (aV di aK (pv 2)) (pv 2)) (ae (Qc xR (pv 2)) aD))))) bM)
   (aH (aX (cb (ae (pv 2) (ae (aV di (aV cq (pv 2) (pv 2)) aK) aD))))))),
  (aT (bB (br (aP cG (aM aF) aC)))
   (aT (cz (gk aE) (a_ (br (cD (aA (aP bU (aM (aP bU (aM aF) aC)) aC) (aA (yo aC) aJ))))) bP)
   (a_ (br (cD (aA aE (aA (aP bU (aM (aP bU aC aC)) (aM aF)) aJ))))))),?_⟩)
 rintro ds e ⟨n,b,rfl,hn,h⟩;fin2;refine⟨pH hn,?_⟩;rw[tY]
 cases b with
 |true=>rw[if_pos rfl]at h ⊢;exact h
 |false=>rw[if_neg (by decide)]at h ⊢;exact h
theorem oj {f:Ac}{fd:Ak}(a:bL K mg "figured_span" gg f fd)(B:b9 mg)(KV:bZ K):
  cg P w K mg base "figured_span" 1 ["span","plane","figure"] (b7 K 3 i7):=by
 refine cZ.of a og (by walk_at "b") rfl (λc A o s H E r=>⟨_,_,(aG (cu (bQ gw (pv 2) (eD nL (aR aS (pv 0) aK (λ_ _=>rfl)) aK (bJ _)) (bJ _)) (aH (aX (cb (ae (aV cq (aR aS (pv 0) aK (λ_ _=>rfl)) (aV gu aK (pv 1))) (ae (aR aS (pv 0) aK (λ_ _=>rfl)) aD))))) bM)
   (aH (aX (cb (ae (aR aS (pv 0) aK (λ_ _=>rfl)) (ae (aV di (aR aS (pv 0) aK (λ_ _=>rfl)) (aV gu aK (pv 1))) aD)))))),
  (aT (cz (bO (aP gL aC (aM (aP dq (bx (dm.b aU) aC (aM aF)) (aM aF))))) (a_ (br (cD (aA (aP bU (bx (dm.b aU) aC (aM aF)) (aM (aP cG (aM aF) aC))) (aA (bF aU aE aF) aJ))))) bP)
   (a_ (br (cD (aA (bF aU aE aF) (aA (aP bU (bx (dm.b aU) aC (aM aF)) (aM (aP cG (aM aF) aC))) aJ)))))),?_⟩)
 rintro ds e ⟨lo,hi,n,b,rfl,hn,h⟩;fin2;rw[tY];split at h
 .rename_i c;rw[if_pos c];exact⟨pH hn,h⟩
 .rename_i c;rw[if_neg c];exact⟨pH hn,h⟩
theorem u3 {f:Ac}{fd:Ak}(e:e7 K "Walk" "turn" "Walk.turn" jO f fd)(B:b9 mg)(KV:bZ K)(C:dE K "Walk" bD):
  cS P w K mg base "Walk" "turn" 1 ["self"] (pF K 1 "Walk" bD iB):=by
 refine cS.of e ux (by walk_at "b") rfl (λc A o s H E r=>⟨_,_,(aG (ic (pv 0) aK yX)
   (aH (cu (bQ Ln (ck (pv 0) rfl) aK (bJ _)) (aG (gp (pv 0) (qg rfl B.list rfl B.reversed (ae (ck (pv 0) rfl) aD)) rfl)
   (aH (gp (pv 0) (c8 aD) rfl))) bM))),
  (aT (lR (j:=0) (g:=λx y=>x-y) C (by rfl) (λx y H Q q=>⟨_,_,rfl,rfl,q⟩) (aM aF))
   (cz (bO (aP dq (cV (j:=0) C (by rfl) aC) (aM aF))) (aT (K6 (j:=4) C (by rfl) (pU (aI (cV (j:=3) C (by rfl) aC) aO)))
   (K6 (j:=3) C (by rfl) (d3 c7))) bP)),?_⟩)
 rintro a ts ds k ⟨w,rfl,hf,rfl,h⟩;unfold Wk.ts;fin2;rw[oQ,WO];unfold Wk.turn at h;split at h
 .rename_i c;rw[if_pos c];exact⟨by decide,uR _,hf,by decide,h⟩
 .rename_i c;rw[if_neg c];exact h
theorem mU {f:Ac}{fd:Ak}(e:NT K "__init__" "Walk.__init__" fC f fd)(M:xH K mg "Walk" f)(B:b9 mg)(KV:bZ K)(C:dE K "Walk" bD)(g:∃t,mg "WAKING"=some (.int 0 t))(l:cg P w K mg base "calm_span" 1 ["plane"] (b7 K 1 iz))(k:cS P w K mg base "Walk" "turn" 1 ["self"] (pF K 1 "Walk" bD iB)):
  sk P w K mg base "Walk" 2 ["self","many","planes"] (pF K 3 "Walk" bD fc):=by
 refine sk.of e M mI (by walk_at "b") rfl (λc A o s H E r=>⟨_,_,(aG (gp (pv 0) (pv 2) rfl)
   (aG (gp (pv 0) aK rfl)
   (aG (gp (pv 0) (c8 aD) rfl)
   (aG (gp (pv 0) (c8 (ae (cb (ae (aN (by rfl) g) (ae aK (ae (pv 1) (ae (aZ l (r.mono (by decide)) (by rfl) (ae (pv 2) aD)) aD))))) aD)) rfl)
   (aG (gp (pv 0) (c8 aD) rfl)
   (aH (bR (eY k (r.mono (by decide)) (pv 0))))))))),
  (aT (fV (j:=0) C (by rfl) (br aE))
   (aT (fV (j:=1) C (by rfl) (br aF))
   (aT (fV (j:=2) C (by rfl) (d3 c7))
   (aT (fV (j:=3) C (by rfl) (d3 (ey (br (cD (aA aF (aA aF (aA aE (aA (bX (aY (aA aE aJ))) aJ)))))) c7)))
   (aT (fV (j:=4) C (by rfl) (d3 c7))
   (fU C (by decide +kernel) aJ)))))),?_⟩)
 rintro a ts ds p ⟨m,n,rfl,rfl,hn,h⟩;fin2;refine⟨n,rfl,hn,?_⟩;fin2;refine⟨⟨n,0,[],[⟨0,0,m,1-2^n,2^n-1⟩],[]⟩,rfl,(by show 1<=1000000;decide),rfl,?_⟩;exact h
theorem lh {f:Ac}{fd:Ak}(e:e7 K "Walk" "walk_awake" "Walk.walk_awake" eU f fd)(B:b9 mg)(KV:bZ K)(C:dE K "Walk" bD)(G:∃t,mg "FIGURE"=some (.int 3 t))(g:∃t,mg "START_walks"=some (.int 1 t))(l:∃t,mg "END_walks"=some (.int 2 t)):
  cS P w K mg base "Walk" "walk_awake" 1 ["self","part","span"] (pF K 3 "Walk" bD f7):=by
 refine cS.of e k6 (by walk_at "b") rfl (λc A o s H E r=>⟨_,_,(aH (bR (gs Bd PySem.F.slot_list_append PySem.F.type_list_append dj (ck (pv 0) rfl) (ae (cb (ae (aN (by rfl) G) (ae (aR aS (pv 1) (aN (by rfl) g) (λ_ _=>rfl)) (ae (aR aS (pv 1) (aN (by rfl) l) (λ_ _=>rfl)) (ae (pv 2) aD))))) aD)))),
  (kh (j:=3) C (by rfl) (br (cD (aA aF (aA (bF aU aE aF) (aA (bF aU aE aF) (aA aE aJ))))))),?_⟩)
 rintro a ts ds k ⟨w,p,lo,hi,rfl,hf,rfl,h⟩;rw[mN];unfold Wk.ts;fin2;rw[lV];exact⟨hf,h⟩
theorem u0 {f:Ac}{fd:Ak}(q:e7 K "Walk" "wake" "Walk.wake" jN f fd)(B:b9 mg)(KV:bZ K)(C:dE K "Walk" bD)(m:∃t,mg "SIGN"=some (.int 2 t))(k:∃t,mg "WAKING"=some (.int 0 t))(G:∃t,mg "WAKING_FIRST"=some (.int 1 t))(g:∃t,mg "START_walks"=some (.int 1 t))(l:∃t,mg "END_walks"=some (.int 2 t))(e:∃t,mg "SPAN"=some (.int 3 t))(r:cg P w K mg base "part_of_one" 1 ["part"] (b7 K 1 jv)):
  cS P w K mg base "Walk" "wake" 2 ["self","part"] (pF K 2 "Walk" bD iA):=by
 refine cS.of q lN (by walk_at "b") rfl (λc A o s H E n=>⟨_,_,(aH (cu (cQ (aZ r (n.mono (by decide)) (by rfl) (ae (pv 1) aD))) (aH (bR (gs Bd PySem.F.slot_list_append PySem.F.type_list_append dj (ck (pv 0) rfl) (ae (cb (ae (aN (by rfl) m) (ae (aR aS (pv 1) (aN (by rfl) g) (λ_ _=>rfl)) (ae (aR aS (pv 1) (aN (by rfl) l) (λ_ _=>rfl)) (ae (aR aS (pv 1) (aN (by rfl) e) (λ_ _=>rfl)) aD))))) aD)))) (aG (bp (i:=2) lN.nd rfl (Ar rfl) (aV eZ (aV cq (aR aS (pv 1) (aN (by rfl) g) (λ_ _=>rfl)) (aR aS (pv 1) (aN (by rfl) l) (λ_ _=>rfl))) aK))
   (aG (bR (gs Bd PySem.F.slot_list_append PySem.F.type_list_append dj (ck (pv 0) rfl) (ae (cb (ae (aN (by rfl) k) (ae (pv 2) (ae (aR aS (pv 1) (aN (by rfl) l) (λ_ _=>rfl)) (ae (aR aS (pv 1) (aN (by rfl) e) (λ_ _=>rfl)) aD))))) aD)))
   (aH (bR (gs Bd PySem.F.slot_list_append PySem.F.type_list_append dj (ck (pv 0) rfl) (ae (cb (ae (aN (by rfl) G) (ae (aR aS (pv 1) (aN (by rfl) g) (λ_ _=>rfl)) (ae (pv 2) (ae (aR aS (pv 1) (aN (by rfl) e) (λ_ _=>rfl)) aD))))) aD)))))))),
  (cz (gk (bX (aY (aA aE aJ)))) (kh (j:=4) C (by rfl) (br (cD (aA aF (aA (bF aU aE aF) (aA (bF aU aE aF) (aA (bF aU aE aF) aJ))))))) (aT (bB (br (aP cG (aM (aP bU (bx (dm.b aU) aC (aM aF)) (bx (dm.b aU) aC (aM aF)))) (aM aF))))
   (aT (kh (j:=4) C (by rfl) (br (cD (aA aF (aA aE (aA (bF aU aE aF) (aA (bF aU aE aF) aJ)))))))
   (kh (j:=4) C (by rfl) (br (cD (aA aF (aA (bF aU aE aF) (aA aE (aA (bF aU aE aF) aJ)))))))))),?_⟩)
 rintro a ts ds u ⟨w,p,rfl,hf,rfl,h⟩;rw[mN];unfold Wk.ts;fin2;refine⟨p,rfl,?_⟩;have hl:=hf;unfold Wk.wake at h;fin2;split at h
 .rename_i c;rw[if_pos c,lV];exact⟨by lia,h⟩
 .rename_i c;rw[if_neg c,lV,lV];refine⟨by lia,by simp;lia,?_⟩;rw[Cf];exact h
theorem mT {f:Ac}{fd:Ak}(a:e7 K "Walk" "is_whole" "Walk.is_whole" fB f fd)(B:b9 mg)(KV:bZ K)(C:dE K "Walk" bD):
  cS P w K mg base "Walk" "is_whole" 1 ["self"] (b7 K 1 d7):=by
 refine UL.of a mH (by walk_at "b") rfl (λc A o s H E r=>⟨_,_,(aH (aX (eD jX (ck (pv 0) rfl) aK (bJ _)))),
  (a_ (br (aP dq (cV (j:=0) C (by rfl) aC) (aM aF)))),?_⟩)
 rintro ds e ⟨w,rfl,h⟩;unfold Wk.ts;fin2;exact h
theorem u5 {f:Ac}{fd:Ak}(v:e7 K "Walk" "calm" "Walk.calm" jQ f fd)(B:b9 mg)(KV:bZ K)(C:dE K "Walk" bD)(g:∃t,mg "WAKING_FIRST"=some (.int 1 t))(G:∃t,mg "WAKING"=some (.int 0 t))(n:∃t,mg "ASKS"=some (.int 0 t))(T:∃t,mg "START_walks"=some (.int 1 t))(l:∃t,mg "END_walks"=some (.int 2 t))(m:cg P w K mg base "calm_span" 1 ["plane"] (b7 K 1 iz))(k:cS P w K mg base "Walk" "wake" 2 ["self","part"] (pF K 2 "Walk" bD iA)):
  cS P w K mg base "Walk" "calm" 3 ["self","part"] (pF K 2 "Walk" bD lJ):=by
 refine cS.of v uy (by walk_at "b") rfl (λc A o s H E u=>⟨_,_,(aG (bR (gs Bd PySem.F.slot_list_append PySem.F.type_list_append dj (ck (pv 0) rfl) (ae (cb (ae (aN (by rfl) G) (ae (aR aS (pv 1) (aN (by rfl) T) (λ_ _=>rfl)) (ae (aR aS (pv 1) (aN (by rfl) l) (λ_ _=>rfl)) (ae (aZ m (u.mono (by decide)) (by rfl) (ae (ck (pv 0) rfl) aD)) aD))))) aD)))
   (aH (cu (bQ gw (aR aS (pv 1) (aN (by rfl) n) (λ_ _=>rfl)) (aN (by rfl) g) (bJ _)) (aH (bR (ed k (u.mono (by decide)) (pv 0) (ae (yC Bd FO FN QO (ck (pv 0) rfl)) aD)))) bM))),
  (aT (kh (j:=3) C (by rfl) (br (cD (aA aF (aA (bF aU aE aF) (aA (bF aU aE aF) (aA (bX (eV (aI (cV (j:=0) C (by rfl) aC) aO))) aJ)))))))
   (cz (bO (aP gL (bx (dm.b aU) aC (aM aF)) (aM aF))) (yl (j:=4) C (by rfl) (by decide +kernel)) bP)),?_⟩)
 rintro a ts ds z ⟨w,p,rfl,hf,rfl,h1,h2,r,h⟩;rw[mN];unfold Wk.ts;fin2;refine⟨hf.1,w.pl.toNat,by rw[BW h1],by lia,?_⟩;fin2;rw[lV];unfold Wk.calm at h;split at h
 .rename_i c;rw[if_pos c];obtain⟨ah,q,e⟩:∃ah q,w.ah=ah++[q]:=⟨_,_,(BO (r c)).symm⟩
  rw[e]at h ⊢;rw[C9,CB]at h;unfold pV;fin2;refine⟨ah.map λp=>OV.fz p.d,q.d,by rw[A_];rfl,?_⟩;refine⟨{w.walked ⟨0,p.s,p.e,1-2^w.pl.toNat,2^w.pl.toNat-1⟩ with ah:=ah},q,rfl,?_,rfl,h⟩;have:=hf.2;rw[e,AF]at this;show ah.length<900000
  lia
 .rename_i c;rw[if_neg c];exact h
theorem u4 {f:Ac}{fd:Ak}(Df:e7 K "Walk" "take" "Walk.take" jP f fd)(B:b9 mg)(KV:bZ K)(C:dE K "Walk" bD)(U:∃t,mg "FIGURE"=some (.int 3 t))(G:∃t,mg "ASKS"=some (.int 0 t))(L:∃t,mg "SIGN"=some (.int 2 t))(J:∃t,mg "SPAN"=some (.int 3 t))(l:cS P w K mg base "Walk" "walk_awake" 1 ["self","part","span"] (pF K 3 "Walk" bD f7))(u:cg P w K mg base "figured_span" 1 ["span","plane","figure"] (b7 K 3 i7))(n:cg P w K mg base "signed_span" 1 ["plane","below"] (b7 K 2 ju))(k:cS P w K mg base "Walk" "wake" 2 ["self","part"] (pF K 2 "Walk" bD iA))(m:cS P w K mg base "Walk" "calm" 3 ["self","part"] (pF K 2 "Walk" bD lJ))(r:cS P w K mg base "Walk" "turn" 1 ["self"] (pF K 1 "Walk" bD iB)):
  cS P w K mg base "Walk" "take" 4 ["self","told"] (pF K 2 "Walk" bD iC):=by
 refine cS.of Df lO (by walk_at "b") rfl (λc A o s H E M=>⟨_,_,(aG (bp (i:=2) lO.nd rfl (Ar rfl) (yC Bd FO FN QO (ck (pv 0) rfl)))
   (aG (ic (pv 0) aK Q9)
   (aG (cu (bQ gw (aR aS (pv 2) (aN (by rfl) G) (λ_ _=>rfl)) (aN (by rfl) U) (bJ _)) (aH (bR (ed l (M.mono (by decide)) (pv 0) (ae (pv 2) (ae (aZ u (M.mono (by decide)) (by rfl) (ae (aR aS (pv 2) (aN (by rfl) J) (λ_ _=>rfl)) (ae (ck (pv 0) rfl) (ae (pv 1) aD)))) aD))))) (aH (cu (bQ gw (aR aS (pv 2) (aN (by rfl) G) (λ_ _=>rfl)) (aN (by rfl) L) (bJ _)) (aH (bR (ed l (M.mono (by decide)) (pv 0) (ae (pv 2) (ae (aZ n (M.mono (by decide)) (by rfl) (ae (ck (pv 0) rfl) (ae (pv 1) aD))) aD))))) (aH (cu (cQ (pv 1)) (aH (bR (ed k (M.mono (by decide)) (pv 0) (ae (pv 2) aD)))) (aH (bR (ed m (M.mono (by decide)) (pv 0) (ae (pv 2) aD)))))))))
   (aH (cu (eu (P6 (ck (pv 0) rfl) (λ_=>rfl))) (aG (bR (gs Bd PySem.F.slot_list_append PySem.F.type_list_append dj (ck (pv 0) rfl) (ae (ck (pv 0) rfl) aD)))
   (aH (bR (eY r (M.mono (by decide)) (pv 0))))) bM))))),
  (aT (SN (j:=4) C (by rfl))
   (aT (lR (j:=1) (g:=λx y=>x+y) C (by rfl) (λx y H Q q=>⟨_,_,rfl,rfl,q⟩) (aM aF))
   (aT (cz (bO (aP gL (bx (dm.b aU) aC (aM aF)) (aM aF))) (fU C (by decide +kernel) (aA aE (aA (bX (eV (aI (bx (dm.b aU) aC (aM aF)) (aI (cV (j:=0) C (by rfl) aC) (aI aC aO))))) aJ))) (cz (bO (aP gL (bx (dm.b aU) aC (aM aF)) (aM aF))) (fU C (by decide +kernel) (aA aE (aA (bX (eV (aI (cV (j:=0) C (by rfl) aC) (aI aC aO)))) aJ))) (cz (gk aE) (fU C (by decide +kernel) (aA aE aJ)) (fU C (by decide +kernel) (aA aE aJ)))))
   (cz (et (O' (cV (j:=4) C (by rfl) aC))) (aT (kh (j:=2) C (by rfl) (br (K' (cV (j:=1) C (by rfl) aC))))
   (fU C (by decide +kernel) aJ)) bP)))),?_⟩)
 rintro a ts ds Pr ⟨w,ah,p,b,rfl,hf,rfl,e,h1,h2,Ň,h⟩;unfold Wk.ts;gn_on;unfold PB;fin2;refine⟨ah.map λp=>OV.fz p.d,p.d,by rw[e,A_];rfl,?_⟩;gp_on;gn_on;gp_on;gn_on;rw[mN];fin2;have œ:ah.length<900000:=by
  have:=hf.2.2;rw[e,AF]at this;lia
 have hwk:w.wk.length<900000:=hf.2.1;have hre:w.re.length<900000:=hf.1;have ep:((w.pl.toNat:Nat):Int)=w.pl:=BW h1;have O:(w.step ah p b).wk.length<=w.wk.length+1/\(w.step ah p b).re=w.re:=by
  unfold Wk.step Wk.calm Wk.wake Wk.walked
  repeat (any_goals split)
  all_goals simp
 have fin:N [some (Sl.own (OV.ob (some a) (Bp "Walk") bD (w.step ah p b).ts)),some (Sl.own (OV.fz (D.bl b))),some (Sl.own (OV.fz (D.tup [D.int p.a,D.int p.s,D.int p.e,D.tup [D.int p.lo,D.int p.hi]])))]:=by
  gp_on;generalize w.step ah p b=v at h O ⊢;unfold Wk.ts;fin2;unfold Wk.dy at h;split at h
  .rename_i c;rw[if_pos (by rw[c];rfl)];exact⟨by rw[O.2];lia,{v with re:=v.re++[v.us]},rfl,by show v.wk.length<=1000000;lia,rfl,h⟩
  .rename_i c;rw[if_neg (by simpa using c)];exact h
 unfold Wk.step at fin;split
 .rename_i c;rw[if_pos c]at fin;refine⟨p.lo,p.hi,w.pl.toNat,b,by rw[ep],by lia,?_⟩;unfold Pa.bG at fin;by_cases T:b=decide (p.lo > 0)
  .simp only[if_pos T]at fin ⊢;exact⟨rfl,{w with us:=w.us+1,ah:=ah},p,_,_,rfl,by show w.wk.length<1000000;lia,rfl,fin⟩
  .simp only[if_neg T]at fin ⊢;exact⟨rfl,{w with us:=w.us+1,ah:=ah},p,_,_,rfl,by show w.wk.length<1000000;lia,rfl,fin⟩
 .rename_i c;rw[if_neg c]at fin;split
  .rename_i c2;rw[if_pos c2]at fin;refine⟨w.pl.toNat,b,by rw[ep],by lia,?_⟩;unfold Pa.signed at fin;by_cases T:b=true
   .simp only[if_pos T]at fin ⊢;exact⟨rfl,{w with us:=w.us+1,ah:=ah},p,_,_,rfl,by show w.wk.length<1000000;lia,rfl,fin⟩
   .simp only[if_neg T]at fin ⊢;exact⟨rfl,{w with us:=w.us+1,ah:=ah},p,_,_,rfl,by show w.wk.length<1000000;lia,rfl,fin⟩
  .rename_i c2;rw[if_neg c2]at fin;split
   .rename_i c3;rw[if_pos c3]at fin;exact⟨{w with us:=w.us+1,ah:=ah},p,rfl,œ,rfl,fin⟩
   .rename_i c3;rw[if_neg c3]at fin;exact⟨{w with us:=w.us+1,ah:=ah},p,rfl,⟨by show w.wk.length<1000000;lia,œ⟩,rfl,h1,h2,λz=>Ň z (by simpa using c3),fin⟩
noncomputable abbrev fS:AZ:=top 62
theorem rB:aQ ["some"] ["some"] (aB fS):=by walk_at "S"
def gU:dF:=λds P=>∃xs:List Int,ds=[.lst (xs.map .int)]/\xs.length<=1000000/\P (.nl (xs.map λx=>.fz (.int (iW x))))
theorem rK {f:Ac}{fd:Ak}(a:bL K mg "heights_of" fS f fd)(B:b9 mg)(KV:bZ K):
  cg P w K mg base "heights_of" 1 ["some"] (b7 K 1 gU):=by
 refine cZ.of a rB (by walk_at "b") rfl (λc A o s H E r=>⟨_,_,(aH (aX (eC rfl (df (pv 0)) (show bV (aB fS) _ from⟨rfl,by decide +kernel,by decide +kernel,by decide +kernel⟩) (N:=["number"]) (ix:=[none]) (show cT _ _ _ _ from trivial) (λ_ _ _=>(bt (i:=0) (show Bo (["number"]:List Al) by decide +kernel) rfl (Ar rfl))) (λ_ _ _=>(yC PySem.F.plainAttrs_int PySem.F.slot_int_bit_length PySem.F.type_int_bit_length TR (aW xq (by rfl) B.abs boot_abs (ae (pv 0) aD))))))),
  (a_ (dQ (dR aE) bu (br (S4 (aM (bT RP (aI aC aO))))))),?_⟩)
 rintro ds e ⟨xs,rfl,h,k⟩;fin2;refine gA.map xs D.int (λx=>.fz (.int (iW x))) h (λx _ Q q=>?_) k;fin2;rw[T6];exact q
noncomputable def fW (xs:List Int)(n:Int)(p:Pa):Bool:=
 if p.a=3 then decide ((xs.getD p.s.toNat 0).natAbs / 2^n.toNat%2=1) else if p.a=2 then decide (xs.getD p.s.toNat 0<0)
 else ((xs.drop p.s.toNat).take (p.e.toNat-p.s.toNat)).any λx=>decide (n<(iW x:Int))
def ZU (xs:List Int)(p:Pa):Prop:=0<=p.s/\p.s<p.e/\p.e<=(xs.length:Int)
theorem ZO (a:Nat):BS (a:Int) 1=((a%2:Nat):Int):=by
 unfold BS;rw[decide_eq_true (by lia:0<=(a:Int)),decide_eq_true (by lia:(0:Int)<=1)];rw[AQ,show (1:Int).toNat=1 from rfl,HF]
theorem NP (a k:Nat):BS ((a:Int) / 2^k) 1=((a / 2^k%2:Nat):Int):=by
 rw[<- ZO];congr 1
theorem Uq {xs:List D}{i j:Int}(h:0<=i)(h1:i<=j)(h2:j<=(xs.length:Int)):L2.cutD xs (some i) (some j)=(xs.drop i.toNat).take (j.toNat-i.toNat):=by
 unfold L2.cutD;have e:HT.rD xs.length 0 (some i)=i.toNat:=by
  have:=HT.K9 xs.length 0 i.toNat;rw[BW h]at this;rw[this];lia
 have a:HT.rD xs.length xs.length (some j)=j.toNat:=by
  have:=HT.K9 xs.length xs.length j.toNat;rw[BW (by lia)]at this;rw[this];(clear h h1 e;lia)
 rw[e,a]
inductive rl (xs:List Int):Wk->List Bool->Prop
 |done {w:Wk} (h:w.pl<0):rl xs w []
 |step {w:Wk} {ah:List Pa} {p:Pa} {bs:List Bool} (h:0<=w.pl) (h5:w.pl<=5000) (hf:w.fits) (e:w.ah=ah++[p]) (hp:ZU xs p) (h1:p.a=1->fW xs w.pl p=false->ah≠[]) (t:rl xs ((w.step ah p (fW xs w.pl p)).dy) bs):rl xs w (fW xs w.pl p::bs)
def kQ:dF:=λds P=>∃(w:Wk) (ah:List Pa) (p:Pa),ds=[.obj "Walk" bD (OV.vals w.ts)]/\w.ah=ah++[p]/\w.fits/\P (.fz p.d)
noncomputable abbrev iK:AZ:=dA (top 58) 3
theorem rC:aQ ["self"] ["self"] (aB iK):=by walk_at "S"
theorem rM {f:Ac}{fd:Ak}(a:e7 K "Walk" "asked" "Walk.asked" iK f fd)(B:b9 mg)(KV:bZ K)(C:dE K "Walk" bD):
  cS P w K mg base "Walk" "asked" 1 ["self"] (b7 K 1 kQ):=by
 refine UL.of a rC (by walk_at "b") rfl (λc A o s H E r=>⟨_,_,(aH (aX (aR bK (ck (pv 0) rfl) (Qc xR aK) (λ_ _=>rfl)))),
  (a_ (br (K' (bx (dm.b cn) (cV (j:=4) C (by rfl) aC) (aM (yo (aM aF))))))),?_⟩)
 rintro ds g ⟨w,ah,p,rfl,e,hf,h⟩;unfold Wk.ts;fin2;rw[oQ,e,A_];refine⟨p.d,?_,Vg p,h⟩;exact RU _ _
def sI:dF:=λds P=>∃(p:Pa) (n:Int) (xs:List Int),ds=[p.d,.int n,.lst (xs.map .int),.lst (xs.map λx=>.int (iW x))]/\ZU xs p/\xs.length<=1000000/\0<=n/\n<=5000/\P (.fz (.bl (fW xs n p)))
noncomputable abbrev pR:AZ:=top 64
theorem sN:aQ ["part","plane","some","heights","number"] ["part","plane","some","heights"] (aB pR):=by walk_at "S"
theorem Nj {f:Ac}{fd:Ak}(L:bL K mg "answer" pR f fd)(B:b9 mg)(KV:bZ K)(U:∃t,mg "FIGURE"=some (.int 3 t))(j:∃t,mg "SIGN"=some (.int 2 t))(g:∃t,mg "START_walks"=some (.int 1 t))(G:∃t,mg "ASKS"=some (.int 0 t))(a:∃t,mg "END_walks"=some (.int 2 t)):
  cg P w K mg base "answer" 1 ["part","plane","some","heights"] (b7 K 4 sI):=by
 refine cZ.of L sN (by walk_at "b") rfl (λc A o s H E Q=>⟨_,_,(aG (bp (i:=4) sN.nd rfl (Ar rfl) (aR bK (pv 2) (aR aS (pv 0) (aN (by rfl) g) (λ_ _=>rfl)) (λ_ _=>rfl)))
   (aG (cu (bQ gw (aR aS (pv 0) (aN (by rfl) G) (λ_ _=>rfl)) (aN (by rfl) U) (bJ _)) (aH (aX (eD gw (aV Qm (aV qj (aW xq (by rfl) B.abs boot_abs (ae (pv 4) aD)) (pv 1)) aK) aK (bJ _)))) bM)
   (aG (cu (bQ gw (aR aS (pv 0) (aN (by rfl) G) (λ_ _=>rfl)) (aN (by rfl) j) (bJ _)) (aH (aX (eD jX (pv 4) aK (bJ _)))) bM)
   (aH (aX (eD nL (aW (kr rfl) (by rfl) B.max Ib (ae (wD OO (pv 3) (uM (aR aS (pv 0) (aN (by rfl) g) (λ_ _=>rfl))) (uM (aR aS (pv 0) (aN (by rfl) a) (λ_ _=>rfl)))) aD)) (pv 1) (bJ _))))))),
  (aT (bB (br (bF cn aE (bF aU aE aF))))
   (aT (cz (bO (aP gL (bx (dm.b aU) aC (aM aF)) (aM aF))) (a_ (br (aP gL (aM (aP bU (aM (aP cG (aM (bT RP (aI aC aO))) aC)) (aM aF))) (aM aF)))) bP)
   (aT (cz (bO (aP gL (bx (dm.b aU) aC (aM aF)) (aM aF))) (a_ (br (aP dq aC (aM aF)))) bP)
   (a_ (br (aP dq (aM (bT oY (aI (aM (bX (Wm aE (Pk (bx (dm.b aU) aC (aM aF))) (Pk (bx (dm.b aU) aC (aM aF)))))) aO))) aC)))))),?_⟩)
 rintro ds T ⟨p,n,xs,rfl,⟨m,u,q⟩,O,r,hn,h⟩;rw[mN];gn_on;refine⟨_,mq m (by lia),?_⟩;gp_on;fin2;unfold fW at h;split
 .rename_i c;rw[if_pos c]at h;refine⟨r,?_⟩;rw[NP];generalize (xs.getD p.s.toNat 0).natAbs / 2^n.toNat%2=t at h ⊢;rw[decide_eq_decide.mpr (show ((t:Nat):Int)=1↔t=1 by lia)];exact h
 .rename_i c;rw[if_neg c]at h;split
  .rename_i C;rw[if_pos C]at h;exact h
  .rename_i C;rw[if_neg C]at h;refine⟨((xs.drop p.s.toNat).take (p.e.toNat-p.s.toNat)).map λx=>(iW x:Int),?_,?_,λM v J=>?_⟩
   .rw [A9,Uq m (by lia) (by simpa using q),<- IL,<- IK,A9,A9];rfl
   .rw [Au,BD,DX];lia
   .have e:(((xs.drop p.s.toNat).take (p.e.toNat-p.s.toNat)).any λx=>decide (n<(iW x:Int)))=decide (M > n):=by
     rw[CU,Fy,decide_eq_true_eq];constructor
     .rintro ⟨x,k,l⟩;have:=J _ (Bf.mpr ⟨x,k,rfl⟩);have:=of_decide_eq_true l;lia
     .intro z;obtain⟨x,k,l⟩:=Bf.mp v;exact⟨x,k,decide_eq_true (by lia)⟩
    rw[e]at h;exact h
def z0:dF:=λds P=>∃(xs:List Int) (n:Nat) (bs:List Bool),ds=[.lst (xs.map .int),.int n]/\xs.length<=1000000/\n<=5000/\bs.length<=900000/\rl xs (Wk.turn ⟨n,0,[],[⟨0,0,xs.length,1-2^n,2^n-1⟩],[]⟩) bs/\P (.fz (.str (FH "" (bs.map iZ))))
noncomputable abbrev yf:AZ:=top 65
theorem lL:aQ ["some","planes","walk","heights","bits","bit"] ["some","planes"] (aB yf):=by walk_at "S"
theorem Tq {f:Ac}{fd:Ak}(Df:bL K mg "told" yf f fd)(B:b9 mg)(KV:bZ K)(C:dE K "Walk" bD)(k:sk P w K mg base "Walk" 2 ["self","many","planes"] (pF K 3 "Walk" bD fc))(g:cg P w K mg base "heights_of" 1 ["some"] (b7 K 1 gU))(a:cS P w K mg base "Walk" "is_whole" 1 ["self"] (b7 K 1 d7))(r:cg P w K mg base "answer" 1 ["part","plane","some","heights"] (b7 K 4 sI))(L:cS P w K mg base "Walk" "asked" 1 ["self"] (b7 K 1 kQ))(T:cS P w K mg base "Walk" "take" 4 ["self","told"] (pF K 2 "Walk" bD iC)):
  cg P w K mg base "told" 5 ["some","planes"] (b7 K 2 z0):=by
 refine cZ.of Df lL (by walk_at "b") rfl (λc A o s H E v=>⟨_,_,(aG (bp (i:=2) lL.nd rfl (Ar rfl) (uQ k (v.mono (by decide)) (by rfl) (ae (aW bo (by rfl) B.len Bh (ae (pv 0) aD)) (ae (pv 1) aD))))
   (aG (bp (i:=3) lL.nd rfl (Ar rfl) (aZ g (v.mono (by decide)) (by rfl) (ae (pv 0) aD)))
   (aG (bp (i:=4) lL.nd rfl (Ar rfl) (c8 aD))
   (aG (jT AG (eu (cQ (eY a (v.mono (by decide)) (pv 2)))) (aG (bp (i:=5) lL.nd rfl (Ar rfl) (aZ r (v.mono (by decide)) (by rfl) (ae (eY L (v.mono (by decide)) (pv 2)) (ae (ck (pv 2) rfl) (ae (pv 0) (ae (pv 3) aD))))))
   (aG (bR (gs Bd PySem.F.slot_list_append PySem.F.type_list_append dj (pv 4) (ae (qh (cQ (pv 5)) iR iR) aD)))
   (aH (bR (ed T (v.mono (by decide)) (pv 2) (ae (pv 5) aD)))))))
   (aH (aX (gs PySem.F.plainAttrs_str PySem.F.slot_str_join PySem.F.type_str_join TQ iR (ae (pv 4) aD)))))))),
  (aT (bB (K8 C (aA (bT cR (aI aC aO)) (aA aE aJ))))
   (aT (bB (br (bX (aY (aA aE aJ)))))
   (aT (bB (d3 c7))
   (aT (pT (et (gk (bX (gm C (by decide +kernel) aC aO)))) (aT (bB (br (bX (eV (aI (aM (bX (gm C (by decide +kernel) aC aO))) (aI (cV (j:=0) C (by rfl) aC) (aI aC (aI aC aO))))))))
   (aT (ym (br (Pw (gk aE) iN iN)))
   (fU C (by decide +kernel) (aA aE aJ)))))
   (a_ (br (S1 (aM iN) aC))))))),?_⟩)
 rintro ds Pr ⟨xs,n,bs,rfl,J,hn,hb,ht,h⟩;gn_on;refine⟨xs.length,n,rfl,rfl,hn,?_⟩;gp_on;gn_on;refine⟨xs,rfl,J,?_⟩;gp_on;gn_on;gp_on;gn_on;rw[A9];refine⟨λm δ=>∃(w:Wk) (rs ds:List Bool) (o:Option Sl),m=rs.length/\rl xs w rs/\ds++rs=bs/\δ=[some (Sl.own (OV.fz (D.lst (BA D.int xs)))),some (Sl.own (OV.fz (D.int n))),some (Sl.own (OV.ob none (Bp "Walk") bD w.ts)),some (Sl.own (OV.fz (D.lst (xs.map λx=>D.int (iW x))))),some (Sl.own (OV.nl (ds.map λb=>OV.fz (D.str (iZ b))))),o],⟨_,_,bs,[],none,rfl,ht,rfl,rfl⟩,?_⟩;rintro m δ ⟨w,rs,ds,o,rfl,U,q,rfl⟩;fin2;refine⟨w,rfl,?_⟩;fin2
 cases U with
 |done hl=>
  rw[if_neg (by simp[hl])];gp_on;rw[Bj]at q;subst q;fin2;refine⟨ds.map iZ,by rw[A9,A9];rfl,?_,h⟩;have e:∀l:List Bool,((l.map iZ).map (·.length)).sum=l.length:=by
   intro l
   induction l with
   |nil=>rfl
   |cons b l O=>
    rw[BJ,BJ,Ik,O,AR,mn];lia
  rw[e,Au];show ds.length+ds.length*0<=16777216
  lia
 | @step _ ah p u G z hf e Q h1 t=>
  rw[if_pos (by simp;omega)];refine⟨w,ah,p,by rw[OV.c4],e,hf,?_⟩;fin2;refine⟨Vg p,_,rfl,p,w.pl,xs,rfl,Q,J,G,z,?_⟩;have hl:ds.length<1000000:=by
   have:=congrArg FW q;rw[AF]at this;lia
  fin2;refine⟨hl,?_⟩
  cases M:fW xs w.pl p with
  |true=>
   rw[M]at t h1 q;rw[if_pos rfl];refine⟨w,ah,p,true,rfl,hf,rfl,e,G,z,h1,?_⟩;refine⟨u.length,by simp,_,u,ds++[true],some (Sl.own (OV.fz (D.bl true))),rfl,t,by simpa using q,?_⟩;rw[A_];rfl
  |false=>
   rw[M]at t h1 q;rw[if_neg (by decide)];refine⟨w,ah,p,false,rfl,hf,rfl,e,G,z,h1,?_⟩;refine⟨u.length,by simp,_,u,ds++[false],some (Sl.own (OV.fz (D.bl false))),rfl,t,by simpa using q,?_⟩;rw[A_];rfl
theorem Rb {x:Int}{k:Nat}:2^k<=x.natAbs↔k<iW x:=by
 unfold iW;split
 .rename_i h;subst h;simp
 .rw [<- Nat.le_log2 (by lia)];lia
def Kn (x:Int)(k:Nat)(lo hi:Int):Prop:=lo<=x/\x<=hi/\hi-lo=2^k-1/\((∃q:Int,0<q/\lo=q*2^k)∨(∃q:Int,0<q/\hi = -(q*2^k)))
theorem V6 {P:Prop}[Decidable P]:(true=decide P)↔P:=by rw[eq_comm,decide_eq_true_eq]
theorem Xx {P:Prop}[Decidable P]:(false=decide P)↔¬ P:=by rw[eq_comm,decide_eq_false_iff_not]
theorem nK (k:Nat):(0:Int)<2^k:=Hd (by decide)
theorem mO (k:Nat):(2:Int)^(k+1)=2*2^k:=by rw[Ju,DY]
theorem Kn.le {x:Int}{k:Nat}{lo hi:Int}(h:Kn x k lo hi):2^k<=(x.natAbs:Int):=by
 obtain⟨h1,h2,c,a⟩:=h;rcases a with⟨q,Q,rfl⟩ | ⟨q,Q,rfl⟩
 .have:1*2^k<=q*2^k:=Bw (by lia) (by lia);lia
 .have:1*2^k<=q*2^k:=Bw (by lia) (by lia);lia
theorem XJ {y u r c:Nat}(hc:0<c)(U:∃q,u=q*c)(a:y=2*u+r)(h:r<2*c):y / c%2=1↔c<=r:=by
 obtain⟨q,rfl⟩:=U;have e:y / c=2*q+r / c:=by
  rw[a,show 2*(q*c)+r=r+2*q*c by rw[Nat.mul_assoc];lia,Nat.add_mul_div_right _ _ hc,Js]
 by_cases z:c<=r
 .have:r / c=1:=Nat.div_eq_of_lt_le (by (clear h;lia)) (by omega);clear h;lia
 .have:r / c=0:=Nat.div_eq_of_lt (by (clear h;lia));clear h;lia
theorem Kn.neg {x:Int}{k:Nat}{lo hi:Int}(h:Kn x k lo hi):Kn (-x) k (-hi) (-lo):=by
 obtain⟨h1,h2,c,a⟩:=h;refine⟨FX h2,FX h1,by rw[<- c];lia,?_⟩;rcases a with⟨q,Q,e⟩ | ⟨q,Q,e⟩
 .exact .inr ⟨q,Q,by rw[e]⟩
 .exact .inl ⟨q,Q,by rw[e,GK]⟩
theorem Q3 {x:Int}{k:Nat}{lo hi:Int}:Kn (-x) k (-hi) (-lo)↔Kn x k lo hi:=⟨λh=>by have:=h.neg;rwa[GK,GK,GK]at this,Kn.neg⟩
theorem Vi {x lo hi q:Int}{k:Nat}(h1:lo<=x)(h2:x<=hi)(j:hi-lo=2^(k+1)-1)(o:0<q)(e:lo=q*2^(k+1)):
  lo > 0/\(Kn x k (lo+2^k) hi↔x.natAbs / 2^k%2=1)/\(Kn x k lo (hi-2^k)↔¬ x.natAbs / 2^k%2=1):=by
 have f:=Iu k;have h:(2:Int)^k=((2^k:Nat):Int):=rfl;unfold Kn;rw[mO,h]at j e;rw[h];generalize (2^k:Nat)=c at *;obtain⟨Q,rfl⟩:∃n:Nat,q=n:=⟨q.toNat,(BW (Jw o)).symm⟩
 have p:0<Q*c:=Ha (Jv.mp o) f;have e':lo=((2*(Q*c):Nat):Int):=by rw[e];push_cast;rw[CH]
 have f1:lo+(c:Int)=(2*(Q:Int)+1)*c:=by rw[e,FZ,Dr,CH,Jf]
 have f2:lo=2*(Q:Int)*c:=by rw[e,Dr,CH]
 generalize M:Q*c=m at p e';obtain⟨a,rfl⟩:∃n:Nat,x=n:=⟨x.toNat,(BW (by lia)).symm⟩
 have key:=XJ (y:=a) (r:=a-2*m) f ⟨Q,M.symm⟩ (by clear h2 j f1 f2;omega) (by clear f1 f2;lia);rw[Int.natAbs_natCast,key];have t:(0:Int)<2*(Q:Int)+1:=by clear f1 f2;lia
 have l:(0:Int)<2*(Q:Int):=by clear f1 f2;lia
 have g1:lo+(c:Int)<=a↔c<=a-2*m:=by clear h2 j f1 f2;omega
 have g2:(a:Int)<=hi-c↔¬ c<=a-2*m:=by clear f1 f2;lia
 exact⟨by rw[f2];exact He l (Jv.mpr f),⟨λg=>g1.mp g.1,λg=>⟨g1.mpr g,h2,by lia,.inl ⟨_,t,f1⟩⟩⟩,⟨λg=>g2.mp g.2.1,λg=>⟨h1,g2.mpr g,by lia,.inl ⟨_,l,f2⟩⟩⟩⟩
theorem Kn.bG {x:Int}{k:Nat}{p:Pa}{b:Bool}(h:Kn x (k+1) p.lo p.hi):Kn x k (p.bG k b).lo (p.bG k b).hi↔b=decide (x.natAbs / 2^k%2=1):=by
 obtain⟨h1,h2,c,g⟩:=h;unfold Pa.bG;rcases g with⟨q,Q,e⟩ | ⟨q,Q,e⟩
 .obtain ⟨f,A,a⟩:=Vi h1 h2 c Q e;rw[decide_eq_true f]
  cases b with
  |true=>rw[if_pos rfl,V6,<- A]
  |false=>rw[if_neg (by decide),Xx,<- a]
 .obtain ⟨f,A,a⟩:=Vi (x:=-x) (lo:=-p.hi) (hi:=-p.lo) (FX h2) (FX h1) (by rw[<- c];lia) Q (by rw[e,GK]);have hd:decide (p.lo > 0)=false:=decide_eq_false (by lia);rw[hd];rw[IM,show -p.hi+2^k = -(p.hi-2^k) by lia,Q3]at A;rw[IM,show -p.lo-2^k = -(p.lo+2^k) by lia,Q3]at a
  cases b with
  |true=>rw[if_neg (by decide),V6,<- A]
  |false=>rw[if_pos rfl,Xx,<- a]
theorem Kn.signed {x:Int}{k:Nat}{p:Pa}{b:Bool}(h1:2^k<=x.natAbs)(h2:x.natAbs<2^(k+1)):Kn x k (p.signed k b).lo (p.signed k b).hi↔b=decide (x<0):=by
 have h:(2:Int)^k=((2^k:Nat):Int):=rfl;rw[Jr]at h2;unfold Kn Pa.signed
 cases b with
 |true=>
  rw[if_pos rfl,V6];dsimp only;constructor
  .rintro ⟨_,g1,_⟩;omega
  .intro g;exact⟨by lia,by lia,by lia,.inr ⟨1,by lia,by lia⟩⟩
 |false=>
  rw[if_neg (by decide),Xx];dsimp only;constructor
  .rintro ⟨g1,_⟩;lia
  .intro g;exact⟨by lia,by lia,by lia,.inl ⟨1,by lia,by lia⟩⟩
def xG (k:Nat)(lo hi:Int):Prop:=hi-lo=2^k-1/\((∃q:Int,0<q/\lo=q*2^k)∨(∃q:Int,0<q/\hi = -(q*2^k)))
def Yd (k:Nat)(p:Pa):Prop:=0<=p.s/\p.s<p.e/\((p.a=3/\p.e=p.s+1/\xG k p.lo p.hi)∨(p.a=0/\p.lo=1-2^k/\p.hi=2^k-1))
def Sa (k:Nat)(p:Pa):Prop:=0<=p.s/\p.s<p.e/\((p.a=3/\p.e=p.s+1/\xG k p.lo p.hi)∨((p.a=0∨p.a=1)/\p.lo=1-2^k/\p.hi=2^k-1)∨(p.a=2/\p.e=p.s+1/\p.lo=1-2^k/\p.hi=2^k-1))
def si (xs:List Int)(k:Nat)(s e:Int):Prop:=∀i:Nat,s<=i->(i:Int)<e->(xs.getD i 0).natAbs<2^k
def xQ (xs:List Int)(k:Nat)(s e:Int):Prop:=∃i:Nat,s<=i/\(i:Int)<e/\2^k<=(xs.getD i 0).natAbs
def CW (xs:List Int)(k:Nat)(p:Pa):Prop:=(p.a=3->p.lo<=xs.getD p.s.toNat 0/\xs.getD p.s.toNat 0<=p.hi)/\(p.a=0->si xs k p.s p.e)
def CA (xs:List Int)(k:Nat)(p:Pa):Prop:=(p.a=3->p.lo<=xs.getD p.s.toNat 0/\xs.getD p.s.toNat 0<=p.hi)/\(p.a≠3->si xs (k+1) p.s p.e)/\(p.a=2->xQ xs k p.s p.e)
theorem lX {xs:List Int}{k:Nat}{s e:Int}:¬ si xs k s e↔xQ xs k s e:=by
 constructor
 .intro h;exact Kp λz=>h λi h1 h2=>Ih λy=>z ⟨i,h1,h2,y⟩
 .rintro ⟨i,h1,h2,a⟩ h;have:=h i h1 h2;lia
theorem si.mono {xs:List Int}{k l:Nat}{s e:Int}(h:si xs k s e)(hl:k<=l):si xs l s e:=λi h1 h2=>AV (h i h1 h2) (Fc (by decide) hl)
theorem si.split {xs:List Int}{k:Nat}{s m e:Int}(h1:s<=m)(h2:m<=e):si xs k s e↔si xs k s m/\si xs k m e:=by
 constructor
 .intro h;exact⟨λi a b=>h i a (by lia),λi a b=>h i (by lia) b⟩
 .rintro ⟨a,b⟩ i c d;by_cases z:(i:Int)<m
  .exact a i c z
  .exact b i (by lia) d
theorem xQ.split {xs:List Int}{k:Nat}{s m e:Int}(h1:s<=m)(h2:m<=e):xQ xs k s e↔xQ xs k s m∨xQ xs k m e:=by
 rw[<- lX,si.split h1 h2,<- lX,<- lX];exact⟨λz=>(Ko _).elim (λa=>.inr λb=>z ⟨a,b⟩) .inl,λz ⟨a,b⟩=>z.elim (λc=>c a) λc=>c b⟩
theorem UD {xs:List Int}{k:Nat}{p:Pa}(l:p.a≠3)(h2:p.a≠2)(m:0<=p.s)(h1:p.s<p.e)(j:p.e<=(xs.length:Int)):fW xs (k:Int) p=true↔xQ xs k p.s p.e:=by
 unfold fW xQ;rw[if_neg l,if_neg h2,Fy];constructor
 .rintro ⟨x,f,g⟩;obtain⟨i,hi⟩:=DM.mp f;have h:=(Ab.mp hi).1;rw[BD]at h;rw[Ci (by omega),Fu]at hi;refine⟨p.s.toNat+i,by lia,by lia,?_⟩;rw[Aj,hi];show 2^k<=x.natAbs
  exact Rb.mpr (by have:=of_decide_eq_true g;lia)
 .rintro ⟨i,a,b,c⟩;refine⟨xs.getD i 0,DM.mpr ⟨i-p.s.toNat,?_⟩,decide_eq_true (by have:=Rb.mp c;lia)⟩;rw[Ci (by (clear c;omega)),Fu,show p.s.toNat+(i-p.s.toNat)=i by (clear m j c;lia),Aj,Ad (by lia)];rfl
theorem m5 {x:Int}{k:Nat}{lo hi:Int}:Kn x k lo hi↔xG k lo hi/\lo<=x/\x<=hi:=by
 constructor
 .rintro ⟨a,b,c,d⟩;exact⟨⟨c,d⟩,a,b⟩
 .rintro ⟨⟨c,d⟩,a,b⟩;exact⟨a,b,c,d⟩
theorem xG.bG {k:Nat}{p:Pa}{b:Bool}(h:xG (k+1) p.lo p.hi):xG k (p.bG k b).lo (p.bG k b).hi/\p.lo<=(p.bG k b).lo/\(p.bG k b).hi<=p.hi:=by
 obtain⟨f,a⟩:=h;rw[mO]at f a;have g:=nK k;unfold xG Pa.bG;generalize (2:Int)^k=c at *;split
 .rename_i B;dsimp only;refine⟨⟨by lia,?_⟩,by lia,by lia⟩;rcases a with⟨q,Q,e⟩ | ⟨q,Q,e⟩
  .exact .inl ⟨2*q+1,by lia,by rw[e,FZ,CH,Dr];lia⟩
  .exact .inr ⟨2*q,by lia,by rw[e,CH,Dr]⟩
 .rename_i B;dsimp only;refine⟨⟨by lia,?_⟩,by lia,by lia⟩;rcases a with⟨q,Q,e⟩ | ⟨q,Q,e⟩
  .exact .inl ⟨2*q,by lia,by rw[e,CH,Dr]⟩
  .exact .inr ⟨2*q+1,by lia,by rw[e,FZ,CH,Dr];lia⟩
theorem xG.signed {k:Nat}{p:Pa}{b:Bool}:xG k (p.signed k b).lo (p.signed k b).hi:=by
 unfold xG Pa.signed;split
 .exact ⟨by dsimp only;lia,.inr ⟨1,by lia,by dsimp only;lia⟩⟩
 .exact ⟨by dsimp only;lia,.inl ⟨1,by lia,by dsimp only;lia⟩⟩
theorem Uk {xs:List Int}{k:Nat}{p:Pa}{b:Bool}(c:p.a=3)(f:xG (k+1) p.lo p.hi):CW xs k (p.bG k b)↔CA xs k p/\b=fW xs (k:Int) p:=by
 have g:fW xs (k:Int) p=decide ((xs.getD p.s.toNat 0).natAbs / 2^k%2=1):=by
  unfold fW;rw[if_pos c];rfl
 have A:(p.bG k b).a=3/\(p.bG k b).s=p.s/\(p.bG k b).e=p.e:=by unfold Pa.bG;split<;>exact⟨rfl,rfl,rfl⟩
 obtain⟨g1,g2,g3⟩:=f.bG (b:=b);rw[g];unfold CW CA;rw[A.1,A.2.1];generalize xs.getD p.s.toNat 0=x;constructor
 .rintro ⟨h,_⟩;obtain⟨l,j⟩:=h rfl;have n:Kn x (k+1) p.lo p.hi:=m5.mpr ⟨f,by lia,by lia⟩;exact⟨⟨λ_=>⟨by lia,by lia⟩,λz=>absurd c z,λz=>by rw[c]at z;cases z⟩,n.bG.mp (m5.mpr ⟨g1,l,j⟩)⟩
 .rintro ⟨⟨h,_,_⟩,B⟩;have n:Kn x (k+1) p.lo p.hi:=m5.mpr ⟨f,h c⟩;exact⟨λ_=>(m5.mp (n.bG.mpr B)).2,λz=>by cases z⟩
theorem Lo {xs:List Int}{k:Nat}{s:Int}(h:0<=s):si xs k s (s+1)↔(xs.getD s.toNat 0).natAbs<2^k:=by
 constructor
 .intro z;exact z s.toNat (by lia) (by lia)
 .intro z i a b;rw[show i=s.toNat by (clear z;lia)];exact z
theorem Tp {xs:List Int}{k:Nat}{s:Int}(h:0<=s):xQ xs k s (s+1)↔2^k<=(xs.getD s.toNat 0).natAbs:=by
 rw[<- lX,Lo h];lia
theorem SE {xs:List Int}{k:Nat}{p:Pa}{b:Bool}(h2:p.a=2)(c:0<=p.s)(j:p.e=p.s+1):CW xs k (p.signed k b)↔CA xs k p/\b=fW xs (k:Int) p:=by
 have m:fW xs (k:Int) p=decide (xs.getD p.s.toNat 0<0):=by
  unfold fW;rw[if_neg (by rw[h2];decide),if_pos h2]
 have f:(p.signed k b).a=3/\(p.signed k b).s=p.s/\(p.signed k b).e=p.e:=by unfold Pa.signed;split<;>exact⟨rfl,rfl,rfl⟩
 rw[m];unfold CW CA;rw[f.1,f.2.1,j];simp only[Lo c,Tp c];generalize xs.getD p.s.toNat 0=x;constructor
 .rintro ⟨h,_⟩;have n:Kn x k (p.signed k b).lo (p.signed k b).hi:=m5.mpr ⟨xG.signed,h trivial⟩;have L:2^k<=x.natAbs:=by
   have:=n.le
   exact_mod_cast this
  have l:x.natAbs<2^(k+1):=by
   obtain⟨g,A⟩:=h trivial;have hc:(2:Int)^k=((2^k:Nat):Int):=rfl;rw[Jr];unfold Pa.signed at g A;split at g
   .rename_i z;rw[if_pos z]at A;dsimp only at g A;clear h2 c j f;lia
   .rename_i z;rw[if_neg z]at A;dsimp only at g A;clear h2 c j f;lia
  exact⟨⟨(λz=>by rw[h2]at z;cases z),λ_=>l,λ_=>L⟩,(Kn.signed L l).mp n⟩
 .rintro ⟨⟨_,l,L⟩,B⟩;exact⟨λ_=>(m5.mp ((Kn.signed (L h2) (l (by rw[h2];decide))).mpr B)).2,λz=>by cases z⟩
theorem Yn {b:Bool}:(true=b)↔b=true:=eq_comm
theorem Zn {b:Bool}:(false=b)↔¬ b=true:=by cases b<;>simp
def oA (xs:List Int)(k:Nat)(ah:List Pa):Prop:=∀r q p,ah=r++[q,p]->p.a=1->xQ xs k p.s q.e
def Sb (xs:List Int)(k:Nat)(ah:List Pa):Prop:=(∀p∈ah,CA xs k p)/\oA xs k ah
theorem lU {xs:List Int}{k:Nat}{ah:List Pa}{p:Pa}(h:p.a≠1):oA xs k (ah++[p]):=λr q c e h'=>by
 have:ah++[p]=(r++[q])++[c]:=by rw[e];simp
 obtain⟨_,f⟩:=EF this rfl;rw[EN f |>.1]at h;exact absurd h' h
theorem kl {xs:List Int}{k:Nat}{ah:List Pa}(h:∀z∈ah,z.a≠1):oA xs k ah:=λr q p e h'=>absurd h' (h p (by rw[e];simp))
theorem qi {xs:List Int}{k:Nat}{ah:List Pa}{q p:Pa}(h:p.a=1):oA xs k (ah++[q,p])↔xQ xs k p.s q.e:=by
 constructor
 .intro z;exact z ah q p rfl h
 .intro z r q' g e _;obtain⟨_,f⟩:=EF e rfl;obtain⟨a,b⟩:=EN f;obtain⟨c,_⟩:=EN b;rw[<- a,<- c];exact z
theorem vK {xs:List Int}{k:Nat}{w:Wk}{q:Pa}(l:0<=q.s)(h1:q.s<q.e)(hn:∀z∈w.ah,z.a≠1):
  Sb xs k (w.wake q).ah↔(∀z∈w.ah,CA xs k z)/\si xs (k+1) q.s q.e/\xQ xs k q.s q.e:=by
 unfold Wk.wake Sb;split
 .dsimp only;have f:oA xs k (w.ah++[⟨2,q.s,q.e,q.lo,q.hi⟩]):=lU (by show ¬ (2:Int)=1;decide);have hc:CA xs k ⟨2,q.s,q.e,q.lo,q.hi⟩↔si xs (k+1) q.s q.e/\xQ xs k q.s q.e:=by
   unfold CA;dsimp only;exact⟨λz=>⟨z.2.1 (by decide),z.2.2 rfl⟩,λz=>⟨λy=>absurd y (by decide),λ_=>z.1,λ_=>z.2⟩⟩
  rw[Bl,Bc,hc];exact⟨λz=>z.1,λz=>⟨z,f⟩⟩
 .dsimp only;have g:q.s<(q.s+q.e) / 2:=by lia
  have M:(q.s+q.e) / 2<q.e:=by lia
  generalize (q.s+q.e) / 2=m at g M;have hc:∀(a s e:Int),a≠3->a≠2->(CA xs k ⟨a,s,e,q.lo,q.hi⟩↔si xs (k+1) s e):=by
   intro a s e n j;unfold CA;exact⟨λz=>z.2.1 n,λz=>⟨λy=>absurd y n,λ_=>z,λy=>absurd y j⟩⟩
  have f:=qi (xs:=xs) (k:=k) (ah:=w.ah) (q:=⟨0,m,q.e,q.lo,q.hi⟩) (p:=⟨1,q.s,m,q.lo,q.hi⟩) rfl;rw[f,Bl,BU,Bc,hc _ _ _ (by decide) (by decide),hc _ _ _ (by decide) (by decide)];have h:=si.split (xs:=xs) (k:=k+1) (s:=q.s) (m:=m) (e:=q.e) (by lia) (by lia);exact⟨λ⟨⟨a,b,c⟩,d⟩=>⟨a,h.mpr ⟨c,b⟩,d⟩,λ⟨a,C,d⟩=>⟨⟨a,(h.mp C).2,(h.mp C).1⟩,d⟩⟩
theorem zH (w:Wk)(q:Pa):(w.wake q).wk=w.wk/\(w.wake q).pl=w.pl/\(w.wake q).us=w.us/\(w.wake q).re=w.re:=by
 unfold Wk.wake;split<;>exact⟨rfl,rfl,rfl,rfl⟩
structure Ú (ah:List Pa) (p:Pa):Prop where
 no:∀z∈ah,z.a≠1
 x9:p.a=1->∃r q,ah=r++[q]/\q.a=0/\q.s=p.e/\q.s<q.e/\0<=q.s
def vE (xs:List Int)(k:Nat)(w:Wk):Prop:=(∀p∈w.wk,CW xs k p)/\Sb xs k w.ah
theorem vR {xs:List Int}{k:Nat}{w:Wk}{ah:List Pa}{p:Pa}{b:Bool}(U:w.pl=k)(e:w.ah=ah++[p])(hs:Sa (k+1) p)(hb:Ú ah p)(J:p.e<=(xs.length:Int)):
  vE xs k (w.step ah p b)↔vE xs k w/\b=fW xs (k:Int) p:=by
 obtain⟨h0,h1,h2⟩:=hs;have G:w.pl.toNat=k:=by lia
 have O:=hb.no;have t:oA xs k ah:=kl O;unfold Wk.step vE;rw[e];by_cases C:p.a=3
 .rw [if_pos C,G];dsimp only;have o:xG (k+1) p.lo p.hi:=by
   rcases h2 with z |z |z
   .exact z.2.2
   .rcases z.1 with y |y<;>rw[C]at y<;>cases y
   .rw [C]at z;cases z.1
  have u:oA xs k (ah++[p]):=lU (by rw[C];decide);unfold Sb;rw[Bl,Bc,Uk C o,Bl,Bc];exact⟨λ⟨⟨a,b,c⟩,d,_⟩=>⟨⟨a,⟨d,b⟩,u⟩,c⟩,λ⟨⟨a,⟨d,b⟩,_⟩,c⟩=>⟨⟨a,b,c⟩,d,t⟩⟩
 .rw [if_neg C];by_cases j:p.a=2
  .rw [if_pos j,G];dsimp only;have o:p.e=p.s+1:=by
    rcases h2 with z |z |z
    .rw [j]at z;cases z.1
    .rcases z.1 with y |y<;>rw[j]at y<;>cases y
    .exact z.2.1
   have u:oA xs k (ah++[p]):=lU (by rw[j];decide);unfold Sb;rw[Bl,Bc,SE j h0 o,Bl,Bc];exact⟨λ⟨⟨a,b,c⟩,d,_⟩=>⟨⟨a,⟨d,b⟩,u⟩,c⟩,λ⟨⟨a,⟨d,b⟩,_⟩,c⟩=>⟨⟨a,b,c⟩,d,t⟩⟩
  .rw [if_neg j];have h:=UD (xs:=xs) (k:=k) C j h0 h1 J;have A:CA xs k p↔si xs (k+1) p.s p.e:=by
    unfold CA;exact⟨λz=>z.2.1 C,λz=>⟨λy=>absurd y C,λ_=>z,λy=>absurd y j⟩⟩
   cases b with
   |true=>
    rw[if_pos rfl,(zH _ _).1,vK h0 h1 O,Yn,h];unfold Sb;rw[Bl,Bc,A];constructor
    .rintro ⟨a,d,l,g⟩;refine⟨⟨a,⟨d,l⟩,?_⟩,g⟩;by_cases f:p.a=1
     .obtain ⟨r,q,rfl,_,q2,q3,_⟩:=hb.x9 f;rw[Cf];refine (qi f).mpr ?_;obtain⟨i,i1,i2,i3⟩:=g;exact⟨i,i1,by (clear U J G i3;lia),i3⟩
     .exact lU f
    .rintro ⟨⟨a,⟨d,l⟩,_⟩,g⟩;exact⟨a,d,l,g⟩
   |false=>
    rw[if_neg (by decide),Zn,h];have v:∀lo hi:Int,CW xs k ⟨0,p.s,p.e,lo,hi⟩↔si xs k p.s p.e:=by
     intro lo hi;unfold CW;dsimp only;exact⟨λz=>z.2 rfl,λz=>⟨λy=>absurd y (by decide),λ_=>z⟩⟩
    have L:si xs k p.s p.e↔si xs (k+1) p.s p.e/\¬ xQ xs k p.s p.e:=by
     rw[<- lX,Km];exact⟨λz=>⟨z.mono (by lia),z⟩,λz=>z.2⟩
    unfold Wk.calm;by_cases f:p.a=1
    .rw [if_pos f];obtain⟨r,q,rfl,Q,q2,q3,q0⟩:=hb.x9 f;have B:CA xs k q↔si xs (k+1) q.s q.e:=by
      unfold CA;exact⟨λz=>z.2.1 (by rw[Q];decide),λz=>⟨(λy=>by rw[Q]at y;cases y),λ_=>z,(λy=>by rw[Q]at y;cases y)⟩⟩
     have T:oA xs k (r++[q]++[p])↔xQ xs k p.s q.e:=by rw[Cf];exact qi f
     have X9:=xQ.split (xs:=xs) (k:=k) (s:=p.s) (m:=p.e) (e:=q.e) (by (clear U J G;lia)) (by (clear U J G;lia));rw[(zH _ _).1,vK (by rw[CB];exact q0) (by rw[CB];exact q3) (by
      dsimp only;rw[C9];exact λz hz=>O z (by simp[hz]))]
     unfold Wk.walked Sb;dsimp only;rw[C9,CB,Bl,Bc,v,L,T,X9,Bl,Bc,Bl,Bc,A,B,<- q2];constructor
     .rintro ⟨⟨a,l,n⟩,d,M,bq⟩;exact⟨⟨a,⟨⟨d,M⟩,l⟩,.inr bq⟩,n⟩
     .rintro ⟨⟨a,⟨⟨d,M⟩,l⟩,pb⟩,n⟩;exact⟨⟨a,l,n⟩,d,M,pb.elim (λz=>absurd z n) id⟩
    .rw [if_neg f];unfold Wk.walked Sb;dsimp only;have u:oA xs k (ah++[p]):=lU f;rw[Bl,Bc,v,L,Bl,Bc,A];exact⟨λ⟨⟨a,l,n⟩,d,_⟩=>⟨⟨a,⟨d,l⟩,u⟩,n⟩,λ⟨⟨a,⟨d,l⟩,_⟩,n⟩=>⟨⟨a,l,n⟩,d,t⟩⟩
def de (xs:List Int)(w:Wk):Prop:=vE xs w.pl.toNat w
theorem pj {xs:List Int}{w:Wk}(l:0<=w.pl)(A:w.ah=[])(j:∀p∈w.wk,p.a=0∨p.a=3):de xs w.turn↔de xs w:=by
 unfold de Wk.turn;split
 .dsimp only;obtain⟨k,g⟩:∃k:Nat,w.pl=k+1:=⟨(w.pl-1).toNat,by omega⟩
  rw[g,show ((k:Int)+1-1).toNat=k by lia];unfold vE Sb;rw[A];have h:oA xs k w.wk.reverse:=kl λz c=>by
   rcases j z (by simpa using c) with y |y<;>rw[y]<;>decide
  have f:oA xs (k+1) ([]:List Pa):=kl λz c=>by cases c
  have hc:∀p∈w.wk,(CA xs k p↔CW xs (k+1) p):=by
   intro p h;unfold CA CW;rcases j p h with y |y
   .rw [y];exact⟨λz=>⟨z.1,λ_=>z.2.1 (by decide)⟩,λz=>⟨z.1,λ_=>z.2 rfl,λy=>absurd y (by decide)⟩⟩
   .rw [y];exact⟨λz=>⟨z.1,λy=>absurd y (by decide)⟩,λz=>⟨z.1,λy=>absurd rfl y,λy=>absurd y (by decide)⟩⟩
  constructor
  .rintro ⟨_,a,_⟩;exact⟨λp h=>(hc p h).mp (a p (by simpa using h)),(λp h=>by cases h),f⟩
  .rintro ⟨a,_,_⟩;exact⟨(λp h=>by cases h),λp q=>(hc p (by simpa using q)).mpr (a p (by simpa using q)),h⟩
 .dsimp only;have e:w.pl=0:=by lia
  rw[e];exact Jy
theorem pY {xs:List Int}{w:Wk}(e:0<=w.pl)(h:∀p∈w.wk,p.a=0∨p.a=3):de xs w.dy↔de xs w:=by
 unfold Wk.dy;split
 .rename_i c;exact pj (w:={w with re:=w.re++[w.us]}) e c h
 .exact Jy
def dW:Int->List Pa->Int->Prop
 |a,[],b=>a=b
 |a,p::ps,b=>p.s=a/\p.s<p.e/\dW p.e ps b
theorem ng {a b:Int}:∀{ps q:List Pa},dW a (ps++q) b↔∃c,dW a ps c/\dW c q b
 | [],q=>by
  constructor
  .intro h;exact⟨a,rfl,h⟩
  .rintro ⟨c,h1,h2⟩;cases (show a=c from h1);exact h2
 |p::ps,q=>by
  show (p.s=a/\p.s<p.e/\dW p.e (ps++q) b)↔∃c,(p.s=a/\p.s<p.e/\dW p.e ps c)/\dW c q b
  rw[ng];constructor
  .rintro ⟨h1,h2,c,g,f⟩;exact⟨c,⟨h1,h2,g⟩,f⟩
  .rintro ⟨c,⟨h1,h2,g⟩,f⟩;exact⟨h1,h2,c,g,f⟩
theorem fw:∀{ps:List Pa} {a b:Int},dW a ps b->a+ps.length<=b
 | [],a,b,h=>by cases (show a=b from h);simp
 |p::ps,a,b,⟨h1,h2,c⟩=>by
  have:=fw c;simp only[AR];lia
theorem ik:∀{ps:List Pa} {a b:Int} {p:Pa},dW a ps b->p∈ps->a<=p.s/\p.s<p.e/\p.e<=b
 |q :: ps,a,b,p,⟨h1,h2,c⟩,h=>by
  rcases AJ.mp h with rfl |h
  .have:=fw c;exact⟨by lia,h2,by lia⟩
  .have:=ik c h;exact⟨by lia,this.2.1,this.2.2⟩
theorem lp {a b:Int}{xs ys:List Pa}{p f:Pa}(h:dW a (xs++p::ys) b)(g:f.s=p.s)(j:f.e=p.e):dW a (xs++f::ys) b:=by
 rw[ng]at h ⊢;obtain⟨c,h1,h2,l,k⟩:=h;exact⟨c,h1,by rw[g];exact h2,by rw[g,j];exact l,by rw[j];exact k⟩
theorem xp {a b:Int}{xs ys:List Pa}{p g f:Pa}(h:dW a (xs++p::ys) b)(h1:g.s=p.s)(h2:g.e=f.s)(l:f.e=p.e)(k:g.s<g.e)(j:f.s<f.e):dW a (xs++g::f::ys) b:=by
 rw[ng]at h ⊢;obtain⟨c,g1,g2,g3,G⟩:=h;exact⟨c,g1,by rw[h1];exact g2,k,h2.symm,j,by rw[l];exact G⟩
structure L9 (m:Int) (k:Nat) (w:Wk):Prop where
 ch:dW 0 (w.wk++w.ah.reverse) m
 wk:∀p∈w.wk,Yd k p
 ah:∀p∈w.ah,Sa (k+1) p
 x9:∀ah p,w.ah=ah++[p]->Ú ah p
theorem Wc {ah:List Pa}{p:Pa}(hn:∀z∈ah,z.a≠1)(f:p.a≠1):∀h c,ah++[p]=h++[c]->Ú h c:=λh c e=>by
 obtain⟨rfl,g⟩:=EF e rfl;cases g;exact⟨hn,λz=>absurd z f⟩
theorem E' {ah:List Pa}(hn:∀z∈ah,z.a≠1):∀h p,ah=h++[p]->Ú h p:=λh p e=>
 ⟨λz c=>hn z (by rw[e];simp[c]),λz=>absurd z (hn p (by rw[e];simp))⟩
theorem pe {m:Int}{k:Nat}{w:Wk}{q:Pa}(j:0<=q.s)(h1:q.s<q.e)(Q:q.lo=1-2^(k+1)/\q.hi=2^(k+1)-1)(hc:dW 0 (w.wk++q::w.ah.reverse) m)(hw:∀p∈w.wk,Yd k p)(g:∀p∈w.ah,Sa (k+1) p)(hn:∀z∈w.ah,z.a≠1):L9 m k (w.wake q):=by
 unfold Wk.wake;split
 .refine ⟨?_,hw,?_,?_⟩
  .rw [Ey];exact lp hc rfl rfl
  .intro p f;rcases AB.mp f with z |z
   .exact g p z
   .rw [A3.mp z];exact⟨j,h1,.inr (.inr ⟨rfl,by show q.e=q.s+1;lia,Q.1,Q.2⟩)⟩
  .exact Wc hn (by show ¬ (2:Int)=1;decide)
 .have c:q.s<(q.s+q.e) / 2:=by lia
  have h:(q.s+q.e) / 2<q.e:=by lia
  generalize (q.s+q.e) / 2=M at c h;refine⟨?_,hw,?_,?_⟩
  .rw [Ey];exact xp hc rfl rfl rfl c h
  .intro p f;rcases AB.mp f with z |z
   .exact g p z
   .rcases AJ.mp z with z |z
    .rw [z];exact⟨by show 0<=M;lia,h,.inr (.inl ⟨.inl rfl,Q.1,Q.2⟩)⟩
    .rw [A3.mp z];exact⟨j,c,.inr (.inl ⟨.inr rfl,Q.1,Q.2⟩)⟩
  .intro A l e;have e':(w.ah++[⟨0,M,q.e,q.lo,q.hi⟩])++[⟨1,q.s,M,q.lo,q.hi⟩]=A++[l]:=by rw[Cf];exact e
   obtain⟨rfl,o⟩:=EF e' rfl;cases o;refine⟨λz n=>?_,λ_=>⟨w.ah,_,rfl,rfl,rfl,h,by show 0<=M;lia⟩⟩;rcases AB.mp n with y |y
   .exact hn z y
   .rw [A3.mp y];show ¬ (0:Int)=1;decide
theorem kY {m:Int}{k:Nat}{w:Wk}{ah:List Pa}{p:Pa}{b:Bool}(S:L9 m k w)(O:w.pl=k)(e:w.ah=ah++[p]):L9 m k (w.step ah p b):=by
 have o:w.pl.toNat=k:=by lia
 have B:=S.x9 ah p e;have A:∀z∈ah,Sa (k+1) z:=λz h=>S.ah z (by rw[e];simp[h])
 obtain⟨n,h1,h2⟩:=S.ah p (by rw[e];simp);have hc:=S.ch;rw[e,Ey]at hc;have put:∀g:Pa,g.s=p.s->g.e=p.e->Yd k g->L9 m k {w with us:=w.us+1,ah:=ah,wk:=w.wk++[g]}:=λg G L hw=>by
  refine⟨?_,λz h=>?_,A,E' B.no⟩
  .rw [Cf];exact lp hc G L
  .rcases AB.mp h with y |y
   .exact S.wk z y
   .rw [A3.mp y];exact hw
 unfold Wk.step;by_cases C:p.a=3
 .rw [if_pos C,o];have c:p.e=p.s+1/\xG (k+1) p.lo p.hi:=by
   rcases h2 with z |z |z
   .exact z.2
   .rcases z.1 with y |y<;>rw[C]at y<;>cases y
   .rw [C]at z;cases z.1
  have f:(p.bG k b).a=3/\(p.bG k b).s=p.s/\(p.bG k b).e=p.e:=by unfold Pa.bG;split<;>exact⟨rfl,rfl,rfl⟩
  exact put _ f.2.1 f.2.2 ⟨by rw[f.2.1];exact n,by rw[f.2.1,f.2.2];exact h1,.inl ⟨f.1,by rw[f.2.1,f.2.2];exact c.1,(c.2.bG).1⟩⟩
 .rw [if_neg C];by_cases j:p.a=2
  .rw [if_pos j,o];have c:p.e=p.s+1:=by
    rcases h2 with z |z |z
    .rw [j]at z;cases z.1
    .rcases z.1 with y |y<;>rw[j]at y<;>cases y
    .exact z.2.1
   have f:(p.signed k b).a=3/\(p.signed k b).s=p.s/\(p.signed k b).e=p.e:=by unfold Pa.signed;split<;>exact⟨rfl,rfl,rfl⟩
   exact put _ f.2.1 f.2.2 ⟨by rw[f.2.1];exact n,by rw[f.2.1,f.2.2];exact h1,.inl ⟨f.1,by rw[f.2.1,f.2.2];exact c,xG.signed⟩⟩
  .rw [if_neg j];have l:p.lo=1-2^(k+1)/\p.hi=2^(k+1)-1:=by
    rcases h2 with z |z |z
    .exact absurd z.1 C
    .exact z.2
    .exact absurd z.1 j
   split
   .exact pe n h1 l hc S.wk A B.no
   .have hw:Yd k ⟨0,p.s,p.e,1-2^k,2^k-1⟩:=⟨n,h1,.inr ⟨rfl,rfl,rfl⟩⟩
    unfold Wk.calm;by_cases t:p.a=1
    .rw [if_pos t];obtain⟨r,q,rfl,Q,M,u,v⟩:=B.x9 t;have J:q.lo=1-2^(k+1)/\q.hi=2^(k+1)-1:=by
      rcases (A q (by simp)).2.2 with z |z |z
      .rw [Q]at z;cases z.1
      .exact z.2
      .rw [Q]at z;cases z.1
     unfold Wk.walked;rw[C9,CB,o];refine pe v u J ?_ (λz h=>?_) (λz h=>A z (by simp[h])) λz h=>B.no z (by simp[h])
     .rw [Ey]at hc;rw[Cf];exact lp hc rfl rfl
     .rcases AB.mp h with y |y
      .exact S.wk z y
      .rw [A3.mp y];exact hw
    .rw [if_neg t];rw[o];exact put _ rfl rfl hw
theorem pa {m:Int}{k:Nat}{w:Wk}(S:L9 m k w):∀p∈w.wk,p.a=0∨p.a=3:=λp h=>by
 rcases (S.wk p h).2.2 with z |z
 .exact .inr z.1
 .exact .inl z.1
structure kb (m:Int) (w:Wk):Prop where
 sh:L9 m w.pl.toNat w
 ne:0<=w.pl->w.ah≠[]
 wh:w.pl<0->w.pl = -1/\w.ah=[]
theorem ph {m:Int}{k:Nat}{w:Wk}(M:0<m)(S:L9 m k w)(g:w.pl=k)(a:w.ah=[]):kb m w.turn:=by
 have hc:=S.ch;rw[a]at hc;have hc:dW 0 (w.wk++[]) m:=hc;rw[Bj]at hc;have n:w.wk≠[]:=λz=>by
  rw[z]at hc;have:(0:Int)=m:=hc;lia
 unfold Wk.turn;split
 .obtain ⟨j,rfl⟩:∃j,k=j+1:=⟨k-1,by lia⟩
  have e:(w.pl-1).toNat=j:=by lia
  refine⟨?_,λ_=>by simpa using n,λz=>?_⟩
  .rw [e];refine⟨?_,(λp h=>by cases h),λp h=>?_,?_⟩
   .rw [List.reverse_reverse];exact hc
   .have hw:=S.wk p (by simpa using h);refine⟨hw.1,hw.2.1,?_⟩;rcases hw.2.2 with z |z
    .exact .inl z
    .exact .inr (.inl ⟨.inl z.1,z.2⟩)
   .refine E' λz c=>?_
    rcases pa S z (by simpa using c) with y |y<;>rw[y]<;>decide
  .have:w.pl-1<0:=z;lia
 .have f:k=0:=by lia
  subst f;refine⟨?_,λz=>?_,λ_=>⟨by show w.pl-1 = -1;lia,a⟩⟩
  .rw [show (w.pl-1).toNat=0 by lia];exact⟨S.ch,S.wk,S.ah,S.x9⟩
  .have:0<=w.pl-1:=z;lia
theorem iP {m:Int}{k:Nat}{w:Wk}(h:0<m)(S:L9 m k w)(a:w.pl=k):kb m w.dy:=by
 unfold Wk.dy;split
 .rename_i c;exact ph (w:={w with re:=w.re++[w.us]}) h ⟨S.ch,S.wk,S.ah,S.x9⟩ a c
 .rename_i c;refine⟨by rw[show w.pl.toNat=k by lia];exact S,λ_=>c,λz=>by lia⟩
theorem nu {m:Int}(M:0<m)(n:Nat):kb m (Wk.turn ⟨n,0,[],[⟨0,0,m,1-2^n,2^n-1⟩],[]⟩):=by
 refine ph M ⟨⟨rfl,M,rfl⟩,λp h=>?_,(λp h=>by cases h),λah p e=>?_⟩ rfl rfl
 .rw [A3.mp h];exact⟨Ba 0,M,.inr ⟨rfl,rfl,rfl⟩⟩
 .have:=congrArg FW e;simp at this
theorem ud {w:Wk}{ah:List Pa}{p:Pa}{b:Bool}:(w.step ah p b).pl=w.pl/\(w.step ah p b).us=w.us+1/\(w.step ah p b).re=w.re:=by
 unfold Wk.step Wk.calm Wk.wake Wk.walked
 repeat (any_goals split)
 all_goals exact⟨rfl,rfl,rfl⟩
theorem xZ {xs:List Int}{n:Nat}(h:∀x∈xs,x.natAbs<2^n):de xs (Wk.turn ⟨n,0,[],[⟨0,0,xs.length,1-2^n,2^n-1⟩],[]⟩):=by
 refine (pj (w:=⟨n,0,[],[⟨0,0,xs.length,1-2^n,2^n-1⟩],[]⟩) (by show 0<=(n:Int);lia) rfl (λp c=>by rw[A3.mp c];exact .inl rfl)).mpr ?_;unfold de;show vE xs ((n:Int).toNat) _
 rw[AQ];refine⟨λp c=>?_,(λp c=>by cases c),kl λz e=>by cases e⟩;rw[A3.mp c];refine⟨λz=>absurd z (by show ¬ (0:Int)=3;decide),λ_ i a b=>?_⟩;have hi:i<xs.length:=by
  have:(i:Int)<(xs.length:Int):=b;lia
 rw[Aj,Ad hi];exact h _ (BH hi)
noncomputable def M8 (p:Pa):Nat:=if p.a=3∨p.a=2 then 1 else 3*(p.e-p.s).toNat-1
noncomputable def eM (ps:List Pa):Nat:=(ps.map M8).sum
theorem jV (ps q:List Pa):eM (ps++q)=eM ps+eM q:=by simp[eM]
theorem jU (p:Pa):eM [p]=M8 p:=by simp[eM]
theorem Qb (ps:List Pa):eM ps.reverse=eM ps:=by
 induction ps with
 |nil=>rfl
 |cons p ps h=>rw[Fe,jV,jU];simp[eM];lia
theorem Tc {p:Pa}(h:p.s<p.e):1<=M8 p:=by
 unfold M8;split<;>lia
theorem WK {p:Pa}(h:p.s<p.e):M8 p<=3*(p.e-p.s).toNat:=by
 unfold M8;split<;>lia
theorem qc:∀{ps:List Pa} {a b:Int},dW a ps b->(eM ps:Int)<=3*(b-a)
 | [],a,b,h=>by cases (show a=b from h);simp[eM]
 |p::ps,a,b,⟨h1,h2,c⟩=>by
  have f:=qc c;have g:=WK h2;have e:eM (p::ps)=M8 p+eM ps:=by simp[eM]
  lia
theorem vJ {w:Wk}{q:Pa}(h1:q.s<q.e)(f:q.a≠3)(h2:q.a≠2):eM (w.wake q).ah+1<=eM w.ah+M8 q:=by
 have Q:M8 q=3*(q.e-q.s).toNat-1:=by
  unfold M8;rw[if_neg (by rintro (z |z);exact f z;exact h2 z)]
 unfold Wk.wake;split
 .dsimp only;rw[jV,jU,Q];show eM w.ah+1+1<=_
  clear h1;lia
 .rename_i c;dsimp only;have M:q.s<(q.s+q.e) / 2:=by lia
  have h:(q.s+q.e) / 2<q.e:=by lia
  generalize (q.s+q.e) / 2=m at M h;have e:eM [(⟨0,m,q.e,q.lo,q.hi⟩:Pa),⟨1,q.s,m,q.lo,q.hi⟩]=(3*(q.e-m).toNat-1)+(3*(m-q.s).toNat-1):=by
   simp[eM,M8]
  rw[jV,e,Q];lia
theorem pz {m:Int}{k:Nat}{w:Wk}{ah:List Pa}{p:Pa}{b:Bool}(S:L9 m k w)(e:w.ah=ah++[p]):eM (w.step ah p b).ah+1<=eM w.ah:=by
 have h:=S.x9 ah p e;obtain⟨n,h1,_⟩:=S.ah p (by rw[e];simp);have l:=Tc h1;rw[e,jV,jU];unfold Wk.step;split
 .show eM ah+1<=_;lia
 .rename_i c;split
  .show eM ah+1<=_;lia
  .rename_i C;split
   .exact vJ (w:={w with us:=w.us+1,ah:=ah}) h1 c C
   .unfold Wk.calm;split
    .rename_i f;obtain⟨r,q,rfl,a,g,Q,j⟩:=h.x9 f;rw[C9,CB,jV,jU];refine Bv (vJ Q (by rw[a];decide) (by rw[a];decide)) ?_;show eM r+M8 q<=_
     lia
    .show eM ah+1<=_;lia
noncomputable def mu (m:Nat)(w:Wk):Nat:=if w.pl<0 then 0 else 3*m*w.pl.toNat+eM w.ah
theorem sQ {m k:Nat}{w:Wk}(S:L9 m k w)(h:w.pl=k):mu m w.dy<=3*m*k+eM w.ah:=by
 unfold Wk.dy;split
 .rename_i c;unfold Wk.turn;split
  .rename_i C;obtain⟨j,rfl⟩:∃j,k=j+1:=⟨k-1,by have:w.pl-1>=0:=C;lia⟩
   unfold mu;dsimp only;rw[if_neg (by omega),Qb,show (w.pl-1).toNat=j by omega];have hc:=S.ch;rw[c]at hc;have hc:dW 0 (w.wk++[]) m:=hc;rw[Bj]at hc;have:=qc hc;have e:3*m*(j+1)=3*m*j+3*m:=by rw[Nat.mul_succ]
   lia
  .rename_i C;unfold mu;dsimp only;rw[if_pos (by have:¬ w.pl-1>=0:=C;lia)];lia
 .unfold mu;rw[if_neg (by lia),show w.pl.toNat=k by lia];exact Ah _
inductive jm:Wk->List Bool->Wk->Prop
 |nil {w:Wk}:jm w [] w
 |whole {w:Wk} {b:Bool} {bs:List Bool} (h:w.pl<0):jm w (b::bs) w
 |step {w v:Wk} {ah:List Pa} {p:Pa} {b:Bool} {bs:List Bool} (h:0<=w.pl) (h5:w.pl<=5000) (hf:w.fits) (e:w.ah=ah++[p]) (h1:p.a=1->b=false->ah≠[]) (t:jm ((w.step ah p b).dy) bs v):jm w (b::bs) v
noncomputable def Pa.sp (p:Pa):D:=.tup [.int p.lo,.int p.hi]
noncomputable def fo (w:Wk):List D:=(w.wk++w.ah.reverse).flatMap λp=>An (p.e-p.s).toNat p.sp
def jA:o9:=λts ds P=>∃(w v:Wk) (bs:List Bool),ts=w.ts/\ds=[.str (dd bs)]/\jm w bs v/\P v.ts
def kP:dF:=λds P=>∃w:Wk,ds=[.obj "Walk" bD (OV.vals w.ts)]/\w.wk.length<400000/\w.ah.length<400000/\(fo w).length<=900000/\(∀p∈w.wk++w.ah,0<=p.e-p.s/\p.e-p.s<=100000)/\P (.nl ((fo w).map .fz))
def nz:dF:=λds P=>∃(bs:List Bool) (m:Int) (n:Nat) (v:Wk),ds=[.str (dd bs),.int m,.int n]/\n<=5000/\jm (Wk.turn ⟨n,0,[],[⟨0,0,m,1-2^n,2^n-1⟩],[]⟩) bs v/\P (.ob none "Walk" bD v.ts)
noncomputable abbrev hI:AZ:=dA (top 58) 5
theorem jE:aQ ["self","bits","bit"] ["self","bits"] (aB hI):=by walk_at "S"
noncomputable abbrev iJ:AZ:=dA (top 58) 4
theorem gY:aQ ["self","found","part"] ["self"] (aB iJ):=by walk_at "S"
noncomputable abbrev k9:AZ:=top 60
theorem nD:aQ ["bits","many","planes","walk"] ["bits","many","planes"] (aB k9):=by walk_at "S"
theorem qs {f:Ac}{fd:Ak}(G:e7 K "Walk" "follow" "Walk.follow" hI f fd)(B:b9 mg)(KV:bZ K)(C:dE K "Walk" bD)(l:cS P w K mg base "Walk" "is_whole" 1 ["self"] (b7 K 1 d7))(k:cS P w K mg base "Walk" "take" 4 ["self","told"] (pF K 2 "Walk" bD iC)):
  cS P w K mg base "Walk" "follow" 5 ["self","bits"] (pF K 2 "Walk" bD jA):=by
 refine cS.of G jE (by walk_at "b") rfl (λc A o s H E n=>⟨_,_,(aH (cX AG rfl (WJ (pv 1)) (bt (i:=2) jE.nd rfl (Ar rfl)) (aG (cu (cQ (eY l (n.mono (by decide)) (pv 0))) (aH P8) bM)
   (aH (bR (ed k (n.mono (by decide)) (pv 0) (ae (eD gw (pv 2) iR (bJ _)) aD))))))),
  (c_ (Wo aC) bu (aT (cz (gk (bX (gm C (by decide +kernel) aC aO))) Ph bP)
   (fU C (by decide +kernel) (aA (aP gL aC (aM iN)) aJ)))),?_⟩)
 rintro a ts ds J ⟨w,v,bs,rfl,rfl,q,h⟩;fin2;rw[pI,A9];refine⟨λi δ=>∃(j:Wk) (o:Option Sl),jm j (bs.drop i) v/\δ=[some (.own (.ob (some a) "Walk" bD j.ts)),vD (.str (dd bs)),o],⟨w,none,q,rfl⟩,?_,?_⟩
 .rintro i d δ hd ⟨j,o,g,rfl⟩;obtain⟨b,m,rfl⟩:=mX hd;have hi:=(Ab.mp m).1;have r:bs.drop i=b::bs.drop (i+1):=by
   rw[List.drop_eq_getElem_cons hi];rw[Ad hi]at m;rw[A6 m]
  rw[r]at g;simp only[gN,KD,CD,C5];gn_on;refine⟨j,by rw[OV.c4],?_⟩;fin2
  cases g with
  |whole hl=>
   rw[if_pos hl];exact h
  | @step _ _ ah p _ _ z u hf e h1 t=>
   rw[if_neg (by lia)];gp_on;fin2;refine⟨j,ah,p,b,rfl,hf,by rw[RT],e,z,u,h1,?_⟩;exact⟨_,_,t,rfl⟩
 .rintro δ ⟨j,o,g,rfl⟩;rw[Au,List.drop_length]at g;cases g;exact⟨_,rfl,h⟩
theorem rL {f:Ac}{fd:Ak}(z:e7 K "Walk" "spans" "Walk.spans" iJ f fd)(B:b9 mg)(KV:bZ K)(C:dE K "Walk" bD)(G:∃t,mg "SPAN"=some (.int 3 t))(k:∃t,mg "END_walks"=some (.int 2 t))(g:∃t,mg "START_walks"=some (.int 1 t)):
  cS P w K mg base "Walk" "spans" 1 ["self"] (b7 K 1 kP):=by
 refine UL.of z gY (by walk_at "b") rfl (λc A o s H E J=>⟨_,_,(aG (bp (i:=1) gY.nd rfl (Ar rfl) (c8 aD))
   (aG (cX AG rfl (df (aV Tj (ck (pv 0) rfl) (qg rfl B.list rfl B.reversed (ae (ck (pv 0) rfl) aD)))) (bt (i:=2) gY.nd rfl (Ar rfl)) (aH (bR (gs Bd PySem.F.slot_list_extend PySem.F.type_list_extend qy (pv 1) (ae (aV yE (c8 (ae (aR aS (pv 2) (aN (by rfl) G) (λ_ _=>rfl)) aD)) (aV di (aR aS (pv 2) (aN (by rfl) k) (λ_ _=>rfl)) (aR aS (pv 2) (aN (by rfl) g) (λ_ _=>rfl)))) aD)))))
   (aH (aX (pv 1))))),
  (aT (bB (d3 c7))
   (aT (c_ (dR (bX (SU (cV (j:=3) C (by rfl) aC) (aM (bX (pU (aI (cV (j:=4) C (by rfl) aC) aO))))))) bu (Pg (bX (uD (d3 (ey (br (bF aU aE aF)) c7)) (aM (aP bU (bx (dm.b aU) aC (aM aF)) (bx (dm.b aU) aC (aM aF))))))))
   fT)),?_⟩)
 rintro ds M ⟨w,rfl,h1,h2,q,u,h⟩;unfold Wk.ts;gn_on;gp_on;gn_on;rw[oQ,oQ];have v:∀l:List D,BA OV.val (BA OV.fz l)=l:=λl=>by
  rw[A9];exact K3 l
 simp only[v];rw[<- Ct,<- A_];refine⟨uR _,by lia,uR _,uR _,by simp;lia,?_⟩;have n:∀p∈w.wk++w.ah.reverse,0<=p.e-p.s/\p.e-p.s<=100000:=λp m=>u p (by simpa using m)
 unfold fo at h q;generalize w.wk++w.ah.reverse=ps at h q n;refine⟨λi δ=>∃(o:Option Sl),δ=[some (Sl.own (OV.fz (D.obj (Bp "Walk") bD [D.int w.pl,D.int w.us,D.lst (BA D.int w.re),D.lst (BA Pa.d w.wk),D.lst (BA Pa.d w.ah)]))),some (Sl.own (OV.nl (((ps.take i).flatMap λp=>An (p.e-p.s).toNat p.sp).map .fz))),o],⟨none,rfl⟩,?_,?_⟩
 .rintro i d δ hd ⟨o,rfl⟩;obtain⟨p,m,rfl⟩:=mX hd;have hi:=(Ab.mp m).1;rw[mN];simp only[gN,CD,C5];fin2;have r:=n p (Ai m);have L:((ps.take i).flatMap λp=>An (p.e-p.s).toNat p.sp).length<=900000:=by
   refine Bv ?_ q;rw[<- CS i ps,Hc,AF];simp
  refine⟨⟨r.1,by lia⟩,by rw[Bs];(clear h1 h2;lia),some (Sl.own (OV.fz (D.tup [D.int p.a,D.int p.s,D.int p.e,D.tup [D.int p.lo,D.int p.hi]]))),?_⟩;have ht:ps.take (i+1)=ps.take i++[p]:=by rw[Fd,m];rfl
  rw[ht,Hc,A_,DQ];simp only[DB,List.flatMap_nil,Bj,DQ];rfl
 .rintro δ ⟨o,rfl⟩;gp_on;fin2;rw[BC];exact h
theorem wK {f:Ac}{fd:Ak}(g:bL K mg "followed" k9 f fd)(B:b9 mg)(KV:bZ K)(C:dE K "Walk" bD)(a:sk P w K mg base "Walk" 2 ["self","many","planes"] (pF K 3 "Walk" bD fc))(l:cS P w K mg base "Walk" "follow" 5 ["self","bits"] (pF K 2 "Walk" bD jA)):
  cg P w K mg base "followed" 6 ["bits","many","planes"] (b7 K 3 nz):=by
 refine cZ.of g nD (by walk_at "b") rfl (λc A o s H E r=>⟨_,_,(aG (bp (i:=3) nD.nd rfl (Ar rfl) (uQ a (r.mono (by decide)) (by rfl) (ae (pv 1) (ae (pv 2) aD))))
   (aG (bR (ed l (r.mono (by decide)) (pv 3) (ae (pv 0) aD)))
   (aH (aX (pv 3))))),
  (aT (bB (K8 C (aA aE (aA aE aJ))))
   (aT (fU C (by decide +kernel) (aA aE aJ))
   fT)),?_⟩)
 rintro ds j ⟨bs,m,n,v,rfl,hn,e,h⟩;gn_on;refine⟨m,n,rfl,rfl,hn,?_⟩;gp_on;gn_on;refine⟨_,v,bs,rfl,rfl,e,?_⟩;gp_on;fin2;exact h
theorem sP {w:Wk}:w.dy.us=w.us/\w.dy.re.length<=w.re.length+1/\w.dy.pl<=w.pl/\(w.dy.re.length:Int)+w.dy.pl<=w.re.length+w.pl:=by
 unfold Wk.dy;split
 .unfold Wk.turn;split
  .refine ⟨rfl,by simp,by show w.pl-1<=w.pl;lia,?_⟩;show (((w.re++[w.us]).length:Nat):Int)+(w.pl-1)<=_
   rw[AF,BM];lia
  .refine ⟨rfl,by simp,by show w.pl-1<=w.pl;lia,?_⟩;show (((w.re++[w.us]).length:Nat):Int)+(w.pl-1)<=_
   rw[AF,BM];lia
 .exact ⟨rfl,by lia,Ba _,Ba _⟩
theorem vZ {m:Nat}{w:Wk}(S:kb m w)(M:m<400000)(h:w.re.length<900000):w.fits:=by
 have:=fw S.sh.ch;rw[AF,BQ]at this;exact⟨h,by lia,by lia⟩
theorem Oy {xs:List Int}{m:Nat}(f:xs.length=m)(M:0<m)(j:m<400000):∀(N:Nat) (w:Wk),mu m w<=N->kb m w->de xs w->w.pl<=5000->(w.re.length:Int)+w.pl<800000->
  ∃bs v,rl xs w bs/\jm w bs v/\v.pl<0/\kb m v/\de xs v/\bs.length<=mu m w/\v.us=w.us+bs.length:=by
 intro N
 induction N with
 |zero=>
  intro w hN S C B hr;by_cases g:w.pl<0
  .exact ⟨[],w,.done g,.nil,g,S,C,Br _,by simp⟩
  .obtain ⟨ah,p,e⟩:∃ah p,w.ah=ah++[p]:=⟨_,_,(BO (S.ne (by lia))).symm⟩
   have:=pz (b:=true) S.sh e;unfold mu at hN;rw[if_neg g]at hN;lia
 |succ N ih=>
  intro w hN S C B hr;by_cases g:w.pl<0
  .exact ⟨[],w,.done g,.nil,g,S,C,Br _,by simp⟩
  .obtain ⟨k,l⟩:∃k:Nat,w.pl=k:=⟨w.pl.toNat,by lia⟩
   have G:w.pl.toNat=k:=by lia
   obtain⟨ah,p,e⟩:∃ah p,w.ah=ah++[p]:=⟨_,_,(BO (S.ne (by lia))).symm⟩
   have n:L9 m k w:=G▸S.sh;have hA:=n.ah p (by rw[e];simp);have h:=ik (p:=p) n.ch (by rw[e];simp);have O:=n.x9 ah p e;have J:=kY (b:=fW xs (k:Int) p) n l e;obtain⟨q1,q2,q3⟩:=ud (b:=fW xs (k:Int) p);have c:(w.step ah p (fW xs (k:Int) p)).pl=k:=by rw[q1];exact l
   have S2:=iP (by lia) J c;have C1:vE xs k (w.step ah p (fW xs (k:Int) p)):=(vR l e hA O (by rw[f];exact h.2.2)).mpr ⟨by unfold de at C;rw[G]at C;exact C,rfl⟩;have C2:de xs (w.step ah p (fW xs (k:Int) p)).dy:=(pY (by rw[c];lia) (pa J)).mpr (by unfold de;rw[c];exact C1);obtain⟨r1,r2,r3,r4⟩:=sP (w:=w.step ah p (fW xs (k:Int) p));have u:=sQ J c;have L:=pz (b:=fW xs (k:Int) p) n e;have hw:mu m w=3*m*k+eM w.ah:=by unfold mu;rw[if_neg g,G]
   rw[ q3]at r4;obtain⟨bs,v,U,t2,T,Q,t5,A,t⟩:=ih _ (by lia) S2 C2 (by (clear f M j hN h r2 u hw;lia)) (by (clear f M j hN h u hw;lia));have hf:=vZ S j (by (clear f M j hN h u hw T A t;lia));have o:p.a=1->fW xs (k:Int) p=false->ah≠[]:=λz _=>by
    obtain⟨r,q,er,_⟩:=O.x9 z;rw[er];simp
   refine⟨fW xs (k:Int) p::bs,v,?_,?_,T,Q,t5,?_,?_⟩
   .have:=rl.step (by (clear f M j hN h u hw T A t;lia)) B hf e ⟨h.1,h.2.1,by rw[f];exact h.2.2⟩ (by rw[l];exact o) (by rw[l];exact U);rw[l]at this;exact this
   .exact jm.step (by (clear f M j hN h u hw T A t;lia)) B hf e o t2
   .rw [AR];(clear hN T t;lia)
   .rw [t,r1,AR];lia
noncomputable def dot (x:Int):D:=.tup [.int x,.int x]
theorem Qj {xs:List Int}{p:Pa}(k:Yd 0 p)(hc:CW xs 0 p)(a:p.e<=(xs.length:Int)):An (p.e-p.s).toNat p.sp=((xs.drop p.s.toNat).take (p.e-p.s).toNat).map dot:=by
 obtain⟨q,h1,h2⟩:=k;have hl:((xs.drop p.s.toNat).take (p.e-p.s).toNat).length=(p.e-p.s).toNat:=by
  rw[BD,DX];omega
 have key:∀x∈(xs.drop p.s.toNat).take (p.e-p.s).toNat,p.sp=dot x:=by
  intro x j;obtain⟨i,hi⟩:=DM.mp j;have l:=(Ab.mp hi).1;rw[hl]at l;rw[Ci l,Fu]at hi;have hg:xs.getD (p.s.toNat+i) 0=x:=by rw[Aj,hi];rfl
  unfold Pa.sp dot;rcases h2 with⟨m,r,⟨A,_⟩⟩ | ⟨o,A,n⟩
  .obtain ⟨g,C⟩:=hc.1 m;have f:i=0:=by (clear a hl hg g C;lia)
   subst f;rw[Ij]at hg;rw[hg]at g C;have:p.hi-p.lo=0:=by simpa using A
   rw[show p.lo=x by (clear a hl hg;lia),show p.hi=x by (clear a hl hg;lia)]
  .have:=hc.2 o (p.s.toNat+i) (by (clear a hl hg;lia)) (by (clear a hl hg;lia));rw[hg]at this;have c:x=0:=by
    have:x.natAbs<1:=by simpa using this
    lia
   rw[A,n,c];rfl
 refine Ep λi=>?_
 by_cases hi:i<(p.e-p.s).toNat
 .have h:i<((xs.drop p.s.toNat).take (p.e-p.s).toNat).length:=by rw[hl];exact hi
  rw[CZ,if_pos hi,AH,Ad h,key _ (BH h)];rfl
 .rw [Bg (by rw[Bs];lia),Bg (by rw[Au];lia)]
theorem tO {xs:List Int}:∀{ps:List Pa} {a b:Int},dW a ps b->0<=a->b<=(xs.length:Int)->(∀p∈ps,Yd 0 p/\CW xs 0 p)->(ps.flatMap λp=>An (p.e-p.s).toNat p.sp)=((xs.drop a.toNat).take (b-a).toNat).map dot
 | [],a,b,h,_,_,_=>by cases (show a=b from h);simp
 |p::ps,a,b,⟨h1,h2,f⟩,m,B,k=>by
  have l:=fw f;have c:=k p (by simp);rw[DB,tO f (by lia) B (λq Q=>k q (by simp[Q])),Qj c.1 c.2 (by lia),<- A_];subst h1;have g:(b-p.s).toNat=(p.e-p.s).toNat+(b-p.e).toNat:=by lia
  have j:p.e.toNat=p.s.toNat+(p.e-p.s).toNat:=by (clear B l g;lia)
  rw[g,List.take_add,List.drop_drop,<- j]
theorem MT {xs:List Int}{m:Nat}{v:Wk}(f:xs.length=m)(S:kb m v)(C:de xs v)(h:v.pl<0):fo v=xs.map dot:=by
 obtain⟨h1,h2⟩:=S.wh h;have e:v.pl.toNat=0:=by lia
 have c:=S.sh;rw[e]at c;unfold de at C;rw[e]at C;have hc:=c.ch;rw[h2]at hc;unfold fo;rw[h2];have:=tO (xs:=xs) hc (by lia) (by lia) (λp a=>by
  have a:p∈v.wk:=by simpa using a
  exact⟨c.wk p a,C.1 p a⟩)
 rw[this];rw[show ((m:Int)-0).toNat=xs.length by lia];simp
theorem tN:∀{ps:List Pa} {a b:Int},dW a ps b->(ps.flatMap λp=>An (p.e-p.s).toNat p.sp).length=(b-a).toNat
 | [],a,b,h=>by cases (show a=b from h);simp
 |p::ps,a,b,⟨h1,h2,c⟩=>by
  have l:=fw c;rw[DB,AF,tN c,Bs];lia
theorem MV {m:Nat}{w:Wk}(S:kb m w)(M:m<=100000):w.wk.length<400000/\w.ah.length<400000/\(fo w).length=m/\∀p∈w.wk++w.ah,0<=p.e-p.s/\p.e-p.s<=100000:=by
 have h1:=fw S.sh.ch;rw[AF,BQ]at h1;refine⟨by lia,by lia,by unfold fo;rw[tN S.sh.ch];lia,λp h=>?_⟩;have:=ik S.sh.ch (by simpa using h);lia
theorem nv (m n:Nat):(Wk.turn ⟨n,0,[],[⟨0,0,m,1-2^n,2^n-1⟩],[]⟩).pl=n-1/\(Wk.turn ⟨n,0,[],[⟨0,0,m,1-2^n,2^n-1⟩],[]⟩).re=[]/\(Wk.turn ⟨n,0,[],[⟨0,0,m,1-2^n,2^n-1⟩],[]⟩).us=0/\mu m (Wk.turn ⟨n,0,[],[⟨0,0,m,1-2^n,2^n-1⟩],[]⟩)<=3*m*n:=by
 unfold Wk.turn;split
 .rename_i c;refine⟨rfl,rfl,rfl,?_⟩;have c:(n:Int)-1>=0:=c;obtain⟨k,rfl⟩:∃k,n=k+1:=⟨n-1,by lia⟩
  unfold mu;rw[if_neg (by show ¬ ((k+1:Nat):Int)-1<0;lia)];show 3*m*(((k+1:Nat):Int)-1).toNat+eM [_]<=_
  rw[jU,show (((k+1:Nat):Int)-1).toNat=k by lia];unfold M8;show 3*m*k+(3*((m:Int)-0).toNat-1)<=3*m*(k+1)
  rw[JG];lia
 .rename_i c;have c:¬ (n:Int)-1>=0:=c;refine⟨rfl,rfl,rfl,?_⟩;unfold mu;rw[if_pos (by show (n:Int)-1<0;lia)];exact Br _
theorem tJ {w v u:Wk}{as bs:List Bool}(h:jm w as v)(h2:jm v bs u):jm w (as++bs) u:=by
 induction h with
 |nil=>exact h2
 |whole h=>
  cases h2 with
  |nil=>exact .whole h
  |whole _=>exact .whole h
  |step f=>lia
 |step h c hf e h1 t a=>exact .step h c hf e h1 (a h2)
theorem oU {m:Nat}(M:0<m)(j:m<400000):∀(bs:List Bool) (w:Wk),kb m w->w.pl<=5000->(w.re.length:Int)+w.pl<800000->
  ∃(v:Wk) (u:Nat),jm w bs v/\kb m v/\u<=bs.length/\v.us=w.us+u/\mu m v+u<=mu m w/\(0<=v.pl->u=bs.length)/\(0<=w.pl->v.pl<0->1<=u)/\v.pl<=w.pl/\(v.re.length:Int)+v.pl<=w.re.length+w.pl/\
   ∀xs:List Int,xs.length=m->de xs v->de xs w/\∀ts,rl xs v ts->rl xs w (bs.take u++ts)
 | [],w,S,B,hr=>⟨w,0,.nil,S,Ah _,by simp,by lia,(λ_=>rfl),(λa b=>by lia),Ba _,Ba _,λxs g C=>⟨C,λts t=>t⟩⟩
 |b :: bs,w,S,B,hr=>by
  by_cases hp:w.pl<0
  .exact ⟨w,0,.whole hp,S,Br _,by simp,by lia,(λz=>by lia),(λa _=>by lia),Ba _,Ba _,λxs g C=>⟨C,λts t=>t⟩⟩
  .obtain ⟨k,f⟩:∃k:Nat,w.pl=k:=⟨w.pl.toNat,by lia⟩
   have G:w.pl.toNat=k:=by lia
   obtain⟨ah,p,e⟩:∃ah p,w.ah=ah++[p]:=⟨_,_,(BO (S.ne (by lia))).symm⟩
   have l:L9 m k w:=G▸S.sh;have hA:=l.ah p (by rw[e];simp);have h:=ik (p:=p) l.ch (by rw[e];simp);have hB:=l.x9 ah p e;have J:=kY (b:=b) l f e;obtain⟨Q,q2,q3⟩:=ud (w:=w) (ah:=ah) (p:=p) (b:=b);have c:(w.step ah p b).pl=k:=by rw[Q];exact f
   have S2:=iP (by lia) J c;obtain⟨r1,r2,r3,r4⟩:=sP (w:=w.step ah p b);have U:=sQ J c;have O:=pz (b:=b) l e;have hw:mu m w=3*m*k+eM w.ah:=by unfold mu;rw[if_neg hp,G]
   rw[Q]at r3;rw[Q,q3]at r4;obtain⟨v,u,t1,t2,L,n,t5,t6,t7,t8,t9,A⟩:=oU M j bs _ S2 (by (clear M j h r2 U hw;lia)) (by lia);have hf:=vZ S j (by lia);have o:p.a=1->b=false->ah≠[]:=λz _=>by
    obtain⟨r,q,er,_⟩:=hB.x9 z;rw[er];simp
   refine⟨v,u+1,.step (by lia) B hf e o t1,t2,by rw[AR];lia,by rw[n,r1,q2];lia,by lia,(λz=>by rw[AR,t6 z]),(λ_ _=>by lia),by (clear M j h U hw L n t5;lia),by (clear M j h U hw L n t5;lia),λxs g C=>?_⟩;obtain⟨c1,c2⟩:=A xs g C;have C1:vE xs k (w.step ah p b):=by
    have:=(pY (by rw[c];lia) (pa J)).mp c1;unfold de at this;rw[c,AQ]at this;exact this
   obtain⟨C0,hb⟩:=(vR f e hA hB (by rw[g];exact h.2.2)).mp C1;refine⟨by unfold de;rw[G];exact C0,λts t=>?_⟩;have:=c2 ts t;rw[List.take_succ_cons,CM];rw[hb]at this o ⊢;have T:=rl.step (xs:=xs) (w:=w) (ah:=ah) (p:=p) (bs:=bs.take u++ts) (by lia) B hf e ⟨h.1,h.2.1,by rw[g];exact h.2.2⟩ (by rw[f];exact o) (by rw[f];exact this);rw[f]at T;exact T
theorem me {k:Type}(f:Pa->k):∀{ps:List Pa} {a b:Int} {p:Pa} {i:Int},dW a ps b->p∈ps->p.s<=i->i<p.e->(ps.flatMap λp=>An (p.e-p.s).toNat (f p))[(i-a).toNat]?=some (f p)
 |q :: ps,a,b,p,i,⟨h1,h2,j⟩,l,g,c=>by
  rw[DB];rcases AJ.mp l with rfl |h
  .rw [AW (by rw[Bs];lia),CZ,if_pos (by lia)]
  .have:=(ik j h).1;rw[Bb (by rw[Bs];lia),Bs];have:=me f j h g c;rw[show (i-a).toNat-(q.e-q.s).toNat=(i-q.e).toNat by lia];exact this
theorem gQ:∀{ps:List Pa} {a b i:Int},dW a ps b->a<=i->i<b->∃p∈ps,p.s<=i/\i<p.e
 | [],a,b,i,h,h1,h2=>by cases (show a=b from h);omega
 |q :: ps,a,b,i,⟨h1,h2,k⟩,g,c=>by
  by_cases h:i<q.e
  .exact ⟨q,by simp,by lia,h⟩
  .obtain ⟨p,f,j⟩:=gQ k (show q.e<=i by lia) c;exact⟨p,by simp[f],j⟩
theorem Ì {m:Nat}{w:Wk}(S:kb m w){i:Nat}(hi:i<m):∃p∈w.wk++w.ah,p.s<=i/\(i:Int)<p.e/\(fo w)[i]?=some p.sp:=by
 obtain⟨p,h,h1,h2⟩:=gQ S.sh.ch (show (0:Int)<=i by lia) (by lia);refine⟨p,by simpa using h,h1,h2,?_⟩;have:=me Pa.sp S.sh.ch h h1 h2;exact this
theorem Na {m:Nat}{w:Wk}(S:kb m w){p:Pa}(g:p∈w.wk++w.ah):p.lo<=p.hi:=by
 have q:∀k:Nat,(0:Int)<2^k:=nK
 have Q:=q w.pl.toNat;rcases AB.mp g with h |h
 .obtain ⟨f,e,c⟩:=S.sh.wk p h;rcases c with⟨_,_,a,_⟩ | ⟨_,L,l⟩<;>lia
 .obtain ⟨f,e,c⟩:=S.sh.ah p h;rcases c with⟨_,_,a,_⟩ | ⟨_,L,l⟩ | ⟨_,_,L,l⟩<;>lia
theorem Zo {m:Nat}{v:Wk}(S:kb m v)(h:v.pl<0):∃xs:List Int,xs.length=m/\de xs v:=by
 obtain⟨h1,h2⟩:=S.wh h;have k:v.pl.toNat=0:=by lia
 have f:=S.sh;rw[k]at f;have hc:=f.ch;rw[h2,List.reverse_nil,Bj]at hc;have at':∀p∈v.wk,∀i:Nat,p.s<=i->(i:Int)<p.e->(v.wk.flatMap λp=>An (p.e-p.s).toNat p.lo).getD i 0=p.lo:=λp c i a b=>by
  have:=me Pa.lo hc c a b;rw[show ((i:Int)-0).toNat=i by lia]at this;rw[Aj,this];rfl
 refine⟨v.wk.flatMap λp=>An (p.e-p.s).toNat p.lo,?_,?_⟩
 .have:∀{ps:List Pa} {a b:Int},dW a ps b->(ps.flatMap λp=>An (p.e-p.s).toNat p.lo).length=(b-a).toNat:=by
   intro ps
   induction ps with
   |nil=>intro a b h;cases (show a=b from h);simp
   |cons p ps n=>
    rintro a b ⟨h1,h2,j⟩;have u:=fw j;rw[DB,AF,n j,Bs];lia
  rw[this hc];lia
 .unfold de vE Sb;rw[k,h2];refine⟨λp c=>?_,(λp c=>by cases c),λr q p e=>by simp at e⟩;obtain⟨A,z,g⟩:=f.wk p c;refine⟨λa=>?_,λa i t o=>?_⟩
  .rw [at' p c p.s.toNat (by lia) (by lia)];rcases g with⟨_,_,a,_⟩ | ⟨_,l,L⟩
   .lia
   .lia
  .rw [at' p c i t o];rcases g with⟨B,_⟩ | ⟨_,l,L⟩
   .lia
   .rw [l];decide
theorem X8 {xs:List Int}{n:Nat}(h:de xs (Wk.turn ⟨n,0,[],[⟨0,0,xs.length,1-2^n,2^n-1⟩],[]⟩)):∀x∈xs,x.natAbs<2^n:=by
 have:=(pj (w:=⟨n,0,[],[⟨0,0,xs.length,1-2^n,2^n-1⟩],[]⟩) (by show 0<=(n:Int);lia) rfl (λp c=>by rw[A3.mp c];exact .inl rfl)).mp h;unfold de at this;have:=(this.1 _ (A3.mpr rfl)).2 rfl;intro x a;obtain⟨i,hi⟩:=DM.mp a;have l:=(Ab.mp hi).1;have:=this i (by show (0:Int)<=i;lia) (by show (i:Int)<xs.length;lia);rw[Aj,hi]at this;have h2:x.natAbs<2^(n:Int).toNat:=this;rw[AQ]at h2;exact h2
noncomputable def dv (w:Wk):List (Int×Int):=(w.wk++w.ah.reverse).flatMap λp=>An (p.e-p.s).toNat (p.lo,p.hi)
theorem mF {m:Nat}{w:Wk}(S:kb m w){p:Pa}{i:Nat}(h:p∈w.wk++w.ah)(h1:p.s<=i)(h2:(i:Int)<p.e):(dv w)[i]?=some (p.lo,p.hi):=by
 have:=me (λp=>(p.lo,p.hi)) S.sh.ch (by simpa using h) h1 h2;rw[show ((i:Int)-0).toNat=i by lia]at this;exact this
theorem kZ {m:Nat}{w:Wk}(S:kb m w):(dv w).length=m:=by
 have:∀{ps:List Pa} {a b:Int},dW a ps b->(ps.flatMap λp=>An (p.e-p.s).toNat (p.lo,p.hi)).length=(b-a).toNat:=by
  intro ps
  induction ps with
  |nil=>intro a b h;cases (show a=b from h);simp
  |cons p ps f=>
   rintro a b ⟨h1,h2,c⟩;have l:=fw c;rw[DB,AF,f c,Bs];lia
 unfold dv;rw[this S.sh.ch];lia
structure R1 (G:Pa->Prop) (b:Bool):Prop where
 Ĝ:∀k p,p.a=3->Sa (k+1) p->G p->G (p.bG k b)
 sig:∀k p,p.a=2->Sa (k+1) p->G p->G (p.signed k b)
 w2:∀k q,(q.a=0∨q.a=1)->Sa (k+1) q->G q->G ⟨2,q.s,q.e,q.lo,q.hi⟩
 w0:∀k q,(q.a=0∨q.a=1)->Sa (k+1) q->G q->∀m,q.s<=m->m<=q.e->G ⟨0,m,q.e,q.lo,q.hi⟩/\G ⟨1,q.s,m,q.lo,q.hi⟩
 calm:b=false->∀k q,(q.a=0∨q.a=1)->Sa (k+1) q->G q->G ⟨0,q.s,q.e,1-2^k,2^k-1⟩
def sm (G:Pa->Prop)(w:Wk):Prop:=(∀p∈w.wk,G p)/\∀p∈w.ah,G p
theorem sr {G:Pa->Prop}{b:Bool}(K:R1 G b){k:Nat}{w:Wk}{q:Pa}(h:sm G w)(Q:G q)(A:q.a=0∨q.a=1)(f:Sa (k+1) q):sm G (w.wake q):=by
 unfold Wk.wake;split
 .refine ⟨h.1,λp c=>?_⟩;have c:p∈w.ah++[⟨2,q.s,q.e,q.lo,q.hi⟩]:=c;rcases AB.mp c with z |z
  .exact h.2 p z
  .rw [A3.mp z];exact K.w2 k q A f Q
 .refine ⟨h.1,λp c=>?_⟩;have c:p∈w.ah++[⟨0,(q.s+q.e) / 2,q.e,q.lo,q.hi⟩,⟨1,q.s,(q.s+q.e) / 2,q.lo,q.hi⟩]:=c;have l:=f.2.1;obtain⟨g1,g2⟩:=K.w0 k q A f Q ((q.s+q.e) / 2) (by lia) (by lia);rcases AB.mp c with z |z
  .exact h.2 p z
  .rcases AJ.mp z with z |z
   .rw [z];exact g1
   .rw [A3.mp z];exact g2
theorem MS {G:Pa->Prop}{b:Bool}(K:R1 G b){m:Int}{k:Nat}{w:Wk}{ah:List Pa}{p:Pa}(S:L9 m k w)(O:w.pl=k)(e:w.ah=ah++[p])(h:sm G w):sm G (w.step ah p b):=by
 have o:w.pl.toNat=k:=by lia
 have g:G p:=h.2 p (by rw[e];simp);have f:=S.ah p (by rw[e];simp);have A:∀q∈ah,G q:=λq Q=>h.2 q (by rw[e];simp[Q])
 have J:=S.x9 ah p e;unfold Wk.step;split
 .rename_i t;refine⟨λq Q=>?_,A⟩;have Q:q∈w.wk++[p.bG w.pl.toNat b]:=Q;rcases AB.mp Q with z |z
  .exact h.1 q z
  .rw [A3.mp z,o];exact K.Ĝ k p t f g
 .split
  .rename_i u;refine⟨λq Q=>?_,A⟩;have Q:q∈w.wk++[p.signed w.pl.toNat b]:=Q;rcases AB.mp Q with z |z
   .exact h.1 q z
   .rw [A3.mp z,o];exact K.sig k p u f g
  .rename_i t u;have v:p.a=0∨p.a=1:=by
    rcases f.2.2 with⟨z,_⟩ | ⟨z,_⟩ | ⟨z,_⟩
    .exact absurd z t
    .exact z
    .exact absurd z u
   split
   .exact sr K (k:=k) (w:={w with us:=w.us+1,ah:=ah}) ⟨h.1,A⟩ g v f
   .rename_i B;have B:b=false:=by simpa using B
    have hc:G ⟨0,p.s,p.e,1-2^w.pl.toNat,2^w.pl.toNat-1⟩:=by rw[o];exact K.calm B k p v f g
    have c:∀q∈w.wk++[(⟨0,p.s,p.e,1-2^w.pl.toNat,2^w.pl.toNat-1⟩:Pa)],G q:=λq Q=>by
     rcases AB.mp Q with z |z
     .exact h.1 q z
     .rw [A3.mp z];exact hc
    unfold Wk.calm;split
    .rename_i L;obtain⟨r,q,C,n,_⟩:=J.x9 L;have M:q∈ah:=by rw[C];simp
     have l:ah.getLastD p=q:=by rw[C];simp
     show sm G (Wk.wake {w with us:=w.us+1,wk:=w.wk++[_],ah:=ah.dropLast} (ah.getLastD p))
     rw[l];refine sr K (k:=k) ⟨c,λz j=>A z ?_⟩ (A q M) (.inl n) (S.ah q (by rw[e];simp[M]));have j:z∈ah.dropLast:=j;exact List.dropLast_subset ah j
    .exact ⟨c,A⟩
theorem we {G:Pa->Prop}{w:Wk}(h:sm G w):sm G w.dy:=by
 unfold Wk.dy;split
 .unfold Wk.turn;split
  .refine ⟨(λp a=>by cases a),λp a=>h.1 p ?_⟩;have a:p∈w.wk.reverse:=a;simpa using a
  .exact ⟨h.1,h.2⟩
 .exact h
theorem Rq {G:Pa->Prop}{m:Nat}(M:0<m){w v:Wk}{bs:List Bool}(F:jm w bs v):(∀b∈bs,R1 G b)->kb m w->sm G w->sm G v:=by
 induction F with
 |nil=>exact λ_ _ h=>h
 |whole _=>exact λ_ _ h=>h
 | @step w v ah p b bs h o hf e h1 t g=>
  intro K S j;obtain⟨k,a⟩:∃k:Nat,w.pl=k:=⟨w.pl.toNat,by lia⟩
  have l:w.pl.toNat=k:=by lia
  have f:L9 m k w:=l▸S.sh;have n:=iP (m:=m) (by lia) (kY (b:=b) f a e) (by rw[ud.1];exact a);exact g (λc hc=>K c (by simp[hc])) n (we (MS (K b (by simp)) f a e j))
noncomputable def Ô (p:Pa):Int:=if p.lo > 0 then p.hi else p.lo
noncomputable def Ż (p:Pa):Int:=if p.lo > 0 then p.lo else p.hi
theorem pG (p:Pa)(k:Nat)(b:Bool):(p.signed k b).s=p.s/\(p.signed k b).e=p.e/\(p.signed k b).a=3:=by
 unfold Pa.signed;split<;>exact⟨rfl,rfl,rfl⟩
theorem qX (p:Pa)(k:Nat)(b:Bool):(p.bG k b).s=p.s/\(p.bG k b).e=p.e/\(p.bG k b).a=3:=by
 unfold Pa.bG;split<;>exact⟨rfl,rfl,rfl⟩
theorem Y5 (c:Nat->Int):R1 (λp=>∀i:Nat,p.s<=i->(i:Int)<p.e->Ô p=c i) true where
 Ĝ := λk p a3 hs h i h1 h2=>by
  obtain⟨f1,f2,_⟩:=qX p k true;rw[f1]at h1;rw[f2]at h2;rw[<- h i h1 h2];have hp:=nK k;by_cases hl:p.lo > 0
  .have e:p.bG k true=⟨3,p.s,p.e,p.lo+2^k,p.hi⟩:=by
    unfold Pa.bG;rw[if_pos (by simp[hl])]
   rw[e];unfold Ô;rw[if_pos (by show p.lo+2^k > 0;lia),if_pos hl]
  .have e:p.bG k true=⟨3,p.s,p.e,p.lo,p.hi-2^k⟩:=by
    unfold Pa.bG;rw[if_neg (by simp[hl])]
   rw[e];unfold Ô;rw[if_neg (by exact hl),if_neg hl]
 sig := λk p a2 hs h i h1 h2=>by
  obtain⟨f1,f2,_⟩:=pG p k true;rw[f1]at h1;rw[f2]at h2;rw[<- h i h1 h2];have hp:=nK k;rcases hs.2.2 with⟨z,_⟩ | ⟨z,_⟩ | ⟨_,_,l1,l2⟩
  .lia
  .lia
  .unfold Ô Pa.signed;rw[if_pos rfl];show (if 1-2^k-2^k > (0:Int) then _ else (1-2^k-2^k:Int))=_
   have Ï:=mO k;rw[if_neg (by lia),if_neg (by lia),l1];lia
 w2:=λk q _ _ h=>h
 w0:=λk q _ _ h m h1 h2=>⟨λi a b=>h i (by have a:m<=i:=a;lia) b,λi a b=>h i a (by have b:(i:Int)<m:=b;lia)⟩
 calm:=λz=>by cases z
theorem T3 (L U:Nat->Int)(b:Bool):R1 (λp=>∀i:Nat,p.s<=i->(i:Int)<p.e->L i<=p.lo/\p.hi<=U i) b where
 Ĝ := λk p a3 hs h i h1 h2=>by
  obtain⟨f1,f2,f3⟩:=qX p k b;rw[f1]at h1;rw[f2]at h2;obtain⟨g1,g2⟩:=h i h1 h2;rcases hs.2.2 with⟨_,_,hk⟩ | ⟨z,_⟩ | ⟨z,_⟩
  .have:=(xG.bG (b:=b) hk).2;exact⟨by lia,by lia⟩
  .lia
  .lia
 sig := λk p a2 hs h i h1 h2=>by
  obtain⟨f1,f2,f3⟩:=pG p k b;rw[f1]at h1;rw[f2]at h2;obtain⟨g1,g2⟩:=h i h1 h2;have hp:=nK k;have Ï:=mO k;rcases hs.2.2 with⟨z,_⟩ | ⟨z,_⟩ | ⟨_,_,l1,l2⟩
  .lia
  .lia
  .unfold Pa.signed;cases b
   .rw [if_neg (by decide)];exact⟨by show L i<=2^k;lia,by show (2^k+2^k-1:Int)<=U i;lia⟩
   .rw [if_pos rfl];exact⟨by show L i<=1-2^k-2^k;lia,by show (-2^k:Int)<=U i;lia⟩
 w2:=λk q _ _ h=>h
 w0:=λk q _ _ h m h1 h2=>⟨λi a b=>h i (by have a:m<=i:=a;lia) b,λi a b=>h i a (by have b:(i:Int)<m:=b;lia)⟩
 calm:=λ_ k q ha hs h i h1 h2=>by
  obtain⟨g1,g2⟩:=h i h1 h2;have hp:=nK k;have Ï:=mO k;rcases hs.2.2 with⟨z,_⟩ | ⟨_,l1,l2⟩ | ⟨z,_⟩
  .lia
  .exact ⟨by show L i<=1-2^k;lia,by show (2^k-1:Int)<=U i;lia⟩
  .lia
theorem l' {w v a:Wk}{bs:List Bool}(h:jm w bs v)(h2:jm w bs a):v=a:=by
 induction h with
 |nil=>cases h2;rfl
 |whole h=>
  cases h2 with
  |whole _=>rfl
  |step f=>lia
 |step h j hf e h1 t c=>
  cases h2 with
  |whole f=>lia
  |step _ _ _ e' _ t'=>
   rw[e]at e';obtain⟨rfl,g⟩:=EF e' rfl;cases g;exact c t'
noncomputable def Q1 (x:Int)(k:Nat):Int×Int:=
 if (x.natAbs:Int) / 2^k*2^k=0 then (1-2^k,2^k-1) else if x<0 then (1-(x.natAbs:Int) / 2^k*2^k-2^k,0-(x.natAbs:Int) / 2^k*2^k) else ((x.natAbs:Int) / 2^k*2^k,(x.natAbs:Int) / 2^k*2^k+2^k-1)
theorem Xc {x lo hi:Int}{k:Nat}(e:xG k lo hi)(h1:lo<=x)(h2:x<=hi):Q1 x k=(lo,hi):=by
 obtain⟨hw,h⟩:=e;have a:=nK k;rcases h with⟨q,h,rfl⟩ | ⟨q,h,rfl⟩
 .have c:(x.natAbs:Int)=x:=by
   have:0<=q*2^k:=Fi (by lia) (by lia);lia
  have hd:(x.natAbs:Int) / 2^k=q:=by
   rw[c];exact ((Hf (r:=x-q*2^k) a).mpr ⟨by rw[DY (2^k) q];lia,by lia,by lia⟩).1
  have p:0<q*2^k:=He h a;unfold Q1;rw[hd,if_neg (by omega),if_neg (by lia)];rw[show q*2^k+2^k-1=hi by lia]
 .have p:0<q*2^k:=He h a;have c:(x.natAbs:Int) = -x:=by omega
  have hd:(x.natAbs:Int) / 2^k=q:=by
   rw[c];exact ((Hf (r:=-x-q*2^k) a).mpr ⟨by rw[DY (2^k) q];lia,by lia,by lia⟩).1
  unfold Q1;rw[hd,if_neg (by omega),if_pos (by omega)];rw[show 1-q*2^k-2^k=lo by lia,show 0-q*2^k = -(q*2^k) by lia]
theorem nest {m:Nat}(M:0<m){a b:Wk}{bs:List Bool}(F:jm a bs b)(A:kb m a)(B:kb m b){i:Nat}(hi:i<m):∃s t,(dv a)[i]?=some s/\(dv b)[i]?=some t/\s.1<=t.1/\t.1<=t.2/\t.2<=s.2:=by
 obtain⟨p,g,u,o⟩:=gQ A.sh.ch (show (0:Int)<=i by lia) (by lia);obtain⟨q,h,f,Q⟩:=gQ B.sh.ch (show (0:Int)<=i by lia) (by lia);have g:p∈a.wk++a.ah:=by simpa using g
 have h:q∈b.wk++b.ah:=by simpa using h
 have k:=mF A g u o;have L:=mF B h f Q;have G:sm (λr=>∀j:Nat,r.s<=j->(j:Int)<r.e->(λj=>((dv a).getD j (0,0)).1) j<=r.lo/\r.hi<=(λj=>((dv a).getD j (0,0)).2) j) a:=by
  have key:∀r∈a.wk++a.ah,∀j:Nat,r.s<=j->(j:Int)<r.e->(λj=>((dv a).getD j (0,0)).1) j<=r.lo/\r.hi<=(λj=>((dv a).getD j (0,0)).2) j:=λr C j v J=>by
   have:=mF A C v J;dsimp only;rw[Aj,this];exact⟨Ba _,Ba _⟩
  exact⟨λq h=>key q (by simp[h]),λq h=>key q (by simp[h])⟩
 have l:=Rq M F (λc _=>T3 _ _ c) A G;have n:(λj=>((dv a).getD j (0,0)).1) i<=q.lo/\q.hi<=(λj=>((dv a).getD j (0,0)).2) i:=by
  rcases AB.mp h with z |z
  .exact l.1 q z i f Q
  .exact l.2 q z i f Q
 dsimp only at n;rw[Aj,k]at n;exact⟨_,_,k,L,n.1,Na B h,n.2⟩
theorem Ur {m:Nat}(h:0<m)(M:m<400000){w v:Wk}{bs:List Bool}(F:jm w bs v)(S:kb m w)(t:w.pl<=5000)(r:(w.re.length:Int)+w.pl<800000)(h0:w.us=0){c:Nat}(hc:c<=bs.length):
  ∃u,jm w (bs.take c) u/\kb m u/\jm u (bs.drop c) v/\kb m v/\u.us=min (c:Int) v.us/\decide (u.pl<0)=(decide (v.pl<0) && decide (v.us<=(c:Int)))/\u.pl<=w.pl/\(u.re.length:Int)+u.pl<=w.re.length+w.pl:=by
 obtain⟨u,k,o,n,l,U,A,g,a7,T,Q,a10⟩:=oU h M (bs.take c) w S t r;obtain⟨v2,q,j,L,f,J,B,b6,G,b8,C,O⟩:=oU h M (bs.drop c) u n (by lia) (by lia);have p:=tJ o j;rw[CS]at p;have e:=l' F p;subst e;rw[BD,Ge hc]at l g;have a:u.pl<0->q=0:=λz=>by
  have:mu m u=0:=by unfold mu;rw[if_pos z]
  lia
 refine⟨u,o,n,j,L,?_,?_,T,Q⟩
 .by_cases z:u.pl<0
  .have:=a z;(clear h M hc A f B;lia)
  .have:=g (by lia);(clear h M hc A f B;lia)
 .rw [<- Bool.decide_and];refine decide_eq_decide.mpr ⟨λz=>?_,λz=>?_⟩
  .have:=a z;exact⟨by (clear h M hc l U A f J B C this;lia),by (clear h M hc A f B;lia)⟩
  .by_cases y:u.pl<0
   .exact y
   .have:=g (by omega);have:=G (by omega) z.1;clear h M hc A f B;lia
theorem RF {m:Nat}(h:0<m)(M:m<400000){w u v:Wk}{bs:List Bool}{c d:Nat}(C:c<=d)(F:jm w (bs.take c) u)(S:kb m u)(f:u.pl<=5000)(r:(u.re.length:Int)+u.pl<800000)(g:jm w (bs.take d) v):jm u ((bs.take d).drop c) v:=by
 obtain⟨j,k,B,_⟩:=oU h M ((bs.take d).drop c) u S f r;have a:=tJ F B;have e:bs.take c++(bs.take d).drop c=bs.take d:=by
  have:=CS c (bs.take d);rw[List.take_take,Ge C]at this;exact this
 rw[e]at a;rw[l' g a];exact B
noncomputable abbrev jG:AZ:=top 63
theorem um:aQ ["some"] ["some"] (aB jG):=by walk_at "S"
def lF:dF:=λds P=>∃xs:List Int,ds=[.lst (xs.map .int)]/\0<xs.length/\xs.length<=1000000/\∀M:Nat,(∃x∈xs,iW x=M)->(∀x∈xs,iW x<=M)->P (.fz (.int M))
theorem uS {f:Ac}{fd:Ak}(n:bL K mg "planes_of" jG f fd)(B:b9 mg)(KV:bZ K)(h:cg P w K mg base "heights_of" 1 ["some"] (b7 K 1 gU)):
  cg P w K mg base "planes_of" 2 ["some"] (b7 K 1 lF):=by
 refine cZ.of n um (by walk_at "b") rfl (λc A o s H E r=>⟨_,_,(aH (aX (aW (kr rfl) (by rfl) B.max Ib (ae (aZ h (r.mono (by decide)) (by rfl) (ae (pv 0) aD)) aD)))),
  (a_ (br (bT oY (aI (aM (bX (aY (aA aE aJ)))) aO)))),?_⟩)
 rintro ds p ⟨xs,rfl,a,g,k⟩;fin2;refine⟨xs,rfl,g,?_⟩;fin2;refine⟨xs.map λx=>(iW x:Int),by simp only[A9,Bx,OV.val],by simpa using a,λM j l=>?_⟩;obtain⟨x,m,rfl⟩:=Bf.mp j;refine k (iW x) ⟨x,m,rfl⟩ λy e=>?_
 have:=l (iW y) (Bf.mpr ⟨y,e,rfl⟩);lia
noncomputable def sZ (t m s:Int):Int:=if t-s<0 then t+s else t-s
noncomputable def sY (t m s:Int):Int:=if m<=t+s then t-s else t+s
noncomputable abbrev iH:AZ:=top 28
theorem gX:aQ ["at","many","stride","left","right"] ["at","many","stride"] (aB iH):=by walk_at "S"
def fq:dF:=λds P=>match ds with
 | [.int t,.int m,.int s]=>if t-s<0/\m<=t+s then P (.fz .cB) else P (.fz (.tup [.int (sZ t m s),.int (sY t m s)]))
 |_=>False
theorem rE {f:Ac}{fd:Ak}(e:bL K mg "neighbours" iH f fd)(B:b9 mg)(KV:bZ K):
  cg P w K mg base "neighbours" 1 ["at","many","stride"] (b7 K 3 fq):=by
 refine cZ.of e gX (by walk_at "b") rfl (λc A o s H E r=>⟨_,_,(aG (bp (i:=3) gX.nd rfl (Ar rfl) (aV di (pv 0) (pv 2)))
   (aG (bp (i:=4) gX.nd rfl (Ar rfl) (aV cq (pv 0) (pv 2)))
   (aG (cu (yw (bQ jX (pv 3) aK (bJ _)) (uL (bQ Ln (pv 4) (pv 1) (bJ _)))).pt (aH (aX qf)) bM)
   (aG (cu (bQ jX (pv 3) aK (bJ _)) (aH (aX (cb (ae (pv 4) (ae (pv 4) aD))))) bM)
   (aG (cu (bQ Ln (pv 4) (pv 1) (bJ _)) (aH (aX (cb (ae (pv 3) (ae (pv 3) aD))))) bM)
   (aH (aX (cb (ae (pv 3) (ae (pv 4) aD)))))))))),
  (aT (bB (br (aP bU aC aC)))
   (aT (bB (br (aP bU aC aC)))
   (aT (cz (yj (bO (aP dq aC (aM aF))) (bO (aP dq aC aC))) (a_ (br pX)) bP)
   (aT (cz (bO (aP dq aC (aM aF))) (a_ (br (cD (aA aE (aA aE aJ))))) bP)
   (aT (cz (bO (aP dq aC aC)) (a_ (br (cD (aA aE (aA aE aJ))))) bP)
   (a_ (br (cD (aA aE (aA aE aJ)))))))))),?_⟩)
 intro ds g h;unfold fq at h;split at h
 .rename_i t m a;fin2;unfold sZ sY at h;by_cases h1:t-a<0<;>by_cases h2:m<=t+a<;>simpa[h1,h2] using h
 .exact h.elim
theorem xb (xs:List Int)(t p:Nat)(v:Int)(h:t<xs.length):(xs.set t v).getD p 0=if p=t then v else xs.getD p 0:=by
 rw[Aj,Aj,Fh];by_cases e:p=t
 .subst e;rw[if_pos rfl,if_pos rfl,if_pos h];rfl
 .rw [if_neg (λz=>e z.symm),if_neg e]
theorem xi {F:Nat->List Int->Int}(S:Nat->Prop)(n:Nat)(c:∀t xs ys,xs.length=n->ys.length=n->S t->t<n->(∀p,p=t∨¬ S p->xs.getD p 0=ys.getD p 0)->F t xs=F t ys):
  ∀(ts:List Nat) (xs:List Int),xs.length=n->ts.Nodup->(∀t∈ts,S t/\t<n)->
   (ts.foldl (λxs t=>xs.set t (F t xs)) xs).length=n/\∀p,(ts.foldl (λxs t=>xs.set t (F t xs)) xs).getD p 0=if p∈ts then F p xs else xs.getD p 0
 | [],xs,hl,_,_=>⟨hl,λp=>by simp⟩
 |t :: ts,xs,hl,f,a=>by
  obtain⟨j,g⟩:=AD.mp f;obtain⟨st,lt⟩:=a t Az;obtain⟨m,k⟩:=xi S n c ts (xs.set t (F t xs)) (by rw[Bi];exact hl) g λu U=>a u (Aw _ U)
  refine⟨m,λp=>?_⟩;rw[BV,k p];by_cases h:p∈ts
  .rw [if_pos h,if_pos (Aw _ h)];obtain⟨sp,l⟩:=a p (Aw _ h);refine c p _ _ (by rw[Bi];exact hl) hl sp l λq Q=>?_
   rw[xb _ _ _ _ (by lia),if_neg];rintro rfl;rcases Q with rfl |Q
   .exact j h
   .exact Q st
  .rw [if_neg h,xb _ _ _ _ (by lia)];by_cases e:p=t
   .subst e;rw[if_pos rfl,if_pos Az]
   .rw [if_neg e,if_neg];intro z;rcases AJ.mp z with z |z
    .exact e z
    .exact h z
structure Lf where
 h:Int
 l:Int
 r:Int
 a:Int
 s:Int
structure Lf.Ok (f:Lf):Prop where
 h:f.h=0∨f.h=1
 l : -8<=f.l/\f.l<=8
 r : -8<=f.r/\f.r<=8
 a : -64<=f.a/\f.a<=64
 s:0<=f.s/\f.s<=8
noncomputable def kT (f:Lf)(x y:Int):Int:=(f.l*x+f.r*y+f.a) / 2^f.s.toNat
noncomputable def xn (h n st:Int):Nat:=(if h*st<n then (n-h*st-1) / (2*st)+1 else 0).toNat
theorem vo {h n st:Int}(c:0<st)(i:Nat):i<xn h n st↔h*st+(i:Int)*(2*st)<n:=by
 unfold xn;have h2:0<2*st:=by lia
 have f:0<=(i:Int)*(2*st):=Fi (by lia) (by lia);split
 .have e:=EK (a:=(i:Int)) (b:=n-h*st-1) h2;constructor
  .intro z;lia
  .intro z;lia
 .lia
noncomputable def cF (h n st:Int):List Int:=if n<=st then [] else (AE (xn h n st)).map λ(i:Nat)=>h*st+(i:Int)*(2*st)
theorem eX {h n st t:Int}(a:0<st):t∈cF h n st↔¬ n<=st/\t<n/\∃i:Nat,t=h*st+(i:Int)*(2*st):=by
 unfold cF;split
 .rename_i hn;constructor
  .intro z;cases z
  .intro z;exact absurd hn z.1
 .rename_i hn;rw[Bf];constructor
  .rintro ⟨i,hi,rfl⟩;exact⟨hn,(vo a i).mp (BK.mp hi),i,rfl⟩
  .rintro ⟨_,h1,i,rfl⟩;exact⟨i,BK.mpr ((vo a i).mpr h1),rfl⟩
theorem sV {h n st:Int}(a:0<st):(cF h n st).Nodup:=by
 unfold cF;split
 .exact CF
 .refine Jt _ (λi j J=>?_) List.nodup_range;intro e;have:(i:Int)*(2*st)=(j:Int)*(2*st):=by lia
  have:=Int.eq_of_mul_eq_mul_right (by lia) this;lia
theorem nM {h n st t:Int}(c:0<st)(a:h=0∨h=1)(ht:t∈cF h n st):(0<=t/\t<n)/\(0<=sZ t n st/\sZ t n st<n)/\(0<=sY t n st/\sY t n st<n)/\¬ (t-st<0/\n<=t+st):=by
 obtain⟨h1,h2,i,rfl⟩:=(eX c).mp ht;have hi:0<=(i:Int)*(2*st):=Fi (by lia) (by lia);have e:0<=h*st:=by rcases a with rfl |rfl<;>lia
 have key:h*st+(i:Int)*(2*st)-st<0->h*st+(i:Int)*(2*st)=0:=by
  intro z;rcases Nat.eq_zero_or_pos i with rfl |p
  .rcases a with rfl |rfl
   .simp
   .simp at z ⊢<;>omega
  .have:1*(2*st)<=(i:Int)*(2*st):=Bw (by lia) (by lia);lia
 generalize h*st+(i:Int)*(2*st)=t at *;unfold sZ sY;refine⟨⟨by lia,h2⟩,?_,?_,λz=>?_⟩
 .split<;>rename_i z
  .have:=key z;lia
  .lia
 .split
  .by_cases z:t-st<0
   .have:=key z;omega
   .lia
  .lia
 .have:=key z.1;lia
theorem mW {h n st t u:Int}(f:0<st)(ht:∃i:Nat,t=h*st+(i:Int)*(2*st))(U:u=sZ t n st∨u=sY t n st):¬ ∃j:Nat,u=h*st+(j:Int)*(2*st):=by
 rintro⟨j,J⟩;obtain⟨i,hi⟩:=ht;have key:∀d:Int,d=1∨d = -1->¬ (t+d*st=h*st+(j:Int)*(2*st)):=by
  intro d hd e;have g:((j:Int)-i)*(2*st)=d*st:=by rw[JH];lia
  have c:(((j:Int)-i)*2-d)*st=0:=by rw[JH,Dr];omega
  rcases Int.mul_eq_zero.mp c with z |z
  .rcases hd with rfl |rfl<;>lia
  .lia
 have a:=key 1 (.inl rfl);have k:=key (-1) (.inr rfl);unfold sZ sY at U;rcases U with rfl |rfl
 .split at J
  .exact a (by lia)
  .exact k (by lia)
 .split at J
  .exact k (by lia)
  .exact a (by lia)
noncomputable def gR (sg:Int)(f:Lf)(st:Int)(xs:List Int)(t:Int):Int:=
 xs.getD t.toNat 0+sg*kT f (xs.getD (sZ t xs.length st).toNat 0) (xs.getD (sY t xs.length st).toNat 0)
noncomputable def nr (sg:Int)(f:Lf)(st:Int)(xs:List Int)(t:Int):List Int:=xs.set t.toNat (gR sg f st xs t)
noncomputable def ie (sg:Int)(f:Lf)(st:Int)(xs:List Int):List Int:=(cF f.h xs.length st).foldl (nr sg f st) xs
theorem tI (sg:Int)(f:Lf)(st:Int):∀(ts:List Int) (xs:List Int),(∀t∈ts,0<=t)->ts.foldl (nr sg f st) xs=(ts.map Il).foldl (λxs t=>xs.set t (gR sg f st xs (t:Int))) xs
 | [],_,_=>rfl
 |t::ts,xs,h=>by
  rw[BJ,BV,BV,tI sg f st ts _ λu U=>h u (Aw _ U)];have:=h t Az;unfold nr;rw[show ((t.toNat:Nat):Int)=t by lia]
theorem LD {sg:Int}{f:Lf}{st:Int}{xs:List Int}(c:0<st)(l:f.h=0∨f.h=1)(k:Nat):
  (((cF f.h xs.length st).take k).foldl (nr sg f st) xs).length=xs.length/\
  ∀p:Nat,(((cF f.h xs.length st).take k).foldl (nr sg f st) xs).getD p 0=if (p:Int)∈(cF f.h xs.length st).take k then gR sg f st xs p else xs.getD p 0:=by
 by_cases hn:(xs.length:Int)<=st
 .have e:cF f.h xs.length st=[]:=if_pos hn;rw[e];exact⟨by simp,λp=>by simp⟩
 have n:∀t∈(cF f.h xs.length st).take k,0<=t/\t<xs.length/\t∈cF f.h xs.length st:=λt ht=>by
  have m:=Ed ht;have:=(nM c l m).1;exact⟨this.1,this.2,m⟩
 rw[tI sg f st _ xs λt ht=>(n t ht).1];have o:(((cF f.h xs.length st).take k).map Il).Nodup:=by
  rw[Bo,Ej];refine DH (R:=λa b=>a≠b) (λ{a b} v B A e=>A ?_) ((sV c).sublist (FD _ _));have:=(n a v).1;have:=(n b B).1;lia
 obtain⟨j,G⟩:=xi (F:=λt ys=>gR sg f st ys (t:Int)) (λp=>∃i:Nat,(p:Int)=f.h*st+(i:Int)*(2*st)) xs.length (λt ys O r q ht L g=>by
   unfold gR;have m:(t:Int)∈cF f.h xs.length st:=(eX c).mpr ⟨hn,by (clear hn;lia),ht⟩;obtain⟨_,T,Q,_⟩:=nM c l m;rw[r,q];have M:=g (sZ t xs.length st).toNat (.inr λz=>mW c ht (.inl rfl) (by rw[show (((sZ (t:Int) xs.length st).toNat:Nat):Int)=sZ t xs.length st by omega]at z;exact z));have J:=g (sY t xs.length st).toNat (.inr λz=>mW c ht (.inr rfl) (by rw[show (((sY (t:Int) xs.length st).toNat:Nat):Int)=sY t xs.length st by omega]at z;exact z));rw[M,J,g _ (.inl (by lia))]) _ xs rfl o (λt ht=>by
   obtain⟨u,U,rfl⟩:=Bf.mp ht;obtain⟨h1,h2,C⟩:=n u U;obtain⟨_,_,i,hi⟩:=(eX c).mp C;exact⟨⟨i,by lia⟩,by lia⟩)
 refine⟨j,λp=>?_⟩;rw[G p];have:p∈((cF f.h xs.length st).take k).map Il↔(p:Int)∈(cF f.h xs.length st).take k:=by
  constructor
  .intro z;obtain⟨u,U,e⟩:=Bf.mp z;have:=(n u U).1;rw[show (p:Int)=u by (clear c hn j;lia)];exact U
  .intro z;exact Bf.mpr ⟨_,z,by (clear c hn j;lia)⟩
 by_cases g:(p:Int)∈(cF f.h xs.length st).take k
 .rw [if_pos g,if_pos (this.mpr g)]
 .rw [if_neg g,if_neg λz=>g (this.mp z)]
theorem lZ {sg:Int}{f:Lf}{st:Int}{xs:List Int}(a:0<st)(c:f.h=0∨f.h=1):
  (ie sg f st xs).length=xs.length/\∀p:Nat,(ie sg f st xs).getD p 0=if (p:Int)∈cF f.h xs.length st then gR sg f st xs p else xs.getD p 0:=by
 have h:=LD (sg:=sg) (xs:=xs) a c (cF f.h xs.length st).length;rw[BC]at h;exact h
theorem Rt {xs ys:List Int}(hl:xs.length=ys.length)(h:∀p:Nat,xs.getD p 0=ys.getD p 0):xs=ys:=by
 refine HQ hl λi h1 h2=>?_
 have:=h i;rw[Aj,Aj,Ad h1,Ad h2]at this;exact this
theorem Nv {sg:Int}{f:Lf}{st:Int}{xs:List Int}(a:0<st)(e:f.h=0∨f.h=1):ie (-sg) f st (ie sg f st xs)=xs:=by
 obtain⟨l,g1⟩:=lZ a e;obtain⟨L,g2⟩:=lZ (sg:=-sg) (xs:=ie sg f st xs) a e;refine Rt (L.trans l) λp=>?_
 rw[g2 p,l];by_cases c:(p:Int)∈cF f.h xs.length st
 .rw [if_pos c];unfold gR;obtain⟨j,g,B,_⟩:=nM a e c;obtain⟨_,_,i,hi⟩:=(eX a).mp c;have O:¬ sZ (p:Int) xs.length st∈cF f.h xs.length st:=λz=>mW a ⟨i,hi⟩ (.inl rfl) ((eX a).mp z).2.2
  have o:¬ sY (p:Int) xs.length st∈cF f.h xs.length st:=λz=>mW a ⟨i,hi⟩ (.inr rfl) ((eX a).mp z).2.2
  rw[l,g1,g1,g1];rw[show (((p:Int).toNat:Nat):Int)=p by (clear l L;lia),if_pos c,show (((sZ (p:Int) xs.length st).toNat:Nat):Int)=sZ p xs.length st by (clear l L hi;lia),if_neg O,show (((sY (p:Int) xs.length st).toNat:Nat):Int)=sY p xs.length st by (clear l L hi;lia),if_neg o];unfold gR;rw[FE,show ((p:Int).toNat)=p by (clear l L;lia)];lia
 .rw [if_neg c,g1 p,if_neg c]
noncomputable def b_ (fs:List Lf)(st:Int)(xs:List Int):List Int:=fs.foldl (λxs f=>ie 1 f st xs) xs
noncomputable def hU (fs:List Lf)(st:Int)(xs:List Int):List Int:=fs.reverse.foldl (λxs f=>ie (-1) f st xs) xs
theorem sT {st:Int}(a:0<st):∀{fs:List Lf} (xs:List Int),(∀f∈fs,f.h=0∨f.h=1)->(b_ fs st xs).length=xs.length
 | [],_,_=>rfl
 |f::fs,xs,h=>by
  unfold b_;exact (sT a (ie 1 f st xs) λg hg=>h g (Aw _ hg)).trans (lZ a (h f Az)).1
theorem nR {st:Int}(c:0<st):∀{fs:List Lf} (xs:List Int),(∀f∈fs,f.h=0∨f.h=1)->hU fs st (b_ fs st xs)=xs
 | [],_,_=>rfl
 |f::fs,xs,h=>by
  have a:=nR c (ie 1 f st xs) λg hg=>h g (Aw _ hg)
  unfold hU b_ at a ⊢;rw[BV,Fe,Dz,a];exact Nv c (h f Az)
section GL
variable {α β:Type}
theorem NC (z:α)(xs:List α)(t p:Nat)(v:α)(h:t<xs.length):(xs.set t v).getD p z=if p=t then v else xs.getD p z:=by
 rw[Aj,Aj,Fh];by_cases e:p=t
 .subst e;rw[if_pos rfl,if_pos rfl,if_pos h];rfl
 .rw [if_neg (λz=>e z.symm),if_neg e]
theorem NH (z:α){xs ys:List α}(hl:xs.length=ys.length)(h:∀p:Nat,p<xs.length->xs.getD p z=ys.getD p z):xs=ys:=by
 refine HQ hl λi h1 h2=>?_
 have:=h i h1;rw[Aj,Aj,Ad h1,Ad h2]at this;exact this
noncomputable def iX (z:α)(G:α->α->α->α)(st:Int)(xs:List α)(t:Int):α:=G (xs.getD t.toNat z) (xs.getD (sZ t xs.length st).toNat z) (xs.getD (sY t xs.length st).toNat z)
noncomputable def nX (z:α)(G:α->α->α->α)(st:Int)(xs:List α)(t:Int):List α:=xs.set t.toNat (iX z G st xs t)
noncomputable def gP (z:α)(G:α->α->α->α)(h st:Int)(xs:List α):List α:=(cF h xs.length st).foldl (nX z G st) xs
theorem tE {z:α}{G:α->α->α->α}{st:Int}:∀(ts:List Int) (xs:List α),(ts.foldl (nX z G st) xs).length=xs.length
 | [],_=>rfl
 |t::ts,xs=>by
  rw[BV,tE ts];exact Bi
theorem Xt {z:α}{G:α->α->α->α}{h st:Int}{xs:List α}(a:0<st)(j:h=0∨h=1):∀(k:Nat),
  (((cF h xs.length st).take k).foldl (nX z G st) xs).length=xs.length/\
  ∀p:Nat,(((cF h xs.length st).take k).foldl (nX z G st) xs).getD p z=if (p:Int)∈(cF h xs.length st).take k then iX z G st xs p else xs.getD p z
 | 0=>⟨rfl,λp=>rfl⟩
 |k + 1 => by
  obtain⟨l,g1⟩:=Xt a j k;by_cases g:k<(cF h xs.length st).length
  .rw [AO g,Dz];have m:(cF h xs.length st)[k]∈cF h xs.length st:=BH g;generalize ht:(cF h xs.length st)[k]=t at m ⊢;obtain⟨A,v,B,_⟩:=nM a j m;obtain⟨_,_,i,hi⟩:=(eX a).mp m;have O:¬ sZ t xs.length st∈(cF h xs.length st).take k:=λz=>mW a ⟨i,hi⟩ (.inl rfl) ((eX a).mp (Ed z)).2.2
   have o:¬ sY t xs.length st∈(cF h xs.length st).take k:=λz=>mW a ⟨i,hi⟩ (.inr rfl) ((eX a).mp (Ed z)).2.2
   have r:¬ t∈(cF h xs.length st).take k:=λz=>by
    obtain⟨q,Q,eq⟩:=G4.mp z;rw[BD]at Q;rw[List.getElem_take]at eq;have n:=Go.mp (sV a) q k (by (clear l hi eq;lia)) g (by (clear l hi eq;lia));exact n (by rw[eq,ht])
   generalize ((cF h xs.length st).take k).foldl (nX z G st) xs=c at l g1;have u:iX z G st c t=iX z G st xs t:=by
    unfold iX;rw[l,g1,g1,g1,show ((t.toNat:Nat):Int)=t by (clear ht l;lia),if_neg r,show (((sZ t xs.length st).toNat:Nat):Int)=sZ t xs.length st by (clear ht hi l;lia),if_neg O,show (((sY t xs.length st).toNat:Nat):Int)=sY t xs.length st by (clear ht hi l;lia),if_neg o]
   refine⟨by rw[BV];show (c.set _ _).length=_;rw[Bi];exact l,λp=>?_⟩;show (c.set t.toNat (iX z G st c t)).getD p z=_
   rw[NC z c t.toNat p _ (by (clear ht;lia)),u,g1 p];by_cases e:p=t.toNat
   .have e':(p:Int)=t:=by (clear ht l;lia)
    rw[if_pos e,if_pos (by rw[e'];simp),e']
   .rw [if_neg e];have:((p:Int)∈(cF h xs.length st).take k++[t])↔(p:Int)∈(cF h xs.length st).take k:=by
     rw[AB,A3];constructor
     .rintro (q |q)
      .exact q
      .clear ht l;lia
     .exact .inl
    by_cases f:(p:Int)∈(cF h xs.length st).take k
    .rw [if_pos f,if_pos (this.mpr f)]
    .rw [if_neg f,if_neg λq=>f (this.mp q)]
  .rw [BI (by lia)];rw[BI (by lia)]at l g1;exact⟨l,g1⟩
theorem Ri {z:α}{G:α->α->α->α}{h st:Int}{xs:List α}(a:0<st)(c:h=0∨h=1):
  (gP z G h st xs).length=xs.length/\∀p:Nat,(gP z G h st xs).getD p z=if (p:Int)∈cF h xs.length st then iX z G st xs p else xs.getD p z:=by
 have q:=Xt (z:=z) (G:=G) (xs:=xs) a c (cF h xs.length st).length;rw[BC]at q;exact q
theorem Zj {R:α->β->Prop}{z:α}{y:β}{G:α->α->α->α}{G':β->β->β->β}{h st:Int}{xs:List α}{ys:List β}(e:0<st)(g:h=0∨h=1)(hl:xs.length=ys.length)
  (f:∀p:Nat,p<xs.length->R (xs.getD p z) (ys.getD p y)) (k:∀a b c A B c',R a A->R b B->R c c'->R (G a b c) (G' A B c')):
  ∀p:Nat,p<xs.length->R ((gP z G h st xs).getD p z) ((gP y G' h st ys).getD p y):=by
 intro p j;obtain⟨_,g1⟩:=Ri e g;obtain⟨_,g2⟩:=Ri e g;rw[g1,g2,<- hl];by_cases m:(p:Int)∈cF h xs.length st
 .rw [if_pos m,if_pos m];obtain⟨o,n,l,_⟩:=nM e g m;unfold iX;rw[<- hl];exact k _ _ _ _ _ _ (f _ (by lia)) (f _ (by (clear e l;lia))) (f _ (by (clear e;lia)))
 .rw [if_neg m,if_neg m];exact f p j
noncomputable def ft (z:α)(G:Lf->α->α->α->α)(fs:List Lf)(i:Nat)(st:Int)(xs:List α):List α:=(fs.reverse.take i).foldl (λxs f=>gP z (G f) f.h st xs) xs
noncomputable def dM (z:α)(G:Lf->α->α->α->α)(fs:List Lf)(st:Int)(xs:List α):List α:=fs.reverse.foldl (λxs f=>gP z (G f) f.h st xs) xs
theorem vk {z:α}{G:Lf->α->α->α->α}{fs:List Lf}{st:Int}{xs:List α}:ft z G fs 0 st xs=xs:=rfl
theorem xg {z:α}{G:Lf->α->α->α->α}{fs:List Lf}{st:Int}{xs:List α}:ft z G fs fs.length st xs=dM z G fs st xs:=by
 unfold ft dM;rw[BI (by simp)]
theorem vl {z:α}{G:Lf->α->α->α->α}{fs:List Lf}{i:Nat}{st:Int}{xs:List α}{f:Lf}(hi:i<fs.length)(h:fs[fs.length-1-i]?=some f):ft z G fs (i+1) st xs=gP z (G f) f.h st (ft z G fs i st xs):=by
 unfold ft;have a:i<fs.reverse.length:=by simpa using hi
 have e:fs.reverse[i]=f:=by
  have:=B4 hi;rw[h,Ad a]at this;exact A6 this
 rw[AO a,e,Dz];rfl
theorem ig {z:α}{G:α->α->α->α}{h st:Int}{xs:List α}:(gP z G h st xs).length=xs.length:=tE _ _
theorem ij {z:α}{G:Lf->α->α->α->α}{st:Int}:∀(a:List Lf) (xs:List α),(a.foldl (λxs f=>gP z (G f) f.h st xs) xs).length=xs.length
 | [],_=>rfl
 |g::a,xs=>by rw[BV,ij a,ig]
theorem xf {z:α}{G:Lf->α->α->α->α}{fs:List Lf}{i:Nat}{st:Int}{xs:List α}:(ft z G fs i st xs).length=xs.length:=ij _ _
theorem ze {z:α}{G:Lf->α->α->α->α}{fs:List Lf}{st:Int}{xs:List α}:(dM z G fs st xs).length=xs.length:=ij _ _
theorem tF {R:α->β->Prop}{z:α}{y:β}{G:Lf->α->α->α->α}{G':Lf->β->β->β->β}{st:Int}(k:0<st):∀(e:List Lf) (xs:List α) (ys:List β),(∀f∈e,f.Ok)->xs.length=ys.length->
  (∀p:Nat,p<xs.length->R (xs.getD p z) (ys.getD p y))->(∀f:Lf,f.Ok->∀a b c A B c',R a A->R b B->R c c'->R (G f a b c) (G' f A B c'))->
  ∀p:Nat,p<xs.length->R ((e.foldl (λxs f=>gP z (G f) f.h st xs) xs).getD p z) ((e.foldl (λys f=>gP y (G' f) f.h st ys) ys).getD p y)
 | [],xs,ys,_,_,j,_=>j
 |f::e,xs,ys,ok,hl,j,l=>λp m=>by
  rw[BV,BV];have o:=ok f Az;refine tF k e _ _ (λg hg=>ok g (Aw _ hg)) (by rw[ig,ig,hl]) (λq Q=>?_) l p (by rw[ig];exact m);rw[ig]at Q;exact Zj k o.h hl j (l f o) q Q
theorem qW {R:α->β->Prop}{z:α}{y:β}{G:Lf->α->α->α->α}{G':Lf->β->β->β->β}{fs:List Lf}{st:Int}{xs:List α}{ys:List β}(h:0<st)(ok:∀f∈fs,f.Ok)(hl:xs.length=ys.length)
  (e:∀p:Nat,p<xs.length->R (xs.getD p z) (ys.getD p y)) (g:∀f:Lf,f.Ok->∀a b c A B c',R a A->R b B->R c c'->R (G f a b c) (G' f A B c')):
  ∀p:Nat,p<xs.length->R ((dM z G fs st xs).getD p z) ((dM y G' fs st ys).getD p y):=
 tF h fs.reverse xs ys (λf hf=>ok f (Dq.mp hf)) hl e g
end GL
abbrev fX:=Int×Int
noncomputable def ja (f:Lf)(l r:fX):fX:=
 let t (s:fX) (m:Int):fX:=if m<0 then (s.2*m,s.1*m) else (s.1*m,s.2*m)
 (((t l f.l).1+(t r f.r).1+f.a) / 2^f.s.toNat,((t l f.l).2+(t r f.r).2+f.a) / 2^f.s.toNat)
noncomputable def c6 (f:Lf)(x l r:fX):fX:=(x.1-(ja f l r).2,x.2-(ja f l r).1)
theorem qw {a b m:Int}(h:a<=b)(M:0<=m):a*m<=b*m:=Bw h M
theorem qx {a b m:Int}(h:a<=b)(M:m<0):b*m<=a*m:=Int.mul_le_mul_of_nonpos_right h (by lia)
theorem P' (n:Nat):(0:Int)<2^n:=Hd (by decide)
theorem qY {a b:Int}(n:Nat)(h:a<=b):a / 2^n<=b / 2^n:=Int.ediv_le_ediv (P' n) h
theorem Pt {f:Lf}{l r L c:fX}(hl:l.1<=L.1/\L.1<=L.2/\L.2<=l.2)(e:r.1<=c.1/\c.1<=c.2/\c.2<=r.2):
  (ja f l r).1<=(ja f L c).1/\(ja f L c).1<=(ja f L c).2/\(ja f L c).2<=(ja f l r).2:=by
 have key:∀(m:Int) (s a:fX),s.1<=a.1/\a.1<=a.2/\a.2<=s.2->(if m<0 then (s.2*m,s.1*m) else (s.1*m,s.2*m)).1<=(if m<0 then (a.2*m,a.1*m) else (a.1*m,a.2*m)).1/\
   (if m<0 then (a.2*m,a.1*m) else (a.1*m,a.2*m)).1<=(if m<0 then (a.2*m,a.1*m) else (a.1*m,a.2*m)).2/\(if m<0 then (a.2*m,a.1*m) else (a.1*m,a.2*m)).2<=(if m<0 then (s.2*m,s.1*m) else (s.1*m,s.2*m)).2:=by
  rintro m s a ⟨h1,h2,g⟩;by_cases h:m<0
  .simp only[h];exact⟨qx g h,qx h2 h,qx h1 h⟩
  .simp only[h];exact⟨qw h1 (by lia),qw h2 (by lia),qw g (by lia)⟩
 obtain⟨k,o,A⟩:=key f.l l L hl;obtain⟨j,n,B⟩:=key f.r r c e;unfold ja;dsimp only;exact⟨qY _ (by lia),qY _ (by (clear hl e k A j B;lia)),qY _ (by lia)⟩
def Q_ (s a:fX):Prop:=s.1<=a.1/\a.1<=a.2/\a.2<=s.2
theorem PJ {f:Lf}{a b c A B c':fX}(e:Q_ a A)(h:Q_ b B)(hc:Q_ c c'):Q_ (c6 f a b c) (c6 f A B c'):=by
 obtain⟨g1,g2,g3⟩:=Pt (f:=f) h hc;unfold Q_ at e ⊢;unfold c6;exact⟨by dsimp only;lia,by dsimp only;lia,by dsimp only;lia⟩
theorem M1 {f:Lf}{x l r:Int}:c6 f (x,x) (l,l) (r,r)=(x+(-1)*kT f l r,x+(-1)*kT f l r):=by
 unfold c6 ja kT;have e:∀m y:Int,(if m<0 then (y*m,y*m) else (y*m,y*m))=(m*y,m*y):=λm y=>by
  rw[DY y m];split<;>rfl
 dsimp only;rw[e,e];simp only[K2];lia
theorem uI {lo hi c:Int}(hc:0<c)(i:Nat):i<d4 lo hi c↔lo+(i:Int)*c<hi:=by
 unfold d4 AS;rw[if_pos (show c > 0 from hc)];have h:0<=(i:Int)*c:=Fi (by lia) (by lia);split
 .have e:=EK (a:=(i:Int)) (b:=hi-lo-1) hc;have f:0<=(hi-lo-1) / c:=Gf (by lia) (by lia);constructor
  .intro z;have:=e.mp (by omega);lia
  .intro z;have:=e.mpr (by lia);lia
 .simp only[Int.toNat_zero];lia
theorem u7 {a b:Nat}(h:∀i,i<a↔i<b):a=b:=by
 rcases Nat.lt_trichotomy a b with z |z |z
 .exact absurd ((h a).mpr z) (B3 _)
 .exact z
 .exact absurd ((h b).mp z) (B3 _)
section PT
variable {α:Type}
end PT
theorem vh {n:Nat}{i:Int}(a:0<=i)(h:i<n):qL n i=some i.toNat:=by
 unfold qL;rw[if_pos a,if_pos h]
theorem oZ {a:Type}(z:a){g:a->D}{xs:List a}{i:Int}(c:0<=i)(h:i<xs.length):kI (xs.map g) i=some (g (xs.getD i.toNat z)):=by
 have hi:i.toNat<xs.length:=by lia
 have e:=dg (xs:=xs.map g) (j:=i.toNat) (v:=g (xs.getD i.toNat z)) (by simp[hi])
 rwa[show ((i.toNat:Nat):Int)=i by lia]at e
theorem tX {a:Type}{xs:List a}{g:a->D}:BA OV.val (xs.map λx=>OV.fz (g x))=xs.map g:=by
 rw[A9];rfl
theorem Ui {a:Type}{xs:List a}{g:a->D}:(xs.map g).map OV.fz=xs.map λx=>OV.fz (g x):=by
 rw[A9];rfl
theorem O1 {a c:Type}{xs:List a}{i:Nat}{v:a}{g:a->c}:(xs.map g).set i (g v)=(xs.set i v).map g:=by
 rw[Jd]
theorem S6 {h n st:Int}(a:0<st):d4 (h*st) n (2*st)=xn h n st:=by
 unfold d4 xn AS;rw[if_pos (show 2*st > 0 by lia)]
noncomputable def wA (h n st:Int)(k:Nat):List Int:=if n<=st then [] else (AE k).map λ(i:Nat)=>h*st+(i:Int)*(2*st)
noncomputable def Ë (n st:Int)(t:Int):D:=.tup [.int t,.int (sZ t n st),.int (sY t n st)]
noncomputable abbrev fA:AZ:=top 29
theorem d8:aQ ["half","many","stride","found","at","pair"] ["half","many","stride"] (aB fA):=by walk_at "S"
def cL:dF:=λds P=>match ds with
 | [.int h,.int n,.int st]=>((h=0∨h=1)/\0<st/\st<=64/\0<=n/\n<=100000)/\P (.nl ((cF h n st).map λt=>.fz (Ë n st t)))
 |_=>False
theorem mS {f:Ac}{fd:Ak}(v:bL K mg "lifted_places" fA f fd)(B:b9 mg)(KV:bZ K)(g:cg P w K mg base "neighbours" 1 ["at","many","stride"] (b7 K 3 fq)):
  cg P w K mg base "lifted_places" 2 ["half","many","stride"] (b7 K 3 cL):=by
 refine cZ.of v d8 (by walk_at "b") rfl (λc A o s H E r=>⟨_,_,(aG (bp (i:=3) d8.nd rfl (Ar rfl) (c8 aD))
   (aG (cX AG rfl (kj (by rfl) (by exact B.range) (ae (aV gv (pv 0) (pv 2)) (ae (pv 1) (ae (aV gv aK (pv 2)) aD)))) (bt (i:=4) d8.nd rfl (Ar rfl)) (aG (bp (i:=5) d8.nd rfl (Ar rfl) (aZ g (r.mono (by decide)) (by rfl) (ae (pv 4) (ae (pv 1) (ae (pv 2) aD)))))
   (aH (cu (bQ Th (pv 5) qf (bJ _)) (aH (bR (gs Bd PySem.F.slot_list_append PySem.F.type_list_append dj (pv 3) (ae (cb (ae (pv 4) (ae (aR aS (pv 5) aK (λ_ _=>rfl)) (ae (aR aS (pv 5) aK (λ_ _=>rfl)) aD)))) aD)))) bM))))
   (aH (aX (pv 3))))),
  (aT (bB (d3 c7))
   (aT (c_ (oM (aI (aM (aP cG aC aC)) (aI aC (aI (aM (aP cG (aM aF) aC)) aO)))) bu (aT (bB (br (bX (aY (aA aE (aA aE (aA aE aJ)))))))
   (cz (bO (aP TB aC (aM pX))) (ym (br (cD (aA aE (aA (bF aU aE aF) (aA (bF aU aE aF) aJ)))))) bP)))
   fT)),?_⟩)
 intro ds T h;unfold cL at h;split at h
 .rename_i h' n st;obtain⟨⟨m,l,G,M,J⟩,k⟩:=h;fin2;refine⟨.inr ⟨by lia,by lia⟩,⟨by rcases m with rfl |rfl<;>lia,by rcases m with rfl |rfl<;>lia,by lia,by lia,by lia,by lia⟩,?_⟩;rw[S6 l];refine⟨λi δ=>i<=xn h' n st/\∃p O,δ=[vI h',vI n,vI st,vL ((wA h' n st i).map λt=>.fz (Ë n st t)),p,O],⟨Br _,_,_,by unfold wA;split<;>rfl⟩,?_,?_⟩
  .rintro i d δ hd ⟨q,p,O,rfl⟩;obtain⟨hi,rfl⟩:=dS hd;have L:=(vo (h:=h') (n:=n) l i).mp hi;have C:xn h' n st<=100001:=by
    rcases Ev 100001 (xn h' n st) with z |z
    .have:=(vo (h:=h') (n:=n) l 100001).mp z;have u:0<=h'*st:=by rcases m with rfl |rfl<;>lia
     lia
    .exact z
   fin2;unfold fq;generalize ht:h'*st+(i:Int)*(2*st)=t at *
   try dsimp only
   split
   .rename_i hn;fin2;have a:n<=st:=by
     rcases Im st n with z |z
     .exact absurd hn (nM l m ((eX l).mpr ⟨by lia,L,i,ht.symm⟩)).2.2.2
     .exact z
    have e:∀j,wA h' n st j=[]:=λj=>if_pos a
    rw[e,e];exact⟨hi,_,_,rfl⟩
   .rename_i hn;fin2;have a:¬ n<=st:=λz=>hn (by
     have u:0<=(i:Int)*(2*st):=Fi (by lia) (by lia);have h1:0<=h'*st:=by rcases m with rfl |rfl<;>lia
     constructor<;>omega)
    have Q:(wA h' n st i).length=i:=by unfold wA;rw[if_neg a];simp
    have e:wA h' n st (i+1)=wA h' n st i++[t]:=by
     unfold wA;rw[if_neg a,if_neg a,Ez,A_,<- ht];rfl
    rw[e,A_];exact⟨by lia,hi,_,_,rfl⟩
  .rintro δ ⟨_,p,O,rfl⟩;fin2;rw[dz];exact k
 .exact h.elim
noncomputable def xN (f:Lf):D:=.tup [.int f.h,.int f.l,.int f.r,.int f.a,.int f.s]
noncomputable abbrev yi:AZ:=top 30
theorem SK:aQ ["lift","left","right"] ["lift","left","right"] (aB yi):=by walk_at "S"
def z7:dF:=λds P=>∃(f:Lf) (x y:Int),ds=[xN f,.int x,.int y]/\f.Ok/\P (.fz (.int (kT f x y)))
theorem Tu {f:Ac}{fd:Ak}(e:bL K mg "gain" yi f fd)(B:b9 mg)(KV:bZ K)(g:∃t,mg "SHIFT"=some (.int 4 t))(a:∃t,mg "ADD"=some (.int 3 t))(L:∃t,mg "LEFT"=some (.int 1 t))(G:∃t,mg "RIGHT"=some (.int 2 t)):
  cg P w K mg base "gain" 1 ["lift","left","right"] (b7 K 3 z7):=by
 refine cZ.of e SK (by walk_at "b") rfl (λc A o s H E j=>⟨_,_,(aH (aX (aV qj (aV cq (aV cq (aV gv (aR aS (pv 0) (aN (by rfl) L) (λ_ _=>rfl)) (pv 1)) (aV gv (aR aS (pv 0) (aN (by rfl) G) (λ_ _=>rfl)) (pv 2))) (aR aS (pv 0) (aN (by rfl) a) (λ_ _=>rfl))) (aR aS (pv 0) (aN (by rfl) g) (λ_ _=>rfl))))),
  (a_ (br (aP cG (aM (aP bU (aM (aP bU (aM (aP cG (bx (dm.b aU) aC (aM aF)) aC)) (aM (aP cG (bx (dm.b aU) aC (aM aF)) aC)))) (bx (dm.b aU) aC (aM aF)))) (bx (dm.b aU) aC (aM aF))))),?_⟩)
 rintro ds m ⟨f,x,y,rfl,ok,k⟩;have h1:=ok.l;have h2:=ok.r;have h:=ok.s;simp only[xN];fin2;exact⟨mulL (by lia) (by lia),mulL (by lia) (by lia),h.1,k⟩
noncomputable def eG (fs:List Lf):D:=.tup (fs.map xN)
noncomputable def iL (xs:List Int):D:=.lst (xs.map D.int)
noncomputable def iO (xs:List Int):OV:=.nl (xs.map λx=>.fz (.int x))
theorem yr {st:Int}{xs:List Int}{fs:List Lf}{i:Nat}{f:Lf}(h:fs[i]?=some f):b_ (fs.take (i+1)) st xs=ie 1 f st (b_ (fs.take i) st xs):=by
 obtain⟨hi,e⟩:=Ab.mp h;rw[AO hi,e];unfold b_;rw[Dz];rfl
noncomputable abbrev pP:AZ:=top 31
theorem fY:aQ ["row","ladder","stride","things","lift","at","left","right"] ["row","ladder","stride"] (aB pP):=by walk_at "S"
def fb:dF:=λds P=>∃(xs:List Int) (fs:List Lf) (st:Int),ds=[iL xs,eG fs,.int st]/\((∀f∈fs,f.Ok)/\0<st/\st<=64/\xs.length<=100000)/\P (iO (b_ fs st xs))
theorem Nc {f:Ac}{fd:Ak}(Df:bL K mg "raised" pP f fd)(B:b9 mg)(KV:bZ K)(L:∃t,mg "HALF"=some (.int 0 t))(l:cg P w K mg base "lifted_places" 2 ["half","many","stride"] (b7 K 3 cL))(a:cg P w K mg base "gain" 1 ["lift","left","right"] (b7 K 3 z7)):
  cg P w K mg base "raised" 3 ["row","ladder","stride"] (b7 K 3 fb):=by
 refine cZ.of Df fY (by walk_at "b") rfl (λc A o s H E hr=>⟨_,_,(aG (bp (i:=3) fY.nd rfl (Ar rfl) (sX q_ (by rfl) B.list BL (ae (pv 0) aD)))
   (aG (cX AG rfl (Qa (pv 1)) (bt (i:=4) fY.nd rfl (Ar rfl)) (aH (cX AG rfl (df (aZ l (hr.mono (by decide)) (by rfl) (ae (aR aS (pv 4) (aN (by rfl) L) (λ_ _=>rfl)) (ae (aW bo (by rfl) B.len Bh (ae (pv 0) aD)) (ae (pv 2) aD))))) (lg (n:=3) rfl (cI (bt (i:=5) fY.nd rfl (Ar rfl)) (cI (bt (i:=6) fY.nd rfl (Ar rfl)) (cI (bt (i:=7) fY.nd rfl (Ar rfl)) iQ)))) (aH (S_ (pv 3) (pv 5) NB (aZ a (hr.mono (by decide)) (by rfl) (ae (pv 4) (ae (aR bK (pv 3) (pv 6) (λ_ _=>rfl)) (ae (aR bK (pv 3) (pv 7) (λ_ _=>rfl)) aD)))) Q8 h8)))))
   (aH (aX (pv 3))))),
  (aT (bB (U1 L0 (aA aE aJ)))
   (aT (c_ (Pq aE) bu (c_ (dR (bX (aY (aA (bF aU aE aF) (aA (bT cR (aI aC aO)) (aA aE aJ)))))) (k_ (cH bu (cH bu (cH bu iM)))) (SQ aC (aM (bX (eV (aI aC (aI (bx (dm.b cn) aC aC) (aI (bx (dm.b cn) aC aC) aO)))))))))
   fT)),?_⟩)
 rintro ds Pr ⟨xs,fs,st,rfl,⟨p,C,s1,hx⟩,k⟩;simp only[iL,eG];fin2;refine⟨λi δ=>∃G v r q,δ=[vD (iL xs),vD (eG fs),vI st,some (.own (iO (b_ (fs.take i) st xs))),G,v,r,q],⟨none,none,none,none,by simp[iL,eG,iO,b_]⟩,?_,?_⟩
 .rintro i d δ hd ⟨G,v,r,q,rfl⟩;obtain⟨f,hf,rfl⟩:=mX hd;have O:=p f (Ai hf);have m:(b_ (fs.take i) st xs).length=xs.length:=sT C xs λg hg=>(p g (Ed hg)).h
  dsimp only;rw[yr hf];generalize hc:b_ (fs.take i) st xs=u at m;simp only[iL,eG,iO,xN];fin2;simp only[cL];refine⟨⟨O.h,C,s1,by lia,by lia⟩,?_⟩;fin2;simp only[A9,Bx,OV.val];rw[<- m];refine⟨λj δ=>∃v r q,δ=[vD (iL xs),vD (eG fs),vI st,some (.own (iO (((cF f.h u.length st).take j).foldl (nr 1 f st) u))),vD (xN f),v,r,q],⟨_,_,_,rfl⟩,?_,?_⟩
  .rintro j e δ he ⟨p2,p3,p4,rfl⟩;obtain⟨t,ht,rfl⟩:=mX he;have M:t∈cF f.h u.length st:=Ai ht;obtain⟨Q,J⟩:=Ab.mp ht;obtain⟨b0,b1,b2,_⟩:=nM C O.h M;have z:=(LD (sg:=1) (f:=f) (st:=st) (xs:=u) C O.h j).1;have T:(cF f.h u.length st).take (j+1)=(cF f.h u.length st).take j++[t]:=by
    rw[AO Q,J]
   dsimp only;rw[T,Dz];generalize hw:((cF f.h u.length st).take j).foldl (nr 1 f st) u=U at z;simp only[iL,eG,iO,Ë,xN];fin2;refine⟨b0.1,_,Ud b0.1 (by lia),_,mq b1.1 (by lia),_,mq b2.1 (by lia),f,_,_,rfl,O,?_⟩;fin2;simp only[BV,Iw,nr,gR,z,Jf];exact⟨_,_,_,rfl⟩
  .rintro δ ⟨p2,p3,p4,rfl⟩;rw[Au,BC];exact⟨_,_,_,_,rfl⟩
 .rintro δ ⟨G,v,r,q,rfl⟩;fin2;rw[BC];exact k
noncomputable def e8 (s:fX):D:=.tup [.int s.1,.int s.2]
noncomputable def sL (xs:List fX):D:=.lst (xs.map e8)
noncomputable def sO (xs:List fX):OV:=.nl (xs.map λs=>.fz (e8 s))
theorem TV {xs:List fX}:OV.jj (xs.map λs=>OV.fz (e8 s))=true:=by
 rw[OV.j4];simp[OV.lf,D.lf,D.jj,e8]
theorem yT {s:fX}:(e8 s).lf=true:=by simp[D.lf,D.jj,e8]
noncomputable abbrev yg:AZ:=top 9
theorem SJ:aQ ["one","other"] ["one","other"] (aB yg):=by walk_at "S"
def z4:dF:=λds P=>∃a b:fX,ds=[e8 a,e8 b]/\P (.fz (e8 (a.1+b.1,a.2+b.2)))
theorem Tr {f:Ac}{fd:Ak}(e:bL K mg "plus" yg f fd)(B:b9 mg)(KV:bZ K):
  cg P w K mg base "plus" 1 ["one","other"] (b7 K 2 z4):=by
 refine cZ.of e SJ (by walk_at "b") rfl (λc A o s H E h=>⟨_,_,(aH (aX (cb (ae (aV cq (aR aS (pv 0) aK (λ_ _=>rfl)) (aR aS (pv 1) aK (λ_ _=>rfl))) (ae (aV cq (aR aS (pv 0) aK (λ_ _=>rfl)) (aR aS (pv 1) aK (λ_ _=>rfl))) aD))))),
  (a_ (br (cD (aA (aP bU (bx (dm.b aU) aC (aM aF)) (bx (dm.b aU) aC (aM aF))) (aA (aP bU (bx (dm.b aU) aC (aM aF)) (bx (dm.b aU) aC (aM aF))) aJ))))),?_⟩)
 rintro ds r ⟨a,b,rfl,k⟩;simp only[e8]at k ⊢;fin2;exact k
noncomputable abbrev uA:AZ:=top 10
theorem O7:aQ ["one","other"] ["one","other"] (aB uA):=by walk_at "S"
def vV:dF:=λds P=>∃a b:fX,ds=[e8 a,e8 b]/\P (.fz (e8 (a.1-b.2,a.2-b.1)))
theorem Qp {f:Ac}{fd:Ak}(e:bL K mg "minus" uA f fd)(B:b9 mg)(KV:bZ K):
  cg P w K mg base "minus" 1 ["one","other"] (b7 K 2 vV):=by
 refine cZ.of e O7 (by walk_at "b") rfl (λc A o s H E h=>⟨_,_,(aH (aX (cb (ae (aV di (aR aS (pv 0) aK (λ_ _=>rfl)) (aR aS (pv 1) aK (λ_ _=>rfl))) (ae (aV di (aR aS (pv 0) aK (λ_ _=>rfl)) (aR aS (pv 1) aK (λ_ _=>rfl))) aD))))),
  (a_ (br (cD (aA (aP bU (bx (dm.b aU) aC (aM aF)) (bx (dm.b aU) aC (aM aF))) (aA (aP bU (bx (dm.b aU) aC (aM aF)) (bx (dm.b aU) aC (aM aF))) aJ))))),?_⟩)
 rintro ds r ⟨a,b,rfl,k⟩;simp only[e8]at k ⊢;fin2;exact k
noncomputable def UO (s:fX)(m:Int):fX:=if m<0 then (s.2*m,s.1*m) else (s.1*m,s.2*m)
noncomputable abbrev uz:AZ:=top 11
theorem O6:aQ ["one","many"] ["one","many"] (aB uz):=by walk_at "S"
def vT:dF:=λds P=>∃(a:fX) (m:Int),ds=[e8 a,.int m]/\(-1000000<=m/\m<=1000000)/\P (.fz (e8 (UO a m)))
theorem Qn {f:Ac}{fd:Ak}(e:bL K mg "times" uz f fd)(B:b9 mg)(KV:bZ K):
  cg P w K mg base "times" 1 ["one","many"] (b7 K 2 vT):=by
 refine cZ.of e O6 (by walk_at "b") rfl (λc A o s H E r=>⟨_,_,(aG (cu (bQ jX (pv 1) aK (bJ _)) (aH (aX (cb (ae (aV gv (aR aS (pv 0) aK (λ_ _=>rfl)) (pv 1)) (ae (aV gv (aR aS (pv 0) aK (λ_ _=>rfl)) (pv 1)) aD))))) bM)
   (aH (aX (cb (ae (aV gv (aR aS (pv 0) aK (λ_ _=>rfl)) (pv 1)) (ae (aV gv (aR aS (pv 0) aK (λ_ _=>rfl)) (pv 1)) aD)))))),
  (aT (cz (bO (aP dq aC (aM aF))) (a_ (br (cD (aA (aP cG (bx (dm.b aU) aC (aM aF)) aC) (aA (aP cG (bx (dm.b aU) aC (aM aF)) aC) aJ))))) bP)
   (a_ (br (cD (aA (aP cG (bx (dm.b aU) aC (aM aF)) aC) (aA (aP cG (bx (dm.b aU) aC (aM aF)) aC) aJ)))))),?_⟩)
 rintro ds g ⟨a,m,rfl,M,k⟩;simp only[e8,UO]at k ⊢;fin2;split
 .rename_i h;rw[if_pos h]at k;exact⟨mulR M.1 M.2,mulR M.1 M.2,k⟩
 .rename_i h;rw[if_neg h]at k;exact⟨mulR M.1 M.2,mulR M.1 M.2,k⟩
noncomputable abbrev pQ:AZ:=top 12
theorem MY:aQ ["one","shift"] ["one","shift"] (aB pQ):=by walk_at "S"
def sE:dF:=λds P=>∃(a:fX) (m:Int),ds=[e8 a,.int m]/\0<=m/\P (.fz (e8 (a.1 / 2^m.toNat,a.2 / 2^m.toNat)))
theorem Nh {f:Ac}{fd:Ak}(e:bL K mg "halved" pQ f fd)(B:b9 mg)(KV:bZ K):
  cg P w K mg base "halved" 1 ["one","shift"] (b7 K 2 sE):=by
 refine cZ.of e MY (by walk_at "b") rfl (λc A o s H E r=>⟨_,_,(aH (aX (cb (ae (aV qj (aR aS (pv 0) aK (λ_ _=>rfl)) (pv 1)) (ae (aV qj (aR aS (pv 0) aK (λ_ _=>rfl)) (pv 1)) aD))))),
  (a_ (br (cD (aA (aP cG (bx (dm.b aU) aC (aM aF)) aC) (aA (aP cG (bx (dm.b aU) aC (aM aF)) aC) aJ))))),?_⟩)
 rintro ds g ⟨a,m,rfl,h,k⟩;simp only[e8]at k ⊢;fin2;exact⟨h,h,k⟩
theorem Pu {f:Lf}{l r:fX}:ja f l r=(((UO l f.l).1+(UO r f.r).1+f.a) / 2^f.s.toNat,((UO l f.l).2+(UO r f.r).2+f.a) / 2^f.s.toNat):=rfl
noncomputable abbrev jL:AZ:=top 33
theorem lM:aQ ["lift","left","right","both"] ["lift","left","right"] (aB jL):=by walk_at "S"
def lI:dF:=λds P=>∃(f:Lf) (l r:fX),ds=[xN f,e8 l,e8 r]/\f.Ok/\P (.fz (e8 (ja f l r)))
theorem uY {f:Ac}{fd:Ak}(q:bL K mg "gain_span" jL f fd)(B:b9 mg)(KV:bZ K)(g:∃t,mg "SHIFT"=some (.int 4 t))(L:∃t,mg "LEFT"=some (.int 1 t))(G:∃t,mg "RIGHT"=some (.int 2 t))(e:∃t,mg "ADD"=some (.int 3 t))(p:cg P w K mg base "plus" 1 ["one","other"] (b7 K 2 z4))(m:cg P w K mg base "times" 1 ["one","many"] (b7 K 2 vT))(h:cg P w K mg base "halved" 1 ["one","shift"] (b7 K 2 sE)):
  cg P w K mg base "gain_span" 2 ["lift","left","right"] (b7 K 3 lI):=by
 refine cZ.of q lM (by walk_at "b") rfl (λc A o s H E j=>⟨_,_,(aG (bp (i:=3) lM.nd rfl (Ar rfl) (aZ p (j.mono (by decide)) (by rfl) (ae (aZ m (j.mono (by decide)) (by rfl) (ae (pv 1) (ae (aR aS (pv 0) (aN (by rfl) L) (λ_ _=>rfl)) aD))) (ae (aZ m (j.mono (by decide)) (by rfl) (ae (pv 2) (ae (aR aS (pv 0) (aN (by rfl) G) (λ_ _=>rfl)) aD))) aD))))
   (aH (aX (aZ h (j.mono (by decide)) (by rfl) (ae (aZ p (j.mono (by decide)) (by rfl) (ae (pv 3) (ae (cb (ae (aR aS (pv 0) (aN (by rfl) e) (λ_ _=>rfl)) (ae (aR aS (pv 0) (aN (by rfl) e) (λ_ _=>rfl)) aD))) aD))) (ae (aR aS (pv 0) (aN (by rfl) g) (λ_ _=>rfl)) aD)))))),
  (aT (bB (br (bX (aY (aA (bX (aY (aA aE (aA (bF aU aE aF) aJ)))) (aA (bX (aY (aA aE (aA (bF aU aE aF) aJ)))) aJ))))))
   (a_ (aY (aA (bX (aY (aA aE (aA (cD (aA (bF aU aE aF) (aA (bF aU aE aF) aJ))) aJ)))) (aA (bF aU aE aF) aJ))))),?_⟩)
 rintro ds u ⟨f,l,r,rfl,ok,k⟩;have h1:=ok.l;have h2:=ok.r;have n:=ok.s;simp only[xN];fin2;refine⟨l,f.l,rfl,⟨by lia,by lia⟩,r,f.r,rfl,⟨by lia,by lia⟩,UO l f.l,UO r f.r,rfl,?_⟩;fin2;refine⟨_,(f.a,f.a),rfl,_,f.s,rfl,n.1,?_⟩;rw[Pu]at k;exact k
noncomputable abbrev fy:AZ:=top 34
theorem cM:aQ ["row","ladder","stride","things","lift","at","left","right"] ["row","ladder","stride"] (aB fy):=by walk_at "S"
def cK:dF:=λds P=>∃(xs:List fX) (fs:List Lf) (st:Int),ds=[sL xs,eG fs,.int st]/\((∀f∈fs,f.Ok)/\0<st/\st<=64/\xs.length<=100000)/\P (sO (dM (0,0) c6 fs st xs))
theorem mR {f:Ac}{fd:Ak}(Df:bL K mg "lowered_spans" fy f fd)(B:b9 mg)(KV:bZ K)(p:∃t,mg "HALF"=some (.int 0 t))(l:cg P w K mg base "lifted_places" 2 ["half","many","stride"] (b7 K 3 cL))(C:cg P w K mg base "minus" 1 ["one","other"] (b7 K 2 vV))(a:cg P w K mg base "gain_span" 2 ["lift","left","right"] (b7 K 3 lI)):
  cg P w K mg base "lowered_spans" 3 ["row","ladder","stride"] (b7 K 3 cK):=by
 refine cZ.of Df cM (by walk_at "b") rfl (λc A o s H E hr=>⟨_,_,(aG (bp (i:=3) cM.nd rfl (Ar rfl) (sX q_ (by rfl) B.list BL (ae (pv 0) aD)))
   (aG (cX AG rfl (wC rfl B.reversed (ae (pv 1) aD)) (bt (i:=4) cM.nd rfl (Ar rfl)) (aH (cX AG rfl (df (aZ l (hr.mono (by decide)) (by rfl) (ae (aR aS (pv 4) (aN (by rfl) p) (λ_ _=>rfl)) (ae (aW bo (by rfl) B.len Bh (ae (pv 0) aD)) (ae (pv 2) aD))))) (lg (n:=3) rfl (cI (bt (i:=5) cM.nd rfl (Ar rfl)) (cI (bt (i:=6) cM.nd rfl (Ar rfl)) (cI (bt (i:=7) cM.nd rfl (Ar rfl)) iQ)))) (aH (mM (aZ C (hr.mono (by decide)) (by rfl) (ae (aR bK (pv 3) (pv 5) (λ_ _=>rfl)) (ae (aZ a (hr.mono (by decide)) (by rfl) (ae (pv 4) (ae (aR bK (pv 3) (pv 6) (λ_ _=>rfl)) (ae (aR bK (pv 3) (pv 7) (λ_ _=>rfl)) aD)))) aD))) (qe (pv 3) (pv 5) h8))))))
   (aH (aX (pv 3))))),
  (aT (bB (U1 L0 (aA aE aJ)))
   (aT (c_ (Wp (aA aE aJ)) bu (c_ (dR (bX (aY (aA (bF aU aE aF) (aA (bT cR (aI aC aO)) (aA aE aJ)))))) (k_ (cH bu (cH bu (cH bu iM)))) (yk (eV (aI (bx (dm.b cn) aC aC) (aI (aM (bX (eV (aI aC (aI (bx (dm.b cn) aC aC) (aI (bx (dm.b cn) aC aC) aO)))))) aO))) aC)))
   fT)),?_⟩)
 rintro ds Pr ⟨xs,fs,st,rfl,⟨Ŷ,U,s1,Q⟩,k⟩;simp only[sL,eG];fin2;simp only[Ui];refine⟨λi δ=>∃o1 J v r,δ=[vD (sL xs),vD (eG fs),vI st,some (.own (sO (ft (0,0) c6 fs i st xs))),o1,J,v,r],⟨none,none,none,none,by simp[sL,eG,sO,vk]⟩,?_,?_⟩
 .rintro i d δ hd ⟨o1,J,v,r,rfl⟩;rw[<- Ct]at hd;obtain⟨f,hf,rfl⟩:=mX hd;have m:i<fs.length:=by
   have:=(Ab.mp hf).1
   rwa[BQ]at this
  rw[B4 m]at hf;have O:=Ŷ f (Ai hf);have L:(ft (0,0) c6 fs i st xs).length=xs.length:=xf;dsimp only;rw[vl m hf];generalize hc:ft (0,0) c6 fs i st xs=u at L;simp only[sL,eG,sO,xN];fin2;simp only[cL];refine⟨⟨O.h,U,s1,by lia,by lia⟩,?_⟩;fin2;simp only[A9,Bx,OV.val];rw[<- L];refine⟨λj δ=>∃J v r,δ=[vD (sL xs),vD (eG fs),vI st,some (.own (sO (((cF f.h u.length st).take j).foldl (nX (0,0) (c6 f) st) u))),vD (xN f),J,v,r],⟨_,_,_,rfl⟩,?_,?_⟩
  .rintro j e δ he ⟨p2,p3,p4,rfl⟩;obtain⟨t,ht,rfl⟩:=mX he;have Ϗ:t∈cF f.h u.length st:=Ai ht;obtain⟨Ϩ,T⟩:=Ab.mp ht;obtain⟨b0,b1,b2,_⟩:=nM U O.h Ϗ;have M:=(Xt (z:=((0,0):fX)) (G:=c6 f) (h:=f.h) (st:=st) (xs:=u) U O.h j).1;have q:(cF f.h u.length st).take (j+1)=(cF f.h u.length st).take j++[t]:=by
    rw[AO Ϩ,T]
   dsimp only;rw[q,Dz];generalize hw:((cF f.h u.length st).take j).foldl (nX (0,0) (c6 f) st) u=ū at M;simp only[sL,eG,sO,Ë,xN];fin2;simp only[tX];refine⟨_,oZ (0,0) b0.1 (by (clear Q m L T;lia)),_,oZ (0,0) b1.1 (by (clear Q m L T;lia)),_,oZ (0,0) b2.1 (by (clear Q m L T;lia)),f,_,_,rfl,O,?_⟩;simp only[OV.lf,yT,true_and];fin2;refine⟨_,_,rfl,?_⟩;simp only[OV.lf,yT,true_and];refine⟨_,vh b0.1 (by (clear Q m L T;lia)),?_⟩;rw[O1 (g:=λs=>OV.fz (e8 s))];simp only[BV,Iw,nX,iX,M,c6];exact⟨_,_,_,rfl⟩
  .rintro δ ⟨p2,p3,p4,rfl⟩;rw[Au,BC];exact⟨_,_,_,_,rfl⟩
 .rintro δ ⟨o1,J,v,r,rfl⟩;fin2;rw[BQ,Au,xg];exact k
noncomputable abbrev ma:Þ:=[("raised",fb),("lowered_spans",cK)]
section SH
variable {α β:Type}
noncomputable def tab (n:Nat)(f:Nat->β):List β:=(AE n).map f
theorem bE {n:Nat}{f:Nat->β}:(tab n f).length=n:=by simp[tab]
theorem ke {n i:Nat}{f:Nat->β}(h:i<n):(tab n f)[i]?=some (f i):=by simp[tab,h]
theorem eP {n i:Nat}{f:Nat->β}{d:β}(h:i<n):(tab n f).getD i d=f i:=by simp[tab,h]
theorem dr {n:Nat}{f g:Nat->β}(h:∀i,i<n->f i=g i):tab n f=tab n g:=B8 λi hi=>h i (BK.mp hi)
theorem fm {a:Type}{n:Nat}{f:Nat->β}{g:β->a}:(tab n f).map g=tab n λi=>g (f i):=by simp[tab]
theorem vO (z:α)(xs:List α):tab xs.length (λi=>xs.getD i z)=xs:=by
 refine NH z (by rw[bE]) λp h=>?_
 rw[bE]at h;rw[eP h]
theorem mC (z:α){n:Nat}{xs:List α}(h:xs.length=n):tab n (λi=>xs.getD i z)=xs:=by subst h;exact vO z xs
theorem lB {n i:Nat}{f:Nat->β}{v:β}:(tab n f).set i v=tab n λj=>if j=i then v else f j:=by
 refine Ep λj=>?_
 rw[Fh,bE];by_cases h:j<n
 .rw [ke h,ke h];by_cases e:i=j
  .subst e;simp[h]
  .rw [if_neg e,if_neg λz=>e z.symm]
 .have c:(tab n f)[j]?=none:=Bg (by rw[bE];lia);have a:(tab n λj=>if j=i then v else f j)[j]?=none:=Bg (by rw[bE];lia);rw[c,a];split
  .rw [if_neg (by lia)]
  .rfl
theorem kx {n:Nat}{f:Nat->D}{i:Int}(a:0<=i)(h:i<n):kI (tab n f) i=some (f i.toNat):=by
 have e:=dg (xs:=tab n f) (ke (show i.toNat<n by lia))
 rwa[show ((i.toNat:Nat):Int)=i by lia]at e
noncomputable def kC (z:α)(op:List α->List α)(w st:Nat)(e:Nat->Nat->α):Nat->Nat->α:=λi j=>if i%st=0 then (op (tab w (e i))).getD j z else e i j
noncomputable def kF (z:α)(op:List α->List α)(h st:Nat)(e:Nat->Nat->α):Nat->Nat->α:=λi j=>if j%st=0 then (op (tab h λi=>e i j)).getD i z else e i j
def ro (h w:Nat)(e e':Nat->Nat->α):Prop:=∀i j,i<h->j<w->e i j=e' i j
theorem wc {z:α}{op:List α->List α}{h w st:Nat}{e e':Nat->Nat->α}(q:ro h w e e'):ro h w (kC z op w st e) (kC z op w st e'):=λi j hi J=>by
 unfold kC;rw[dr (λj J=>q i j hi J),q i j hi J]
theorem RH {z:α}{op:List α->List α}{h w st:Nat}{e e':Nat->Nat->α}(q:ro h w e e'):ro h w (kF z op h st e) (kF z op h st e'):=λi j hi J=>by
 unfold kF;rw[dr (λi hi=>q i j hi J),q i j hi J]
theorem M2 {z:α}{op op':List α->List α}{h w st:Nat}{e:Nat->Nat->α}(hl:∀r:List α,r.length=w->(op r).length=w)(B:∀r:List α,r.length=w->op' (op r)=r):ro h w (kC z op' w st (kC z op w st e)) e:=λi j hi J=>by
 unfold kC;by_cases q:i%st=0
 .simp only[q,if_true];rw[mC z (hl _ bE),B _ bE,eP J]
 .simp only[q,if_false]
theorem NJ {z:α}{op op':List α->List α}{h w st:Nat}{e:Nat->Nat->α}(hl:∀r:List α,r.length=h->(op r).length=h)(B:∀r:List α,r.length=h->op' (op r)=r):ro h w (kF z op' h st (kF z op h st e)) e:=λi j hi J=>by
 unfold kF;by_cases q:j%st=0
 .simp only[q,if_true];rw[mC z (hl _ bE),B _ bE,eP hi]
 .simp only[q,if_false]
theorem ro.trans {h w:Nat}{a b c:Nat->Nat->α}(x:ro h w a b)(y:ro h w b c):ro h w a c:=λi j hi J=>(x i j hi J).trans (y i j hi J)
theorem ro.symm {h w:Nat}{a b:Nat->Nat->α}(x:ro h w a b):ro h w b a:=λi j hi J=>(x i j hi J).symm
theorem ro.refl {h w:Nat}{a:Nat->Nat->α}:ro h w a a:=λ_ _ _ _=>rfl
noncomputable def ou (z:α)(op:Nat->List α->List α)(h w:Nat):Nat->(Nat->Nat->α)->Nat->Nat->α
 | 0,e=>e
 |n+1,e=>kF z (op n) h (2^n) (kC z (op n) w (2^n) (ou z op h w n e))
noncomputable def dU (z:α)(op:Nat->List α->List α)(h w:Nat):Nat->Nat->(Nat->Nat->α)->Nat->Nat->α
 | 0,_,e=>e
 |n+1,d,e=>if d<=n then dU z op h w n d (kC z (op n) w (2^n) (kF z (op n) h (2^n) e)) else e
theorem mQ {z:α}{op:Nat->List α->List α}{h w:Nat}:∀(n d:Nat) {e e':Nat->Nat->α},ro h w e e'->ro h w (dU z op h w n d e) (dU z op h w n d e')
 | 0,_,_,_,q=>q
 |n+1,d,e,e',q=>by
  unfold dU;split
  .exact mQ n d (wc (RH q))
  .exact q
theorem wG {z:α}{up dn:Nat->List α->List α}{h w:Nat}(hl:∀k (r:List α),(up k r).length=r.length)(B:∀k (r:List α),dn k (up k r)=r):
  ∀(n d:Nat) (e:Nat->Nat->α),d<=n->ro h w (dU z dn h w n d (ou z up h w n e)) (ou z up h w d e)
 | 0,d,e,hd=>by
  have:d=0:=by lia
  subst this;exact ro.refl
 |n + 1,d,e,hd=>by
  unfold dU;by_cases q:d<=n
  .rw [if_pos q];refine (mQ n d ?_).trans (wG hl B n d e q);exact (wc (NJ (λr a=>by rw[hl];exact a) (λr _=>B n r))).trans (M2 (λr a=>by rw[hl];exact a) (λr _=>B n r))
  .rw [if_neg q];have:d=n+1:=by lia
   subst this;exact ro.refl
end SH
noncomputable def jn {a:Type}(g:a->D)(h w:Nat)(e:Nat->Nat->a):List OV:=tab h λi=>.nl (tab w λj=>.fz (g (e i j)))
noncomputable def rz {a:Type}(g:a->D)(h w:Nat)(e:Nat->Nat->a):List D:=tab h λi=>.lst (tab w λj=>g (e i j))
theorem iD {a:Type}{g:a->D}{h w:Nat}{e:Nat->Nat->a}:(jn g h w e).map OV.val=rz g h w e:=by
 unfold jn rz;rw[fm];simp only[OV.val,OV.c4,fm]
theorem uj {a:Type}{g:a->D}{h w:Nat}{e e':Nat->Nat->a}(q:ro h w e e'):jn g h w e=jn g h w e':=by
 exact dr λi hi=>by rw[dr λj J=>by rw[q i j hi J]]
structure NS (α:Type) (z:α) (g:α->D) (op:List α->List α) (n:Nat) (st:Nat) (Í:D) (sp:dF):Prop where
 run:∀r:List α,r.length=n->∀Q:OV->Prop,Q (.nl ((op r).map λx=>.fz (g x)))->sp [.lst (r.map g),Í,.int st] Q
 len:∀r:List α,r.length=n->(op r).length=n
 off:∀(r:List α) (i:Nat),r.length=n->i<n->i%st≠0->(op r).getD i z=r.getD i z
 lf:∀x,(g x).lf=true
noncomputable abbrev hH:AZ:=top 39
theorem jD:aQ ["sheet","doing","ladder","stride","i"] ["sheet","doing","ladder","stride"] (aB hH):=by walk_at "S"
def f6:Z0:=λts ds P=>∃(a:Type) (z:a) (g:a->D) (op:List a->List a) (x:Al) (sp:dF) (l:D) (h w st:Nat) (e:Nat->Nat->a),ts=jn g h w e/\ds=[.fn x,l,.int st]/\(x,sp)∈ma/\NS a z g op w st l sp/\0<st/\st<=64/\h<=1000/\P (jn g h w (kC z op w st e))
theorem W8 {a:Type}{g:a->D}(hg:∀x,(g x).lf=true)(xs:List a):OV.lf (.nl (xs.map λx=>.fz (g x)))=true:=by
 simp[OV.lf,OV.j4,hg]
theorem lD {h st:Nat}(a:0<st){n:Nat}(hn:n<d4 0 h st):n*st<h:=by
 have:=(uI (by lia) n).mp hn;rw[Dj]at this
 exact_mod_cast this
theorem pA {h st i:Nat}(a:0<st)(hi:i<h)(m:i%st=0):i<d4 0 h st*st:=by
 rcases Ev i (d4 0 h st*st) with q |q
 .exact q
 .exfalso
  have h1:d4 0 h st<=i / st:=by
   rw[Nat.le_div_iff_mul_le a];exact q
  have h2:¬ (d4 0 h st<d4 0 h st):=B3 _
  apply h2
  rw[uI (by lia)];have c:d4 0 h st*st<h:=by lia
  have:((d4 0 h st*st:Nat):Int)<h:=by exact_mod_cast c
  rw[Dj]
  exact_mod_cast this
theorem S7 {h st:Nat}(a:0<st):d4 0 h st<=h:=by
 rcases Ev h (d4 0 h st) with q |q
 .have:=lD a q;have h2:h*1<=h*st:=C8 _ a;lia
 .exact q
theorem qr {f:Ac}{fd:Ak}(Df:bL K mg "change_rows" hH f fd)(B:b9 mg)(KV:bZ K)(m:kK K mg "raised")(l:kK K mg "lowered_spans")(C:cg P w K mg base "raised" 3 ["row","ladder","stride"] (b7 K 3 fb))(r:cg P w K mg base "lowered_spans" 3 ["row","ladder","stride"] (b7 K 3 cK)):
  cg P w K mg base "change_rows" 4 ["sheet","doing","ladder","stride"] (ug K 4 f6):=by
 refine VV.of Df jD (by walk_at "b") rfl (λc A o s H E M=>⟨_,_,(aH (cX AG rfl (kj (by rfl) (by exact B.range) (ae aK (ae (aW bo (by rfl) B.len Bh (ae (pv 0) aD)) (ae (pv 3) aD)))) (bt (i:=4) jD.nd rfl (Ar rfl)) (aH (mM (Lm (pv 1) (zS (K:=K) (n:=3) (tb:=ma) (k:=3) (by simp only[ma,BU];exact⟨⟨_,C.mono (by decide)⟩,⟨_,r.mono (by decide)⟩,λ_ h=>by cases h⟩)) (M.mono (by decide)) (ae (aR bK (pv 0) (pv 4) (λ_ _=>rfl)) (ae (pv 2) (ae (pv 3) aD)))) (qe (pv 0) (pv 4) h8))))),
  (c_ (oM (aI (aM aF) (aI (aM (bT cR (aI aC aO))) (aI aC aO)))) bu (Pd (i:=0) LC (yk (MZ (tb:=ma) (by simp only[ma,BU];exact⟨m,l,λ_ h=>by cases h⟩) (aI (bx (dm.b cn) aC aC) (aI aC (aI aC aO)))) aC))),?_⟩)
 rintro a ts ds Pr ⟨α,z,g,op,x,sp,u,h,w,st,e,rfl,rfl,O,ok,p,s1,hh,k⟩;fin2;refine⟨⟨by lia,by rw[jn,bE];lia,by lia,by lia⟩,?_⟩;rw[show ((jn g h w e).length:Int)=(h:Int) by rw[jn,bE]];refine⟨λn δ=>n<=d4 0 h st/\∃o,δ=[some (.own (.rt a (jn g h w λi j=>if i%st=0/\i<n*st then (op (tab w (e i))).getD j z else e i j))),vD (.fn x),vD u,vI st,o],⟨Br _,none,?_⟩,?_,?_⟩
 .simp only[Ie,DV,and_false,if_false]
 .rintro n d δ hd ⟨hn,o,rfl⟩;obtain⟨hi,rfl⟩:=dS hd;have L:=lD p hi;have t:(0+(n:Int)*(st:Int))=((n*st:Nat):Int):=by rw[Dj];exact_mod_cast rfl
  rw[t];fin2;refine⟨sp,O,?_⟩;rw[iD];refine⟨_,kx (by lia) (by exact_mod_cast L),?_⟩;rw[show ((n*st:Nat):Int).toNat=n*st by lia];have er:(D.lst (tab w λj=>g (if (n*st)%st=0/\n*st<n*st then (op (tab w (e (n*st)))).getD j z else e (n*st) j))) = .lst ((tab w (e (n*st))).map g):=by
   rw[fm];simp only[B3,and_false,if_false]
  rw[er]
  try fin2
  refine ok.run _ bE _ ?_;refine⟨W8 ok.lf _,n*st,?_,?_⟩
  .rw [jn,bE];have:=vh (n:=h) (i:=((n*st:Nat):Int)) (by lia) (by exact_mod_cast L)
   rwa[show ((n*st:Nat):Int).toNat=n*st by lia]at this
  .try fin2
   refine⟨hi,some (.own (.fz (.int ((n*st:Nat):Int)))),?_⟩;have U : (jn g h w λi j=>if i%st=0/\i<n*st then (op (tab w (e i))).getD j z else e i j).set (n*st) (.nl ((op (tab w (e (n*st)))).map λx=>.fz (g x)))=jn g h w λi j=>if i%st=0/\i<(n+1)*st then (op (tab w (e i))).getD j z else e i j:=by
    unfold jn;rw[lB];refine dr λi T=>?_
    by_cases q:i=n*st
    .subst q;rw[if_pos rfl];have e1:∀j,(if (n*st)%st=0/\n*st<(n+1)*st then (op (tab w (e (n*st)))).getD j z else e (n*st) j)=(op (tab w (e (n*st)))).getD j z:=λj=>if_pos ⟨Eh _ _,by rw[DF];lia⟩
     simp only[e1];congr 1
     rw[<- fm (f:=λj=>(op (tab w (e (n*st)))).getD j z) (g:=λx=>OV.fz (g x)),mC z (ok.len _ bE)]
    .rw [if_neg q];congr 1
     refine dr λj _=>?_
     have:(i%st=0/\i<n*st)↔(i%st=0/\i<(n+1)*st):=by
      constructor
      .rintro ⟨Q,v⟩;exact⟨Q,by rw[DF];lia⟩
      .rintro ⟨Q,v⟩;refine⟨Q,?_⟩;have G:i=i / st*st:=by
        have:=Iv i st;rw[Q,Ij,GY]at this;exact this.symm
       have e3:i / st<n+1:=by rw[G3 p];exact v
       rcases Ev (i / st) n with y |y
       .have:(i / st+1)*st<=n*st:=Hb _ y;rw[DF]at this;lia
       .have:i / st=n:=by lia
        rw[this]at G;exact absurd G q
     dsimp only;by_cases y:i%st=0/\i<n*st
     .rw [if_pos y,if_pos (this.mp y)]
     .rw [if_neg y,if_neg λJ=>y (this.mpr J)]
   rw[U]
 .rintro δ ⟨_,o,rfl⟩;rw[dz];refine⟨_,rfl,?_⟩;rw[uj (e':=kC z op w st e)]
  .exact k
  .intro i j hi hj;show (if i%st=0/\i<d4 0 h st*st then _ else _)=if i%st=0 then _ else _
   by_cases q:i%st=0
   .rw [if_pos ⟨q,pA p hi q⟩,if_pos q]
   .rw [if_neg λy=>q y.1,if_neg q]
noncomputable abbrev d_:AZ:=top 40
theorem dO:aQ ["sheet","doing","ladder","stride","j","column","i"] ["sheet","doing","ladder","stride"] (aB d_):=by walk_at "S"
def eR:Z0:=λts ds P=>∃(a:Type) (z:a) (g:a->D) (op:List a->List a) (x:Al) (sp:dF) (l:D) (h w st:Nat) (e:Nat->Nat->a),ts=jn g h w e/\ds=[.fn x,l,.int st]/\(x,sp)∈ma/\NS a z g op h st l sp/\0<st/\st<=64/\0<h/\h<=1000/\w<=1000/\P (jn g h w (kF z op h st e))
theorem nN {i st n:Nat}(a:0<st)(Q:i%st=0)(h:i≠n*st):i<n*st↔i<(n+1)*st:=by
 constructor
 .intro y;rw[DF];lia
 .intro q;have e:i=i / st*st:=by
   have:=Iv i st;rw[Q,Ij,GY]at this;exact this.symm
  have c:i / st<n+1:=by rw[G3 a];exact q
  rcases Ev (i / st) n with y |y
  .have:(i / st+1)*st<=n*st:=Hb _ y;rw[DF]at this;lia
  .have:i / st=n:=by lia
   rw[this]at e;exact absurd e h
theorem lW {f:Ac}{fd:Ak}(Df:bL K mg "change_columns" d_ f fd)(B:b9 mg)(KV:bZ K)(u:kK K mg "raised")(l:kK K mg "lowered_spans")(C:cg P w K mg base "raised" 3 ["row","ladder","stride"] (b7 K 3 fb))(r:cg P w K mg base "lowered_spans" 3 ["row","ladder","stride"] (b7 K 3 cK)):
  cg P w K mg base "change_columns" 4 ["sheet","doing","ladder","stride"] (ug K 4 eR):=by
 refine VV.of Df dO (by walk_at "b") rfl (λc A o s H E hr=>⟨_,_,(aH (cX AG rfl (kj (by rfl) (by exact B.range) (ae aK (ae (aW bo (by rfl) B.len Bh (ae (aR bK (pv 0) aK (λ_ _=>rfl)) aD)) (ae (pv 3) aD)))) (bt (i:=4) dO.nd rfl (Fm rfl)) (aG (bp (i:=5) dO.nd rfl (Ar rfl) (Lm (pv 1) (zS (K:=K) (n:=3) (tb:=ma) (k:=3) (by simp only[ma,BU];exact⟨⟨_,C.mono (by decide)⟩,⟨_,r.mono (by decide)⟩,λ_ h=>by cases h⟩)) (hr.mono (by decide)) (ae (eC rfl (df (pv 0)) (show bV (aB d_) _ from⟨rfl,by decide +kernel,by decide +kernel,by decide +kernel⟩) (N:=["row","j"]) (ix:=[none,some 4]) (show cT _ _ _ _ from⟨⟨rfl,rfl,.inl rfl⟩,trivial⟩) (λ_ _ _=>(bt (i:=0) (show Bo (["row","j"]:List Al) by decide +kernel) rfl (Ar rfl))) (λ_ _ _=>(aR bK (pv 0) (pv 1) (λ_ _=>rfl)))) (ae (pv 2) (ae (pv 3) aD)))))
   (aH (cX AG rfl (kj (by rfl) (by exact B.range) (ae aK (ae (aW bo (by rfl) B.len Bh (ae (pv 0) aD)) (ae (pv 3) aD)))) (bt (i:=6) dO.nd rfl (Ar rfl)) (aH (mM (aR bK (pv 5) (pv 6) (λ_ _=>rfl)) (qe (aR bK (pv 0) (pv 6) (λ_ _=>rfl)) (pv 4) h8)))))))),
  (c_ (oM (aI (aM aF) (aI (aM (bT cR (aI (bx (dm.b cn) aC (aM aF)) aO))) (aI aC aO)))) bu (aT (bB (br (bX (Pn (tb:=ma) (by simp only[ma,BU];exact⟨u,l,λ_ h=>by cases h⟩) (aA (bX (v8 aC (br (K' (bx (dm.b cn) aC aC))))) (aA aE (aA aE aJ)))))))
   (c_ (oM (aI (aM aF) (aI (aM (bT cR (aI aC aO))) (aI aC aO)))) bu (Pd (i:=0) LC (K5 (bF cn aE aE) aC aC))))),?_⟩)
 rintro a ts ds Pr ⟨α,z,g,op,x,sp,Í,h,w,st,e,rfl,rfl,hm,ok,s0,s1,h0,hh,hw,k⟩;fin2;rw[iD];refine⟨_,kx (by lia) (by lia),?_⟩;fin2;rw[bE];refine⟨⟨by lia,by lia,by lia,by lia⟩,?_⟩;refine⟨λn δ=>n<=d4 0 w st/\∃o1 o2 o3,δ=[some (.own (.rt a (jn g h w λi j=>if j%st=0/\j<n*st then (op (tab h λi=>e i j)).getD i z else e i j))),vD (.fn x),vD Í,vI st,o1,o2,o3],⟨Br _,none,none,none,?_⟩,?_,?_⟩
 .simp only[Ie,DV,and_false,if_false]
 .rintro n d δ hd ⟨hn,o1,o2,o3,rfl⟩;obtain⟨hi,rfl⟩:=dS hd;have O:=lD s0 hi;have Ċ:(0+(n:Int)*(st:Int))=((n*st:Nat):Int):=by rw[Dj];exact_mod_cast rfl
  rw[Ċ];generalize hj:n*st=j at O;fin2;refine⟨sp,hm,?_⟩;rw[iD];refine gA.YZ (AE h) _ (λi=>.fz (g (e i j))) (by rw[CT];lia) (λi v Q q=>?_) ?_
  .have Ϭ:=BK.mp v;fin2;refine⟨_,kx (by lia) (by exact_mod_cast O),?_⟩;rw[show ((j:Nat):Int).toNat=j by lia,if_neg λy=>by lia];exact⟨ok.lf _,q⟩
  .have e1 : (AE h).map (λi=>OV.fz (g (e i j)))=(tab h λi=>e i j).map λx=>OV.fz (g x):=by rw[fm];rfl
   rw[e1];fin2;simp only[tX];refine ok.run _ bE _ ?_;generalize U:tab h (λi=>e i j)=c;have Vt:c.length=h:=by rw[<- U];exact bE
   have Ϛ:=ok.len c Vt;fin2;simp only[tX];refine⟨⟨by lia,by rw[jn,bE];lia,by lia,by lia⟩,?_⟩;rw[show ((jn g h w λi J=>if J%st=0/\J<j then (op (tab h λi=>e i J)).getD i z else e i J).length:Int)=(h:Int) by rw[jn,bE]];refine⟨λm δ=>∃o3,δ=[some (.own (.rt a (jn g h w λi J=>if J=j/\i%st=0/\i<m*st then (op c).getD i z else if J%st=0/\J<j then (op (tab h λi=>e i J)).getD i z else e i J))),vD (.fn x),vD Í,vI st,vI j,vD (.lst ((op c).map g)),o3],⟨o3,?_⟩,?_,?_⟩
   .simp only[Ie,DV,and_false,if_false]
   .rintro m d δ R_ ⟨p3,rfl⟩;obtain⟨ċ,rfl⟩:=dS R_;have t:=lD s0 ċ;have T:(0+(m:Int)*(st:Int))=((m*st:Nat):Int):=by rw[Dj];exact_mod_cast rfl
    rw[T];generalize L:m*st=i at t;fin2;refine⟨_,oZ z (by lia) (by rw[Ϛ];exact_mod_cast t),?_⟩;rw[show ((i:Nat):Int).toNat=i by lia];refine⟨i,_,?_,ke t,j,?_,?_⟩
    .rw [jn,bE];have:=vh (n:=h) (i:=((i:Nat):Int)) (by lia) (by exact_mod_cast t)
     rwa[show ((i:Nat):Int).toNat=i by lia]at this
    .rw [bE];have:=vh (n:=w) (i:=((j:Nat):Int)) (by lia) (by exact_mod_cast O)
     rwa[show ((j:Nat):Int).toNat=j by lia]at this
    .try fin2
     refine⟨vI ((i:Nat):Int),?_⟩;have es:(jn g h w λi J=>if J=j/\i%st=0/\i<m*st then (op c).getD i z else if J%st=0/\J<j then (op (tab h λi=>e i J)).getD i z else e i J).set i (.nl ((tab w λJ=>OV.fz (g (if J=j/\i%st=0/\i<m*st then (op c).getD i z else if J%st=0/\J<j then (op (tab h λi=>e i J)).getD i z else e i J))).set j (.fz (g ((op c).getD i z))))) =
       jn g h w λi J=>if J=j/\i%st=0/\i<(m+1)*st then (op c).getD i z else if J%st=0/\J<j then (op (tab h λi=>e i J)).getD i z else e i J:=by
      unfold jn;rw[lB];refine dr λG v=>?_
      by_cases q:G=i
      .subst q;rw[if_pos rfl,lB];congr 1
       refine dr λJ T9=>?_
       dsimp only;by_cases y:J=j
       .subst y;rw[if_pos rfl,if_pos ⟨rfl,by rw[<- L];exact Eh _ _,by rw[<- L,DF];lia⟩]
       .simp only[y,false_and,if_false]
      .rw [if_neg q];congr 1
       refine dr λJ T9=>?_
       dsimp only;by_cases y:J=j/\G%st=0
       .have M:G≠m*st:=by rw[L];exact q
        have:=nN (n:=m) s0 y.2 M;by_cases y2:G<m*st
        .rw [if_pos ⟨y.1,y.2,y2⟩,if_pos ⟨y.1,y.2,this.mp y2⟩]
        .rw [if_neg (show ¬ (J=j/\G%st=0/\G<m*st) from λp=>y2 p.2.2),if_neg (show ¬ (J=j/\G%st=0/\G<(m+1)*st) from λp=>y2 (this.mpr p.2.2))]
       .rw [if_neg (show ¬ (J=j/\G%st=0/\G<m*st) from λp=>y ⟨p.1,p.2.1⟩),if_neg (show ¬ (J=j/\G%st=0/\G<(m+1)*st) from λp=>y ⟨p.1,p.2.1⟩)]
     simp only[L]at es;rw[es]
   .rintro δ ⟨p3,rfl⟩;rw[dz];refine⟨hi,vI j,vD (.lst ((op c).map g)),p3,?_⟩;rw[uj (e':=λi j=>if j%st=0/\j<(n+1)*st then (op (tab h λi=>e i j)).getD i z else e i j)];intro i J v T9;dsimp only;by_cases y:J=j
    .subst y;rw[U,if_pos (show J%st=0/\J<(n+1)*st from⟨by rw[<- hj];exact Eh _ _,by rw[<- hj,DF];lia⟩)];by_cases q:i%st=0
     .rw [if_pos ⟨rfl,q,pA s0 v q⟩]
     .rw [if_neg λp=>q p.2.1,if_neg (show ¬ (J%st=0/\J<J) from λp=>by lia),ok.off c i Vt v q,<- U,eP v]
    .rw [if_neg λp=>y p.1];by_cases q:J%st=0
     .have M:J≠n*st:=by rw[hj];exact y
      have:=nN (n:=n) s0 q M;rw[hj]at this;by_cases y2:J<j
      .rw [if_pos ⟨q,y2⟩,if_pos ⟨q,this.mp y2⟩]
      .rw [if_neg λp=>y2 p.2,if_neg λp=>y2 (this.mpr p.2)]
     .rw [if_neg λp=>q p.1,if_neg λp=>q p.1]
 .rintro δ ⟨_,o1,o2,o3,rfl⟩;rw[dz];refine⟨_,rfl,?_⟩;rw[uj (e':=kF z op h st e)]
  .exact k
  .intro i j hi hj;show (if j%st=0/\j<d4 0 w st*st then _ else _)=if j%st=0 then _ else _
   by_cases q:j%st=0
   .rw [if_pos ⟨q,pA s0 hj q⟩,if_pos q]
   .rw [if_neg λy=>q y.1,if_neg q]
theorem Wh (h st:Nat)(f:0<st):Db 0 h st=(AE (d4 0 h st)).map λk=>k*st:=by
 unfold Db d4 AS;have c:(st:Int) > 0:=by lia
 simp only[c,if_true];by_cases a:(0:Int)<h
 .simp only[a,if_true];have e:((h:Int)-0+st-1) / st=((h:Int)-0-1) / st+1:=by
   rw[show (h:Int)-0+st-1=((h:Int)-0-1)+1*st by lia,Int.add_mul_ediv_right _ _ (by lia)]
  rw[e];refine B8 λk _=>?_
  rw[Dj,DY]
  exact_mod_cast rfl
 .simp only[a,if_false];rfl
theorem LR {a c:Type}{f:a->Option c}{g:a->c}:∀{J:List a},(∀j∈J,f j=some (g j))->J.filterMap f=J.map g
 | [],_=>rfl
 |j::J,h=>by
  rw[Cj (h j Az),LR λk e=>h k (Aw _ e),BJ]
theorem sA {c:Type}{h st:Nat}{f:Nat->c}(a:0<st):lE (tab h f) st=tab (d4 0 h st) λk=>f (k*st):=by
 unfold lE;rw[bE,Wh h st a];rw[Fv];refine LR λk e=>?_
 exact ke (lD a (BK.mp e))
theorem wm {h:Nat}:d4 0 h (1:Nat)=h:=u7 λi=>by
 rw[uI (by decide)];simp
noncomputable abbrev kf:AZ:=top 44
theorem yb:aQ ["sheet","k"] ["sheet","k"] (aB kf):=by walk_at "S"
def iw:dF:=λds P=>∃(a:Type) (g:a->D) (h w k:Nat) (e:Nat->Nat->a),ds=[.lst (rz g h w e),.int k]/\k<=6/\h<=1000/\w<=1000/\P (.nl (jn g (d4 0 h (2^k:Nat)) (d4 0 w (2^k:Nat)) λi j=>e (i*2^k) (j*2^k)))
theorem yG {f:Ac}{fd:Ak}(m:bL K mg "thinned" kf f fd)(B:b9 mg)(KV:bZ K):
  cg P w K mg base "thinned" 1 ["sheet","k"] (b7 K 2 iw):=by
 refine cZ.of m yb (by walk_at "b") rfl (λc A o s H E t=>⟨_,_,(aH (aX (eC rfl (df (Lj (pv 0) (aV gu aK (pv 1)))) (show bV (aB kf) _ from⟨rfl,by decide +kernel,by decide +kernel,by decide +kernel⟩) (N:=["row","k"]) (ix:=[none,some 1]) (show cT _ _ _ _ from⟨⟨rfl,rfl,.inl rfl⟩,trivial⟩) (λ_ _ _=>(bt (i:=0) (show Bo (["row","k"]:List Al) by decide +kernel) rfl (Ar rfl))) (λ_ _ _=>(Lj (pv 0) (aV gu aK (pv 1))))))),
  (a_ (dQ (dR (bX (K7 aE (aM (aP cG (aM aF) aC))))) bu (K7 aE (aM (aP cG (aM aF) aC))))),?_⟩)
 rintro ds v ⟨n,g,h,w,k,e,rfl,r,u,hw,q⟩;have a:(1:Int)*2^((k:Int)).toNat=((2^k:Nat):Int):=by simp
 have p:0<2^k:=Fb (by decide);fin2;rw[a];refine⟨⟨by lia,by lia⟩,by exact_mod_cast p,?_⟩;simp only[rz];rw[sA p];simp only[fm,OV.val];have l:=S7 (h:=h) p;refine gA.map (AE (d4 0 h (2^k:Nat))) (λi=>D.lst (tab w λj=>g (e (i*2^k) j))) (λi=>.nl (tab (d4 0 w (2^k:Nat)) λj=>.fz (g (e (i*2^k) (j*2^k))))) (by rw[CT];lia) (λi hi Q q=>?_) ?_
 .fin2;rw[a];refine⟨⟨by lia,by lia⟩,by exact_mod_cast p,?_⟩;rw[sA p,fm];exact q
 .exact q
theorem NF {a:Type}{z:a}{G:a->a->a->a}{h:Int}{st:Nat}{xs:List a}{p:Nat}(g:0<st)(c:h=0∨h=1)(f:p%st≠0):(gP z G h st xs).getD p z=xs.getD p z:=by
 rw[(Ri (z:=z) (G:=G) (h:=h) (st:=(st:Int)) (xs:=xs) (by lia) c).2 p,if_neg];intro m;obtain⟨_,_,i,hi⟩:=(eX (show (0:Int)<st by lia)).mp m
 apply f
 rcases c with rfl |rfl
 .have:p=i*2*st:=by
   have e:(p:Int)=((i*2*st:Nat):Int):=by rw[hi,Int.zero_mul,Dj,<- Dr];exact_mod_cast rfl
   exact_mod_cast e
  rw[this];exact Eh _ _
 .have:p=(1+i*2)*st:=by
   have e:(p:Int)=(((1+i*2)*st:Nat):Int):=by rw[hi,<- Dr,<- FZ];exact_mod_cast rfl
   exact_mod_cast e
  rw[this];exact Eh _ _
theorem m9 {a:Type}{z:a}{G:Lf->a->a->a->a}{st:Nat}{p:Nat}(e:0<st)(j:p%st≠0):∀(c:List Lf) (xs:List a),(∀f∈c,f.Ok)->(c.foldl (λxs f=>gP z (G f) f.h st xs) xs).getD p z=xs.getD p z
 | [],_,_=>rfl
 |f::c,xs,ok=>by
  rw[BV,m9 e j c _ λg hg=>ok g (Aw _ hg)];exact NF e (ok f Az).h j
theorem P_ {k:Nat}(h:k<=6):0<2^k/\2^k<=64:=⟨Fb (by decide),Bv (Fc (by decide) h) (by decide)⟩
theorem ui {a:Type}{g:a->D}{h w:Nat}{e:Nat->Nat->a}:jn g (d4 0 h (2^0:Nat)) (d4 0 w (2^0:Nat)) (λi j=>e (i*2^0) (j*2^0))=jn g h w e:=by
 rw[show (2^0:Nat)=1 by decide,wm,wm];simp only[Nat.mul_one]
theorem Lb {fs:List Lf}{st:Int}{xs:List Int}:b_ fs st xs=fs.foldl (λxs f=>gP 0 ((λ(f:Lf) x l r=>x+1*kT f l r) f) f.h st xs) xs:=rfl
theorem sS {fs:List Lf}{st n:Nat}(ok:∀f∈fs,f.Ok)(s0:0<st)(s1:st<=64)(hn:n<=1000):NS Int 0 D.int (b_ fs st) n st (eG fs) fb where
 run:=λr hr Q q=>⟨r,fs,st,rfl,⟨ok,by lia,by lia,by lia⟩,q⟩
 len:=λr hr=>by rw[Lb,ij];exact hr
 off:=λr i hr hi hm=>m9 (z:=(0:Int)) (G:=λf x l r=>x+1*kT f l r) s0 hm fs r ok
 lf:=λx=>rfl
theorem Nb {a:Type}{z:a}{op:Nat->List a->List a}{h w:Nat}{e:Nat->Nat->a}:∀{n d:Nat},n<=d->dU z op h w n d e=e
 | 0,_,_=>rfl
 |n+1,d,hd=>by
  show (if d<=n then _ else e)=e
  rw[if_neg (by lia)]
noncomputable abbrev jH:AZ:=top 42
theorem iE:aQ ["lowering","wave","ladder","levels","down","sheet","k"] ["lowering","wave","ladder","levels","down"] (aB jH):=by walk_at "S"
def lG:dF:=λds P=>∃(a:Type) (z:a) (g:a->D) (op:Nat->List a->List a) (x:Al) (sp:dF) (l:D) (h w L d:Nat) (e:Nat->Nat->a),ds=[.fn x,.lst (rz g h w e),l,.int L,.int d]/\(x,sp)∈ma/\(∀k,k<L->NS a z g (op k) w (2^k) l sp/\NS a z g (op k) h (2^k) l sp)/\L<=6/\d<=6/\0<h/\h<=1000/\w<=1000/\P (.nl (jn g h w (dU z op h w L d e)))
theorem uT {f:Ac}{fd:Ak}(U:bL K mg "opened_by" jH f fd)(B:b9 mg)(KV:bZ K)(t:cg P w K mg base "thinned" 1 ["sheet","k"] (b7 K 2 iw))(a:cg P w K mg base "change_columns" 4 ["sheet","doing","ladder","stride"] (ug K 4 eR))(r:cg P w K mg base "change_rows" 4 ["sheet","doing","ladder","stride"] (ug K 4 f6)):
  cg P w K mg base "opened_by" 5 ["lowering","wave","ladder","levels","down"] (b7 K 5 lG):=by
 refine cZ.of U iE (by walk_at "b") rfl (λc A o s H E q=>⟨_,_,(aG (bp (i:=5) iE.nd rfl (Ar rfl) (aZ t (q.mono (by decide)) (by rfl) (ae (pv 1) (ae aK aD))))
   (aG (cX AG rfl (M7 rfl B.range (ae (aV di (pv 3) aK) (ae (aV di (pv 4) aK) (ae (Qc xR aK) aD)))) (bt (i:=6) iE.nd rfl (Ar rfl)) (aG (bR (aZ a (q.mono (by decide)) (by rfl) (ae (pv 5) (ae (pv 0) (ae (pv 2) (ae (aV gu aK (pv 6)) aD))))))
   (aH (bR (aZ r (q.mono (by decide)) (by rfl) (ae (pv 5) (ae (pv 0) (ae (pv 2) (ae (aV gu aK (pv 6)) aD)))))))))
   (aH (aX (pv 5))))),
  (aT (bB (aY (aA aE (aA aF aJ))))
   (aT (c_ (SW (aI (aM (aP bU aC (aM aF))) (aI (aM (aP bU aC (aM aF))) (aI (aM (yo (aM aF))) aO)))) bu (aT (ki (aA aE (aA aE (aA (aP cG (aM aF) aC) aJ))))
   (ki (aA aE (aA aE (aA (aP cG (aM aF) aC) aJ))))))
   fT)),?_⟩)
 rintro ds Pr ⟨p,z,g,op,x,sp,l,h,w,L,d,e,rfl,O,ok,l6,d6,T,v,hw,k⟩;gn_on;refine⟨p,g,h,w,0,e,rfl,by lia,v,hw,?_⟩;rw[ui];gp_on;fin2;refine⟨⟨by lia,by lia,by lia,by lia⟩,?_⟩;rw[show ((L:Int)-1-((d:Int)-1)).toNat=L-d by lia];refine⟨λn δ=>n<=L-d/\∃o e',δ=[vD (.fn x),vD (.lst (rz g h w e)),vD l,vI L,vI d,some (.own (.nl (jn g h w e'))),o]/\dU z op h w (L-n) d e'=dU z op h w L d e,⟨Br _,none,e,rfl,rfl⟩,?_,?_⟩
 .rintro n d' δ hd ⟨hn,o,e',rfl,j⟩;obtain⟨hi,rfl⟩:=dS hd;obtain⟨m,u⟩:∃m,L-n=m+1:=⟨L-n-1,by lia⟩
  have M:m<L:=by lia
  obtain⟨G,C⟩:=P_ (show m<=6 by lia);have Q:(L:Int)-1+(n:Int) * -1=(m:Int):=by lia
  have J:(1:Int)*2^((m:Int)).toNat=((2^m:Nat):Int):=by simp
  rw[Q];gn_on;rw[J];refine⟨⟨by omega,by lia⟩,p,z,g,op m,x,sp,l,h,w,2^m,_,rfl,rfl,O,(ok m M).2,G,C,T,v,hw,?_⟩;gp_on;fin2;rw[J];refine⟨⟨by omega,by lia⟩,p,z,g,op m,x,sp,l,h,w,2^m,_,rfl,rfl,O,(ok m M).1,G,C,v,?_⟩;refine⟨hi,_,_,rfl,?_⟩;rw[<- j,u,show L-(n+1)=m by omega];show _=if d<=m then _ else _
  rw[if_pos (by lia)]
 .rintro δ ⟨_,o,e',rfl,j⟩;rw[dz]at j;fin2;rw[Nb (by lia)]at j;rw[j];exact k
noncomputable def R6 (h w:Nat)(e:Nat->Nat->Int):D:=.lst (rz D.int h w e)
noncomputable abbrev yh:AZ:=top 41
theorem uq:aQ ["picture","ladder","levels","sheet","k"] ["picture","ladder","levels"] (aB yh):=by walk_at "S"
def z6:dF:=λds P=>∃(h w:Nat) (e:Nat->Nat->Int) (fs:List Lf) (L:Nat),ds=[R6 h w e,eG fs,.int L]/\(∀f∈fs,f.Ok)/\L<=6/\0<h/\h<=1000/\w<=1000/\P (.nl (jn D.int h w (ou 0 (λk=>b_ fs (2^k:Nat)) h w L e)))
theorem Ts {f:Ac}{fd:Ak}(z:bL K mg "laid" yh f fd)(B:b9 mg)(KV:bZ K)(r:kK K mg "raised")(t:cg P w K mg base "thinned" 1 ["sheet","k"] (b7 K 2 iw))(g:cg P w K mg base "change_rows" 4 ["sheet","doing","ladder","stride"] (ug K 4 f6))(a:cg P w K mg base "change_columns" 4 ["sheet","doing","ladder","stride"] (ug K 4 eR)):
  cg P w K mg base "laid" 5 ["picture","ladder","levels"] (b7 K 3 z6):=by
 refine cZ.of z uq (by walk_at "b") rfl (λc A o s H E m=>⟨_,_,(aG (bp (i:=3) uq.nd rfl (Ar rfl) (aZ t (m.mono (by decide)) (by rfl) (ae (pv 0) (ae aK aD))))
   (aG (cX AG rfl (dh (by rfl) (by exact B.range) (ae (pv 2) aD)) (bt (i:=4) uq.nd rfl (Ar rfl)) (aG (bR (aZ g (m.mono (by decide)) (by rfl) (ae (pv 3) (ae (Qe (by rfl) r) (ae (pv 1) (ae (aV gu aK (pv 4)) aD))))))
   (aH (bR (aZ a (m.mono (by decide)) (by rfl) (ae (pv 3) (ae (Qe (by rfl) r) (ae (pv 1) (ae (aV gu aK (pv 4)) aD)))))))))
   (aH (aX (pv 3))))),
  (aT (bB (aY (aA aE (aA aF aJ))))
   (aT (c_ (eW (aI aC aO)) bu (aT (ki (aA (Px r) (aA aE (aA (aP cG (aM aF) aC) aJ))))
   (ki (aA (Px r) (aA aE (aA (aP cG (aM aF) aC) aJ))))))
   fT)),?_⟩)
 rintro ds G ⟨h,w,e,fs,L,rfl,ok,C,u,j,hw,k⟩;simp only[R6];gn_on;refine⟨Int,D.int,h,w,0,e,rfl,by lia,j,hw,?_⟩;rw[ui];gp_on;fin2;refine⟨⟨by lia,by lia⟩,?_⟩;refine⟨λn δ=>n<=L/\∃o,δ=[vD (R6 h w e),vD (eG fs),vI L,some (.own (.nl (jn D.int h w (ou 0 (λk=>b_ fs (2^k:Nat)) h w n e)))),o],⟨Br _,none,rfl⟩,?_,?_⟩
 .rintro n d δ hd ⟨hn,o,rfl⟩;obtain⟨hi,rfl⟩:=dS hd;have q:n<L:=by lia
  obtain⟨l,p⟩:=P_ (show n<=6 by lia);have v:(1:Int)*2^(0+(n:Int)*1).toNat=((2^n:Nat):Int):=by simp
  gn_on;rw[v];refine⟨⟨by (clear hw;lia),by (clear u j hw;lia)⟩,Int,0,D.int,b_ fs (2^n:Nat),"raised",fb,eG fs,h,w,2^n,_,rfl,rfl,by simp[ma],sS ok l p hw,l,p,j,?_⟩;gp_on;fin2;rw[v];refine⟨⟨by (clear hw;lia),by (clear u j hw;lia)⟩,Int,0,D.int,b_ fs (2^n:Nat),"raised",fb,eG fs,h,w,2^n,_,rfl,rfl,by simp[ma],sS ok l p j,l,p,u,j,hw,?_⟩;exact⟨q,_,rfl⟩
 .rintro δ ⟨_,o,rfl⟩;rw[dz,show ((L:Int)).toNat=L by lia];exact k
theorem vS {fs:List Lf}{st n:Nat}(ok:∀f∈fs,f.Ok)(s0:0<st)(s1:st<=64)(hn:n<=1000):NS fX (0,0) e8 (dM (0,0) c6 fs st) n st (eG fs) cK where
 run:=λr hr Q q=>⟨r,fs,st,rfl,⟨ok,by lia,by lia,by lia⟩,q⟩
 len:=λr hr=>by rw[ze];exact hr
 off:=λr i hr hi hm=>m9 (z:=((0,0):fX)) (G:=c6) s0 hm fs.reverse r λf hf=>ok f (Dq.mp hf)
 lf:=λx=>yT
noncomputable abbrev gd:AZ:=top 43
theorem oe:aQ ["sheet","ladder","levels","down"] ["sheet","ladder","levels","down"] (aB gd):=by walk_at "S"
def i5:dF:=λds P=>∃(h w:Nat) (e:Nat->Nat->fX) (fs:List Lf) (L d:Nat),ds=[.lst (rz e8 h w e),eG fs,.int L,.int d]/\(∀f∈fs,f.Ok)/\L<=6/\d<=6/\0<h/\h<=1000/\w<=1000/\P (.nl (jn e8 h w (dU (0,0) (λk=>dM (0,0) c6 fs (2^k:Nat)) h w L d e)))
theorem oh {f:Ac}{fd:Ak}{T:Ac}{t:Ku}(v:vC K mg "opened_spans" gd f fd T #[.int 0 t])(B:b9 mg)(KV:bZ K)(n:kK K mg "lowered_spans")(p:cg P w K mg base "opened_by" 5 ["lowering","wave","ladder","levels","down"] (b7 K 5 lG)):
  zC P w K mg base "opened_spans" 6 ["sheet","ladder","levels","down"] (b7 K 4 i5) [.int 0]:=by
 refine VU.of (ds:=[.int 0 t]) v oe (λ_ _ _ _ _ _ us hl=>match us,hl with | [_,_,_,_],_=>⟨_,rfl,rfl⟩) (λ_ _ _ _ _ _ us hl=>by have l:us.length=3:=(by simpa using hl);exact match us,l with | [_,_,_],_=>⟨_,rfl,rfl⟩) (.cons ⟨_,rfl⟩ (.nil)) rfl (λc A o s H E r=>⟨_,_,(aH (aX (aZ p (r.mono (by decide)) (by rfl) (ae (Qe (by rfl) n) (ae (pv 0) (ae (pv 1) (ae (pv 2) (ae (pv 3) aD)))))))),
  (a_ (aY (aA (Px n) (aA aE (aA aE (aA aE (aA aE aJ))))))),?_⟩)
 rintro ds C ⟨h,w,e,fs,L,d,rfl,ok,m,u,q,j,hw,k⟩;fin2;refine⟨fX,(0,0),e8,λk=>dM (0,0) c6 fs (2^k:Nat),"lowered_spans",cK,eG fs,h,w,L,d,e,rfl,by simp[ma],λk z=>?_,m,u,q,j,hw,k⟩;obtain⟨g,a⟩:=P_ (show k<=6 by lia);exact⟨vS ok g a hw,vS ok g a j⟩
theorem PU {c a:Type}{R:c->a->Prop}{z:c}{y:a}{op:List c->List c}{op':List a->List a}{h w st:Nat}{e:Nat->Nat->c}{e':Nat->Nat->a}(o:∀(xs:List c) (ys:List a),xs.length=ys.length->(∀p,p<xs.length->R (xs.getD p z) (ys.getD p y))->∀p,p<xs.length->R ((op xs).getD p z) ((op' ys).getD p y))
  (q:∀i j,i<h->j<w->R (e i j) (e' i j)):∀i j,i<h->j<w->R (kC z op w st e i j) (kC y op' w st e' i j):=λi j hi J=>by
 unfold kC;split
 .refine o _ _ (by rw[bE,bE]) (λp f=>?_) j (by rw[bE];exact J);rw[bE]at f;rw[eP f,eP f];exact q i p hi f
 .exact q i j hi J
theorem RG {c a:Type}{R:c->a->Prop}{z:c}{y:a}{op:List c->List c}{op':List a->List a}{h w st:Nat}{e:Nat->Nat->c}{e':Nat->Nat->a}(o:∀(xs:List c) (ys:List a),xs.length=ys.length->(∀p,p<xs.length->R (xs.getD p z) (ys.getD p y))->∀p,p<xs.length->R ((op xs).getD p z) ((op' ys).getD p y))
  (q:∀i j,i<h->j<w->R (e i j) (e' i j)):∀i j,i<h->j<w->R (kF z op h st e i j) (kF y op' h st e' i j):=λi j hi J=>by
 unfold kF;split
 .refine o _ _ (by rw[bE,bE]) (λp f=>?_) i (by rw[bE];exact hi);rw[bE]at f;rw[eP f,eP f];exact q p j f J
 .exact q i j hi J
theorem mP {c a:Type}{R:c->a->Prop}{z:c}{y:a}{op:Nat->List c->List c}{op':Nat->List a->List a}{h w:Nat}(o:∀(k:Nat) (xs:List c) (ys:List a),xs.length=ys.length->(∀p,p<xs.length->R (xs.getD p z) (ys.getD p y))->∀p,p<xs.length->R ((op k xs).getD p z) ((op' k ys).getD p y)):
  ∀(n d:Nat) (e:Nat->Nat->c) (e':Nat->Nat->a),(∀i j,i<h->j<w->R (e i j) (e' i j))->∀i j,i<h->j<w->R (dU z op h w n d e i j) (dU y op' h w n d e' i j)
 | 0,_,_,_,q=>q
 |n+1,d,e,e',q=>by
  unfold dU;split
  .exact mP o n d _ _ (PU (o n) (RG (o n) q))
  .exact q
theorem wY {k:Nat}:(0:Int)<((2^k:Nat):Int):=by
 exact_mod_cast Fb (by decide)
theorem WU {fs:List Lf}(ok:∀f∈fs,f.Ok){h w L d:Nat}{e e':Nat->Nat->fX}(q:∀i j,Q_ (e i j) (e' i j))(i j:Nat)(hi:i<h)(J:j<w):
  Q_ (dU (0,0) (λk=>dM (0,0) c6 fs (2^k:Nat)) h w L d e i j) (dU (0,0) (λk=>dM (0,0) c6 fs (2^k:Nat)) h w L d e' i j):=
 mP (R:=Q_) (z:=((0,0):fX)) (y:=((0,0):fX)) (op:=λk=>dM (0,0) c6 fs (2^k:Nat)) (op':=λk=>dM (0,0) c6 fs (2^k:Nat)) (h:=h) (w:=w)
  (λk xs ys hl r p g=>qW (R:=Q_) (z:=((0,0):fX)) (y:=((0,0):fX)) (G:=c6) (G':=c6) (fs:=fs) (xs:=xs) (ys:=ys) wY ok hl r (λf _ a b c A B c' h1 h2 l=>PJ h1 h2 l) p g) L d e e' (λi j _ _=>q i j) i j hi J
theorem WT {fs:List Lf}(ok:∀f∈fs,f.Ok){h w L d:Nat}{e:Nat->Nat->Int}(i j:Nat)(hi:i<h)(J:j<w):
  dU (0,0) (λk=>dM (0,0) c6 fs (2^k:Nat)) h w L d (λi j=>(e i j,e i j)) i j=(dU 0 (λk=>hU fs (2^k:Nat)) h w L d e i j,dU 0 (λk=>hU fs (2^k:Nat)) h w L d e i j):=
 mP (R:=λ(s:fX) (x:Int)=>s=(x,x)) (z:=((0,0):fX)) (y:=(0:Int)) (op:=λk=>dM (0,0) c6 fs (2^k:Nat)) (op':=λk=>hU fs (2^k:Nat)) (h:=h) (w:=w)
  (λk xs ys hl g p m=>qW (R:=λ(s:fX) (x:Int)=>s=(x,x)) (z:=((0,0):fX)) (y:=(0:Int)) (G:=c6) (G':=λf x l r=>x+(-1)*kT f l r) (fs:=fs) (xs:=xs) (ys:=ys) wY ok hl g (λf _ a b c A B c' h1 h2 n=>by rw[h1,h2,n,M1]) p m) L d _ e (λi j _ _=>rfl) i j hi J
theorem yx {a b:Nat}(h:a<=b):(2:Int)^a<=2^b:=by
 have:(2:Nat)^a<=2^b:=Fc (by decide) h
 exact_mod_cast this
theorem Uo {q d:Int}(hd:1<=d){B:Int}(h1 : -B<=q)(h2:q<=B)(h:0<=B) : -B<=q / d/\q / d<=B:=by
 constructor
 .rw [EK (by lia)];have:B*1<=B*d:=Bz hd h;rw[FE];lia
 .refine Int.ediv_le_of_le_mul (by lia) ?_;have:B*1<=B*d:=Bz hd h;lia
theorem LB {c x B:Int}(hc : -8<=c/\c<=8)(a : -B<=x/\x<=B) : -(8*B)<=c*x/\c*x<=8*B:=by
 have f:0<=B:=by lia
 rcases Int.le_total 0 c with h |h
 .have h1:c*x<=c*B:=Bz a.2 h;have h2:c*B<=8*B:=Bw hc.2 f;have e:c*(-B)<=c*x:=Bz a.1 h;rw[JJ]at e;exact⟨by lia,by lia⟩
 .have h1:(-c)*x<=(-c)*B:=Bz a.2 (by lia);have h2:(-c)*B<=8*B:=Bw (by lia) f;have e:(-c)*(-B)<=(-c)*x:=Bz a.1 (by lia);rw[JJ,FE,FE]at e;rw[FE,FE]at h1;rw[FE]at h2;exact⟨by lia,by lia⟩
theorem Ue {f:Lf}(ok:f.Ok){b:Nat}(B:6<=b){x y:Int}(c : -2^b<=x/\x<=2^b)(h : -2^b<=y/\y<=2^b) : -(17*2^b)<=kT f x y/\kT f x y<=17*2^b:=by
 have e:(64:Int)<=2^b:=yx B;have h1:=LB ok.l c;have h2:=LB ok.r h;have g:=ok.a;have hd:(1:Int)<=2^f.s.toNat:=yx (Br _);exact Uo hd (by lia) (by lia) (by lia)
theorem TU {f:Lf}(ok:f.Ok){b:Nat}(B:6<=b){st:Int}(a:0<st){xs:List Int}(h:∀p:Nat,-2^b<=xs.getD p 0/\xs.getD p 0<=2^b):∀p:Nat,-2^(b+5)<=(ie 1 f st xs).getD p 0/\(ie 1 f st xs).getD p 0<=2^(b+5):=λp=>by
 have e:(2:Int)^(b+5)=32*2^b:=by rw[Int.pow_add,DY];rfl
 rw[(lZ a ok.h).2 p];have c:=h p;split
 .unfold gR;have hg:=Ue ok B (h (sZ (p:Int) xs.length st).toNat) (h (sY (p:Int) xs.length st).toNat);rw[AQ];exact⟨by lia,by lia⟩
 .exact ⟨by lia,by lia⟩
theorem p6 {st:Int}(a:0<st):∀{fs:List Lf} {b:Nat} {xs:List Int},(∀f∈fs,f.Ok)->6<=b->(∀p:Nat,-2^b<=xs.getD p 0/\xs.getD p 0<=2^b)->∀p:Nat,-2^(b+5*fs.length)<=(b_ fs st xs).getD p 0/\(b_ fs st xs).getD p 0<=2^(b+5*fs.length)
 | [],b,xs,_,_,h=>h
 |f::fs,b,xs,ok,B,h=>by
  have:=p6 a (fs:=fs) (b:=b+5) (xs:=ie 1 f st xs) (λg hg=>ok g (by simp[hg])) (by lia) (TU (ok f (by simp)) B a h);rw[AR,show b+5*(fs.length+1)=b+5+5*fs.length by lia];exact this
theorem Oz {b n:Nat}{f:Nat->Int}(h:∀i,-2^b<=f i/\f i<=2^b):∀p:Nat,-2^b<=(tab n f).getD p 0/\(tab n f).getD p 0<=2^b:=λp=>by
 have c:(0:Int)<2^b:=Hd (by decide);by_cases a:p<n
 .rw [eP a];exact h p
 .rw [Aj,Bg (by rw[bE];lia)];exact⟨by show -2^b<=(0:Int);lia,by show (0:Int)<=2^b;lia⟩
theorem QX {fs:List Lf}(ok:∀f∈fs,f.Ok){h w b:Nat}(B:6<=b){e:Nat->Nat->Int}(m:∀i j,-2^b<=e i j/\e i j<=2^b):∀(L:Nat) (i j:Nat),-2^(b+10*fs.length*L)<=ou 0 (λk=>b_ fs (2^k:Nat)) h w L e i j/\ou 0 (λk=>b_ fs (2^k:Nat)) h w L e i j<=2^(b+10*fs.length*L)
 | 0,i,j=>m i j
 |L + 1,i,j=>by
  have l:=QX (h:=h) (w:=w) ok B m L;have g:(0:Int)<((2^L:Nat):Int):=by have:=Iu L;lia
  have up:∀{a c:Nat} {x:Int},a<=c->(-2^a<=x/\x<=2^a)->-2^c<=x/\x<=2^c:=λA n=>by
   have:=yx A;exact⟨by (clear B g;lia),by (clear B g;lia)⟩
  have r:∀i j,-2^(b+10*fs.length*L+5*fs.length)<=kC 0 (b_ fs (2^L:Nat)) w (2^L) (ou 0 (λk=>b_ fs (2^k:Nat)) h w L e) i j/\kC 0 (b_ fs (2^L:Nat)) w (2^L) (ou 0 (λk=>b_ fs (2^k:Nat)) h w L e) i j<=2^(b+10*fs.length*L+5*fs.length):=λi j=>by
   unfold kC;split
   .exact p6 g ok (by lia) (Oz (l i)) j
   .exact up (by lia) (l i j)
  show -2^_<=kF 0 (b_ fs (2^L:Nat)) h (2^L) _ i j/\kF 0 (b_ fs (2^L:Nat)) h (2^L) _ i j<=_
  rw[show b+10*fs.length*(L+1)=b+10*fs.length*L+5*fs.length+5*fs.length by rw[JG];lia];unfold kF;split
  .exact p6 g ok (by lia) (Oz (λi=>r i j)) i
  .exact up (by lia) (r i j)
theorem P9 (e:Nat):(0:Int)<2^e:=by
 have h1:0<(2:Nat)^e:=Fb (by decide);have h2:((2^e:Nat):Int)=(2:Int)^e:=rfl;lia
theorem YO {i j:Int}(hi:0<=i)(h:0<=j):Dn i j=((i.toNat|||j.toNat:Nat):Int):=by
 unfold Dn;have f:decide (0<=BF i)=false:=decide_eq_false (by unfold BF;lia);have c:decide (0<=BF j)=false:=decide_eq_false (by unfold BF;lia);have a:BF (BF i)=i:=by unfold BF;lia
 have e:BF (BF j)=j:=by unfold BF;lia
 unfold BS;rw[f,c];dsimp only;rw[a,e];unfold BF;lia
theorem UE (n:Nat):BS (n:Int) 1=((n%2:Nat):Int):=by
 unfold BS;rw[decide_eq_true (show (0:Int)<=(n:Int) by lia),decide_eq_true (show (0:Int)<=1 by decide)];have e:(1:Int).toNat=1:=rfl;rw[AQ,e,HF]
theorem RS {i j:Int}(hi:0<=i)(J:0<=j)(L:Nat):BS (Dn i j / 2^L) 1=0↔i / 2^L%2=0/\j / 2^L%2=0:=by
 obtain⟨a,rfl⟩:=GN hi;obtain⟨b,rfl⟩:=GN J;rw[YO hi J];have e:((((a:Int).toNat|||(b:Int).toNat:Nat):Int) / 2^L)=(((a|||b) / 2^L:Nat):Int):=by
  simp
 rw[e,UE];have t:(a|||b) / 2^L%2=0↔(a / 2^L%2=0/\b / 2^L%2=0):=by
  have h:=Nat.testBit_or a b L;rw[Dc,Dc,Dc]at h;have h':=(decide_eq_decide (p:=(a|||b) / 2^L%2=1) (q:=a / 2^L%2=1∨b / 2^L%2=1)).mp (by rw[h,Bool.decide_or]);lia
 have C:((a:Int) / 2^L%2=0)↔a / 2^L%2=0:=by
  have:((a:Int) / 2^L%2)=((a / 2^L%2:Nat):Int):=by simp
  clear J e;lia
 have c:((b:Int) / 2^L%2=0)↔b / 2^L%2=0:=by
  have:((b:Int) / 2^L%2)=((b / 2^L%2:Nat):Int):=by simp
  clear hi e;lia
 rw[C,c,<- t];lia
noncomputable def Od:Nat->Int->Int->Nat
 | 0,_,_=>0
 |n+1,i,j=>if i%2=0/\j%2=0 then 1+Od n (i / 2) (j / 2) else 0
theorem qI:∀(n:Nat) (i j:Int),Od n i j<=n
 | 0,_,_=>Ah _
 |n+1,i,j=>by
  unfold Od;split
  .have:=qI n (i / 2) (j / 2);lia
  .lia
theorem LS (i:Int)(L:Nat):i / 2^L / 2=i / 2^(L+1):=by
 rw[Ju,Int.ediv_ediv_of_nonneg (Jw (P9 L))]
noncomputable abbrev k8:AZ:=top 67
theorem gH:aQ ["i","j","levels","both","level"] ["i","j","levels"] (aB k8):=by walk_at "S"
def gF:dF:=λds P=>match ds with
 | [.int i,.int j,.int n]=>(0<=i/\0<=j/\0<=n)/\P (.fz (.int (Od n.toNat i j)))
 |_=>False
theorem wJ {f:Ac}{fd:Ak}(r:bL K mg "level_of" k8 f fd)(B:b9 mg)(KV:bZ K)(l:kK K mg "level"):
  cg P w K mg base "level_of" 1 ["i","j","levels"] (b7 K 3 gF):=by
 refine cZ.of r gH (by walk_at "b") rfl (λc A o s H E t=>⟨_,_,(aG (bp (i:=3) gH.nd rfl (Ar rfl) (aV YP (pv 0) (pv 1)))
   (aG (bp (i:=4) gH.nd rfl (Ar rfl) aK)
   (aG (jT AG (yw (bQ jX (pv 4) (pv 2) (bJ _)) (uL (bQ gw (aV Qm (aV qj (pv 3) (pv 4)) aK) aK (bJ _)))).pt (aH (WH (i:=4) gH.nd rfl (Ar rfl) aK Q8)))
   (aH (aX (pv 4)))))),
  (aT (bB (br (aP bU aC aC)))
   (aT (bB (br aF))
   (aT (pT (yj (bO (aP dq aC aC)) (bO (aP gL (aM (aP bU (aM (aP cG aC aC)) (aM aF))) (aM aF)))) (Wg YR (aM aF)))
   (a_ (br aE))))),?_⟩)
 intro ds u h;unfold gF at h;split at h
 .rename_i i j n;obtain⟨⟨hi,J,hn⟩,k⟩:=h;fin2;refine⟨λm δ=>∃L:Nat,δ=[vI i,vI j,vI n,vI (Dn i j),vI L]/\(L:Int)<=n/\m=n.toNat-L/\Od n.toNat i j=L+Od (n.toNat-L) (i / 2^L) (j / 2^L),⟨_,0,rfl,by omega,rfl,by simp⟩,?_⟩;rintro m δ ⟨L,rfl,h1,rfl,h2⟩;fin2;by_cases p:(L:Int)<n
  .rw [if_pos p];refine⟨by (clear h1;lia),?_⟩;rw[AQ];obtain⟨q,Q⟩:∃q,n.toNat-L=q+1:=⟨n.toNat-L-1,by (clear h1;lia)⟩
   rw[Q,Od]at h2;have g:=RS hi J L;by_cases a:BS (Dn i j / 2^L) 1=0
   .rw [if_pos a];rw[if_pos (g.mp a),LS,LS]at h2;refine⟨n.toNat-(L+1),by lia,L+1,rfl,by lia,rfl,?_⟩;rw[show n.toNat-(L+1)=q by lia];lia
   .rw [if_neg a];rw[if_neg λz=>a (g.mpr z)]at h2;rw[h2]at k;exact k
  .rw [if_neg p];have e:n.toNat-L=0:=by lia
   rw[e,Od]at h2;rw[h2]at k;simpa using k
 .exact h.elim
noncomputable def xM (p:Int×Int):D:=.tup [.int p.1,.int p.2]
noncomputable def gq (i w:Nat):List (Int×Int):=(AE w).map λ(j:Nat)=>((i:Int),(j:Int))
noncomputable def fJ (h w:Nat):List (Int×Int):=(AE h).flatMap λi=>gq i w
noncomputable def rR (n:Nat)(p:Int×Int):Nat:=Od n p.1 p.2
noncomputable def oT (n:Nat)(ps:List (Int×Int))(l:Nat):List (Int×Int):=ps.filter λp=>rR n p==l
noncomputable def cp (h w n:Nat):List (Int×Int):=((AE (n+1)).map (oT n (fJ h w))).reverse.flatten
noncomputable def l7 (n:Nat)(ps:List (Int×Int)):List OV:=(AE (n+1)).map λl=>.nl ((oT n ps l).map λp=>.fz (xM p))
theorem Rg (n:Nat):l7 n []=(AE (n+1)).map λ_=>OV.nl []:=rfl
theorem qP {n l:Nat}{ps:List (Int×Int)}(h:l<=n):(l7 n ps)[l]?=some (.nl ((oT n ps l).map λp=>.fz (xM p))):=by
 unfold l7;rw[AH,List.getElem?_range (by lia)];rfl
theorem NA {n:Nat}{ps:List (Int×Int)}{p:Int×Int}:(l7 n ps).set (rR n p) (.nl (((oT n ps (rR n p)).map λp=>OV.fz (xM p))++[.fz (xM p)]))=l7 n (ps++[p]):=by
 have h:rR n p<=n:=qI _ _ _;refine Ep λl=>?_
 rw[Fh];by_cases hl:l<=n
 .rw [qP hl,qP hl];have e:oT n (ps++[p]) l=oT n ps l++(if rR n p=l then [p] else []):=by
   unfold oT;by_cases z:rR n p=l<;>simp[z]
  rw[e];by_cases z:rR n p=l
  .rw [if_pos z,if_pos z,if_pos (by simp[l7];lia),A_,z];rfl
  .rw [if_neg z,if_neg z,Bj]
 .have c:(l7 n ps)[l]?=none:=Bg (by simp[l7];lia);have a:(l7 n (ps++[p]))[l]?=none:=Bg (by simp[l7];lia);rw[if_neg (by lia),c,a]
theorem y8 {n l:Nat}{ps:List (Int×Int)}:(oT n ps l).length<=ps.length:=List.length_filter_le _ _
theorem nj {i w:Nat}:fJ (i+1) w=fJ i w++gq i w:=by
 unfold fJ;rw[Ez];simp
theorem yA {i j:Nat}:gq i (j+1)=gq i j++[((i:Int),(j:Int))]:=by
 unfold gq;rw[Ez,A_];rfl
theorem sW {i w:Nat}:(gq i w).length=w:=by simp[gq]
theorem xF {h w:Nat}:(fJ h w).length=h*w:=by
 induction h with
 |zero=>simp[fJ]
 |succ h a=>rw[nj,AF,a,sW,Jq]
theorem Nz {n:Nat}{ps:List (Int×Int)}:(l7 n ps).map OV.val=(AE (n+1)).map λl=>D.lst ((oT n ps l).map xM):=by
 unfold l7;rw[A9];refine B8 λl _=>?_
 show OV.val (.nl _)=_
 rw[OV.val,OV.c4,A9];rfl
theorem zW (k:Nat)(g:Nat->Nat):∀m:Nat,k<m->((AE m).map λl=>g l+if k=l then 1 else 0).sum=((AE m).map g).sum+1
 | 0,h=>by lia
 |m + 1,h=>by
  rw[Ez,A_,A_,Ex,Ex];by_cases a:k=m
  .subst a;have:((AE k).map λl=>g l+if k=l then 1 else 0)=(AE k).map g:=by
    refine B8 λl hl=>?_
    rw[if_neg (by have:=BK.mp hl;lia)];rfl
   rw[this];simp
   lia
  .rw [zW k g m (by lia)];simp[a]
   lia
theorem UM:∀m:Nat,((AE m).map λ_=>0).sum=0
 | 0=>rfl
 |m+1=>by
  rw[Ez,A_,Ex,UM m];rfl
theorem LM (n:Nat):∀ps:List (Int×Int),((AE (n+1)).map λl=>(oT n ps l).length).sum=ps.length
 | []=>by
  have:((AE (n+1)).map λl=>(oT n [] l).length)=(AE (n+1)).map λ_=>0:=B8 λl _=>rfl
  exact UM _
 |p :: ps=>by
  have e:((AE (n+1)).map λl=>(oT n (p::ps) l).length)=(AE (n+1)).map λl=>(oT n ps l).length+if rR n p=l then 1 else 0:=by
   refine B8 λl _=>?_
   unfold oT;by_cases z:rR n p=l<;>simp[z]
  rw[e,zW _ _ _ (by have:=qI n p.1 p.2;unfold rR;lia),LM n ps];rfl
theorem gK {h w n:Nat}:(cp h w n).length=h*w:=by
 unfold cp;rw[List.length_flatten,Ct,List.sum_reverse,A9];exact (LM n (fJ h w)).trans xF
theorem kM {a:Type}{xs:List (List a)}{i:Nat}{x:List a}(h:xs[i]?=some x):(xs.take (i+1)).flatten=(xs.take i).flatten++x:=by
 obtain⟨hi,e⟩:=Ab.mp h;rw[AO hi,e];simp
noncomputable abbrev lP:AZ:=top 68
theorem fZ:aQ ["high","wide","levels","groups","i","j","ordered","group"] ["high","wide","levels"] (aB lP):=by walk_at "S"
def mG:dF:=λds P=>∃h w n:Nat,ds=[.int (h:Int),.int (w:Int),.int (n:Int)]/\(h<=100/\w<=100/\n<=100)/\P (.nl ((cp h w n).map λp=>.fz (xM p)))
theorem Nd {f:Ac}{fd:Ak}(Df:bL K mg "places" lP f fd)(B:b9 mg)(KV:bZ K)(L:kK K mg "level")(v:cg P w K mg base "level_of" 1 ["i","j","levels"] (b7 K 3 gF)):
  cg P w K mg base "places" 2 ["high","wide","levels"] (b7 K 3 mG):=by
 refine cZ.of Df fZ (by walk_at "b") rfl (λc A o s H E G=>⟨_,_,(aG (gn (i:=3) fZ.nd rfl (Ar rfl) rfl (dh (by rfl) (by exact B.range) (ae (aV cq (pv 2) aK) aD)) (show bV (aB lP) _ from⟨rfl,by decide +kernel,by decide +kernel,by decide +kernel⟩) (N:=["level"]) (ix:=[none]) (show cT _ _ _ _ from trivial) (λ_ _ _=>(bt (i:=0) (show Bo (["level"]:List Al) by decide +kernel) rfl (Ar rfl))) (λ_ _ _=>(c8 aD)))
   (aG (cX AG rfl (dh (by rfl) (by exact B.range) (ae (pv 0) aD)) (bt (i:=4) fZ.nd rfl (Ar rfl)) (aH (cX AG rfl (dh (by rfl) (by exact B.range) (ae (pv 1) aD)) (bt (i:=5) fZ.nd rfl (Ar rfl)) (aH (bR (gs Bd PySem.F.slot_list_append PySem.F.type_list_append dj (aR bK (pv 3) (aZ v (G.mono (by decide)) (by rfl) (ae (pv 4) (ae (pv 5) (ae (pv 2) aD)))) (λ_ _=>rfl)) (ae (cb (ae (pv 4) (ae (pv 5) aD))) aD)))))))
   (aG (bp (i:=6) fZ.nd rfl (Ar rfl) (c8 aD))
   (aG (cX AG rfl (uO rfl B.reversed (ae (pv 3) aD)) (bt (i:=7) fZ.nd rfl (Ar rfl)) (aH (bR (gs Bd PySem.F.slot_list_extend PySem.F.type_list_extend qy (pv 6) (ae (pv 7) aD)))))
   (aH (aX (pv 6))))))),
  (aT (bB (dQ (eW (aI (aM (aP bU aC (aM aF))) aO)) bu (d3 c7)))
   (aT (c_ (eW (aI aC aO)) bu (c_ (eW (aI aC aO)) bu (SR (aM (bX (aY (aA aE (aA aE (aA aE aJ)))))) (br (cD (aA aE (aA aE aJ)))))))
   (aT (bB (d3 c7))
   (aT (Pe 3 (c_ (SX (aA aE aJ)) bu (Pg aE)))
   fT)))),?_⟩)
 rintro ds Pr ⟨h,a,n,rfl,⟨T,hw,hn⟩,k⟩;refine Pb λN hN=>?_
 fin2;refine⟨⟨by lia,by lia⟩,gA.vF (λ_=>.nl []) (by lia) (λi hi Q q=>by fin2;exact q) ?_⟩;rw[show ((n:Int)+1).toNat=n+1 by lia,<- Rg];gp_on;gn_on;refine⟨⟨by lia,by lia⟩,λi δ=>i<=h/\∃r O m g,δ=[vI h,vI a,vI n,vL (l7 n (fJ i a)),r,O,m,g],⟨Br _,_,_,_,_,rfl⟩,?_,?_⟩
 .rintro i d δ hd ⟨M,r,O,m,g,rfl⟩;obtain⟨hi,rfl⟩:=dS hd;rw[AQ]at hi;fin2;refine⟨⟨by lia,by lia⟩,λj δ=>∃O,δ=[vI h,vI a,vI n,vL (l7 n (fJ i a++gq i j)),vI (0+(i:Int)*1),O,m,g],⟨O,by simp[gq]⟩,?_,?_⟩
  .rintro j e δ he ⟨O,rfl⟩;obtain⟨J,rfl⟩:=dS he;rw[AQ]at J;rw[show 0+(i:Int)*1=i by lia,show 0+(j:Int)*1=j by lia];fin2;simp only[gF];refine⟨⟨by lia,by lia,by lia⟩,?_⟩;fin2;rw[AQ,AQ];have t:Od n i j<=n:=qI _ _ _;refine⟨by lia,_,qP (l:=Od n i j) t,?_,?_⟩
   .have h1:=y8 (n:=n) (l:=Od n i j) (ps:=fJ i a++gq i j);rw[AF,xF,sW]at h1;have h2:i*a<=100*100:=Dd (by lia) hw;rw[Au];lia
   .have e:=NA (n:=n) (ps:=fJ i a++gq i j) (p:=((i:Int),(j:Int)));rw[Cf,<- yA]at e;rw[<- e];exact⟨_,rfl⟩
  .rintro δ ⟨O,rfl⟩;rw[dz,AQ,<- nj];exact⟨hi,_,_,_,_,rfl⟩
 rintro δ ⟨hi,r,O,m,g,rfl⟩;rw[dz,AQ];gp_on;gn_on;gp_on;gn_on;rw[Nz,<- Ct];generalize U:some (Sl.own (OV.fz (D.lst ((AE (n+1)).map λl=>D.lst ((oT n (fJ h a) l).map xM)))))=C;refine⟨λi δ=>∃g,δ=[vI h,vI a,vI n,C,r,O,vL ((((((AE (n+1)).map (oT n (fJ h a))).reverse).take i).flatten).map λp=>.fz (xM p)),g],?_,?_,?_⟩
 .exact ⟨_,rfl⟩
 .rintro i d δ hd ⟨g,rfl⟩;obtain⟨l,hl,rfl⟩:=mX hd;have u:(((AE (n+1)).map (oT n (fJ h a))).reverse)[i]?=some (oT n (fJ h a) l):=by
   rw[<- Ct,AH,hl];rfl
  dsimp only;rw[kM u];have z:((((AE (n+1)).map (oT n (fJ h a))).reverse.take i).flatten).length+(oT n (fJ h a) l).length<=10000:=by
   rw[<- AF,<- kM u];have h1:((((AE (n+1)).map (oT n (fJ h a))).reverse.take (i+1)).flatten).length<=(cp h a n).length:=by
    unfold cp
    conv=>rhs;rw[<- CS (i+1) ((AE (n+1)).map (oT n (fJ h a))).reverse,List.flatten_append,AF]
    lia
   rw[gK]at h1;have h2:h*a<=100*100:=Dd T hw;lia
  fin2;refine⟨by lia,?_⟩;rw[A9,A_];exact⟨_,rfl⟩
 .rintro δ ⟨g,rfl⟩;rw[Au,BQ,CT,BI (by simp)];gp_on;fin2;exact k
noncomputable def Q6 (n:Nat)(p:Int×Int):List Int:=[0-(rR n p:Int),p.1,p.2]
def qK (n:Nat)(p q:Int×Int):Prop:=HT.lexLt (Q6 n p) (Q6 n q)=true
theorem w_ {n:Nat}{p q:Int×Int}(h:rR n q<rR n p):qK n p q:=by
 unfold qK Q6;rw[HT.iU,if_neg (by lia)];exact decide_eq_true (by lia)
theorem vg {n:Nat}{p q:Int×Int}(h:rR n p=rR n q)(r:p.1<q.1∨(p.1=q.1/\p.2<q.2)):qK n p q:=by
 unfold qK Q6;rw[HT.iU,if_pos (by lia),HT.iU];rcases r with r | ⟨h1,h2⟩
 .rw [if_neg (by lia)];exact decide_eq_true r
 .rw [if_pos h1,HT.iU,if_neg (by lia)];exact decide_eq_true h2
def PR (p q:Int×Int):Prop:=p.1<q.1∨(p.1=q.1/\p.2<q.2)
theorem u_ {i w:Nat}{p:Int×Int}:p∈gq i w↔p.1=i/\0<=p.2/\p.2<w:=by
 unfold gq;rw[Bf];constructor
 .rintro ⟨j,h,rfl⟩;have:=BK.mp h;exact⟨rfl,by show (0:Int)<=(j:Int);lia,by show (j:Int)<w;lia⟩
 .rintro ⟨h1,h2,a⟩;exact⟨p.2.toNat,BK.mpr (by lia),Ir h1.symm (by show ((p.2.toNat:Nat):Int)=p.2;lia)⟩
theorem va {h w:Nat}{p:Int×Int}:p∈fJ h w↔(0<=p.1/\p.1<h)/\0<=p.2/\p.2<w:=by
 unfold fJ;rw[List.mem_flatMap];constructor
 .rintro ⟨i,hi,a⟩;have:=BK.mp hi;obtain⟨h1,h2⟩:=u_.mp a;exact⟨by lia,h2⟩
 .rintro ⟨h1,h2⟩;exact⟨p.1.toNat,BK.mpr (by omega),u_.mpr ⟨by lia,h2⟩⟩
theorem Ww {i w:Nat}:(gq i w).Pairwise PR:=by
 unfold gq;rw[Ej];exact Gh (λ{a b} h=>.inr ⟨rfl,by show (a:Int)<(b:Int);lia⟩) (GJ)
theorem RV {w:Nat}:∀h:Nat,(fJ h w).Pairwise PR
 | 0=>by simp[fJ]
 |h+1=>by
  rw[nj,EY];refine⟨RV h,Ww,λp a q Q=>.inl ?_⟩;have h1:=(va.mp a).1;have h2:=(u_.mp Q).1;lia
theorem yy {h w n:Nat}:(cp h w n).Pairwise (qK n):=by
 unfold cp;rw[List.pairwise_flatten];constructor
 .intro l hl;rw[Dq,Bf]at hl;obtain⟨k,_,rfl⟩:=hl;have h1:(oT n (fJ h w) k).Pairwise PR:=(RV h).filter _;refine DH (λ{a b} j B A=>vg ?_ A) h1;have c:rR n a=k:=by simpa using (Dg.mp j).2
  have e:rR n b=k:=by simpa using (Dg.mp B).2
  rw[c,e]
 .rw [List.pairwise_reverse,Ej];refine Gh (λ{a b} A x g y f=>w_ ?_) (GJ);have c:rR n x=b:=by simpa using (Dg.mp g).2
  have e:rR n y=a:=by simpa using (Dg.mp f).2
  lia
theorem nI {h w n:Nat}{p:Int×Int}(a:p∈cp h w n):(0<=p.1/\p.1<h)/\0<=p.2/\p.2<w:=by
 obtain⟨l,hl,a⟩:=HN.mp a;rw[Dq,Bf]at hl;obtain⟨k,_,rfl⟩:=hl;exact va.mp (Dg.mp a).1
noncomputable def Nm:D->Bool
 | .int _=>true
 |_=>false
noncomputable def wg (w:Int):D->Bool
 | .lst xs=>decide ((xs.length:Int)=w) && xs.all Nm
 |_=>false
noncomputable def vY (n:Nat):Bool:=decide (1<=n) && decide (n<=64)
noncomputable def yB:D->Bool
 | .lst (.lst r::rs)=>vY (rs.length+1) && vY r.length && (D.lst r::rs).all (wg r.length)
 |_=>false
noncomputable def LF:D->Bool
 | .ty _=>false
 | .fn _=>false
 | .exc _=>false
 | .obj _ _ _=>false
 | .oW _ _ _ _=>false
 |_=>true
def ó (d:D):Prop:=LF d=true/\∀xs,d = .lst xs->xs.length<=1000/\∀x∈xs,LF x=true/\∀ys,x = .lst ys->ys.length<=1000/\∀y∈ys,LF y=true
noncomputable abbrev jK:AZ:=top 7
theorem uu:aQ ["thing"] ["thing"] (aB jK):=by walk_at "S"
def fQ:dF:=λds P=>∃d,ds=[d]/\LF d=true/\P (.fz (.bl (Nm d)))
theorem uW {f:Ac}{fd:Ak}(a:bL K mg "is_number" jK f fd)(B:b9 mg)(KV:bZ K):
  cg P w K mg base "is_number" 1 ["thing"] (b7 K 1 fQ):=by
 refine cZ.of a uu (by walk_at "b") rfl (λc A o s H E r=>⟨_,_,(aH (aX (yD (aW fk (by rfl) B.isinstance Cz (ae (pv 0) (ae (iS (v:=.ty "int") (by rfl) B.int JE (by rfl)) aD))) (uP (WM (aW fk (by rfl) B.isinstance Cz (ae (pv 0) (ae (iS (v:=.ty "bool") (by rfl) B.bool JF (by rfl)) aD)))))))),
  (a_ (br (uE (bT (lq KV) (aI aC (aI (aM pW) aO))) (S0 (bT (lq KV) (aI aC (aI (aM pW) aO))))))),?_⟩)
 rintro ds e ⟨d,rfl,h,k⟩
 cases d<;>first | (simp[LF]at h;done) | (fin2;exact k)
noncomputable abbrev uC:AZ:=top 15
theorem O9:aQ ["one","number"] ["one","number"] (aB uC):=by walk_at "S"
def jx:dF:=λds P=>∃a b n:Int,ds=[.tup [.int a,.int b],.int n]/\P (.fz (.bl (decide (a<=n) && decide (n<=b))))
theorem Qs {f:Ac}{fd:Ak}(e:bL K mg "holds" uC f fd)(B:b9 mg)(KV:bZ K):
  cg P w K mg base "holds" 1 ["one","number"] (b7 K 2 jx):=by
 refine cZ.of e O9 (by walk_at "b") rfl (λc A o s H E r=>⟨_,_,(aH (aX (Qf wH wH (aR aS (pv 0) aK (λ_ _=>rfl)) (pv 1) (aR aS (pv 0) aK (λ_ _=>rfl))))),
  (a_ (br (wa dq dq (bx (dm.b aU) aC (aM aF)) aC (bx (dm.b aU) aC (aM aF))))),?_⟩)
 rintro ds g ⟨a,b,n,rfl,k⟩;fin2;by_cases h:a<=n
 .rw [if_pos h];rw[decide_eq_true h,Cq]at k;exact k
 .rw [if_neg h];rw[decide_eq_false h,E5]at k;exact k
noncomputable abbrev lQ:AZ:=top 37
theorem MX:aQ ["thing","wide"] ["thing","wide"] (aB lQ):=by walk_at "S"
def sD:dF:=λds P=>∃(d:D) (w:Int),ds=[d,.int w]/\LF d=true/\(∀xs,d = .lst xs->xs.length<=1000/\∀x∈xs,LF x=true)/\P (.fz (.bl (wg w d)))
theorem tV {a:Type}{f:a->Bool}{xs:List a}:(xs.map f).all id=xs.all f:=by simp[ Bx]
theorem Ng {f:Ac}{fd:Ak}(j:bL K mg "is_row" lQ f fd)(B:b9 mg)(KV:bZ K)(n:cg P w K mg base "is_number" 1 ["thing"] (b7 K 1 fQ)):
  cg P w K mg base "is_row" 2 ["thing","wide"] (b7 K 2 sD):=by
 refine cZ.of j MX (by walk_at "b") rfl (λc A o s H E r=>⟨_,_,(aG (cu (p' (eu (cQ (aW fk (by rfl) B.isinstance Cz (ae (pv 0) (ae (iS (v:=.ty "list") (by rfl) B.list BL (by rfl)) aD))))) (lb (bQ Ql (aW bo (by rfl) B.len Bh (ae (pv 0) aD)) (pv 1) (bJ _)))).pt (aH (aX nJ)) bM)
   (aH (aX (aW (ku rfl) (by rfl) B.all Ic (ae (eC rfl (df (pv 0)) (show bV (aB lQ) _ from⟨rfl,by decide +kernel,by decide +kernel,by decide +kernel⟩) (N:=["number"]) (ix:=[none]) (show cT _ _ _ _ from trivial) (λ_ _ _=>(bt (i:=0) (show Bo (["number"]:List Al) by decide +kernel) rfl (Ar rfl))) (λ_ _ _=>(aZ n (r.mono (by decide)) (by rfl) (ae (pv 0) aD)))) aD))))),
  (aT (cz (pS (et (gk (bT (lq KV) (aI aC (aI (aM pW) aO))))) (bO (aP QD (aM (bT cR (aI aC aO))) aC))) (a_ (br nG)) bP)
   (a_ (br (bT vx (aI (aM (bX (dQ (dR aE) bu (aY (aA aE aJ))))) aO))))),?_⟩)
 rintro ds l ⟨d,w,rfl,g,a,k⟩
 cases d with
 |lst xs=>
  obtain⟨hl,e⟩:=a xs rfl;fin2;simp only[wg]at k;by_cases h:(xs.length:Int)=w
  .rw [decide_eq_true h]at k ⊢;simp only[Er,C6,if_false];rw[show xs=xs.map id by simp];refine gA.map xs id (λx=>.fz (.bl (Nm x))) (by lia) (λx a Q q=>?_) ?_
   .fin2;exact⟨x,rfl,e x a,q⟩
   .fin2;refine⟨xs.map Nm,by simp only[A9,Bx,OV.val],?_⟩;rw[tV];exact k
  .rw [decide_eq_false h]at k ⊢;simp only[EZ,if_true];exact k
 |_=>first | (simp[LF]at g;done) | (fin2;exact k)
noncomputable abbrev fR:AZ:=top 38
theorem rA:aQ ["thing"] ["thing"] (aB fR):=by walk_at "S"
def kO:dF:=λds P=>∃d:D,ds=[d]/\ó d/\P (.fz (.bl (yB d)))
theorem OX {n:Nat}:(decide ((1:Int)<=(n:Int)) && decide ((n:Int)<=64))=vY n:=by
 congr 1
 .exact decide_eq_decide.mpr (by omega)
 .exact decide_eq_decide.mpr (by omega)
theorem rJ {f:Ac}{fd:Ak}(G:bL K mg "is_picture" fR f fd)(B:b9 mg)(KV:bZ K)(g:zz K mg "SIZES" (D.tup [.int 1,.int 64]))(h:cg P w K mg base "holds" 1 ["one","number"] (b7 K 2 jx))(C:cg P w K mg base "is_row" 2 ["thing","wide"] (b7 K 2 sD)):
  cg P w K mg base "is_picture" 3 ["thing"] (b7 K 1 kO):=by
 refine cZ.of G rA (by walk_at "b") rfl (λc A o s H E a=>⟨_,_,(aG (cu (p' (eu (cQ (aW fk (by rfl) B.isinstance Cz (ae (pv 0) (ae (iS (v:=.ty "list") (by rfl) B.list BL (by rfl)) aD))))) (lb (eu (cQ (aZ h (a.mono (by decide)) (by rfl) (ae (jW (by rfl) g) (ae (aW bo (by rfl) B.len Bh (ae (pv 0) aD)) aD))))))).pt (aH (aX nJ)) bM)
   (aG (cu (p' (eu (cQ (aW fk (by rfl) B.isinstance Cz (ae (aR bK (pv 0) aK (λ_ _=>rfl)) (ae (iS (v:=.ty "list") (by rfl) B.list BL (by rfl)) aD))))) (lb (eu (cQ (aZ h (a.mono (by decide)) (by rfl) (ae (jW (by rfl) g) (ae (aW bo (by rfl) B.len Bh (ae (aR bK (pv 0) aK (λ_ _=>rfl)) aD)) aD))))))).pt (aH (aX nJ)) bM)
   (aH (aX (aW (ku rfl) (by rfl) B.all Ic (ae (eC rfl (df (pv 0)) (show bV (aB fR) _ from⟨rfl,by decide +kernel,by decide +kernel,by decide +kernel⟩) (N:=["row","thing"]) (ix:=[none,some 0]) (show cT _ _ _ _ from⟨⟨rfl,rfl,.inl rfl⟩,trivial⟩) (λ_ _ _=>(bt (i:=0) (show Bo (["row","thing"]:List Al) by decide +kernel) rfl (Ar rfl))) (λ_ _ _=>(aZ C (a.mono (by decide)) (by rfl) (ae (pv 0) (ae (aW bo (by rfl) B.len Bh (ae (aR bK (pv 1) aK (λ_ _=>rfl)) aD)) aD))))) aD)))))),
  (aT (cz (pS (et (gk (bT (lq KV) (aI aC (aI (aM pW) aO))))) (et (gk (bX (aY (aA v_ (aA (bT cR (aI aC aO)) aJ))))))) (a_ (br nG)) bP)
   (aT (cz (pS (et (gk (bT (lq KV) (aI (bx (dm.b cn) aC (aM aF)) (aI (aM pW) aO))))) (et (gk (bX (aY (aA v_ (aA (bT cR (aI (bx (dm.b cn) aC (aM aF)) aO)) aJ))))))) (a_ (br nG)) bP)
   (a_ (br (bT vx (aI (aM (bX (dQ (dR aE) bu (aY (aA aE (aA (bT cR (aI (bx (dm.b cn) aC (aM aF)) aO)) aJ)))))) aO)))))),?_⟩)
 rintro ds J ⟨d,rfl,⟨z,u⟩,k⟩
 cases d with
 |lst xs=>
  obtain⟨hl,l⟩:=u xs rfl;fin2;refine⟨1,64,_,rfl,?_⟩;fin2;rw[OX]
  cases xs with
  |nil=>exact k
  |cons x rs=>
   rw[show (x::rs).length=rs.length+1 from rfl];have t:=l x Az;by_cases p:vY (rs.length+1)=true
   .rw [p];simp only[Er,C6,if_false];refine⟨x,zy,?_⟩
    cases x with
    |lst r=>
     fin2;refine⟨1,64,_,rfl,?_⟩;fin2;rw[OX];simp only[yB,p,Cq]at k;by_cases a:vY r.length=true
     .rw [a];rw[a,Cq]at k;simp only[Er,C6,if_false];rw[show D.lst r::rs=(D.lst r::rs).map id by simp];refine gA.map (D.lst r::rs) id (λx=>.fz (.bl (wg r.length x))) (by simp at hl ⊢;lia) (λx n Q q=>?_) ?_
      .fin2;have:=l x (by simpa using n);simp only[List.map_id_fun',id_eq,BJ,K3,zy];exact⟨x,_,rfl,this.1,this.2,q⟩
      .fin2;refine⟨(D.lst r::rs).map (wg r.length),by simp only[A9,BJ,Bx,OV.val],?_⟩;rw[tV];exact k
     .have j:vY r.length=false:=by simpa using a
      rw[j];rw[j,E5]at k;simp only[EZ,if_true];exact k
    |_=>
     have m:=t.1;simp only[yB]at k
     first | (simp[LF]at m;done) | (fin2;exact k)
   .have e:vY (rs.length+1)=false:=by simpa using p
    rw[e];simp only[EZ,if_true]
    cases x<;>simp only[yB,e,E5]at k<;>exact k
 |_=>first | (simp[LF]at z;done) | (fin2;exact k)
theorem UG {xs:List Int}:(xs.map D.int).all Nm=true:=by simp[Nm]
theorem wb {w:Nat}{f:Nat->Int}:(tab w λj=>D.int (f j))=(tab w f).map D.int:=by rw[fm]
theorem M3 {xs:List Int}{w:Int}:wg w (.lst (xs.map D.int))=decide ((xs.length:Int)=w):=by
 simp only[wg,UG,Fs,Au]
theorem M6 {h w:Nat}{e:Nat->Nat->Int}(k:0<h)(g:0<w):yB (.lst (rz D.int h w e))=(decide (h<=64) && decide (w<=64)):=by
 obtain⟨h',rfl⟩:∃h',h=h'+1:=⟨h-1,by lia⟩
 have f:rz D.int (h'+1) w e=D.lst (tab w λj=>D.int (e 0 j))::(AE h').map λi=>D.lst (tab w λj=>D.int (e (i+1) j)):=by
  unfold rz
  conv=>lhs;unfold tab
  rw[GI,BJ,A9];rfl
 have a:(rz D.int (h'+1) w e).all (wg w)=true:=by
  rw[Gx];intro x c;obtain⟨i,_,rfl⟩:=Bf.mp c;rw[wb,M3,bE];simp
 rw[f]at a ⊢;simp only[yB,bE,a,Fs,Au,CT];unfold vY;rw[decide_eq_true (show 1<=h'+1 by lia),decide_eq_true (show 1<=w by lia),Cq,Cq]
theorem Qv {xs:List D}(hl:xs.length<=1000)(h:∀x∈xs,LF x=true/\∀ys,x = .lst ys->ys.length<=1000/\∀y∈ys,LF y=true):ó (.lst xs):=⟨rfl,λa e=>by cases e;exact⟨hl,h⟩⟩
theorem WW {l:List Int}(hl:l.length<=1000):LF (D.lst (l.map D.int))=true/\∀ys,D.lst (l.map D.int) = .lst ys->ys.length<=1000/\∀y∈ys,LF y=true:=⟨rfl,λys e=>by
 cases e;refine⟨by simpa using hl,λy h=>?_⟩;obtain⟨i,_,rfl⟩:=Bf.mp h;rfl⟩
theorem Nk {h w:Nat}{e:Nat->Nat->Int}(c:h<=100)(hw:w<=100):ó (.lst (rz D.int h w e)):=by
 refine Qv (by rw[rz,bE];lia) λy a=>?_
 obtain⟨k,_,rfl⟩:=Bf.mp a;rw[wb];exact WW (by rw[bE];lia)
noncomputable abbrev Xb:List (Al×D):=[("still",.tup []),("pair",.tup [.tup [.int 1,.int (-1),.int 0,.int 0,.int 0],.tup [.int 0,.int 0,.int 1,.int 0,.int 1]]),("line",.tup [.tup [.int 1,.int (-1),.int (-1),.int 1,.int 1],.tup [.int 0,.int 1,.int 1,.int 2,.int 2]]),("long",.tup [.tup [.int 1,.int (-1),.int (-1),.int 1,.int 1],.tup [.int 0,.int 1,.int 1,.int 2,.int 2],.tup [.int 1,.int (-1),.int (-1),.int 4,.int 3]])]
def iy:dF:=λds P=>∃k d,ds=[.str k]/\Xb.lookup k=some d/\P (.fz d)
noncomputable abbrev jJ:AZ:=top 27
theorem ur:aQ ["name"] ["name"] (aB jJ):=by walk_at "S"
theorem uV {f:Ac}{fd:Ak}(e:bL K mg "ladder_of" jJ f fd)(B:b9 mg)(KV:bZ K)(g:R3 w K mg "LADDERS" [("still",.tup []),("pair",.tup [.tup [.int 1,.int (-1),.int 0,.int 0,.int 0],.tup [.int 0,.int 0,.int 1,.int 0,.int 1]]),("line",.tup [.tup [.int 1,.int (-1),.int (-1),.int 1,.int 1],.tup [.int 0,.int 1,.int 1,.int 2,.int 2]]),("long",.tup [.tup [.int 1,.int (-1),.int (-1),.int 1,.int 1],.tup [.int 0,.int 1,.int 1,.int 2,.int 2],.tup [.int 1,.int (-1),.int (-1),.int 4,.int 3]])]):
  cg P w K mg base "ladder_of" 1 ["name"] (b7 K 1 iy):=by
 refine cZ.of e ur (by walk_at "b") rfl (λc A o s H E r=>⟨_,_,(aG (cu (WE (M_ (by rfl) g (pv 0))) (aH ib) bM)
   (aH (aX (Tf (by rfl) g (pv 0) (λ_ _=>rfl))))),
  (aT (cz (gk (M0 aE)) h9 bP)
   (a_ (br (S3 aE)))),?_⟩)
 rintro ds j ⟨k,d,rfl,a,h⟩;fin2;have hn:(Xb.lookup k).isNone=false:=by rw[a];rfl
 rw[show (B9 k _).isNone=false from hn];rw[if_neg AL];exact⟨d,a,h⟩
def pC:dF:=λds P=>∃f:Lf,ds=[xN f]/\f.Ok/\P (.fz (.bl true))
def lH:dF:=λds P=>∃fs:List Lf,ds=[eG fs]/\fs.length<=6/\(∀f∈fs,f.Ok)/\P (.fz (.bl true))
def pB:dF:=λds P=>∃n:Nat,ds=[.int n,.int 2]/\n<=6/\P (.fz (.bl true))
noncomputable def gx (h w:Nat)(e:Nat->Nat->Int)(fs:List Lf)(L:Nat):List Int:=(cp h w L).map λp=>ou 0 (λk=>b_ fs (2^k:Nat)) h w L e p.1.toNat p.2.toNat
def pD:dF:=λds P=>∃(h w:Nat) (e:Nat->Nat->Int) (fs:List Lf) (L b:Nat),ds=[R6 h w e,eG fs,.int L]/\fs.length<=6/\(∀f∈fs,f.Ok)/\L<=6/\0<h/\h<=64/\0<w/\w<=64/\6<=b/\b<=1000/\(∀i j,-2^b<=e i j/\e i j<=2^b)/\3*(h*w)*(b+10*fs.length*L+1)<=900000/\
 ∀(n:Nat) (bs:List Bool) (v:Wk),(∃x∈gx h w e fs L,iW x=n)->(∀x∈gx h w e fs L,iW x<=n)->n<=b+10*fs.length*L+1->rl (gx h w e fs L) (Wk.turn ⟨n,0,[],[⟨0,0,(gx h w e fs L).length,1-2^n,2^n-1⟩],[]⟩) bs->jm (Wk.turn ⟨n,0,[],[⟨0,0,(gx h w e fs L).length,1-2^n,2^n-1⟩],[]⟩) bs v->v.pl<0->kb (gx h w e fs L).length v->de (gx h w e fs L) v->v.us=bs.length->bs.length<=900000->
  P (.fz (.tup [.tup [.int h,.int w,.int L,.int n,eG fs],.str (dd bs)]))
noncomputable abbrev kg:AZ:=top 25
theorem yd:aQ ["thing"] ["thing"] (aB kg):=by walk_at "S"
noncomputable abbrev gI:AZ:=top 26
theorem uv:aQ ["thing"] ["thing"] (aB gI):=by walk_at "S"
noncomputable abbrev mK:AZ:=top 76
theorem yc:aQ ["thing","at"] ["thing","at"] (aB mK):=by walk_at "S"
noncomputable abbrev oJ:AZ:=top 79
theorem f_:aQ ["picture","ladder","levels","lifts","wave","high","wide","numbers","planes"] ["picture","ladder","levels"] (aB oJ):=by walk_at "S"
noncomputable def į (q:Int×Int×Int):D:=.tup [.int q.1,.tup [.int q.2.1,.int q.2.2]]
theorem yI {f:Ac}{fd:Ak}(J:bL K mg "is_lift" kg f fd)(B:b9 mg)(KV:bZ K)(g:zz K mg "PART_SPANS" (D.tup [.tup [.int 0,.int 1],.tup [.int (-8),.int 8],.tup [.int (-8),.int 8],.tup [.int (-64),.int 64],.tup [.int 0,.int 8]]))(u:cg P w K mg base "is_number" 1 ["thing"] (b7 K 1 fQ))(C:cg P w K mg base "holds" 1 ["one","number"] (b7 K 2 jx)):
  cg P w K mg base "is_lift" 2 ["thing"] (b7 K 1 pC):=by
 refine cZ.of J yd (by walk_at "b") rfl (λc A o s H E t=>⟨_,_,(aG (cu (p' (eu (cQ (aW fk (by rfl) B.isinstance Cz (ae (pv 0) (ae (iS (v:=.ty "tuple") (by rfl) B.tuple FI (by rfl)) aD))))) (lb (bQ Ql (aW bo (by rfl) B.len Bh (ae (pv 0) aD)) (aW bo (by rfl) B.len Bh (ae (jW (by rfl) g) aD)) (bJ _)))).pt (aH (aX nJ)) bM)
   (aH (aX (aW (ku rfl) (by rfl) B.all Ic (ae (eC rfl (Tb rfl B.zip (ae (pv 0) (ae (jW (by rfl) g) aD))) (show bV (aB kg) _ from⟨rfl,by decide +kernel,by decide +kernel,by decide +kernel⟩) (N:=["part","span"]) (ix:=[none,none]) (show cT _ _ _ _ from trivial) (λ_ _ _=>(lg (n:=2) rfl (cI (bt (i:=0) (show Bo (["part","span"]:List Al) by decide +kernel) rfl (Ar rfl)) (cI (bt (i:=1) (show Bo (["part","span"]:List Al) by decide +kernel) rfl (Ar rfl)) iQ)))) (λ_ _ _=>(yD (aZ u (t.mono (by decide)) (by rfl) (ae (pv 0) aD)) (uP (aZ C (t.mono (by decide)) (by rfl) (ae (pv 1) (ae (pv 0) aD))))))) aD))))),
  (aT (cz (pS (et (gk (bT (lq KV) (aI aC (aI (aM pW) aO))))) (bO (aP QD (aM (bT cR (aI aC aO))) (aM (bT cR (aI (aM v_) aO)))))) (a_ (br nG)) bP)
   (a_ (br (bT vx (aI (aM (bX (dQ (SV (aA aE (aA v_ aJ))) (k_ (cH bu (cH bu iM))) (br (uE (bX (aY (aA aE aJ))) (bX (aY (aA aE (aA aE aJ))))))))) aO))))),?_⟩)
 rintro ds M ⟨f,rfl,ok,h⟩;unfold xN;fin2;have G:BA (λ(p:D×D)=>D.tup [p.fst,p.snd]) ([D.int f.h,D.int f.l,D.int f.r,D.int f.a,D.int f.s].zip [D.tup [D.int 0,D.int 1],D.tup [D.int (-8),D.int 8],D.tup [D.int (-8),D.int 8],D.tup [D.int (-64),D.int 64],D.tup [D.int 0,D.int 8]])=[(f.h,0,1),(f.l,-8,8),(f.r,-8,8),(f.a,-64,64),(f.s,0,8)].map į:=rfl;rw[G];have e:∀q∈[(f.h,(0:Int),(1:Int)),(f.l,-8,8),(f.r,-8,8),(f.a,-64,64),(f.s,0,8)],q.2.1<=q.1/\q.1<=q.2.2:=by
  intro q e;simp only[AJ,DW,or_false]at e;have h1:=ok.h;rcases e with rfl |rfl |rfl |rfl |rfl
  .exact ⟨by show 0<=f.h;lia,by show f.h<=1;lia⟩
  .exact ok.l
  .exact ok.r
  .exact ok.a
  .exact ok.s
 generalize m:[(f.h,(0:Int),(1:Int)),(f.l,-8,8),(f.r,-8,8),(f.a,-64,64),(f.s,0,8)]=j at e;have L:j.length<=5:=by rw[<- m];exact Ah 5
 refine⟨λi δ ts=>∃k O:Option Sl,δ=[k,O]/\ts=(j.take i).map λ_=>.fz (.bl true),⟨none,none,rfl,rfl⟩,?_,?_⟩
 .rintro i d δ ts hd ⟨k,O,rfl,rfl⟩;obtain⟨q,Q,rfl⟩:=mX hd;have z:=e q (Ai Q);simp only[į,gT,m7,tx,gN,AR,Dh,Ft,true_and,CD,C5];fin2;refine⟨by rw[BD];lia,_,rfl,rfl,?_⟩;show if true=true then _ else _
  rw[if_pos rfl];refine⟨_,_,_,rfl,?_⟩;rw[decide_eq_true z.1,decide_eq_true z.2];refine⟨some (Sl.own (OV.fz (D.int q.1))),some (Sl.own (OV.fz (D.tup [D.int q.2.1,D.int q.2.2]))),rfl,?_⟩;rw[Fd,Q,A_];rfl
 .rintro δ ts ⟨k,O,rfl,rfl⟩;fin2;refine⟨j.map λ_=>true,by rw[BC,A9,A9];rfl,?_⟩;rw[show (j.map λ_=>true).all id=true by simp];exact h
theorem uX {f:Ac}{fd:Ak}(a:bL K mg "is_ladder" gI f fd)(B:b9 mg)(KV:bZ K)(g:∃t,mg "MOST_LIFTS"=some (.int 6 t))(l:cg P w K mg base "is_lift" 2 ["thing"] (b7 K 1 pC)):
  cg P w K mg base "is_ladder" 3 ["thing"] (b7 K 1 lH):=by
 refine cZ.of a uv (by walk_at "b") rfl (λc A o s H E r=>⟨_,_,(aG (cu (p' (eu (cQ (aW fk (by rfl) B.isinstance Cz (ae (pv 0) (ae (iS (v:=.ty "tuple") (by rfl) B.tuple FI (by rfl)) aD))))) (lb (bQ nL (aW bo (by rfl) B.len Bh (ae (pv 0) aD)) (aN (by rfl) g) (bJ _)))).pt (aH (aX nJ)) bM)
   (aH (aX (aW (ku rfl) (by rfl) B.all Ic (ae (eC rfl (Qa (pv 0)) (show bV (aB gI) _ from⟨rfl,by decide +kernel,by decide +kernel,by decide +kernel⟩) (N:=["lift"]) (ix:=[none]) (show cT _ _ _ _ from trivial) (λ_ _ _=>(bt (i:=0) (show Bo (["lift"]:List Al) by decide +kernel) rfl (Ar rfl))) (λ_ _ _=>(aZ l (r.mono (by decide)) (by rfl) (ae (pv 0) aD)))) aD))))),
  (aT (cz (pS (et (gk (bT (lq KV) (aI aC (aI (aM pW) aO))))) (bO (aP dq (aM (bT cR (aI aC aO))) (aM aF)))) (a_ (br nG)) bP)
   (a_ (br (bT vx (aI (aM (bX (dQ (Pq aE) bu (aY (aA aE aJ))))) aO))))),?_⟩)
 rintro ds e ⟨fs,rfl,hl,ok,h⟩;unfold eG;fin2;rw[if_neg (by lia)];refine gA.map fs xN (λ_=>.fz (.bl true)) (by lia) (λf hf Q q=>?_) ?_
 .fin2;exact⟨f,rfl,ok f hf,q⟩
 fin2;refine⟨fs.map λ_=>true,by simp only[A9,Bx,OV.val],?_⟩;rw[show (fs.map λ_=>true).all id=true by simp];exact h
theorem yH {f:Ac}{fd:Ak}(a:bL K mg "is_part" mK f fd)(B:b9 mg)(KV:bZ K)(g:zz K mg "NUMBER_SPANS" (D.tup [.tup [.int 1,.int 64],.tup [.int 1,.int 64],.tup [.int 0,.int 6],.tup [.int 0,.int 4000]]))(u:cg P w K mg base "is_number" 1 ["thing"] (b7 K 1 fQ))(l:cg P w K mg base "holds" 1 ["one","number"] (b7 K 2 jx)):
  cg P w K mg base "is_part" 2 ["thing","at"] (b7 K 2 pB):=by
 refine cZ.of a yc (by walk_at "b") rfl (λc A o s H E r=>⟨_,_,(aH (aX (yD (aZ u (r.mono (by decide)) (by rfl) (ae (pv 0) aD)) (uP (aZ l (r.mono (by decide)) (by rfl) (ae (aR aS (jW (by rfl) g) (pv 1) (λ_ _=>rfl)) (ae (pv 0) aD))))))),
  (a_ (br (uE (bX (aY (aA aE aJ))) (bX (aY (aA (bF aU v_ aE) (aA aE aJ))))))),?_⟩)
 rintro ds e ⟨n,rfl,hn,h⟩;fin2;refine⟨_,rfl,rfl,?_⟩;show if true=true then _ else _
 rw[if_pos rfl];refine⟨0,6,n,rfl,?_⟩;rw[decide_eq_true (by lia:(0:Int)<=n),decide_eq_true (by lia:(n:Int)<=6)];exact h
theorem Qt {f:Ac}{fd:Ak}{T:Ac}{Q:Ku}(Df:vC K mg "coded" oJ f fd T #[.none,.int 2 Q])(B:b9 mg)(KV:bZ K)(g:∃t,mg "LEVELS"=some (.int 2 t))(u:cg P w K mg base "is_picture" 3 ["thing"] (b7 K 1 kO))(a:cg P w K mg base "ladder_of" 1 ["name"] (b7 K 1 iy))(r:cg P w K mg base "is_ladder" 3 ["thing"] (b7 K 1 lH))(C:cg P w K mg base "is_part" 2 ["thing","at"] (b7 K 2 pB))(G:cg P w K mg base "laid" 5 ["picture","ladder","levels"] (b7 K 3 z6))(m:cg P w K mg base "places" 2 ["high","wide","levels"] (b7 K 3 mG))(l:cg P w K mg base "planes_of" 2 ["some"] (b7 K 1 lF))(O:cg P w K mg base "told" 5 ["some","planes"] (b7 K 2 z0)):
  zC P w K mg base "coded" 6 ["picture","ladder","levels"] (b7 K 3 pD) [.cB,.int 2]:=by
 refine VU.of (ds:=[.none,.int 2 Q]) Df f_ (λ_ _ _ _ _ _ us hl=>match us,hl with | [_,_,_],_=>⟨_,rfl,rfl⟩) (λ_ _ _ _ _ _ us hl=>by have č:us.length=1:=(by simpa using hl);exact match us,č with | [_],_=>⟨_,rfl,rfl⟩) (.cons rfl (.cons ⟨_,rfl⟩ (.nil))) rfl (λc A o s H E J=>⟨_,_,(aG (cu (eu (cQ (aZ u (J.mono (by decide)) (by rfl) (ae (pv 0) aD)))) (aH ib) bM)
   (aG (bp (i:=3) f_.nd rfl (Ar rfl) (qh (bQ WS (pv 1) qf (bJ _)) (aZ a (J.mono (by decide)) (by rfl) (ae iR aD)) (pv 1)))
   (aG (cu (eu (cQ (aZ r (J.mono (by decide)) (by rfl) (ae (pv 3) aD)))) (aH ib) bM)
   (aG (cu (eu (cQ (aZ C (J.mono (by decide)) (by rfl) (ae (pv 2) (ae (aN (by rfl) g) aD))))) (aH ib) bM)
   (aG (bp (i:=4) f_.nd rfl (Fm rfl) (aZ G (J.mono (by decide)) (by rfl) (ae (pv 0) (ae (pv 3) (ae (pv 2) aD)))))
   (aG (bp (i:=5) f_.nd rfl (Ar rfl) (aW bo (by rfl) B.len Bh (ae (pv 0) aD)))
   (aG (bp (i:=6) f_.nd rfl (Ar rfl) (aW bo (by rfl) B.len Bh (ae (aR bK (pv 0) aK (λ_ _=>rfl)) aD)))
   (aG (gn (i:=7) f_.nd rfl (Ar rfl) rfl (df (aZ m (J.mono (by decide)) (by rfl) (ae (pv 5) (ae (pv 6) (ae (pv 2) aD))))) (show bV (aB oJ) _ from⟨rfl,by decide +kernel,by decide +kernel,by decide +kernel⟩) (N:=["i","j","wave"]) (ix:=[none,none,some 4]) (show cT _ _ _ _ from⟨⟨rfl,rfl,.inl rfl⟩,trivial⟩) (λ_ _ _=>(lg (n:=2) rfl (cI (bt (i:=0) (show Bo (["i","j","wave"]:List Al) by decide +kernel) rfl (Ar rfl)) (cI (bt (i:=1) (show Bo (["i","j","wave"]:List Al) by decide +kernel) rfl (Ar rfl)) iQ)))) (λ_ _ _=>(aR bK (aR bK (pv 2) (pv 0) (λ_ _=>rfl)) (pv 1) (λ_ _=>rfl))))
   (aG (bp (i:=8) f_.nd rfl (Ar rfl) (aZ l (J.mono (by decide)) (by rfl) (ae (pv 7) aD)))
   (aH (aX (cb (ae (cb (ae (pv 5) (ae (pv 6) (ae (pv 2) (ae (pv 8) (ae (pv 3) aD)))))) (ae (aZ O (J.mono (by decide)) (by rfl) (ae (pv 7) (ae (pv 8) aD))) aD)))))))))))))),
  (aT (cz (et (gk (bX (aY (aA aE aJ))))) h9 bP)
   (aT (bB (br (Pw (bO (aP WZ aC (aM pX))) (bX (aY (aA iN aJ))) aE)))
   (aT (cz (et (gk (bX (aY (aA aE aJ))))) h9 bP)
   (aT (cz (et (gk (bX (aY (aA aE (aA aF aJ)))))) h9 bP)
   (aT (bB (br (bX (aY (aA aE (aA aE (aA aE aJ)))))))
   (aT (bB (br (bT cR (aI aC aO))))
   (aT (bB (br (bT cR (aI (bx (dm.b cn) aC (aM aF)) aO))))
   (aT (bB (br (bX (dQ (dR (bX (aY (aA aE (aA aE (aA aE aJ)))))) (k_ (cH bu (cH bu iM))) (br (bF cn (bF cn aE aE) aE))))))
   (aT (bB (br (bX (aY (aA aE aJ)))))
   (a_ (br (cD (aA (cD (aA aE (aA aE (aA aE (aA aE (aA aE aJ)))))) (aA (bX (aY (aA aE (aA aE aJ)))) aJ)))))))))))))),?_⟩)
 rintro ds Pr ⟨h,w,e,fs,L,b,rfl,hl,ok,hL,h0,hh,w0,hw,ϴ,hb,he,hmul,k⟩;gn_on;refine⟨_,rfl,Nk (by lia) (by lia),?_⟩;have ć:yB (R6 h w e)=true:=by
  unfold R6;rw[M6 h0 w0,decide_eq_true hh,decide_eq_true hw];rfl
 rw[ć];show if (!true)=true then _ else _
 rw[if_neg (by decide)];gp_on;gn_on;rw[if_neg (by unfold eG;exact AL)];gp_on;gn_on;refine⟨fs,rfl,hl,ok,?_⟩;show if (!true)=true then _ else _
 rw[if_neg (by decide)];gp_on;gn_on;refine⟨L,rfl,hL,?_⟩;show if (!true)=true then _ else _
 rw[if_neg (by decide)];gp_on;gn_on;refine⟨h,w,e,fs,L,rfl,ok,hL,h0,by lia,by lia,?_⟩;fin2;rw[iD];gp_on;unfold R6;gn_on;gp_on;gn_on;have ϵ:kI (rz D.int h w e) 0=some (.lst (tab w λj=>D.int (e 0 j))):=by
  unfold rz;exact kx (by decide) (by lia)
 have hlen:(rz D.int h w e).length=h:=by unfold rz;exact bE
 refine⟨_,ϵ,?_⟩;fin2;rw[hlen,bE];gp_on;gn_on;refine⟨h,w,L,rfl,⟨by lia,by lia,by lia⟩,?_⟩;have Vr:=gK (h:=h) (w:=w) (n:=L);have M:∀p∈cp h w L,(0<=p.1/\p.1<h)/\0<=p.2/\p.2<w:=λp hp=>nI hp
 have ő:=QX ok (h:=h) (w:=w) ϴ he L;have hhw:h*w<=4096:=Dd hh hw;have ϭ:0<h*w:=Ha h0 w0;fin2;have ev:BA OV.val (BA (λp=>OV.fz (xM p)) (cp h w L))=(cp h w L).map xM:=by rw[A9];rfl
 rw[ev];unfold gx at k;generalize Ϥ:ou 0 (λk=>b_ fs ((2^k:Nat):Int)) h w L e=q at k ő;generalize cp h w L=ps at k Vr M;refine⟨λi δ ts=>∃o0 o1:Option Sl,δ=[o0,o1,vD (.lst (rz D.int h w q))]/\ts=(ps.take i).map λp=>.fz (.int (q p.1.toNat p.2.toNat)),⟨none,none,rfl,rfl⟩,?_,?_⟩
 .rintro i d δ ts hd ⟨o0,o1,rfl,rfl⟩;obtain⟨p,hp,rfl⟩:=mX hd;have hi:=(Ab.mp hp).1;obtain⟨⟨p0,p1⟩,p2,p3⟩:=M p (Ai hp);simp only[xM,gT,m7,tx,gN,AR,Dh,Ft,true_and,CD,C5];fin2;have Ć:kI (rz D.int h w q) p.1=some (.lst (tab w λj=>D.int (q p.1.toNat j))):=by unfold rz;exact kx p0 p1
  refine⟨by rw[BD];lia,_,Ć,?_⟩;refine⟨_,kx p2 p3,?_⟩;refine⟨some (Sl.own (OV.fz (D.int p.1))),some (Sl.own (OV.fz (D.int p.2))),rfl,?_⟩;rw[Fd,hp,A_];rfl
 .rintro δ ts ⟨o0,o1,rfl,rfl⟩;rw[Au,BC];fin2;have exs:(BA OV.val (ps.map λp=>OV.fz (.int (q p.1.toNat p.2.toNat))))=(ps.map λp=>q p.1.toNat p.2.toNat).map D.int:=by rw[A9,A9];rfl
  rw[exs];have U:(ps.map λp=>q p.1.toNat p.2.toNat).length=h*w:=by rw[Au,Vr]
  have Ŀ:∀x∈(ps.map λp=>q p.1.toNat p.2.toNat),iW x<=b+10*fs.length*L+1:=λx hx=>by
   obtain⟨p,_,rfl⟩:=Bf.mp hx;have h1:=ő p.1.toNat p.2.toNat;have h2:=mO (b+10*fs.length*L);have h3:=nK (b+10*fs.length*L);exact Xn (by lia) (by lia)
  generalize (ps.map λp=>q p.1.toNat p.2.toNat)=xs at k U Ŀ;gp_on;gn_on;refine⟨xs,rfl,by lia,by lia,λn ŉ ň=>?_⟩;gp_on;have Ŋ:n<=b+10*fs.length*L+1:=by
   obtain⟨x,hx,e⟩:=ŉ;rw[<- e];exact Ŀ x hx
  have Xaa:10*fs.length*L<=360:=by
   have:=Dd (C8 10 hl) hL;lia
  have yZ:∀x∈xs,x.natAbs<2^n:=λx hx=>Ih λz=>by
   have:=Rb.mp z;have:=ň x hx;lia
  obtain⟨q1,q2,q3,q4⟩:=nv xs.length n;obtain⟨bs,v,t1,t2,t3,t4,t5,t6,t7⟩:=Oy (xs:=xs) rfl (by lia) (by lia) _ _ (Ah _) (nu (by lia) n) (xZ yZ) (by lia) (by rw[q2,Dh];lia);have X9:bs.length<=900000:=by
   have:3*xs.length*n<=3*(h*w)*(b+10*fs.length*L+1):=by rw[U];exact C8 _ Ŋ
   lia
  fin2;refine⟨xs,n,bs,rfl,by lia,by lia,X9,t1,?_⟩;exact k n bs v ŉ ň Ŋ t1 t2 t3 t4 t5 (by rw[t7,q3];lia) X9
noncomputable abbrev hE:AZ:=top 99
theorem pM:aQ ["_law_script","_law_k"] ["_law_script","_law_k"] (aB hE):=by walk_at "S"
def jw:dF:=λds P=>∃(ns:List Int) (k:Int),ds=[.lst (ns.map .int),.int k]/\0<=k/\P (.fz (.int (ns.getD k.toNat 0)))
theorem qm {f:Ac}{fd:Ak}(j:bL K mg "_law_cell_at" hE f fd)(B:b9 mg)(KV:bZ K):
  cg P w K mg base "_law_cell_at" 1 ["_law_script","_law_k"] (b7 K 2 jw):=by
 refine cZ.of j pM (by walk_at "b") rfl (λc A o s H E r=>⟨_,_,(aG (cu (bQ jX (pv 1) (aW bo (by rfl) B.len Bh (ae (pv 0) aD)) (bJ _)) (aH (aX (aR bK (pv 0) (pv 1) (λ_ _=>rfl)))) bM)
   (aH (aX aK))),
  (aT (cz (bO (aP dq aC (aM (bT cR (aI aC aO))))) (a_ (br (bF cn aE aE))) bP)
   (a_ (br aF))),?_⟩)
 rintro ds l ⟨ns,k,rfl,g,q⟩;fin2;split
 .rename_i h;exact⟨_,mq g h,q⟩
 .rename_i h;have e:ns.getD k.toNat 0=0:=by
   have a:ns.length<=k.toNat:=by lia
   simp[List.getD,Bg a]
  rw[e]at q;exact q
noncomputable abbrev y7 (h w L n:Nat)(fs:List Lf):D:=.tup [.int h,.int w,.int L,.int n,eG fs]
def jy:dF:=λds P=>∃(h w L n:Nat) (fs:List Lf),ds=[y7 h w L n fs]/\(h<=100/\w<=100/\L<=100)/\P (.nl ((cp h w L).map λp=>.fz (xM p)))
noncomputable abbrev hG:AZ:=top 77
theorem pN:aQ ["head"] ["head"] (aB hG):=by walk_at "S"
theorem qo {f:Ac}{fd:Ak}(j:bL K mg "head_places" hG f fd)(B:b9 mg)(KV:bZ K)(a:∃t,mg "HIGH"=some (.int 0 t))(G:∃t,mg "WIDE"=some (.int 1 t))(g:∃t,mg "LEVELS"=some (.int 2 t))(p:cg P w K mg base "places" 2 ["high","wide","levels"] (b7 K 3 mG)):
  cg P w K mg base "head_places" 3 ["head"] (b7 K 1 jy):=by
 refine cZ.of j pN (by walk_at "b") rfl (λc A o s H E r=>⟨_,_,(aH (aX (aZ p (r.mono (by decide)) (by rfl) (ae (aR aS (pv 0) (aN (by rfl) a) (λ_ _=>rfl)) (ae (aR aS (pv 0) (aN (by rfl) G) (λ_ _=>rfl)) (ae (aR aS (pv 0) (aN (by rfl) g) (λ_ _=>rfl)) aD)))))),
  (a_ (aY (aA (bF aU aE aF) (aA (bF aU aE aF) (aA (bF aU aE aF) aJ))))),?_⟩)
 rintro ds l ⟨h,w,L,n,fs,rfl,e,k⟩;fin2;exact⟨h,w,L,rfl,e,k⟩
theorem Q5 {n:Nat}{p q:Int×Int}(h:qK n p q):p≠q:=λz=>by
 subst z;unfold qK Q6 at h;simp[HT.lexLt]at h
theorem yz {h w n:Nat}:(cp h w n).Nodup:=yy.imp Q5
theorem wB {h w n:Nat}{p:Int×Int}(a:(0<=p.1/\p.1<h)/\0<=p.2/\p.2<w):p∈cp h w n:=by
 unfold cp;refine HN.mpr ⟨oT n (fJ h w) (rR n p),Dq.mpr (Bf.mpr ⟨rR n p,BK.mpr (Nat.lt_succ_of_le (qI _ _ _)),rfl⟩),?_⟩;exact Dg.mpr ⟨va.mpr a,by simp⟩
noncomputable def ec (h w L i j:Nat):Nat:=(cp h w L).idxOf ((i:Int),(j:Int))
theorem oP {h w L i j:Nat}(hi:i<h)(J:j<w):ec h w L i j<(cp h w L).length:=
 List.idxOf_lt_length_of_mem (wB (p:=((i:Int),(j:Int))) ⟨⟨by dsimp only;lia,by dsimp only;lia⟩,by dsimp only;lia,by dsimp only;lia⟩)
theorem qb {h w L i j:Nat}(hi:i<h)(J:j<w):(cp h w L)[ec h w L i j]?=some ((i:Int),(j:Int)):=by
 rw[Ad (oP hi J)];exact congrArg some (List.getElem_idxOf (oP hi J))
theorem Ta {h w L i j k:Nat}(hi:i<h)(J:j<w)(a:(cp h w L)[k]?=some ((i:Int),(j:Int))):ec h w L i j=k:=by
 have h1:=qb (L:=L) hi J;exact (List.getElem?_inj (oP hi J) yz).mp (h1.trans a.symm)
theorem Q7 {n:Nat}{i:Int}(a:0<=i)(h:i<n):qL n i=some i.toNat:=by
 unfold qL;rw[if_pos a]
 try rw[if_pos (by omega)]
noncomputable def MW (h w:Nat)(e:Nat->Nat->D):List OV:=tab h λi=>.nl (tab w λj=>.fz (e i j))
theorem SF {h w a b:Nat}{e:Nat->Nat->D}{d:D}:(MW h w e).set a (.nl ((tab w λj=>OV.fz (e a j)).set b (.fz d)))=MW h w λi j=>if i=a/\j=b then d else e i j:=by
 unfold MW;rw[lB];refine dr λi hi=>?_
 by_cases q:i=a
 .subst q;rw[if_pos rfl,lB];congr 1
  refine dr λj J=>?_
  dsimp only;by_cases y:j=b
  .rw [if_pos y,if_pos ⟨rfl,y⟩]
  .rw [if_neg y,if_neg (λz=>y z.2)]
 .rw [if_neg q];congr 1
  refine dr λj J=>?_
  dsimp only;rw[if_neg (λz=>q z.1)]
theorem Gs {h w:Nat}{e e':Nat->Nat->D}(q:∀i j,i<h->j<w->e i j=e' i j):MW h w e=MW h w e':=
 dr λi hi=>congrArg OV.nl (dr λj J=>congrArg OV.fz (q i j hi J))
theorem Oh {xs:List (Int×Int)}{ys:List fX}(e:xs.length=ys.length):(((xs.map xM).zip (ys.map e8)).map λp=>D.tup [p.1,p.2]).length=ys.length:=by
 rw[Au,FV,Au,Au,e,Nat.min_self]
def ny:dF:=λds P=>∃(h w L n:Nat) (fs:List Lf) (vs:List fX),ds=[y7 h w L n fs,.lst (vs.map e8)]/\(h<=100/\w<=100/\L<=100)/\vs.length=h*w/\P (.nl (jn e8 h w λi j=>vs.getD (ec h w L i j) (0,0)))
noncomputable abbrev iG:AZ:=top 80
theorem gG:aQ ["head","spans","sheet","place","thing"] ["head","spans"] (aB iG):=by walk_at "S"
theorem wI {f:Ac}{fd:Ak}(Df:bL K mg "sheet_of" iG f fd)(B:b9 mg)(KV:bZ K)(g:∃t,mg "WIDE"=some (.int 1 t))(G:∃t,mg "HIGH"=some (.int 0 t))(l:cg P w K mg base "head_places" 3 ["head"] (b7 K 1 jy)):
  cg P w K mg base "sheet_of" 4 ["head","spans"] (b7 K 2 ny):=by
 refine cZ.of Df gG (by walk_at "b") rfl (λc A o s H E hr=>⟨_,_,(aG (gn (i:=2) gG.nd rfl (Ar rfl) rfl (dh (by rfl) (by exact B.range) (ae (aR aS (pv 0) (aN (by rfl) G) (λ_ _=>rfl)) aD)) (show bV (aB iG) _ from⟨rfl,by decide +kernel,by decide +kernel,by decide +kernel⟩) (N:=["i","head"]) (ix:=[none,some 0]) (show cT _ _ _ _ from⟨⟨rfl,rfl,.inl rfl⟩,trivial⟩) (λ_ _ _=>(bt (i:=0) (show Bo (["i","head"]:List Al) by decide +kernel) rfl (Ar rfl))) (λ_ _ _=>(aV yE (c8 (ae qf aD)) (aR aS (pv 1) (aN (by rfl) g) (λ_ _=>rfl)))))
   (aG (cX AG rfl (WI rfl B.zip (ae (aZ l (hr.mono (by decide)) (by rfl) (ae (pv 0) aD)) (ae (pv 1) aD))) (lg (n:=2) rfl (cI (bt (i:=3) gG.nd rfl (Ar rfl)) (cI (bt (i:=4) gG.nd rfl (Ar rfl)) iQ))) (aH (mM (pv 4) (qe (aR bK (pv 2) (aR aS (pv 3) aK (λ_ _=>rfl)) (λ_ _=>rfl)) (aR aS (pv 3) aK (λ_ _=>rfl)) h8))))
   (aH (aX (pv 2))))),
  (aT (bB (dQ (eW (aI (bx (dm.b aU) aC (aM aF)) aO)) bu (uD (d3 (ey (br pX) c7)) (bx (dm.b aU) aC (aM aF)))))
   (aT (c_ (Wn (aA (bX (aY (aA aE aJ))) (aA aE aJ))) (k_ (cH bu (cH bu iM))) (K5 aE (bx (dm.b aU) aC (aM aF)) (bx (dm.b aU) aC (aM aF))))
   fT)),?_⟩)
 rintro ds Pr ⟨h,w,L,n,fs,vs,rfl,hb,hl,k⟩;obtain⟨hh,hw,hL⟩:=hb;gn_on;refine⟨⟨by lia,by lia⟩,?_⟩;refine gA.vF (λ_=>.nl (An w (.fz .cB))) (by lia) (λi _ Q q=>?_) ?_
 .fin2;exact⟨⟨by lia,by lia⟩,q⟩
 have e0:(AE (h:Int).toNat).map (λ_=>OV.nl (An w (.fz .cB)))=MW h w λi j=>if ec h w L i j<0 then e8 (vs.getD (ec h w L i j) (0,0)) else .cB:=by
  show tab h _=_
  refine dr λi _=>?_
  dsimp only;congr 1
  have:∀j:Nat,(if ec h w L i j<0 then e8 (vs.getD (ec h w L i j) (0,0)) else D.cB) = .cB:=λj=>if_neg (DV _)
  simp only[this];unfold tab;rw[List.map_const',CT]
 rw[e0];gp_on;gn_on;refine⟨h,w,L,n,fs,rfl,⟨hh,hw,hL⟩,?_⟩;fin2;have ev:BA OV.val (BA (λp=>OV.fz (xM p)) (cp h w L))=(cp h w L).map xM:=by rw[A9];rfl
 rw[ev];have Vr:=gK (h:=h) (w:=w) (n:=L);have C:=Oh (xs:=cp h w L) (ys:=vs) (by lia);refine⟨λm δ=>∃v O:Option Sl,δ=[vD (y7 h w L n fs),vD (.lst (vs.map e8)),some (.own (.nl (MW h w λi j=>if ec h w L i j<m then e8 (vs.getD (ec h w L i j) (0,0)) else .cB))),v,O],⟨none,none,rfl⟩,?_,?_⟩
 .rintro m d δ hd ⟨v,O,rfl⟩;obtain⟨z,hz,rfl⟩:=mX hd;rw[Ce,AH,AH]at hz;obtain⟨T,M⟩:=hz;obtain⟨p,hp,ϙ⟩:=Gw.mp T;obtain⟨s,hs,Ï⟩:=Gw.mp M;rw[<- ϙ,<- Ï];obtain⟨⟨p0,p1⟩,p2,p3⟩:=nI (Ai hp);have ϓ:vs.getD m (0,0)=s:=by rw[Aj,hs];rfl
  simp only[gT,m7,tx,gN,AR,Dh,Ft,true_and,CD,C5];unfold xM;fin2;have r:(MW h w λi j=>if ec h w L i j<m then e8 (vs.getD (ec h w L i j) (0,0)) else .cB).length=h:=bE;refine⟨p.1.toNat,tab w λj=>.fz (if ec h w L p.1.toNat j<m then e8 (vs.getD (ec h w L p.1.toNat j) (0,0)) else .cB),by rw[r];exact Q7 p0 p1,ke (by lia),p.2.toNat,by rw[bE];exact Q7 p2 p3,?_⟩;have ϖ:p=(((p.1.toNat:Nat):Int),((p.2.toNat:Nat):Int)):=Ir (by dsimp only;lia) (by dsimp only;lia);have u:=SF (h:=h) (w:=w) (a:=p.1.toNat) (b:=p.2.toNat) (e:=λi j=>if ec h w L i j<m then e8 (vs.getD (ec h w L i j) (0,0)) else .cB) (d:=e8 s);have U:(MW h w λi j=>if i=p.1.toNat/\j=p.2.toNat then e8 s else if ec h w L i j<m then e8 (vs.getD (ec h w L i j) (0,0)) else .cB)=MW h w λi j=>if ec h w L i j<m+1 then e8 (vs.getD (ec h w L i j) (0,0)) else .cB:=Gs λi j hi J=>by
   by_cases z:i=p.1.toNat/\j=p.2.toNat
   .obtain ⟨rfl,rfl⟩:=z;have hx:=Ta (L:=L) (k:=m) hi J (by rw[<- ϖ];exact hp);rw[if_pos ⟨rfl,rfl⟩,hx,if_pos (by lia),ϓ]
   .rw [if_neg z];have Ň:ec h w L i j≠m:=λq=>by
     have h1:=qb (L:=L) hi J;rw[q,hp]at h1;have h2:=A6 h1;exact z ⟨by rw[h2];rfl,by rw[h2];rfl⟩
    by_cases y:ec h w L i j<m
    .rw [if_pos y,if_pos (by lia)]
    .rw [if_neg y,if_neg (by lia)]
  rw[<- U,<- u];exact⟨_,_,rfl⟩
 .rintro δ ⟨v,O,rfl⟩;rw[C];gp_on;fin2;have ee:(MW h w λi j=>if ec h w L i j<vs.length then e8 (vs.getD (ec h w L i j) (0,0)) else .cB)=jn e8 h w λi j=>vs.getD (ec h w L i j) (0,0):=by
   show MW h w _=MW h w _
   refine Gs λi j hi J=>?_
   have:=oP (L:=L) hi J;rw[if_pos (by lia)]
  rw[ee];exact k
def vW:dF:=λds P=>∃(h w L n k:Nat) (fs:List Lf) (vs:List fX),ds=[y7 h w L n fs,.lst (vs.map e8),.int k]/\(∀f∈fs,f.Ok)/\(0<h/\h<=100/\w<=100/\L<=6)/\k<=L/\vs.length=h*w/\
 P (.nl (jn e8 (d4 0 h (2^k:Nat)) (d4 0 w (2^k:Nat)) λi j=>dU (0,0) (λk=>dM (0,0) c6 fs (2^k:Nat)) h w L k (λi j=>vs.getD (ec h w L i j) (0,0)) (i*2^k) (j*2^k)))
noncomputable abbrev uB:AZ:=top 82
theorem O8:aQ ["head","spans","k"] ["head","spans","k"] (aB uB):=by walk_at "S"
theorem Qq {f:Ac}{fd:Ak}(u:bL K mg "level" uB f fd)(B:b9 mg)(KV:bZ K)(G:∃t,mg "LADDER"=some (.int 4 t))(g:∃t,mg "LEVELS"=some (.int 2 t))(l:cg P w K mg base "holds" 1 ["one","number"] (b7 K 2 jx))(C:cg P w K mg base "thinned" 1 ["sheet","k"] (b7 K 2 iw))(p:zC P w K mg base "opened_spans" 6 ["sheet","ladder","levels","down"] (b7 K 4 i5) [.int 0])(e:cg P w K mg base "sheet_of" 4 ["head","spans"] (b7 K 2 ny)):
  cg P w K mg base "level" 7 ["head","spans","k"] (b7 K 3 vW):=by
 refine cZ.of u O8 (by walk_at "b") rfl (λc A o s H E r=>⟨_,_,(aG (cu (eu (cQ (aZ l (r.mono (by decide)) (by rfl) (ae (cb (ae aK (ae (aR aS (pv 0) (aN (by rfl) g) (λ_ _=>rfl)) aD))) (ae (pv 2) aD))))) (aH ib) bM)
   (aH (aX (aZ C (r.mono (by decide)) (by rfl) (ae (aZ p.Ġ (r.mono (by decide)) (by rfl) (ae (aZ e (r.mono (by decide)) (by rfl) (ae (pv 0) (ae (pv 1) aD))) (ae (aR aS (pv 0) (aN (by rfl) G) (λ_ _=>rfl)) (ae (aR aS (pv 0) (aN (by rfl) g) (λ_ _=>rfl)) (ae (pv 2) aD))))) (ae (pv 2) aD)))))),
  (aT (cz (et (gk (bX (aY (aA (cD (aA aF (aA (bF aU aE aF) aJ))) (aA aE aJ)))))) h9 bP)
   (a_ (aY (aA (bX (aY (aA (bX (aY (aA aE (aA aE aJ)))) (aA (bF aU aE aF) (aA (bF aU aE aF) (aA aE aJ)))))) (aA aE aJ))))),?_⟩)
 rintro ds z ⟨h,w,L,n,k,fs,vs,rfl,ok,j,v,hl,hP⟩;obtain⟨q,a,hw,m⟩:=j;gn_on;refine⟨0,L,k,rfl,?_⟩;rw[decide_eq_true (by lia:(0:Int)<=k),decide_eq_true (by lia:(k:Int)<=L)];show if (!true)=true then _ else _
 rw[if_neg (by decide)];gp_on;fin2;refine⟨h,w,L,n,fs,vs,rfl,⟨a,hw,by lia⟩,hl,?_⟩;fin2;rw[iD];refine⟨h,w,_,fs,L,k,rfl,ok,m,by lia,q,by lia,by lia,?_⟩;fin2;rw[iD];exact⟨fX,e8,h,w,k,_,rfl,by lia,by lia,by lia,hP⟩
noncomputable def eS (h w L:Nat)(fs:List Lf)(u:Wk):Nat->Nat->fX:=dU (0,0) (λk=>dM (0,0) c6 fs (2^k:Nat)) h w L 0 λi j=>(dv u).getD (ec h w L i j) (0,0)
theorem zZ (u:Wk):fo u=(dv u).map e8:=by
 unfold fo dv;rw[List.map_flatMap];simp only[DQ];rfl
noncomputable abbrev Mc (m n:Nat):Wk:=Wk.turn ⟨n,0,[],[⟨0,0,m,1-2^n,2^n-1⟩],[]⟩
theorem J' {h w L m:Nat}{fs:List Lf}(ok:∀f∈fs,f.Ok)(c:0<m)(M:m=h*w){a b:Wk}{bs:List Bool}(F:jm a bs b)(A:kb m a)(B:kb m b){i j:Nat}(hi:i<h)(J:j<w):Q_ (eS h w L fs a i j) (eS h w L fs b i j):=by
 refine WU ok (λi j=>?_) i j hi J;have k:=kZ A;have l:=kZ B;rcases Ev (ec h w L i j) m with z |z
 .obtain ⟨s,t,g,e,r⟩:=nest c F A B z;rw[Aj,Aj,g,e];exact r
 .rw [Aj,Aj,Bg (by lia),Bg (by lia)];exact⟨Ba _,Ba _,Ba _⟩
theorem z8:∀{xs:List Int} {a:List (Int×Int)},a.map e8=xs.map dot->a=xs.map λx=>(x,x)
 | [],[],_=>rfl
 | [],s::a,h=>by cases h
 |x::xs,[],h=>by cases h
 |x::xs,s::a,h=>by
  rw[BJ,BJ]at h;obtain⟨h1,h2⟩:=EN h;rw[z8 h2,BJ];congr 1
  unfold e8 dot at h1;simp only[D.tup.injEq,Kl,D.int.injEq,and_true]at h1;exact Ir h1.1 h1.2
theorem O5 {h w L m:Nat}{fs:List Lf}(ok:∀f∈fs,f.Ok){xs:List Int}(a:xs.length=m){v:Wk}(S:kb m v)(C:de xs v)(c:v.pl<0){i j:Nat}(hi:i<h)(J:j<w):
  eS h w L fs v i j=(dU 0 (λk=>hU fs (2^k:Nat)) h w L 0 (λi j=>xs.getD (ec h w L i j) 0) i j,dU 0 (λk=>hU fs (2^k:Nat)) h w L 0 (λi j=>xs.getD (ec h w L i j) 0) i j):=by
 have e:=MT a S C c;rw[zZ]at e;unfold eS;rw[z8 e,<- WT ok i j hi J];congr 1
 funext i j
 rcases Ev (ec h w L i j) xs.length with z |z
 .rw [Aj,Aj,AH,Ad z];rfl
 .rw [Aj,Aj,Bg (by rw[Au];exact z),Bg z];rfl
theorem wN {h w L:Nat}{e:Nat->Nat->Int}{fs:List Lf}:(gx h w e fs L).length=h*w:=by
 unfold gx;rw[Au,gK]
def pE:dF:=λds P=>∃s:fX,ds=[e8 s]/\P (.fz (.int (s.2-s.1)))
noncomputable abbrev mL:AZ:=top 13
theorem ye:aQ ["one"] ["one"] (aB mL):=by walk_at "S"
theorem yJ {f:Ac}{fd:Ak}(a:bL K mg "breadth" mL f fd)(B:b9 mg)(KV:bZ K):
  cg P w K mg base "breadth" 1 ["one"] (b7 K 1 pE):=by
 refine cZ.of a ye (by walk_at "b") rfl (λc A o s H E r=>⟨_,_,(aH (aX (aV di (aR aS (pv 0) aK (λ_ _=>rfl)) (aR aS (pv 0) aK (λ_ _=>rfl))))),
  (a_ (br (aP bU (bx (dm.b aU) aC (aM aF)) (bx (dm.b aU) aC (aM aF))))),?_⟩)
 rintro ds e ⟨s,rfl,h⟩;unfold e8;fin2;exact h
def nB:dF:=λds P=>∃xs:List fX,ds=[.lst (xs.map e8)]/\0<xs.length/\xs.length<=1000/\∀M:Int,(∃s∈xs,s.2-s.1=M)->(∀s∈xs,s.2-s.1<=M)->P (.fz (.int M))
noncomputable abbrev iI:AZ:=top 14
theorem v5:aQ ["some"] ["some"] (aB iI):=by walk_at "S"
theorem wL {f:Ac}{fd:Ak}(m:bL K mg "broadest" iI f fd)(B:b9 mg)(KV:bZ K)(r:cg P w K mg base "breadth" 1 ["one"] (b7 K 1 pE)):
  cg P w K mg base "broadest" 2 ["some"] (b7 K 1 nB):=by
 refine cZ.of m v5 (by walk_at "b") rfl (λc A o s H E j=>⟨_,_,(aH (aX (aW (kr rfl) (by rfl) B.max Ib (ae (eC rfl (df (pv 0)) (show bV (aB iI) _ from⟨rfl,by decide +kernel,by decide +kernel,by decide +kernel⟩) (N:=["one"]) (ix:=[none]) (show cT _ _ _ _ from trivial) (λ_ _ _=>(bt (i:=0) (show Bo (["one"]:List Al) by decide +kernel) rfl (Ar rfl))) (λ_ _ _=>(aZ r (j.mono (by decide)) (by rfl) (ae (pv 0) aD)))) aD)))),
  (a_ (br (bT oY (aI (aM (bX (dQ (dR aE) bu (aY (aA aE aJ))))) aO)))),?_⟩)
 rintro ds p ⟨xs,rfl,a,n,h⟩;fin2;refine gA.map xs e8 (λs=>.fz (.int (s.2-s.1))) (by lia) (λs _ Q q=>?_) ?_
 .fin2;exact⟨s,rfl,q⟩
 fin2;refine⟨xs.map λs=>s.2-s.1,by simp only[A9,Bx,OV.val],by simpa using a,λM k l=>?_⟩;obtain⟨s,g,e⟩:=Bf.mp k;exact h M ⟨s,g,e⟩ λt ht=>l _ (Bf.mpr ⟨t,ht,rfl⟩)
def k5:dF:=λds P=>∃(h w L n:Nat) (fs:List Lf) (bs:List Bool) (v:Wk),ds=[y7 h w L n fs,.str (dd bs)]/\h<=100/\n<=5000/\jm (Wk.turn ⟨n,0,[],[⟨0,0,h*w,1-2^n,2^n-1⟩],[]⟩) bs v/\P (.ob none "Walk" bD v.ts)
noncomputable abbrev mJ:AZ:=top 78
theorem ya:aQ ["head","bits"] ["head","bits"] (aB mJ):=by walk_at "S"
theorem yF {f:Ac}{fd:Ak}(e:bL K mg "walk_of" mJ f fd)(B:b9 mg)(KV:bZ K)(g:∃t,mg "PLANES"=some (.int 3 t))(a:∃t,mg "HIGH"=some (.int 0 t))(G:∃t,mg "WIDE"=some (.int 1 t))(l:cg P w K mg base "followed" 6 ["bits","many","planes"] (b7 K 3 nz)):
  cg P w K mg base "walk_of" 7 ["head","bits"] (b7 K 2 k5):=by
 refine cZ.of e ya (by walk_at "b") rfl (λc A o s H E r=>⟨_,_,(aH (aX (aZ l (r.mono (by decide)) (by rfl) (ae (pv 1) (ae (aV gv (aR aS (pv 0) (aN (by rfl) a) (λ_ _=>rfl)) (aR aS (pv 0) (aN (by rfl) G) (λ_ _=>rfl))) (ae (aR aS (pv 0) (aN (by rfl) g) (λ_ _=>rfl)) aD)))))),
  (a_ (aY (aA aE (aA (aP cG (bx (dm.b aU) aC (aM aF)) (bx (dm.b aU) aC (aM aF))) (aA (bF aU aE aF) aJ))))),?_⟩)
 rintro ds m ⟨h,w,L,n,fs,bs,v,rfl,j,hn,F,k⟩;fin2;exact⟨.inl ⟨by lia,by lia⟩,bs,_,n,v,rfl,hn,F,k⟩
def VS (h w:Nat)(e:Nat->Nat->fX)(M:Int):Prop:=(∃i j,i<h/\j<w/\(e i j).2-(e i j).1=M)/\∀i j,i<h->j<w->(e i j).2-(e i j).1<=M
theorem xB {h w:Nat}{e:Nat->Nat->fX}{M f:Int}(a:VS h w e M)(b:VS h w e f):M=f:=by
 obtain⟨⟨i,j,hi,l,h1⟩,h2⟩:=a;obtain⟨⟨k,g,c,J,n⟩,m⟩:=b;have:=h2 k g c J;have:=m i j hi l;lia
theorem La (f:Nat->Int):∀w,0<w->∃M,(∃j,j<w/\f j=M)/\∀j,j<w->f j<=M
 | 0,h=>absurd h (by decide)
 | 1,_=>⟨f 0,⟨0,by decide,rfl⟩,λj J=>by rw[show j=0 by lia];exact Ba _⟩
 |w + 2,_=>by
  obtain⟨M,⟨j,J,e⟩,a⟩:=La f (w+1) (by lia);by_cases z:f (w+1)<=M
  .exact ⟨M,⟨j,by lia,e⟩,λi hi=>by
    by_cases y:i=w+1
    .rw [y];exact z
    .exact a i (by lia)⟩
  .exact ⟨f (w+1),⟨w+1,by lia,rfl⟩,λi hi=>by
    by_cases y:i=w+1
    .rw [y];exact Ba _
    .have:=a i (by lia);lia⟩
def jz:dF:=λds P=>∃(h w L n:Nat) (fs:List Lf) (bs:List Bool) (c:Nat) (u:Wk),ds=[y7 h w L n fs,.str (dd bs),.int c]/\(∀f∈fs,f.Ok)/\(0<h/\h<=100/\0<w/\w<=100/\L<=6)/\n<=5000/\bs.length<=1000000/\c<=bs.length/\
 jm (Mc (h*w) n) (bs.take c) u/\kb (h*w:Nat) u/\∀M:Int,VS h w (eS h w L fs u) M->P (.fz (.int M))
noncomputable abbrev oK:AZ:=top 84
theorem v7:aQ ["head","bits","many","spans"] ["head","bits","many"] (aB oK):=by walk_at "S"
theorem Qu {f:Ac}{fd:Ak}(Df:bL K mg "broad" oK f fd)(B:b9 mg)(KV:bZ K)(g:dE K "Walk" bD)(l:cS P w K mg base "Walk" "spans" 1 ["self"] (b7 K 1 kP))(C:cg P w K mg base "walk_of" 7 ["head","bits"] (b7 K 2 k5))(r:cg P w K mg base "broadest" 2 ["some"] (b7 K 1 nB))(v:cg P w K mg base "level" 7 ["head","spans","k"] (b7 K 3 vW)):
  cg P w K mg base "broad" 8 ["head","bits","many"] (b7 K 3 jz):=by
 refine cZ.of Df v7 (by walk_at "b") rfl (λc A o s H E z=>⟨_,_,(aG (bp (i:=3) v7.nd rfl (Ar rfl) (eY l (z.mono (by decide)) (aZ C (z.mono (by decide)) (by rfl) (ae (pv 0) (ae (wD Wb (pv 1) S' (uM (pv 2))) aD)))))
   (aH (aX (aW (kr rfl) (by rfl) B.max Ib (ae (eC rfl (df (aZ v (z.mono (by decide)) (by rfl) (ae (pv 0) (ae (pv 3) (ae aK aD))))) (show bV (aB oK) _ from⟨rfl,by decide +kernel,by decide +kernel,by decide +kernel⟩) (N:=["row"]) (ix:=[none]) (show cT _ _ _ _ from trivial) (λ_ _ _=>(bt (i:=0) (show Bo (["row"]:List Al) by decide +kernel) rfl (Ar rfl))) (λ_ _ _=>(aZ r (z.mono (by decide)) (by rfl) (ae (pv 0) aD)))) aD))))),
  (aT (bB (br (bX (gm g (by decide +kernel) (aM (bX (aY (aA aE (aA (Ws aE Yz (Pk aC)) aJ))))) aO))))
   (Pe 3 (a_ (br (bT oY (aI (aM (bX (dQ (dR (bX (aY (aA aE (aA aE (aA aF aJ)))))) bu (aY (aA aE aJ))))) aO)))))),?_⟩)
 rintro ds Pr ⟨h,w,L,n,fs,bs,c,u,rfl,ok,⟨h0,hh,w0,hw,hL⟩,hn,ĕ,hc,F,S,k⟩;have hm:h*w<=10000:=Dd hh hw;have T:=MV S (by lia);gn_on;rw[c0,OL bs hc];refine⟨by omega,h,w,L,n,fs,bs.take c,u,rfl,hh,hn,by rw[<- Int.natCast_mul];exact F,?_⟩;fin2;refine⟨u,by rw[OV.c4],T.1,T.2.1,by omega,T.2.2.2,?_⟩;rw[zZ];have Ϣ:OV.lf (.nl (BA OV.fz (BA e8 (dv u))))=true:=by
  show OV.jj _=true
  rw[A9];exact TV
 refine⟨Ϣ,?_⟩;have ev:OV.val (.nl (BA OV.fz (BA e8 (dv u)))) = .lst ((dv u).map e8):=by
  show D.lst (OV.vals _)=_
  rw[LP]
 rw[ev];gp_on;fin2;have U:=kZ S;refine⟨h,w,L,n,0,fs,dv u,rfl,ok,⟨h0,hh,by omega,hL⟩,Br _,U,?_⟩;rw[ui];show gA _ _ (OV.vals _) _ _
 rw[OV.c4,iD]
 change ∀M:Int,VS h w (eS h w L fs u) M->_ at k
 have G:dU (0,0) (λk=>dM (0,0) c6 fs ((2^k:Nat):Int)) h w L 0 (λi j=>(dv u).getD (ec h w L i j) ((0,0):fX))=eS h w L fs u:=rfl;rw[G];generalize eS h w L fs u=e at k;have O:∀i,∃M,(∃j,j<w/\(e i j).2-(e i j).1=M)/\∀j,j<w->(e i j).2-(e i j).1<=M:=λi=>La (λj=>(e i j).2-(e i j).1) w w0
 obtain⟨p,m⟩:∃p:Nat->Int,∀i,(∃j,j<w/\(e i j).2-(e i j).1=p i)/\∀j,j<w->(e i j).2-(e i j).1<=p i:=⟨λi=>(O i).choose,λi=>(O i).choose_spec⟩
 refine gA.map (AE h) (λi=>D.lst (tab w λj=>e8 (e i j))) (λi=>.fz (.int (p i))) (by rw[CT];lia) (λi _ Q q=>?_) ?_
 .fin2;refine⟨tab w λj=>e i j,by rw[fm],by rw[bE];exact w0,by rw[bE];lia,λM hM hA=>?_⟩;have Ď:∀j,j<w->e i j∈tab w λj=>e i j:=λj J=>Bf.mpr ⟨j,BK.mpr J,rfl⟩
  obtain⟨⟨j,J,ej⟩,t⟩:=m i;have h1:=hA _ (Ď j J);obtain⟨s,hs,es⟩:=hM;obtain⟨j',T9,rfl⟩:=Bf.mp hs;have h2:=t j' (BK.mp T9);have:M=p i:=by lia
  rw[this];exact q
 fin2;refine⟨(AE h).map p,by simp only[A9,Bx,OV.val],by rw[Au,CT];exact h0,λM hM hA=>?_⟩;obtain⟨i,hi,rfl⟩:=Bf.mp hM;have hi:=BK.mp hi;refine k _ ⟨?_,λa b ha hb=>?_⟩
 .obtain ⟨⟨j,J,ej⟩,_⟩:=m i;exact⟨i,j,hi,J,ej⟩
 .have h1:=(m a).2 b hb;have h2:=hA _ (Bf.mpr ⟨a,BK.mpr ha,rfl⟩);lia
def dZ:dF:=λds P=>∃(h w L n:Nat) (fs:List Lf) (bs:List Bool) (c:Nat) (u:Wk) (W:Int),ds=[y7 h w L n fs,.int W,.str (dd bs),.int c]/\(∀f∈fs,f.Ok)/\(0<h/\h<=100/\0<w/\w<=100/\L<=6)/\n<=5000/\bs.length<=1000000/\c<=bs.length/\
 jm (Mc (h*w) n) (bs.take c) u/\kb (h*w:Nat) u/\∀M:Int,VS h w (eS h w L fs u) M->P (.fz (.bl (decide (M<=W))))
noncomputable abbrev gi:AZ:=top 86
theorem sM:aQ ["head","bits","breadth","fits"] ["head","bits","breadth"] (aB gi):=by walk_at "S"
noncomputable abbrev bW:AZ:=(a9 gi).getD 0 (.Pass ⟨0,0,0,0⟩)
theorem pO:iq ["head","breadth","bits","many"] ["head","breadth","bits"] ["many"] (aB bW):=⟨rfl,rfl,rfl,by decide +kernel,rfl,by decide +kernel,by decide +kernel,by decide +kernel⟩
theorem qZ:∀x∈(aB bW).names,x.2 = .free->(aB gi).names.lookup x.1=some .cell:=by decide +kernel
theorem jB {A:AU}{outer:List DU}{s:Af}{H:Hp}{E:XK}{f:Ac}{cd:Aa}{c:List (Al×Ac)}(e:c=dk (aB bW) (eH jh P w K mg base ["head","bits","breadth","fits"] "enough" (aB gi) f cd A outer s H E).kR.env):oz (eH jh P w K mg base ["head","bits","breadth","fits"] "enough" (aB gi) f cd A outer s H E).kR c [0,2,1]:=by rw[e];exact G2 (fs:=["head","breadth","bits"]) rfl (by decide +kernel) rfl (by decide +kernel)
theorem jZ {env:DU}{c:List (Al×Ac)}(e:c=dk (aB bW) env):c.map (·.1)=(["head","breadth","bits"]:List Al):=by rw[e];rfl
theorem qp (B:b9 mg)(KV:bZ K)(r:cg P w K mg base "broad" 8 ["head","bits","many"] (b7 K 3 jz)):
  n_ P w K mg base 9 "enough.<locals>.fits" bW ["head","breadth","bits"] (b7 K 4 dZ):=by
 refine ī.of pO (λ_ _ _ _ _ us hl=>match us,hl with | [_],_=>rfl) rfl (λA outer s H f cd l hf a=>⟨_,_,(aH (aX (eD wH (aZ r (a.mono (by decide)) (by rfl) (ae (pv 0) (ae (pv 2) (ae (pv 3) aD)))) (pv 1) (bJ _)))),
  (a_ (br (aP dq (aM (bX (aY (aA aE (aA aE (aA aE aJ)))))) aC))),?_⟩)
 rintro ds j ⟨h,w,L,n,fs,bs,c,u,W,rfl,ok,e,hn,hl,hc,F,S,k⟩;fin2;refine⟨h,w,L,n,fs,bs,c,u,rfl,ok,e,hn,hl,hc,F,S,λM g=>?_⟩;fin2;exact k M g
noncomputable def lst (g:Int->Bool):Nat->Int->Int->Int
 | 0,_,f=>f
 |n+1,b,f=>if b<f then (if g ((b+f) / 2)=true then lst g n b ((b+f) / 2) else lst g n ((b+f) / 2+1) f) else f
theorem lY (g:Int->Bool):∀(n m:Nat) (b f:Int),f-b<=n->f-b<=m->lst g n b f=lst g m b f
 | 0,0,_,_,_,_=>rfl
 | 0,m+1,b,f,h,_=>by rw[lst,lst,if_neg (by lia)]
 |n+1,0,b,f,_,h=>by rw[lst,lst,if_neg (by lia)]
 |n+1,m+1,b,f,h1,h2=>by
  rw[lst,lst];split
  .rw [lY g n m b ((b+f) / 2) (by lia) (by lia),lY g n m ((b+f) / 2+1) f (by lia) (by lia)]
  .rfl
theorem yR (g:Int->Bool):∀(n:Nat) (b f:Int),b<=f->f-b<=n->b<=lst g n b f/\lst g n b f<=f/\(lst g n b f=f∨g (lst g n b f)=true)/\(lst g n b f=b∨g (lst g n b f-1)=false)
 | 0,b,f,h,h1=>by rw[lst];exact⟨h,Ba _,.inl rfl,.inl (by lia)⟩
 |n + 1,b,f,h,h1=>by
  rw[lst];split
  .generalize k:(b+f) / 2=m;have M:b<=m:=by lia
   have j:m<f:=by lia
   split
   .rename_i hg;obtain⟨e,c,A,a⟩:=yR g n b m M (by lia);refine⟨e,by lia,.inr ?_,a⟩;rcases A with A |A
    .rw [A];exact hg
    .exact A
   .rename_i hg;obtain⟨e,c,A,a⟩:=yR g n (m+1) f (by lia) (by lia);refine⟨by lia,c,A,.inr ?_⟩;rcases a with a |a
    .rw [a,show m+1-1=m by lia];simpa using hg
    .exact a
  .exact ⟨h,Ba _,.inl rfl,.inl (by lia)⟩
def vX:dF:=λds P=>∃(lo hi:Int) (l:List (Al×Ac)) (c:List D) (g:Int->Bool),ds=[.int lo,.int hi,.oW "enough.<locals>.fits" bW l c]/\l.map (·.1)=(["head","breadth","bits"]:List Al)/\(l.map (·.2)).Nodup/\c.length=3/\D.jj c=true/\lo<=hi/\
 (∀m,lo<=m->m<hi->∀r:OV->Prop,r (.fz (.bl (g m)))->dZ (c++[.int m]) r)/\P (.fz (.int (lst g (hi-lo).toNat lo hi)))
noncomputable abbrev oI:AZ:=top 85
theorem dG:aQ ["low","high","good","below","found","middle"] ["low","high","good"] (aB oI):=by walk_at "S"
theorem Qr {f:Ac}{fd:Ak}(G:bL K mg "least" oI f fd)(B:b9 mg)(KV:bZ K)(e:n_ P w K mg base 9 "enough.<locals>.fits" bW ["head","breadth","bits"] (b7 K 4 dZ)):
  cg P w K mg base "least" 10 ["low","high","good"] (b7 K 3 vX):=by
 refine cZ.of G dG (by walk_at "b") rfl (λc A o s H E v=>⟨_,_,(aG (bp (i:=3) dG.nd rfl (Ar rfl) (pv 0))
   (aG (bp (i:=4) dG.nd rfl (Ar rfl) (pv 1))
   (aG (jT AG (bQ jX (pv 3) (pv 4) (bJ _)) (aG (bp (i:=5) dG.nd rfl (Ar rfl) (aV eZ (aV cq (pv 3) (pv 4)) aK))
   (aH (cu (cQ (Qh (pv 2) e (v.mono (by decide)) (ae (pv 5) aD))) (aH (bp (i:=4) dG.nd rfl (Ar rfl) (pv 5))) (aH (bp (i:=3) dG.nd rfl (Ar rfl) (aV cq (pv 5) aK)))))))
   (aH (aX (pv 4)))))),
  (aT (bB (br aE))
   (aT (bB (br aE))
   (aT (pT (bO (aP dq aC aC)) (aT (bB (br (aP cG (aM (aP bU aC aC)) (aM aF))))
   (cz (gk (bX (Pm (aA aE aJ)))) (bB (br aE)) (bB (br (aP bU aC (aM aF)))))))
   (a_ (br aE))))),?_⟩)
 rintro ds O ⟨lo,hi,u,t,g,rfl,hf,n,r,p,L,hg,k⟩;gn_on;gp_on;gn_on;gp_on;gn_on;have C:u.length=t.length:=by rw[r,<- Au (f:=(·.1)),hf];rfl
 refine⟨λm δ=>∃(b f:Int) (o:Option Sl),δ=[vI lo,vI hi,vD (.oW "enough.<locals>.fits" bW u t),vI b,vI f,o]/\lo<=b/\b<=f/\f<=hi/\lst g m b f=lst g (hi-lo).toNat lo hi/\f-b=m,⟨(hi-lo).toNat,lo,hi,none,rfl,Ba _,L,Ba _,rfl,by lia⟩,?_⟩;rintro m δ ⟨b,f,o,rfl,h1,h2,z,h,J⟩;fin2;by_cases a:b<f
 .rw [if_pos (by simpa using a)];refine⟨hf,by decide +kernel,n,C,p,by rw[AF,r];rfl,hg _ (by lia) (by lia) _ ⟨rfl,?_⟩⟩;fin2;obtain⟨m,rfl⟩:∃i,m=i+1:=⟨m-1,by lia⟩
  rw[lst,if_pos a]at h;have j:b<=(b+f) / 2:=by lia
  have l:(b+f) / 2<f:=by lia
  generalize (b+f) / 2=M at j l h
  cases q:g M with
  |true=>
   rw[q,if_pos rfl]at h;rw[if_pos rfl];exact⟨(M-b).toNat,by lia,b,M,_,rfl,h1,j,by lia,(lY g _ _ _ _ (by lia) (by lia)).trans h,by lia⟩
  |false=>
   rw[q,if_neg (by decide)]at h;rw[if_neg (by decide)];exact⟨(f-(M+1)).toNat,by lia,M+1,f,_,rfl,by lia,by lia,z,(lY g _ _ _ _ (by lia) (by lia)).trans h,by lia⟩
 .rw [if_neg (by simpa using a)];gp_on;fin2;rw[show m=0 by lia,lst]at h;rw[h];exact k
theorem TY (fs:List Lf):D.jj (fs.map xN)=true:=by
 rw[D.j4,List.all_map,Gx];intro f _;simp[xN,D.lf,D.jj]
def ĭ (h w L n:Nat)(fs:List Lf)(bs:List Bool)(B:Nat->Int):Prop:=∀c,c<=bs.length->∃u,jm (Mc (h*w) n) (bs.take c) u/\kb (h*w:Nat) u/\VS h w (eS h w L fs u) (B c)
noncomputable def Um (B:Nat->Int)(W:Int)(n:Nat):D:=if B n<=W then .int (lst (λm=>decide (B m.toNat<=W)) n 0 n) else .cB
theorem Xz (B:Nat->Int)(W:Int)(n:Nat):(W<B n/\Um B W n = .cB)∨(B n<=W/\∃k:Nat,Um B W n = .int k/\k<=n/\B k<=W/\(k=0∨W<B (k-1))):=by
 unfold Um;by_cases h:B n<=W
 .rw [if_pos h];refine .inr ⟨h,?_⟩;obtain⟨f,e,A,a⟩:=yR (λm=>decide (B m.toNat<=W)) n 0 n (by lia) (by lia);generalize lst (λm=>decide (B m.toNat<=W)) n 0 n=k at f e A a;obtain⟨k,rfl⟩:∃i:Nat,k=i:=⟨k.toNat,by lia⟩
  refine⟨k,rfl,by lia,?_,?_⟩
  .rcases A with A |A
   .rw [show k=n by lia];exact h
   .simpa using A
  .by_cases c:k=0
   .exact .inl c
   rcases a with a |a
   .exact .inl (by lia)
   .rw [show ((k:Int)-1).toNat=k-1 by lia]at a;exact .inr (by simpa using a)
 .rw [if_neg h];exact .inl ⟨by lia,rfl⟩
def sG:dF:=λds P=>∃(h w L n:Nat) (fs:List Lf) (bs:List Bool) (W:Int) (B:Nat->Int),ds=[y7 h w L n fs,.str (dd bs),.int W]/\(∀f∈fs,f.Ok)/\(0<h/\h<=100/\0<w/\w<=100/\L<=6)/\n<=5000/\bs.length<=1000000/\ĭ h w L n fs bs B/\P (.fz (Um B W bs.length))
theorem Ni {f c T:Ac}{fd:Ak}(O:bL K mg "enough" gi f fd)(hc:fd.code = .ref c)(J:PySem.W.CodeHd base c T)(p:base.BuiltinsAt mg T)(B:b9 mg)(KV:bZ K)(e:n_ P w K mg base 9 "enough.<locals>.fits" bW ["head","breadth","bits"] (b7 K 4 dZ))(a:cg P w K mg base "least" 10 ["low","high","good"] (b7 K 3 vX)):
  cg P w K mg base "enough" 11 ["head","bits","breadth"] (É K 3 T ⟨305,4,306,49⟩ "enough.<locals>.fits" sG):=by
 refine Ĭ.of O hc sM (sc:=aB bW) (by walk_at "b") rfl (λA outer s H E r F z C l=>⟨_,_,(aG (show PS _ bW (V9 3 T ⟨305,4,306,49⟩ "enough.<locals>.fits" bW C) from WG rfl J p (λok=>xo l ok qZ) sM.nd rfl (Ar rfl))
   (aG (cu (eu (cQ (Qi (pv 3) e (r.mono (by decide)) (jB _ _ _ l) (jZ l) (ae (aW dD (by rfl) B.len Bh (ae (pv 1) aD)) aD)))) (aH (aX qf)) bM)
   (aH (aX (Ll a (r.mono (by decide)) (by rfl) (jB _ _ _ l) (ae aK (ae (aW dD (by rfl) B.len Bh (ae (pv 1) aD)) (ae (pv 3) aD)))))))),
  (yn (Wl z)
   (yn (bY.x (cz (et (gk (bX (Po (aA (bT iY (aI aC aO)) aJ))))) (a_ (br pX)) bP))
   (bY.x (a_ (Pl (q := "enough.<locals>.fits") (st:=bW) (fs:=["head","breadth","bits"]) (jZ l) (aA aF (aA (bT iY (aI aC aO)) (aA aE aJ)))))))),?_⟩)
 clear l;rintro ds Pr ⟨h,w,L,n,fs,bs,W,B,rfl,ok,v,hn,hl,p,k⟩;have t:∀(c:Nat) (Q:OV->Prop),c<=bs.length->Q (.fz (.bl (decide (B c<=W))))->dZ [y7 h w L n fs,.int W,.str (dd bs),.int c] Q:=λc Q hc q=>by
  obtain⟨u,F,S,G⟩:=p c hc;exact⟨h,w,L,n,fs,bs,c,u,W,rfl,ok,v,hn,hl,hc,F,S,λM o=>by rw[xB o G];exact q⟩
 unfold Um at k;gn_on;gp_on;gn_on;rw[c0];refine⟨by lia,t _ _ (Ah _) ?_⟩;fin2;by_cases g:B bs.length<=W
 .rw [if_pos g]at k;rw[decide_eq_true g];show if (!true)=true then _ else _
  rw[if_neg (by decide)];gp_on;fin2;rw[c0];refine⟨by lia,λj hf=>⟨0,bs.length,C,_,λm=>decide (B m.toNat<=W),rfl,hf,j,rfl,by simp only[y7,eG,D.jj,D.lf,Fs,Cq];exact TY fs,by lia,λm U h1 Q q=>?_,rfl,?_⟩⟩
  .obtain ⟨m,rfl⟩:∃i:Nat,m=i:=⟨m.toNat,by lia⟩
   exact t m Q (by lia) q
  .rw [show ((bs.length:Int)-0).toNat=bs.length by lia];exact k
 .rw [if_neg g]at k;rw[decide_eq_false g];show if (!false)=true then _ else _
  rw[if_pos (by decide)];exact k
theorem yK (f:Nat->Int):∀n,0<n->∃M,(∃i,i<n/\f i=M)/\∀i,i<n->f i<=M
 | 0,h=>by lia
 | 1,_=>⟨f 0,⟨0,by lia,rfl⟩,λi hi=>by rw[show i=0 by lia];exact Ba _⟩
 |n + 2,_=>by
  obtain⟨M,⟨i,hi,e⟩,h⟩:=yK f (n+1) (by lia);by_cases a:f (n+1)<=M
  .exact ⟨M,⟨i,by lia,e⟩,λj J=>by
    by_cases z:j=n+1
    .rw [z];exact a
    .exact h j (by lia)⟩
  .exact ⟨f (n+1),⟨n+1,by lia,rfl⟩,λj J=>by
    by_cases z:j=n+1
    .rw [z];exact Ba _
    .have:=h j (by lia);lia⟩
theorem XI {h w:Nat}(n:0<h)(g:0<w)(e:Nat->Nat->fX):∃M,VS h w e M:=by
 have row:∀i,∃M,(∃j,j<w/\(e i j).2-(e i j).1=M)/\∀j,j<w->(e i j).2-(e i j).1<=M:=λi=>yK (λj=>(e i j).2-(e i j).1) w g
 obtain⟨R,f⟩:=GZ.mp row;obtain⟨M,⟨i,hi,rfl⟩,m⟩:=yK R h n;obtain⟨⟨j,l,o⟩,_⟩:=f i;exact⟨R i,⟨i,j,hi,l,o⟩,λc k a J=>Int.le_trans ((f c).2 k J) (m c a)⟩
theorem XH {h w L n:Nat}{fs:List Lf}{bs:List Bool}(g:0<h)(a:0<w)(H:∀c,c<=bs.length->∃u,jm (Mc (h*w) n) (bs.take c) u/\kb (h*w:Nat) u):∃B,ĭ h w L n fs bs B:=by
 have ex:∀c:Nat,∃M:Int,c<=bs.length->∃u,jm (Mc (h*w) n) (bs.take c) u/\kb (h*w:Nat) u/\VS h w (eS h w L fs u) M:=λc=>by
  by_cases hc:c<=bs.length
  .obtain ⟨u,F,S⟩:=H c hc;obtain⟨M,e⟩:=XI g a (eS h w L fs u);exact⟨M,λ_=>⟨u,F,S,e⟩⟩
  .exact ⟨0,λz=>absurd z hc⟩
 obtain⟨B,f⟩:=GZ.mp ex;exact⟨B,f⟩
structure Rn where
 b:Int
 i:Nat
 s:Nat
 e:Nat
noncomputable def gr (f:Nat->Int)(v:Int)(s:Nat):Nat->Nat
 | 0=>0
 |n+1=>gr f v s n+if v<f (s+n) then 1 else 0
theorem tz (f:Nat->Int)(v:Int)(s:Nat):∀n,gr f v s n<=n
 | 0=>Ah _
 |n+1=>by
  have:=tz f v s n;unfold gr;split<;>lia
theorem j6 (f:Nat->Int)(v:Int)(s m:Nat):∀n,gr f v s (m+n)=gr f v s m+gr f v (s+m) n
 | 0=>rfl
 |n+1=>by
  show gr f v s (m+n)+(if v<f (s+(m+n)) then 1 else 0)=gr f v s m+(gr f v (s+m) n+if v<f (s+m+n) then 1 else 0)
  rw[j6 f v s m n,Nat.add_assoc s m n];lia
theorem m8 {f:Nat->Int}{v:Int}{s:Nat}:∀{n},(∀k<n,v<f (s+k))->gr f v s n=n
 | 0,_=>rfl
 |n+1,h=>by
  unfold gr;rw[m8 λk a=>h k (by lia),if_pos (h n (by lia))]
theorem kn {f:Nat->Int}{v:Int}{s:Nat}:∀{n},(∀k<n,f (s+k)<=v)->gr f v s n=0
 | 0,_=>rfl
 |n+1,h=>by
  unfold gr;rw[kn λk a=>h k (by lia),if_neg (by have:=h n (by lia);lia)]
noncomputable def md (s e:Nat):Nat:=(s+e) / 2
theorem qz {s e:Nat}(h:s<e):s<=md s e/\md s e<e:=by
 unfold md;lia
theorem YX (s:Nat):md s s=s:=by
 unfold md;lia
noncomputable def fg (g:Rn->Nat):List Rn->Nat
 | []=>0
 |r::rs=>g r+fg g rs
theorem ia (g:Rn->Nat):∀xs ys,fg g (xs++ys)=fg g xs+fg g ys
 | [],ys=>by simp[fg]
 |x::xs,ys=>by
  show g x+fg g (xs++ys)=g x+fg g xs+fg g ys
  rw[ia g xs ys];lia
theorem oN {g h:Rn->Nat}:∀{xs},(∀r∈xs,g r<=h r)->fg g xs<=fg h xs
 | [],_=>Ah _
 |x::xs,a=>by
  have h1:=a x Az;have h2:=oN (xs:=xs) λr c=>a r (Aw _ c)
  show g x+fg g xs<=h x+fg h xs
  lia
theorem p7:∀xs:List Rn,fg (λ_=>1) xs=xs.length
 | []=>rfl
 |x::xs=>by
  show 1+fg (λ_=>1) xs=xs.length+1
  rw[p7 xs];lia
theorem p8 (g h:Rn->Nat):∀xs,fg (λr=>g r+h r) xs=fg g xs+fg h xs
 | []=>rfl
 |x::xs=>by
  show g x+h x+fg (λr=>g r+h r) xs=g x+fg g xs+(h x+fg h xs)
  rw[p8 g h xs];lia
noncomputable abbrev rG (a:Nat->Nat->Int)(v:Int)(rs:List Rn):Nat:=fg (λr=>gr (a r.i) v r.s (r.e-r.s)) rs
noncomputable abbrev rN (rs:List Rn):Nat:=fg (λr=>r.e-r.s) rs
noncomputable abbrev rF (rs:List Rn):Nat:=fg (λr=>md r.s r.e-r.s) rs
noncomputable def rP (b:Int):List Rn->Nat
 | []=>0
 |x::xs=>if x.b<=b then rP b xs+1 else 0
noncomputable def la (r:Rn):List Rn->List Rn
 | []=>[r]
 |x::xs=>if x.b<=r.b then x::la r xs else r::x::xs
theorem Lg (r:Rn):∀rs,la r rs=rs.take (rP r.b rs)++r::rs.drop (rP r.b rs)
 | []=>rfl
 |x::xs=>by
  unfold la rP;split
  .rw [Lg r xs];rfl
  .rfl
theorem U9 (b:Int):∀rs,rP b rs<=rs.length
 | []=>Ah _
 |x::xs=>by
  have:=U9 b xs;unfold rP;rw[AR];split<;>lia
noncomputable def hQ (a:Nat->Nat->Int)(i s e:Nat)(rs:List Rn):List Rn:=if s=e then rs else la ⟨a i (md s e),i,s,e⟩ rs
theorem lS (g:Rn->Nat)(r:Rn):∀rs,fg g (la r rs)=g r+fg g rs
 | []=>rfl
 |x :: xs=>by
  unfold la;split
  .show g x+fg g (la r xs)=g r+(g x+fg g xs)
   rw[lS g r xs];lia
  .rfl
theorem jS {r y:Rn}:∀{rs:List Rn},y∈la r rs->y=r∨y∈rs
 | [],h=>.inl (A3.mp h)
 |x :: xs,h=>by
  unfold la at h;split at h
  .rcases AJ.mp h with z |z
   .exact .inr (z▸Az)
   .rcases jS z with z |z
    .exact .inl z
    .exact .inr (Aw _ z)
  .rcases AJ.mp h with z |z
   .exact .inl z
   .exact .inr z
abbrev YG (rs:List Rn):Prop:=rs.Pairwise λx y=>x.b<=y.b
theorem Le {r:Rn}:∀{rs:List Rn},YG rs->YG (la r rs)
 | [],_=>List.pairwise_singleton _ _
 |x :: xs,h=>by
  obtain⟨h1,h2⟩:=DP.mp h;unfold la;split
  .rename_i c;refine DP.mpr ⟨λy a=>?_,Le h2⟩;rcases jS a with z |z
   .rw [z];exact c
   .exact h1 y z
  .rename_i c;refine DP.mpr ⟨λy a=>?_,h⟩;rcases AJ.mp a with z |z
   .rw [z];lia
   .have:=h1 y z;lia
theorem U_ {b:Int}:∀{rs:List Rn} {k:Nat},k<=rs.length->(∀j r,j<k->rs[j]?=some r->r.b<=b)->(∀r,rs[k]?=some r->b<r.b)->k=rP b rs
 | [],k,h,_,_=>by
  rw[Dh]at h;unfold rP;lia
 |x::xs,0,_,_,a=>by
  have:=a x rfl;unfold rP;rw[if_neg (by lia)]
 |x::xs,k+1,h1,h2,a=>by
  have:=h2 0 x (by lia) rfl;unfold rP;rw[if_pos this,<- U_ (k:=k) (by rw[AR]at h1;lia) (λj r J c=>h2 (j+1) r (by lia) c) a]
structure UI (a:Nat->Nat->Int) (L:Nat->Nat) (rs:List Rn):Prop where
 ok:∀r∈rs,r.s<r.e/\r.e<=L r.i+1/\r.b=a r.i (md r.s r.e)
 so:YG rs
section
variable {a:Nat->Nat->Int}{L:Nat->Nat}{i s e:Nat}{rs:List Rn}{v:Int}
theorem uK (h:UI a L rs)(h1:s<=e)(h2:e<=L i+1):UI a L (hQ a i s e rs):=by
 unfold hQ;split
 .exact h
 .refine ⟨λr c=>?_,Le h.so⟩;rcases jS c with z |z
  .rw [z];exact⟨by show s<e;lia,h2,rfl⟩
  .exact h.ok r z
theorem p9 (h1:s<=e):rN (hQ a i s e rs)=(e-s)+rN rs:=by
 unfold hQ;split
 .rename_i z;rw[z];show _=e-e+_;rw[EX,FJ]
 .exact lS _ _ _
theorem yu (h1:s<=e):rF (hQ a i s e rs)=(md s e-s)+rF rs:=by
 unfold hQ;split
 .rename_i z;rw[z];show _=md e e-e+_;rw[YX,EX,FJ]
 .exact lS _ _ _
theorem yt (h1:s<=e):rG a v (hQ a i s e rs)=gr (a i) v s (e-s)+rG a v rs:=by
 unfold hQ;split
 .rename_i z;rw[z,EX];exact (FJ _).symm
 .exact lS _ _ _
end
def sj (a:Nat->Nat->Int)(L:Nat->Nat):Prop:=∀i m n,m<=n->n<=L i->a i n<=a i m
structure tW (a:Nat->Nat->Int) (L:Nat->Nat) (T:Int->Prop) (rs:List Rn) (R:Nat):Prop where
 ok:UI a L rs
 zg:R<rN rs
 tell:∀v,rG a v rs<=R↔T v
section
variable {a:Nat->Nat->Int}{L:Nat->Nat}{T:Int->Prop}{rs:List Rn}{R:Nat}{r:Rn}
theorem LJ (F:sj a L)(h:r.s<r.e/\r.e<=L r.i+1/\r.b=a r.i (md r.s r.e)){v:Int}(c:v<r.b):gr (a r.i) v r.s (md r.s r.e-r.s+1)=md r.s r.e-r.s+1:=by
 have m:=qz h.1;refine m8 λk f=>?_
 have:=F r.i (r.s+k) (md r.s r.e) (by lia) (by lia);rw[<- h.2.2]at this;lia
theorem T_ (F:sj a L)(h:r.s<r.e/\r.e<=L r.i+1/\r.b=a r.i (md r.s r.e)){v:Int}(c:r.b<=v):gr (a r.i) v (md r.s r.e) (r.e-md r.s r.e)=0:=by
 have m:=qz h.1;refine kn λk f=>?_
 have:=F r.i (md r.s r.e) (md r.s r.e+k) (by lia) (by lia);rw[<- h.2.2]at this;lia
theorem PQ (F:sj a L)(h:r.s<r.e/\r.e<=L r.i+1/\r.b=a r.i (md r.s r.e)){v:Int}(c:v<r.b):md r.s r.e-r.s+1<=gr (a r.i) v r.s (r.e-r.s):=by
 have m:=qz h.1;have:=LJ F h c;rw[show r.e-r.s=(md r.s r.e-r.s+1)+(r.e-(md r.s r.e+1)) by lia,j6,this];lia
theorem yq (F:sj a L)(h:r.s<r.e/\r.e<=L r.i+1/\r.b=a r.i (md r.s r.e)){v:Int}(c:r.b<=v):gr (a r.i) v r.s (r.e-r.s)=gr (a r.i) v r.s (md r.s r.e-r.s):=by
 have m:=qz h.1;rw[show r.e-r.s=(md r.s r.e-r.s)+(r.e-md r.s r.e) by lia,j6,show r.s+(md r.s r.e-r.s)=md r.s r.e by lia,T_ F h c];lia
theorem XT (F:sj a L){v:Int}:∀{rs:List Rn},(∀r∈rs,r.s<r.e/\r.e<=L r.i+1/\r.b=a r.i (md r.s r.e))->(∀r∈rs,v<r.b)->rF rs+rs.length<=rG a v rs:=by
 intro rs h f;rw[<- p7 rs,<- p8];exact oN λr c=>PQ F (h r c) (f r c)
theorem XU (F:sj a L){v:Int}:∀{rs:List Rn},(∀r∈rs,r.s<r.e/\r.e<=L r.i+1/\r.b=a r.i (md r.s r.e))->(∀r∈rs,r.b<=v)->rG a v rs<=rF rs:=by
 intro rs h f;exact oN λr c=>by rw[yq F (h r c) (f r c)];exact tz _ _ _ _
theorem M4 (F:sj a L)(I:tW a L T (r::rs) R)(h:R<rF (r::rs)+rs.length):tW a L T (hQ a r.i r.s (md r.s r.e) rs) R:=by
 have f:=I.ok.ok r Az;have M:=qz f.1;have ht:∀x∈rs,x.s<x.e/\x.e<=L x.i+1/\x.b=a x.i (md x.s x.e):=λx c=>I.ok.ok x (Aw _ c)
 obtain⟨j,g⟩:=DP.mp I.ok.so;have eF:rF (r::rs)=md r.s r.e-r.s+rF rs:=rfl;have hN:rF rs+rs.length<=rN rs:=by
  rw[<- p7 rs,<- p8];exact oN λx c=>by have:=(ht x c).1;have:=qz this;lia
 refine⟨uK ⟨ht,g⟩ (by lia) (by lia),?_,λv=>?_⟩
 .rw [p9 (by lia)];lia
 .rw [yt (by lia),<- I.tell v];have G:rG a v (r::rs)=gr (a r.i) v r.s (r.e-r.s)+rG a v rs:=rfl;by_cases l:r.b<=v
  .rw [G,yq F f l]
  .have o:=XT (v:=v) F ht λx c=>by have:=j x c;lia
   have n:=PQ F f (v:=v) (by lia);have m:gr (a r.i) v r.s (md r.s r.e-r.s)=md r.s r.e-r.s:=by
    refine m8 λk p=>?_
    have:=F r.i (r.s+k) (md r.s r.e) (by lia) (by lia);rw[<- f.2.2]at this;lia
   constructor
   .intro z;lia
   .intro z;lia
theorem PV (F:sj a L)(I:tW a L T (rs++[r]) R)(h2:rs≠[])(h:rF (rs++[r])+rs.length<=R):md r.s r.e+1-r.s<=R/\tW a L T (hQ a r.i (md r.s r.e+1) r.e rs) (R-(md r.s r.e+1-r.s)):=by
 have f:=I.ok.ok r (by simp);have M:=qz f.1;have ht:∀x∈rs,x.s<x.e/\x.e<=L x.i+1/\x.b=a x.i (md x.s x.e):=λx c=>I.ok.ok x (by simp[c])
 obtain⟨m,_,j⟩:=EY.mp I.ok.so;have g:∀x∈rs,x.b<=r.b:=λx c=>j x c r (by simp)
 have hl:1<=rs.length:=by
  cases rs with
  |nil=>exact absurd rfl h2
  |cons x xs=>rw[AR];lia
 have eF:rF (rs++[r])=rF rs+(md r.s r.e-r.s):=by rw[rF,ia];rfl
 have A:rN (rs++[r])=rN rs+(r.e-r.s):=by rw[rN,ia];rfl
 have hf:=I.zg;refine⟨by lia,uK ⟨ht,m⟩ (by lia) (by lia),?_,λv=>?_⟩
 .rw [p9 (by lia)];lia
 .rw [yt (by lia),<- I.tell v];have G:rG a v (rs++[r])=rG a v rs+gr (a r.i) v r.s (r.e-r.s):=by rw[rG,ia];rfl
  by_cases o:v<r.b
  .have l:=LJ F f o;have p:gr (a r.i) v r.s (r.e-r.s)=(md r.s r.e-r.s+1)+gr (a r.i) v (md r.s r.e+1) (r.e-(md r.s r.e+1)):=by
    rw[show r.e-r.s=(md r.s r.e-r.s+1)+(r.e-(md r.s r.e+1)) by lia,j6,l,show r.s+(md r.s r.e-r.s+1)=md r.s r.e+1 by lia]
   rw[G,p];constructor
   .intro z;lia
   .intro z;lia
  .have t:=XU (v:=v) F ht λx c=>by have:=g x c;lia
   have l:=yq F f (v:=v) (by lia);have q:=tz (a r.i) v r.s (md r.s r.e-r.s);have n:gr (a r.i) v (md r.s r.e+1) (r.e-(md r.s r.e+1))=0:=by
    refine kn λk u=>?_
    have:=F r.i (md r.s r.e) (md r.s r.e+1+k) (by lia) (by lia);rw[<- f.2.2]at this;lia
   rw[n];constructor
   .intro z;rw[G,l];lia
   .intro z;lia
theorem Wx (F:sj a L)(I:tW a L T [r] R):r.s+R<=L r.i/\T (a r.i (r.s+R))/\∀v,v<a r.i (r.s+R)->¬ T v:=by
 have g:=I.ok.ok r Az;have hf:R<r.e-r.s+0:=I.zg;have G:∀v,rG a v [r]=gr (a r.i) v r.s (r.e-r.s):=λv=>rfl
 refine⟨by lia,(I.tell _).mp ?_,λv f z=>?_⟩
 .rw [G,show r.e-r.s=R+(r.e-r.s-R) by lia,j6,kn (s:=r.s+R) λk h=>F r.i (r.s+R) (r.s+R+k) (by lia) (by lia)];exact tz _ _ _ _
 .have c:=(I.tell v).mpr z;rw[G,show r.e-r.s=(R+1)+(r.e-r.s-(R+1)) by lia,j6,m8 λk h=>?_]at c
  .lia
  .have:=F r.i (r.s+k) (r.s+R) (by lia) (by lia);lia
end
theorem x_ {h w L:Nat}{e:Nat->Nat->Int}{fs:List Lf}(ok:∀f∈fs,f.Ok){v:Wk}(S:kb ((h*w:Nat):Int) v)(C:de (gx h w e fs L) v)(a:v.pl<0){i j:Nat}(hi:i<h)(J:j<w):eS h w L fs v i j=(e i j,e i j):=by
 have u:∀(k:Nat) (r:List Int),(b_ fs (2^k:Nat) r).length=r.length:=λk r=>by rw[Lb,ij]
 have B:∀(k:Nat) (r:List Int),hU fs (2^k:Nat) (b_ fs (2^k:Nat) r)=r:=λk r=>nR (by exact_mod_cast Fb (by decide)) r λf hf=>(ok f hf).h
 have o:=wG (z:=(0:Int)) (h:=h) (w:=w) (up:=λk=>b_ fs (2^k:Nat)) (dn:=λk=>hU fs (2^k:Nat)) u B L 0 e (Br _);rw[O5 ok wN S C a hi J];have q:ro h w (λi j=>(gx h w e fs L).getD (ec h w L i j) 0) (ou 0 (λk=>b_ fs (2^k:Nat)) h w L e):=λi j hi J=>by
  show (gx h w e fs L).getD (ec h w L i j) 0=_
  rw[Aj,gx,AH,qb hi J];rfl
 have:=((mQ (z:=(0:Int)) (op:=λk=>hU fs (2^k:Nat)) L 0 q).trans o) i j hi J;rw[this];rfl
structure At (h w L n:Nat) (e:Nat->Nat->Int) (fs:List Lf) (bs:List Bool) (c:Nat) (u:Wk):Prop where
 f:jm (Mc (h*w) n) (bs.take c) u
 s:kb ((h*w:Nat):Int) u
 us:u.us=c
 wh:decide (u.pl<0)=decide (c=bs.length)
 p5:u.pl<=5000
 re:(u.re.length:Int)+u.pl<800000
 val:∀i j,i<h->j<w->(eS h w L fs u i j).1<=e i j/\e i j<=(eS h w L fs u i j).2
theorem ZQ {h w L n:Nat}{e:Nat->Nat->Int}{fs:List Lf}{bs:List Bool}{v:Wk}(ok:∀f∈fs,f.Ok)(k:0<h*w)(B:h*w<=400)(hn:n<=5000)(F:jm (Mc (h*w) n) bs v)(S:kb ((h*w:Nat):Int) v)(l:v.pl<0)(U:v.us=bs.length)(a:∀i j,i<h->j<w->eS h w L fs v i j=(e i j,e i j)){c:Nat}(hc:c<=bs.length):
  ∃u,At h w L n e fs bs c u:=by
 obtain⟨z,q,Q,_⟩:(Mc (h*w) n).pl=(n:Int)-1/\(Mc (h*w) n).re=[]/\(Mc (h*w) n).us=0/\_:=nv (h*w) n;have g:=nu (m:=((h*w:Nat):Int)) (by omega) n;obtain⟨u,t,A,r,M,G,p,C,o⟩:=Ur (m:=h*w) k (by omega) F g (by omega) (by rw[q,Dh];omega) Q hc;refine⟨u,t,A,by omega,?_,by omega,by rw[q,Dh]at o;omega,λi j hi J=>?_⟩
 .rw [p,decide_eq_true l,Cq];exact decide_eq_decide.mpr (by omega)
 .have:=J' (L:=L) ok k rfl r A S hi J;rw[a i j hi J]at this;exact⟨this.1,this.2.2⟩
theorem UB {h w L n:Nat}{e:Nat->Nat->Int}{fs:List Lf}{bs:List Bool}{c d:Nat}{u U:Wk}(ok:∀f∈fs,f.Ok)(a:0<h*w)(g:h*w<=400)(A:At h w L n e fs bs c u)(B:At h w L n e fs bs d U)(C:c<=d):
  jm u ((bs.take d).drop c) U/\∀i j,i<h->j<w->Q_ (eS h w L fs u i j) (eS h w L fs U i j):=by
 have M:=RF (m:=h*w) a (by omega) C A.f A.s A.p5 A.re B.f;exact⟨M,λi j hi J=>J' ok a rfl M A.s B.s hi J⟩
structure dX where
 h:Nat
 w:Nat
 L:Nat
 n:Nat
 fs:List Lf
 bs:List Bool
 B:Nat->Int
noncomputable def dX.d (x:dX):D:=.tup [y7 x.h x.w x.L x.n x.fs,.str (dd x.bs)]
structure dX.Ok (x:dX):Prop where
 ok:∀f∈x.fs,f.Ok
 hw:0<x.h/\x.h<=100/\0<x.w/\x.w<=100/\x.L<=6
 n:x.n<=5000
 l:x.bs.length<=1000000
 b:ĭ x.h x.w x.L x.n x.fs x.bs x.B
 Ul:∀m n,m<=n->n<=x.bs.length->x.B n<=x.B m
 zero:x.B x.bs.length=0
 wh:∃v,jm (Mc (x.h*x.w) x.n) x.bs v/\v.pl<0/\v.us=x.bs.length
 l9:x.bs.length<=900000
 cut:∀c,c<x.bs.length->∃u,jm (Mc (x.h*x.w) x.n) (x.bs.take c) u/\0<=u.pl
noncomputable def bN:List Al:=["streams","rest","runs","firsts"]
noncomputable def sR (r:Rn):D:=.tup [.int r.b,.int r.i,.int r.s,.int r.e]
noncomputable def oF (xs:List dX)(R:Int)(rs:List Rn)(f:Int):List OV:=[.fz (.lst (xs.map dX.d)),.fz (.int R),.nl ((rs.map sR).map .fz),.fz (.int f)]
noncomputable def Ss:dX:=⟨0,0,0,0,[],[],λ_=>0⟩
noncomputable abbrev oE (xs:List dX)(i m:Nat):Int:=(xs.getD i Ss).B m
noncomputable abbrev sC (xs:List dX)(i:Nat):Nat:=(xs.getD i Ss).bs.length
theorem RQ {x:dX}(o:x.Ok){c:Nat}{Q:OV->Prop}(hc:c<=x.bs.length)(q:Q (.fz (.int (x.B c)))):jz [y7 x.h x.w x.L x.n x.fs,.str (dd x.bs),.int c] Q:=by
 obtain⟨u,F,S,e⟩:=o.b c hc;exact⟨x.h,x.w,x.L,x.n,x.fs,x.bs,c,u,rfl,o.ok,o.hw,o.n,o.l,hc,F,S,λM a=>by rw[xB a e];exact q⟩
theorem lr {xs:List dX}{i:Nat}{x:dX}(h:xs[i]?=some x):kI (xs.map dX.d) (i:Int)=some x.d:=dg (by rw[AH,h];rfl)
def fP:dF:=λds P=>∃s e:Nat,ds=[.int s,.int e]/\s<=2000000/\e<=2000000/\P (.fz (.int (md s e:Nat)))
def c5:dF:=λds P=>∃(xs:List dX) (R f:Int) (rs:List Rn) (i m:Nat) (x:dX),ds=[.obj "Search" bN (OV.vals (oF xs R rs f)),.int i,.int m]/\xs[i]?=some x/\x.Ok/\m<=x.bs.length/\P (.fz (.int (x.B m)))
def gW:o9:=λts ds P=>∃(xs:List dX) (R f:Int) (rs:List Rn) (i s e:Nat) (x:dX),ts=oF xs R rs f/\ds=[.int i,.int s,.int e]/\xs[i]?=some x/\x.Ok/\s<=e/\e<=x.bs.length+1/\rs.length<1000/\YG rs/\P (oF xs R (hQ (oE xs) i s e rs) (f+(md s e-s:Nat)))
structure RX (xs:List dX) (T:Int->Prop) (rs:List Rn) (R:Nat):Prop where
 inv:tW (oE xs) (sC xs) T rs R
 at_:∀r∈rs,r.i<xs.length
 zg:rs.length<=100
def vz (xs:List dX):Prop:=(∀x∈xs,x.Ok)/\xs.length<=100
def h7:o9:=λts ds P=>∃(xs:List dX) (T:Int->Prop) (rs:List Rn) (R:Nat),ts=oF xs R rs (rF rs:Nat)/\ds=[]/\vz xs/\RX xs T rs R/\2<=rs.length/\∀(r:List Rn) (a:Nat),RX xs T r a->rN r<rN rs->P (oF xs a r (rF r:Nat))
def i9:ZZ:=λts ds P=>∃(xs:List dX) (T:Int->Prop) (rs:List Rn) (R:Nat),ts=oF xs R rs (rF rs:Nat)/\ds=[]/\vz xs/\RX xs T rs R/\∀v:Int,T v->(∀u,u<v->¬ T u)->P (.int v)
noncomputable def LL (xs:List dX)(v:Int):Nat->Nat
 | 0=>0
 |k+1=>LL xs v k+gr (oE xs k) v 0 (sC xs k+1)
noncomputable def kD (xs:List dX):Nat->Nat
 | 0=>0
 |k+1=>kD xs k+sC xs k
def f9:o9:=λts ds P=>∃(xs:List dX) (t:Nat),ts=[]/\ds=[.lst (xs.map dX.d),.int t]/\vz xs/\1<=xs.length/\∀rs:List Rn,RX xs (λv=>LL xs v xs.length<=min t (kD xs xs.length)) rs (min t (kD xs xs.length))->P (oF xs (min t (kD xs xs.length):Nat) rs (rF rs:Nat))
def Yx (R:DS):DS:=λc δ=>∃(o:Option Ac) (xs:List dX) (a f:Int) (rs:List Rn) (i s e:Nat) (x:dX),δ=[some (.own (.ob o "Search" bN (oF xs a rs f))),vI i,vI s,vI e,none,none,none,none]/\xs[i]?=some x/\x.Ok/\s<e/\e<=x.bs.length+1/\rs.length<1000/\YG rs/\
 R c [some (.own (.ob o "Search" bN (oF xs a (la ⟨x.B (md s e),i,s,e⟩ rs) f))),vI i,vI s,vI e,none,vI (md s e:Nat),vI (x.B (md s e)),vI (rP (x.B (md s e)) rs:Nat)]
theorem en {xs:List dX}{i:Nat}{x:dX}(h:xs[i]?=some x):xs.getD i Ss=x:=by rw[Aj,h];rfl
theorem p_ (r:Rn):∀rs,(la r rs).length=rs.length+1
 | []=>rfl
 |x::xs=>by
  unfold la;split
  .rw [AR,p_ r xs,AR]
  .rfl
theorem wt {a:Nat->Nat->Int}{i s e:Nat}{rs:List Rn}{r:Rn}(h:r∈hQ a i s e rs):r=⟨a i (md s e),i,s,e⟩∨r∈rs:=by
 unfold hQ at h;split at h
 .exact .inr h
 .exact jS h
theorem wu {a:Nat->Nat->Int}{i s e:Nat}{rs:List Rn}:(hQ a i s e rs).length<=rs.length+1:=by
 unfold hQ;split
 .lia
 .rw [p_];lia
theorem w9 (xs:List dX):∀k,k<=xs.length->((xs.take k).map λx:dX=>(x.bs.length:Int)).sum=kD xs k
 | 0,_=>rfl
 |k+1,h=>by
  rw[AO (by lia),A_,Ex,w9 xs k (by lia)];show (kD xs k:Int)+(((xs[k]).bs.length:Int)+0)=((kD xs k+sC xs k:Nat):Int)
  rw[sC,en (Ad (show k<xs.length by lia))];lia
theorem uJ (rs:List Rn):OV.val (.nl ((rs.map sR).map .fz)) = .lst (rs.map sR):=by
 show D.lst (OV.vals _)=_
 rw[LP]
theorem zF {xs:List dX}(h:vz xs):sj (oE xs) (sC xs):=λi m n M hn=>by
 cases q:xs[i]? with
 |none=>rw[sC,Aj,q]at hn;rw[oE,oE,Aj,q];exact Ba _
 |some x=>
  rw[sC,en q]at hn;rw[oE,oE,en q];exact (h.1 x (Ai q)).Ul m n M hn
noncomputable abbrev jI:AZ:=top 95
theorem uo:aQ ["start","end"] ["start","end"] (aB jI):=by walk_at "S"
noncomputable abbrev gh:AZ:=top 94
theorem i_:aQ ["stream","walk"] ["stream"] (aB gh):=by walk_at "S"
noncomputable abbrev dP:AZ:=dA (top 96) 0
theorem gb:aQ ["self","streams","total","at"] ["self","streams","total"] (aB dP):=by walk_at "S"
noncomputable abbrev eo:AZ:=dA (top 96) 1
theorem jF:aQ ["self","at","many"] ["self","at","many"] (aB eo):=by walk_at "S"
noncomputable abbrev dw:AZ:=dA (top 96) 2
theorem ew:aQ ["self","at","start","end","runs","middle","breadth","place"] ["self","at","start","end"] (aB dw):=by walk_at "S"
noncomputable abbrev fD:AZ:=dA (top 96) 3
theorem d9:aQ ["self","behind","run","middle"] ["self"] (aB fD):=by walk_at "S"
noncomputable abbrev gj:AZ:=dA (top 96) 4
theorem i':aQ ["self","run"] ["self"] (aB gj):=by walk_at "S"
noncomputable abbrev oH:AZ:=top 97
theorem pK:aQ ["streams","total","stream","breadth"] ["streams","total"] (aB oH):=by walk_at "S"
theorem uU {f:Ac}{fd:Ak}(a:bL K mg "middle_of" jI f fd)(B:b9 mg)(KV:bZ K):
  cg P w K mg base "middle_of" 1 ["start","end"] (b7 K 2 fP):=by
 refine cZ.of a uo (by walk_at "b") rfl (λc A o s H E r=>⟨_,_,(aH (aX (aV eZ (aV cq (pv 0) (pv 1)) aK))),
  (a_ (br (aP cG (aM (aP bU aC aC)) (aM aF)))),?_⟩)
 rintro ds j ⟨s,e,rfl,h,g,k⟩;fin2;exact k
theorem jY {f:Ac}{fd:Ak}(e:e7 K "Search" "breadth_at" "Search.breadth_at" eo f fd)(B:b9 mg)(KV:bZ K)(C:dE K "Search" bN)(g:∃t,mg "HEAD"=some (.int 0 t))(T:∃t,mg "BITS"=some (.int 1 t))(r:cg P w K mg base "broad" 8 ["head","bits","many"] (b7 K 3 jz)):
  cS P w K mg base "Search" "breadth_at" 9 ["self","at","many"] (b7 K 3 c5):=by
 refine UL.of e jF (by walk_at "b") rfl (λc A o s H E a=>⟨_,_,(aH (aX (aZ r (a.mono (by decide)) (by rfl) (ae (aR aS (aR bK (ck (pv 0) rfl) (pv 1) (λ_ _=>rfl)) (aN (by rfl) g) (λ_ _=>rfl)) (ae (aR aS (aR bK (ck (pv 0) rfl) (pv 1) (λ_ _=>rfl)) (aN (by rfl) T) (λ_ _=>rfl)) (ae (pv 2) aD)))))),
  (a_ (eV (aI (bx (dm.b aU) (bx (dm.b cn) (cV (j:=0) C (by rfl) aC) aC) (aM aF)) (aI (bx (dm.b aU) (bx (dm.b cn) (cV (j:=0) C (by rfl) aC) aC) (aM aF)) (aI aC aO))))),?_⟩)
 rintro ds l ⟨xs,R,f,rs,i,m,x,rfl,h,o,M,k⟩;fin2;exact⟨_,rfl,_,lr h,_,rfl,_,rfl,_,lr h,_,rfl,RQ o M ⟨rfl,k⟩⟩
abbrev L6 (T T':Ac):Hp->Prop:=λF=>F T=some (.kG ⟨305,4,306,49⟩ "enough.<locals>.fits")/\F T'=some (.kG ⟨342,36,342,90⟩ "Search.put.<locals>.<lambda>")
theorem i0 {T T':Ac}:rm (L6 T T'):=λ_ _ s h=>⟨s _ _ h.1,s _ _ h.2⟩
noncomputable def Y0:AZ->Expr
 | .Assign _ (.Call _ [_,_,l] _ _) _=>l
 |_=>.Name "" ⟨0,0,0,0⟩
noncomputable def qJ:Expr->Cp
 | .Lambda a _ _ _=>a
 |_=>bS (.Pass ⟨0,0,0,0⟩)
noncomputable def tq:Expr->Expr
 | .Lambda _ b _ _=>b
 |e=>e
noncomputable def j5:Expr->BG
 | .Lambda _ _ s _=>s
 |_=>aB (.Pass ⟨0,0,0,0⟩)
noncomputable abbrev fH:Expr:=Y0 ((a9 dw).getD 4 (.Pass ⟨0,0,0,0⟩))
noncomputable abbrev Nw:Al := "Search.put.<locals>.<lambda>"
theorem We:iq ["runs","breadth","k"] ["runs","breadth"] ["k"] (aB (Q0 (qJ fH) (j5 fH))):=⟨rfl,rfl,rfl,by decide +kernel,rfl,by decide +kernel,by decide +kernel,by decide +kernel⟩
def z9 (K:Ap):Sp:=Sw 3 λvs H Q=>∃(l:Ac) (c:List V) (b k:Int),vs=[.ref l,.int b,.int k]/\H l=some (.lst c)/\(k=c.length->Q (.bl true) H)/\(k≠c.length->∃(i:Nat) (a:Ac) (y:Int) (r:List V),k=i/\c[i]?=some (.ref a)/\ky K H a (.int y::r)/\Q (.bl (decide (b<y))) H)
theorem WY (B:b9 mg)(g:∃t,mg "BREADTH"=some (.int 0 t)):R0 P w K mg base 1 Nw (qJ fH) (tq fH) (j5 fH) ["runs","breadth"] (z9 K):=by
 refine Xa We (λ_ _ _ _ us hl=>match us,hl with | [_],_=>rfl) (λvs H Q h=>h.1) λA outer s H f cd C hf n=>⟨_,(YM (eD gw (pv 2) (aW bo (by rfl) B.len Bh (ae (pv 0) aD)) (bJ _)) (uP (eD nL (aR aS (aR bK (pv 0) (pv 2) (λ_ _=>rfl)) (aN (by rfl) g) (λ_ _=>rfl)) (pv 1) (bJ _)))),λvs Q h=>?_⟩
 obtain⟨_,l,e,b,k,rfl,hl,m,j⟩:=h;refine⟨_,rfl,_,rfl,l,e,rfl,.inl (eE.of hl),rfl,_,rfl,?_⟩;by_cases c:k=e.length
 .rw [if_pos (by simp[c])];exact m c
 .rw [if_neg (by simp[c])];obtain⟨i,a,y,r,rfl,hi,ht,q⟩:=j c;exact⟨_,rfl,_,rfl,⟨l,e,i,.ref a,rfl,rfl,eE.of hl,dg hi,a,_,0,.int y,rfl,rfl,ht,(show kI _ ((0:Nat):Int)=_ from dg rfl),_,rfl,y,b,rfl,rfl,q⟩⟩
theorem Nf {f:Ac}{fd:Ak}(Df:bL K mg "least" oI f fd)(B:b9 mg)(T:∃t,mg "BREADTH"=some (.int 0 t)):
  cg P w K mg base "least" 2 ["low","high","good"] (ON Nw (qJ fH) (tq fH) (j5 fH) ["runs","breadth"] (z9 K)):=by
 refine cg.of Df dG (by walk_at "b") (λvs H Q E h=>h.1) λYa A outer s H vs Q E u h=>⟨_,(aG (bp (i:=3) dG.nd rfl (Ar rfl) (pv 0))
   (aG (bp (i:=4) dG.nd rfl (Ar rfl) (pv 1))
   (aG (jT AG (bQ jX (pv 3) (pv 4) (bJ _)) (aG (bp (i:=5) dG.nd rfl (Ar rfl) (aV eZ (aV cq (pv 3) (pv 4)) aK))
   (aH (cu (cQ (M9 (pv 2) (WY P w base B T) (u.mono (by decide)) (ae (pv 5) aD))) (aH (bp (i:=4) dG.nd rfl (Ar rfl) (pv 5))) (aH (bp (i:=3) dG.nd rfl (Ar rfl) (aV cq (pv 5) aK)))))))
   (aH (aX (pv 4)))))),?_⟩
 obtain⟨_,lo,hi,f,c,C,cl,pm,v,r,I,rfl,O,hf,j,k,l,U,e,n⟩:=h;refine⟨_,rfl,_,rfl,λm Y H=>∃(b g:Int) (o:Option V),Y=[some (.int lo),some (.int hi),some (.ref f),some (.int b),some (.int g),o]/\I b g H/\(g-b).toNat=m,⟨_,lo,hi,none,rfl,U,rfl⟩,?_⟩;rintro m Y q ⟨b,g,o,rfl,p,hm⟩;refine⟨_,rfl,_,rfl,b,g,rfl,rfl,_,rfl,?_⟩;dsimp only;by_cases G:b<g
 .rw [if_pos (by simpa using G)];obtain⟨h1,h2,L,J⟩:=e b g q G p;refine⟨λY' H'=>∃M,M<m/\∃(b g:Int) (o:Option V),Y'=[some (.int lo),some (.int hi),some (.ref f),some (.int b),some (.int g),o]/\I b g H'/\(g-b).toNat=M,λ_ _ z=>z,?_⟩;refine⟨_,rfl,_,rfl,b,g,rfl,rfl,b+g,2,rfl,rfl,⟨by decide,by decide⟩,?_⟩;refine⟨f,c,C,cl,pm,v,r,rfl,h1,hf,j,by rw[hf];exact k,l,_,rfl,h1,h2,O,L,J _ λt H2 a=>⟨_,rfl,?_⟩⟩
  cases t with
  |true=>exact rS ⟨_,rfl,_,by lia,b,_,_,rfl,a,rfl⟩
  |false=>exact rT rfl ⟨_,rfl,_,1,rfl,rfl,_,by lia,_,g,_,rfl,a,rfl⟩
 .rw [if_neg (by simpa using G)];exact⟨_,rfl,n b g q G p⟩
theorem XB:∀x∈(j5 fH).names,x.2 = .free->(aB dw).names.lookup x.1=some .cell:=by decide +kernel
theorem Wa {A:AU}{outer:List DU}{s:Af}{H:Hp}{E:XK}{f:Ac}{cd:Aa}{c:List (Al×Ac)}(e:c=dk (j5 fH) (eH jh P w K mg base ["self","at","start","end","runs","middle","breadth","place"] "Search.put" (aB dw) f cd A outer s H E).kR.env):oz (eH jh P w K mg base ["self","at","start","end","runs","middle","breadth","place"] "Search.put" (aB dw) f cd A outer s H E).kR c [4,6]:=by
 rw[e];exact G2 (fs:=["runs","breadth"]) (by decide +kernel) (by decide) rfl (by decide +kernel)
theorem W4 {env:DU}{c:List (Al×Ac)}(e:c=dk (j5 fH) env):c.map (·.1)=(["runs","breadth"]:List Al):=by rw[e];rfl
theorem Vy {c a F H:Hp}{Y:L2.St}{δ:cY}{A:Nat->List Ac}{k:Nat}(e:ER K c a F H Y δ A)(h:δ[k]?=some none)(v:Option V):ER K c a F H (Y.set k v) δ A:=by
 have ne:∀{j:Nat} {s:Sl},δ[j]?=some (some s)->(Y.set k v)[j]?=Y[j]?:=λ{j s} J=>AK λz=>by rw[<- z,h]at J;cases J
 exact⟨by rw[Bi];exact e.len,e.ext,λj t J=>by rw[ne J];exact e.own j t J,λj d J=>by rw[ne J];exact e.bw j d J,e.ji,e.ko,e.new⟩
theorem TZ {C:List Ac}{H:Hp}:m4 C H (kA C H)=H:=by
 funext b
 by_cases h:b∈C
 .rw [hV h]
 .rw [cv h,cJ h]
theorem wo {F:Hp}:∀{xs:List D} {vs:List V} (k:Nat),bA K F xs vs->bA K F (xs.drop k) (vs.drop k)
 |xs,vs,0,h=>h
 | [],_,k+1,h=>by cases h;exact rfl
 |x::xs,_,k+1,h=>by obtain⟨v,r,rfl,h1,h2⟩:=h;exact wo k h2
theorem VY {T T':Ac}{cl:List (Al×Ac)}{tr:TS}{R:DS}(CV:dE K "Search" bN)(hm:cl.map (·.1)=(["runs","breadth"]:List Al))(hR:d5 K (L6 T T') tr R):
  d5 K (L6 T T') (rq (kB (xW K (dt 0) "runs") (gO 4)) (rq (kB (nt (b7 K 2 fP) [] E0 (da (dt 2) (da (dt 3) gS))) (gO 5)) (rq (kB (ir K "Search" "breadth_at" (b7 K 3 c5) (dt 0) (da (dt 1) (da (dt 5) gS))) (gO 6))
   (rq (kB (t_ (ON Nw (qJ fH) (tq fH) (j5 fH) ["runs","breadth"] (z9 K)) cl [4,6] (da (tC (.int 0)) (da (Yr (λxs H Q=>∃p ys,xs=[.ref p]/\(eE K H p ys∨ky K H p ys)/\Q (.int ys.length) H) (da (dt 4) gS)) (da (V8 T' ⟨342,36,342,90⟩ Nw (qJ fH) (tq fH) (j5 fH) cl) gS)))) (gO 7))
   (rq (jr (UW K "list" Ld (dt 4) (da (dt 7) (da (zT (da (dt 6) (da (dt 1) (da (dt 2) (da (dt 3) gS))))) gS)))) tr))))) (Yx R):=λF0 H0 hT F H Y δ De En e l w=>by
 obtain⟨o,xs,R',f,rs,i,s,n,x,rfl,hx,ok,ϒ,he,hl,ϑ,w⟩:=w;have hmd:=qz ϒ;obtain⟨A,e⟩:=e;obtain⟨a,k,G,C,dx,fs,hv,h1,h0,ğ,na,ϡ,hc,nF,nH,hr,put⟩:=e.Vx (j:=2) (f := "runs") (i:=0) (xs:=rs.map sR) CV rfl rfl rfl;refine⟨_,hv,a,C,dx,fs,.ref k,rfl,h1,ğ,na,ϡ,?_⟩;have L:=e.len;have Î:=ok.l;have E1:cx K F0 H0 F H (Y.set 4 (some (.ref k))) _:=⟨A,Vy e rfl _⟩
 refine aY (aA aE (aA aE aJ)) F0 H0 F H (Y.set 4 (some (.ref k))) _ (λr=>r = .fz (.int (md s n:Nat))) _ E1 ⟨rfl,s,n,rfl,by lia,by lia,rfl⟩ λr v F1 H1 Ć x1 n1=>?_
 subst Ć;obtain⟨_,⟨_,ώ⟩,_⟩:=id n1
 cases (show v = .int (md s n:Nat) from ώ)
 have E2:=E1.put x1 5 n1;refine gm CV (by decide +kernel) aC (aI aC (aI aC aO)) F0 H0 F1 H1 _ _ (λr=>r = .fz (.int (x.B (md s n)))) _ E2 ⟨rfl,rfl,rfl,xs,R',f,rs,i,md s n,x,rfl,hx,ok,by lia,rfl,rfl⟩ λr v F2 H2 O x2 n2=>?_
 subst O;obtain⟨_,⟨_,ύ⟩,_⟩:=id n2
 cases (show v = .int (x.B (md s n)) from ύ)
 have E3:=E2.put x2 6 n2;generalize x.B (md s n)=b at *;have t:=x1.trans x2;have Ő:=t.hh _ _ hc;have O:=hr.mono t.ff;have Ā:=hr.length;rw[Au]at Ā;have g4:((((Y.set 4 (some (.ref k))).set 5 (some (.int (md s n:Nat)))).set 6 (some (.int b))))[4]?=some (some (.ref k)):=by
  rw[AK (by decide),AK (by decide),Ax (by rw[L];show 4<8;decide)]
 have g6:((((Y.set 4 (some (.ref k))).set 5 (some (.int (md s n:Nat)))).set 6 (some (.int b))))[6]?=some (some (.int b)):=Ax (by rw[Bi,Bi,L];show 6<8;decide);have Ϻ:H2 T'=_:=x2.fh _ _ (t.ff _ _ (e.ext.ff _ _ hT.2));refine⟨[.ref k,.int b],⟨rfl,λi j v h1 h2=>?_⟩,_,g4,k,G,rfl,.inl (eE.of Ő),Ϻ,λf c oc pm ZK H3 hn hs h1 h2 h3 Tt cf ct ϱ R9=>?_⟩
 .match i,h1,h2 with
  | 0,h1,h2=>cases h1;cases h2;exact g4
  | 1,h1,h2=>cases h1;cases h2;exact g6
 have X_:=hs _ _ Ő;have nC:∀{z u},H3 z=some u->z∉cl.map (·.2):=λ{z u} q y=>by rw[ϱ z y]at q;cases q
 have naC:=nC X_;have ϣ:cl.length=2:=by rw[<- Au (f:=(·.1)),hm];rfl
 generalize hC:cl.map (·.2)=m at *;have J:a6 H3 (kA m (m4 m Tt H3)):=λz u q=>by rw[cJ (nC q),cv (nC q)];exact q
 have sF:a6 F2 (kA m (m4 m Tt H3)):=λz u q=>J _ _ (hs _ _ (x2.fh _ _ q))
 have ſ:∀(j:Nat) (r:Rn),rs[j]?=some r->∃ad y,G[j]?=some (.ref ad)/\ky K (kA m (m4 m Tt H3)) ad (.int r.b::y):=λj r hj=>by
  obtain⟨v,g1,g2⟩:=O.get (i:=j) (d:=sR r) (by rw[AH,hj];rfl);obtain⟨ad,us,rfl,q1,q2⟩:=g2;obtain⟨_,y,rfl,rfl,_⟩:=q2;exact⟨ad,y,g1,sF.lK q1⟩
 refine⟨rfl,0,G.length,f,c,oc,cl,pm,ZK,[.ref k,.int b],λp g H'=>H'=m4 m Tt H3/\0<=p/\p<=g/\g<=G.length/\(∀(j:Nat) (r:Rn),(j:Int)<p->rs[j]?=some r->r.b<=b)/\(∀r,rs[g.toNat]?=some r->b<r.b),rfl,h3,hm,by rw[hC];exact R9,by decide,ϣ,?_,?_,?_⟩
 .exact ⟨rfl,Ba _,by lia,Ba _,λj r h=>by lia,λr h=>by have:=(Ab.mp h).1;lia⟩
 .rintro p g H' ϕ ⟨rfl,p0,p1,p2,p3,p4⟩;rw[hC];refine⟨by rw[cv (nC h1)];exact h1,by rw[cv (nC h2)];exact h2,λi v hv=>?_,λRr Ŕ=>?_⟩
  .obtain ⟨y,a',oo,u,e1,e2,e3⟩:=cf i v hv;have Ď:a'∈m:=by rw[<- hC];exact Bf.mpr ⟨_,Ai e1,rfl⟩
   exact⟨y,a',oo,u,e1,by rw[hV Ď];exact e2,e3⟩
  .have m1:p<=(p+g) / 2:=by lia
   have m2:(p+g) / 2<g:=by lia
   generalize (p+g) / 2=q at m1 m2 Ŕ;obtain⟨q,rfl⟩:∃z:Nat,q=z:=⟨q.toNat,by lia⟩
   obtain⟨r,M⟩:∃r,rs[q]?=some r:=⟨_,Ad (by lia)⟩
   obtain⟨ad,y,g1,g2⟩:=ſ q r M;refine⟨rfl,k,G,b,q,rfl,J _ _ X_,λz=>by lia,λ_=>⟨q,ad,r.b,y,rfl,g1,g2,Ŕ _ _ ?_⟩⟩;rw[TZ];by_cases U:b<r.b
   .rw [decide_eq_true U];refine⟨rfl,p0,by simpa using m1,by simp;lia,by simpa using p3,λr' h'=>?_⟩;rw[if_pos rfl,AQ,M]at h';cases h';exact U
   .rw [decide_eq_false U];refine⟨rfl,by simp;lia,by simp;lia,by simpa using p2,λj r' hj h'=>?_,by simpa using p4⟩;have T9:j<=q:=by simp at hj;lia
    have hle:r'.b<=r.b:=by
     rcases Ev j q with z |z
     .obtain ⟨h5,e5⟩:=Ab.mp h';obtain⟨h6,e6⟩:=Ab.mp M;have:=Go.mp ϑ j q h5 h6 z;rw[e5,e6]at this;exact this
     .rw [show j=q by lia,M]at h';cases h';exact Ba _
    lia
 .rintro p g H' ϕ ⟨rfl,p0,p1,p2,p3,p4⟩;obtain⟨g,rfl⟩:∃z:Nat,g=z:=⟨g.toNat,by lia⟩
  have hg:g=rP b rs:=U_ (by lia) (λj r hj h=>p3 j r (by lia) h) (λr h=>p4 r (by simpa using h));subst hg;have x3:cE F2 H2 F2 (kA m (m4 m Tt H3)):=⟨a6.refl _,λz u q=>J _ _ (hs _ _ q),sF,λ_ _ z _ _=>z⟩
  have E4:=(E3.on x3).put (r:=.fz (.int (rP b rs:Nat))) (v:=.int (rP b rs:Nat)) (cE.refl sF) 7 (.fz rfl);have k4:∀u,((((Y.set 4 (some (.ref k))).set 5 (some (.int (md s n:Nat)))).set 6 (some (.int b))).set 7 u)[4]?=some (some (.ref k)):=λu=>by rw[AK (by decide)];exact g4
  have k7:∀u,((((Y.set 4 (some (.ref k))).set 5 (some (.int (md s n:Nat)))).set 6 (some (.int b))).set 7 u)[7]?=some u:=λu=>Ax (by rw[Bi,Bi,Bi,L];show 7<8;decide)
  have Œ:=J _ _ X_;have hrl:=U9 b rs;refine⟨_,k4 _,.inl ⟨rfl,G,eE.of Œ⟩,_,k7 _,?_⟩;refine cD (aA aE (aA aE (aA aE (aA aE aJ)))) F0 H0 F2 _ _ _ (λd=>d=sR ⟨b,i,s,n⟩) _ E4 ⟨by show 4<=1000000;decide,rfl⟩ λd v F5 H5 hd x5 r5=>?_
  subst hd;refine⟨k,G,(rP b rs:Nat),v,rfl,rfl,x5.hh _ _ Œ,by lia,by lia,sv (by lia),?_⟩;rw[AQ];have Ł:=O.mono x5.ff;obtain⟨A5,e5⟩:=put F5 H5 ((la ⟨b,i,s,n⟩ rs).map sR) (G.take (rP b rs)++v::G.drop (rP b rs)) (t.trans (x3.trans x5)) (by
   rw[Lg,A_,IK,BJ,IL];exact bA.append (Ł.take _) ⟨v,_,rfl,r5,wo _ Ł⟩)
  have e6:cx K F0 H0 F5 _ (Y.set 4 (some (.ref k))) _:=⟨A5,Vy e5 rfl _⟩
  have rf:=cE.refl e6.ext.fh;exact hR F0 H0 hT F5 _ _ _ De En (((e6.put (r:=.fz (.int (md s n:Nat))) rf 5 (.fz rfl)).put (r:=.fz (.int b)) rf 6 (.fz rfl)).put (r:=.fz (.int (rP b rs:Nat))) rf 7 (.fz rfl)) l w
theorem rO {f c T T':Ac}{fd:Ak}(Df:e7 K "Search" "put" "Search.put" dw f fd)(hc:fd.code = .ref c)(M:PySem.W.CodeHd base c T')(U:base.BuiltinsAt mg T')(B:b9 mg)(KV:bZ K)(C:dE K "Search" bN)(G:∃t,mg "BREADTH"=some (.int 0 t))(p:kK K mg "breadth")(l:cg P w K mg base "middle_of" 1 ["start","end"] (b7 K 2 fP))(r:cS P w K mg base "Search" "breadth_at" 9 ["self","at","many"] (b7 K 3 c5))(L:cg P w K mg base "least" 2 ["low","high","good"] (ON Nw (qJ fH) (tq fH) (j5 fH) ["runs","breadth"] (z9 K))):
  cS P w K mg base "Search" "put" 11 ["self","at","start","end"] (oa K 4 "Search" bN (L6 T T') gW):=by
 refine Z3.of (sc:=j5 fH) Df hc ew (by walk_at "b") rfl (λA outer s H E u cl n=>⟨_,_,_,_,(aG (cu (bQ gw (pv 2) (pv 3) (bJ _)) (aH S9) bM)
   (aG (bp (i:=4) ew.nd rfl (Fm rfl) (ck (pv 0) rfl))
   (aG (bp (i:=5) ew.nd rfl (Ar rfl) (aZ l (u.mono (by decide)) (by rfl) (ae (pv 2) (ae (pv 3) aD))))
   (aG (bp (i:=6) ew.nd rfl (Fm rfl) (ed r (u.mono (by decide)) (pv 0) (ae (pv 1) (ae (pv 5) aD))))
   (aG (bp (i:=7) ew.nd rfl (Ar rfl) (Ll L (u.mono (by decide)) (by rfl) (Wa _ _ _ n) (ae aK (ae (aW bo (by rfl) B.len Bh (ae (pv 4) aD)) (ae (show PE _ fH (V8 T' ⟨342,36,342,90⟩ Nw (qJ fH) (tq fH) (j5 fH) cl) from WN rfl M U (λok=>xo n ok XB)) aD)))))
   (aG (bR (gs Bd PySem.F.slot_list_insert PySem.F.type_list_insert Nq (pv 4) (ae (pv 7) (ae (cb (ae (pv 6) (ae (pv 1) (ae (pv 2) (ae (pv 3) aD))))) aD))))
   (aH (ic (pv 0) (aV di (pv 5) (pv 2)) Q9)))))))),
  (bO (aP gL aC aC)),
  (VY C (W4 n)
   (bY.y (lR (j:=3) (g:=λx y=>x+y) C (by rfl) (λx y H Q q=>⟨_,_,rfl,rfl,q⟩) (aM (aP bU aC aC))))),?_⟩)
 clear n;rintro a ts ds Pr ⟨xs,R,f,rs,i,s,e,x,rfl,rfl,v,o,z,J,hl,O,k⟩;fin2;have ea:oE xs i=x.B:=by funext m;show (xs.getD i Ss).B m=_;rw[Aj,v];rfl
 unfold hQ at k;by_cases h:s=e
 .subst h;rw[if_pos rfl]at k;rw[if_pos rfl];rw[YX,EX,Int.ofNat_zero,Int.add_zero]at k;exact k
 .rw [if_neg h,ea]at k;rw[if_neg (by lia)];refine⟨_,xs,R,f,rs,i,s,e,x,rfl,v,o,by lia,J,hl,O,?_⟩;fin2;rw[Int.ofNat_sub (qz (show s<e by lia)).1]at k;exact k
theorem lj {f T T':Ac}{fd:Ak}(Df:NT K "__init__" "Search.__init__" dP f fd)(Mf:xH K mg "Search" f)(B:b9 mg)(KV:bZ K)(C:dE K "Search" bN)(g:∃t,mg "BITS"=some (.int 1 t))(e:cS P w K mg base "Search" "put" 11 ["self","at","start","end"] (oa K 4 "Search" bN (L6 T T') gW)):
  sk P w K mg base "Search" 12 ["self","streams","total"] (oa K 3 "Search" bN (L6 T T') f9):=by
 refine Z7.of Df Mf gb (by walk_at "b") rfl (λc A o s H E p=>⟨_,_,(aG (gp (pv 0) (pv 1) rfl)
   (aG (gp (pv 0) (aW (NL rfl) (by rfl) B.min boot_min (ae (pv 2) (ae (aW nh (by rfl) B.sum J2 (ae (eC rfl (df (pv 1)) (show bV (aB dP) _ from⟨rfl,by decide +kernel,by decide +kernel,by decide +kernel⟩) (N:=["stream"]) (ix:=[none]) (show cT _ _ _ _ from trivial) (λ_ _ _=>(bt (i:=0) (show Bo (["stream"]:List Al) by decide +kernel) rfl (Ar rfl))) (λ_ _ _=>(aW dD (by rfl) B.len Bh (ae (aR aS (pv 0) (aN (by rfl) g) (λ_ _=>rfl)) aD)))) aD)) aD))) rfl)
   (aG (gp (pv 0) (c8 aD) rfl)
   (aG (gp (pv 0) aK rfl)
   (aH (cX AG rfl (dh (by rfl) (by exact B.range) (ae (aW bo (by rfl) B.len Bh (ae (pv 1) aD)) aD)) (bt (i:=3) gb.nd rfl (Ar rfl)) (aH (bR (ed e (p.mono (by decide)) (pv 0) (ae (pv 3) (ae aK (ae (aV cq (aW dD (by rfl) B.len Bh (ae (aR aS (aR bK (pv 1) (pv 3) (λ_ _=>rfl)) (aN (by rfl) g) (λ_ _=>rfl)) aD)) aK) aD)))))))))))),
  (cU (bY.y (fV (j:=0) C (by rfl) (br aE)))
   (cU (bY.y (fV (j:=1) C (by rfl) (br (bT Uz (aI aC (aI (aM (bT zw (aI (aM (bX (dQ (dR aE) bu (br (bT iY (aI (bx (dm.b aU) aC (aM aF)) aO)))))) aO))) aO))))))
   (cU (bY.y (fV (j:=2) C (by rfl) (d3 c7)))
   (cU (bY.y (fV (j:=3) C (by rfl) (br aF)))
   (Oi i0 (eW (aI (aM (bT cR (aI aC aO))) aO)) bu (oB i0 C (by decide +kernel) (aA aE (aA aF (aA (aP bU (aM (bT iY (aI (bx (dm.b aU) (bx (dm.b cn) aC aC) (aM aF)) aO))) (aM aF)) aJ))))))))),?_⟩)
 rintro a ts ds Pr ⟨xs,O,rfl,rfl,u,h1,k⟩;gn_on;gp_on;gn_on;refine gA.map xs dX.d (λx=>.fz (.int x.bs.length)) (by have:=u.2;lia) (λx hm Q q=>?_) ?_
 .simp only[dX.d];fin2;rw[c0];exact⟨(u.1 x hm).l,q⟩
 dsimp only[OV.val];refine⟨xs.map λx=>(x.bs.length:Int),by rw[OV.c4,A9,A9];rfl,?_⟩;have J:=w9 xs xs.length (Ah _);rw[BC]at J;rw[J,show min (O:Int) (kD xs xs.length:Nat)=(min O (kD xs xs.length):Nat) by lia];generalize hM:min O (kD xs xs.length)=M at k;gp_on;gn_on;gp_on;gn_on;gp_on;fin2;have U:=u.2;refine⟨⟨by lia,by lia⟩,?_⟩;rw[AQ];refine⟨λi δ=>∃(rs:List Rn) (G:Option Sl),δ=[some (.own (.ob (some a) "Search" bN (oF xs M rs (rF rs:Nat)))),vD (.lst (xs.map dX.d)),vI O,G]/\rs.length<=i/\UI (oE xs) (sC xs) rs/\(∀r∈rs,r.i<xs.length)/\(∀v,rG (oE xs) v rs=LL xs v i)/\rN rs=kD xs i+i,⟨[],none,rfl,Ah _,⟨λ_ h=>(by cases h),EJ⟩,λ_ h=>(by cases h),λ_=>rfl,rfl⟩,?_,?_⟩
 .rintro i d δ hd ⟨rs,G,rfl,hl,ok,n,hg,hn⟩;obtain⟨hi,rfl⟩:=dS hd;have m:=Ad hi;have o:=u.1 _ (BH hi);rw[show (0:Int)+(i:Int)*1=(i:Int) by lia];fin2;refine⟨_,lr m,?_⟩;simp only[dX.d];fin2;rw[c0];have L:sC xs i=(xs[i]).bs.length:=by rw[sC,en m]
  refine⟨o.l,xs,M,(rF rs:Nat),rs,i,0,(xs[i]).bs.length+1,xs[i],rfl,rfl,m,o,Br _,Ah _,by lia,ok.so,?_⟩;refine⟨hQ (oE xs) i 0 ((xs[i]).bs.length+1) rs,vI i,?_,?_,uK ok (Br _) (by rw[L];exact Ah _),λr p=>?_,λv=>?_,?_⟩
  .rw [yu (Br _),show ((rF rs:Nat):Int)+((md 0 ((xs[i]).bs.length+1)-0:Nat):Int)=((md 0 ((xs[i]).bs.length+1)-0+rF rs:Nat):Int) by lia]
  .unfold hQ;rw[if_neg (by lia),p_];lia
  .unfold hQ at p;rw[if_neg (by lia)]at p;rcases jS p with z |z
   .rw [z];exact hi
   .exact n r z
  .rw [yt (Br _),hg v,LL,L,Nat.sub_zero];lia
  .rw [p9 (Br _),hn,kD,L];lia
 .rintro δ ⟨rs,G,rfl,hl,ok,n,hg,hn⟩;rw[dz]at hl hg hn;exact⟨_,rfl,k rs ⟨⟨ok,by lia,λv=>by rw[hg v]⟩,n,by lia⟩⟩
theorem mV {f T T':Ac}{fd:Ak}(Df:e7 K "Search" "narrow" "Search.narrow" fD f fd)(B:b9 mg)(KV:bZ K)(C:dE K "Search" bN)(h:∃t,mg "START_sharing"=some (.int 2 t))(n:∃t,mg "END_sharing"=some (.int 3 t))(M:∃t,mg "STREAM"=some (.int 1 t))(L:cg P w K mg base "middle_of" 1 ["start","end"] (b7 K 2 fP))(p:cS P w K mg base "Search" "put" 11 ["self","at","start","end"] (oa K 4 "Search" bN (L6 T T') gW)):
  cS P w K mg base "Search" "narrow" 12 ["self"] (oa K 1 "Search" bN (L6 T T') h7):=by
 refine Z6.of Df d9 (by walk_at "b") rfl (λc A o s H E U=>⟨_,_,(aG (bp (i:=1) d9.nd rfl (Ar rfl) (eD jX (ck (pv 0) rfl) (aV di (aV cq (ck (pv 0) rfl) (aW bo (by rfl) B.len Bh (ae (ck (pv 0) rfl) aD))) aK) (bJ _)))
   (aG (bp (i:=2) d9.nd rfl (Ar rfl) (gs Bd FO FN QN (ck (pv 0) rfl) (ae (qh (cQ (pv 1)) aK (aV di (aW bo (by rfl) B.len Bh (ae (ck (pv 0) rfl) aD)) aK)) aD)))
   (aG (bp (i:=3) d9.nd rfl (Ar rfl) (aZ L (U.mono (by decide)) (by rfl) (ae (aR aS (pv 2) (aN (by rfl) h) (λ_ _=>rfl)) (ae (aR aS (pv 2) (aN (by rfl) n) (λ_ _=>rfl)) aD))))
   (aG (ic (pv 0) (aV di (pv 3) (aR aS (pv 2) (aN (by rfl) h) (λ_ _=>rfl))) yX)
   (aH (cu (cQ (pv 1)) (aH (bR (ed p (U.mono (by decide)) (pv 0) (ae (aR aS (pv 2) (aN (by rfl) M) (λ_ _=>rfl)) (ae (aR aS (pv 2) (aN (by rfl) h) (λ_ _=>rfl)) (ae (pv 3) aD)))))) (aG (ic (pv 0) (aV di (aV cq (pv 3) aK) (aR aS (pv 2) (aN (by rfl) h) (λ_ _=>rfl))) yX)
   (aH (bR (ed p (U.mono (by decide)) (pv 0) (ae (aR aS (pv 2) (aN (by rfl) M) (λ_ _=>rfl)) (ae (aV cq (pv 3) aK) (ae (aR aS (pv 2) (aN (by rfl) n) (λ_ _=>rfl)) aD))))))))))))),
  (cU (bY.y (bB (br (aP dq (cV (j:=1) C (by rfl) aC) (aM (aP bU (aM (aP bU (cV (j:=3) C (by rfl) aC) (aM (bT cR (aI (cV (j:=2) C (by rfl) aC) aO))))) (aM aF)))))))
   (cU (bY.y (Pf (j:=2) C (by rfl) (aM (Pw (gk aE) aF (aP bU (aM (bT cR (aI (cV (j:=2) C (by rfl) aC) aO))) (aM aF))))))
   (cU (bY.y (bB (br (bX (aY (aA (bF aU aE aF) (aA (bF aU aE aF) aJ)))))))
   (cU (bY.y (lR (j:=3) (g:=λx y=>x-y) C (by rfl) (λx y H Q q=>⟨_,_,rfl,rfl,q⟩) (aM (aP bU aC (bx (dm.b aU) aC (aM aF))))))
   (Yh (gk aE) (oB i0 C (by decide +kernel) (aA (bF aU aE aF) (aA (bF aU aE aF) (aA aE aJ)))) (cU (bY.y (lR (j:=1) (g:=λx y=>x-y) C (by rfl) (λx y H Q q=>⟨_,_,rfl,rfl,q⟩) (aM (aP bU (aM (aP bU aC (aM aF))) (bx (dm.b aU) aC (aM aF))))))
   (oB i0 C (by decide +kernel) (aA (bF aU aE aF) (aA (aP bU aC (aM aF)) (aA (bF aU aE aF) aJ)))))))))),?_⟩)
 rintro a ts ds Pr ⟨xs,T,rs,R,rfl,rfl,O,S,h2,k⟩;gn_on;refine⟨_,rfl,_,rfl,.lst (rs.map sR),congrArg some (uJ rs),?_⟩;dsimp only[OV.val];rw[Au];gp_on;gn_on;refine⟨rs.map sR,rfl,by rw[Au];have:=S.zg;lia,?_⟩;have hF:=zF O;by_cases hb:(R:Int)<(rF rs:Nat)+(rs.length:Int)-1
 .rw [if_pos hb,decide_eq_true hb]
  cases rs with
  |nil=>simp at h2
  |cons r rs=>
   rw[AR]at hb;have J:=M4 hF S.inv (by lia);have U:=S.inv.ok.ok r Az;have hm:=qz U.1;have m:=S.at_ r Az;obtain⟨s1,s2⟩:=DP.mp S.inv.ok.so;have zg:=S.zg;rw[AR]at zg;have v:=Ad m;have eL:sC xs r.i=(xs[r.i]).bs.length:=by rw[sC,en v]
   refine⟨0,sR r,rfl,rfl,?_⟩;rw[show (oF xs R (r::rs) (rF (r::rs):Nat)).set 2 (.nl (BA .fz ((BA sR (r::rs)).eraseIdx 0)))=oF xs R rs (rF (r::rs):Nat) from rfl];gp_on;simp only[sR];gn_on;refine⟨r.s,r.e,rfl,by have:=(O.1 _ (BH m)).l;lia,by have:=(O.1 _ (BH m)).l;lia,?_⟩;dsimp only[OV.val];gp_on;gn_on;rw[show (oF xs R rs (rF (r::rs):Nat))[3]?=some (.fz (.int (rF (r::rs):Nat))) from rfl];dsimp only;rw[show ∀z,(oF xs R rs (rF (r::rs):Nat)).set 3 (.fz (.int z))=oF xs R rs z from λ_=>rfl,show ((rF (r::rs):Nat):Int)-((md r.s r.e:Nat)-(r.s:Int))=(rF rs:Nat) by show ((md r.s r.e-r.s+rF rs:Nat):Int)-_=_;lia];gp_on;fin2;refine⟨xs,R,(rF rs:Nat),rs,r.i,r.s,md r.s r.e,xs[r.i],rfl,rfl,v,O.1 _ (BH m),by lia,by lia,by lia,s2,?_⟩;rw[show ((rF rs:Nat):Int)+((md r.s (md r.s r.e)-r.s:Nat):Int)=(rF (hQ (oE xs) r.i r.s (md r.s r.e) rs):Nat) by rw[yu (by lia)];lia];refine k _ R ⟨J,λx G=>?_,?_⟩ ?_
   .rcases wt G with z |z
    .rw [z];exact m
    .exact S.at_ x (Aw _ z)
   .have:=wu (a:=oE xs) (i:=r.i) (s:=r.s) (e:=md r.s r.e) (rs:=rs);lia
   .rw [p9 (by lia)];show _<r.e-r.s+rN rs
    lia
 .rw [if_neg hb,decide_eq_false hb];refine⟨.lst (rs.map sR),congrArg some (uJ rs),?_⟩;dsimp only;obtain⟨rs,r,rfl⟩:∃us u,rs=us++[u]:=⟨rs.dropLast,rs.getLast (λz=>by rw[z]at h2;simp at h2),(BO _).symm⟩
  rw[AF,BM]at hb h2;obtain⟨hRs,J⟩:=PV hF S.inv (λz=>by rw[z]at h2;simp at h2) (by lia);have U:=S.inv.ok.ok r (by simp);have hm:=qz U.1;have m:=S.at_ r (by simp);obtain⟨s1,_,s2⟩:=EY.mp S.inv.ok.so;have zg:=S.zg;rw[AF,BM]at zg;have v:=Ad m;have eL:sC xs r.i=(xs[r.i]).bs.length:=by rw[sC,en v]
  have eF:rF (rs++[r])=rF rs+(md r.s r.e-r.s):=by rw[rF,ia];rfl
  have eN:rN (rs++[r])=rN rs+(r.e-r.s):=by rw[rN,ia];rfl
  refine⟨rs.length,sR r,by rw[Au,AF,BM];exact congrArg D.int (by lia),by rw[A_,Bb (by rw[Au];exact Ah _),Au,EX];rfl,?_⟩;rw[show (oF xs R (rs++[r]) (rF (rs++[r]):Nat)).set 2 (.nl (BA .fz ((BA sR (rs++[r])).eraseIdx rs.length)))=oF xs R rs (rF (rs++[r]):Nat) by rw[A_,List.eraseIdx_append_of_length_le (by rw[Au];exact Ah _),Au,EX,List.map_singleton,List.eraseIdx_cons_zero,Bj];rfl];gp_on;simp only[sR];gn_on;refine⟨r.s,r.e,rfl,by have:=(O.1 _ (BH m)).l;lia,by have:=(O.1 _ (BH m)).l;lia,?_⟩;dsimp only[OV.val];gp_on;gn_on;rw[show (oF xs R rs (rF (rs++[r]):Nat))[3]?=some (.fz (.int (rF (rs++[r]):Nat))) from rfl];dsimp only;rw[show ∀z,(oF xs R rs (rF (rs++[r]):Nat)).set 3 (.fz (.int z))=oF xs R rs z from λ_=>rfl,show ((rF (rs++[r]):Nat):Int)-((md r.s r.e:Nat)-(r.s:Int))=(rF rs:Nat) by rw[eF];lia];gp_on;fin2;rw[show (oF xs R rs (rF rs:Nat))[1]?=some (.fz (.int R)) from rfl];dsimp only;rw[show ∀z,(oF xs R rs (rF rs:Nat)).set 1 (.fz (.int z))=oF xs z rs (rF rs:Nat) from λ_=>rfl,show (R:Int)-((md r.s r.e:Nat)+1-(r.s:Int))=((R-(md r.s r.e+1-r.s):Nat):Int) by lia];refine⟨xs,_,(rF rs:Nat),rs,r.i,md r.s r.e+1,r.e,xs[r.i],rfl,rfl,v,O.1 _ (BH m),by lia,by lia,by lia,s1,?_⟩;rw[show ((rF rs:Nat):Int)+((md (md r.s r.e+1) r.e-(md r.s r.e+1):Nat):Int)=(rF (hQ (oE xs) r.i (md r.s r.e+1) r.e rs):Nat) by rw[yu (by lia)];lia];refine k _ _ ⟨J,λx G=>?_,?_⟩ ?_
  .rcases wt G with z |z
   .rw [z];exact m
   .exact S.at_ x (by simp[z])
  .have:=wu (a:=oE xs) (i:=r.i) (s:=md r.s r.e+1) (e:=r.e) (rs:=rs);lia
  .rw [p9 (by lia),eN];lia
theorem oq {f T T':Ac}{fd:Ak}(Df:e7 K "Search" "found" "Search.found" gj f fd)(B:b9 mg)(KV:bZ K)(C:dE K "Search" bN)(M:∃t,mg "STREAM"=some (.int 1 t))(g:∃t,mg "START_sharing"=some (.int 2 t))(n:cS P w K mg base "Search" "narrow" 12 ["self"] (oa K 1 "Search" bN (L6 T T') h7))(e:cS P w K mg base "Search" "breadth_at" 9 ["self","at","many"] (b7 K 3 c5)):
  cS P w K mg base "Search" "found" 13 ["self"] (Sv K 1 "Search" bN (L6 T T') i9):=by
 refine Z4.of Df i' (by walk_at "b") rfl (λc A o s H E G=>⟨_,_,(aG (jT AG (bQ nL (aW bo (by rfl) B.len Bh (ae (ck (pv 0) rfl) aD)) aK (bJ _)) (aH (bR (eY n (G.mono (by decide)) (pv 0)))))
   (aG (bp (i:=1) i'.nd rfl (Ar rfl) (aR bK (ck (pv 0) rfl) aK (λ_ _=>rfl)))
   (aH (aX (ed e (G.mono (by decide)) (pv 0) (ae (aR aS (pv 1) (aN (by rfl) M) (λ_ _=>rfl)) (ae (aV cq (aR aS (pv 1) (aN (by rfl) g) (λ_ _=>rfl)) (ck (pv 0) rfl)) aD))))))),
  (cU (vH (bO (aP dq (aM (bT cR (aI (cV (j:=2) C (by rfl) aC) aO))) (aM aF))) (oB i0 C (by decide +kernel) aJ))
   (cU (bY.y (bB (br (K' (bx (dm.b cn) (cV (j:=2) C (by rfl) aC) (aM aF))))))
   (bY.y (a_ (gm C (by decide +kernel) aC (aI (bx (dm.b aU) aC (aM aF)) (aI (aM (aP bU (bx (dm.b aU) aC (aM aF)) (cV (j:=1) C (by rfl) aC))) aO))))))),?_⟩)
 rintro a ts ds Pr ⟨xs,T,rs,R,rfl,rfl,u,S,k⟩;gn_on;refine⟨λm δ=>∃(rs:List Rn) (R:Nat),δ=[some (.own (.ob (some a) "Search" bN (oF xs R rs (rF rs:Nat)))),none]/\RX xs T rs R/\rN rs=m,⟨_,rs,R,rfl,S,rfl⟩,?_⟩;clear S;rintro m δ ⟨rs,R,rfl,S,hm⟩;fin2;refine⟨.lst (rs.map sR),congrArg some (uJ rs),?_⟩;dsimp only;rw[Au];split
 .rename_i h;exact⟨xs,T,rs,R,rfl,rfl,u,S,by lia,λp R' U hl=>⟨rN p,by lia,p,R',rfl,U,rfl⟩⟩
 .rename_i h;have Q:=zF u;have v:rs≠[]:=λz=>by have:=S.inv.zg;rw[z]at this;exact absurd this (DV _)
  cases rs with
  |nil=>exact absurd rfl v
  |cons r rs=>
   cases rs with
   |cons _ _=>rw[AR,AR]at h;lia
   |nil=>
    obtain⟨O,L,J⟩:=Wx Q S.inv;have q:=S.at_ r Az;have l:=Ad q;rw[sC,en l]at O;rw[oE,en l]at L J;gp_on;gn_on;refine⟨.lst ([r].map sR),congrArg some (uJ [r]),sR r,rfl,rfl,?_⟩;gp_on;simp only[sR];fin2;refine⟨.int R,rfl,xs,R,(rF [r]:Nat),[r],r.i,r.s+R,xs[r.i],by rw[OV.c4];rfl,l,u.1 _ (BH q),O,rfl,k _ L J⟩
structure ZS (xs:List dX) (İ:Nat) (W:Int) (ks:List Nat):Prop where
 len:ks.length=xs.length
 at_:∀(i:Nat) (x:dX),xs[i]?=some x->∃k,ks[i]?=some k/\k<=x.bs.length/\k=gr x.B W 0 (x.bs.length+1)/\x.B k<=W/\(k=0∨W<x.B (k-1))
 pos:0<=W
 sum:LL xs W xs.length<=İ
 least:∀u,0<=u->LL xs u xs.length<=İ->W<=u
theorem Ub {f:Nat->Int}{v:Int}{L k:Nat}(F:∀m n,m<=n->n<=L->f n<=f m)(a:k<=L)(h1:f k<=v)(h2:k=0∨v<f (k-1)):gr f v 0 (L+1)=k:=by
 rw[show L+1=k+(L+1-k) by lia,j6,m8 λj h=>?_,kn λj h=>?_]
 .rfl
 .have:=F k (0+k+j) (by lia) (by lia);lia
 .have:=F (0+j) (k-1) (by lia) (by lia);rcases h2 with z |z
  .lia
  .lia
theorem ZP {x:dX}(o:x.Ok){m:Nat}(h:m<=x.bs.length):0<=x.B m:=by
 have:=o.Ul m x.bs.length h (Ah _);rw[o.zero]at this;exact this
theorem LK {xs:List dX}(h:vz xs){v:Int}(c:v<0):∀k,k<=xs.length->LL xs v k=kD xs k+k
 | 0,_=>rfl
 |k + 1,e=>by
  have a:=Ad (show k<xs.length by lia);have o:=h.1 _ (Ai a);rw[LL,kD,LK h c k (by lia),m8 λj J=>?_]
  .lia
  .rw [sC,en a]at J;rw[oE,en a];have:=ZP o (m:=0+j) (by lia);lia
theorem Ua {x:dX}(o:x.Ok){v:Int}(h:0<=v):gr x.B v 0 (x.bs.length+1)<=x.bs.length:=by
 have h1:=tz x.B v 0 x.bs.length;rw[gr,if_neg (by rw[FJ,o.zero];lia)];lia
theorem Rf {xs:List dX}(h:vz xs){v:Int}(c:0<=v):∀k,k<=xs.length->LL xs v k<=kD xs k
 | 0,_=>Ah _
 |k+1,f=>by
  have a:=Ad (show k<xs.length by lia);have h1:=Ua (h.1 _ (Ai a)) c;have h2:=Rf h c k (by lia);have e:oE xs k=(xs[k]).B:=by funext m;rw[oE,en a]
  rw[LL,kD,e,sC,en a];lia
theorem Vz {x:dX}(o:x.Ok){W:Int}(e:0<=W):∃k:Nat,Um x.B W x.bs.length = .int k/\k<=x.bs.length/\k=gr x.B W 0 (x.bs.length+1)/\x.B k<=W/\(k=0∨W<x.B (k-1)):=by
 rcases Xz x.B W x.bs.length with⟨h,_⟩ | ⟨_,k,h1,h2,c,a⟩
 .rw [o.zero]at h;lia
 .exact ⟨k,h1,h2,(Ub o.Ul h2 c a).symm,c,a⟩
def i8:dF:=λds P=>∃x:dX,ds=[x.d]/\x.Ok/\P (.fz .cB)
def vU:dF:=λds P=>∃(xs:List dX) (t:Nat),ds=[.lst (xs.map dX.d),.int t]/\vz xs/\1<=xs.length/\∀(W:Int) (ks:List Nat),ZS xs t W ks->P (.fz (.tup [.int W,.lst (ks.map λ(k:Nat)=>.int k)]))
theorem om {f:Ac}{fd:Ak}(m:bL K mg "ensure_whole" gh f fd)(B:b9 mg)(KV:bZ K)(C:dE K "Walk" bD)(G:∃t,mg "HEAD"=some (.int 0 t))(g:∃t,mg "BITS"=some (.int 1 t))(O:cg P w K mg base "walk_of" 7 ["head","bits"] (b7 K 2 k5))(a:cS P w K mg base "Walk" "is_whole" 1 ["self"] (b7 K 1 d7)):
  cg P w K mg base "ensure_whole" 8 ["stream"] (b7 K 1 i8):=by
 refine cZ.of m i_ (by walk_at "b") rfl (λc A o s H E r=>⟨_,_,(aG (bp (i:=1) i_.nd rfl (Ar rfl) (aZ O (r.mono (by decide)) (by rfl) (ae (aR aS (pv 0) (aN (by rfl) G) (λ_ _=>rfl)) (ae (aR aS (pv 0) (aN (by rfl) g) (λ_ _=>rfl)) aD))))
   (aH (cu (p' (eu (cQ (eY a (r.mono (by decide)) (pv 1)))) (lb (bQ jX (ck (pv 1) rfl) (aW dD (by rfl) B.len Bh (ae (aR aS (pv 0) (aN (by rfl) g) (λ_ _=>rfl)) aD)) (bJ _)))).pt (aH ib) bM))),
  (aT (bB (aY (aA (bF aU aE aF) (aA (bF aU aE aF) aJ))))
   (cz (pS (et (gk (bX (gm C (by decide +kernel) aC aO)))) (bO (aP dq (cV (j:=1) C (by rfl) aC) (aM (bT iY (aI (bx (dm.b aU) aC (aM aF)) aO)))))) h9 bP)),?_⟩)
 rintro ds p ⟨x,rfl,o,k⟩;obtain⟨v,F,e,u⟩:=o.wh;simp only[dX.d];gn_on;refine⟨x.h,x.w,x.L,x.n,x.fs,x.bs,v,rfl,o.hw.2.1,o.n,F,?_⟩;gp_on;fin2;refine⟨v,by rw[OV.c4],rfl,?_⟩;rw[decide_eq_true e];dsimp only[OV.val];rw[if_neg (by decide)];refine⟨.int v.us,rfl,by rw[c0];exact o.l,?_⟩;dsimp only;rw[c0,if_neg (by lia)];exact k
theorem Qo {f T T':Ac}{fd:Ak}(Df:bL K mg "share" oH f fd)(B:b9 mg)(KV:bZ K)(C:dE K "Search" bN)(p:kK K mg "breadth")(r:cg P w K mg base "ensure_whole" 8 ["stream"] (b7 K 1 i8))(a:cS P w K mg base "Search" "found" 13 ["self"] (Sv K 1 "Search" bN (L6 T T') i9))(e:sk P w K mg base "Search" 12 ["self","streams","total"] (oa K 3 "Search" bN (L6 T T') f9))(g:cg P w K mg base "enough" 11 ["head","bits","breadth"] (É K 3 T ⟨305,4,306,49⟩ "enough.<locals>.fits" sG)):
  cg P w K mg base "share" 14 ["streams","total"] (Su K 2 (L6 T T') vU):=by
 refine Z2.of Df pK (by walk_at "b") rfl (λc A o s H E G=>⟨_,_,(aG (cX AG rfl (df (pv 0)) (bt (i:=2) pK.nd rfl (Ar rfl)) (aH (bR (aZ r (G.mono (by decide)) (by rfl) (ae (pv 2) aD)))))
   (aG (bp (i:=3) pK.nd rfl (Fm rfl) (eY a (G.mono (by decide)) (uQ e (G.mono (by decide)) (by rfl) (ae (pv 0) (ae (pv 1) aD)))))
   (aH (aX (cb (ae (pv 3) (ae (eC rfl (df (pv 0)) (show bV (aB oH) _ from⟨rfl,by decide +kernel,by decide +kernel,by decide +kernel⟩) (N:=["head","bits","breadth"]) (ix:=[none,none,some 3]) (show cT _ _ _ _ from⟨⟨rfl,rfl,.inl rfl⟩,trivial⟩) (λ_ _ _=>(lg (n:=2) rfl (cI (bt (i:=0) (show Bo (["head","bits","breadth"]:List Al) by decide +kernel) rfl (Ar rfl)) (cI (bt (i:=1) (show Bo (["head","bits","breadth"]:List Al) by decide +kernel) rfl (Ar rfl)) iQ)))) (λ_ _ _=>(aZ g (G.mono (by decide)) (by rfl) (ae (pv 0) (ae (pv 1) (ae (pv 2) aD)))))) aD))))))),
  (cU (bY.y (c_ (dR aE) bu (SO (aM (bX (aY (aA aE aJ)))))))
   (cU (VW (V0 i0 (by decide +kernel) (Sf i0 C (aA aE (aA aE aJ))) ⟨_,C.ex.choose_spec.1⟩))
   (VX (Se aE (zD i0 (dR aE) (k_ (cH bu (cH bu iM))) (Oj (λ_ h=>h.1) (aA aE (aA aE (aA aE aJ))))))))),?_⟩)
 rintro ds Pr ⟨xs,t,rfl,j,h1,k⟩;have Î:=j.2;gn_on;refine⟨λi δ=>∃O:Option Sl,δ=[vD (.lst (xs.map dX.d)),vI t,O,none],⟨none,rfl⟩,?_,?_⟩
 .rintro i d δ hd ⟨O,rfl⟩;rw[AH]at hd
  cases q:xs[i]? with
  |none=>rw[q]at hd;cases hd
  |some x=>
   rw[q]at hd;cases hd;fin2;exact⟨x,rfl,j.1 x (Ai q),_,rfl⟩
 rintro δ ⟨O,rfl⟩;gp_on;gn_on;refine⟨xs,t,rfl,rfl,j,h1,λrs S=>⟨xs,_,rs,_,rfl,rfl,j,S,λW hT m=>?_⟩⟩;have hn:=LK j (v:=W);have U:0<=W:=by
  rcases Im W 0 with z |z
  .have:=hn z xs.length (Ah _);lia
  .exact z
 clear hn;have sh:ZS xs t W (xs.map λx=>gr x.B W 0 (x.bs.length+1)):=by
  refine⟨Au _,λi x q=>?_,U,by lia,λu hu ht=>?_⟩
  .obtain ⟨k,e1,e2,J,e4⟩:=Vz (j.1 x (Ai q)) U;exact⟨k,by rw[AH,q,J];rfl,e2,J,e4⟩
  .have h3:=Rf j hu xs.length (Ah _);rcases Im u W with z |z
   .exact absurd (by lia) (m u z)
   .exact z
 clear hT m S;gp_on;fin2;have ek:OV.val (.nl (xs.map λx=>.fz (Um x.B W x.bs.length))) = .lst ((xs.map λx=>gr x.B W 0 (x.bs.length+1)).map λ(k:Nat)=>.int k):=by
  show D.lst (OV.vals _)=_
  rw[OV.c4,A9,A9];refine congrArg D.lst (B8 λx hm=>?_);obtain⟨k,e1,_,J,_⟩:=Vz (j.1 x hm) U;show Um x.B W x.bs.length=D.int (gr x.B W 0 (x.bs.length+1):Nat)
  rw[e1,J]
 refine⟨λi δ ts=>∃Q M:Option Sl,δ=[Q,M,vI W]/\ts=(xs.take i).map λx=>.fz (Um x.B W x.bs.length),⟨none,none,rfl,rfl⟩,?_,?_⟩
 .rintro i d δ ts hd ⟨Q,M,rfl,rfl⟩;obtain⟨x,q,rfl⟩:=mX hd;have hi:=(Ab.mp q).1;have o:=j.1 x (Ai q);refine⟨by rw[Au,BD];lia,?_⟩;simp only[dX.d];fin2;refine⟨x.h,x.w,x.L,x.n,x.fs,x.bs,W,x.B,rfl,o.ok,o.hw,o.n,o.l,o.b,_,_,rfl,?_⟩;rw[AO hi,A_,(Ab.mp q).2];rfl
 .rintro δ ts ⟨Q,M,rfl,rfl⟩;rw[Au,BC,ek];exact k W _ sh
theorem QW {h l r a s:Int}(h1:h=0∨h=1)(h2 : -8<=l/\l<=8)(f : -8<=r/\r<=8)(e : -64<=a/\a<=64)(c:0<=s/\s<=8):(⟨h,l,r,a,s⟩:Lf).Ok:=⟨h1,h2,f,e,c⟩
theorem YV (i:Int)(m:0<=i)(j:i<4):∃(k:Al) (fs:List Lf),kI [D.str "still",D.str "pair",D.str "line",D.str "long"] i=some (.str k)/\Xb.lookup k=some (eG fs)/\fs.length<=3/\∀f∈fs,f.Ok:=by
 have g:=QW (h:=1) (l:=-1) (r:=0) (a:=0) (s:=0) (.inr rfl) (by decide) (by decide) (by decide) (by decide);have e:=QW (h:=0) (l:=0) (r:=1) (a:=0) (s:=1) (.inl rfl) (by decide) (by decide) (by decide) (by decide);have O:=QW (h:=1) (l:=-1) (r:=-1) (a:=1) (s:=1) (.inr rfl) (by decide) (by decide) (by decide) (by decide);have o:=QW (h:=0) (l:=1) (r:=1) (a:=2) (s:=2) (.inl rfl) (by decide) (by decide) (by decide) (by decide);have c:=QW (h:=1) (l:=-1) (r:=-1) (a:=4) (s:=3) (.inr rfl) (by decide) (by decide) (by decide) (by decide);rcases (show i=0∨i=1∨i=2∨i=3 by lia) with rfl |rfl |rfl |rfl
 .exact ⟨"still",[],rfl,rfl,by decide,(λf hf=>by cases hf)⟩
 .refine ⟨"pair",[⟨1,-1,0,0,0⟩,⟨0,0,1,0,1⟩],rfl,rfl,by decide,λf hf=>?_⟩;simp only[AJ,DW,or_false]at hf;rcases hf with rfl |rfl
  .exact g
  .exact e
 .refine ⟨"line",[⟨1,-1,-1,1,1⟩,⟨0,1,1,2,2⟩],rfl,rfl,by decide,λf hf=>?_⟩;simp only[AJ,DW,or_false]at hf;rcases hf with rfl |rfl
  .exact O
  .exact o
 .refine ⟨"long",[⟨1,-1,-1,1,1⟩,⟨0,1,1,2,2⟩,⟨1,-1,-1,4,3⟩],rfl,rfl,by decide,λf hf=>?_⟩;simp only[AJ,DW,or_false]at hf;rcases hf with rfl |rfl |rfl
  .exact O
  .exact o
  .exact c
theorem T4 {n j:Nat}(h:j<n):qL n (j:Int)=some j:=by
 unfold qL;rw[if_pos (by omega)];simp[h]
theorem wZ {a:Type}(f:Int->a)(ys:List Int):ys.map f=tab ys.length λi=>f (ys.getD i 0):=by
 rw[<- fm (f:=λi=>ys.getD i 0) (g:=f),vO]
theorem V' {h w L n:Nat}{fs:List Lf}{bs:List Bool}{e:Nat->Nat->Int}{v:Wk}(ok:∀f∈fs,f.Ok)(G:0<h)(hh:h<=64)(q:0<w)(hw:w<=64)(hL:L<=6)(Q:h*w<=400)(hn:n<=4000)(z:bs.length<=900000)
  (F:jm (Mc (h*w) n) bs v) (S:kb ((h*w:Nat):Int) v) (C:de (gx h w e fs L) v) (r:v.pl<0) (U:v.us=bs.length):∃x:dX,x.Ok/\x.d = .tup [y7 h w L n fs,.str (dd bs)]:=by
 have l:0<h*w:=Ha G q;have g:∀i j,i<h->j<w->eS h w L fs v i j=(e i j,e i j):=λi j hi J=>x_ ok S C r hi J
 have a:∀c:Nat,c<=bs.length->∃u,At h w L n e fs bs c u:=λc hc=>ZQ ok l Q (by lia) F S r U g hc
 obtain⟨B,p⟩:=XH (h:=h) (w:=w) (L:=L) (n:=n) (fs:=fs) (bs:=bs) G q λc hc=>let⟨u,A⟩:=a c hc;⟨u,A.f,A.s⟩
 refine⟨⟨h,w,L,n,fs,bs,B⟩,⟨ok,⟨G,by lia,q,by lia,hL⟩,by lia,by lia,p,λm k M o=>?_,?_,⟨v,F,r,U⟩,z,λc hc=>?_⟩,rfl⟩
 .obtain ⟨u,A⟩:=a m (Bv M o);obtain⟨u',A'⟩:=a k o;obtain⟨_,t⟩:=UB ok l Q A A' M;obtain⟨y,f1,_,O⟩:=p m (Bv M o);obtain⟨y',f2,_,b2⟩:=p k o
  cases l' f1 A.f
  cases l' f2 A'.f
  obtain⟨⟨i,j,hi,J,T⟩,_⟩:=b2;have z1:=O.2 i j hi J;have z2:=t i j hi J;obtain⟨z3,_,z5⟩:=z2;show B k<=B m
  lia
 .obtain ⟨y,f1,_,O⟩:=p bs.length (Ah _);rw[BC]at f1
  cases l' f1 F
  obtain⟨⟨i,j,hi,J,T⟩,_⟩:=O;rw[g i j hi J]at T;show B bs.length=0
  lia
 .obtain ⟨u,A⟩:=a c (Ew hc);have:=A.wh;rw[decide_eq_false (show ¬ c=bs.length from Bm hc)]at this;exact⟨u,A.f,by simpa using this⟩
theorem ϊ:∀{p:Nat},p<=4->iW ((p:Int)+1)<=2000000
 | 0,_=>by decide +kernel
 | 1,_=>by decide +kernel
 | 2,_=>by decide +kernel
 | 3,_=>by decide +kernel
 | 4,_=>by decide +kernel
 |n+5,h=>absurd h (by lia)
theorem uc:∀ks:List Nat,(ks.map λ(k:Nat)=>(k:Int)).sum=((ks.sum:Nat):Int)
 | []=>rfl
 |k::ks=>by rw[BJ,Ik,uc ks,Ik];lia
theorem zX {xs:List dX}{ks:List Nat}{v:Int}(hl:ks.length=xs.length)(h:∀(i:Nat) (x:dX) (k:Nat),xs[i]?=some x->ks[i]?=some k->gr x.B v 0 (x.bs.length+1)<=k):∀n,n<=xs.length->LL xs v n<=(ks.take n).sum
 | 0,_=>Ah _
 |n+1,hn=>by
  have a:=Ad (show n<xs.length by lia);have c:=Ad (show n<ks.length by lia);have h1:=h n _ _ a c;have h2:=zX hl h n (by lia);have e:oE xs n=(xs[n]).B:=by funext m;rw[oE,en a]
  rw[AO (by lia),Ex,Hu,LL,e,sC,en a];lia
theorem vQ {xs:List dX}{ks:List Nat}{v:Int}(hl:ks.length=xs.length)(h:∀(i:Nat) (x:dX) (k:Nat),xs[i]?=some x->ks[i]?=some k->k=gr x.B v 0 (x.bs.length+1)):∀n,n<=xs.length->(ks.take n).sum=LL xs v n
 | 0,_=>rfl
 |n+1,hn=>by
  have a:=Ad (show n<xs.length by lia);have c:=Ad (show n<ks.length by lia);have h1:=h n _ _ a c;have h2:=vQ hl h n (by lia);have e:oE xs n=(xs[n]).B:=by funext m;rw[oE,en a]
  rw[AO (by lia),Ex,Hu,LL,e,sC,en a];lia
theorem Xs {f:Nat->Int}{v:Int}{L k:Nat}(F:∀m n,m<=n->n<=L->f n<=f m)(a:k<=L)(h:f k<=v):gr f v 0 (L+1)<=k:=by
 rw[show L+1=k+(L+1-k) by lia,j6,kn (s:=0+k) λj J=>?_]
 .exact tz _ _ _ _
 .have:=F k (0+k+j) (by lia) (by lia);lia
def kN:dF:=λds P=>∃(ns:List Int) (p:Nat) (c:Int),ds=[.lst (ns.map .int),.int p,.int c]/\ns.length<=63/\(∀m∈ns,iW m<=1048576)/\p<=4/\∀x:dX,x.Ok->P (.fz x.d)
def i6:dF:=λds P=>∃(xs:List dX) (ks:List Nat),ds=[.lst (xs.map dX.d),.lst (ks.map λ(k:Nat)=>.int k)]/\vz xs/\ks.length=xs.length/\(∀(i:Nat) (x:dX) (k:Nat),xs[i]?=some x->ks[i]?=some k->k<=x.bs.length)/\∀M:Int,0<=M->(∀(i:Nat) (x:dX) (k:Nat),xs[i]?=some x->ks[i]?=some k->x.B k<=M)->(M=0∨∃(i:Nat) (x:dX) (k:Nat),xs[i]?=some x/\ks[i]?=some k/\x.B k=M)->P (.fz (.int M))
noncomputable abbrev eT:AZ:=top 100
theorem cj:aQ ["_law_script","_law_place","_law_cell","_law_wide","_law_most","_law_cells","_law_k","_law_at","_law_more","_law_row","_law_ladder"] ["_law_script","_law_place","_law_cell"] (aB eT):=by walk_at "S"
noncomputable abbrev gf:AZ:=top 101
theorem dH:aQ ["_law_streams","_law_cuts","_law_most","_law_k","_law_some"] ["_law_streams","_law_cuts"] (aB gf):=by walk_at "S"
noncomputable abbrev K4:AZ:=top 102
theorem iF:aQ ["_law_script","_law_many","_law_streams","_law_cuts","_law_k","_law_total","_law_most","_law_shared"] ["_law_script"] (aB K4):=by walk_at "S"
theorem oi {f:Ac}{fd:Ak}(G:bL K mg "_law_greatest" gf f fd)(B:b9 mg)(KV:bZ K)(r:cg P w K mg base "broad" 8 ["head","bits","many"] (b7 K 3 jz)):
  cg P w K mg base "_law_greatest" 9 ["_law_streams","_law_cuts"] (b7 K 2 i6):=by
 refine cZ.of G dH (by walk_at "b") rfl (λc A o s H E v=>⟨_,_,(aG (bp (i:=2) dH.nd rfl (Ar rfl) aK)
   (aG (cX AG rfl (dh (by rfl) (by exact B.range) (ae (aW bo (by rfl) B.len Bh (ae (pv 0) aD)) aD)) (bt (i:=3) dH.nd rfl (Ar rfl)) (aG (bp (i:=4) dH.nd rfl (Ar rfl) (aZ r (v.mono (by decide)) (by rfl) (ae (aR aS (aR bK (pv 0) (pv 3) (λ_ _=>rfl)) aK (λ_ _=>rfl)) (ae (aR aS (aR bK (pv 0) (pv 3) (λ_ _=>rfl)) aK (λ_ _=>rfl)) (ae (aR bK (pv 1) (pv 3) (λ_ _=>rfl)) aD)))))
   (aH (cu (bQ nL (pv 4) (pv 2) (bJ _)) (aH (bp (i:=2) dH.nd rfl (Ar rfl) (pv 4))) bM))))
   (aH (aX (pv 2))))),
  (aT (bB (br aF))
   (aT (c_ (eW (aI (aM (bT cR (aI aC aO))) aO)) bu (aT (bB (br (bX (aY (aA (bF aU (bF cn aE aE) aF) (aA (bF aU (bF cn aE aE) aF) (aA (bF cn aE aE) aJ)))))))
   (cz (bO (aP dq aC aC)) (bB (br aE)) bP)))
   (a_ (br aE)))),?_⟩)
 rintro ds Q ⟨xs,ks,rfl,u,hl,C,k⟩;have L:=u.2;gn_on;gp_on;gn_on;refine⟨⟨by lia,by lia⟩,?_⟩;rw[AQ];refine⟨λi δ=>∃(M:Int) (n O:Option Sl),δ=[vD (.lst (xs.map dX.d)),vD (.lst (ks.map λ(k:Nat)=>.int k)),vI M,n,O]/\0<=M/\(∀j:Nat,j<i->∀(x:dX) (k:Nat),xs[j]?=some x->ks[j]?=some k->x.B k<=M)/\(M=0∨∃(i:Nat) (x:dX) (k:Nat),xs[i]?=some x/\ks[i]?=some k/\x.B k=M),⟨0,none,none,rfl,Ba _,λ_ h=>absurd h (DV _),.inl rfl⟩,?_,?_⟩
 .rintro i d δ hd ⟨M,n,O,rfl,t,m,q⟩;obtain⟨hi,rfl⟩:=dS hd;rw[show (0:Int)+(i:Int)*1=(i:Int) by lia];have a:=Ad hi;have e:=Ad (show i<ks.length by lia);have p:=C i _ _ a e;gn_on;refine⟨_,lr a,?_⟩;simp only[dX.d];fin2;refine⟨_,lr a,?_⟩;simp only[dX.d];fin2;refine⟨.int (ks[i]:Nat),dg (by rw[AH,e];rfl),RQ (u.1 _ (BH hi)) p ?_⟩;dsimp only[OV.val];gp_on;fin2;split
  .rename_i h;refine⟨_,_,_,rfl,by lia,λj J x k g l=>?_,.inr ⟨i,_,_,a,e,rfl⟩⟩;by_cases z:j=i
   .subst z;rw[a]at g;cases g;rw[e]at l;cases l;exact Ba _
   .have:=m j (by lia) x k g l;lia
  .rename_i h;refine⟨_,_,_,rfl,t,λj J x k g l=>?_,q⟩;by_cases z:j=i
   .subst z;rw[a]at g;cases g;rw[e]at l;cases l;lia
   .exact m j (by lia) x k g l
 .rintro δ ⟨M,n,O,rfl,t,m,q⟩;rw[dz]at m;gp_on;fin2;exact k M t (λi x k g l=>m i (Ab.mp g).1 x k g l) q
theorem rH {f:Ac}{fd:Ak}(Df:bL K mg "_law_stream" eT f fd)(B:b9 mg)(KV:bZ K)(l:cg P w K mg base "ladder_of" 1 ["name"] (b7 K 1 iy))(O:zC P w K mg base "coded" 6 ["picture","ladder","levels"] (b7 K 3 pD) [.cB,.int 2]):
  cg P w K mg base "_law_stream" 7 ["_law_script","_law_place","_law_cell"] (b7 K 3 kN):=by
 refine cZ.of Df cj (by walk_at "b") rfl (λc A o s H E hr=>⟨_,_,(aG (bp (i:=3) cj.nd rfl (Ar rfl) (aV cq (aV cq aK (aV fE (pv 2) aK)) (aV eZ (aV fE (aV eZ (pv 2) aK) aK) aK)))
   (aG (bp (i:=4) cj.nd rfl (Fm rfl) aK)
   (aG (cu (yw (bQ gw (pv 1) aK (bJ _)) (uL (bQ gw (aV fE (aV eZ (pv 2) aK) aK) aK (bJ _)))).pt (aG (bp (i:=3) cj.nd rfl (Ar rfl) aK)
   (aH (bp (i:=4) cj.nd rfl (Fm rfl) (aV WR aK aK)))) bM)
   (aG (bp (i:=5) cj.nd rfl (Ar rfl) (aV yE (c8 (ae aK aD)) (pv 3)))
   (aG (cX AG rfl (dh (by rfl) (by exact B.range) (ae (aW bo (by rfl) B.len Bh (ae (pv 0) aD)) aD)) (bt (i:=6) cj.nd rfl (Ar rfl)) (aG (bp (i:=7) cj.nd rfl (Ar rfl) (aV fE (pv 6) (pv 3)))
   (aG (bp (i:=8) cj.nd rfl (Ar rfl) (aV cq (aV Ti (aR bK (pv 0) (pv 6) (λ_ _=>rfl)) (aV cq (pv 1) aK)) (pv 1)))
   (aH (mM (aV fE (aV cq (aV gv (aR bK (pv 5) (pv 7) (λ_ _=>rfl)) aK) (pv 8)) (aV cq (aV gv aK (pv 4)) aK)) (qe (pv 5) (pv 7) h8))))))
   (aG (gn (i:=9) cj.nd rfl (Ar rfl) rfl (df (pv 5)) (show bV (aB eT) _ from⟨rfl,by decide +kernel,by decide +kernel,by decide +kernel⟩) (N:=["_law_one","_law_most"]) (ix:=[none,some 4]) (show cT _ _ _ _ from⟨⟨rfl,rfl,.inl rfl⟩,trivial⟩) (λ_ _ _=>(bt (i:=0) (show Bo (["_law_one","_law_most"]:List Al) by decide +kernel) rfl (Ar rfl))) (λ_ _ _=>(aV di (pv 0) (pv 1))))
   (aG (bp (i:=10) cj.nd rfl (Ar rfl) (aZ l (hr.mono (by decide)) (by rfl) (ae (aR bK (c8 (ae iR (ae iR (ae iR (ae iR aD))))) (aV fE (aV eZ (pv 2) aK) aK) (λ_ _=>rfl)) aD)))
   (aG (cu (bQ gw (aV fE (aV eZ (pv 2) aK) aK) aK (bJ _)) (aH (aX (aZ O.Ġ (hr.mono (by decide)) (by rfl) (ae (eC rfl (df (pv 9)) (show bV (aB eT) _ from⟨rfl,by decide +kernel,by decide +kernel,by decide +kernel⟩) (N:=["_law_one"]) (ix:=[none]) (show cT _ _ _ _ from trivial) (λ_ _ _=>(bt (i:=0) (show Bo (["_law_one"]:List Al) by decide +kernel) rfl (Ar rfl))) (λ_ _ _=>(c8 (ae (pv 0) aD)))) (ae (pv 10) (ae (aV fE (aV eZ (pv 2) aK) aK) aD)))))) bM)
   (aH (aX (aZ O.Ġ (hr.mono (by decide)) (by rfl) (ae (c8 (ae (pv 9) aD)) (ae (pv 10) (ae (aV fE (aV eZ (pv 2) aK) aK) aD (jt (by intro _ _ h;cases h))) (jt (by intro _ _ h;cases h))) (jt (by intro _ _ h;cases h)))))))))))))),
  (aT (bB (br (aP bU (aM (aP bU (aM aF) (aM (aP cG aC (aM aF))))) (aM (aP cG (aM (aP cG (aM (aP cG aC (aM aF))) (aM aF))) (aM aF))))))
   (aT (bB (br aF))
   (aT (cz (yj (bO (aP gL aC (aM aF))) (bO (aP gL (aM (aP cG (aM (aP cG aC (aM aF))) (aM aF))) (aM aF)))) (aT (bB (br aF))
   (bB (br (aP cG (aM aF) (aM aF))))) bP)
   (aT (bB (uD (d3 (ey (br aF) c7)) aC))
   (aT (c_ (eW (aI (aM (bT cR (aI aC aO))) aO)) bu (aT (bB (br (aP cG aC aC)))
   (aT (bB (br (aP bU (aM (aP cG (bx (dm.b cn) aC aC) (aM (aP bU aC (aM aF))))) aC)))
   (yk (br (aP cG (aM (aP bU (aM (aP cG (bx (dm.b cn) aC aC) (aM aF))) aC)) (aM (aP bU (aM (aP cG (aM aF) aC)) (aM aF))))) aC))))
   (aT (bB (br (bX (v8 aC (br (aP bU aC aC))))))
   (aT (bB (br (bX (aY (aA (bF cn (bX (d3 (ey (br iN) (ey (br iN) (ey (br iN) (ey (br iN) c7)))))) (aP cG (aM (aP cG aC (aM aF))) (aM aF))) aJ)))))
   (aT (cz (bO (aP gL (aM (aP cG (aM (aP cG aC (aM aF))) (aM aF))) (aM aF))) (a_ (aY (aA (bX (dQ (dR aE) bu (d3 (ey (br aE) c7)))) (aA aE (aA (aP cG (aM (aP cG aC (aM aF))) (aM aF)) aJ))))) bP)
   (a_ (aY (aA (bX (d3 (ey (br aE) c7))) (aA aE (aA (aP cG (aM (aP cG aC (aM aF))) (aM aF)) aJ))))))))))))),?_⟩)
 rintro ds Pr ⟨ns,p,c,rfl,ņ,hb,hp,k⟩;gn_on;have ό:1<=1+c%2+c / 2%8 / 7/\1+c%2+c / 2%8 / 7<=3:=by lia
 generalize 1+c%2+c / 2%8 / 7=g at ό;gp_on;gn_on;gp_on;gn_on;have go : ∀(g M:Nat),1<=g->g<=3->M<=1000000->N [vD (.lst (ns.map D.int)),vI p,vI c,vI g,vI M,none,none,none,none,none,none]:=λg M w1 w3 hmo=>by
  gp_on;gn_on;refine⟨⟨by lia,by lia⟩,?_⟩;rw[AQ];gp_on;gn_on;refine⟨⟨by lia,by lia⟩,?_⟩;rw[AQ];refine⟨λi δ=>∃(m:List Int) (o6 o7 o8:Option Sl),δ=[vD (.lst (ns.map D.int)),vI p,vI c,vI g,vI M,vL (m.map λx=>.fz (.int x)),o6,o7,o8,none,none]/\m.length=g/\∀x∈m,0<=x/\x<=2*(M:Int),⟨An g 0,none,none,none,by rw[DQ],Bs,λx J=>by rw[(CG.mp J).2];lia⟩,?_,?_⟩
  .rintro i d δ hd ⟨m,o6,o7,o8,rfl,t,r⟩;obtain⟨hi,rfl⟩:=dS hd;rw[show (0:Int)+(i:Int)*1=(i:Int) by lia];gn_on;refine⟨by lia,?_⟩;have ea:(i:Int)%(g:Int)=(i%g:Nat):=rfl;have yZ:=Nat.mod_lt i (show 0<g by lia);rw[ea];generalize i%g=a at yZ;gp_on;gn_on;have Ð:=Ad hi;refine⟨.int ns[i],dg (by rw[AH,Ð];rfl),?_⟩;dsimp only;have Ϙ:iW ((p:Int)+1)<=2000000:=ϊ hp;refine⟨⟨Bv (hb _ (BH hi)) (by decide),Ϙ⟩,?_⟩;generalize ns[i]*((p:Int)+1)+p=more;gp_on;fin2;have ϲ:=Ad (show a<m.length by lia);have hcb:=r _ (BH (show a<m.length by lia));refine⟨.int m[a],dg (by rw[AH,ϲ];rfl),?_⟩;dsimp only;have h0:=Ix (m[a]*7+more) (show (2*(M:Int)+1)≠0 by lia);have h1:=HH (m[a]*7+more) (show (0:Int)<2*(M:Int)+1 by lia);refine⟨.inl ⟨by lia,by lia⟩,by lia,a,T4 (show a<m.length by lia),_,_,_,_,rfl,by rw[Bi];exact t,λx J=>?_⟩;rcases List.mem_or_eq_of_mem_set J with z |z
   .exact r x z
   .rw [z];lia
  .rintro δ ⟨m,o6,o7,o8,rfl,t,r⟩;gp_on;gn_on;refine gA.YZ m D.int (λx=>.fz (.int (x-M))) (by lia) (λx _ Q q=>?_) ?_
   .fin2;exact q
   obtain⟨ys,u,G,ϋ⟩:∃ys:List Int,m.map (λx=>x-(M:Int))=ys/\ys.length=g/\∀y∈ys,-1000000<=y/\y<=1000000:=⟨_,rfl,by rw[Au,t],λy hy=>by
    obtain⟨x,J,rfl⟩:=Bf.mp hy;have:=r x J;lia⟩
   rw[show OV.val (.nl (m.map λx=>.fz (.int (x-(M:Int))))) = .lst (ys.map .int) by show D.lst (OV.vals _)=_;rw[OV.c4,<- u,A9,A9];rfl];clear u r t;gp_on;gn_on;obtain⟨nm,fs,q1,q2,ϯ,ok⟩:=YV (c / 80%4) (by lia) (by lia);refine⟨_,q1,nm,_,rfl,q2,?_⟩;obtain⟨L,U,hL3⟩:∃L:Nat,c / 320%3=L/\L<=2:=⟨(c / 320%3).toNat,by lia,by lia⟩
   dsimp only[OV.val];gp_on;have h60:10*fs.length*L<=60:=by
    have:=Dd (C8 10 ϯ) (show L<=2 by lia);lia
   have T:∀i,-2^20<=ys.getD i 0/\ys.getD i 0<=2^20:=λi=>by
    rw[Aj]
    cases q:ys[i]? with
    |none=>exact⟨by decide,by decide⟩
    |some y=>
     have:=ϋ y (Ai q);exact⟨by show -2^20<=y;lia,by show y<=2^20;lia⟩
   have kG:∀(h w:Nat) (e:Nat->Nat->Int),0<h->h<=3->0<w->w<=3->(∀i j,-2^20<=e i j/\e i j<=2^20)->pD [R6 h w e,eG fs,.int L] Pr:=λh w e h0 hh w0 hw he=>by
    have hm:h*w<=9:=Dd hh hw;refine⟨h,w,e,fs,L,20,rfl,by lia,ok,by lia,h0,by lia,w0,by lia,by decide,by decide,he,?_,λn bs v _ _ hn _ F hv S C ā ĕ=>?_⟩
    .have:=Dd (C8 3 hm) (show 20+10*fs.length*L+1<=81 by lia);lia
    .have Î:=wN (h:=h) (w:=w) (L:=L) (e:=e) (fs:=fs);rw[Î]at F S;obtain⟨x,o,ex⟩:=V' ok h0 (by lia) w0 (by lia) (by lia) (by lia) (by lia) (by lia) F S C hv ā;have:=k x o;rw[ex]at this;exact this
   gn_on;rw[U];split
   .refine gA.map ys D.int (λy=>.nl [.fz (.int y)]) (by lia) (λy _ Q q=>?_) ?_
    .fin2;exact q
    have ev:OV.val (.nl (ys.map λy=>.nl [.fz (.int y)]))=R6 g 1 λi _=>ys.getD i 0:=by
     show D.lst (OV.vals _)=D.lst _
     rw[OV.c4,A9,wZ,G];rfl
    rw[ev];exact kG g 1 _ (by lia) w3 (by decide) (by decide) λi _=>T i
   .gp_on;fin2;rw[U];have ev:D.lst [D.lst (ys.map D.int)]=R6 1 g λ_ j=>ys.getD j 0:=by
     rw[wZ,G];rfl
    rw[ev];exact kG 1 g _ (by decide) (by decide) (by lia) w3 λ_ j=>T j
 split
 .split
  .exact go 1 1000000 (by decide) (by decide) (by decide)
  .have:=go g.toNat 3 (by lia) (by lia) (by decide);rw[BW (by lia)]at this;exact this
 .have:=go g.toNat 3 (by lia) (by lia) (by decide);rw[BW (by lia)]at this;exact this
theorem WX {f T T':Ac}{fd:Ak}(Df:bL K mg "law" K4 f fd)(B:b9 mg)(KV:bZ K)(a:cg P w K mg base "_law_cell_at" 1 ["_law_script","_law_k"] (b7 K 2 jw))(t:cg P w K mg base "_law_stream" 7 ["_law_script","_law_place","_law_cell"] (b7 K 3 kN))(C:cg P w K mg base "share" 14 ["streams","total"] (Su K 2 (L6 T T') vU))(g:cg P w K mg base "_law_greatest" 9 ["_law_streams","_law_cuts"] (b7 K 2 i6)):
  fK P w K mg base jh 15 f fd ["_law_script"] (oG K T ⟨305,4,306,49⟩ "enough.<locals>.fits" T' ⟨342,36,342,90⟩ "Search.put.<locals>.<lambda>"):=by
 refine QY Df iF (λc A o s H E Q=>⟨_,_,(aG (bp (i:=1) iF.nd rfl (Ar rfl) (aV cq aK (aV fE (aZ a (Q.mono (by decide)) (by rfl) (ae (pv 0) (ae aK aD))) aK)))
   (aG (gn (i:=2) iF.nd rfl (Ar rfl) rfl (dh (by rfl) (by exact B.range) (ae (pv 1) aD)) (show bV (aB K4) _ from⟨rfl,by decide +kernel,by decide +kernel,by decide +kernel⟩) (N:=["_law_k","_law_script"]) (ix:=[none,some 0]) (show cT _ _ _ _ from⟨⟨rfl,rfl,.inl rfl⟩,trivial⟩) (λ_ _ _=>(bt (i:=0) (show Bo (["_law_k","_law_script"]:List Al) by decide +kernel) rfl (Ar rfl))) (λ_ _ _=>(aZ t (Q.mono (by decide)) (by rfl) (ae (pv 1) (ae (pv 0) (ae (aZ a (Q.mono (by decide)) (by rfl) (ae (pv 1) (ae (aV cq aK (pv 0)) aD))) aD))))))
   (aG (bp (i:=3) iF.nd rfl (Ar rfl) (c8 aD))
   (aG (cX AG rfl (dh (by rfl) (by exact B.range) (ae (pv 1) aD)) (bt (i:=4) iF.nd rfl (Ar rfl)) (aH (bR (gs Bd PySem.F.slot_list_append PySem.F.type_list_append dj (pv 3) (ae (aV fE (aZ a (Q.mono (by decide)) (by rfl) (ae (pv 0) (ae (aV cq aK (pv 4)) aD))) (aV cq (aW dD (by rfl) B.len Bh (ae (aR aS (aR bK (pv 2) (pv 4) (λ_ _=>rfl)) aK (λ_ _=>rfl)) aD)) aK)) aD)))))
   (aG (bp (i:=5) iF.nd rfl (Ar rfl) (aV cq (aW nh (by rfl) B.sum J2 (ae (pv 3) aD)) (aV fE (aZ a (Q.mono (by decide)) (by rfl) (ae (pv 0) (ae aK aD))) aK)))
   (aG (mM (aZ C (Q.mono (by decide)) (by rfl) (ae (pv 2) (ae (pv 5) aD))) (lg (n:=2) rfl (cI (bt (i:=6) iF.nd rfl (Ar rfl)) (cI (bt (i:=7) iF.nd rfl (Ar rfl)) iQ))))
   (aG (cu (p' (bQ Ql (aW bo (by rfl) B.len Bh (ae (pv 7) aD)) (pv 1) (bJ _)) (lb (bQ nL (aW nh (by rfl) B.sum J2 (ae (pv 7) aD)) (pv 5) (bJ _)))).pt (aH (aX nJ)) bM)
   (aG (cX AG rfl (dh (by rfl) (by exact B.range) (ae (pv 1) aD)) (bt (i:=4) iF.nd rfl (Ar rfl)) (aH (cu (eu (P7 wH wH aK (aR bK (pv 7) (pv 4) (λ_ _=>rfl)) (aW dD (by rfl) B.len Bh (ae (aR aS (aR bK (pv 2) (pv 4) (λ_ _=>rfl)) aK (λ_ _=>rfl)) aD)))) (aH (aX nJ)) bM)))
   (aG (cu (bQ nL (aZ g (Q.mono (by decide)) (by rfl) (ae (pv 2) (ae (pv 7) aD))) (pv 6) (bJ _)) (aH (aX nJ)) bM)
   (aH (aX (eD Ln (aZ g (Q.mono (by decide)) (by rfl) (ae (pv 2) (ae (pv 3) aD))) (pv 6) (bJ _))))))))))))),
  (cU (bY.y (bB (br (aP bU (aM aF) (aM (aP cG (aM (bX (aY (aA aE (aA aF aJ))))) (aM aF)))))))
   (cU (bY.y (bB (br (bX (dQ (eW (aI aC aO)) bu (aY (aA aE (aA aE (aA (bX (aY (aA aE (aA (aP bU (aM aF) aC) aJ)))) aJ)))))))))
   (cU (bY.y (bB (d3 c7)))
   (cU (bY.y (c_ (eW (aI aC aO)) bu (ym (br (aP cG (aM (bX (aY (aA aE (aA (aP bU (aM aF) aC) aJ))))) (aM (aP bU (aM (bT iY (aI (bx (dm.b aU) (bx (dm.b cn) aC aC) (aM aF)) aO))) (aM aF))))))))
   (cU (bY.y (bB (br (aP bU (aM (bT zw (aI aC aO))) (aM (aP cG (aM (bX (aY (aA aE (aA aF aJ))))) (aM aF)))))))
   (cU (VZ (zE i0 (λ_ h=>h) (aA aE (aA aE aJ))) (k_ (cH bu (cH bu iM))))
   (cU (bY.y (cz (pS (bO (aP QD (aM (bT cR (aI aC aO))) aC)) (bO (aP dq (aM (bT zw (aI aC aO))) aC))) (a_ (br nG)) bP))
   (cU (bY.y (c_ (eW (aI aC aO)) bu (cz (et (bO (wa dq dq (aM aF) (bx (dm.b cn) aC aC) (aM (bT iY (aI (bx (dm.b aU) (bx (dm.b cn) aC aC) (aM aF)) aO)))))) (a_ (br nG)) bP)))
   (cU (bY.y (cz (bO (aP dq (aM (bX (aY (aA aE (aA aE aJ))))) aC)) (a_ (br nG)) bP))
   (bY.y (a_ (br (aP dq (aM (bX (eV (aI aC (aI aC aO))))) aC))))))))))))),?_⟩)
 intro ns ņ hb;gn_on;refine⟨ns,0,rfl,by decide,?_⟩;fin2;obtain⟨m,hm,m1,m3⟩:∃m:Nat,1+ns.getD 0 0%3=m/\1<=m/\m<=3:=⟨(1+ns.getD 0 0%3).toNat,by lia,by lia,by lia⟩
 rw[hm];clear hm;gp_on;gn_on;refine⟨⟨by lia,by lia⟩,?_⟩;rw[AQ];refine⟨λi δ ts=>∃(xs:List dX) (o0:Option Sl),δ=[o0,vD (.lst (ns.map D.int))]/\ts=xs.map (λx=>.fz x.d)/\xs.length=i/\∀x∈xs,x.Ok,⟨[],none,rfl,rfl,rfl,λ_ h=>(by cases h)⟩,?_,?_⟩
 .rintro i d δ ts hd ⟨xs,o0,rfl,rfl,hl,ok⟩;obtain⟨hi,rfl⟩:=dS hd;refine⟨by rw[Au];lia,?_⟩;rw[show (0:Int)+(i:Int)*1=(i:Int) by lia];fin2;refine⟨ns,1+i,rfl,by lia,?_⟩;fin2;refine⟨ns,i,_,rfl,ņ,hb,by lia,λx o=>⟨xs++[x],_,rfl,by rw[A_];rfl,by rw[AF,hl];rfl,λy hy=>?_⟩⟩;rcases AB.mp hy with z |z
  .exact ok y z
  .rw [A3.mp z];exact o
 rintro δ ts ⟨xs,o0,rfl,rfl,hl,ok⟩;rw[dz]at hl;rw[show OV.val (.nl (xs.map λx=>.fz x.d)) = .lst (xs.map dX.d) by show D.lst (OV.vals _)=_;rw[OV.c4,A9];rfl];have hx:vz xs:=⟨ok,by lia⟩
 gp_on;gn_on;gp_on;gn_on;refine⟨⟨by lia,by lia⟩,?_⟩;rw[AQ];refine⟨λi δ=>∃(ks:List Nat) (O:Option Sl),δ=[vD (.lst (ns.map D.int)),vI m,vD (.lst (xs.map dX.d)),vL (ks.map λ(k:Nat)=>.fz (.int k)),O,none,none,none]/\ks.length=i/\∀(j:Nat) (x:dX) (k:Nat),xs[j]?=some x->ks[j]?=some k->k<=x.bs.length,⟨[],none,rfl,rfl,λj x k _ h=>by cases h⟩,?_,?_⟩
 .rintro i d δ hd ⟨ks,O,rfl,L,hk⟩;obtain⟨hi,rfl⟩:=dS hd;rw[show (0:Int)+(i:Int)*1=(i:Int) by lia];have p:=Ad (show i<xs.length by lia);fin2;refine⟨by lia,ns,4+i,rfl,by lia,?_⟩;fin2;refine⟨_,lr p,?_⟩;simp only[dX.d];fin2;rw[c0];have ĕ:=(ok _ (Ai p)).l;refine⟨ĕ,by lia,?_⟩;generalize ns.getD (4+(i:Int)).toNat 0=cc;have f0:=Ix cc (show ((xs[i]).bs.length:Int)+1≠0 by lia);have f1:=HH cc (show (0:Int)<((xs[i]).bs.length:Int)+1 by lia);generalize cc%(((xs[i]).bs.length:Int)+1)=k at f0 f1;obtain⟨k,rfl⟩:∃z:Nat,k=z:=⟨k.toNat,by lia⟩
  refine⟨ks++[k],_,by rw[A_];rfl,by rw[AF,L];rfl,λj x k' r e=>?_⟩;by_cases z:j<ks.length
  .rw [AW z]at e;exact hk j x k' r e
  .rw [Bb (by lia)]at e;have hj:j=i:=by
    have:=(Ab.mp e).1;rw[BM]at this;lia
   rw[hj,L,EX]at e;rw[hj,p]at r
   cases r;cases e
   lia
 rintro δ ⟨ks,O,rfl,L,hk⟩;rw[dz]at L;gp_on;gn_on;refine⟨ks.map λ(k:Nat)=>(k:Int),by rw[A9,A9];rfl,ns,7,rfl,by decide,?_⟩;fin2;rw[uc];have q0:0<=ns.getD 7 0%4:=by lia
 generalize ns.getD 7 0%4=q at q0;obtain⟨q,rfl⟩:∃z:Nat,q=z:=⟨q.toNat,by lia⟩
 rw[show ((ks.sum:Nat):Int)+(q:Int)=((ks.sum+q:Nat):Int) by lia];have Ą:ks.sum<=ks.sum+q:=CQ _ _;generalize ks.sum+q=U at Ą;gp_on;gn_on;refine⟨xs,U,rfl,hx,by lia,λW G sh=>?_⟩;have J:=sh.len;have u:∀(i:Nat) (x:dX) (k:Nat),xs[i]?=some x->G[i]?=some k->k<=x.bs.length/\k=gr x.B W 0 (x.bs.length+1)/\x.B k<=W:=λi x k r e=>by
  obtain⟨k',a1,a2,a3,a4,_⟩:=sh.at_ i x r;rw[e]at a1;cases a1;exact⟨a2,a3,a4⟩
 have ϩ:=vQ J (λi x k r e=>(u i x k r e).2.1) xs.length (Ah _);rw[<- J,BC,J]at ϩ;have ϐ:=sh.sum;dsimp only[OV.val];fin2;gp_on;gn_on;rw[if_neg (by rw[decide_eq_true (show (G.length:Int)=m by lia)];decide)];refine⟨G.map λ(k:Nat)=>(k:Int),by rw[A9];rfl,?_⟩;rw[uc,if_neg (by lia)];gp_on;gn_on;refine⟨⟨by lia,by lia⟩,?_⟩;rw[AQ];refine⟨λi δ=>∃O:Option Sl,δ=[vD (.lst (ns.map D.int)),vI m,vD (.lst (xs.map dX.d)),vL (ks.map λ(k:Nat)=>.fz (.int k)),O,vI U,vI W,vD (.lst (G.map λ(k:Nat)=>.int k))],⟨O,rfl⟩,?_,?_⟩
 .rintro i d δ hd ⟨O,rfl⟩;obtain⟨hi,rfl⟩:=dS hd;rw[show (0:Int)+(i:Int)*1=(i:Int) by lia];have p:=Ad (show i<xs.length by lia);have ō:=Ad (show i<G.length by lia);have Ò:=u i _ _ p ō;fin2;refine⟨.int (G[i]:Nat),dg (by rw[AH,ō];rfl),?_⟩;fin2;rw[if_pos (by lia)];refine⟨_,lr p,?_⟩;simp only[dX.d];refine⟨_,rfl,?_⟩;dsimp only;rw[c0,if_neg (by rw[decide_eq_true (show (G[i]:Int)<=(xs[i]).bs.length by lia)];decide)];exact⟨(ok _ (Ai p)).l,_,rfl⟩
 rintro δ ⟨O,rfl⟩;gp_on;gn_on;refine⟨xs,G,rfl,hx,J,λi x k r e=>(u i x k r e).1,λM m0 mA mE=>?_⟩;have hMW:M<=W:=by
  rcases mE with z | ⟨i,x,k,r,e,e3⟩
  .have:=sh.pos;lia
  .have:=(u i x k r e).2.2;lia
 dsimp only[OV.val];rw[if_neg (by lia)];gp_on;fin2;refine⟨xs,ks,?_,hx,by lia,hk,λM' n0 nA nE=>?_⟩
 .rw [A9];rfl
 have hg:=zX (v:=M') (ks:=ks) (by lia) (λi x k r e=>Xs (ok x (Ai r)).Ul (hk i x k r e) (nA i x k r e)) xs.length (Ah _);rw[BI (by lia)]at hg;have:=sh.least M' n0 (by lia);refine⟨rfl,?_⟩;dsimp only[OV.val];rw[decide_eq_true (show M'>=W by lia)]
end
theorem Ğ {w:AT}{K:Ap}{h:Heap}{mg:Al->Option Aa}(X:K.In h)(G:h.Ns Am mg)
  (bb:C4 K Am "PART_SPANS"=some (some (.ref q))) (az:K.lookup q=some ⟨.type "tuple",R7,.seq #[.ref g,.ref f,.ref e,.ref c,.ref A] R8,R5⟩)
  (am:K.lookup g=some ⟨.type "tuple",N7,.seq #[.int 0 zR,.int 1 zQ] Ob,N1⟩)
  (al:K.lookup f=some ⟨.type "tuple",N6,.seq #[.int (-8) zP,.int 8 zO] Oa,NZ⟩)
  (ai:K.lookup e=some ⟨.type "tuple",N5,.seq #[.int (-8) zN,.int 8 zM] N',NY⟩)
  (ag:K.lookup c=some ⟨.type "tuple",N4,.seq #[.int (-64) zL,.int 64 zK] N_,NX⟩)
  (aj:K.lookup A=some ⟨.type "tuple",N3,.seq #[.int 0 zJ,.int 8 zI] N9,NW⟩)
  (bn:C4 K Am "SIZES"=some (some (.ref RW))) (bj:K.lookup RW=some ⟨.type "tuple",YQ,.seq #[.int 1 V5,.int 64 V4] YW,Yv⟩)
  (ap:C4 K Am "NUMBER_SPANS"=some (some (.ref B))) (ak:K.lookup B=some ⟨.type "tuple",N8,.seq #[.ref M,.ref U,.ref T,.ref a] Oc,N2⟩)
  (aa:K.lookup M=some ⟨.type "tuple",Lu,.seq #[.int 1 xK,.int 64 xJ] LA,D'⟩)
  (ac:K.lookup U=some ⟨.type "tuple",Ls,.seq #[.int 1 xI,.int 64 Q] Lz,Cs⟩)
  (ab:K.lookup T=some ⟨.type "tuple",Lr,.seq #[.int 0 O,.int 6 J] Ly,B2⟩)
  (af:K.lookup a=some ⟨.type "tuple",Lq,.seq #[.int 0 C,.int 4000 z] Lx,z_⟩)
  (bi:C4 K Am "LADDERS"=some (some (.ref p))) (bh:K.lookup p=some ⟨.type "dict",none,.dict #[⟨EM w.params "still",.str "still" Sm,.ref v⟩,⟨EM w.params "pair",.str "pair" Sk,.ref u⟩,⟨EM w.params "line",.str "line" Sj,.ref t⟩,⟨EM w.params "long",.str "long" Si,.ref r⟩] W3,#[]⟩) (bg:(p==E7)=false)
  (bc:K.lookup v=some ⟨.type "tuple",Tz,.seq #[] TN,SD⟩)
  (be:K.lookup u=some ⟨.type "tuple",Tx,.seq #[.ref o,.ref n] TM,SA⟩)
  (av:K.lookup o=some ⟨.type "tuple",QC,.seq #[.int 1 MR,.int (-1) MQ,.int 0 MP,.int 0 MO,.int 0 MN] QM,OW⟩)
  (au:K.lookup n=some ⟨.type "tuple",QB,.seq #[.int 0 MM,.int 0 ML,.int 1 MK,.int 0 MJ,.int 1 MI] QL,OU⟩)
  (bf:K.lookup t=some ⟨.type "tuple",Tw,.seq #[.ref m,.ref l] TL,Sz⟩)
  (ao:K.lookup m=some ⟨.type "tuple",QA,.seq #[.int 1 MH,.int (-1) MG,.int (-1) MF,.int 1 ME,.int 1 MD] QK,OT⟩)
  (aw:K.lookup l=some ⟨.type "tuple",Qz,.seq #[.int 0 MC,.int 1 MB,.int 1 MA,.int 2 Mz,.int 2 My] QJ,OS⟩)
  (ba:K.lookup r=some ⟨.type "tuple",Tv,.seq #[.ref k,.ref j,.ref L] TJ,Sy⟩)
  (ax:K.lookup k=some ⟨.type "tuple",Qy,.seq #[.int 1 Mx,.int (-1) Mw,.int (-1) Mv,.int 1 Mu,.int 1 Mt] QI,OR⟩)
  (aq:K.lookup j=some ⟨.type "tuple",Qx,.seq #[.int 0 Ms,.int 1 Mr,.int 1 Mq,.int 2 Mp,.int 2 Mo] QH,OQ⟩)
  (ay:K.lookup L=some ⟨.type "tuple",Qw,.seq #[.int 1 Mn,.int (-1) Mm,.int (-1) Ml,.int 4 Mj,.int 3 Mi] QG,OP⟩):
  zz K mg "PART_SPANS" (D.tup [.tup [.int 0,.int 1],.tup [.int (-8),.int 8],.tup [.int (-8),.int 8],.tup [.int (-64),.int 64],.tup [.int 0,.int 8]])/\zz K mg "SIZES" (D.tup [.int 1,.int 64])/\zz K mg "NUMBER_SPANS" (D.tup [.tup [.int 1,.int 64],.tup [.int 1,.int 64],.tup [.int 0,.int 6],.tup [.int 0,.int 4000]])/\R3 w K mg "LADDERS" [("still",.tup []),("pair",.tup [.tup [.int 1,.int (-1),.int 0,.int 0,.int 0],.tup [.int 0,.int 0,.int 1,.int 0,.int 1]]),("line",.tup [.tup [.int 1,.int (-1),.int (-1),.int 1,.int 1],.tup [.int 0,.int 1,.int 1,.int 2,.int 2]]),("long",.tup [.tup [.int 1,.int (-1),.int (-1),.int 1,.int 1],.tup [.int 0,.int 1,.int 1,.int 2,.int 2],.tup [.int 1,.int (-1),.int (-1),.int 4,.int 3]])]:=
 ⟨⟨_,Gr X G bb,λF=>⟨_,[.ref g,.ref f,.ref e,.ref c,.ref A],rfl,.inr ⟨_,_,_,az,rfl,rfl,eI (show 5<=1000000 by decide),.cons rfl (.cons rfl (.cons rfl (.cons rfl (.cons rfl (.nil)))))⟩,⟨_,_,rfl,(t2 am F),⟨_,_,rfl,(t2 al F),⟨_,_,rfl,(t2 ai F),⟨_,_,rfl,(t2 ag F),⟨_,_,rfl,(t2 aj F),rfl⟩⟩⟩⟩⟩⟩⟩,⟨_,Gr X G bn,λF=>(t2 bj F)⟩,⟨_,Gr X G ap,λF=>⟨_,[.ref M,.ref U,.ref T,.ref a],rfl,.inr ⟨_,_,_,ak,rfl,rfl,eI (show 4<=1000000 by decide),.cons rfl (.cons rfl (.cons rfl (.cons rfl (.nil))))⟩,⟨_,_,rfl,(t2 aa F),⟨_,_,rfl,(t2 ac F),⟨_,_,rfl,(t2 ab F),⟨_,_,rfl,(t2 af F),rfl⟩⟩⟩⟩⟩⟩,Up (Gr X G bi) bh (⟨⟨_,_,rfl,rfl⟩,⟨⟨_,_,rfl,rfl⟩,⟨⟨_,_,rfl,rfl⟩,⟨⟨_,_,rfl,rfl⟩, trivial⟩⟩⟩⟩) bg (.cons (λF=>⟨_,[],rfl,.inr ⟨_,_,_,bc,rfl,rfl,eI (show 0<=1000000 by decide),.nil⟩,rfl⟩) (.cons (λF=>⟨_,[.ref o,.ref n],rfl,.inr ⟨_,_,_,be,rfl,rfl,eI (show 2<=1000000 by decide),.cons rfl (.cons rfl (.nil))⟩,⟨_,_,rfl,(t5 av F),⟨_,_,rfl,(t5 au F),rfl⟩⟩⟩) (.cons (λF=>⟨_,[.ref m,.ref l],rfl,.inr ⟨_,_,_,bf,rfl,rfl,eI (show 2<=1000000 by decide),.cons rfl (.cons rfl (.nil))⟩,⟨_,_,rfl,(t5 ao F),⟨_,_,rfl,(t5 aw F),rfl⟩⟩⟩) (.cons (λF=>⟨_,[.ref k,.ref j,.ref L],rfl,.inr ⟨_,_,_,ba,rfl,rfl,eI (show 3<=1000000 by decide),.cons rfl (.cons rfl (.cons rfl (.nil)))⟩,⟨_,_,rfl,(t5 ax F),⟨_,_,rfl,(t5 aq F),⟨_,_,rfl,(t5 ay F),rfl⟩⟩⟩⟩) (.nil)))))⟩
end Lw
namespace PySem.W.Fast
def tw4075656055927950757:=Nat
def tw14617329263418388107:=Nat
def tw8264087976328847760:=Nat
def tw2731296084790534408:=Nat
def tw4319267165713472512:=Nat
def tw10504480610008771398:=Nat
def tw17540709970915999258:=Nat
def tw4611820108356200659:=Nat
def tw17849773933351121932:=Nat
def tw6140394255861759544:=Nat
def tw5198807465960022810:=Nat
def tw8441542428061904874:=Nat
def tw16485939618351479573:=Nat
def tw14171902996760154020:=Nat
def tw17429883947969529963:=Nat
def tw8740660758412688369:=Nat
def tw11126263139307303349:=Nat
def tw13710033340449680462:=Nat
def tw5785209439658801846:=Nat
def tw7359421763102706223:=Nat
def tw8651970504244408213:=Nat
def tw13312485678644462047:=Nat
def tw12031528023768902697:=Nat
def tw6628481039028146983:=Nat
def tw13344274458011956591:=Nat
def tw11120105254377130774:=Nat
def tw2901708793419327981:=Nat
def tw10736446037028734078:=Nat
def tw11276576013122817862:=Nat
def tw12151631666213458166:=Nat
def tw7961501102978870283:=Nat
def tw18115198804383760153:=Nat
def tw12965891287966035962:=Nat
def tw18168835004804808307:=Nat
def tw10963668457814231902:=Nat
def tw12433948977870838522:=Nat
def tw2727087427406849043:=Nat
def tw16256505331785586672:=Nat
def tw714459702720392248:=Nat
def tw9040380003965927579:=Nat
def tw11756822013636129702:=Nat
def tw12236678263112478746:=Nat
def tw1701308944776314739:=Nat
def tw13050254824810506560:=Nat
def tw14458869297113768013:=Nat
def tw1879548541970521150:=Nat
def tw1487716636554786458:=Nat
def tw4147836416048299837:=Nat
def tw13651901946924015707:=Nat
def tw3615087231061250863:=Nat
def tw6793235318418008348:=Nat
def tw12186603089978602230:=Nat
def tw18076876116482610833:=Nat
def tw12975504802232460072:=Nat
def tw13947007368207396461:=Nat
def tw14029005009937287151:=Nat
def tw6036898143080873544:=Nat
def tw10870905664368418306:=Nat
def tw16169801572110618283:=Nat
def tw1337015818991063594:=Nat
def tw2294690614631763119:=Nat
def tw5102803981092443835:=Nat
def tw8018957444727267074:=Nat
def tw4788149730236706333:=Nat
def tw8711679119760402431:=Nat
def tw12921553869780232279:=Nat
def tw18311330027522836573:=Nat
def tw9122020706183826695:=Nat
def tw10795736665339552597:=Nat
def tw2895945537133826179:=Nat
def tw538232552607448446:=Nat
def tw11353508790174324948:=Nat
def tw2354013787432731085:=Nat
def tw5611292419537761006:=Nat
def tw13690361406073113824:=Nat
def tw960290249329579123:=Nat
def tw8279007906604847305:=Nat
def tw7929761452072802434:=Nat
def tw15011281203866651392:=Nat
def tw14075960621154622790:=Nat
def tw3351818290801876327:=Nat
def tw11329794387555278431:=Nat
def tw15051885009018155089:=Nat
def tw4342934878782314881:=Nat
def tw4685776964169463488:=Nat
def tw13921331114395365035:=Nat
def tw12964596118524777655:=Nat
def tw4828246987004743845:=Nat
def tw3298728876215082283:=Nat
def tw12044508896749466660:=Nat
def tw12043663990507193691:=Nat
def tw3863669635418122461:=Nat
def tw9158487992950881977:=Nat
def tw3715049749605619874:=Nat
def tw3681453197392873809:=Nat
def tw10438654865536678006:=Nat
def tw7823944444436607838:=Nat
def tw4660528209811327591:=Nat
def tw9504076763844055465:=Nat
def tw4440588191600508535:=Nat
def tw13006779281655819746:=Nat
def tw1680078135938944952:=Nat
def tw2481671416388623503:=Nat
def tw14614655876942994638:=Nat
def tw16245005635070547116:=Nat
def tw15668008485622204289:=Nat
def tw7025668905468589177:=Nat
def tw15135922819517902842:=Nat
def tw12169451765456250070:=Nat
def tw4989431861725005160:=Nat
def tw7119800027647930996:=Nat
def tw2226006142872797335:=Nat
def tw5034320347992232964:=Nat
def tw9459964564220878824:=Nat
def tw2661771190409165059:=Nat
def tw14133149531272591186:=Nat
def tw4330808342552095372:=Nat
def tw4487045938499491947:=Nat
def tw2784481381965588575:=Nat
def tw11682915149456844553:=Nat
def tw11814107773706548241:=Nat
def tw13935024838171677619:=Nat
def tw17414643800090299239:=Nat
def tw910089403759083048:=Nat
def tw5509283490603754896:=Nat
def tw16665865938611154642:=Nat
def tw13541846835253455014:=Nat
def tw5864946016844916886:=Nat
def tw17497422794723096421:=Nat
def tw4380807914974048448:=Nat
def tw17435858358480471770:=Nat
def tw4337125214772541821:=Nat
def tw1315278407515620423:=Nat
def tw2087861183933921403:=Nat
def tw4307307466519615494:=Nat
def tw7652426448090478558:=Nat
def tw6129132378335607181:=Nat
def tw13345569396520775685:=Nat
def tw14531851084187769593:=Nat
def tw4029635560204714647:=Nat
def tw13822919528512435798:=Nat
def tw13089435473973737530:=Nat
def tw10477829305944899318:=Nat
def tw16487789237305532937:=Nat
def tw6153684942890258246:=Nat
def tw15268745215642922187:=Nat
def tw10205226795167434203:=Nat
def tw1828977599284676204:=Nat
def tw5694743112628441121:=Nat
def tw8521078211188617892:=Nat
def tw10701571213775426527:=Nat
def tw2199817304769044916:=Nat
def tw6908086095955971212:=Nat
def tw14856260855743942221:=Nat
def tw17760640637337853337:=Nat
def tw2787034890507230439:=Nat
def tw8884750644686934589:=Nat
def tw12054120350592614626:=Nat
def tw6896158485614503400:=Nat
def tw3064279611265539667:=Nat
def tw5708902652029382722:=Nat
def tw1077111786291056835:=Nat
def tw12197022165601745312:=Nat
def tw824706884765075787:=Nat
def tw18200448933178076212:=Nat
def tw7936138763722602510:=Nat
def tw9366242030869836471:=Nat
def tw11511738040419842901:=Nat
def tw4648143237247950755:=Nat
def tw14497468035152678939:=Nat
def tw14688825941153012679:=Nat
def tw9262959895470640007:=Nat
def tw13630850456171717268:=Nat
def tw25549454044060040:=Nat
def tw9993760878196794083:=Nat
def tw12797413504517300955:=Nat
def tw5184894902821971369:=Nat
def tw4921799170609613214:=Nat
def tw12842730739476653328:=Nat
def tw11983066273753455180:=Nat
def tw9010212493524656719:=Nat
def tw14950537932443013903:=Nat
def tw9757771697195826344:=Nat
def tw6087350239275875944:=Nat
def tw553495997070058861:=Nat
def tw12784156712535993179:=Nat
def tw16432074884940135213:=Nat
def tw9049170415280002577:=Nat
def tw14080107431342713722:=Nat
def tw12763088858205430354:=Nat
def tw17215856281100951274:=Nat
def tw15878366731712857167:=Nat
def tw3879901463421778854:=Nat
def tw13101247888283222459:=Nat
def tw809584102434611229:=Nat
def tw17811841356715330966:=Nat
def tw6595597460536761784:=Nat
def tw7592938976688879636:=Nat
def tw2433787832240710937:=Nat
def tw8222367478589696981:=Nat
def tw1701925582501601418:=Nat
def tw26295037185902766:=Nat
def tw17396805517934087586:=Nat
def tw17339521130709149542:=Nat
def tw18265339700444983971:=Nat
def tw13702468506032325687:=Nat
def tw4512064018948505950:=Nat
def tw16377687645619462097:=Nat
def tw11579723211447124277:=Nat
def tw2140973762198991236:=Nat
def tw14082388622336318888:=Nat
def tw6837713781772671892:=Nat
def tw15132190509629478705:=Nat
def tw12159051352511399038:=Nat
def tw6031885421510760680:=Nat
def tw16160471580866045506:=Nat
def tw15595104284655711412:=Nat
def tw516775100831249315:=Nat
def tw13701312981242632799:=Nat
def tw9496179709223852878:=Nat
def tw2332150723371942177:=Nat
def tw7111895706903662221:=Nat
def tw7036308289688408768:=Nat
def tw10912492784627089704:=Nat
def tw13342713719115409005:=Nat
def tw18307074374063103595:=Nat
def tw4544444085162086550:=Nat
def tw1503123072907864917:=Nat
def tw14391499491338363673:=Nat
def tw12118724364553308817:=Nat
def tw12451708265769914379:=Nat
def tw5337787597768158739:=Nat
def tw2705098580284581924:=Nat
def tw17609849270234962093:=Nat
def tw18279790716286145431:=Nat
def tw4849461088921271906:=Nat
def tw7974316332182616013:=Nat
def tw8749692634804739280:=Nat
def tw7394850637019755243:=Nat
def tw15601493169675432519:=Nat
def tw17221822556738685601:=Nat
def tw6634630088316524525:=Nat
def tw9415027626647467095:=Nat
def tw18201540316513583734:=Nat
def tw8468545193898193191:=Nat
def tw11751651391767941550:=Nat
def tw17222429100284897329:=Nat
def tw13863231782507118854:=Nat
def tw9681393990074269420:=Nat
def tw8474824657425741040:=Nat
def tw3416516075045857785:=Nat
def tw16807625995412922033:=Nat
def tw18204918593054163965:=Nat
def tw3982415080411055352:=Nat
def tw4409911904339744533:=Nat
def tw3639255603837813489:=Nat
def tw11936246092836128672:=Nat
def tw15110758079047545902:=Nat
def tw15661628998183822586:=Nat
def tw17682052515942408340:=Nat
def tw15325826338734997079:=Nat
def tw18362704197251874165:=Nat
def tw2177528357731577983:=Nat
def tw5699061399182369762:=Nat
def tw14386745240448582262:=Nat
def tw4446118865398289084:=Nat
def tw632315629146627548:=Nat
def tw9612896184797548371:=Nat
def tw6123201959411731841:=Nat
def tw8719458866631608858:=Nat
def tw12895755837138046678:=Nat
def tw17078832141447166013:=Nat
def tw7412122785381397246:=Nat
def tw2042403055901492694:=Nat
def tw6741955577216422718:=Nat
def tw16642216782970388472:=Nat
def tw2510782177236366324:=Nat
def tw13733969870352913601:=Nat
def tw17152868366547058718:=Nat
def tw15321366282747686518:=Nat
def tw4065031812305065417:=Nat
def tw10174865591041336452:=Nat
def tw6583257973629112170:=Nat
def tw3651904316708730868:=Nat
def tw13814646261203238027:=Nat
def tw2157119699773088687:=Nat
def tw13437402227935697459:=Nat
def tw832180804938961235:=Nat
def tw11934385793414745531:=Nat
def tw9493510339325730673:=Nat
def tw9120104747664160965:=Nat
def tw14347777946403673319:=Nat
def tw11547962734884798228:=Nat
def tw14829050151867387500:=Nat
def tw5255822465462021374:=Nat
def tw14101969060702047178:=Nat
def tw17621322017833443902:=Nat
def tw2739517749255917700:=Nat
def tw8660915854967809941:=Nat
def tw8050314515565407266:=Nat
def tw2319270958390941079:=Nat
def tw5905591898515546245:=Nat
def tw5877090661458352937:=Nat
def tw3189273977224505322:=Nat
def tw13263310030423044507:=Nat
def tw10942762484122704400:=Nat
def tw3038541064934885084:=Nat
def tw15244343428561703370:=Nat
def tw8407806559165728723:=Nat
def tw12923700330556811664:=Nat
def tw240150681926451306:=Nat
def tw2968129474031756081:=Nat
def tw1874750344175951713:=Nat
def tw5681673601464008430:=Nat
def tw15330404270358753937:=Nat
def tw9876305447311167500:=Nat
def tw11518109231742280126:=Nat
def tw10434708844381591289:=Nat
def tw16529447041273449344:=Nat
def tw12124033411011754019:=Nat
def tw1329895301837257526:=Nat
def tw7119257410235909368:=Nat
def tw3901828429240078759:=Nat
def tw10076061475926665423:=Nat
def tw1990657209356636409:=Nat
def tw7571960253866878816:=Nat
def tw17783609092294391944:=Nat
def tw819486769344516448:=Nat
def tw14999300105901646438:=Nat
def tw18326196471858851915:=Nat
def tw10184661653788212526:=Nat
def tw2118223304847584771:=Nat
def tw17958859639392727982:=Nat
def tw1717945029038980453:=Nat
def tw16871430187579015664:=Nat
def tw15393202370580674227:=Nat
def tw6483767738672467304:=Nat
def tw16087082818062805131:=Nat
def tw8484222232760009921:=Nat
def tw17160791433209738600:=Nat
def tw766417042342914920:=Nat
def tw13338659062317547310:=Nat
def tw1257482245590989749:=Nat
def tw13525920246431497983:=Nat
def tw2087554434598689962:=Nat
def tw8585868137559635288:=Nat
def tw6846815473017324885:=Nat
def tw9454148891494467448:=Nat
def tw11602888747826761597:=Nat
def tw18438581935218326533:=Nat
def tw13146276862174174487:=Nat
def tw844185942652248961:=Nat
def tw5103802869040330024:=Nat
def tw3804156485313724710:=Nat
def tw5496697521413218871:=Nat
def tw11350934704093295077:=Nat
def tw10074386290790906397:=Nat
def tw6158841216974440472:=Nat
def tw6768975686621095983:=Nat
def tw3667265154999749532:=Nat
def tw5737731309592263117:=Nat
def tw892037185432648235:=Nat
def tw1876669831780301133:=Nat
def tw15536778677725144984:=Nat
def tw16617871688324746775:=Nat
def tw7337706452829578006:=Nat
def tw16294249827803524817:=Nat
def tw10682722291983499520:=Nat
def tw4814458214814583413:=Nat
def tw11538494560145181195:=Nat
def tw11964041661235995359:=Nat
def tw3771600384987199576:=Nat
def tw4129024674447211139:=Nat
def tw6375055550919389682:=Nat
def tw8367558220515241326:=Nat
def tw14687484101440249001:=Nat
def tw16907953875382558885:=Nat
def tw15213105505274570006:=Nat
def tw9192138807838931423:=Nat
def tw6907807431869773894:=Nat
def tw1807318160294731980:=Nat
def tw6550542753450693154:=Nat
def tw8306388135729278153:=Nat
def tw5274808140404290422:=Nat
def tw2625026740653529363:=Nat
def tw14248475422160491119:=Nat
def tw2664171444096039372:=Nat
def tw11552389550867662352:=Nat
def tw13988254273462281841:=Nat
def tw843520199528122942:=Nat
def tw8263361236074369680:=Nat
def tw9142278615379150616:=Nat
def tw17963609748366864535:=Nat
def tw8266203195858944054:=Nat
def tw7927834289708108937:=Nat
def tw9902085348404072221:=Nat
def tw13791660768597045343:=Nat
def tw12805591203418957465:=Nat
def tw3021188729114544990:=Nat
def tw3383460051532538733:=Nat
def tw9641154466134037596:=Nat
def tw9117647842439555328:=Nat
def tw17608473054351034102:=Nat
def tw9954309797009070240:=Nat
def tw11046587069185112552:=Nat
def tw12389819747266735274:=Nat
def tw5723293099382739027:=Nat
def tw5275895412504932931:=Nat
def tw2777632741534666482:=Nat
def tw13820142653569837273:=Nat
def tw14741663021776744152:=Nat
def tw8524057708055179790:=Nat
def tw8057846578829891968:=Nat
def tw16214355901034594158:=Nat
def tw7668878978212396770:=Nat
def tw14691055882209827510:=Nat
def tw7004956297667879128:=Nat
def tw7147445467130182136:=Nat
def tw9460599424182442964:=Nat
def tw1801058598907732594:=Nat
def tw11430198106724363019:=Nat
def tw9947977990802101513:=Nat
def tw13966806767169768157:=Nat
def tw2090507337278449072:=Nat
def tw10618804131414943369:=Nat
def tw1672373558605091519:=Nat
def tw10246203778957076550:=Nat
def tw15380197758175389258:=Nat
def tw3456570603210278331:=Nat
def tw10139379939735487412:=Nat
def tw2032713711804346922:=Nat
def tw15628560765077806712:=Nat
def tw1273293609931745703:=Nat
def tw12339495317307102969:=Nat
def tw14036499020137399812:=Nat
def tw15083067060244323888:=Nat
def tw3270524098081015853:=Nat
def tw1264468661708778055:=Nat
def tw16177988899809502389:=Nat
def tw4052677996028169880:=Nat
def tw14810314189136475640:=Nat
def tw6507213810544678280:=Nat
def tw15611853401670857633:=Nat
def tw10959439264655564002:=Nat
def tw4753357163501244450:=Nat
def tw18430919036444794860:=Nat
def tw14103237840061499750:=Nat
def tw5866403345636981164:=Nat
def tw9491671000522966791:=Nat
def tw2495345485019052526:=Nat
def tw17199923515835895787:=Nat
def tw5628256603782143826:=Nat
def tw9593005654423245321:=Nat
def tw7448242210728039804:=Nat
def tw11481915238890533914:=Nat
def tw8904038360221559092:=Nat
def tw6459232840090938057:=Nat
def tw12667647481325603163:=Nat
def tw5264539078067446696:=Nat
def tw2329932494270369479:=Nat
def tw5890549045658219518:=Nat
def tw4150258819241144892:=Nat
def tw14778678684210209037:=Nat
def tw3243929782643532690:=Nat
def tw12568630433072278291:=Nat
def tw8661742127096096079:=Nat
def tw2184779544882780260:=Nat
def tw1873153143849905127:=Nat
def tw4941818535618075311:=Nat
def tw6224474177768912935:=Nat
def tw17884888727088063732:=Nat
def tw18138967292896860803:=Nat
def tw7667369059123525791:=Nat
def tw11929251492144495369:=Nat
def tw8289941963617325321:=Nat
def tw1180258638934753858:=Nat
def tw13565752890858137617:=Nat
def tw14168980066003848203:=Nat
def tw1079346870989268666:=Nat
def tw11822156404100531280:=Nat
def tw11153678728503010724:=Nat
def tw18046144274068582419:=Nat
def tw16469990123055177097:=Nat
def tw17416886406046177719:=Nat
def tw5590258899079193279:=Nat
def tw5404278954435476121:=Nat
def tw9377477750833534567:=Nat
def tw15184796240538425113:=Nat
def tw11812195083298634894:=Nat
def tw11827544433429522658:=Nat
def tw7905308923766848501:=Nat
def tw8667574425677140355:=Nat
def tw9563753753004415129:=Nat
def tw9525733281846707236:=Nat
def tw11691806588956612671:=Nat
def tw8855591739687312140:=Nat
def tw16513756755054691104:=Nat
def tw16145080783454406318:=Nat
def tw11886425802098873079:=Nat
def tw11871895068739796548:=Nat
def tw10966636292441279589:=Nat
def tw14312828144124064901:=Nat
def tw12134209164162336123:=Nat
def tw5511282242583052239:=Nat
def tw809037615776761649:=Nat
def tw17958954348389234126:=Nat
def tw10700430317161355742:=Nat
def tw8919188092105582262:=Nat
def tw5149838321624417037:=Nat
def tw16332550802360032653:=Nat
def tw5675209191170095260:=Nat
def tw6987012793739961998:=Nat
def tw3343900186231303270:=Nat
def tw2378286292383448747:=Nat
def tw12686841888591352450:=Nat
def tw1218810375905277051:=Nat
def tw1782279352399239515:=Nat
def tw1105312948271634796:=Nat
def tw2884640081686786453:=Nat
def tw5475939026033207680:=Nat
def tw15605558034450500468:=Nat
def tw15556641083936676349:=Nat
def tw2359546546067043727:=Nat
def tw11615580646529514839:=Nat
def tw7167762931448622244:=Nat
def tw17484358953660940697:=Nat
def tw13477289283829677621:=Nat
def tw14510664040240221960:=Nat
def tw11771570903439751778:=Nat
def tw10198486754522170345:=Nat
def tw3717116342123227394:=Nat
def tw8551449690622961870:=Nat
end PySem.W.Fast
open PySem PySem.W PyProof.Rows L2 Lw
set_option maxRecDepth 100000 in
set_option maxHeartbeats 0 in
theorem PySem.Challenge.cw_liftwave_k44_whole_no_better_holds : PySem.Challenge.rw_liftwave_k44_whole_no_better.Holds := by
 w_on;o_law;k_head;(case hw=>w_witness2)
 k_fill
 refine L2.yU (k:=15) (l:=PySem.Challenge.rw_liftwave_k44_whole_no_better) (c:=475) (T:=471) (c':=515) (T':=511) (pos:=⟨305,4,306,49⟩) (q := "enough.<locals>.fits") (pos':=⟨342,36,342,90⟩) (q' := "Search.put.<locals>.<lambda>") rfl rfl ⟨rfl,by decide,by decide⟩ (λw h σ=>⟨PySem.W.km_in_of σ,IB σ _ (Aw _ Az),IB σ _ Az⟩) (λw h X=>⟨kq X (by k_is) (by rfl) (by decide),kq X (by k_is) (by rfl) (by decide)⟩) (λw=>⟨by kernel_rfl,by kernel_rfl⟩) (by decide) ?F
 case F=>
  intro w mg fa h X G Ϯ;have B:L2.b9 mg:=⟨⟨mz X G,mz X G,mz X G,mz X G,mz X G,mz X G,mz X G,mz X G,mz X G,mz X G,mz X G,mz X G⟩,mz X G,mz X G,mz X G,mz X G,mz X G,mz X G,mz X G,mz X G,mz X G,mz X G⟩
  have KV:=L2.bZ.of2 X (by simp only[nV,BU,D.Æ,Q4,Hj,IN,Bool.false_or,Jg,DW,false_implies,implies_true,and_true];and_intros<;>kit_is);have cw:=Zu (c := "Walk") (ns:=Lw.bD) X (hn:=by simp only[Lw.bD,BU];exact⟨by k_is,by k_is,by k_is,by k_is,by k_is,λ_ h=>by cases h⟩) (h1:=by decide +kernel) (h2:=by decide);have dJ:=Zu (c := "Search") (ns:=Lw.bN) X (hn:=by simp only[Lw.bN,BU];exact⟨by k_is,by k_is,by k_is,by k_is,λ_ h=>by cases h⟩) (h1:=by decide +kernel) (h2:=by decide);have Ro:∃t,mg "HALF"=some (.int 0 t):=⟨_,mv X G⟩
  have Rk:∃t,mg "LEFT"=some (.int 1 t):=⟨_,mv X G⟩
  have LO:∃t,mg "RIGHT"=some (.int 2 t):=⟨_,mv X G⟩
  have Vv:∃t,mg "ADD"=some (.int 3 t):=⟨_,mv X G⟩
  have LN:∃t,mg "SHIFT"=some (.int 4 t):=⟨_,mv X G⟩
  have vj:∃t,mg "MOST_LIFTS"=some (.int 6 t):=⟨_,mv X G⟩
  have zd:∃t,mg "ASKS"=some (.int 0 t):=⟨_,mv X G⟩
  have dI:∃t,mg "START_walks"=some (.int 1 t):=⟨_,mv X G⟩
  have eK:∃t,mg "END_walks"=some (.int 2 t):=⟨_,mv X G⟩
  have y_:∃t,mg "SPAN"=some (.int 3 t):=⟨_,mv X G⟩
  have qS:∃t,mg "WAKING"=some (.int 0 t):=⟨_,mv X G⟩
  have j7:∃t,mg "WAKING_FIRST"=some (.int 1 t):=⟨_,mv X G⟩
  have za:∃t,mg "SIGN"=some (.int 2 t):=⟨_,mv X G⟩
  have qV:∃t,mg "FIGURE"=some (.int 3 t):=⟨_,mv X G⟩
  have zb:∃t,mg "HIGH"=some (.int 0 t):=⟨_,mv X G⟩
  have y9:∃t,mg "WIDE"=some (.int 1 t):=⟨_,mv X G⟩
  have qU:∃t,mg "LEVELS"=some (.int 2 t):=⟨_,mv X G⟩
  have Rj:∃t,mg "PLANES"=some (.int 3 t):=⟨_,mv X G⟩
  have Rl:∃t,mg "LADDER"=some (.int 4 t):=⟨_,mv X G⟩
  have Rm:∃t,mg "HEAD"=some (.int 0 t):=⟨_,mv X G⟩
  have zc:∃t,mg "BITS"=some (.int 1 t):=⟨_,mv X G⟩
  have tD:∃t,mg "BREADTH"=some (.int 0 t):=⟨_,mv X G⟩
  have xc:∃t,mg "STREAM"=some (.int 1 t):=⟨_,mv X G⟩
  have jb:∃t,mg "START_sharing"=some (.int 2 t):=⟨_,mv X G⟩
  have rW:∃t,mg "END_sharing"=some (.int 3 t):=⟨_,mv X G⟩
  have ⟨vi,Ug,qT,ND⟩:=Ğ (w:=w) X G (by k_is) (by k_is) (by k_is) (by k_is) (by k_is) (by k_is) (by k_is) (by k_is) (by k_is) (by k_is) (by k_is) (by k_is) (by k_is) (by k_is) (by k_is) (by k_is) (by k_is) (by decide +kernel) (by k_is) (by k_is) (by k_is) (by k_is) (by k_is) (by k_is) (by k_is) (by k_is) (by k_is) (by k_is) (by k_is);have D1:=fL (x := "is_number") (st:=Lw.jK) X G;have D2:=fL (x := "plus") (st:=Lw.yg) X G;have D3:=fL (x := "minus") (st:=Lw.uA) X G;have D4:=fL (x := "times") (st:=Lw.uz) X G;have D5:=fL (x := "halved") (st:=Lw.pQ) X G;have D6:=fL (x := "breadth") (st:=Lw.mL) X G;have D7:=fL (x := "broadest") (st:=Lw.iI) X G;have D8:=fL (x := "holds") (st:=Lw.uC) X G;have D9:=fL (x := "is_lift") (st:=Lw.kg) X G;have D10:=fL (x := "is_ladder") (st:=Lw.gI) X G;have D11:=fL (x := "ladder_of") (st:=Lw.jJ) X G;have D12:=fL (x := "neighbours") (st:=Lw.iH) X G;have D13:=fL (x := "lifted_places") (st:=Lw.fA) X G;have D14:=fL (x := "gain") (st:=Lw.yi) X G;have D15:=fL (x := "raised") (st:=Lw.pP) X G;have D16:=fL (x := "gain_span") (st:=Lw.jL) X G;have D17:=fL (x := "lowered_spans") (st:=Lw.fy) X G;have D18:=fL (x := "is_row") (st:=Lw.lQ) X G;have D19:=fL (x := "is_picture") (st:=Lw.fR) X G;have D20:=fL (x := "change_rows") (st:=Lw.hH) X G;have D21:=fL (x := "change_columns") (st:=Lw.d_) X G;have D22:=fL (x := "laid") (st:=Lw.yh) X G;have D23:=fL (x := "opened_by") (st:=Lw.jH) X G;have D24:=Zr (x := "opened_spans") (st:=Lw.gd) X G;have D25:=fL (x := "thinned") (st:=Lw.kf) X G;have D26:=fL (x := "part_of_one") (st:=Lw.g_) X G;have D27:=fL (x := "calm_span") (st:=Lw.jM) X G;have D28:=fL (x := "signed_span") (st:=Lw.gZ) X G;have D29:=fL (x := "figured_span") (st:=Lw.gg) X G;have Ŵ:=Zs (c := "Walk") (q := "Walk.__init__") (st:=Lw.fC) X G;have ⟨D30,X3⟩:=Ŵ;have D31:=m_ (m := "turn") (q := "Walk.turn") (st:=Lw.jO) X cw;have D32:=m_ (m := "is_whole") (q := "Walk.is_whole") (st:=Lw.fB) X cw;have D33:=m_ (m := "asked") (q := "Walk.asked") (st:=Lw.iK) X cw;have D34:=m_ (m := "spans") (q := "Walk.spans") (st:=Lw.iJ) X cw;have D35:=m_ (m := "follow") (q := "Walk.follow") (st:=Lw.hI) X cw;have D36:=m_ (m := "take") (q := "Walk.take") (st:=Lw.jP) X cw;have D37:=m_ (m := "walk_awake") (q := "Walk.walk_awake") (st:=Lw.eU) X cw;have D38:=m_ (m := "wake") (q := "Walk.wake") (st:=Lw.jN) X cw;have D39:=m_ (m := "calm") (q := "Walk.calm") (st:=Lw.jQ) X cw;have D40:=fL (x := "followed") (st:=Lw.k9) X G;have D41:=fL (x := "heights_of") (st:=Lw.fS) X G;have D42:=fL (x := "planes_of") (st:=Lw.jG) X G;have D43:=fL (x := "answer") (st:=Lw.pR) X G;have D44:=fL (x := "told") (st:=Lw.yf) X G;have D45:=fL (x := "level_of") (st:=Lw.k8) X G;have D46:=fL (x := "places") (st:=Lw.lP) X G;have D47:=fL (x := "is_part") (st:=Lw.mK) X G;have D48:=fL (x := "head_places") (st:=Lw.hG) X G;have D49:=fL (x := "walk_of") (st:=Lw.mJ) X G;have D50:=Zr (x := "coded") (st:=Lw.oJ) X G;have D51:=fL (x := "sheet_of") (st:=Lw.iG) X G;have D52:=fL (x := "level") (st:=Lw.uB) X G;have D53:=fL (x := "broad") (st:=Lw.oK) X G;have ũ:=fL (x := "least") (st:=Lw.oI) X G;have D55:=fL (x := "enough") (st:=Lw.gi) X G;have D56:=fL (x := "ensure_whole") (st:=Lw.gh) X G;have D57:=fL (x := "middle_of") (st:=Lw.jI) X G;have ų:=Zs (c := "Search") (q := "Search.__init__") (st:=Lw.dP) X G;have ⟨D58,RZ⟩:=ų;have D59:=m_ (m := "breadth_at") (q := "Search.breadth_at") (st:=Lw.eo) X dJ;have D60:=m_ (m := "put") (q := "Search.put") (st:=Lw.dw) X dJ;have D61:=m_ (m := "narrow") (q := "Search.narrow") (st:=Lw.fD) X dJ;have D62:=m_ (m := "found") (q := "Search.found") (st:=Lw.gj) X dJ;have D63:=fL (x := "share") (st:=Lw.oH) X G;have D64:=fL (x := "_law_cell_at") (st:=Lw.hE) X G;have D65:=fL (x := "_law_stream") (st:=Lw.eT) X G;have D66:=fL (x := "_law_greatest") (st:=Lw.gf) X G;have Ī:=fL (x := "law") (st:=Lw.K4) X G;have s_:=Zq (x := "breadth") X G;have TH:=Zq (x := "least") X G;have Lv:=Zq (x := "level") X G;have fF:=Zq (x := "lowered_spans") X G;have qu:=Zq (x := "raised") X G
  cases Ϯ.symm.trans Ī.here
  refine W' Ī (λs v=>.of_eq rfl) λb KB GB BB BB'=>?_
  generalize KR PySem.Challenge.rw_liftwave_k44_whole_no_better=P;have r9:=qm P w b D64 B KV;have nZ:=uV P w b D11 B KV ND;have oX:=Qs P w b D8 B KV;have j_:=uW P w b D1 B KV;have RL:=Ng P w b D18 B KV j_;have vt:=rJ P w b D19 B KV Ug oX RL;have NN:=yI P w b D9 B KV vi j_ oX;have xx:=uX P w b D10 B KV vj NN;have NM:=yH P w b D47 B KV qT j_ oX;have ni:=yG P w b D25 B KV;have vq:=rE P w b D12 B KV;have je:=mS P w b D13 B KV vq;have XG:=Tu P w b D14 B KV LN Vv Rk LO;have xt:=Nc P w b D15 B KV Ro je XG;have Uv:=Qp P w b D3 B KV;have XE:=Tr P w b D2 B KV;have Ut:=Qn P w b D4 B KV;have RM:=Nh P w b D5 B KV;have xy:=uY P w b D16 B KV LN Rk LO Vv XE Ut RM;have jd:=mR P w b D17 B KV Ro je Uv xy;have kW:=qr P w b D20 B KV qu fF xt jd;have il:=lW P w b D21 B KV qu fF xt jd;have XF:=Ts P w b D22 B KV qu ni kW il;have zr:=wJ P w b D45 B KV Lv;have xv:=Nd P w b D46 B KV Lv zr;have mh:=rK P w b D41 B KV;have xu:=uS P w b D42 B KV mh;have n6:=uZ P w b D27 B KV;have n8:=u3 P w b D31 B KV cw;have jf:=mU P w b D30 X3 B KV cw qS n6 n8;have fI:=mT P w b D32 B KV cw;have RO:=Nj P w b D43 B KV qV za dI zd eK;have vw:=rM P w b D33 B KV cw;have mi:=lh P w b D37 B KV cw qV dI eK;have ri:=oj P w b D29 B KV;have rY:=qk P w b D28 B KV TH;have rZ:=ql P w b D26 B KV eK dI;have n7:=u0 P w b D38 B KV cw za qS j7 dI eK y_ rZ;have xA:=u5 P w b D39 B KV cw j7 qS zd dI eK n6 n7;have n9:=u4 P w b D36 B KV cw qV zd za y_ mi ri rY n7 xA n8;have XD:=Tq P w b D44 B KV cw jf mh fI RO vw n9;have Uy:=Qt P w b D50 B KV qU vt nZ xx NM XF xv xu XD;have vr:=rH P w b D65 B KV nZ Uy;have sd:=qs P w b D35 B KV cw fI n9;have zt:=wK P w b D40 B KV cw jf sd;have tP:=yF P w b D49 B KV Rj zb y9 zt;have rj:=om P w b D56 B KV cw Rm zc tP fI;have nY:=uU P w b D57 B KV;have vv:=rL P w b D34 B KV cw y_ eK dI;have NO:=yJ P w b D6 B KV;have zu:=wL P w b D7 B KV NO;have xw:=uT P w b D23 B KV ni il kW;have rg:=oh P w b D24 B KV fF xw;have r_:=qo P w b D48 B KV zb y9 qU xv;have zq:=wI P w b D51 B KV y9 zb r_;have Uw:=Qq P w b D52 B KV Rl qU oX ni rg zq;have vu:=Qu P w b D53 B KV cw vv tP zu Uw;have fM:=jY P w b D59 B KV dJ Rm zc vu;have kU:=qp P w b B KV vu;have Ux:=Qr P w b ũ B KV kU;have RK:=Nf P w b ũ B tD;have mj:=rO (T:=471) P w b D60 rfl (kq KB (by k_is) (by rfl) (by decide)) BB' B KV dJ tD s_ nY fM RK;have oy:=mV P w b D61 B KV dJ jb rW xc nY mj;have rk:=oq P w b D62 B KV dJ xc jb oy fM;have ml:=lj P w b D58 RZ B KV dJ zc mj;have RN:=Ni P w b D55 rfl (kq KB (by k_is) (by rfl) (by decide)) BB B KV kU Ux;have Uu:=Qo P w b D63 B KV dJ s_ rj rk ml RN;have rh:=oi P w b D66 B KV vu;exact WX P w b Ī B KV r9 vr Uu rh