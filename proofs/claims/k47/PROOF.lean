import PyProof.Rows.All
import Wide.All
import OpenK.AllK
import PySem.Challenge.RW_threeroofs_k47_other_houses
set_option Elab.async false
set_option linter.all false
set_option maxRecDepth 100000
set_option maxHeartbeats 0
set_option bootstrap.genMatcherCode false
set_option compiler.extract_closed false
noncomputable section
open Option renaming some->U,map_eq_some_iff->AA,isSome_map->Di,isSome_iff_exists->DD,map_eq_none_iff->E4,filter_some->Iw,getD_none->IZ,none->JO
open PySem.W renaming Frag->Ab,nsIn->AX,mg_of->Bg,fnOf->Bs,keepIn->BA,mg_none_of->BE,findIn->BU,makesIn->B7,kia_one->Cg,emptyDict->Co,instObj->CV,kla_obj->DC,codeIn->DK,kdl_dict->D1,boot_heap->D4,kdu_collect->Ec,callWith_K->Eo,plainGet->EN,OpenLaw->EV,envX->EY,methodCall_KW->E9,lookIn->Fh,CodeHd->Fi,plainGet_of->Fs,codeHd_of_K->Ft,methodObj->FK,isFn->FL,hasDictIn->FN,codeHdIn->FX,SharedT->F8,takerIn->Gf,kitOne->Gn,next->G3,cellsFrom_some->G4,kla_codeExpr->Hv,kla_callFunE->Hw,callWith_K0->HC,tabObj->HU,boot_drawn->HV,plainOver->Io,kitx_list->Ip,kitx_dict->Iq,handedIn->II,boot_toks->IX,exmOne->Jf,WalkO->Jo,through->Kc,stepOk->KQ,Looks->KS
open List renaming length_map->Ac,getElem?_map->Ag,getElem?_eq_some_iff->Ah,getElem?_eq_getElem->Al,mem_singleton->An,map_map->As,map_cons->Au,mem_of_getElem?->Av,size_toArray->Aw,mem_cons->AB,mem_cons_of_mem->AD,mem_map->AE,mem_map_of_mem->AH,length_cons->AM,length_append->AN,map_append->AU,mem_append_right->AV,mem_cons_self->AW,mem_append->AY,map_congr_left->A4,range->Ba,nodup_cons->Bb,find?_cons->Bc,getElem?_set_self->Bd,all_eq_true->Bj,length_take->Bm,mem_filter->Bp,append_nil->Br,length_range->By,getElem?_set_ne->BB,getElem?_append_right->BC,getD_eq_getElem?_getD->BD,length_singleton->BF,take_length->BI,length_filter_le->BK,mem_append_left->BO,getElem?_eq_none->BQ,find?_eq_none->BX,lookup_cons->BZ,any_eq_true->B1,take_append_drop->B5,map_nil->B6,mem_of_find?_eq_some->Cc,filter_eq_self->Ce,mem_range->Ci,length_erase_of_mem->Cj,all_map->Ck,length_eq_zero_iff->Cm,take_add_one->Cr,length_set->Cs,getElem?_append_left->Ct,pairwise_map->CB,nodup_append->CC,eraseIdx_cons_succ->CD,append_assoc->CF,length_nil->CG,getElem?_range->CH,all_cons->CM,not_mem_nil->CO,any_cons->C3,eraseIdx_eq_take_drop_succ->C4,length_pos_iff->C5,mem_iff_getElem?->Dl,mem_erase_of_ne->Ds,length->Dt,getElem_mem->Dy,filter_cons->Dz,filter_append->DI,lookup->DL,filter_cons_of_pos->DQ,eraseIdxIfInBounds_toArray->D5,find?->D8,map_id->Eg,getElem?_of_mem->Eh,forall_mem_cons->Ei,filterMap_cons->Ep,take_zero->EA,replicate->EB,nodup_iff_pairwise_ne->EC,mem_or_eq_of_mem_set->EJ,getElem?_eq_none_iff->EK,drop_eq_getElem_cons->EL,ext_getElem?->ET,length_drop->E5,getElem_inj->E6,filter_cons_of_neg->E7,drop_length->E8,of_mem_zip->Fn,find?_some->Fo,filter_map->Fp,nodup_nil->FC,map->FD,filter_sublist->FJ,mem_range'_1->Ga,find?_isSome->Gb,cons_ne_nil->Gj,cons_append->Gk,range'->Gs,range_succ->Gx,mem_zipIdx_iff_getElem?->Gy,foldl_cons->Gz,countP_eq_length_filter->GA,getElem?_take_of_lt->Hq,Pairwise->Hr,pairwise_mergeSort->HA,getElem?_cons_succ->HB,take_of_length_le->HI,set_set->HJ,range_succ_eq_map->HK,length_pos_of_mem->HL,find?_cons_of_neg->HM,mem_of_mem_erase->Ih,perm_cons_erase->Iy,pairwise_append->Iz,not_lt->IA,filter->IB,mergeSort_perm->IM,map_eq_nil_iff->IP,mem_filterMap->I0,getElem?_drop->Ja,take_sublist->Ji,reverse_cons->Jj,getElem?_inj->Jk,foldl_append->Jl,find?_append->Jm,prefix_refl->Jq,mem_flatMap->Jr,nil_append->JA,drop_zero->JH,take_nil->JP,map_take->JQ,map_drop->JR,drop_nil->JS,Perm->K4
open PySem renaming wpAny_bind->Ad,Addr->Ae,Value->Ai,Shared->Ax,Str->Ay,starEach->AG,mainGlobals->AK,wpAny->AZ,model->A7,sizeLine_eq->Bf,compareOp->Bh,Stmt->Bi,Program->Bn,World->Bw,foldedSetIterable->Bz,bootBuiltins->BG,wpAny_holding->BH,wpAny_mono->BL,Heap->BM,backTo->BP,Around->BS,bindArgs->Cf,keywordEach->Cp,binaryOp->Cv,Obj->Cy,FuncData->Cz,attributeBase->CA,wpAny_truthy_bool->CJ,Pos->CQ,cLine->CU,wpAny_Call_Name_kw->CW,sysModules->CY,recursionLimit->CZ,assignEach->C6,OsState->Dd,backToKw->Df,wpAny_field->Dj,tupleKind_room_in1->Dm,wpAny_passesOwn->Dn,wpAny_newList->Dr,Builtin->Dx,mem_of_lookup->DB,valueAt->DJ,wpAny_standAt->DU,NameKind->DW,wpAny_tryCatch->D9,call_meetsIn->Ea,wpAny_call_entry->El,wpAny_call->Em,call_meets->En,codeAny->Er,sliceBounds->Ew,callWith->Ex,wpAny_execs_nil->ED,codeAny_mono->EM,typeIs_str->EX,wpAny_letGo->Ff,Keyword->Fg,builtinsNs->FF,letOwnedTupleGo->FH,wpAny_newFunctionEnv->FV,Within->FW,tupleKind->F6,getItem->F7,wpAny_setEntries_of->Ge,plainId_quiet->Gi,Params->Gp,wpAny_pyIter_list->GD,wpAny_loadPart_at->GF,wpAny_Call_method->GG,concat_meets->GH,callerA->GI,plainObj_wpAny_Assign_Attribute->GR,treeTable->GZ,seqIndex?->G0,noFill_tuple_add->G1,assign->G2,IsPart->G5,Env->G8,subscripted->Ha,wpAny_updateSeq->Ht,codeAny_builtin->Hu,BindsTo->HF,wpAny_setField->HN,wpAny_seqItems->HP,wpAny_rule->HQ,defaultsOf->HR,atKey->HS,PlainAttrs->HX,wpAny_missedRemoval_other->Ik,evalArgs_none->Il,Sem->Ir,swapsWithSole->IE,swappedStores->IF,seq_tuple_add->IG,call->IH,wpAny_Call_method0_late->IU,bindL->IV,bindC->IW,PassesOwn->IY,typeOf->Jd,seqIndex_neg->Je,wpAny_isTrue_Compare1->Jn,seqIndex_of->Js,richCompare->Jt,excClassObj->Ju,GenState->Jv,wpAny_dictFind_heap->JE,wpAny_load->JI,wpAny_Name->JK,closureFor->JL,wpAny_setState_of->JX,wpAny_setEpoch_of->JY,wpAny_pyIter_enum->JZ,wpAny_pyIter_dict->J0,wpAny_newObj_type->J7,wpAny_dictEntries->J8,wpAny_assign_Name->J9,slot_list_getitem->Ka,setItem->Kb,wpAny_lookBehind->Kj,wpAny_forIn_list->Kk,wpAny_execs_cons->Kl,wpAny_Dict_empty->Km,ret->Kn,pastItsLine_dict->Ko,noteFrame->Kp,lastMarks->Kq,cellsFrom->Kr,Tok->Ks,DictEntry->Kt,Arguments->Kw,size_of_entries->KA,wpAny_newTuple->KJ,wpAny_Compare1->KL,pyIter->KN,entryFor_alias->KO,denote->KP,Thread->KU,SetTable->KW,intBits_le_64->K5,fenceModules?->K6,call_list_seq->K8,bltViewBooted->K9,ExceptHandler->Lb
open Bool renaming true->Af,false->Am,false_ne_true->AI,and_eq_true->Be,eq_iff_iff->BN,false_and->Du,and_false->D0,and_eq_true_iff->Ej,eq_false_iff->EU,or_eq_true->GC,and_eq_false_iff->Ii,false_eq_true->Jc,or_false->JT,and_true->JU,and_self->JV,true_or->Ki
open PySem.Heap renaming get?_push_of_some->Aj,lt_size->AO,get?_push_size->AR,get?_update_other->Cq,get?_update_self->CT,get?_none_of_le->C0,SameBut->De,size_push->GV,get?_update_ne->IK
open Nat renaming le_refl->Ap,le_trans->AL,blt->AQ,ne_of_lt->A9,lt_of_lt_of_le->Bl,zero_le->Bo,lt_of_le_of_lt->BJ,lt_irrefl->CN,succ_le_succ->CS,lt_succ_self->C9,sub_self->Dg,le_of_lt->Dh,ble->Ee,zero_add->Ez,lt_succ_of_lt->EW,min_self->Fj,le_of_eq->Fl,le_of_ble_eq_true->Fw,max_le->F0,lt_trans->Gg,le_succ_of_le->Gh,le_of_not_lt->Gr,le_succ->Gw,ne_of_gt->Ig,min_le_right->Jy,le_max_right->Jz,le_max_left->JG,zero_sub->Kx,add_zero->Ky
open Ne renaming symm->AF
open PySem.Paired renaming length->AJ,snoc->JM
open Option.some renaming inj->AS,injEq->Ho
open PySem.Str renaming ofString->A8,join->Fc
open True renaming intro->Bk
open Array renaming length_toList->Bt,getElem?_toList->Cu,getElem?_eq_some_iff->Dq,toList_append->ID,find?_toList->IQ,append_empty->IS,append_assoc->IT,size_zip->JB,size_map->JC,toList->JW,map->KH
open PySem.Value renaming ref->Bu,none->CP,type->Ey,str->Fy,bool->GK,int->Hc,isStrOf->JF,isInt->Ke,float->Kf
open PySem.Obj renaming mapSeq->BR,data_mapFields->EE,mapFields->FR,isFreed_of_fields->Iu,data_mapDictKeys->IJ
open PySem.SeqAt renaming EqAt->BV,RcNeAt->Fd,RcAt->FP
open PySem.Heap.SameBut renaming update->BW
open Int renaming emod_nonneg->BY,eq_ofNat_of_zero_le->B9,emod_lt_of_pos->Ca,zero_add->C2,le_refl->GB,le_of_lt->Kz
open False renaming elim->B4
open Or renaming inl->B8,inr->Ed
open Sum renaming inl->Cb,inr->C1
open PySem.NameKind renaming free->Cd,cell->Dv
open PySem.Calls renaming callWith_builtin->CI,spliced_cons->Dc,evalArgs_plain->Dp,call_function_entry->EG,spliced_nil->EI,Name_function_global->GN
open PySem.SetTable renaming fresh->CK
open PyProof.Rows renaming IntsAre->CL,callWith_type1->C8,envOfC->DF,slot_tuple_getitem->DH,arrOf->DX,listUpdate_at->Eu,get?_update_seq->EH,AllBare->ES,wpS_bind->Fv,entry_list_sort->FI,slot_list_sort->FY,SortedTo->FZ,sortedS->F9,IntKeys->Gv,plain_sorted->GO,failedOf->GP,entry_sorted->GQ,kind_sorted->Hn,K->HH,wpS_pure->HZ,sortedHeap_old->Ia,size_push'->Ib,args_list_sort->Ie,sortedHeap_at->IL,subscriptTail_builtinR->Jg,args_sorted1->Jh,IsTup->Jx,Subscript_->JN,StrsAre->Kh,wpS_mono->K0,slicePart_none->K1,list_sort_tree->K2,SortSt->K3,subscriptTail->Le
open PySem.F renaming plain_min_loop->C7,slot_dict_pop->DY,args_tuple_add_2->EF,plainAttrs_dict->EO,entry_tuple_add->ER,slot_tuple_add->EZ,entry_min_loop->E3,slot_dict_get->Fe,args_dict_pop_3->GW,args_dict_get_3->GX,entry_dict_pop->G6,entry_dict_get->G7,type_dict_pop->Hj,store_object->Hz
open PySem.Txt renaming split->Dk,join->Fb,rpartition->FG,partition->Hx
open PySem.Builtin.Str renaming occurrences->Dw
open PySem.Builtin.Dict renaming takeOut->DR
open Prod renaming ext->DZ,snd->GY,fst->Iv
open Prod.mk renaming inj->D6
open PySem.SeqAt.RcNeAt renaming lists_lengths->D7,tuples->GL,lists->GU
open PySem.Builtin.Slice renaming slicePlaces->Eb,sliceAdjust->FU
open PySem.SeqAt.RcAt renaming lists_lengths->Et,tuples->Hy,lists->HD
open PySem.Builtin.Frozenset renaming unchanged->Fq,subsetOf->Fu,quietEq->FA,sizeOf->Jw
open List.Sublist renaming map->FE
open PySem.SeqAt.EqAt renaming same->FQ,str_int->He,of_refs->Hg,int_str->Hh,int_int->Hi
open PySem.Builtin renaming bitAnd->Gq
open List.Perm renaming eq_of_pairwise->Gu
open PySem.Walks renaming list->GJ
open PySem.W.Fast renaming tw5923862056798008813->GS
open PySem.StrLaws renaming strSub_toList->Hd,At->HW
open PySem.Around renaming under->Hl,frames_deeper->HG
open PySem.Code renaming isFrame->HE,frames->Kv
open PySem.Heap.Ns1 renaming of_empty->HY
open Array.Perm renaming refl->Ij
open ForInStep renaming yield->IC
open LawfulMonad renaming pure_bind->Jb
open Sum.inr renaming inj->JD
open PySem.W.WShape renaming has->Kd
open PySem.CmpOp renaming NotIn->Kg,In->KZ
open PySem.Data renaming fields->Ku,cell->KY,seq->Ld
open PySem.W.WData renaming int->KC
open PyProof.Rows.IsTup renaming new->KG
open SizeOf renaming sizeOf->KI
open PySem.W.Looks renaming ld->KR
open PySem.Flow renaming ret->La
open List renaming toArray->zTo
section
open PySem PySem.Spec PyProof.Rows PySem.W
abbrev LK:=List Ay
abbrev LL:=List Ae
abbrev LN:=List (Ae×Cy)
abbrev LQ:=List Ai
abbrev LS:=List Int
abbrev LV:=List (Option Nat)
abbrev LW:=Option Int
abbrev LX:=Option Ai
abbrev LZ:=Option Ae
abbrev L1:=List Expr
abbrev L8:=List Nat
abbrev Mb:=Array Ai
abbrev Mc:=List G8
abbrev Me:=List Bi
abbrev Mg:=List (Ay×Ae)
abbrev Mh:=List (Int×List Ay)
abbrev Mi:=List (Ae×CQ×Ay)
abbrev Mj:=List (Ay×Ai)
abbrev Ml:=List (List Nat)
abbrev Mo:=List (Ay×DW)
abbrev Mt:=Option Ay
abbrev Mu:=List (Option Expr)
abbrev Mv:=List Fg
abbrev MA:=List (Int×Int×Int×Int)
abbrev MD:=Option Expr
abbrev MF:=List (Int×Ay)
abbrev MI:=Option DW
theorem Np{p:Prop}(h:p:=by decide +kernel):p:=h
theorem Nq{p:Prop}(h:p:=by decide):p:=h
theorem Nr{p:Prop}(h:p:=by omega):p:=h
theorem Nt{p:Prop}(h:p:=by rfl):p:=h
theorem Nu{p:Prop}(h:p:=by simp):p:=h
theorem Y{α:Sort _}{a:α}:a=a:=rfl
end
abbrev Ao:=@decide_eq_true
abbrev Aq:=@if_neg
abbrev Ar:=@decide_eq_false
abbrev Az:=@if_pos
abbrev Bv:=@of_decide_eq_true
abbrev Bx:=@decide_eq_true_eq
abbrev Cn:=@beq_eq_false_iff_ne
abbrev D3:=@decide_eq_decide
abbrev Ek:=@beq_iff_eq
abbrev F3:=@or_false
abbrev F4:=@decide_eq_false_iff_not
abbrev F5:=@beq_self_eq_true
abbrev Gm:=@beq_false_of_ne
abbrev G9:=@ne_true_of_eq_false
theorem zE1{α:Sort _}{P:α→Prop}{G:Prop}(h:∃x,P x)(f:∀x,P x→G):G:=h.elim f
theorem zE2{α:Sort _}{β:Sort _}{P:α→β→Prop}{G:Prop}(h:∃x y,P x y)(f:∀x y,P x y→G):G:=h.elim λ_ h=>zE1 h (f _)
theorem zE3{α:Sort _}{β:Sort _}{γ:Sort _}{P:α→β→γ→Prop}{G:Prop}(h:∃x y z,P x y z)(f:∀x y z,P x y z→G):G:=h.elim λ_ h=>zE2 h (f _)
theorem zE4{α:Sort _}{β:Sort _}{γ:Sort _}{δ:Sort _}{P:α→β→γ→δ→Prop}{G:Prop}(h:∃x y z u,P x y z u)(f:∀x y z u,P x y z u→G):G:=h.elim λ_ h=>zE3 h (f _)
theorem zE5{α:Sort _}{β:Sort _}{γ:Sort _}{δ:Sort _}{ε:Sort _}{P:α→β→γ→δ→ε→Prop}{G:Prop}(h:∃x y z u v,P x y z u v)(f:∀x y z u v,P x y z u v→G):G:=h.elim λ_ h=>zE4 h (f _)
theorem zI2{α:Sort _}{β:Sort _}{P:α→β→Prop}(x:α)(y:β)(h:P x y):∃x y,P x y:=⟨x,y,h⟩
theorem zI3{α:Sort _}{β:Sort _}{γ:Sort _}{P:α→β→γ→Prop}(x:α)(y:β)(z:γ)(h:P x y z):∃x y z,P x y z:=⟨x,y,z,h⟩
theorem zI4{α:Sort _}{β:Sort _}{γ:Sort _}{δ:Sort _}{P:α→β→γ→δ→Prop}(x:α)(y:β)(z:γ)(u:δ)(h:P x y z u):∃x y z u,P x y z u:=⟨x,y,z,u,h⟩
theorem zI5{α:Sort _}{β:Sort _}{γ:Sort _}{δ:Sort _}{ε:Sort _}{P:α→β→γ→δ→ε→Prop}(x:α)(y:β)(z:γ)(u:δ)(v:ε)(h:P x y z u v):∃x y z u v,P x y z u v:=⟨x,y,z,u,v,h⟩
theorem zA1{a b G:Prop}(h:a∧b)(f:a→b→G):G:=f h.1 h.2
theorem zA2{a b c G:Prop}(h:a∧b∧c)(f:a→b→c→G):G:=zA1 h.2 (f h.1)
theorem zA3{a b c d G:Prop}(h:a∧b∧c∧d)(f:a→b→c→d→G):G:=zA2 h.2 (f h.1)
theorem zA4{a b c d e G:Prop}(h:a∧b∧c∧d∧e)(f:a→b→c→d→e→G):G:=zA3 h.2 (f h.1)
theorem zA5{a b c d e i G:Prop}(h:a∧b∧c∧d∧e∧i)(f:a→b→c→d→e→i→G):G:=zA4 h.2 (f h.1)
theorem zA6{a b c d e i j G:Prop}(h:a∧b∧c∧d∧e∧i∧j)(f:a→b→c→d→e→i→j→G):G:=zA5 h.2 (f h.1)
theorem zA7{a b c d e i j k G:Prop}(h:a∧b∧c∧d∧e∧i∧j∧k)(f:a→b→c→d→e→i→j→k→G):G:=zA6 h.2 (f h.1)
section
open Lean Parser.Tactic
def zno{α}:MacroM α:=Macro.throwUnsupported
def zip1 (t:Syntax):Bool:=t.isOfKind ``Parser.Term.anonymousCtor
def zct (t:Syntax):Nat:=((t.replaceM (m:=StateM Nat) λs=>do
 if s.isOfKind ``Parser.Term.byTactic then return some s
 if s.isOfKind ``Parser.Term.syntheticHole then modify (·+1)
 pure none).run 0).2
def zid (t:Syntax):Array Name:=((t.replaceM (m:=StateM (Array Name)) λs=>do
 if s.isIdent then modify (·.push s.getId.getRoot)
 pure none).run #[]).2
def zcv:Nat→Syntax→MacroM (TSyntax ``rcasesPatLo)
 |0,_=>zno
 |d+1,t=>do
  if zip1 t then `(rcasesPatLo|⟨$(←(t[1].getSepArgs).mapM (zcv d)),*⟩)
  else if let `(($a,$b,*)):=t then `(rcasesPatLo|⟨$(←([a.raw].toArray++b.getElems.map (·.raw)).mapM (zcv d)),*⟩)
  else if t.isIdent then `(rcasesPatLo|$(⟨t⟩):ident)
  else if t.isOfKind ``Parser.Term.hole then `(rcasesPatLo|_)
  else zno
def zcb (bs:Array (TSyntax ``Parser.Term.funBinder)):MacroM (Array (TSyntax ``Parser.Term.funBinder)×TSyntax `tactic):=do
 if !(bs.any λt=>zip1 t.raw) then zno
 let mut nb:=#[]
 let mut ts:=#[]
 for t in bs do
  if zip1 t.raw then
   let h←Macro.withFreshMacroScope `(hh)
   nb:=nb.push ⟨h.raw⟩
   ts:=ts.push (←`(tactic|obtain ⟨$(←(t.raw[1].getSepArgs).mapM (zcv 9)),*⟩:=$h))
  else nb:=nb.push t
 return (nb,←`(tactic|($[$ts:tactic];*)))
def zgo:Nat→Syntax→StateT (Array (TSyntax `tactic)) MacroM Syntax
 |0,s=>pure s
 |d+1,s=>s.replaceM λs=>do
  if s.isOfKind ``Parser.Term.byTactic then return some s
  match s with
  |`(fun $bs* => $b)=>
   let v:=(bs.filter λt=>zip1 t.raw).foldl (λa t=>a++zid t.raw) #[]
   if v.size>0&&zct b=1&&!(zid b).any v.contains then
    let (nb,q)←(zcb bs:MacroM _)
    modify (·.push q)
    let c←zgo d b
    return some (←`(fun $nb* => $(⟨c⟩))).raw
   else pure none
  |_=>pure none
end
namespace L2.Top
open PySem PySem.W PyProof.Rows
def Yi(tb:String->Option Dx)(p:Bn)(w:Bw)(n₀:Nat)(ann:LX):Nat->F8->KU->Option F8
 |0,_,_=>none
 | n+1,s,t=>match Kc t with
   |true=>U s
   | false=>match KQ n₀ ann t with
     |false=>none
     | true=>match stepT (KP tb) p w s t with
       |some (s',t')=>Yi tb p w n₀ ann n s' t'
       |none=>none
def fO{tb:String->Option Dx}{p:Bn}{w:Bw}{n₀:Nat}{ann:LX}:∀{n:Nat}{s s':F8}{t:KU},Yi tb p w n₀ ann n s t=U s'->topRun tb p w n₀ ann n s.abs t=U s'.abs
 |0,_,_,_,h=>by cases h
 | n+1,s,s',t,h=>by
   unfold Yi at h
   unfold topRun
   cases c:Kc t with
   |true=>rw[c]at h;cases h;rfl
   | false =>
     rw[c]at h
     cases b:KQ n₀ ann t with
     |false=>rw[b]at h;cases h
     | true =>
       rw[b]at h
       cases a:stepT (KP tb) p w s t with
       |none=>rw[a]at h;cases h
       |some r=>obtain⟨d,e⟩:=r;rw[a]at h;rw[stepT_spec a];exact fO h
def bE(p:Bn)(w:Bw)(n₀:Nat)(ann:LX):Nat->F8->KU->Option F8
 |0,_,_=>none
 | n+1,s,t=>match Kc t with
   |true=>U s
   | false=>match Fast.tw6613529449190102663 n₀ ann t with
     |false=>none
     | true=>match Fast.tw10156331382660048174 (Fast.tw11892475500146522536 Fast.tw14364793385576792824) p w s t with
       |some (s',t')=>bE p w n₀ ann n s' t'
       |none=>none
def fN{p:Bn}{w:Bw}{n₀:Nat}{ann:LX}:∀{n:Nat}{s:F8}{t:KU},bE p w n₀ ann n s t=Yi GZ p w n₀ ann n s t
 |0,_,_=>rfl
 | n+1,s,t=>by
   unfold bE Yi
   rw[<-show@KQ=_ from Fast.te6613529449190102663,<-show@stepT=_ from Fast.te10156331382660048174,<-show@KP=_ from Fast.te11892475500146522536,<-show GZ=_ from Fast.te14364793385576792824]
   cases Kc t with
   |true=>rfl
   | false =>
     cases KQ n₀ ann t with
     |false=>rfl
     | true =>
       cases stepT (KP GZ) p w s t with
       |none=>rfl
       |some r=>exact fN
def treeOf(l:List Cy):BT:=(l.foldl (λ(x:BT×Nat)o=>(x.1.ins x.2 o,x.2+1)) (.nil,0)).1
def Ahm(P:Gp)(os:Dd):F8:=⟨treeOf (D4 P).objs.toList,11,(D4 P).life,#[],HV,IX,os⟩
def Aan(P:Gp)(os:Dd):(Ahm P os).abs=⟨D4 P,#[],HV,IX,os⟩:=by kernel_rfl
def Aao(P:Gp):((D4 P).isNs AK&&(#[]:Array Jv).size==0,(D4 P).objs.size,(D4 P).nsMap AK "__annotations__")=(Af,11,U (.ref 6)):=by kernel_rfl
def tV(p:Bn)(M:Nat)(w:Bw)(os:Dd):Option F8:=bE p w 11 (U (.ref 6)) M (Ahm w.params os) (topStub p)
def yG(p:Bn)(P:Gp)(s:Ax):Bool :=
 staticsOk (GS p.main.body) (D4 P) s.heap&&namesBound p s.heap&&gensDone s&&laidKept (D4 P) s.heap
abbrev sees(p q:Bn)(loose:LK)(Xt:Ax->Bool)(s:Ax):=Fast.tw4187177175401517315 q loose (GS p.main.body) Xt Af s
def AfL{p q:Bn}{loose:LK}{Xt:Ax->Bool}{α:Type}{Yf:Ax->α}{Ya:Bw->α}{N:Nat}(M:Nat)(e:opening p=plainProg p.main.scope.names)(hN:Ee 600 N=Af)(f:∀s,K6 p s=U s)(le:Ee M N=Af)(g1:∀(w:Bw)(os:Dd),(tV p M w os).map (λst=>(yG p w.params st.abs,(sees p q loose Xt st.abs).1,(sees p q loose Xt st.abs).2.1,(sees p q loose Xt st.abs).2.2.2.2.1))=U (Af,expectedOf q,K9,pinGoodD (drecsOf q)))(g2:∀(w:Bw)(os:Dd),(tV p M w os).map (λst=>((sees p q loose Xt st.abs).2.2.1,(sees p q loose Xt st.abs).2.2.2.1))=U (Af,Af))(g3:∀(w:Bw)(os:Dd),(tV p M w os).map (λst=>(sees p q loose Xt st.abs).2.2.2.2.2.1)=U (plainGoodE q (looseW q loose)))(g4:∀(w:Bw)(os:Dd),(tV p M w os).map (λst=>((sees p q loose Xt st.abs).2.2.2.2.2.2.1,(sees p q loose Xt st.abs).2.2.2.2.2.2.2.1,(sees p q loose Xt st.abs).2.2.2.2.2.2.2.2))=U (plainGoodD q loose,wideGood q,clsGoodW q loose))(hy:∀(w:Bw)(os:Dd),(tV p M w os).map (λst=>Yf st.abs)=U (Ya w)):LeftO p q loose Xt Yf Ya N Af:=λw=>by
 obtain⟨⟨c,m,d,k,os⟩,h,n⟩:=AA.mp (boot_open e hN f w)
 obtain⟨rfl,rfl,rfl,rfl⟩:c=D4 _/\m=#[]/\d=HV/\k=IX:=by simpa using n
 obtain⟨l,g,o⟩:_/\_/\_:=by simpa only[Prod.mk.injEq]using Aao w.params
 obtain⟨st,r,y⟩:=AA.mp (hy w os)
 have g1:=g1 w os
 have g2:=g2 w os
 have g3:=g3 w os
 have g4:=g4 w os
 rw[r]at g1 g2 g3 g4
 have g1:=AS g1
 have g2:=AS g2
 have g3:=AS g3
 have g4:=AS g4
 unfold tV at r
 rw[fN]at r
 have r:=fO r
 rw[Aan]at r
 have r:=topRun_mono (N-M) _ _ _ _ r
 rw[show M+(N-M)=N by have:=Fw le;omega]at r
 unfold yG at g1
 unfold sees at g1 g2 g3 g4
 rw[<-(Fast.te4187177175401517315),<-(Fast.te5923862056798008813)]at g1 g2 g3 g4
 have i:=(D6 g1).1
 have g1:=D6 (D6 g1).2
 have a:=D6 g1.2
 have g2:=D6 g2
 have g4:=D6 g4
 have b:=D6 g4.2
 have j:openSeen q loose _ Xt Af _=openGood q loose :=
  DZ g1.1 (DZ a.1 (DZ g2.1 (DZ g2.2 (DZ a.2 (DZ g3 (DZ g4.1 (DZ b.1 b.2)))))))
 have t:topFrom GZ p w N ⟨D4 w.params,#[],HV,IX,os⟩=U st.abs:=by
  unfold topFrom
  rw[l,g,o,r]
  show(match staticsOk _ _ _&&namesBound p _&&gensDone _&&laidKept _ _ with|true=>_|false=>_)=_
  rw[i]
 unfold openEnds
 rw[h]
 show(topFrom GZ p w N _).map _=_
 rw[t]
 exact congrArg U (DZ j y)
def tk{α:Type}:Nat->List α->List α
 |0,_=>[]
 |_+1,[]=>[]
 |n+1,x::xs=>x::tk n xs
def Aez{α:Type}:∀(n:Nat)(xs:List α),tk n xs=xs.take n
 |0,_=>rfl
 |_+1,[]=>rfl
 |n+1,x::xs=>by rw[tk,Aez n xs];rfl
def dp{α:Type}:Nat->List α->List α
 |0,xs=>xs
 |_+1,[]=>[]
 |n+1,_::xs=>dp n xs
def xO{α:Type}:∀(n:Nat)(xs:List α),dp n xs=xs.drop n
 |0,_=>rfl
 |_+1,[]=>rfl
 |n+1,x::xs=>by rw[dp,xO n xs];rfl
abbrev Ae5(p:Bn)(M:Nat)(l:LL)(w:Bw)(os:Dd):Option (List (Option Cy)):=(tV p M w os).map λst=>l.map st.abs.heap.get?
def AcV{p q:Bn}{loose:LK}{Xt:Ax->Bool}{K:Gp->Ab}{as:LL}{e0:∀P,as=(K P).map (·.1)}{ts:LL}{N:Nat}(n M:Nat)(e:opening p=plainProg p.main.scope.names)(hN:Ee 600 N=Af)(f:∀s,K6 p s=U s)(le:Ee M N=Af)(g1:∀(w:Bw)(os:Dd),(tV p M w os).map (λst=>(yG p w.params st.abs,(sees p q loose Xt st.abs).1,(sees p q loose Xt st.abs).2.1,(sees p q loose Xt st.abs).2.2.2.2.1))=U (Af,expectedOf q,K9,pinGoodD (drecsOf q)))(g2:∀(w:Bw)(os:Dd),(tV p M w os).map (λst=>((sees p q loose Xt st.abs).2.2.1,(sees p q loose Xt st.abs).2.2.2.1))=U (Af,Af))(g3:∀(w:Bw)(os:Dd),(tV p M w os).map (λst=>(sees p q loose Xt st.abs).2.2.2.2.2.1)=U (plainGoodE q (looseW q loose)))(g4:∀(w:Bw)(os:Dd),(tV p M w os).map (λst=>((sees p q loose Xt st.abs).2.2.2.2.2.2.1,(sees p q loose Xt st.abs).2.2.2.2.2.2.2.1,(sees p q loose Xt st.abs).2.2.2.2.2.2.2.2))=U (plainGoodD q loose,wideGood q,clsGoodW q loose))(h1:∀(w:Bw)(os:Dd),Ae5 p M (as.take n) w os=U (tk n ((K w.params).map λp=>U p.2)))(h2:∀(w:Bw)(os:Dd),Ae5 p M ((as.drop n).take n) w os=U (tk n (dp n ((K w.params).map λp=>U p.2))))(h3:∀(w:Bw)(os:Dd),Ae5 p M ((as.drop n).drop n) w os=U (dp n (dp n ((K w.params).map λp=>U p.2))))(h4:∀(w:Bw)(os:Dd),Ae5 p M ts w os=U (ts.map λ_=>U (HU #[]))):LeftO p q loose Xt (Hook.obs (kmHook K as e0 ts)) (Hook.val (kmHook K as e0 ts)) N Af :=
 AfL M e hN f le g1 g2 g3 g4 λw os=>by
  have h1:=h1 w os
  have h2:=h2 w os
  have h3:=h3 w os
  have h4:=h4 w os
  unfold Ae5 at h1 h2 h3 h4
  rw[Aez]at h1
  rw[Aez,xO]at h2
  rw[xO,xO]at h3
  cases r:tV p M w os with
  |none=>rw[r]at h1;cases h1
  | some st =>
    rw[r]at h1 h2 h3 h4
    have h1:(as.take n).map _=((K _).map λp=>U p.2).take n:=AS h1
    have h2:((as.drop n).take n).map _=(((K _).map λp=>U p.2).drop n).take n:=AS h2
    have h3:((as.drop n).drop n).map _=(((K _).map λp=>U p.2).drop n).drop n:=AS h3
    have h4:=AS h4
    have q:as.map st.abs.heap.get?=(K w.params).map λp=>U p.2:=by
     rw[<-B5 n as,AU,<-B5 n (as.drop n),AU,h1,h2,h3,B5,B5]
    exact congrArg U (DZ q h4)
end L2.Top
section
open PySem PySem.W PyProof.Rows
abbrev K47.q0:PySem.Program:=PySem.W.view PySem.Challenge.pw_threeroofs_k47_other_houses [0,2,3,4,5,6,7,8,9,10,12,13,14,15,17,18,19,20,21,22,23,24,25,26,27,28,29,31,32,33,34,35,36,37,39,40,41,43,45,46,47,48,49,50,51,53,54,55,56,57,59,60,62,64,65,67,68,69,70,71,72,73,74,75,76,77,78,79,80,81,82,83]
abbrev K47.x0:PySem.Shared->Bool:=fun s=>xlAt K47.q0 [] s&&recOk (RowW.records (OpenRow.toRowW (OpenLaw.row PySem.Challenge.rw_threeroofs_k47_other_houses))) s
theorem K47.wl:OpenLaw.wellSaid PySem.Challenge.rw_threeroofs_k47_other_houses=true:=by kernel_rfl
local macro_rules | `(tactic| o_head $H) => `(tactic| exact False.elim ‹False›)
theorem K47.m0:False->PySem.Challenge.rw_threeroofs_k47_other_houses.Holds:=by
 intro hh
 w_on;refine holds_law K47.wl fun said=>?_
 k_head
abbrev K47.Anj:List Addr:=[2,3,15,17,18,20,21,22,29,30,31,32,35,42,44,45,47,48,49,50,51,54,61,63,64,66,67,68,69,70,73,80,82,83,85,86,87,88,89,92,99,101,102,104,105,106,107,108,111,118,120,121,123,124,125,126,127,130,137,139,140,142,143,144,145,146,149,156,157,158,161,168,169,170,173,175,176,178,179,180,182,183,185,186,187,189,190,192,193,194,196,197,199,200,201,203,204,206,207,208,210,211,213,214,215,218,219,220,223,224,225,228,229,230,232,233,235,236,237,239,240,242,243,244,246,247,249,250,258,260,261,263,264,265,267,268,270,271,272,274,275,277,278,279,281,282,284,285,286,288,289,291,292,293,295,296,298,299,300,302,303,305,306,307,309,310,312,313,314,315,316,317,318,328,330,331,333,334,335,337,338,340,341,342,345,346,347,349,350,352,353,354,356,357,359,360,361,363,364,366,367,368,369,370,371,372,375,377,378,380,381,382,384,385,387,388,396,398,399,401,402,403,405,406,408,409,410,413,414,415,417,418,420,421,422,423,424,425,426,436,438,439,441,442,443,445,446,448,449,450,451,452,453,454,464,466,467,469,470,471,473,474,476,477,478,481,482,483,485,486,488,489,490,492,493,495,496,497,499,500,502,503,504,505,506,507,508,511,513,514,516,517,518,520,521,523,524,525,528,529,530,532,533,535,536,537,540,541,542,544,545,547,548,556,558,559,561,562,563,565,566,568,569,570,572,573,575,576,577,579,580,582,583,584,586,587,589,590,591,593,594,596,597,598,600,601,603,604,605,606,607,608,609,612,614,615,617,618,626,628,629,631,632,633,635,636,638,639,640,642,643,645,646,647,649,650,652,653,654,656,657,659,660,661,663,664,666,667,668,670,671,673,674,675,677,678,680,681,682,684,685,687,688,689,691,692,694,695,696,698,699,701,702,703,705,706,708,709,710,712,713,715,716,717,719,720,722,723,724,726,727,729,730,731,733,734,736,737,738,740,741,743,744,745,747,748,750,751,752,754,755,757,758,759,761,762,764,765,766,768,769,771,772,773,775,776,778,779,780,782,783,785,786,787,789,790,792,793,794,796,797,799,800,801,803,804,806,807,808,810,811,813,814,815,817,818,820,821,822,824,825,827,828,829,831,832,834,835,836,837,838,839,840,843,845,846,848,849,850,852,853,855,856,857,860,861,862,864,865,867,868,869,871,872,874,875,876,878,879,881,882,883,885,886,888,889,890,892,893,895,896,897,899,900,902,903,904,906,907,909,910,911,913,914,916,917,918,920,921,923,924,925,927,928,930,931,932,934,935,937,938,939,942,943,944,947,948,949,951,952,954,955]
theorem K47.h1:∀ (w:World) (os:OsState),L2.Top.Ae5 PySem.Challenge.pw_threeroofs_k47_other_houses 7064 (K47.Anj.take 198) w os=some (L2.Top.tk 198 ((K47.m0.heap_1 w.params).map fun p=>some p.2)):=by
 intro w os
 kernel_rfl
theorem K47.h2:∀ (w:World) (os:OsState),L2.Top.Ae5 PySem.Challenge.pw_threeroofs_k47_other_houses 7064 ((K47.Anj.drop 198).take 198) w os=some (L2.Top.tk 198 (L2.Top.dp 198 ((K47.m0.heap_1 w.params).map fun p=>some p.2))):=by
 intro w os
 kernel_rfl
theorem K47.h3:∀ (w:World) (os:OsState),L2.Top.Ae5 PySem.Challenge.pw_threeroofs_k47_other_houses 7064 ((K47.Anj.drop 198).drop 198) w os=some (L2.Top.dp 198 (L2.Top.dp 198 ((K47.m0.heap_1 w.params).map fun p=>some p.2))):=by
 intro w os
 kernel_rfl
theorem K47.h4:∀ (w:World) (os:OsState),L2.Top.Ae5 PySem.Challenge.pw_threeroofs_k47_other_houses 7064 ([531,543]) w os=some (List.map (fun _=>some (tabObj #[])) ([531,543]:List Addr)):=by
 intro w os
 kernel_rfl
theorem K47.g1:∀ (w:World) (os:OsState),(L2.Top.tV PySem.Challenge.pw_threeroofs_k47_other_houses 7064 w os).map (fun st=>(L2.Top.yG PySem.Challenge.pw_threeroofs_k47_other_houses w.params st.abs,(L2.Top.sees PySem.Challenge.pw_threeroofs_k47_other_houses K47.q0 [] K47.x0 st.abs).1,(L2.Top.sees PySem.Challenge.pw_threeroofs_k47_other_houses K47.q0 [] K47.x0 st.abs).2.1,(L2.Top.sees PySem.Challenge.pw_threeroofs_k47_other_houses K47.q0 [] K47.x0 st.abs).2.2.2.2.1))=some (true,expectedOf K47.q0,bltViewBooted,pinGoodD (drecsOf K47.q0)):=by
 intro w os
 kernel_rfl
theorem K47.g2:∀ (w:World) (os:OsState),(L2.Top.tV PySem.Challenge.pw_threeroofs_k47_other_houses 7064 w os).map (fun st=>((L2.Top.sees PySem.Challenge.pw_threeroofs_k47_other_houses K47.q0 [] K47.x0 st.abs).2.2.1,(L2.Top.sees PySem.Challenge.pw_threeroofs_k47_other_houses K47.q0 [] K47.x0 st.abs).2.2.2.1))=some (true,true):=by
 intro w os
 kernel_rfl
theorem K47.g3:∀ (w:World) (os:OsState),(L2.Top.tV PySem.Challenge.pw_threeroofs_k47_other_houses 7064 w os).map (fun st=>((L2.Top.sees PySem.Challenge.pw_threeroofs_k47_other_houses K47.q0 [] K47.x0 st.abs).2.2.2.2.2.1))=some (plainGoodE K47.q0 (looseW K47.q0 [])):=by
 intro w os
 kernel_rfl
theorem K47.g4:∀ (w:World) (os:OsState),(L2.Top.tV PySem.Challenge.pw_threeroofs_k47_other_houses 7064 w os).map (fun st=>((L2.Top.sees PySem.Challenge.pw_threeroofs_k47_other_houses K47.q0 [] K47.x0 st.abs).2.2.2.2.2.2.1,(L2.Top.sees PySem.Challenge.pw_threeroofs_k47_other_houses K47.q0 [] K47.x0 st.abs).2.2.2.2.2.2.2.1,(L2.Top.sees PySem.Challenge.pw_threeroofs_k47_other_houses K47.q0 [] K47.x0 st.abs).2.2.2.2.2.2.2.2))=some (plainGoodD K47.q0 [],wideGood K47.q0,clsGoodW K47.q0 []):=by
 intro w os
 kernel_rfl
end
section
open Lean Parser.Tactic in
local macro_rules
|`(tactic|obtain ⟨$ps,*⟩:=$t)=>do
 let ps:=ps.getElems
 let n:=ps.size
 if n<2 then zno
 let r0←`(tactic|rcases $t:term with (⟨$ps,*⟩))
 if !t.raw.isIdent then return ←`(tactic|first|(have hh:=$t;obtain ⟨$ps,*⟩:=hh)|$r0:tactic)
 let mut r:=r0
 for (f,m) in [("zA",7),("zE",5)] do
  for k in [1:n] do
   if k≤m then
    let c:=mkIdent (.mkSimple s!"{f}{k}")
    let b:=ps.extract k n
    let g:TSyntax ``rcasesPatLo→MacroM (TSyntax `rintroPat):=λp=>do match p with
     |`(rcasesPatLo|⟨$q,*⟩)=>`(rintroPat|⟨$q,*⟩)
     |_=>`(rintroPat|$(←`(rcasesPat|($p))):rcasesPat)
    let a←(ps.extract 0 k).mapM g
    let s←if b.size==1 then `(tactic|rintro $(a.push (←g b[0]!))*) else `(tactic|(rintro $a* hh;obtain ⟨$b,*⟩:=hh))
    r←`(tactic|first|(refine $c $t ?_;(try clear $(⟨t.raw⟩):ident);$s:tactic)|$r:tactic)
 return r
|`(tactic|rcases $t:term with ⟨$ps,*⟩)=>`(tactic|obtain ⟨$ps,*⟩:=$t)
|`(tactic|rintro $ps*)=>do
 let ts←ps.mapM λp=>do
  match p with
  |`(rintroPat|⟨$q,*⟩)=>if q.getElems.size<2 then pure none else return some (←`(rcasesPat|⟨$q,*⟩))
  |_=>pure none
 if ts.all Option.isNone then zno
 let o←(ps.zip ts).mapM λ(p,q)=>match q with
  |none=>`(tactic|rintro $p)
  |some q=>`(tactic|(intro hh;obtain $q:rcasesPat:=hh))
 `(tactic|($[$o:tactic];*))
|`(tactic|refine #[$xs,*])=>do
 let xs:=xs.getElems
 let n:=xs.size
 if n<3 then zno
 let mut r←`(tactic|refine (⟨$xs,*⟩))
 for k in [2:min n 6] do
  let b:=xs.extract k n
  let l←if b.size==1 then pure b[0]! else `(⟨$b,*⟩)
  r←`(tactic|first|refine $(mkIdent (.mkSimple s!"zI{k}")) $(xs.extract 0 k)* $l|$r:tactic)
 return r
|`(tactic|exact #[$xs,*])=>if xs.getElems.size<3 then zno else `(tactic|refine #[$xs,*])
|`(#[$xs,*])=>if xs.getElems.size=0 then zno else `(⟨$xs,*⟩)
|`(tactic|let $p:term:=$t)=>do
 let `(($a,$b,*)):=p|zno
 `(tactic|obtain ⟨$(←([a.raw].toArray++b.getElems.map (·.raw)).mapM (zcv 9)),*⟩:=$t)
|`(fun $bs* => $b)=>do
 if zct b>0 then zno
 let (nb,s)←zcb bs
 `(fun $nb* => by $s:tactic;exact $b)
|`(tactic|refine $t)=>do
 if zct t≠1 then zno
 let (r,o)←(zgo 9 t).run #[]
 if o.size=0 then zno
 `(tactic|(refine $(⟨r⟩);($[$o:tactic];*)))
|`(nofun)=>`(by first|(intro h;cases h;done)|(intros;contradiction)|(intro _ h;cases h;done)|(intro _ _ h;cases h;done)|(intro _ _ _ h;cases h;done)|(intro h;contradiction))

namespace L2
open PySem PySem.Spec PyProof.Rows
abbrev Key:=Sum Int Ay
abbrev Ma:=List Key
abbrev MB:=List (List Key×Ae×Ai)
abbrev ME:=List (Key×Ai)
def kB:Key->Ai->Bool
 |.inl k,v=>Ke k v
 |.inr x,v=>JF x v
def AoT(w:Bw):Key->Int
 |.inl k=>hashInt k
 |.inr x=>hashStr w x
def Pd:∀{k:Key}{v:Ai},kB k v=Af->(∃i t,k=Cb i/\v=Hc i t)\/(∃x t,k=C1 x/\v=Fy x t)
 | .inl i,v,h=>by
   let(t,e):=Ai.isInt_shape (k:=i) (v:=v) h;exact .inl #[i,t,Y,e]
 | .inr x,v,h=>by
   let(t,e):=Ai.isStrOf_shape (x:=x) (v:=v) h;exact .inr #[x,t,Y,e]
def AaU(i:Int)(t:Ks):kB (.inl i) (.int i t)=Af:=by simp[kB,Ke]
def AaV(x:Ay)(t:Ks):kB (.inr x) (.str x t)=Af:=by simp[kB,JF]
def AiM(a b:Int):decide ((Cb a:Key)=Cb b)=(a==b):=by
 by_cases e:a=b
 ·subst e;simp
 ·have h:¬ (Cb a:Key)=Cb b:=λq=>e (Cb.inj q)
  rw[Ar h];exact(Cn.mpr e).symm
def AiP(a b:Ay):decide ((C1 a:Key)=C1 b)=decide (a=b):=by
 by_cases e:a=b
 ·simp
 ·have h:¬ (C1 a:Key)=C1 b:=λq=>e (JD q)
  rw[Ar h,Ar e]
def AiN(a:Int)(b:Ay):decide ((Cb a:Key)=C1 b)=Am:=Ar (λq=>nomatch q)
def AiO(a:Ay)(b:Int):decide ((C1 a:Key)=Cb b)=Am:=Ar (λq=>nomatch q)
def OG(prog:Bn)(w:Bw):PySem.KeyKind prog w Key where
 is:=kB
 hash:=AoT w
 inj:=λv a b ha hb=>by
  rcases Pd ha with⟨i,t,rfl,rfl⟩|⟨x,t,rfl,rfl⟩
  ·rcases Pd hb with⟨j,u,rfl,e⟩|⟨y,u,rfl,e⟩
   ·injection e with e1 _;rw[e1]
   ·exact nomatch e
  ·rcases Pd hb with⟨j,u,rfl,e⟩|⟨y,u,rfl,e⟩
   ·exact nomatch e
   ·injection e with e1 _;rw[e1]
 byValue:=λk v h=>by
  rcases Pd h with⟨i,t,rfl,rfl⟩|⟨x,t,rfl,rfl⟩<;>rfl
 pyHash:=λhv h=>by
  rcases Pd hv with⟨i,t,rfl,rfl⟩|⟨x,t,rfl,rfl⟩
  ·exact wpAny_pyHash_int h
  ·exact wpAny_pyHash_str h
 eqBool:=λhu hv h=>by
  rcases Pd hu with⟨i,t,rfl,rfl⟩|⟨x,t,rfl,rfl⟩
  ·rcases Pd hv with⟨j,u,rfl,rfl⟩|⟨y,u,rfl,rfl⟩
   ·rw[AiM]at h;exact wpAny_eqBool_int h
   ·rw[AiN]at h;exact Hh i t y u _ _ _ _ h
  ·rcases Pd hv with⟨j,u,rfl,rfl⟩|⟨y,u,rfl,rfl⟩
   ·rw[AiO]at h;exact He x t j u _ _ _ _ h
   ·rw[AiP]at h;exact wpAny_eqBool_str h
 «strs»:=λk x t v h=>by
  rcases Pd h with⟨i,u,rfl,e⟩|⟨y,u,rfl,e⟩
  ·exact nomatch e
  ·injection e with e1 _;subst e1;cases v<;>rfl
def rG(prog:Bn)(w:Bw)(i:Int)(t:Ks):(OG prog w).is (.inl i) (.int i t)=Af:=AaU i t
def rH(prog:Bn)(w:Bw)(x:Ay)(t:Ks):(OG prog w).is (.inr x) (.str x t)=Af:=AaV x t
inductive V where
 |OH|bl (b:Bool)|int (i:Int)|str (x:Ay)|AbR (b:Array UInt8)|AiB (b:UInt64)|ref (a:Ae)|ty (n:String)
 deriving DecidableEq
abbrev LM:=List V
abbrev LP:=List (Key×V)
abbrev L5:=List (Ay×V)
abbrev Mn:=Option V
abbrev Mr:=List (List Key×V)
abbrev My:=List (V×V)
abbrev MC:=List (Option V)
abbrev MH:=List (List V)
def RelV:V->Ai->Prop
 |.OH,u=>u=CP
 |.bl b,u=>u=GK b
 |.int i,u=>∃t,u=Hc i t
 |.str x,u=>∃t,u=Fy x t
 |.AbR b,u=>∃t,u=Ai.bytes b t
 |.AiB b,u=>∃t,u=Kf b t
 |.ref a,u=>u=Bu a
 |.ty n,u=>u=Ey n
abbrev Vals:LM->LQ->Prop:=Paired RelV
def Vals.length(r:Vals xs us):xs.length=us.length:=AJ r
def Vals.get:∀{xs:LM}{us:LQ}{i:Nat}{x:V},Vals xs us->xs[i]?=U x->∃u,us[i]?=U u/\RelV x u
 |_,_,_,_,.nil,e=>by simp at e
 |_,_,0,_,.cons r _,e=>by simp at e;subst e;exact#[_,Y,r]
 | _,_,i+1,x,.cons _ t,e=>by
   let(u,a,b):=Vals.get (i:=i) (x:=x) t (by simpa using e);exact#[u,by simpa using a,b]
def Vals.set(r:RelV x u):∀{xs:LM}{us:LQ}(i:Nat),Vals xs us->Vals (xs.set i x) (us.set i u)
 |_,_,_,.nil=>.nil
 |_,_,0,.cons _ t=>.cons r t
 |_,_,i+1,.cons q t=>.cons q (Vals.set r i t)
def Vals.append{xs ys:LM}{us ws:LQ}(h:Vals xs us)(s:Vals ys ws):Vals (xs++ys) (us++ws):=by
 induction h with
 |nil=>exact s
 |cons r t a=>exact .cons r a
def Vals.take:∀{xs:LM}{us:LQ}(n:Nat),Vals xs us->Vals (xs.take n) (us.take n)
 |_,_,0,_=>.nil
 |_,_,_+1,.nil=>.nil
 |_,_,n+1,.cons r t=>.cons r (Vals.take n t)
def Vals.drop:∀{xs:LM}{us:LQ}(n:Nat),Vals xs us->Vals (xs.drop n) (us.drop n)
 |_,_,0,r=>r
 |_,_,_+1,.nil=>.nil
 |_,_,n+1,.cons _ t=>Vals.drop n t
def UJ:Mn->LX->Prop
 |some v,U u=>RelV v u
 |none,none=>True
 |_,_=>False
def KV{κ:Type}:List (κ×V)->List (κ×Ai)->Prop:=Paired λ(p:κ×V)(q:κ×Ai)=>p.1=q.1/\RelV p.2 q.2
def kV:Key->V
 |.inl i=>.int i
 |.inr x=>.str x
inductive HO where
 |lst (xs:LM)
 |tup (xs:LM)
 |dK (v5:LP)|dT (v5:Mr)
 |set (S:Int->Bool) (n:Nat)
 |ins (C dx:Ae) (fs:L5)
 |own (x:Ae)
 |xd (fs:L5)
 |met (f x:Ae)
 |AbU (lo hi:Int)
 |Ry (o:Cy) (u:HO)
 |So (ps:Mb)
 |ext (φ:BM->Prop)
abbrev Hp:=Ae->Option HO
def upd(H:Hp)(a:Ae)(o:HO):Hp:=λb=>if b=a then U o else H b
def N1:upd H a o a=U o:=by unfold upd;rw[Az Y]
def NX(h:b≠a):upd H a o b=H b:=by unfold upd;rw[Aq h]
def AhT{H:Hp}(h:H a=U o)(h':H b=U u)(d:o≠u):a≠b:=by intro e;subst e;rw[h]at h';exact d (AS h')
def Oc{H:Hp}(h:H a=U o)(h':H b=none):a≠b:=by intro e;subst e;rw[h]at h';cases h'
section
variable(P:Bn)(w:Bw)
def OC(H:Hp)(h:BM)(a:Ae):HO->Prop
 |.lst xs=>xs.length<=sizeLine/\∃(its:LQ)(n:Nat),Vals xs its/\h.get? a=U {cls:=.type "list",data:=.seq its.toArray n}
 |.tup xs=>xs.length<=sizeLine/\∃its:LQ,Vals xs its/\Jx h a its.toArray
 |.dK v5=>v5.length<=sizeLine/\(a==CY)=Am/\∃vs,KV v5 vs/\h.DictOf (OG P w) a vs
 | .dT v5=>v5.length<=sizeLine/\(a==CY)=Am/\∃xs:MB,
   Paired (λ(p:Ma×V)(q:Ma×Ae×Ai)=>p.1=q.1/\H q.2.1=U (.tup<|p.1.map kV)/\RelV p.2 q.2.2) v5 xs /\
   ∃o es ep,h.get? a=U o/\o.ExactDict/\o.data=.dict es ep/\es.toList=xs.map (entryOfKey<|F6<|OG P w)/\(xs.map (·.1)).Nodup
 |.set S n=>h.SetOf (intKind P w) a S n
 | .ins C dx fs=>H dx=U (.own a)/\fs.length<=1000/\dx≠a/\h.get? a=U (CV C dx) /\
   ∃mA,h.Ns1 dx mA/\(∀f,UJ (fs.lookup f)<|mA f)/\FW mA (fs.map (·.1))
 |.own _=>∃o,h.get? a=U o
 |.xd fs=>∃mA,h.Ns1 a mA/\∀f,UJ (fs.lookup f)<|mA f
 |.AbU lo hi=>∃t u v,h.get? a=U {cls:=.type "range",data:=.fields (zTo [.int lo t,.int hi u,.int 1 v])}
 |.Ry o u=>h.get? a=U o/\OC H h a u
 |.So ps=>h.get? a=U {cls:=.none,data:=.fields ps}
 |.met f x=>h.get? a=U (FK (.ref f)<|.ref x)
 |.ext φ=>φ h/\(∃o,h.get? a=U o)/\∀h1 h2:BM,φ h1->(∀o,h1.get? a=U o->h2.get? a=U o)->φ h2
def V7(H:Hp)(h:BM):Prop:=∀a o,H a=U o->OC P w H h a o
end
section
variable{P:Bn}{w:Bw}{H H':Hp}{h h':BM}{a:Ae}{o:HO}
def OC.lt(x:OC P w H h a o):a<h.objs.size:=by
 cases o with
 |lst c=>let(_,_,_,_,e):=x;exact AO e
 |tup c=>let(_,_,_,p):=x;exact p.lt
 |dK b=>let(_,_,_,_,o,_,_,e,_):=x;exact AO e
 |dT b=>let(_,_,_,_,o,_,_,e,_):=x;exact AO e
 |set S n=>let(o,_,_,_,e,_):=x;exact AO e
 |ins C i fs=>let(_,_,_,e,_):=x;exact AO e
 |own y=>let(_,e):=x;exact AO e
 |xd fs=>let(_,(_,_,_,e,_),_):=x;exact AO e
 |AbU j l=>let(_,_,_,e):=x;exact AO e
 |Ry g u=>let(e,_):=x;exact AO e
 |So d=>exact AO<|(x)
 |met f y=>exact AO<|(x)
 |ext φ=>let(_,(_,e),_):=x;exact AO e
def Paired.Ajc{α β:Type}{F G:α->β->Prop}{l₁:List α}{l₂:List β}(h:Paired F l₁ l₂)(f:∀a b,F a b->G a b):Paired G l₁ l₂:=by
 induction h with
 |nil=>exact .nil
 |cons r t c=>exact .cons (f _ _ r) c
def Paired.imp'(f:∀a b,F a b->G a b)(r:Paired F l₁ l₂):Paired G l₁ l₂:=Paired.Ajc r f
def OC.Xb(x:OC P w H h a o)(k:∀b u,(b=a\/H b=U (.own a))->h.get? b=U u->h'.get? b=U u)(ho:∀b,H b=U (.own a)->H' b=U (.own a))(ht:∀b xs,H b=U (.tup xs)->H' b=U (.tup xs)):OC P w H' h' a o:=by
 induction o with
 |lst xs=>let(z,l,n,r,e):=x;exact#[z,l,n,r,k _ _ (.inl Y) e]
 |tup xs=>let(z,l,r,g,e,c):=x;exact#[z,l,r,g,k _ _ (.inl Y) e,c]
 |dK m=>let(z,y,D,r,g,j,i,e,c):=x;exact#[z,y,D,r,g,j,i,k _ _ (.inl Y) e,c]
 |dT m=>let(z,y,xs,r,g,j,i,e,c):=x;exact#[z,y,xs,Paired.Ajc r λp q z=>#[z.1,ht _ _ z.2.1,z.2.2],g,j,i,k _ _ (.inl Y) e,c]
 |set S n=>let(g,j,i,t,e,c):=x;exact#[g,j,i,t,k _ _ (.inl Y) e,c]
 |ins C dx fs=>let(d,z,F,e,A,(s,j,i,G,c),r):=x;exact#[ho _ d,z,F,k _ _ (.inl Y) e,A,#[s,j,i,k _ _ (.inr d) G,c],r]
 |own y=>let(g,e):=x;exact#[g,k _ _ (.inl Y) e]
 |xd fs=>let(A,(s,j,i,e,c),r):=x;exact#[A,#[s,j,i,k _ _ (.inl Y) e,c],r]
 |AbU j0 I=>let(t,u,v,e):=x;exact#[t,u,v,k _ _ (.inl Y) e]
 |Ry g u E=>let(e,q):=x;exact#[k _ _ (.inl Y) e,E q]
 |So ps=>have e:h.get? a=U {cls:=.none,data:=.fields ps}:=x;show h'.get? a=U {cls:=.none,data:=.fields ps};exact k a _ (.inl Y) e
 |met f y=>have e:h.get? a=U (FK (.ref f)<|.ref y):=x;show h'.get? a=U (FK (.ref f)<|.ref y);exact k a _ (.inl Y) e
 |ext φ=>let(p,(o,e),B):=x;exact#[B _ _ p λo q=>k _ _ (.inl Y) q,#[o,k _ _ (.inl Y) e],B]
def V7.lt(x:V7 P w H h)(e:H a=U o):a<h.objs.size:=(x a o e).lt
def V7.fresh(x:V7 P w H h)(e:h.objs.size<=a):H a=none:=by
 cases q:H a with
 |none=>rfl
 |some u=>exact absurd (Bl (x.lt q) e) (CN _)
def V7.kept(x:V7 P w H h)(k:∀b u,h.get? b=U u->h'.get? b=U u):V7 P w H h':=λa o e=>
 (x a o e).Xb (λb u _ q=>k b u q) (λ_ q=>q) λ_ _ q=>q
def V7.laid(x:V7 P w H h)(k:∀b u,h.get? b=U u->h'.get? b=U u)(hp:h.objs.size<=a)(new:OC P w (upd H a o) h' a o):V7 P w (upd H a o) h':=λb u e=>by
 have d:=x.fresh hp;by_cases f:b=a
 ·subst f;rw[N1]at e;cases e;exact new
 ·rw[NX f]at e;exact(x b u e).Xb (λc v _ q=>k c v q) (λc q=>by rw[NX<|Oc q d];exact q) λc g q=>by rw[NX<|Oc q d];exact q
end
def Rd(H:Hp)(a:Ae)(u:HO):Prop:=H a=U u\/∃o,H a=U (.Ry o u)
def Rd.ok(r:Rd H a u)(x:V7 P w H h):OC P w H h a u:=by
 rcases r with r|⟨o,r⟩
 ·exact x a u r
 ·let(_,q):=x a _ r;exact q
def AkV:Option HO->Prop
 |some (.lst _)=>True
 |some (.dK _)=>True
 |some (.dT _)=>True
 |some (.set _ _)=>True
 |some (.ins _ _ _)=>True
 |some (.ext _)=>True
 |_=>False
section
variable{P:Bn}{w:Bw}{H:Hp}{h h':BM}{x e:Ae}{o':HO}
def V7.write(ok:V7 P w H h)(mu:AkV (H x))(he:e=x\/H e=U (.own x))(k:∀b u,b≠e->h.get? b=U u->h'.get? b=U u)(heo:∃u,h'.get? e=U u)(new:OC P w (upd H x o') h' x o'):V7 P w (upd H x o') h':=λb u q=>by
 have d:∀c y,H c=U (.own y)->c≠x:=λc y r z=>by subst z;rw[r]at mu;exact mu
 have f:∀c g,H c=U (.tup g)->c≠x:=λc g r z=>by subst z;rw[r]at mu;exact mu
 by_cases i:b=x
 ·subst i;rw[N1]at q;cases q;exact new
 ·rw[NX i]at q;by_cases a:b=e
  ·have l:H b=U (.own x):=by
    rcases he with z|z
    ·exact absurd (a.trans z) i
    ·rw[a];exact z
   rw[q]at l;cases l;let(v,m):=heo;exact#[v,by rw[a];exact m]
  ·refine (ok b u q).Xb (λc v j r=>k c v ?_ r) (λc r=>by rw[NX<|d c b r];exact r) λc g r=>by rw[NX<|f c g r];exact r
   rcases j with rfl|j
   ·exact a
   ·rintro rfl;rcases he with z|z
    ·exact d c b j z
    ·rw[j]at z;cases z;exact i Y
end
structure Un(fs ex:LL)(H H':Hp)(h h':BM):Prop where
 keep:∀b o,h.get? b=U o->H b=none->b∉fs->b∉ex->h'.get? b=U o
 slot:∀b o,h.get? b=U o->H b=none->b∈fs->b∉ex->∃sl,h'.get? b=U {o with slots:=sl}
 free:∀b o,h.get? b=U o->H b=none->b∉ex->H' b=none
 there:∀b o,h.get? b=U o->b∉ex->∃o',h'.get? b=U o'
 Xd:∀b xs,H b=U (.tup xs)->H' b=U (.tup xs)
 UX:∀b o u,H b=U (.Ry o u)->H' b=U (.Ry o u)
 We:∀b ps,H b=U (.So ps)->∃more,H' b=U (.So<|ps++more)
section
variable{fs ex:LL}{H H1:Hp}{h h1 h':BM}{a x e:Ae}{o:HO}
def Un.any(u:Un fs ex H H1 h h1)(q:h.get? b=U ob)(n:H b=none)(hx:b∉ex):∃sl,h1.get? b=U {ob with slots:=sl}:=by
 by_cases a:b∈fs
 ·exact u.slot b ob q n a hx
 ·exact#[ob.slots,u.keep b ob q n a hx]
def Un.kept(k:∀b u,h.get? b=U u->h'.get? b=U u):Un fs ex H H h h':=#[λb a q _ _ _=>k b a q,λb a q _ _ _=>#[a.slots,k b a q],λ_ _ _ n _=>n,λb a q _=>#[a,k b a q],λ_ _ q=>q,λ_ _ _ q=>q,λ_ c q=>#[#[],by rw[q];simp]]
def Un.refl:Un fs ex H H h h:=Un.kept λ_ _ q=>q
def Un.laid(k:∀b u,h.get? b=U u->h'.get? b=U u)(hp:h.objs.size<=a)(hn:H a=none):Un fs ex H (upd H a o) h h' where
 keep:=λb u q _ _ _=>k b u q
 slot:=λb u q _ _ _=>#[u.slots,k b u q]
 free:=λb u q n _=>by rw[NX<|A9<|Bl (AO q) hp];exact n
 there:=λb u q _=>#[u,k b u q]
 Xd:=λb c q=>by rw[NX<|Oc q hn];exact q
 UX:=λb u c q=>by rw[NX<|Oc q hn];exact q
 We:=λb d q=>#[#[],by rw[NX<|Oc q hn,q];simp]
def Un.write(mu:AkV (H x))(he:e=x\/H e=U (.own x))(k:∀b u,b≠e->h.get? b=U u->h'.get? b=U u)(heo:∃u,h'.get? e=U u):Un fs ex H (upd H x o) h h':=by
 have f:∀b,H b=none->b≠x:=λb n z=>by subst z;rw[n]at mu;exact mu
 have d:∀b,H b=none->b≠e:=λb n z=>by
  subst z;rcases he with r|r
  ·exact f b n r
  ·rw[n]at r;cases r
 have c:∀b u,H b=U u->¬ AkV (U u)->b≠x:=λb u q g z=>by subst z;rw[q]at mu;exact g mu
 refine#[λb u q n _ _=>k b u (d b n) q,λb u q n _ _=>#[u.slots,k b u (d b n) q],λb u q n _=>by rw[NX<|f b n];exact n,λb u q _=>?_,
  λb i q=>by rw[NX<|c b _ q λz=>z];exact q,λb u i q=>by rw[NX<|c b _ q λz=>z];exact q,λb j q=>#[#[],by rw[NX<|c b _ q λz=>z,q];simp]]
 by_cases a:b=e
 ·subst a;exact heo
 ·exact#[u,k b u a q]
end
def AmY(h:BM)(H:Hp):LL:=(Ba h.objs.size).filter λa=>(H a).isSome
def uW(h:BM)(H:Hp):BM:=PySem.W.hideAll h (AmY h H)
def AaO(h:BM)(H:Hp):(uW h H).objs.size=h.objs.size:=PySem.W.hideAll_size _ _
def cQ(e:h.get? b=U o)(n:H b=none):(uW h H).get? b=U o:=PySem.W.hideAll_get _ e λa=>by
  have q:=(Bp.mp a).2;rw[n]at q;simp at q
def Af4(e:(uW h H).get? b=U o):h.get? b=U o/\H b=none:=by
 have a:=PySem.W.of_hideAll _ e;refine#[a,?_];cases q:H b with
 |none=>rfl
 |some x=>have c:b∈AmY h H:=Bp.mpr #[Ci.mpr<|AO a,by simp[q]];have z:(uW h H).get? b=none:=PySem.W.hideAll_none _ c;rw[z]at e;cases e
def Ae4(g h:BM)(L:Ae):LN:=(Ba h.objs.size).filterMap λa=>if a=L\/(g.get? a).isSome=Af then none else(h.get? a).map λo=>(a,o)
def rest(g h:BM)(L d:Ae):LN:=(Ae4 g h L).filter λp=>decide (p.1≠d)
structure Mod(K:Ab)(mg:Ay->LX)(base:BM):Prop where
 AkG:K.In base
 glob:base.Ns AK mg
 blt:∃mb,base.Ns FF mb/\∀x:Ay,x≠"__name__"->mb x=BG x
 nolimit:base.NoLimit
structure Cx where
 prog:Bn
 w:Bw
 K:Ab
 mg:Ay->LX
 base:BM
 A:BS
 N:LK
 Qy:Ax
 N4:Hp
 env:G8
 outer:Mc
 stack:Mc
 ex:LL
 fn:Ay->Bool
 calm:Bool
 pn:LN
 xe:Ai->Ax->Prop
class Ol(X:Cx)(K:outParam Ab)(H:outParam Hp):Prop where
 k:X.K=K
 h:X.N4=H
instance (priority:=low) {X:Cx}:Ol X X.K X.N4:=#[Y,Y]
def bY(l:Mc):LL:=l.filterMap (·.frame)
abbrev Cx.fs(X:Cx):LL:=bY X.outer
def AkY(sc:Scope)(x:Ay):Prop:=sc.names.lookup x=U .local\/sc.names.lookup x=U .cell\/sc.names.lookup x=U .free
def Loc(sc:Scope)(x:Ay):Prop:=sc.names.lookup x=U .local\/sc.names.lookup x=U .cell
def Look(env:G8)(h:BM)(m:Ay->LX)(x:Ay)(u:Ai):Prop:=(env.kindOf x=U .local/\m x=U u)\/((env.kindOf x=U .cell\/env.kindOf x=U .free)/\∃c,env.cells.lookup x=U c/\h.IsCell c (U u))
structure Cx.Ok(X:Cx):Prop where
 mod:Mod X.K X.mg X.base
 kind:X.env.scope.kind=.function
 glob:X.env.globals=AK
 blt:X.env.builtins=FF
 above:X.Qy.heap.objs.size<=X.env.locals
 inj:∀x y c,X.env.cells.lookup x=U c->X.env.cells.lookup y=U c->x=y
 has:∀x,(X.env.kindOf x=U .cell\/X.env.kindOf x=U .free)->∃c,X.env.cells.lookup x=U c
 Aik:∀x c,X.fn x=Af->X.env.cells.lookup x=U c->X.Qy.heap.objs.size<=c
 hd:X.calm=Af->X.A.handled=none
 frames:X.A.frames=U X.stack
 Aj9:X.stack=X.outer\/(X.stack=X.env::X.outer/\X.env.frame=U X.env.locals)
 Alx:∀b∈X.ex,b≠X.env.locals/\∀x c,X.env.cells.lookup x=U c->c≠b
 bs:∀b o,X.base.get? b=U o->X.Qy.heap.get? b=U o/\X.N4 b=none
 Aap:X.base.objs.size<=X.Qy.heap.objs.size
 vJ:∀b o,X.base.get? b=U o->b∉X.ex
 uQ:∀b∈X.ex,b∉X.fs
 WN:X.Qy.heap.FunFrames X.base X.outer
 AeS:∀b∈X.fs,X.N4 b=none
structure Inv(X:Cx)(q4:LN)(J:MC)(H:Hp)(s:Ax):Prop where
 ok:X.Ok
 os:s.os=X.Qy.os
 bare:ES s.gens
 base:Un X.fs X.ex X.N4 H X.Qy.heap s.heap
 loc:∃m,s.heap.Ns X.env.locals m/\∀(i:Nat)(x:Ay)(v:V),X.N[i]?=U x->J[i]?=U (U v)->AkY X.env.scope x->∃u,RelV v u/\Look X.env s.heap m x u
 cell:∀x c,X.env.cells.lookup x=U c->∃v,s.heap.IsCell c v
 free:H X.env.locals=none
 QC:∀x c,X.env.cells.lookup x=U c->H c=none
 pin:∀p∈X.pn++q4,s.heap.get? p.1=U p.2/\H p.1=none/\p.1≠X.env.locals/\p.1∉X.fs/\∀v,p.2.data≠.cell v
 Oj:V7 X.prog X.w H s.heap
 len:J.length=X.N.length
section
variable{X:Cx}{q4:LN}{J:MC}{H H':Hp}{s:Ax}{h':BM}
def Cx.Ok.Ao3(ok:X.Ok)(e:X.base.get? b=U o):b∉X.fs:=λa=>by
 have:=(ok.WN.mem a).1;rw[e]at this;cases this
def Inv.bs(I:Inv X q4 J H s):∀b o,X.base.get? b=U o->s.heap.get? b=U o/\H b=none:=λb o e=>
 #[I.base.keep b o (I.ok.bs b o e).1 (I.ok.bs b o e).2 (I.ok.Ao3 e) (I.ok.vJ b o e),I.base.free b o (I.ok.bs b o e).1 (I.ok.bs b o e).2 (I.ok.vJ b o e)]
def Inv.bk(I:Inv X q4 J H s):∀b o,X.base.get? b=U o->s.heap.get? b=U o:=λb o e=>(I.bs b o e).1
def Inv.mod(I:Inv X q4 J H s):Mod X.K X.mg X.base:=I.ok.mod
def Inv.U2(I:Inv X q4 J H s):X.K.In s.heap:=I.ok.mod.AkG.keeps I.bk
def Inv.lt(I:Inv X q4 J H s):X.env.locals<s.heap.objs.size:=let#[_,hn,_]:=I.loc;hn.lt
def Inv.sz(I:Inv X q4 J H s):X.Qy.heap.objs.size<=s.heap.objs.size:=AL I.ok.above (Dh I.lt)
def Inv.Ao4(I:Inv X q4 J H s)(h:s.heap.objs.size<=a):a∉X.fs:=λc=>by
 let(_,o,b,_):=I.ok.WN.mem c;exact absurd (Bl (AO b)<|AL I.sz h) (CN _)
def Inv.Aim(I:Inv X q4 J H s):∀x c,X.env.cells.lookup x=U c->c≠X.env.locals:=λx c e z=>by
 let(v,o,f,d):=I.cell x c e;let(m,(i,h,g,b,a,_),_):=I.loc;rw[z,b]at f;cases f;rw[a]at d;cases d
def Inv.WN(I:Inv X q4 J H s):s.heap.FunFrames X.base X.outer:=by
 have all:∀(l:Mc),(∀b∈bY l,b∈X.fs)->X.Qy.heap.FunFrames X.base l->s.heap.FunFrames X.base l:=by
  intro l;induction l with
  |nil=>intro _ _;trivial
  |cons env r ih=>
    intro f j;let(h,(L,o,a,n,i,g),m):=j;have d:=f L (by unfold bY;rw[Ep,a];exact AW);let(p,e):=I.base.slot L o i (I.ok.AeS L d) d λz=>I.ok.uQ L z d
    exact#[h,#[L,_,a,n,e,g],ih (λb c=>f b (by unfold bY;rw[Ep,a];exact AD _ c)) m]
 exact all _ (λ_ c=>c) I.ok.WN
def Inv.stack(I:Inv X q4 J H s):s.heap.FunFrames X.base X.stack:=by
 rcases I.ok.Aj9 with e|⟨e,a⟩
 ·rw[e];exact I.WN
 ·rw[e];let(m,b,_):=I.loc;refine .cons (by rw[I.ok.kind];decide) a b ?_ I.WN;exact C0 (AL I.ok.Aap I.ok.above)
def Inv.fG(I:Inv X q4 J H s):∀b∈bY X.stack,b∈X.env.locals::X.fs:=λb a=>by
 rcases I.ok.Aj9 with e|⟨e,c⟩
 ·rw[e]at a;exact AD _ a
 ·rw[e]at a;unfold bY at a;rw[Ep,c]at a;exact a
def Inv.bB(I:Inv X q4 J H s):∀b∈bY X.stack,H b=none:=λb a=>by
 rcases AB.mp (I.fG b a)with e|a
 ·rw[e];exact I.free
 ·let(_,o,c,_):=I.ok.WN.mem a;exact I.base.free b o c (I.ok.AeS b a) λz=>I.ok.uQ b z a
def Inv.step{g':Array Jv}{t':Nat}{d':Drawn}{ch:LL}(I:Inv X q4 J H s)(hch:∀b∈ch,(b∈X.ex\/X.Qy.heap.objs.size<=b)/\b≠X.env.locals/\(∀x c,X.env.cells.lookup x=U c->c≠b)/\∀p∈X.pn++q4,p.1≠b)(keep:∀b o,b≠X.env.locals->b∉X.fs->b∉ch->s.heap.get? b=U o->H b=none->h'.get? b=U o)(slot:∀b o,b≠X.env.locals->b∈X.fs->b∉ch->s.heap.get? b=U o->H b=none->∃sl,h'.get? b=U {o with slots:=sl})(free:∀b o,b∉ch->s.heap.get? b=U o->H b=none->H' b=none)(there:∀b o,b∉ch->s.heap.get? b=U o->∃o',h'.get? b=U o')(Xd:∀b xs,H b=U (.tup xs)->H' b=U (.tup xs))(UX:∀b o u,H b=U (.Ry o u)->H' b=U (.Ry o u))(We:∀b ps,H b=U (.So ps)->∃more,H' b=U (.So<|ps++more))(ns:∀m,s.heap.Ns X.env.locals m->h'.Ns X.env.locals m)(Oj:V7 X.prog X.w H' h')(hg:ES g'):Inv X q4 J H' {s with heap:=h',gens:=g',drawn:=d',toks:=t'}:=by
 have B:∀b o,X.Qy.heap.get? b=U o->b≠X.env.locals:=λb o e=>A9<|Bl (AO e) I.ok.above
 have j:∀b o,X.Qy.heap.get? b=U o->b∉X.ex->b∉ch:=λb o e a y=>by
  rcases(hch b y).1 with z|z
  ·exact a z
  ·exact absurd (Bl (AO e) z)<|CN _
 have f:∀x c,X.env.cells.lookup x=U c->∀v,s.heap.IsCell c v->h'.IsCell c v:=λx c e v⟨o,A,D⟩=>by
  have g:c∉ch:=λz=>(hch c z).2.2.1 x c e Y
  by_cases j0:c∈X.fs
  ·let(sl,q):=slot c o (I.Aim x c e) j0 g A (I.QC x c e);exact#[_,q,D]
  ·exact#[o,keep c o (I.Aim x c e) j0 g A<|I.QC x c e,D]
 refine#[I.ok,I.os,hg,#[λb o e n y a=>?_,λb o e n y a=>?_,λb o e n a=>?_,λb o e a=>?_,λb xs e=>Xd b xs<|I.base.Xd b xs e,λb o xs e=>UX b o xs<|I.base.UX b o xs e,λb ps e=>?_],?_,λx c e=>?_,?_,λx c e=>?_,λp G=>?_,Oj,I.len]
 ·exact keep b o (B b o e) y (j b o e a) (I.base.keep b o e n y a)<|I.base.free b o e n a
 ·let(sl,h):=I.base.slot b o e n y a;let(E,C):=slot b _ (B b o e) y (j b o e a) h<|I.base.free b o e n a;exact#[E,C]
 ·let(o',h):=I.base.there b o e a;exact free b o' (j b o e a) h<|I.base.free b o e n a
 ·let(o',h):=I.base.there b o e a;exact there b o' (j b o e a) h
 ·let(N,h):=I.base.We b ps e;let(L,C):=We b _ h;exact#[N++L,by rw[C,IT]]
 ·let(m,O,M):=I.loc;refine#[m,ns m O,λi x v h C P=>?_];let(u,r,l):=M i x v h C P;refine#[u,r,?_];rcases l with l|⟨k,c,e,z⟩
  ·exact .inl l
  ·exact .inr #[k,c,e,f x c e _ z]
 ·let(v,z):=I.cell x c e;exact#[v,f x c e v z]
 ·let(m,(o,_,_,A,_),_):=I.loc;exact free _ o (λz=>(hch _ z).2.1 Y) A I.free
 ·let(v,o,A,D):=I.cell x c e;exact free c o (λz=>(hch c z).2.2.1 x c e Y) A<|I.QC x c e
 ·let(e,n,F,K,d):=I.pin p G;have g:p.1∉ch:=λz=>(hch p.1 z).2.2.2 p G Y
  exact#[keep p.1 p.2 F K g e n,free p.1 p.2 g e n,F,K,d]
def Inv.un{t':Nat}(I:Inv X q4 J H s)(u:Un X.fs [] H H' s.heap h')(Oj:V7 X.prog X.w H' h'):Inv X q4 J H' {s with heap:=h',toks:=t'}:=by
 let(m,(o,q,l,g,r),_):=id I.loc;let(p,j):=u.any g I.free Nu;exact I.step (g':=s.gens) (d':=s.drawn) (ch:=[]) (λ_ z=>nomatch z) (λb o _ d _ e n=>u.keep b o e n d Nu) (λb o _ d _ e n=>u.slot b o e n d Nu) (λb o _ e n=>u.free b o e n Nu) (λb o _ e=>u.there b o e Nu) u.Xd u.UX u.We (λx h=>by
  let(v,f,c,a,i):=h;rw[g]at a;cases a;exact#[_,f,c,j,i]) Oj I.bare
def Inv.call{g':Array Jv}{t':Nat}{d':Drawn}{ch:LL}(I:Inv X q4 J H s)(u:Un (bY X.stack) ch H H' s.heap h')(Oj:V7 X.prog X.w H' h')(hg:ES g')(hch:∀b∈ch,(b∈X.ex\/X.Qy.heap.objs.size<=b)/\b≠X.env.locals/\(∀x c,X.env.cells.lookup x=U c->c≠b)/\∀p∈X.pn++q4,p.1≠b):Inv X q4 J H' {s with heap:=h',gens:=g',drawn:=d',toks:=t'}:=by
 let(m,(o,A,v,i,r),_):=id I.loc;let(y,g):=u.any i I.free λz=>(hch _ z).2.1 Y
 exact I.step (ch:=ch) hch (λb o g q a e n=>u.keep b o e n (λz=>(AB.mp<|I.fG b z).elim g q) a) (λb o _ _ a e n=>u.any e n a) (λb o a e n=>u.free b o e n a) (λb o a e=>u.there b o e a) u.Xd u.UX u.We (λC j=>by
  let(B,h,f,d,l):=j;rw[i]at d;cases d;exact#[_,h,f,g,l]) Oj hg
def Inv.turned{t':Nat}(I:Inv X q4 J H s)(k:∀b o,b≠it->s.heap.get? b=U o->h'.get? b=U o)(hn:H it=none)(hL:it≠X.env.locals)(h1:it∈X.ex\/X.Qy.heap.objs.size<=it)(h2:∀x c,X.env.cells.lookup x=U c->c≠it)(h3:∀p∈X.pn++q4,p.1≠it):Inv X q4 J H {s with heap:=h',toks:=t'}:=by
 have d:∀b u,H b=U u->b≠it:=λb u e z=>by rw[z,hn]at e;cases e
 refine I.step (g':=s.gens) (d':=s.drawn) (ch:=[it]) (λb j=>?_) (λb o _ _ a e _=>k b o (λz=>a<|by simp[z]) e) (λb o _ _ a e _=>#[o.slots,k b o (λz=>a<|by simp[z]) e]) (λ_ _ _ _ n=>n)
  (λb o a e=>#[o,k b o (λz=>a<|by simp[z]) e]) (λ_ _ e=>e) (λ_ _ _ e=>e) (λb l e=>#[#[],by rw[e];simp]) (λm f=>?_) (λb u e=>?_) I.bare
 ·have e:b=it:=by simpa using j
  subst e;exact#[h1,hL,h2,h3]
 ·let(o,i,g,h,r):=f;exact#[o,i,g,k _ o (AF hL) h,r]
 ·refine(I.Oj b u e).Xb (λc v a q=>k c v ?_ q) (λ_ q=>q) λ_ _ q=>q
  rcases a with z|z
  ·rw[z];exact d b u e
  ·exact d c _ z
def Inv.tok(I:Inv X q4 J H s)(t:Nat):Inv X q4 J H {s with toks:=t}:=I.un Un.refl I.Oj
def Inv.kept(I:Inv X q4 J H s)(k:∀b u,s.heap.get? b=U u->h'.get? b=U u):Inv X q4 J H {s with heap:=h',toks:=t'}:=I.un (Un.kept k) (I.Oj.kept k)
def Inv.laid(I:Inv X q4 J H s)(k:∀b u,s.heap.get? b=U u->h'.get? b=U u)(hp:s.heap.objs.size<=a)(new:OC X.prog X.w (upd H a o) h' a o):Inv X q4 J (upd H a o) {s with heap:=h',toks:=t'}:=I.un (Un.laid k hp<|I.Oj.fresh hp) (I.Oj.laid k hp new)
def Inv.write(I:Inv X q4 J H s)(mu:AkV (H x))(he:e=x\/H e=U (.own x))(k:∀b u,b≠e->s.heap.get? b=U u->h'.get? b=U u)(heo:∃u,h'.get? e=U u)(new:OC X.prog X.w (upd H x o) h' x o):Inv X q4 J (upd H x o) {s with heap:=h',toks:=t'}:=I.un (Un.write mu he k heo) (I.Oj.write mu he k heo new)
def Inv.weak(I:Inv X q4 J H s)(hl:σ'.length=J.length)(w:∀(i:Nat)v,σ'[i]?=U (U v)->J[i]?=U (U v)):Inv X q4 σ' H s:=#[I.ok,I.os,I.bare,I.base,let#[m,hn,hl']:=I.loc;#[m,hn,λi x v c b a=>hl' i x v c (w i v b) a],I.cell,I.free,I.QC,I.pin,I.Oj,hl.trans I.len]
def Inv.nN(I:Inv X q4 J H s)(h:∀p∈pins',s.heap.get? p.1=U p.2/\H p.1=none/\p.1≠X.env.locals/\p.1∉X.fs/\∀v,p.2.data≠.cell v):Inv X pins' J H s:=#[I.ok,I.os,I.bare,I.base,I.loc,I.cell,I.free,I.QC,λp a=>(AY.mp a).elim (λz=>I.pin p<|BO _ z) (h p),I.Oj,I.len]
def rL{N:LK}(hN:N.Nodup){i j:Nat}{x:Ay}(a:N[i]?=U x)(b:N[j]?=U x):i=j:=by let(e,d):=Ah.mp a;let(f,c):=Ah.mp b;exact(E6 hN).mp (d.trans c.symm)
def lD{M:Model}{A:BS}{E:Ai->Ax->Prop}{i:Nat}{x:Ay}{v:V}{u:Ai}{Q:Unit->Ax->Prop}(I:Inv X q4 J H s)(hN:X.N.Nodup)(hi:X.N[i]?=U x)(hx:Loc X.env.scope x)(r:RelV v u)(h:∀s',Inv X q4 (J.set i<|U v) H s'->(∃a,De a s.heap s'.heap/\(a=X.env.locals\/X.env.cells.lookup x=U a))->Q () s')(hf:X.fn x=Af\/X.env.scope.names.lookup x=U .local:=by first|exact .inl rfl|exact .inr rfl|assumption):AZ M A (storeName X.env x u) Q E s:=by
 let(m,hn,hl):=id I.loc;have u9:(X.env.scope.kind==.class||(X.env.scope.kind==.module&&X.env.locals != X.env.globals))=Am:=by rw[I.ok.kind];rfl
 have T:i<J.length:=by rw[I.len];exact(Ah.mp hi).1
 have Aim:=I.Aim;have g:∀{a:Ae}{L:BM},(∃o,s.heap.get? a=U o/\H a=none)->De a s.heap L->V7 X.prog X.w H L:=λ{a L}ha f b ob e=>by
  let(_,_,C):=ha;refine(I.Oj b ob e).Xb (λc W B q=>(f.2 c ?_).trans q) (λ_ q=>q) λ_ _ q=>q
  rintro rfl;rcases B with rfl|B
  ·rw[C]at e;cases e
  ·rw[C]at B;cases B
 rcases hx with F|F
 ·refine wpAny_storeName_local F hn (λL aa f=>?_) u9;let(oL,_,_,ab,_):=id hn;refine h _ #[I.ok,I.os,I.bare,#[λb o e n G hx=>?_,λb o e n G hx=>?_,I.base.free,λb o e hx=>?_,I.base.Xd,I.base.UX,I.base.We],#[_,aa,λj y v' l D e3=>?_],λy c e=>?_,I.free,I.QC,λp hp=>?_,g #[oL,ab,I.free] f,by simpa using I.len] #[_,f,.inl Y]
  ·exact(f.2 b<|A9<|Bl (AO e) I.ok.above).trans (I.base.keep b o e n G hx)
  ·let(sl,l):=I.base.slot b o e n G hx;exact#[sl,(f.2 b<|A9<|Bl (AO e) I.ok.above).trans l]
  ·let(o',l):=I.base.there b o e hx;exact#[o',(f.2 b<|A9<|Bl (AO e) I.ok.above).trans l]
  ·by_cases j0:j=i
   ·subst j0;rw[hi]at l;cases l;rw[Bd T]at D;cases D;exact#[u,r,.inl #[F,Nu]]
   ·rw[BB<|AF j0]at D;let(u',r',q):=hl j y v' l D e3;refine#[u',r',?_];rcases q with⟨k,e⟩|⟨k,c,e,z⟩
    ·refine .inl #[k,?_];have:y≠x:=λe=>j0<|rL hN l<|e▸hi
     simp[this,e]
    ·exact .inr #[k,c,e,z.sameBut f<|Aim y c e]
  ·let(W,z):=I.cell y c e;exact#[W,z.sameBut f<|Aim y c e]
  ·let(e,n,Z,nf,d):=I.pin p hp;exact#[(f.2 p.1 Z).trans e,n,Z,nf,d]
 ·have K:X.fn x=Af:=by
   rcases hf with z|z
   ·exact z
   ·rw[z]at F;cases F
  let(c,B):=I.ok.has x<|.inl F;let(W,z):=I.cell x c B;refine wpAny_storeName_cell I.ok.kind F B z (λL S f=>?_);let(oc,O,P):=id z;refine h {s with heap:=L} #[I.ok,I.os,I.bare,#[λb o e n G hx=>?_,λb o e n G hx=>?_,I.base.free,λb o e hx=>?_,I.base.Xd,I.base.UX,I.base.We],#[m,hn.sameBut f<|AF<|Aim x c B,λj y v' l D e3=>?_],λy y0 e=>?_,I.free,I.QC,λp hp=>?_,g #[oc,O,I.QC x c B] f,by simpa using I.len] #[c,f,.inr B]
  ·exact(f.2 b<|A9<|Bl (AO e)<|I.ok.Aik x c K B).trans (I.base.keep b o e n G hx)
  ·let(sl,l):=I.base.slot b o e n G hx;exact#[sl,(f.2 b<|A9<|Bl (AO e)<|I.ok.Aik x c K B).trans l]
  ·let(o',l):=I.base.there b o e hx;exact#[o',(f.2 b<|A9<|Bl (AO e)<|I.ok.Aik x c K B).trans l]
  ·by_cases j0:j=i
   ·subst j0;rw[hi]at l;cases l;rw[Bd T]at D;cases D;exact#[u,r,.inr #[.inl F,c,B,S]]
   ·rw[BB<|AF j0]at D;let(u',r',q):=hl j y v' l D e3;refine#[u',r',?_];rcases q with q|⟨k,y0,e,z'⟩
    ·exact .inl q
    ·refine .inr #[k,y0,e,z'.sameBut f ?_];rintro rfl;exact j0<|rL hN l<|I.ok.inj _ _ _ e B▸hi
  ·by_cases R:y0=c
   ·subst R;exact#[_,S]
   ·let(w2,z2):=I.cell y y0 e;exact#[w2,z2.sameBut f R]
  ·let(e,n,Z,nf,d):=I.pin p hp;refine#[(f.2 p.1 ?_).trans e,n,Z,nf,d];intro q;rw[q,O]at e;have q':oc=p.2:=AS e;exact d W (by rw[<-q'];exact P)
def tJ(I:Inv X q4 J H s)(hN:X.N.Nodup)(hi:X.N[i]?=U x)(hx:Loc X.env.scope x)(r:RelV v u)(h:∀s',Inv X q4 (J.set i<|U v) H s'->Q () s')(hf:X.fn x=Af\/X.env.scope.names.lookup x=U .local:=by first|exact .inl rfl|exact .inr rfl|assumption):AZ M A (storeName X.env x u) Q E s:=lD I hN hi hx r (λs' a _=>h s' a) hf
def Inv.xH(I:Inv X q4 J H s)(ho:s'.os=s.os)(u:Un (bY X.stack) ch H H' s.heap s'.heap)(Oj:V7 X.prog X.w H' s'.heap)(hg:ES s'.gens)(hch:∀b∈ch,(b∈X.ex\/X.Qy.heap.objs.size<=b)/\b≠X.env.locals/\(∀x c,X.env.cells.lookup x=U c->c≠b)/\∀p∈X.pn++q4,p.1≠b):Inv X q4 J H' s':=by let(d,g',d',t',a):=s';have e:a=s.os:=ho;subst e;exact I.call (g':=g') (t':=t') (d':=d') u Oj hg hch
end
abbrev XK:=Ai->LZ->Hp->Prop
abbrev St:=MC
abbrev VK:=V->Hp->Prop
abbrev TE:=St->Hp->VK->Prop
abbrev MG:=List (TE×TE)
abbrev TT:=St->Hp->(Bool->Hp->Prop)->Prop
abbrev TA:=St->Hp->(LM->Hp->Prop)->Prop
structure Ends where
 nx:St->Hp->Prop
 rt:VK
 bk:St->Hp->Prop:=λ_ _=>False
 ct:St->Hp->Prop:=λ_ _=>False
abbrev TS:=Ends->St->Hp->Prop
def EP(X:Cx)(q4:LN)(J:St)(Q:VK)(u:Ai)(s':Ax):Prop:=∃v H',Inv X q4 J H' s'/\RelV v u/\Q v H'
def TP(X:Cx)(q4:LN)(J:St)(Q:Bool->Hp->Prop)(b:Bool)(s':Ax):Prop:=∃H',Inv X q4 J H' s'/\Q b H'
def AP(X:Cx)(q4:LN)(J:St)(Q:LM->Hp->Prop)(us:LQ)(s':Ax):Prop:=∃vs H',Inv X q4 J H' s'/\Vals vs us/\Q vs H'
def SP(X:Cx)(q4:LN)(D:Ends)(f:Flow)(s':Ax):Prop:=
 match f with
 |.next=>∃σ' H',Inv X q4 σ' H' s'/\D.nx σ' H'
 |.brk=>∃σ' H',Inv X q4 σ' H' s'/\D.bk σ' H'
 |.cont=>∃σ' H',Inv X q4 σ' H' s'/\D.ct σ' H'
 |.ret u=>∃v σ' H',Inv X q4 σ' H' s'/\RelV v u/\D.rt v H'
def PE(X:Cx)(e:Expr)(t:TE):Prop:=∀(q4:LN)(s:Ax)(J:St)(H:Hp)(Q:VK),Inv X q4 J H s->t J H Q->AZ (A7 X.prog X.w) X.A (eval e X.env) (EP X q4 J Q) X.xe s
def PT(X:Cx)(e:Expr)(t:TT):Prop:=∀(q4:LN)(s:Ax)(J:St)(H:Hp)(Q:Bool->Hp->Prop),Inv X q4 J H s->t J H Q->AZ (A7 X.prog X.w) X.A (isTrue e X.env<|eval e X.env) (TP X q4 J Q) X.xe s
def PW(X:Cx)(e:Expr)(t:TT):Prop:=∀(whole:Ir Ai)(q4:LN)(s:Ax)(J:St)(H:Hp)(Q:Bool->Hp->Prop),Inv X q4 J H s->t J H Q->AZ (A7 X.prog X.w) X.A (isTrue e X.env whole) (TP X q4 J Q) X.xe s
def PW.pt{t:TT}(h:PW X e t):PT X e t:=h _
def PA(X:Cx)(es:L1)(t:TA):Prop:=∀(pos:CQ)(q4:LN)(s:Ax)(J:St)(H:Hp)(Q:LM->Hp->Prop),Inv X q4 J H s->t J H Q->AZ (A7 X.prog X.w) X.A (spliced<|BP pos<|AG es X.env) (AP X q4 J Q) X.xe s
def PS(X:Cx)(st:Bi)(t:TS):Prop:=∀(q4:LN)(s:Ax)(J:St)(H:Hp)(D:Ends),Inv X q4 J H s->t D J H->AZ (A7 X.prog X.w) X.A (exec st X.env) (SP X q4 D) X.xe s
def QB(X:Cx)(st:Me)(t:TS):Prop:=∀(q4:LN)(s:Ax)(J:St)(H:Hp)(D:Ends),Inv X q4 J H s->t D J H->AZ (A7 X.prog X.w) X.A (execs st X.env) (SP X q4 D) X.xe s
def O2{t:Ir α}(h:AZ M A t Q E s)(hQ:∀a s,Q a s->Q' a s):AZ M A t Q' E s:=BL h hQ λ_ _ x=>x
section
variable{X:Cx}
abbrev Aji:St->Nat->Mn
 |[],_=>none
 |a::_,0=>a
 |_::t,n+1=>Aji t n
abbrev AgZ:St->Nat->V->St
 |[],_,_=>[]
 |_::t,0,v=>U v::t
 |a::t,n+1,v=>a::AgZ t n v
def rO{v:V}:∀{J:St}{i:Nat},Aji J i=U v->J[i]?=U (U v)
 |_::_,0,h=>congrArg U h
 |_::t,_+1,h=>rO (J:=t) h
def fF{v:V}:∀{J:St}{i:Nat},AgZ J i v=J.set i (U v)
 |[],_=>rfl
 |_::_,0=>rfl
 |_::t,_+1=>congrArg _ (fF (J:=t))
abbrev Q3(c:Bool)(A B:Prop):Prop:=match c with
 |true=>A
 |false=>B
abbrev vQ(o:Mn)(Q:VK)(H:Hp):Prop:=match o with
 |some v=>Q v H
 |none=>False
abbrev qS(Q:Bool->Hp->Prop):VK:=λx H=>match x with
 |.bl c=>Q c H
 |_=>False
def Xc(h:qS Q x H):∃c,x=.bl c/\Q c H:=by
 cases x with
 |bl c=>exact#[c,Y,h]
 |_=>exact h.elim
abbrev wL(i:Nat):TE:=λJ H Q=>vQ (Aji J i) Q H
def Akm(h:wL i J H Q):∃v,J[i]?=U (U v)/\Q v H:=by
 change vQ _ Q H at h;cases e:Aji J i with
 |none=>rw[e]at h;exact h.elim
 |some v=>rw[e]at h;exact#[v,rO e,h]
abbrev tC(v:V):TE:=λ_ H Q=>Q v H
def vS(hN:X.N[i]?=U x)(hv:AkY X.env.scope x)(hd:(x==("__debug__":Ay))=Am:=by decide)(hcd:(x==("__classdict__":Ay))=Am:=by decide):PE X (.Name x pos) (wL i):=by
 intro f s J H Q I h;let(v,e,h):=Akm h;let(m,o,n):=I.loc;let(u,r,l):=n i x v hN e hv;have d:EP X f J Q u s:=#[v,H,I,r,h];rcases l with⟨b,j⟩|⟨b,c,g,a⟩
 ·exact JK (wpAny_loadName_local I.ok.kind b o j d) hd
 ·rcases b with b|b
  ·exact JK (wpAny_loadName_cell I.ok.kind b g a d) hd
  ·exact JK (wpAny_loadName_free I.ok.kind b g a d hcd) hd
def PU{i j pos}:PE X (.Constant (.int i) j pos) (tC<|.int i):=λ_ _ _ H _ I h=>wpAny_Constant_int #[.int i,H,I.tok _,#[_,Y],h]
def AhZ{b j pos}:PE X (.Constant (.bool b) j pos) (tC<|.bl b):=λ_ _ _ H _ I h=>Constant_bool #[.bl b,H,I,Y,h]
def Ajw{j pos}:PE X (.Constant .none j pos) (tC .OH):=λ_ _ _ H _ I h=>Constant_none #[.OH,H,I,Y,h]
def SQ{x j pos}:PE X (.Constant (.str x) j pos) (tC<|.str x):=λ_ _ _ H _ I h=>Calls.Constant_str #[.str x,H,I.tok _,#[_,Y],h]
def Gl(X:Cx)(x:Ay):Prop:=X.env.kindOf x=U .globalImplicit
def VO(I:Inv X q4 J H s)(hg:Gl X x)(hm:X.mg x=U u)(h:Q u s)(hd:(x==("__debug__":Ay))=Am:=by decide):AZ (A7 X.prog X.w) X.A (eval (.Name x pos) X.env) Q E s:=GN I.ok.kind hg (Calls.loadGlobal_global (by rw[I.ok.glob];exact I.mod.glob.keeps I.bk) hm h) hd
def U3(I:Inv X q4 J H s)(hg:Gl X x)(hm:X.mg x=none)(hv:BG x=U u)(h:Q u s)(hn:x≠"__name__":=by decide)(hd:(x==("__debug__":Ay))=Am:=by decide):AZ (A7 X.prog X.w) X.A (eval (.Name x pos) X.env) Q E s:=by let(c,a,b):=I.mod.blt;exact GN I.ok.kind hg (Calls.loadGlobal_builtin (by rw[I.ok.glob];exact I.mod.glob.keeps I.bk) hm (by rw[I.ok.blt];exact a.keeps I.bk) ((b x hn).trans hv) h) hd
def Agg(hg:Gl X x)(hm:X.mg x=U u)(r:RelV v u)(hd:(x==("__debug__":Ay))=Am:=by decide):PE X (.Name x pos) (tC v):=λ_ _ _ H _ I h=>VO I hg hm #[v,H,I,r,h] hd
def aX(hg:Gl X x)(hm:X.mg x=none)(hv:BG x=U u)(r:RelV v u)(hn:x≠"__name__":=by decide)(hd:(x==("__debug__":Ay))=Am:=by decide):PE X (.Name x pos) (tC v):=λ_ _ _ H _ I h=>U3 I hg hm hv #[v,H,I,r,h] hn hd
variable{a b:Expr}{ta tb:TE}{pos:CQ}
def PC(X:Cx)(op:CmpOp)(a b:Expr)(t:TE):Prop:=∀(q4:LN)(s:Ax)(J:St)(H:Hp)(Q:VK),Inv X q4 J H s->t J H Q ->
  AZ (A7 X.prog X.w) X.A (eval a X.env) (λv s₁=>AZ (A7 X.prog X.w) X.A (eval b X.env) (λu s₂=>AZ (A7 X.prog X.w) X.A (Bh op v u) (EP X q4 J Q) X.xe s₂) X.xe s₁) X.xe s
def U8(b:Expr)(h:op≠.In)(h2:op≠.NotIn):behindInMarks op b=Am:=by
 have c:(op==KZ)=Am:=by cases op<;>first|rfl|exact absurd Y h
 have a:(op==Kg)=Am:=by cases op<;>first|rfl|exact absurd Y h2
 cases b<;>simp[behindInMarks,c,a]
abbrev tB(t:TE):TT:=λJ H Q=>t J H (qS Q)
def Ajv{t:TE}(h:PC X op a b t)(h1:behindInMarks op b=Am:=by first|exact U8 _ Nq Nq|rfl):PE X (.Compare a [op] [b] pos) t:=λc s J H Q I d=>KL (h c s J H Q I d) h1
def Ad0{t:TE}(h:PC X op a b t)(h1:behindInMarks op b=Am:=by first|exact U8 _ Nq Nq|rfl):PT X (.Compare a [op] [b] pos) (tB t):=by intro e s J H Q I f;refine Jn (O2 (h e s J H _ I f) λv p h1=>O2 h1 λu o i=>O2 i λc n⟨x,g,m,j,l⟩=>?_) h1;let(d,rfl,q):=Xc l;cases j;exact CJ #[g,m,q]
def Ad2{t:TE}(h:PE X e t)(he:∀whole,isTrue e X.env whole=(do let v <-whole;standAt e.pos;holding [v] (truthy v)):=by intro _;rfl):PT X e (tB t):=by intro a s J H Q I b;refine isTrue_plain (O2 (h a s J H _ I b) λv j⟨x,c,i,f,g⟩=>?_)<|he _;let(d,rfl,q):=Xc g;cases f;exact CJ #[c,i,q]
variable{tA tB':TT}{rest:L1}
abbrev Aoq(u:TT)(J:St)(Q:Bool->Hp->Prop):Bool->Hp->Prop:=λc H=>Q3 c (u J H Q) (Q Am H)
abbrev AmH(t u:TT):TT:=λJ H Q=>t J H (Aoq u J Q)
abbrev AqR(u:TT)(J:St)(Q:Bool->Hp->Prop):Bool->Hp->Prop:=λc H=>Q3 c (Q Af H) (u J H Q)
abbrev Aq5(t u:TT):TT:=λJ H Q=>t J H (AqR u J Q)
abbrev AoJ(Q:Bool->Hp->Prop):Bool->Hp->Prop:=λc H=>Q (!c) H
abbrev Apq(t:TT):TT:=λJ H Q=>t J H (AoJ Q)
def yX(ha:PT X a tA):PW X (.BoolOp .And [a] pos) tA:=by
 intro f b s J H Q I h;refine isTrue_and<|O2 (ha b s J H Q I h) λc d e=>?_
 cases c with
 |true=>exact isTrue_and_nil e
 |false=>exact e
def AjI(ha:PT X a tA):PW X (.BoolOp .Or [a] pos) tA:=by
 intro f b s J H Q I h;refine isTrue_or<|O2 (ha b s J H Q I h) λc d e=>?_
 cases c with
 |false=>exact isTrue_or_nil e
 |true=>exact e
def Ad5(ha:PT X a tA)(hb:PW X (.BoolOp .And (b::rest) pos) tB'):PW X (.BoolOp .And (a::b::rest) pos) (AmH tA tB'):=by
 intro i d s J H Q I h;refine isTrue_and<|O2 (ha d s J H _ I h) λc j⟨e,g,f⟩=>?_
 cases c with
 |true=>exact hb i d j J e Q g f
 |false=>exact#[e,g,f]
def Amh(ha:PT X a tA)(hb:PW X (.BoolOp .Or (b::rest) pos) tB'):PW X (.BoolOp .Or (a::b::rest) pos) (Aq5 tA tB'):=by
 intro i d s J H Q I h;refine isTrue_or<|O2 (ha d s J H _ I h) λc j⟨e,g,f⟩=>?_
 cases c with
 |true=>exact#[e,g,f]
 |false=>exact hb i d j J e Q g f
def Ad1(ha:PT X a tA):PT X (.UnaryOp .Not a pos) (Apq tA):=by intro b s J H Q I h;exact isTrue_not (ha b s J H (λc d=>Q (!c) d) I h)
abbrev AlI(tb:TE)(J:St)(Q:VK):Bool->Hp->Prop:=λc H=>Q3 c (tb J H Q) (Q (.bl Am) H)
abbrev Ah5(ta tb:TE):TE:=λJ H Q=>ta J H (qS<|AlI tb J Q)
abbrev AlR(Q:VK):Bool->Hp->Prop:=λc H=>Q (.bl<|!c) H
abbrev Ah8(ta:TE):TE:=λJ H Q=>ta J H (qS<|AlR Q)
def W8{op}{t:TE}(h:PE X a t):PE X (.BoolOp op [a] pos) t:=λb s J H Q I c=>BoolOp_one (h b s J H Q I c)
def Adw(ha:PE X a ta)(hb:PE X (.BoolOp .And (b::rest) pos) tb):PE X (.BoolOp .And (a::b::rest) pos) (Ah5 ta tb):=by
 intro d s J H Q I h;refine BoolOp_and<|O2 (ha d s J H _ I h) λv j⟨x,f,g,i,e⟩=>?_
 let(c,rfl,e):=Xc e;cases i;refine CJ ?_;cases c with
 |true=>exact hb d j J f Q g e
 |false=>exact#[.bl Am,f,g,Y,e]
def AdG(ha:PE X a ta):PE X (.UnaryOp .Not a pos) (Ah8 ta):=by
 intro b s J H Q I h;refine UnaryOp_<|O2 (ha b s J H _ I h) λv i⟨x,e,g,f,d⟩=>?_
 let(c,rfl,d):=Xc d;cases f;exact not_of (CJ #[.bl<|!c,e,g,Y,d])
abbrev AqL(ta tb:TE)(J:St)(Q:VK):Bool->Hp->Prop:=λc H=>Q3 c (ta J H Q) (tb J H Q)
abbrev Aq3(t:TT)(ta tb:TE):TE:=λJ H Q=>t J H (AqL ta tb J Q)
def AdC(hc:PT X c tA)(ha:PE X a ta)(hb:PE X b tb):PE X (.IfExp c a b pos) (Aq3 tA ta tb):=by
 intro e s J H Q I h;refine wpAny_IfExp<|O2 (hc e s J H _ I h) λd i⟨f,j,g⟩=>?_
 cases d with
 |true=>exact ha e i J f Q j g
 |false=>exact hb e i J f Q j g
end
def PX(K:Ab)(H:Hp)(a:Ae)(xs:LM):Prop:=Rd H a (.lst xs) \/
  ∃(o:Cy)(its:Mb)(n:Nat),K.lookup a=U o/\o.cls=.type "list"/\o.dict=none/\o.data=.seq its n/\its.size<=sizeLine/\Vals xs its.toList
def RE(K:Ab)(H:Hp)(a:Ae)(xs:LM):Prop:=Rd H a (.tup xs) \/
  ∃(o:Cy)(its:Mb)(n:Nat),K.lookup a=U o/\o.cls=.type "tuple"/\o.data=.seq its n/\its.size<=sizeLine/\Vals xs its.toList
def AnO:Ai->Mn
 |.none=>U .OH
 |.bool b=>U<|.bl b
 |.int i _=>U<|.int i
 |.str x _=>U<|.str x
 |.bytes b _=>U<|.AbR b
 |.float b _=>U<|.AiB b
 |.ref a=>U<|.ref a
 |.type n=>U<|.ty n
 |_=>none
def RelV.abs(r:RelV x u):AnO u=U x:=by
 cases x with
 |OH=>cases r;rfl
 |bl _=>cases r;rfl
 |int _=>let(t,rfl):=r;rfl
 |str _=>let(t,rfl):=r;rfl
 |AbR _=>let(t,rfl):=r;rfl
 |AiB _=>let(t,rfl):=r;rfl
 |ref _=>cases r;rfl
 |ty _=>cases r;rfl
def RelV.inj(r:RelV x u)(q:RelV y u):x=y:=AS (r.abs.symm.trans q.abs)
def Vals.inj{xs ys:LM}{us:LQ}(h:Vals xs us)(h':Vals ys us):xs=ys:=by
 induction h generalizing ys with
 |nil=>cases h';rfl
 |cons r t ih=>
   cases h' with
   |cons b a=>rw[r.inj b,ih a]
section
variable{X:Cx}{q4:LN}{J:St}{H:Hp}{s:Ax}{a:Ae}{xs ys:LM}
def PX.of{K:Ab}(h:H a=U (.lst xs)):PX K H a xs:=.inl (.inl h)
def RE.of{K:Ab}(h:H a=U (.tup xs)):RE K H a xs:=.inl (.inl h)
def Inv.list(I:Inv X q4 J H s)(h:PX X.K H a xs):∃its:LQ,Vals xs its/\PlainL s.heap a its.toArray/\xs.length<=sizeLine:=by
 rcases h with h|⟨o,its,n,c,f,b,d,g,r⟩
 ·let(z,its,n,r,e):=h.ok I.Oj;exact#[its,r,#[_,n,e,Y,Y,Y],z]
 ·refine#[its.toList,r,#[o,n,I.U2 a o c,f,b,by simpa using d],?_];have e:=r.length;simp only[Bt]at e;omega
def Inv.tuple(I:Inv X q4 J H s)(h:RE X.K H a xs):∃its:LQ,Vals xs its/\Jx s.heap a its.toArray/\xs.length<=sizeLine:=by
 rcases h with h|⟨o,its,n,d,c,b,f,r⟩
 ·let(z,its,r,p):=h.ok I.Oj;exact#[its,r,p,z]
 ·refine#[its.toList,r,#[o,I.U2 a o d,c,n,by simpa using b],?_];have e:=r.length;simp only[Bt]at e;omega
def Inv.cZ(I:Inv X q4 J H s)(h:PX X.K H a xs)(h':PX X.K H a ys):xs=ys:=by
 let(c,r,(o,n,e,_,_,d),_):=I.list h;let(b,i,(l,j,g,_,_,f),_):=I.list h';rw[e]at g;cases g;rw[d]at f;injection f with d1 _;have:c=b:=by simpa using congrArg JW d1
 subst this;exact r.inj i
def Inv.lE(I:Inv X q4 J H s)(h:RE X.K H a xs)(h':RE X.K H a ys):xs=ys:=by
 let(c,r,(o,e,_,n,d),_):=I.tuple h;let(b,i,(l,g,_,j,f),_):=I.tuple h';rw[e]at g;cases g;rw[d]at f;injection f with d1 _;have:c=b:=by simpa using congrArg JW d1
 subst this;exact r.inj i
end
abbrev Cx.Wf(X:Cx)(E:Ai->Ax->Prop):Cx:={X with xe:=E}
abbrev Cx.AbT(X:Cx):Cx:=X.Wf λ_ _=>False
def Cx.Ok.Wf{X:Cx}(ok:X.Ok)(E:Ai->Ax->Prop):(X.Wf E).Ok:=#[ok.mod,ok.kind,ok.glob,ok.blt,ok.above,ok.inj,ok.has,ok.Aik,ok.hd,ok.frames,ok.Aj9,ok.Alx,ok.bs,ok.Aap,ok.vJ,ok.uQ,ok.WN,ok.AeS]
def Cx.Ok.Q1{X:Cx}{E:Ai->Ax->Prop}(ok:(X.Wf E).Ok):X.Ok:=#[ok.mod,ok.kind,ok.glob,ok.blt,ok.above,ok.inj,ok.has,ok.Aik,ok.hd,ok.frames,ok.Aj9,ok.Alx,ok.bs,ok.Aap,ok.vJ,ok.uQ,ok.WN,ok.AeS]
section
variable{X:Cx}{q4:LN}{J:St}{H:Hp}{s:Ax}{E:Ai->Ax->Prop}
def Inv.Wf(I:Inv X q4 J H s)(E:Ai->Ax->Prop):Inv (X.Wf E) q4 J H s:=#[I.ok.Wf E,I.os,I.bare,I.base,I.loc,I.cell,I.free,I.QC,I.pin,I.Oj,I.len]
def Inv.Q1(I:Inv (X.Wf E) q4 J H s):Inv X q4 J H s:=#[I.ok.Q1,I.os,I.bare,I.base,I.loc,I.cell,I.free,I.QC,I.pin,I.Oj,I.len]
def SP.Q1(h:SP (X.Wf E) q4 D f s'):SP X q4 D f s':=by
 cases f with
 |next=>let(a,b,I,q):=h;exact#[a,b,I.Q1,q]
 |brk=>let(a,b,I,q):=h;exact#[a,b,I.Q1,q]
 |cont=>let(a,b,I,q):=h;exact#[a,b,I.Q1,q]
 |ret u=>let(v,a,b,I,r,q):=h;exact#[v,a,b,I.Q1,r,q]
def QB.AbT{st:Me}{t:TS}(h:QB X.AbT st t):QB X st t:=λa s J H D I b=>
 BL (h a s J H D (I.Wf _) b) (λ_ _ q=>q.Q1) λ_ _ z=>B4 z
end
section
variable{X:Cx}{st:Bi}{rest:Me}{t u:TS}{e:Expr}{te:TE}{pos:CQ}
abbrev AmQ:TS:=λD J H=>D.nx J H
abbrev An7(u:TS)(D:Ends):Ends:=#[u D,D.rt,D.bk,D.ct]
abbrev Aps(t u:TS):TS:=λD J H=>t (An7 u D) J H
def yV:QB X [] AmQ:=λ_ _ J H _ I h=>ED #[J,H,I,h]
def OS(h1:PS X st t)(h2:QB X rest u):QB X (st::rest) (Aps t u):=by
 intro a s J H D I h;refine Kl<|O2 (h1 a s J H _ I h) λf d q=>?_
 cases f with
 |next=>let(e,c,b,q):=q;exact h2 a d e c D b q
 |ret v=>exact q
 |brk=>exact q
 |cont=>exact q
def O8(h1:PS X st t):QB X [st] t:=by
 intro a s J H D I h;refine Kl<|O2 (h1 a s J H D I h) λf b q=>?_
 cases f with
 |next=>exact ED q
 |ret v=>exact q
 |brk=>exact q
 |cont=>exact q
def Inv.quiet(I:Inv X q4 J H s):interactive X.env=Am:=by simp[interactive,I.ok.kind]
abbrev AlN(D:Ends)(J:St):VK:=λ_ H=>D.nx J H
abbrev AmK(te:TE):TS:=λD J H=>te J H (AlN D J)
def XU(he:PE X e te)(hs:swapsWith e none pos.line X.env=pure Am:=by rfl):PS X (.Expr e pos) (AmK te):=by intro a s J H D I h;exact wpAny_Expr_any (O2 (he a s J H _ I h) λv g⟨x,b,d,f,c⟩=>#[J,b,d,c]) I.quiet hs
abbrev Apr(te:TE):TS:=λD J H=>te J H D.rt
def QH(he:PE X e te):PS X (.Return (U e) pos) (Apr te):=by intro a s J H D I h;exact wpAny_Return_some (O2 (he a s J H _ I h) λv g⟨x,b,f,c,d⟩=>#[x,J,b,f,c,d])
abbrev AmS:TS:=λD _ H=>D.rt .OH H
def Agx:PS X (.Return none pos) AmS:=λ_ _ J H _ I h=>wpAny_Return_none #[.OH,J,H,I,Y,h]
abbrev AoE(t u:TS)(D:Ends)(J:St):Bool->Hp->Prop:=λb H=>Q3 b (t D J H) (u D J H)
abbrev AmN(c:TT)(t u:TS):TS:=λD J H=>c J H (AoE t u D J)
def AdX(hc:PT X c tc)(ha:QB X a t)(hb:QB X b u):PS X (.If c a b pos) (AmN tc t u):=by
 intro e s J H D I h;refine wpAny_If<|O2 (hc e s J H _ I h) λd i⟨f,j,g⟩=>?_
 cases d with
 |true=>exact ha e i J f D j g
 |false=>exact hb e i J f D j g
end
abbrev TG:=V->St->Hp->(St->Hp->Prop)->Prop
abbrev AeP:=LM->St->Hp->(St->Hp->Prop)->Prop
def PG(X:Cx)(target:Expr)(t:TG):Prop:=∀(q4:LN)(s:Ax)(J:St)(H:Hp)(v:V)(u:Ai)(Q:St->Hp->Prop),Inv X q4 J H s->RelV v u->t v J H Q ->
  AZ (A7 X.prog X.w) X.A (G2 target X.env u) (λ_ s'=>∃σ' H',Inv X q4 σ' H' s'/\Q σ' H') X.xe s
def AbQ(X:Cx)(ts:L1)(t:AeP):Prop:=∀(q4:LN)(s:Ax)(J:St)(H:Hp)(vs:LM)(us:LQ)(Q:St->Hp->Prop),Inv X q4 J H s->Vals vs us->t vs J H Q ->
  AZ (A7 X.prog X.w) X.A (assignInOrder ((C6 ts X.env).map (·.2)) us) (λ_ s'=>∃σ' H',Inv X q4 σ' H' s'/\Q σ' H') X.xe s
abbrev Ab1:=V->V->V->Hp->(Hp->Prop)->Prop
def AkX(X:Cx)(t:Ab1):Prop:=∀(q4:LN)(s:Ax)(J:St)(H:Hp)(o i v:V)(ov iv u:Ai)(Q:Hp->Prop),Inv X q4 J H s->RelV o ov->RelV i iv->RelV v u->t o i v H Q ->
  AZ (A7 X.prog X.w) X.A (Kb ov iv u) (λ_ s'=>∃H',Inv X q4 J H' s'/\Q H') X.xe s
section
variable{X:Cx}{pos:CQ}
abbrev Wi(i:Nat):TG:=λv J H Q=>Q (AgZ J i v) H
def Qx(hN:X.N.Nodup)(hi:X.N[i]?=U x)(hx:Loc X.env.scope x)(hf:X.fn x=Af\/X.env.scope.names.lookup x=U .local:=by first|exact .inl rfl|exact .inr rfl|assumption):PG X (.Name x pos) (Wi i):=by intro a s J H v u Q I r h;exact J9 (tJ I hN hi hx r (λc b=>#[_,H,b,fF▸h]) hf)
abbrev Aly:AeP:=λvs J H Q=>match vs with
 |[]=>Q J H
 |_::_=>False
def Afs(h:Aly vs J H Q):vs=[]/\Q J H:=by
 cases vs with
 |nil=>exact#[Y,h]
 |cons _ _=>exact h.elim
abbrev kG(u:AeP)(r:LM)(Q:St->Hp->Prop):St->Hp->Prop:=λJ H=>u r J H Q
abbrev Ahz(t:TG)(u:AeP):AeP:=λvs J H Q=>match vs with
 |v::r=>t v J H<|kG u r Q
 |[]=>False
def Acy{t:TG}{u:AeP}(h:Ahz t u vs J H Q):∃v r,vs=v::r/\t v J H (kG u r Q):=by
 cases vs with
 |nil=>exact h.elim
 |cons v r=>exact#[v,r,Y,h]
def Agm:AbQ X [] Aly:=by intro a s J H c b Q I r h;let(e,h):=Afs h;exact assignInOrder_nil #[J,H,I,h]
def AdM{t:TG}(h1:PG X e t)(h2:AbQ X es u)(hs:(C6 (e::es) X.env).map (·.2)=G2 e X.env::(C6 es X.env).map (·.2):=by rfl):AbQ X (e::es) (Ahz t u):=by
 intro a s J H l j Q I r h;let(v,m,d,h):=Acy h;subst d;cases r with
 |cons r rr=>
   rw[hs];refine assignInOrder_cons<|O2 (h1 a s J H _ _ _ I r h) λ_ g⟨b,c,i,f⟩=>?_
   exact h2 a g b c _ _ Q i rr f
def Aod(K:Ab)(n:Nat)(t:AeP):TG:=λv J H Q=>∃a xs,v=.ref a/\RE K H a xs/\xs.length=n/\t xs J H Q
def Ajz{k:Nat}{t:AeP}(hc:X.calm=Af)(h:AbQ X es t)(hn:(C6 es X.env).length=n:=by rfl)(hst:(C6 es X.env).findIdx? (·.1)=none:=by rfl){K₀:Ab}{N4:Hp}[hK:Ol X K₀ N4]:PG X (.Tuple es k pos) (Aod K₀ n t):=by
 let(rfl,rfl):=hK;intro c s J H v u Q I r d;let(a,p,j,i,l,d):=d;subst j;cases r;let(m,f,q,y):=I.tuple i;refine assign_Tuple_tuple (I.ok.hd hc) q (by simp[hn,<-l,f.length]) hst λg x=>?_
 have w:Inv X c J H {s with heap:=g}:=I.kept λb o e=>x b o (A9<|AO e) e
 exact h c _ J H p _ Q w (by simpa using f) d
abbrev AqH(Q:St->Hp->Prop)(J:St):Hp->Prop:=λH=>Q J H
abbrev AqG(t:Ab1)(v:V)(J:St)(Q:St->Hp->Prop)(o:V):VK:=λi H=>t o i v H (AqH Q J)
abbrev AqF(ti:TE)(t:Ab1)(v:V)(J:St)(Q:St->Hp->Prop):VK:=λo H=>ti J H (AqG t v J Q o)
abbrev Aoc(to ti:TE)(t:Ab1):TG:=λv J H Q=>to J H (AqF ti t v J Q)
def Ajy{t:Ab1}(ho:PE X o to)(hi:PE X i ti)(hs:AkX X t)(ha:∀v,G2 (.Subscript o i pos) X.env v=(do
   let ov <-holding [v] (eval o X.env);let iv <-holding [v,ov] (eval i X.env)
   standAt pos
   holding [v,ov,iv] (Kb ov iv v)
   release [v,ov,iv] []):=by intro _;rfl):PG X (.Subscript o i pos) (Aoc to ti t):=by
 intro a s J H v u Q I r h;refine Ad<|BH<|O2 (ho a s J H _ I h) λov m⟨x,e,p,j,l⟩=>?_
 refine Ad<|BH<|O2 (hi a m J e _ p l) λiv f⟨y,d,g,b,q⟩=>?_
 refine Ad<|DU<|Ad<|BH<|O2 (hs a f J d x y v ov iv u _ g j b r q) λ_ z⟨w,c,n⟩=>?_
 exact wpAny_release #[J,w,c,n]
abbrev Aor(g:TG)(D:Ends)(J:St):VK:=λx H=>g x J H D.nx
abbrev Ag1(te:TE)(g:TG):TS:=λD J H=>te J H (Aor g D J)
def AdW{tg:Expr}(he:PE X e te)(hg:PG X tg g)(hs:IE [tg] e pos.line X.env=pure Am:=by rfl)(hw:IF [tg] e X.env=pure none:=by rfl)(h1:(C6 [tg] X.env).map (·.2)=[G2 tg X.env]:=by rfl):PS X (.Assign [tg] e pos) (Ag1 te g):=by intro a s J H D I h;refine wpAny_Assign_stores (O2 (he a s J H _ I h) λv f⟨x,b,i,c,d⟩=>?_) hs hw;rw[h1];exact O2 (hg a f J b x v _ i c d) λ_ j q=>q
def AdY(hN:X.N.Nodup)(hi:X.N[i]?=U x)(hx:Loc X.env.scope x)(he:PE X e te)(hs:swapsWith e (U<|.Name x pos') pos.line X.env=pure Am:=by rfl)(hf:X.fn x=Af\/X.env.scope.names.lookup x=U .local:=by first|exact .inl rfl|exact .inr rfl|assumption):PS X (.Assign [.Name x pos'] e pos) (Ag1 te<|Wi i):=by
 intro a s J H D I h;refine wpAny_Assign_Name (O2 (he a s J H _ I h) λv l⟨y,b,f,c,d⟩=>?_) hs;exact tJ f hN hi hx c (λj g=>#[_,b,g,fF▸d]) hf
end
section
variable{X:Cx}{pos:CQ}
def Aex(c:TT)(tb:TS):TS:=λD J H=>∃W:Nat->St->Hp->Prop,(∃m,W m J H)/\∀m J H,W m J H ->
 c J H λb H1=>if b=Af then∃N:St->Hp->Prop,(∀σ' H',N σ' H'->∃m',m'<m/\W m' σ' H')/\tb {D with nx:=N,ct:=N,bk:=D.nx} J H1 else D.nx J H1
def AdZ(hp:IY (A7 X.prog X.w) X.A X.env X.xe)(hc:PT X c tc)(hb:QB X body tb):PS X (.While c body [] pos) (Aex tc tb):=by
 intro a s J H D I h;let(W,(G,j0),g):=h;refine wpAny_While<|codeAny_whileLoop (λn B=>∃σ' H',Inv X a σ' H' B/\W n σ' H') ?_ G #[J,H,I,j0];rintro n K⟨j,x,E,C⟩;refine Dn hp<|O2 (hc a K j x _ E<|g n j x C) λb F⟨y,u,l⟩=>?_
 cases b with
 |true=>
   let(N,z,l):=l;refine Dn hp<|O2 (hb a F j y _ u l) λf L i=>?_
   cases f with
   |next=>let(d,e,p,o):=i;let(q,r,m):=z d e o;exact#[q,r,d,e,p,m]
   |cont=>let(d,e,p,o):=i;let(q,r,m):=z d e o;exact#[q,r,d,e,p,m]
   |brk=>exact i
   |ret v=>exact i
 |false=>exact ED #[j,y,u,l]
end
structure It where
 go:Nat->Hp->Prop
 AbV:Nat->Hp->V->Hp->Prop
 stop:Nat->Hp->Prop
def Q9(X:Cx)(q4:LN)(H:Hp)(b:Ae):Prop:=H b=none/\b≠X.env.locals/\b∉X.fs/\(b∈X.ex\/X.Qy.heap.objs.size<=b)/\(∀x c,X.env.cells.lookup x=U c->c≠b)/\∀p∈X.pn++q4,p.1≠b
def Inv.V9(I:Inv X q4 J H s)(hb:s.heap.objs.size<=b)(hn:H' b=none):Q9 X q4 H' b:=by
 refine#[hn,Ig<|Bl I.lt hb,I.Ao4 hb,.inr<|AL I.sz hb,λx c e z=>?_,λp a z=>?_]
 ·let(v,q):=I.cell x c e;exact absurd (Bl q.lt (by rw[z];exact hb))<|CN _
 ·exact absurd (Bl (AO (I.pin p a).1) (by rw[z];exact hb)) (CN _)
structure Turn(P:Bn)(w:Bw)(K:Ab)(tg:Expr)(j0:It)(fp:LL)(it:Ae)(tn:Nat->BM->Prop):Prop where
 mem:it∈fp
 obj:∀i h,tn i h->∀b∈fp,∃o,h.get? b=U o/\∀v,o.data≠.cell v
 keep:∀i h h',tn i h->(∀b∈fp,∀o,h.get? b=U o->h'.get? b=U o)->tn i h'
 item:∀(X:Cx),X.prog=P->X.w=w->X.K=K->X.calm=Af->∀(i:Nat)(q4:LN)(s:Ax)(J:St)(H:Hp)(E:Ai->Ax->Prop),Inv X q4 J H s->(∀b∈fp,Q9 X q4 H b)->tn i s.heap->j0.go i H ->
  AZ (A7 P w) X.A (pyNext<|.ref it) (λr s1=>∃u,r=U u /\
   AZ (A7 P w) X.A (FH tg (.ref it) u) (λ_ s2=>∃x H',Inv X q4 J H' s2/\RelV x u/\j0.AbV i H x H'/\tn (i+1) s2.heap/\∀b∈fp,H' b=none) E s1) E s
 done:∀(X:Cx),X.prog=P->X.w=w->X.K=K->X.calm=Af->∀(i:Nat)(q4:LN)(s:Ax)(J:St)(H:Hp)(E:Ai->Ax->Prop),Inv X q4 J H s->(∀b∈fp,Q9 X q4 H b)->tn i s.heap->j0.stop i H ->
  AZ (A7 P w) X.A (pyNext<|.ref it) (λr s1=>r=none/\Inv X q4 J H s1) E s
 self:∀(A:BS)(i:Nat)(s:Ax)(Q:Ai->Ax->Prop)(E:Ai->Ax->Prop),tn i s.heap->Q (.ref it) s->AZ (A7 P w) A (KN<|.ref it) Q E s
abbrev TI:=St->Hp->(It->Hp->Prop)->Prop
def AnJ(X:Cx)(q4:LN)(J:St)(tg:Expr)(R:It->Hp->Prop)(itv:Ai)(s2:Ax):Prop:=∃(it:Ae)(fp:LL)(tn:Nat->BM->Prop)(j0:It)(H':Hp),itv=.ref it/\Inv X q4 J H' s2/\Turn X.prog X.w X.K tg j0 fp it tn/\tn 0 s2.heap/\(∀b∈fp,Q9 X q4 H' b)/\R j0 H'
def PI(X:Cx)(tg iter:Expr)(wi:TI):Prop:=∀(q4:LN)(s:Ax)(J:St)(H:Hp)(R:It->Hp->Prop),Inv X q4 J H s->wi J H R ->
  AZ (A7 X.prog X.w) X.A (eval iter X.env) (λv s1=>AZ (A7 X.prog X.w) X.A (KN v) (AnJ X q4 J tg R) X.xe s1) X.xe s
def qF{tg:Expr}(ho:s.heap.get? it=U o)(hc:o.cls=.type n)(hd:o.data=.fields vs)(hn:["enumerate","zip","dict_itemiterator","dict_reverseitemiterator","odict_iterator","itertools.zip_longest","itertools.pairwise"].contains n=Am)(hQ:Q () s):AZ M A (FH tg (.ref it) u) Q E s:=by
 unfold FH;cases tg<;>first
  |exact wpAny_pure hQ
  | (cases u<;>first
    |exact wpAny_pure hQ
    | (refine Ad (JI ho ?_)
       rw[hc,hd];show AZ M A (if(["enumerate","zip","dict_itemiterator","dict_reverseitemiterator","odict_iterator","itertools.zip_longest","itertools.pairwise"].contains n&&vs[0]?==U (rawInt _))=Af then _ else _) Q E s;rw[Aq (by intro h;rw[hn,Du]at h;cases h)];exact wpAny_pure hQ))
def AkB(K:Ab)(a:Ae):It:=#[λi H=>∃xs x,PX K H a xs/\xs[i]?=U x,λi H x H'=>H'=H/\∀xs,PX K H a xs->xs[i]?=U x,λi H=>∃xs,PX K H a xs/\xs.length<=i]
def AnA(K:Ab)(a:Ae):It:=#[λi H=>∃xs x,RE K H a xs/\xs[i]?=U x,λi H x H'=>H'=H/\∀xs,RE K H a xs->xs[i]?=U x,λi H=>∃xs,RE K H a xs/\xs.length<=i]
def AbO(lo:Int)(n:Nat):It:=#[λi _=>i<n,λi H x H'=>H'=H/\x=.int (lo+i),λi _=>n<=i]
def AbL{K:Ab}{tg:Expr}(a it:Ae):Turn P w K tg (AkB K a) [it] it (λi h=>h.IsListIter it a i) where
 mem:=Nu
 obj:=λi h f b j=>by
  have e:b=it:=by simpa using j
  subst e;let(o,e,c,d):=f;exact#[o,e,λv z=>by rw[d]at z;cases z]
 keep:=λi h m f k=>f.at λo e=>k it Nu o e
 item:=by
  intro X M F C O i g s J H E I q f r;subst M F C;let(u9,x,n,j0):=r;let(B,D,p,S):=I.list n;let(u,W,Z):=D.get j0;let(y,A,y0,N,L,G):=q it Nu;refine wpAny_pyNext_list_item f p.isList (x:=u) (by simpa using W) λm l sb=>?_
  have Q:Inv X g J H {s with heap:=m}:=I.turned (t':=s.toks) (λb o j e=>(sb.2 b j).trans e) y A N L G;let(o,e,c,d):=id l;exact#[u,Y,qF (s:={s with heap:=m}) e c d Nq #[x,H,Q,Z,#[Y,λys T=>by rw[I.cZ T n];exact j0],l,λb j=>(q b j).1]]
 done:=by intro X M F C O i g s J H E I q f r;subst M F C;let(u9,n,j0):=r;let(B,D,p,S):=I.list n;let(y,A,y0,N,L,G):=q it Nu;have hl:=D.length;exact wpAny_pyNext_list_end (I.ok.hd O) f p.isList (by simp;omega) λm R=>#[Y,I.turned (t':=s.toks) (λb o j e=>R b o j e) y A N L G]
 self:=λ_ _ _ _ _ f h=>wpAny_pyIter_listiter f h
def wU{K:Ab}{tg:Expr}(a it:Ae):Turn P w K tg (AnA K a) [it] it (λi h=>h.IsTupleIter it a i) where
 mem:=Nu
 obj:=λi h f b j=>by
  have e:b=it:=by simpa using j
  subst e;let(o,e,c,d):=f;exact#[o,e,λv z=>by rw[d]at z;cases z]
 keep:=λi h n f k=>f.at λo e=>k it Nu o e
 item:=by
  intro X M F C O i g s J H E I r f y;subst M F C;let(u9,x,q,j0):=y;let(l,D,p,S):=I.tuple q;let(u,W,Z):=D.get j0;let(A,B,y0,N,L,G):=r it Nu;refine wpAny_pyNext_tuple_item f (show s.heap.IsTuple a l.toArray from p) (x:=u) (by simpa using W) λn m sb=>?_
  have Q:Inv X g J H {s with heap:=n}:=I.turned (t':=s.toks) (λb o j e=>(sb.2 b j).trans e) A B N L G;let(o,e,c,d):=id m;exact#[u,Y,qF (s:={s with heap:=n}) e c d Nq #[x,H,Q,Z,#[Y,λys T=>by rw[I.lE T q];exact j0],m,λb j=>(r b j).1]]
 done:=by intro X M F C O i g s J H E I r f y;subst M F C;let(u9,q,j0):=y;let(l,D,p,S):=I.tuple q;let(A,B,y0,N,L,G):=r it Nu;have hl:=D.length;exact wpAny_pyNext_tuple_end (I.ok.hd O) f (show s.heap.IsTuple a l.toArray from p) (by simp;omega) λn R=>#[Y,I.turned (t':=s.toks) (λb o j e=>R b o j e) A B N L G]
 self:=λ_ _ _ _ _ f h=>wpAny_pyIter_tupleiter f h
def wR{K:Ab}{tg:Expr}(it:Ae)(lo:Int)(n:Nat):Turn P w K tg (AbO lo n) [it] it (λi h=>IsRangeIter h it (lo+(i:Nat)*1) ((n:Int)-(i:Nat)) 1) where
 mem:=Nu
 obj:=λi h a b d=>by
  have e:b=it:=by simpa using d
  subst e;exact#[_,a,λv z=>by
   have D:Ku _=KY v:=z;cases D]
 keep:=λi h g a k=>k it Nu _ a
 item:=by
  intro X y r q B i c s J H E I j a l;subst y r q;let(m,p,L,A,x,u):=j it Nu;have W:=Walks.range (prog:=X.prog) (w:=X.w) (I.ok.hd B) it lo 1 n;refine W.item i s _ _ l a λv g C M f G=>?_
  let(t,rfl):=M;have F:Inv X c J H {s with heap:=g,toks:=C}:=I.turned (λb o d e=>G b o (by simpa using d) e) m p A x u;refine#[_,Y,qF (s:={s with heap:=g,toks:=C}) (n:="range_iterator") f Y Y Nq #[.int<|lo+i,H,F,#[t,?_],#[Y,Y],f,λb d=>(j b d).1]];rw[Int.mul_one]
 done:=by intro X y r q B i c s J H E I j a l;subst y r q;let(m,p,L,A,x,u):=j it Nu;exact wpAny_pyNext_range_end (I.ok.hd B) a (by have:n<=i:=l;omega) λg j0=>#[Y,I.turned (t':=s.toks) (λb o d e=>j0 b o d e) m p A x u]
 self:=λ_ _ _ _ _ a h=>wpAny_pyIter_rangeiter a h
section
variable{X:Cx}{tg:Expr}
def AqI(K:Ab)(R:It->Hp->Prop):VK:=λx H1=>∃a,x=.ref a/\(∃xs,PX K H1 a xs)/\R (AkB K a) H1
abbrev AhA(K:Ab)(tl:TE):TI:=λJ H R=>tl J H (AqI K R)
def AqK(K:Ab)(R:It->Hp->Prop):VK:=λx H1=>∃a,x=.ref a/\(∃xs,RE K H1 a xs)/\R (AnA K a) H1
abbrev Aom(K:Ab)(tl:TE):TI:=λJ H R=>tl J H (AqK K R)
def VX(hl:PE X l tl){K₀:Ab}{N4:Hp}[hK:Ol X K₀ N4]:PI X tg l (AhA K₀ tl):=by
 let(rfl,rfl):=hK;intro c s J H R I h;refine O2 (hl c s J H _ I h) λv f⟨x,i,d,m,n⟩=>?_
 let(a,e,(u,g),q):=n;subst e;cases m;let(j,w,p,y):=d.list g;refine GD p.isList ?_;refine#[f.heap.objs.size,[f.heap.objs.size],_,_,i,Y,d.kept λb o e=>Aj _ e,AbL a _,#[_,AR _ Y,Y,Y],λb r=>?_,q];have e:b=f.heap.objs.size:=by simpa using r
 subst e;exact d.V9 (Ap _) (d.Oj.fresh<|Ap _)
def AjB(hl:PE X l tl){K₀:Ab}{N4:Hp}[hK:Ol X K₀ N4]:PI X tg l (Aom K₀ tl):=by
 let(rfl,rfl):=hK;intro c s J H R I h;refine O2 (hl c s J H _ I h) λv d⟨x,i,f,m,n⟩=>?_
 let(a,e,(u,g),q):=n;subst e;cases m;let(j,w,p,y):=f.tuple g;refine wpAny_pyIter_tuple (show d.heap.IsTuple a _ from p) ?_;refine#[d.heap.objs.size,[d.heap.objs.size],_,_,i,Y,f.kept λb o e=>Aj _ e,wU a _,#[_,AR _ Y,Y,Y],λb r=>?_,q];have e:b=d.heap.objs.size:=by simpa using r
 subst e;exact f.V9 (Ap _) (f.Oj.fresh<|Ap _)
def sC{lo:Int}{t:Ks}(I:Inv X q4 J H s)(h1:-(2 ^ 62)<=lo)(h2:lo<2 ^ 62)(h3:-(2 ^ 62)<=hi)(h4:hi<2 ^ 62)(q:R (AbO lo (hi-lo).toNat) H):AZ (A7 X.prog X.w) X.A (KN<|.ref s.heap.objs.size) (AnJ X q4 J tg R) E {s with heap:=s.heap.push {cls:=.type "range",data:=.fields (zTo [.int lo t,.int hi u,.int 1 v])},toks:=tk}:=by
 refine wpAny_pyIter_range (IsRange.new ..) (small_one h1 h2 h3 h4) ?_;have a:Inv X q4 J H {s with heap:=s.heap.push {cls:=.type "range",data:=.fields (zTo [.int lo t,.int hi u,.int 1 v])},toks:=tk}:=I.kept λb o e=>Aj _ e
 refine#[(s.heap.push {cls:=.type "range",data:=.fields (zTo [.int lo t,.int hi u,.int 1 v])}).objs.size,[(s.heap.push {cls:=.type "range",data:=.fields (zTo [.int lo t,.int hi u,.int 1 v])}).objs.size],_,_,H,Y,
  a.kept (t':=tk) λb o e=>Aj _ e,wR _ lo (hi-lo).toNat,?_,λb d=>?_,q]
 ·have f:lo+((0:Nat):Int)*1=lo:=Nu;have c:(((hi-lo).toNat:Nat):Int)-((0:Nat):Int)=Dx.Range.rangeSize lo hi 1:=by rw[rangeSize_one];split<;>omega
  show IsRangeIter _ _ (lo+((0:Nat):Int)*1) ((((hi-lo).toNat:Nat):Int)-((0:Nat):Int)) 1;rw[f,c];exact AR _ Y
 ·have e:b=(s.heap.push {cls:=.type "range",data:=.fields (zTo [.int lo t,.int hi u,.int 1 v])}).objs.size:=by simpa using d
  subst e;exact a.V9 (Ap _) (a.Oj.fresh<|Ap _)
def AqJ(R:It->Hp->Prop):LM->Hp->Prop:=λvs H1=>∃j:Int,vs=[.int j]/\-(2 ^ 62)<=j/\j<2 ^ 62/\R (AbO 0 j.toNat) H1
abbrev AhB(ta:TA):TI:=λJ H R=>ta J H (AqJ R)
def AoD(R:It->Hp->Prop):LM->Hp->Prop:=λvs H1=>∃i j:Int,vs=[.int i,.int j]/\(-(2 ^ 62)<=i/\i<2 ^ 62/\-(2 ^ 62)<=j/\j<2 ^ 62)/\R (AbO i (j-i).toNat) H1
abbrev AlD(ta:TA):TI:=λJ H R=>ta J H (AoD R)
def VY(hg:Gl X "range")(hm:X.mg "range"=none)(ha:PA X [a] ta)(hs:AG [a] X.env=[(Am,eval a X.env)]:=by rfl):PI X tg (.Call (.Name "range" p) [a] [] pos) (AhB ta):=by
 intro b s J H R I h;refine Call_<|U3 I hg hm boot_range<|C8 (O2 (ha pos b s J H _ I h) λi n⟨l,m,f,d,c⟩=>?_) hs Y;let(j,e,c,g,q):=c;subst e;cases d with
 |cons r rr=>cases rr;let(t,rfl):=r;exact call_range_1 (sC f Nr Nr c g<|by simpa using q)
def Abl(hg:Gl X "range")(hm:X.mg "range"=none)(ha:PA X [a,b] ta)(hs:AG [a,b] X.env=[(Am,eval a X.env),(Am,eval b X.env)]:=by rfl)(hs2:AG [b] X.env=[(Am,eval b X.env)]:=by rfl):
  PI X tg (.Call (.Name "range" p) [a,b] [] pos) (AlD ta):=by
 intro c s J H R I h;refine Call_<|U3 I hg hm boot_range<|C8 (O2 (ha pos c s J H _ I h) λo x⟨u,v,m,g,d⟩=>?_) (by rw[hs,hs2]) (by rw[hs2];rfl);let(i,j,e,(d,n,l,f),q):=d;subst e;cases g with
 |cons r rr=>
   cases rr with
   |cons r' rr=>cases rr;let(t,rfl):=r;let(w,rfl):=r';exact call_range_2 (sC m d n l f q)
abbrev Acd(N:St->Hp->Prop)(D:Ends):Ends:=#[N,D.rt,D.nx,N]
def kFor(g:TG)(tb:TS)(D:Ends)(J:St):It->Hp->Prop:=λj0 H1=>∃W:Nat->Nat->St->Hp->Prop,(∃m,W 0 m J H1)/\∀i m J H,W i m J H ->
 (j0.stop i H/\D.nx J H)\/(j0.go i H/\∃N:St->Hp->Prop,(∀σ' H',N σ' H'->∃m',m'<m/\W (i+1) m' σ' H')/\∀x H',j0.AbV i H x H'->g x J H' (tb<|Acd N D))
abbrev AmM(wi:TI)(g:TG)(tb:TS):TS:=λD J H=>wi J H (kFor g tb D J)
def SR(fp:LL)(h:BM):LN:=fp.filterMap λb=>(h.get? b).map λo=>(b,o)
def Pq(hb:b∈fp)(e:h.get? b=U o):(b,o)∈SR fp h:=I0.mpr #[b,hb,by rw[e];rfl]
def Aa9(hp:p∈SR fp h):p.1∈fp/\h.get? p.1=U p.2:=by
 let(b,c,e):=I0.mp hp;cases q:h.get? b with
 |none=>rw[q]at e;cases e
 |some o=>rw[q]at e;have a:=AS e;subst a;exact#[c,q]
def Inv.pinned(I:Inv X q4 J H s)(hf:∀b∈fp,Q9 X q4 H b)(ho:∀b∈fp,∃o,s.heap.get? b=U o/\∀v,o.data≠.cell v):Inv X (q4++SR fp s.heap) J H s:=I.nN λp g=>(AY.mp g).elim (λz=>I.pin p<|AV _ z) λz=>by
  let(c,e):=Aa9 z;let(i,h,f,_):=hf p.1 c;let(o,a,d):=ho p.1 c;rw[e]at a;cases a;exact#[e,i,h,f,d]
def Inv.Sg{pl:LN}(I:Inv X (q4++pl) J H s):Inv X q4 J H s:=I.nN λp a=>I.pin p (AV _<|BO _ a)
def AjF(hp:IY (A7 X.prog X.w) X.A X.env X.xe)(hc:X.calm=Af)(hi:PI X tg iter wi)(hg:PG X tg g)(hb:QB X body tb)(hs:∀x,Bz iter X.env x=pure x:=by intro _;rfl):PS X (.For tg iter body [] pos) (AmM wi g tb):=by
 intro a s J H D I h;refine wpAny_For (O2 (hi a s J H _ I h) λv s1 h1=>O2 h1 λaa s2 h2=>?_) hs;let(it,L,tn,j0,H2,e,I2,T,O,f2,W,(m0,w0),K):=h2;subst e;have q:∀{H':Hp},(∀b∈L,H' b=none)->∀b∈L,Q9 X a H' b:=λhn b hb=>#[hn b hb,(f2 b hb).2]
 refine codeAny_forLoop_any (λn S=>∃i σ' H',Inv X a σ' H' S/\tn i S.heap/\(∀b∈L,H' b=none)/\W i n σ' H') ?_ m0 #[0,J,H2,I2,O,λb hb=>(f2 b hb).1,w0];rintro n s3⟨i,C,M,y0,F,B,w3⟩;rcases K i n C M w3 with⟨E,qn⟩|⟨go,N,hN,step⟩
 ·refine Dn hp (O2 (T.done X Y Y Y hc i a s3 C M _ y0 (q B) F E) λr s4⟨P,I4⟩=>?_);subst P;exact ED #[C,M,I4,qn]
 ·refine Dn hp (O2 (T.item X Y Y Y hc i a s3 C M _ y0 (q B) F go) λr s4⟨u,P,h4⟩=>?_);subst P;refine Dn hp<|O2 h4 λ_ s5⟨x,u9,I5,r5,y5,z,Q⟩=>?_
  have R:=I5.pinned (q Q)<|T.obj _ _ z;refine Dn hp<|O2 (hg _ s5 C u9 x u _ R r5<|step x u9 y5) λ_ s6⟨ab,H6,I6,q6⟩=>?_
  refine Dn hp<|O2 (hb _ s6 ab H6 _ I6 q6) λf Z y=>?_
  have c:∀{l:St}{j:Hp},Inv X _ l j Z->N l j->∃m,m<n/\∃i σ' H',Inv X a σ' H' Z/\tn i _/\(∀b∈L,H' b=none)/\W i m σ' H':=λ{l j}p G=>by
   let(m',hm,w7):=hN l j G;refine#[m',hm,i+1,l,j,p.Sg,T.keep _ _ _ z λb hb o e=>(p.pin _<|AV _<|AV _<|Pq hb e).1,λb hb=>?_,w7];let(o,e,d):=T.obj _ _ z b hb;exact(p.pin _<|AV _<|AV _<|Pq hb e).2.1
  cases f with
  |next=>let(l,j,p,G):=y;exact c p G
  |cont=>let(l,j,p,G):=y;exact c p G
  |brk=>let(l,j,p,y):=y;exact#[l,j,p.Sg,y]
  |ret v=>let(x7,l,j,p,r7,y):=y;exact#[x7,l,j,p.Sg,r7,y]
end
def Acw{K:Ab}{g:TG}{tb:TS}{D:Ends}{J:St}{H:Hp}(Pv:Nat->St->Hp->Prop)(h0:Pv 0 J H)(hl:∀i J H,i<=xs.length->Pv i J H->PX K H a xs)(hs:∀i x J H,xs[i]?=U x->Pv i J H->g x J H λσ2 H2=>tb {D with nx:=Pv<|i+1,ct:=Pv<|i+1,bk:=D.nx} σ2 H2)(hd:∀J H,Pv xs.length J H->D.nx J H):∃W:Nat->Nat->St->Hp->Prop,(∃m,W 0 m J H)/\∀i m J H,W i m J H ->
   ((AkB K a).stop i H/\D.nx J H)\/((AkB K a).go i H/\∃N:St->Hp->Prop,(∀σ' H',N σ' H'->∃m',m'<m/\W (i+1) m' σ' H')/\∀x H',(AkB K a).AbV i H x H'->g x J H' λσ2 H2=>tb {D with nx:=N,ct:=N,bk:=D.nx} σ2 H2):=by
 refine#[λi m J H=>m=xs.length-i/\i<=xs.length/\Pv i J H,#[xs.length,Nu,Bo _,h0],?_];rintro i m J H⟨rfl,c,p⟩;have q:=hl i J H c p;by_cases b:i<xs.length
 ·refine .inr #[#[xs,xs[i],q,by simp[b]],Pv<|i+1,λσ' H' d=>#[xs.length-(i+1),Nr,Y,b,d],λx H' y=>?_];let(e,y):=y;subst e;exact hs i x J _ (y xs q) p
 ·have e:i=xs.length:=Nr;subst e;exact .inl #[#[xs,q,Ap _],hd J H p]
def jQ{lo:Int}{n:Nat}{g:TG}{tb:TS}{D:Ends}{J:St}{H:Hp}(Pv:Nat->St->Hp->Prop)(h0:Pv 0 J H)(hs:∀i J H,i<n->Pv i J H->g (.int<|lo+i) J H λσ2 H2=>tb {D with nx:=Pv<|i+1,ct:=Pv<|i+1,bk:=D.nx} σ2 H2)(hd:∀J H,Pv n J H->D.nx J H):∃W:Nat->Nat->St->Hp->Prop,(∃m,W 0 m J H)/\∀i m J H,W i m J H ->
   ((AbO lo n).stop i H/\D.nx J H)\/((AbO lo n).go i H/\∃N:St->Hp->Prop,(∀σ' H',N σ' H'->∃m',m'<m/\W (i+1) m' σ' H')/\∀x H',(AbO lo n).AbV i H x H'->g x J H' λσ2 H2=>tb {D with nx:=N,ct:=N,bk:=D.nx} σ2 H2):=by
 refine#[λi m J H=>m=n-i/\i<=n/\Pv i J H,#[n,Nu,Bo _,h0],?_];rintro i m J H⟨rfl,c,p⟩;by_cases a:i<n
 ·refine .inr #[a,Pv _,λσ' H' b=>#[n-(i+1),Nr,Y,a,b],λx H' y=>?_];let(e,y):=y;subst e y;exact hs i J _ a p
 ·have e:i=n:=Nr;subst e;exact .inl #[Ap _,hd J H p]
abbrev R2:=V->V->Hp->VK->Prop
def TM(X:Cx)(f:Ai->Ai->Ir Ai)(r:R2):Prop:=∀(q4:LN)(s:Ax)(J:St)(H:Hp)(x y:V)(v u:Ai)(Q:VK),Inv X q4 J H s->RelV x v->RelV y u->r x y H Q ->
  AZ (A7 X.prog X.w) X.A (f v u) (EP X q4 J Q) X.xe s
def QA(X:Cx)(f:Ai)(r:LM->Hp->VK->Prop):Prop:=∀(q4:LN)(s:Ax)(J:St)(H:Hp)(xs:LM)(us:LQ)(Q:VK),Inv X q4 J H s->Vals xs us->r xs H Q ->
  AZ (A7 X.prog X.w) X.A (call f us) (EP X q4 J Q) X.xe s
abbrev AqQ(r:R2)(x:V)(Q:VK):VK:=λy H=>r x y H Q
abbrev AqP(r:R2)(tb:TE)(J:St)(Q:VK):VK:=λx H=>tb J H (AqQ r x Q)
abbrev AkK(r:R2)(ta tb:TE):TE:=λJ H Q=>ta J H (AqP r tb J Q)
abbrev mI(x y:V)(F:Int->Int->Prop):Prop:=match x,y with
 |.int i,.int j=>F i j
 |_,_=>False
def yH(h:mI x y F):∃i j,x=.int i/\y=.int j/\F i j:=by
 cases x with
 |int i=>
   cases y with
   |int j=>exact#[i,j,Y,Y,h]
   |_=>exact h.elim
 |_=>exact h.elim
abbrev ApU(x:V)(F:Int->Prop):Prop:=match x with
 |.int i=>F i
 |_=>False
def Ai9(h:ApU x F):∃i,x=.int i/\F i:=by
 cases x with
 |int i=>exact#[i,Y,h]
 |_=>exact h.elim
def kC(C P:Prop):Prop:=C/\P
abbrev rI(C:Int->Int->Prop)(g:Int->Int->V):R2:=λx y H Q=>mI x y λi j=>kC (C i j) (Q (g i j) H)
abbrev AeV(g:Int->Int->V):R2:=λx y H Q=>mI x y λi j=>Q (g i j) H
section
variable{X:Cx}{a b:Expr}{ta tb:TE}{pos:CQ}
def Aie(ha:PE X a ta)(hb:PE X b tb){H:Hp}{R:V->V->Hp->Prop}(I:Inv X q4 J H s)(h:ta J H λx H1=>tb J H1 λy H2=>R x y H2){Q:Ai->Ax->Prop}{f:Ai->Ai->Ir Ai}(hf:∀v u s2 x y H2,Inv X q4 J H2 s2->RelV x v->RelV y u->R x y H2->AZ (A7 X.prog X.w) X.A (f v u) Q X.xe s2):AZ (A7 X.prog X.w) X.A (eval a X.env) (λv s₁=>AZ (A7 X.prog X.w) X.A (eval b X.env) (λu s₂=>AZ (A7 X.prog X.w) X.A (f v u) Q X.xe s₂) X.xe s₁) X.xe s:=by
 refine O2 (ha q4 s J H _ I h) λv i⟨x,H1,g,d,e⟩=>?_
 refine O2 (hb q4 i J H1 _ g e) λu s2⟨y,H2,j,c,l⟩=>?_
 exact hf v u s2 x y H2 j d c l
def PH{r:R2}(ho:TM X (Cv op) r)(ha:PE X a ta)(hb:PE X b tb):PE X (.BinOp a op b pos) (AkK r ta tb):=by intro c s J H Q I h;exact wpAny_BinOp (Aie ha hb I h λv u e x y d f g i q=>ho c e J d x y v u Q f g i q)
def Ao6{f:Ai->Ai->Ir Ai}{C:Int->Int->Prop}{g:Int->Int->Int}(rule:∀(i j:Int)(t u:Ks)(s:Ax)(Q:Ai->Ax->Prop)(E:Ai->Ax->Prop),C i j->Q (.int (g i j) s.toks) {s with toks:=s.toks+1}->AZ (A7 X.prog X.w) X.A (f (.int i t)<|.int j u) Q E s):TM X f (rI C λi j=>.int<|g i j):=by
 intro a s J H x y v u Q I c d h;let(i,j,rfl,rfl,e,q):=yH h;let(t,rfl):=c;let(b,rfl):=d;exact rule i j t b s _ _ e #[.int _,H,I.tok _,#[_,Y],q]
def Ame{f:Ai->Ai->Ir Ai}{g:Int->Int->Int}(rule:∀(i j:Int)(t u:Ks)(s:Ax)(Q:Ai->Ax->Prop)(E:Ai->Ax->Prop),Q (.int (g i j) s.toks) {s with toks:=s.toks+1}->AZ (A7 X.prog X.w) X.A (f (.int i t)<|.int j u) Q E s):TM X f (AeV λi j=>.int<|g i j):=by
 intro a s J H x y v u Q I d c h;let(i,j,rfl,rfl,q):=yH h;let(t,rfl):=d;let(b,rfl):=c;exact rule i j t b s _ _ #[.int _,H,I.tok _,#[_,Y],q]
def Ajn{f:Ai->Ai->Ir Ai}{g:Int->Int->Bool}(rule:∀(i j:Int)(t u:Ks)(s:Ax)(Q:Ai->Ax->Prop)(E:Ai->Ax->Prop),Q (.bool<|g i j) s->AZ (A7 X.prog X.w) X.A (f (.int i t)<|.int j u) Q E s):TM X f (AeV λi j=>.bl<|g i j):=by
 intro a s J H x y v u Q I d c h;let(i,j,rfl,rfl,q):=yH h;let(t,rfl):=d;let(b,rfl):=c;exact rule i j t b s _ _ #[.bl _,H,I,Y,q]
def AkN(i j:Int):Prop:=0<j/\j<1073741824
def AeW(i j:Int):Prop:=(-(2 ^ 64)<i/\i<2 ^ 64)\/(-(2 ^ 64)<j/\j<2 ^ 64)
def AeW.ok(h:AeW i j):IntMulOk i j:=by
 rcases h with⟨a,b⟩|⟨a,b⟩
 ·exact .of_left<|K5 a b
 ·exact .of_right (K5 a b)
def YX:TM X (Cv .Add) (AeV λi j=>.int<|i+j):=Ame λ_ _ _ _ _ _ _ q=>add_int q
def Ajq:TM X (Cv .Sub) (AeV λi j=>.int<|i-j):=Ame λ_ _ _ _ _ _ _ q=>sub_int q
def Adq:TM X (Cv .Mult) (rI AeW λi j=>.int<|i*j):=Ao6 λ_ _ _ _ _ _ _ a q=>mul_int q a.ok
def VU:TM X (Cv .FloorDiv) (rI AkN λi j=>.int<|i / j):=Ao6 λi j _ _ _ _ _ a q=>by
 have b:(0:Int)<j:=a.1;have c:j<1073741824:=a.2;exact floordiv_int Nr (by rw[Int.fdiv_eq_ediv_of_nonneg i Nr];exact q) (.inl<|PyProof.noPylong_small Nr)
def T4:TM X (Cv .Mod) (rI (λ_ j=>0<j) λi j=>.int<|i%j):=Ao6 λi j _ _ _ _ _ a q=>by
 have b:(0:Int)<j:=a;exact mod_int' Nr (by rw[Int.fmod_eq_emod_of_nonneg i Nr];exact q)
end
def AgS:V->V->Bool
 |.OH,.OH=>Af|.OH,.int _=>Af|.int _,.OH=>Af|.OH,.bl _=>Af|.bl _,.OH=>Af|.OH,.str _=>Af|.str _,.OH=>Af
 |.int _,.int _=>Af|.bl _,.bl _=>Af|.str _,.str _=>Af|.AbR _,.AbR _=>Af
 |.int _,.str _=>Af|.str _,.int _=>Af|.bl _,.str _=>Af|.str _,.bl _=>Af
 |_,_=>Am
def AqY:R2:=λx y H Q=>kC (AgS x y=Af) (Q (.bl<|decide<|x=y) H)
def AqZ:R2:=λx y H Q=>kC (AgS x y=Af) (Q (.bl<|!decide (x=y)) H)
def xM:decide (V.int i=V.int j)=(i==j):=by rw[BN];simp
def Ach:decide (V.bl i=V.bl j)=(i==j):=by rw[BN];simp
def xN:decide (V.str i=V.str j)=(i==j):=by rw[BN];simp
def xK:decide (V.AbR i=V.AbR j)=(i.toList==j.toList):=by rw[BN];cases i;cases j;simp
section
variable{X:Cx}{a b c:Expr}{ta tb tc:TE}{pos:CQ}
def OB{k:Bool}(I:Inv X q4 J H s)(q:Q (.bl k) H)(e:k=k'):EP X q4 J Q (.bool k') s:=by subst e;exact#[.bl k,H,I,Y,q]
def yO:TM X (Bh .Eq) AqY:=by
 intro e s J H x y v u Q I d a h;let(c,q):=h;cases x with
 |OH=>
   cases d;cases y with
   |OH=>cases a;exact PySem.EqNone.eq_none_none<|OB I q Nu
   |bl j=>cases a;exact PySem.EqNone.eq_none_bool<|OB I q Nu
   |int j=>let(b,rfl):=a;exact PySem.EqNone.eq_none_int<|OB I q Nu
   |str j=>let(b,rfl):=a;exact PySem.EqNone.eq_none_str<|OB I q Nu
   |_=>exact absurd ((c)) AI
 |bl i=>
   cases d;cases y with
   |OH=>cases a;exact PySem.EqNone.eq_bool_none<|OB I q Nu
   |bl j=>cases a;exact eq_bool<|OB I q Ach
   |str j=>let(b,rfl):=a;exact PySem.EqMixed.eq_bool_str<|OB I q Nu
   |_=>exact absurd ((c)) AI
 |int i=>
   let(t,rfl):=d;cases y with
   |OH=>cases a;exact PySem.EqNone.eq_int_none<|OB I q Nu
   |int j=>let(b,rfl):=a;exact eq_int<|OB I q xM
   |str j=>let(b,rfl):=a;exact PySem.EqMixed.eq_int_str<|OB I q Nu
   |_=>exact absurd ((c)) AI
 |str i=>
   let(t,rfl):=d;cases y with
   |OH=>cases a;exact PySem.EqNone.eq_str_none<|OB I q Nu
   |bl j=>cases a;exact PySem.EqMixed.eq_str_bool<|OB I q Nu
   |int j=>let(b,rfl):=a;exact PySem.EqMixed.eq_str_int<|OB I q Nu
   |str j=>let(b,rfl):=a;exact eq_str<|OB I q xN
   |_=>exact absurd ((c)) AI
 |AbR i=>
   let(t,rfl):=d;cases y with
   |AbR j=>let(b,rfl):=a;exact PySem.W.eq_bytes<|OB I q xK
   |_=>exact absurd ((c)) AI
 |_=>cases y<;>exact absurd ((c)) AI
def Amf:TM X (Bh .NotEq) AqZ:=by
 intro e s J H x y v u Q I d a h;let(c,q):=h;cases x with
 |OH=>
   cases d;cases y with
   |OH=>cases a;exact PySem.EqNone.ne_none_none<|OB I q Nu
   |bl j=>cases a;exact PySem.EqNone.ne_none_bool<|OB I q Nu
   |int j=>let(b,rfl):=a;exact PySem.EqNone.ne_none_int<|OB I q Nu
   |str j=>let(b,rfl):=a;exact PySem.EqNone.ne_none_str<|OB I q Nu
   |_=>exact absurd ((c)) AI
 |bl i=>
   cases d;cases y with
   |OH=>cases a;exact PySem.EqNone.ne_bool_none<|OB I q Nu
   |bl j=>cases a;exact ne_bool<|OB I q<|congrArg not Ach
   |str j=>let(b,rfl):=a;exact PySem.EqMixed.ne_bool_str<|OB I q Nu
   |_=>exact absurd ((c)) AI
 |int i=>
   let(t,rfl):=d;cases y with
   |OH=>cases a;exact PySem.EqNone.ne_int_none<|OB I q Nu
   |int j=>let(b,rfl):=a;exact ne_int<|OB I q<|congrArg not xM
   |str j=>let(b,rfl):=a;exact PySem.EqMixed.ne_int_str<|OB I q Nu
   |_=>exact absurd ((c)) AI
 |str i=>
   let(t,rfl):=d;cases y with
   |OH=>cases a;exact PySem.EqNone.ne_str_none<|OB I q Nu
   |bl j=>cases a;exact PySem.EqMixed.ne_str_bool<|OB I q Nu
   |int j=>let(b,rfl):=a;exact PySem.EqMixed.ne_str_int<|OB I q Nu
   |str j=>let(b,rfl):=a;exact ne_str<|OB I q<|congrArg not xN
   |_=>exact absurd ((c)) AI
 |AbR i=>
   let(t,rfl):=d;cases y with
   |AbR j=>let(b,rfl):=a;exact PySem.W.ne_bytes<|OB I q<|congrArg not xK
   |_=>exact absurd ((c)) AI
 |_=>cases y<;>exact absurd ((c)) AI
def Adp:TM X (Bh .Lt) (AeV λi j=>.bl<|decide<|i<j):=Ajn λ_ _ _ _ _ _ _ q=>lt_int q
def yP:TM X (Bh .LtE) (AeV λi j=>.bl<|decide<|i<=j):=Ajn λ_ _ _ _ _ _ _ q=>le_int q
def AhY:TM X (Bh .Gt) (AeV λi j=>.bl<|decide<|j<i):=Ajn λ_ _ _ _ _ _ _ q=>gt_int q
def Abb:TM X (Bh .In) (λx y H Q=>∃i j,x=.str i/\y=.str j/\Q (.bl<|!(Dw j i 0 j.length 1).isEmpty) H):=by intro a s J H x y v u Q I c b h;let(i,j,rfl,rfl,q):=h;let(t,rfl):=c;let(d,rfl):=b;exact in_str (OB I q Y)
def Ajp:TM X (Bh .Is) (λx y H Q=>y=.OH/\Q (.bl<|decide<|x=.OH) H):=by
 intro a s J H x y v u Q I b c h;let(rfl,q):=h;cases c;refine is_none_gen<|OB I q ?_;cases x<;>first
  |(cases b;rfl)
  |(let(t,rfl):=b;rfl)
def Af8:TM X (Bh .IsNot) (λx y H Q=>y=.OH/\Q (.bl<|!decide (x=.OH)) H):=by
 intro a s J H x y v u Q I c b h;let(rfl,q):=h;cases b;refine isnot_none_gen<|OB I q ?_;cases x<;>first
  |(rfl)
  |(let(t,rfl):=c;rfl)
def YV(b:Expr)(h:op≠.In:=by decide)(h2:op≠.NotIn:=by decide):behindInMarks op b=Am:=by
 have c:(op==KZ)=Am:=by cases op<;>first|rfl|exact absurd Y h
 have a:(op==Kg)=Am:=by cases op<;>first|rfl|exact absurd Y h2
 cases b<;>simp[behindInMarks,c,a]
def aY(ho:TM X (Bh op) r)(ha:PE X a ta)(hb:PE X b tb)(hm:behindInMarks op b=Am):PE X (.Compare a [op] [b] pos) (AkK r ta tb):=by intro c s J H Q I h;exact KL (Aie ha hb I h λv u e x y d f g i q=>ho c e J d x y v u Q f g i q) hm
abbrev AmT(t:TE):TT:=λJ H Q=>t J H (qS Q)
def yW(ho:TM X (Bh op) r)(ha:PE X a ta)(hb:PE X b tb)(hm:behindInMarks op b=Am):PT X (.Compare a [op] [b] pos) (AmT<|AkK r ta tb):=by
 intro d s J H Q I h;refine Jn (O2 (ha d s J H _ I h) λv q⟨x,l,w,o,p⟩=>O2 (hb d q J l _ w p) λu m⟨y,i,n,f,A⟩=>
  O2 (ho d m J i x y v u _ n o f A) λc C⟨z,B,g,j,e⟩=>?_) hm
 let(k,rfl,e):=Xc e;cases j;exact CJ #[B,g,e]
abbrev Aow(r':R2)(y:V)(Q:VK):VK:=λw H=>r' y w H Q
abbrev Aov(r':R2)(tc:TE)(y:V)(J:St)(Q:VK):Bool->Hp->Prop:=λk H=>Q3 k (tc J H<|Aow r' y Q) (Q (.bl Am) H)
abbrev Aou(r r':R2)(tc:TE)(x:V)(J:St)(Q:VK):VK:=λy H=>r x y H (qS<|Aov r' tc y J Q)
abbrev Aot(r r':R2)(tb tc:TE)(J:St)(Q:VK):VK:=λx H=>tb J H (Aou r r' tc x J Q)
abbrev Aev(r r':R2)(ta tb tc:TE):TE:=λJ H Q=>ta J H (Aot r r' tb tc J Q)
def rU(ho:TM X (Bh op) r)(ho':TM X (Bh op') r')(ha:PE X a ta)(hb:PE X b tb)(hc:PE X c tc)(hm:Kq [op,op'] [b,c]=Am:=by with_unfolding_all rfl):PE X (.Compare a [op,op'] [b,c] pos) (Aev r r' ta tb tc):=by
 intro e s J H Q I h;refine Compare_chain (O2 (ha e s J H _ I h) λv j0⟨x,G,w,o,D⟩=>chain_link (O2 (hb e j0 J G _ w D) λu C⟨y,K,E,j,M⟩=>
  O2 (ho e C J K x y v u _ E o j M) λd L⟨z,g,i,l,f⟩=>?_)) hm
 let(k,rfl,f):=Xc f;cases l;refine CJ ?_;cases k with
 |false=>exact ite_ff #[.bl Am,g,i,Y,f]
 |true=>exact ite_tt (chain_last<|O2 (hc e L J g _ i f) λn m⟨q,B,p,A,F⟩=>ho' e m J B y q u n Q p j A F)
def YR:(sizeLine:Nat)<2 ^ 63:=Nq
def Ql:TM X (Cv .Add) (λx y H Q=>∃i j,x=.str i/\y=.str j/\i.length+j.length<=sizeLine/\Q (.str<|i++j) H):=by intro a s J H x y v u Q I c d h;let(i,j,rfl,rfl,e,q):=h;let(t,rfl):=c;let(b,rfl):=d;exact add_str (λb f=>#[.str _,H,I.tok _,#[_,Y],q]) e
def vals1(r:Vals [x] us):∃u,us=[u]/\RelV x u:=by
 cases r with
 |cons b a=>cases a;exact#[_,Y,b]
def vals2(r:Vals [x,y] us):∃u w',us=[u,w']/\RelV x u/\RelV y w':=by
 cases r with
 |cons r1 r2=>
   cases r2 with
   |cons b a=>cases a;exact#[_,_,Y,r1,b]
def AjL:LM->Hp->VK->Prop:=λxs H Q=>∃i j,xs=[.int i,.int j]/\Q (.int (if j>i then j else i)) H
def Aau(hc:X.calm=Af):QA X (.builtin "max") AjL:=by
 intro b s J H l e Q I r h;let(i,j,rfl,q):=h;let(u,f,rfl,(t,rfl),(g,rfl)):=vals2 r;refine max_two_ints (I.ok.hd hc) λc d k=>#[_,H,I.kept k,?_,q]
 by_cases a:j>i
 ·rw[Az a,Az a];exact#[_,Y]
 ·rw[Aq a,Aq a];exact#[_,Y]
def AjM:LM->Hp->VK->Prop:=λxs H Q=>∃i j,xs=[.int i,.int j]/\Q (.int (if j<i then j else i)) H
def Aav(hc:X.calm=Af):QA X (.builtin "min") AjM:=by
 intro b s J H l e Q I r h;let(i,j,rfl,q):=h;let(u,f,rfl,(t,rfl),(g,rfl)):=vals2 r;refine min_two_ints (I.ok.hd hc) λc d k=>#[_,H,I.kept k,?_,q]
 by_cases a:j<i
 ·rw[Az a,Az a];exact#[_,Y]
 ·rw[Aq a,Aq a];exact#[_,Y]
def Abt:LM->Hp->VK->Prop:=λxs H Q=>∃i,xs=[.int i]/\i.natAbs.log2<1920/\Q (.str<|toString i) H
def lR:QA X (.type "str") Abt:=by intro a s J H c d Q I r h;let(i,rfl,b,q):=h;let(u,rfl,t,rfl):=vals1 r;exact PySem.P.str_of_int b #[.str _,H,I.tok _,#[_,Y],q]
end
structure tZ(h:BM)(x dx C:Ae)(mA:Ay->LX):Prop where
 obj:h.get? x=U (CV C dx)
 ns:h.Ns1 dx mA
 ne:dx≠x
def AaZ{h:BM}{mA:Ay->LX}(n:h.Ns1 dx mA):∃od,h.get? dx=U od/\∀name,Fh name od=U (mA name):=by
 let(o,c,m,i,d,g,_,f):=n;refine#[o,i,λname=>?_];have e:=f name;unfold nsFind findBy at e;rw[<-IQ]at e;unfold Fh;rw[d];dsimp only;split
 ·rename_i y q;rw[q]at e;exact congrArg U e
 ·rename_i q;rw[q]at e;have a:c.toList.any (·.refKey)=Am:=by
   rw[List.any_eq_false];intro y l;let(z,t,b):=g y<|Array.mem_toList_iff.mp l;simp[Kt.refKey,b]
  have j:¬ c.toList.any (·.refKey)=Af:=by rw[a];exact AI
  rw[Aq j];exact congrArg U e
def tZ.look(I:tZ h x dx C mA):∃od,PySem.W.InstAt h x (CV C dx) C (U od)/\∀name,Fh name od=U (mA name):=let⟨od,ho,hl⟩:=AaZ I.ns
 #[od,#[I.obj,Y,Y,ho],hl]
section
variable{prog:Bn}{w:Bw}{A:BS}{E:Ai->Ax->Prop}{s:Ax}{K:Ab}{x dx C f:Ae}{mA:Ay->LX}{name:Ay}{v:Ai}
def get_map(X:K.In s.heap)(I:tZ s.heap x dx C mA)(hg:EN K C name=Af)(hh:FN K C=Af)(ha:BU K (.ref C) name=U none)(hv:mA name=U v)(hv':II v=Af)(h:Q v {s with toks:=s.toks+1}):AZ (A7 prog w) A (getAttr (.ref x) name expr) Q E s:=by
 let(b,j0,a):=I.look;exact PySem.W.get_value X j0 (Fs hg).1 (PySem.W.findObj_own hh ha Y<|by rw[a,hv]) hv' h
def Acz{pl:Ir Bool}(X:K.In s.heap)(I:tZ s.heap x dx C mA)(hg:EN K C name=Af)(hf:BU K (.ref C) name=U (U<|.ref f))(ht:FL K (.ref f)=Af)(hv:mA name=none)(h:Q (.ref f,[.ref x]) s):AZ (A7 prog w) A (getMethod (.ref x) name pl) Q E s:=by
 let(a,j0,b):=I.look;exact PySem.W.method_fn X j0 (Fs hg).1 (Fs hg).2 hf (Ek.mp ht) (by show(Fh name a).map _=U Am;rw[b,hv];rfl) h
def AgW(X:K.In s.heap)(I:tZ s.heap x dx C mA)(hs:BU K (.ref C) "__setattr__"=U (U<|.builtin "object.__setattr__"))(hp:Io K C=Af)(ht:Gf K C name=U none)(hh:FN K C=Af)(hw:FW mA ns)(hsz:ns.length<=sizeLine)(h:∀h',tZ h' x dx C (λy=>if y=name then U v else mA y)->De dx s.heap h'->Q () {s with heap:=h',toks:=s.toks+2}):AZ (A7 prog w) A (setAttr (.ref x) name v) Q E s:=by
 let(p,j0,q):=I.look;refine PySem.W.set_plain X j0 hs<|PySem.W.osa_open X j0 hp ht λb=>?_
 let(o,j,e):=PySem.W.any_some hh;have m:=I.obj;refine Ad<|wpAny_pure<|Ad<|Ad<|wpAny_loadPart m<|Ad<|PySem.W.Looks.here (PySem.W.looks_clsIn X j) ?_;rw[e];refine wpAny_pure<|Ad<|wpAny_pure<|Ad ?_;refine wpAny_nsSet1 I.ns λh' a c=>?_
 let(n,l,i,d,f,g):=a.count<|FW.cons name v hw;refine Ad<|Kj d (by rw[f];exact Ko<|AL g (by rw[AM];omega)) ?_;exact wpAny_pure (h _ #[(c.2 _<|AF I.ne).trans I.obj,a,I.ne] c)
def Ac8(X:K.In s.heap)(hm:B7 K C=Af)(hi:BU K (.ref C) "__init__"=U (U<|.ref f))(hf:PySem.W.typeIn K (.ref f)=U (.type "function"))(h:Er (A7 prog w) (A.under<|.builtin "type.__call__" #[.ref C::vs,kw]) (.call (.ref f) #[.ref (s.heap.objs.size+1)::vs,kw]) (PySem.W.InitBack (s.heap.objs.size+1) R)
   {s with heap:=(s.heap.push Co).push (CV C s.heap.objs.size)}):
  Er (A7 prog w) A (.call (.ref C) #[vs,kw]) R s:=by
 let(c,g,d,t,b):=s;exact PySem.W.make_core (PySem.W.makes_of X hm) (PySem.W.looks_findIn X hi) (λa=>PySem.W.bind_fn X a hf) (.inl Y) h
end
def SS(f:Ay)(v:V):L5->L5
 |[]=>[(f,v)]
 |(g,x)::r=>if g=f then(g,v)::r else(g,x)::SS f v r
def Zm(f g:Ay)(v:V):∀fs:L5,(SS f v fs).lookup g=if g=f then U v else fs.lookup g
 | []=>by
   show DL g [(f,v)]=_;by_cases h:g=f
   ·have a:(g==f)=Af:=Ek.mpr h;simp only[DL,a,Az h]
   ·have a:(g==f)=Am:=Cn.mpr h;simp only[DL,a,Aq h]
 | (k,x)::r=>by
   have c:=Zm f g v r;rw[show SS f v ((k,x)::r)=(if k=f then(k,v)::r else(k,x)::SS f v r)from Y];by_cases b:k=f
   ·rw[Az b];by_cases h:g=k
    ·have a:(g==k)=Af:=Ek.mpr h;simp only[DL,a,Az<|h.trans b]
    ·have a:(g==k)=Am:=Cn.mpr h;simp only[DL,a,Aq λe:g=f=>h<|e.trans b.symm]
   ·rw[Aq b];by_cases h:g=k
    ·have a:(g==k)=Af:=Ek.mpr h;simp only[DL,a,Aq λe:g=f=>b<|h.symm.trans e]
    ·have a:(g==k)=Am:=Cn.mpr h;simp only[DL,a];exact c
def YO(f:Ay)(v:V):∀fs:L5,f∈(SS f v fs).map (·.1)/\∀g,g∈fs.map (·.1)->g∈(SS f v fs).map (·.1)
 |[]=>#[by simp[SS],λg h=>by simp at h]
 | (k,x)::r=>by
   let(b,c):=YO f v r;rw[show SS f v ((k,x)::r)=(if k=f then(k,v)::r else(k,x)::SS f v r)from Y];by_cases a:k=f
   ·rw[Az a];subst a;exact#[Nu,λg h=>by simpa using h]
   ·rw[Aq a];refine#[?_,λg h=>?_]
    ·rw[Au];exact AD _ b
    ·rw[Au]at h ⊢;rcases AB.mp h with e|e
     ·exact AB.mpr<|.inl e
     ·exact AD _ (c g e)
def Zl(f:Ay)(v:V):∀fs:L5,(SS f v fs).length<=fs.length+1
 |[]=>by simp[SS]
 | (k,x)::r=>by
   have b:=Zl f v r;rw[show SS f v ((k,x)::r)=(if k=f then(k,v)::r else(k,x)::SS f v r)from Y];by_cases a:k=f
   ·rw[Az a,AM,AM];omega
   ·rw[Aq a,AM,AM];omega
def UJ.some_of(r:UJ (U v) o):∃u,o=U u/\RelV v u:=by
 cases o with
 |none=>exact((r)).elim
 |some u=>exact#[u,Y,r]
def UJ.none_of(r:UJ none o):o=none:=by
 cases o with
 |none=>rfl
 |some u=>exact((r)).elim
def AaK(r:RelV v u):II u=Af:=by
 cases v with
 |OH=>cases((r));rfl
 |bl b=>cases((r));rfl
 |int i=>let(t,e):=((r));cases e;rfl
 |str x=>let(t,e):=((r));cases e;rfl
 |AbR b=>let(t,e):=((r));cases e;rfl
 |AiB b=>let(t,e):=((r));cases e;rfl
 |ref a=>cases((r));rfl
 |ty n=>cases((r));rfl
section
variable{P:Bn}{w:Bw}{H:Hp}{h:BM}{a C dx:Ae}{fs:L5}
def aR(Oj:V7 P w H h)(e:H a=U (.ins C dx fs)):∃mA,tZ h a dx C mA/\(∀f,UJ (fs.lookup f)<|mA f)/\FW mA (fs.map (·.1))/\fs.length<=1000/\H dx=U (.own a):=by let(d,z,c,b,mA,n,r,q):=(show OC P w H h a _ from Oj a _ e);exact#[mA,#[b,n,c],r,q,z,d]
end
structure Xj(K:Ab)(C:Ae):Prop where
 pg:EN K C Ay.empty=Af
 hd:FN K C=Af
 po:Io K C=Af
 sa:BU K (.ref C) "__setattr__"=U (U<|.builtin "object.__setattr__")
def Xj.get{K:Ab}(c:Xj K C)(f:Ay):EN K C f=Af:=c.pg
def Qe(K:Ab)(C:Ae)(f:Ay):Prop:=BU K (.ref C) f=U none
def Qe.AmU{K:Ab}(n:Qe K C f):Gf K C f=U none:=by unfold Gf;rw[show BU K _ f=U none from n];rfl
structure Meth(K:Ab)(C:Ae)(m:Ay)(f:Ae):Prop where
 at_:BU K (.ref C) m=U (U<|.ref f)
 fn:FL K (.ref f)=Af
 kp:BA K (.ref f)=Af
section
variable{X:Cx}{q4:LN}{J:St}{H:Hp}{s:Ax}{a C dx:Ae}{fs:L5}{f:Ay}{v:V}{A:BS}{E:Ai->Ax->Prop}
def uS(I:Inv X q4 J H s)(e:H a=U (.ins C dx fs))(c:Xj X.K C)(n:Qe X.K C f)(l:fs.lookup f=U v)(h:∀u s',Inv X q4 J H s'->RelV v u->Q u s'):AZ (A7 X.prog X.w) A (getAttr (.ref a) f b) Q E s:=by let(i,O,r,_,_,_):=aR I.Oj e;let(u,g,d):=UJ.some_of (by rw[<-l];exact r f);exact get_map I.U2 O (c.get f) c.hd n g (AaK d) (h u _ (I.tok _) d)
def WO{pl:Ir Bool}(I:Inv X q4 J H s)(e:H a=U (.ins C dx fs))(c:Xj X.K C)(k:Meth X.K C m g)(l:fs.lookup m=none)(h:Q (.ref g,[.ref a]) s):AZ (A7 X.prog X.w) A (getMethod (.ref a) m pl) Q E s:=by let(d,O,r,_,_,_):=aR I.Oj e;have b:=UJ.none_of (by rw[<-l];exact r m);exact Acz I.U2 O (c.get m) k.at_ k.fn b h
def wJ(I:Inv X q4 J H s)(e:H a=U (.ins C dx fs))(c:Xj X.K C)(n:Qe X.K C f)(hl:fs.length<1000)(ry:RelV y u)(h:∀s',Inv X q4 J (upd H a<|.ins C dx<|SS f y fs) s'->Q () s'):AZ (A7 X.prog X.w) A (setAttr (.ref a) f u) Q E s:=by
 let(D,O,r,i,_,j):=aR I.Oj e;have p:(fs.map (·.1)).length<=sizeLine:=by rw[Ac,Bf];omega
 refine AgW I.U2 O c.sa c.po n.AmU c.hd i p λm d v=>h _ ?_
 have l:∃o,m.get? dx=U o:=let#[o,_,_,e',_]:=d.ns;#[o,e'];refine I.write (by rw[e];exact Bk) (.inr j) (λb q x z=>(v.2 b x).trans z) l ?_;refine#[by rw[NX O.ne];exact j,?_,O.ne,d.obj,_,d.ns,λg=>?_,λg B=>?_]
 ·have:=Zl f y fs;omega
 ·rw[Zm];by_cases q:g=f
  ·rw[Az q,Az q];exact ry
  ·rw[Aq q,Aq q];exact r g
 ·by_cases q:g=f
  ·rw[q];exact(YO f y fs).1
  ·refine(YO f y fs).2 g (i g λz=>B ?_);show(if g=f then U u else D g)=none;rw[Aq q];exact z
def Inv.made(I:Inv X q4 J H s):Inv X q4 J (upd (upd H s.heap.objs.size<|.own<|s.heap.objs.size+1) (s.heap.objs.size+1)<|.ins C s.heap.objs.size [])
  {s with heap:=(s.heap.push Co).push (CV C s.heap.objs.size)}:=by
 have c:(s.heap.push Co).get? s.heap.objs.size=U Co:=AR s.heap Y;have j:((s.heap.push Co).push (CV C s.heap.objs.size)).get? (s.heap.objs.size+1)=U (CV C s.heap.objs.size):=by have:=AR (s.heap.push Co) (o:=CV C s.heap.objs.size) Y;rwa[GV]at this
 have f:(s.heap.push Co).Ns s.heap.objs.size (λ_=>none):=#[Co,#[],_,c,Y,(λe g=>absurd g Nu),λ_=>rfl];have i:=I.laid (a:=s.heap.objs.size) (o:=.own<|s.heap.objs.size+1) (h':=s.heap.push Co) (t':=s.toks) (λb u q=>Aj _ q) (Ap _) #[_,c];refine i.laid (a:=s.heap.objs.size+1) (o:=.ins C s.heap.objs.size []) (t':=s.toks) (λb u q=>Aj _ q) (Fl<|GV _ _) ?_;have d:s.heap.objs.size≠s.heap.objs.size+1:=A9<|C9 _;refine#[by rw[NX d,N1],Bo _,d,j,λ_=>none,(HY f).at λo q=>Aj _ q,λ_=>Bk,λy h=>absurd Y h]
def Ae7(hb:CA e f env (eval e env)=eval e env)(h:AZ (A7 prog w) A (eval e env) (λo s₁=>AZ (A7 prog w) A (getAttr o f Af) Q E s₁) E s):AZ (A7 prog w) A (eval (.Attribute e f pos) env) Q E s:=Attribute_any_ h (by rw[arm_eval_Attribute,hb])
end
def AlO(K:Ab)(f:Ay)(Q:VK):VK:=λx H1=>∃a C dx fs v,x=.ref a/\H1 a=U (.ins C dx fs)/\Xj K C/\Qe K C f/\fs.lookup f=U v/\Q v H1
abbrev AmL(K:Ab)(ta:TE)(f:Ay):TE:=λJ H Q=>ta J H (AlO K f Q)
def AoN(K:Ab)(f:Ay)(y:V)(D:Ends)(J:St):VK:=λx H2=>∃a C dx fs,x=.ref a/\H2 a=U (.ins C dx fs)/\Xj K C/\Qe K C f/\fs.length<1000/\D.nx J (upd H2 a<|.ins C dx<|SS f y fs)
abbrev AoR(K:Ab)(ta:TE)(f:Ay)(D:Ends)(J:St):VK:=λy H=>ta J H (AoN K f y D J)
abbrev Aph(K:Ab)(ta tv:TE)(f:Ay):TS:=λD J H=>tv J H (AoR K ta f D J)
section
variable{X:Cx}{o e value:Expr}{f:Ay}{pos pos':CQ}{ta tv:TE}
def AdB(he:PE X e ta)(hb:CA e f X.env (eval e X.env)=eval e X.env:=by rfl){K₀:Ab}{N4:Hp}[hK:Ol X K₀ N4]:PE X (.Attribute e f pos) (AmL K₀ ta f):=by
 let(rfl,rfl):=hK;intro b s J H Q I h;refine Ae7 hb<|O2 (he b s J H _ I h) λu w⟨x,g,p,o,a,C,y,fs,v,d,m,c,n,l,q⟩=>?_
 subst d;obtain rfl:u=Bu a:=o;exact uS p m c n l λz r i j=>#[v,g,i,j,q]
def AjE(ha:PE X o ta)(hv:PE X value tv)(hs:swapsWith value (U<|.Attribute o f pos') pos.line X.env=pure Am){K₀:Ab}{N4:Hp}[hK:Ol X K₀ N4]:PS X (.Assign [.Attribute o f pos'] value pos) (Aph K₀ ta tv f):=by let(rfl,rfl):=hK;intro b s J H D I h;refine GR (O2 (hv b s J H _ I h) λu m⟨y,g,w,v,q⟩=>O2 (ha b m J g _ w q) λr E⟨x,A,i,p,a,C,F,fs,d,j,c,n,l,z⟩=>?_) hs;subst d;obtain rfl:r=Bu a:=p;exact wJ i j c n l v λB e=>#[J,_,e,z]
end
section
variable{X:Cx}{q4:LN}{J:St}{H:Hp}{s:Ax}{A:BS}{E:Ai->Ax->Prop}{Q:Ai->Ax->Prop}{c:Ai}{b:Bool}
inductive Xl(K:Ab)(H:Hp):V->Ai->Prop where
 |OH:Xl K H .OH (.type "NoneType")
 |bl (x:Bool):Xl K H (.bl x) (.type "bool")
 |int (i:Int):Xl K H (.int i) (.type "int")
 |str (x:Ay):Xl K H (.str x) (.type "str")
 |AiB (x:UInt64):Xl K H (.AiB x) (.type "float")
 |lst {a:Ae} {xs:LM} (e:H a=U (.lst xs)):Xl K H (.ref a) (.type "list")
 |Ry {a:Ae} {o:Cy} {xs:LM} (e:H a=U (.Ry o<|.lst xs)):Xl K H (.ref a) (.type "list")
 |tup {a:Ae} {xs:LM} (e:H a=U (.tup xs)):Xl K H (.ref a) (.type "tuple")
 |dK {a:Ae} {v5:LP} (e:H a=U (.dK v5)):Xl K H (.ref a) (.type "dict")
 |dT {a:Ae} {v5:Mr} (e:H a=U (.dT v5)):Xl K H (.ref a) (.type "dict")
 | ins {a C dx:Ae} {fs:L5} (e:H a=U (.ins C dx fs)) (cl:Xj K C) (ha:BU K (.ref C) "__class__"=U (U<|.builtin "object.__class__"))
   (hn:PySem.W.specialIn K (.builtin "object.__class__") "__get__"=U (U<|.builtin "getset_descriptor.__get__")) (htk:PySem.W.takesIn K (.builtin "object.__class__")=U Af)
   (hm:PySem.W.mroIn K C (.type "object")=U Af):Xl K H (.ref a) (.ref C)
def AaQ{t:Ai}(I:Inv X q4 J H s)(rx:RelV x u)(ty:Xl X.K H x t)(e:Gn X.K t c=U b)(h:∀tk,Q (.bool b) {s with toks:=tk}):
  AZ (A7 X.prog X.w) A (call (.builtin "isinstance") [u,c]) Q E s:=by
 cases ty with
 |OH=>cases(show u=CP from rx);exact Cg PySem.W.kitx_none I.U2 Bk e (λz=>nomatch z) h
 |bl y=>cases(show u=GK y from rx);exact Cg PySem.W.kitx_bool I.U2 Bk e (λz=>nomatch z) h
 |int i=>let(t,q):=(show∃t,u=Hc i t from rx);cases q;exact Cg PySem.W.kitx_int I.U2 Bk e (λz=>nomatch z) h
 |str y=>let(t,q):=(show∃t,u=Fy y t from rx);cases q;exact Cg PySem.W.kitx_str I.U2 Bk e (λz=>nomatch z) h
 |AiB y=>let(t,q):=(show∃t,u=Kf y t from rx);cases q;exact Cg PySem.W.kitx_float I.U2 Bk e (λz=>nomatch z) h
 |@lst a f ea=>cases(show u=Bu a from rx);let(_,_,n,_,d):=(show OC X.prog X.w H s.heap a (.lst f)from I.Oj a _ ea);exact Cg Ip I.U2 #[_,d,Y] e (λz=>nomatch z) h
 |@Ry a ob f ea=>cases(show u=Bu a from rx);let(_,_,_,n,_,d):=(show OC X.prog X.w H s.heap a (.Ry ob<|.lst f)from I.Oj a _ ea);exact Cg Ip I.U2 #[_,d,Y] e (λz=>nomatch z) h
 |@tup a f ea=>cases(show u=Bu a from rx);let(_,_,_,p):=(show OC X.prog X.w H s.heap a (.tup f)from I.Oj a _ ea);let(o,d,g,_):=p;exact Cg PySem.W.kitx_tuple I.U2 #[o,d,g] e (λz=>nomatch z) h
 |@dK a v5 ea=>cases(show u=Bu a from rx);let(_,_,m,_,p):=(show OC X.prog X.w H s.heap a (.dK v5)from I.Oj a _ ea);let(o,l,j,d,g,_):=p;exact Cg Iq I.U2 #[o,d,g.1] e (λz=>nomatch z) h
 |@dT a v5 ea=>cases(show u=Bu a from rx);let(_,_,f,_,o,l,j,d,g,_):=(show OC X.prog X.w H s.heap a (.dT v5)from I.Oj a _ ea);exact Cg Iq I.U2 #[o,d,g.1] e (λz=>nomatch z) h
 |@ins a C dx fs ea cl ha hn htk hm=>cases(show u=Bu a from rx);let(v,O,_):=aR I.Oj ea;let(r,j0,_):=O.look;exact Cg (PySem.W.kitx_own (cl.get _) cl.hd ha hn htk hm) I.U2 j0 e (λz=>nomatch z) h
end
structure Oo(k:Nat)(A:BS):Prop where
 hd:A.handled=none
 dp:A.depth+3*k+5<CZ
 un:A.units+16*k+200<CU
def Oo.mono{k:Nat}(r:Oo k A)(h:j<=k):Oo j A:=#[r.hd,by have:=r.dp;omega,by have:=r.un;omega]
def Oo.deeper{k:Nat}(r:Oo (k+1) A)(env:G8):Oo k (A.deeper env):=#[r.hd,by have:=r.dp;show A.depth+1+3*k+5<_;omega,by have:=r.un;show A.units+3+16*k+200<_;omega]
def vF{A:BS}{kw:Mj}:(A.under<|.builtin "type.__call__" #[.ref C::us,kw]).depth=A.depth+1:=by
 first|rfl|simp[Hl,Code.weight,Code.isCreation,Code.isGuard,Code.isCaller,Kv,HE,guardIds]
def vG{A:BS}{kw:Mj}:(A.under<|.builtin "type.__call__" #[.ref C::us,kw]).units=A.units+1:=by
 first|rfl|simp[Hl,Code.cUnits,Kv,HE]
def Oo.make{k:Nat}(r:Oo (k+1) A)(C:Ae)(us:LQ)(kw:Mj):Oo k (A.under<|.builtin "type.__call__" #[.ref C::us,kw]):=#[r.hd,by have:=r.dp;rw[vF];omega,by have:=r.un;rw[vG];omega]
def Oo.depth{k:Nat}(r:Oo k A):A.depth<CZ:=by have:=r.dp;omega
def Oo.units{k:Nat}(r:Oo k A):A.units+64<CU:=by have:=r.un;omega
abbrev tL:TA:=λ_ H Q=>Q [] H
abbrev AqC(x:V)(Q:LM->Hp->Prop):LM->Hp->Prop:=λxs H=>Q (x::xs) H
abbrev AqB(tr:TA)(J:St)(Q:LM->Hp->Prop):VK:=λx H=>tr J H (AqC x Q)
abbrev Ah6(ta:TE)(tr:TA):TA:=λJ H Q=>ta J H (AqB tr J Q)
section
variable{X:Cx}{e:Expr}{es:L1}{te:TE}{t:TA}{pos:CQ}
def Om:PA X [] tL:=λ_ _ _ _ H Q I h=>EI #[[],H,I,.nil,h]
def N7(ha:PE X e te)(hr:PA X es t)(hs:AG (e::es) X.env=(Am,eval e X.env)::AG es X.env:=by rfl):PA X (e::es) (Ah6 te t):=by
 intro b a s J H Q I h;rw[hs];refine Dc<|O2 (ha a s J H _ I h) λu m⟨x,f,n,i,j⟩=>?_
 exact O2 (hr b a m J f _ n j) λp q⟨l,d,g,c,o⟩=>#[x::l,d,g,.cons i c,o]
def AoS(Q:VK):LM->Hp->Prop:=λxs H=>xs.length<=sizeLine/\∀p,H p=none->Q (.ref p) (upd H p<|.tup xs)
abbrev Apu(t:TA):TE:=λJ H Q=>t J H (AoS Q)
def AoF(Q:VK):LM->Hp->Prop:=λxs H=>xs.length<=sizeLine/\∀p,H p=none->Q (.ref p) (upd H p<|.lst xs)
abbrev Apo(t:TA):TE:=λJ H Q=>t J H (AoF Q)
def AdJ{x1}(h:PA X es t):PE X (.Tuple es x1 pos) (Apu t):=by
 intro a s J H Q I g;refine wpAny_Tuple_spliced<|O2 (h pos a s J H _ I g) λf l⟨j,i,c,r,z,q⟩=>#[by rw[<-r.length];exact z,?_]
 have d:=c.Oj.fresh<|Ap _;refine#[.ref _,upd i _ _,c.laid (λb u e=>Aj _ e) (Ap _) ?_,Y,q _ d];exact#[z,f,r,#[_,AR _ Y,Y,_,Y]]
def vR(h:PA X es t):PE X (.List es pos) (Apo t):=by
 intro a s J H Q I g;refine wpAny_List_spliced<|O2 (h pos a s J H _ I g) λf l⟨j,i,c,r,z,q⟩=>#[by rw[<-r.length];exact z,?_]
 have d:=c.Oj.fresh<|Ap _;refine#[.ref _,upd i _ _,c.laid (λb u e=>Aj _ e) (Ap _) ?_,Y,q _ d];exact#[z,f,0,r,AR _ Y]
end
abbrev Sp:=LM->Hp->VK->XK->Prop
abbrev AeY:=Mc->Hp->Ax->XK->Ai->Ax->Prop
structure gH(P:Bn)(w:Bw)(K:Ab)(mg:Ay->LX)(base:BM)(A:BS)(outer:Mc)(s:Ax)(H:Hp):Prop where
 frames:A.frames=U outer
 mod:Mod K mg base
 bs:∀b o,base.get? b=U o->s.heap.get? b=U o/\H b=none
 Aap:base.objs.size<=s.heap.objs.size
 WN:s.heap.FunFrames base outer
 AeS:∀b∈bY outer,H b=none
 Oj:V7 P w H s.heap
 bare:ES s.gens
def CE(outer:Mc)(P:Bn)(w:Bw)(H:Hp)(s:Ax)(Q:VK)(u:Ai)(s':Ax):Prop:=∃v H',s'.os=s.os/\ES s'.gens/\Un (bY outer) [] H H' s.heap s'.heap/\V7 P w H' s'.heap/\RelV v u/\Q v H'
def CR(CX:AeY)(outer:Mc)(P:Bn)(w:Bw)(H:Hp)(s:Ax)(Q:VK)(E:XK)(r:Result)(s':Ax):Prop:=
 match r with
 |.ok (.ret u)=>CE outer P w H s Q u s'
 |.ok _=>False
 |.error e=>CX outer H s E e s'
structure Sl(P:Bn)(w:Bw)(K:Ab)(mg:Ay->LX)(base:BM)(CX:AeY)(k:Nat)(f:Ae)(fd:Cz)(ps:LK)(sp:Sp):Prop where
 len:∀vs H Q E,sp vs H Q E->vs.length=ps.length
 run:∀(A:BS)(outer:Mc)(s:Ax)(H:Hp)(args:Args)(us:LQ)(vs:LM)(Q:VK)(E:XK),Oo k A->gH P w K mg base A outer s H->HF s fd args (ps.zip us)->Vals vs us->sp vs H Q E ->
  Er (A7 P w) A (.call (.ref f) args) (CR CX outer P w H s Q E) s
def Sl.imp{K:Ab}{base:BM}{k:Nat}(F:Sl P w K mg base CX k f fd ps sp)(h:∀vs H Q E,sp' vs H Q E->sp vs H Q E):Sl P w K mg base CX k f fd ps sp':=#[λvs H Q E q=>F.len vs H Q E<|h _ _ _ _ q,λA a s H b c vs Q E g d i e j=>F.run A a s H b c vs Q E g d i e<|h _ _ _ _ j]
def gH.make{K:Ab}{base:BM}(e:gH P w K mg base A outer s H)(C:Ae)(us:LQ)(kw:Mj):gH P w K mg base (A.under<|.builtin "type.__call__" #[.ref C::us,kw]) outer s H:=#[by first|exact e.frames|(simpa[Hl,Code.envs,HE,pushEnvs]using e.frames),e.mod,e.bs,e.Aap,e.WN,e.AeS,e.Oj,e.bare]
def gH.in1{K:Ab}{base:BM}(e:gH P w K mg base A outer s H):gH P w K mg base A.in1 outer s H:=#[e.frames,e.mod,e.bs,e.Aap,e.WN,e.AeS,e.Oj,e.bare]
section
variable{X:Cx}{q4:LN}{J:St}{H:Hp}{s s':Ax}
def Inv.AaH(I:Inv X q4 J H s):gH X.prog X.w X.K X.mg X.base X.A X.stack s H:=#[I.ok.frames,I.ok.mod,I.bs,AL I.ok.Aap I.sz,I.stack,I.bB,I.Oj,I.bare]
def Inv.after(I:Inv X q4 J H s)(h:CE X.stack X.prog X.w H s Q u s'):EP X q4 J Q u s':=by let(v,j,f,a,un,e,r,q):=h;let(i,g,d,t,c):=s';obtain rfl:c=s.os:=f;exact#[v,j,I.call (h':=i) (g':=g) (d':=d) (t':=t) (ch:=[]) un e a (λb z=>absurd z Nu),r,q]
end
abbrev AqE(sp:Sp)(dvs:LM)(Q:VK)(E:XK):LM->Hp->Prop:=λvs H=>sp (vs++dvs) H Q E
abbrev zO(sp:Sp)(dvs:LM)(E:XK)(t:TA):TE:=λJ H Q=>t J H (AqE sp dvs Q E)
abbrev ApO(sp:Sp)(dvs:LM)(x:V)(Q:VK)(E:XK):LM->Hp->Prop:=λvs H=>sp (x::(vs++dvs)) H Q E
def AhI(C:Ae)(m:Ay)(sp:Sp)(dvs:LM)(t:TA)(J:St)(Q:VK)(E:XK):VK:=λx H1=>∃a dx fs,x=.ref a/\H1 a=U (.ins C dx fs)/\fs.lookup m=none/\t J H1 (ApO sp dvs x Q E)
abbrev fK(C:Ae)(m:Ay)(sp:Sp)(dvs:LM)(E:XK)(ta:TE)(t:TA):TE:=λJ H Q=>ta J H (AhI C m sp dvs t J Q E)
abbrev AoI(x:Ae)(Q:VK):VK:=λv H=>v=.OH/\Q (.ref x) H
def ApP(C:Ae)(sp:Sp)(dvs:LM)(Q:VK)(E:XK):LM->Hp->Prop:=λvs H1=>∀x dx,H1 x=none->H1 dx=none->dx≠x->sp (.ref x::(vs++dvs)) (upd (upd H1 dx<|.own x) x<|.ins C dx []) (AoI x Q) E
abbrev tK(C:Ae)(sp:Sp)(dvs:LM)(E:XK)(t:TA):TE:=λJ H Q=>t J H (ApP C sp dvs Q E)
def Binds(K:Ab)(fd:Cz)(ps:LK)(ds:LQ):Prop:=∀(s:Ax)(us:LQ),K.In s.heap->(us++ds).length=ps.length->HF s fd #[us,[]] (ps.zip<|us++ds)
def Binds.all{K:Ab}(h:∀us:LQ,us.length=ps.length->Cf fd #[us,[]]=pure (ps.zip us)):Binds K fd ps []:=λs us _ a=>by
 rw[Br]at a ⊢;exact .of_eq (h us a)
def Passes(CX:AeY)(X:Cx)(E:XK):Prop:=∀(q4:LN)(J:St)(H:Hp)(s:Ax)(e:Ai)(s':Ax),Inv X q4 J H s->CX X.stack H s E e s'->X.xe e s'
section
variable{X:Cx}{CX:AeY}{k:Nat}{f C:Ae}{fd:Cz}{ps:LK}{sp:Sp}{dvs:LM}{ds:LQ}{E:XK}{x m:Ay}{p pos v7:CQ}{e o:Expr}{es:L1}{ta:TE}{t:TA}
def vZ(F:Sl X.prog X.w X.K X.mg X.base CX k f fd ps sp)(hr:Oo k X.A)(hb:Binds X.K fd ps ds)(hd:Vals dvs ds)(hx:Passes CX X E)(I:Inv X q4 J H s)(r:Vals vs us)(h:sp (vs++dvs) H Q E):AZ (A7 X.prog X.w) X.A (call (.ref f) us) (EP X q4 J Q) X.xe s:=by
 have b:Vals (vs++dvs) (us++ds):=r.append hd;have c:(us++ds).length=ps.length:=by rw[<-b.length];exact F.len _ _ _ _ h
 refine Em<|EM (F.run X.A X.stack s H #[us,[]] (us++ds) (vs++dvs) Q E hr I.AaH (hb s us I.U2 c) b h) λr d a=>?_
 cases r with
 |error e=>exact hx q4 J H s e d I a
 |ok fl=>
   cases fl with
   |ret u=>exact I.after a
   |next=>exact B4 a
   |brk=>exact B4 a
   |cont=>exact B4 a
def Agd(F:Sl X.prog X.w X.K X.mg X.base CX k f fd ps sp)(hr:Oo k X.A)(hg:Gl X x)(hm:X.mg x=U (.ref f))(hk:BA X.K (.ref f)=Af)(hb:Binds X.K fd ps ds)(hd:Vals dvs ds)(hx:Passes CX X E)(ha:PA X (e::es) t)(hdb:(x==("__debug__":Ay))=Am:=by decide)(he:AG (e::es) X.env=(Am,eval e X.env)::AG es X.env:=by rfl)(hpl:(BP pos<|AG es X.env).any (·.1)=Am:=by rfl):PE X (.Call (.Name x p) (e::es) [] pos) (zO sp dvs E t):=by
 intro a s J H Q I h;refine CW<|VO I hg hm ?_ hdb;refine Eo I.ok.mod.AkG hk (O2 (ha pos a s J H _ I h) λc i⟨d,g,b,r,q⟩=>#[b.U2,?_]) he hpl;exact vZ F hr hb hd hx b r q
def Agi{pl:Ir Bool}(he:PE X o ta)(c:Xj X.K C)(hm:Meth X.K C m f)(F:Sl X.prog X.w X.K X.mg X.base CX k f fd ps sp)(hr:Oo k X.A)(hb:Binds X.K fd ps ds)(hd:Vals dvs ds)(hx:Passes CX X E)(ha:PA X (e::es) t)(hst:AG (e::es) X.env=(Am,eval e X.env)::AG es X.env:=by rfl)(hpl:(BP pos<|AG es X.env).any (·.1)=Am:=by rfl)(ht:eval (.Call (.Attribute o m v7) (e::es) [] pos) X.env=(do
   let ov <-eval o X.env
   standAt v7.atName
   let(f,first) <-holding [ov] (getMethod ov m pl)
   Ex pos f first (BP pos<|AG (e::es) X.env) (Df pos<|Cp [] X.env)):=by rfl):
  PE X (.Call (.Attribute o m v7) (e::es) [] pos) (fK C m sp dvs E ta t):=by
 intro b s J H Q I h;refine E9 (pl:=pl) (O2 (he b s J H _ I h) λu p⟨x,j,g,v,a,D,fs,i,n,l,q⟩=>?_) ht;subst i;obtain rfl:u=Bu a:=v;refine WO g n c hm l ?_;refine Eo (first:=[.ref a]) (h₀:=X.base) I.ok.mod.AkG hm.kp (O2 (ha pos b p J j _ g q) λus B⟨vs,z,d,r,y⟩=>#[d.U2,?_]) hst hpl;exact vZ (us:=.ref a::us) (vs:=.ref a::vs) F hr hb hd hx d (.cons Y r) y
def AdF{pl:Ir Bool}(he:PE X o ta)(c:Xj X.K C)(hm:Meth X.K C m f)(F:Sl X.prog X.w X.K X.mg X.base CX k f fd ps sp)(hr:Oo k X.A)(hb:Binds X.K fd ps ds)(hd:Vals dvs ds)(hx:Passes CX X E)(ht:eval (.Call (.Attribute o m v7) [] [] pos) X.env=(do
   let ov <-eval o X.env
   standAt v7.atName
   let(f,first) <-holding [ov] (getMethod ov m pl)
   Ex pos f first (BP pos<|AG [] X.env) (Df pos<|Cp [] X.env)):=by rfl):
  PE X (.Call (.Attribute o m v7) [] [] pos) (fK C m sp dvs E ta tL):=by
 intro b s J H Q I h;refine E9 (pl:=pl) (O2 (he b s J H _ I h) λu n⟨x,j,d,i,a,p,fs,e,g,l,q⟩=>?_) ht;subst e;obtain rfl:u=Bu a:=i;refine WO d g c hm l ?_;exact HC (first:=[.ref a]) d.U2 hm.kp (vZ (us:=[.ref a]) (vs:=[.ref a]) F hr hb hd hx d (.cons Y .nil) q)
structure Mk(K:Ab)(C f:Ae):Prop where
 makes:B7 K C=Af
 init:BU K (.ref C) "__init__"=U (U<|.ref f)
 fn:FL K (.ref f)=Af
 kp:BA K (.ref C)=Af
def sL(M:Mk X.K C f)(F:Sl X.prog X.w X.K X.mg X.base CX k f fd ps sp)(hr:Oo (k+1) X.A)(hb:Binds X.K fd ps ds)(hd:Vals dvs ds)(hx:Passes CX X E)(I:Inv X q4 J H s)(r:Vals vs us)(h:∀x dx,H x=none->H dx=none->dx≠x->sp (.ref x::(vs++dvs)) (upd (upd H dx<|.own x) x<|.ins C dx []) (λv H2=>v=.OH/\Q (.ref x) H2) E):
  AZ (A7 X.prog X.w) X.A (call (.ref C) us) (EP X q4 J Q) X.xe s:=by
 have d:=h _ _ (I.Oj.fresh<|Gw _) (I.Oj.fresh<|Ap _)<|A9<|C9 _;have b:=Inv.made (C:=C) I;have c:Vals (V.ref (s.heap.objs.size+1)::(vs++dvs)) _:=.cons Y<|r.append hd;have l:(Bu (s.heap.objs.size+1)::us++ds).length=ps.length:=by have e:=c.length;rw[F.len _ _ _ _ d]at e;exact e.symm
 refine Em (Ac8 I.U2 M.makes M.init (Ek.mp M.fn) (EM (F.run _ _ _ _ _ _ _ _ E (hr.make C us [])
  (b.AaH.make C us []) (hb _ _ b.U2 l) c d) λr i a=>?_))
 cases r with
 |error e=>exact hx q4 J _ _ e i b a
 |ok fl=>
   cases fl with
   |ret u=>let(v,m,j,o,g,n):=b.after a;subst g;exact#[o,#[V.ref _,m,j,Y,n]]
   |next=>exact B4 a
   |brk=>exact B4 a
   |cont=>exact B4 a
def Agh(M:Mk X.K C f)(F:Sl X.prog X.w X.K X.mg X.base CX k f fd ps sp)(hr:Oo (k+1) X.A)(hg:Gl X x)(hm:X.mg x=U (.ref C))(hb:Binds X.K fd ps ds)(hd:Vals dvs ds)(hx:Passes CX X E)(ha:PA X (e::es) t)(hdb:(x==("__debug__":Ay))=Am:=by decide)(he:AG (e::es) X.env=(Am,eval e X.env)::AG es X.env:=by rfl)(hpl:(BP pos<|AG es X.env).any (·.1)=Am:=by rfl):PE X (.Call (.Name x p) (e::es) [] pos) (tK C sp dvs E t):=by
 intro a s J H Q I h;refine CW<|VO I hg hm ?_ hdb;refine Eo I.ok.mod.AkG M.kp (O2 (ha pos a s J H _ I h) λc i⟨d,g,b,r,q⟩=>#[b.U2,?_]) he hpl;exact sL M F hr hb hd hx b r q
def AdE(M:Mk X.K C f)(F:Sl X.prog X.w X.K X.mg X.base CX k f fd ps sp)(hr:Oo (k+1) X.A)(hg:Gl X x)(hm:X.mg x=U (.ref C))(hb:Binds X.K fd ps ds)(hd:Vals dvs ds)(hx:Passes CX X E)(hdb:(x==("__debug__":Ay))=Am:=by decide):PE X (.Call (.Name x p) [] [] pos) (tK C sp dvs E tL):=by intro a s J H Q I h;refine CW<|VO I hg hm ?_ hdb;exact HC I.U2 M.kp (sL M F hr hb hd hx I .nil h)
end
def PK(X:Cx)(kws:Mv)(t:TA):Prop:=∀(pos:CQ)(q4:LN)(s:Ax)(J:St)(H:Hp)(Q:LM->Hp->Prop),Inv X q4 J H s->t J H Q->AZ (A7 X.prog X.w) X.A (evalAll ((Df pos<|Cp kws X.env).map (·.2))) (AP X q4 J Q) X.xe s
section
variable{X:Cx}{x:Ay}{pos kpos:CQ}{e:Expr}{kws:Mv}{te:TE}{t:TA}{nm:Mt}
def AdQ:PK X [] tL:=λ_ _ _ _ H Q I h=>wpAny_evalAll_nil #[[],H,I,.nil,h]
def yT(ha:PE X e te)(hr:PK X kws t):PK X (#[nm,e,kpos]::kws) (Ah6 te t):=by
 intro b a s J H Q I h;refine wpAny_evalAll_cons<|Ad<|O2 (ha a s J H _ I h) λu m⟨x,f,n,i,j⟩=>Ad<|DU<|wpAny_pure ?_
 exact O2 (hr b a m J f _ n j) λp q⟨l,d,g,c,o⟩=>#[x::l,d,g,.cons i c,o]
end
structure O3(N P:LK)(sc:Scope):Prop where
 kind:sc.kind=.function
 co:sc.isCoroutine=Am
 gen:sc.isGenerator=Am
 nd:N.Nodup
 pre:N.take P.length=P
 par:∀x∈P,sc.names.lookup x=U .local\/sc.names.lookup x=U .cell
 Ajg:∀y∈sc.names,y.2≠.free
def jI{kindOf:Ay->MI}:∀{binds:Mj}{m:Ay->LX},(∀v,(x,v)∉binds)->IV kindOf binds m x=m x
 |[],_,_=>rfl
 | (n,v)::r,m,h=>by
   unfold IV;rw[jI λw a=>h w<|AD _ a];split
   ·have:x≠n:=by rintro rfl;exact h v AW
    simp[this]
   ·rfl
def jG{kindOf:Ay->MI}:∀{binds:Mj}{m:Ay->LX},(∀v,(x,v)∉binds)->IW kindOf binds m x=m x
 |[],_,_=>rfl
 | (n,v)::r,m,h=>by
   unfold IW;rw[jG λw a=>h w<|AD _ a];split
   ·rfl
   ·have:x≠n:=by rintro rfl;exact h v AW
    simp[this]
def jH{kindOf:Ay->MI}:∀{P:LK}{vs:LQ}{i:Nat}{m:Ay->LX},P.Nodup->P[i]?=U x->vs[i]?=U v->kindOf x=U .local ->
  IV kindOf (P.zip vs) m x=U v
 |[],_,_,_,_,h,_,_=>by simp at h
 |_::_,[],_,_,_,_,h,_=>by simp at h
 | p::P,w::vs,0,m,nd,h1,h2,hk=>by
   simp at h1 h2;subst h1;subst h2;show IV kindOf ((p,w)::P.zip vs) m p=_;unfold IV;rw[jI λv a=>(Bb.mp nd).1 (Fn a).1,Az hk];simp
 | p::P,w::vs,i+1,m,nd,h1,h2,hk=>by
   show IV kindOf ((p,w)::P.zip vs) m x=_;unfold IV;exact jH (i:=i) (Bb.mp nd).2 (by simpa using h1) (by simpa using h2) hk
def jF{kindOf:Ay->MI}:∀{P:LK}{vs:LQ}{i:Nat}{m:Ay->LX},P.Nodup->P[i]?=U x->vs[i]?=U v->kindOf x≠U .local ->
  IW kindOf (P.zip vs) m x=U v
 |[],_,_,_,_,h,_,_=>by simp at h
 |_::_,[],_,_,_,_,h,_=>by simp at h
 | p::P,w::vs,0,m,nd,h1,h2,hk=>by
   simp at h1 h2;subst h1;subst h2;show IW kindOf ((p,w)::P.zip vs) m p=_;unfold IW;rw[jG λv a=>(Bb.mp nd).1 (Fn a).1,Aq hk];simp
 | p::P,w::vs,i+1,m,nd,h1,h2,hk=>by
   show IW kindOf ((p,w)::P.zip vs) m x=_;unfold IW;exact jF (i:=i) (Bb.mp nd).2 (by simpa using h1) (by simpa using h2) hk
def start(N:LK)(vs:LM):St:=vs.map U++EB (N.length-vs.length) none
def UK(CX:AeY)(P:Bn)(w:Bw)(K:Ab)(mg:Ay->LX)(base:BM)(N:LK)(qual:Ay)(scope:Scope)(f:Ae)(cd:Ai)(A:BS)(outer:Mc)(s:Ax)(H:Hp)(E:XK):Cx where
 prog:=P
 w:=w
 K:=K
 mg:=mg
 base:=base
 A:=A.deeper (DF qual scope s.heap.objs.size f cd)
 N:=N
 Qy:=s
 N4:=H
 env:=DF qual scope s.heap.objs.size f cd
 outer:=outer
 stack:=DF qual scope s.heap.objs.size f cd::outer
 ex:=[]
 calm:=Af
 fn:=λ_=>Af
 pn:=[]
 xe:=λe s'=>AZ (A7 P w) (A.deeper<|DF qual scope s.heap.objs.size f cd) (leaving (DF qual scope s.heap.objs.size f cd) e) (λ_ s''=>CX outer H s E e s'') (λe' s''=>CX outer H s E e' s'') s'
def pT{sc:Scope}{n:Nat}(h:sc.names.lookup x=U .cell):∃c,(Kr n sc.names []).lookup x=U c:=by have q:=G4 _ n []<|.inl h;exact DD.mp q
def AaP{CX:AeY}{P:Bn}{w:Bw}{K:Ab}{mg:Ay->LX}{base:BM}{scope:Scope}{A:BS}{outer:Mc}{s s1:Ax}{H:Hp}{E:XK}(S:O3 N ps scope)(hd:A.handled=none)(e0:gH P w K mg base A outer s H)(hl:vs.length=ps.length)(r:Vals vs us)(x:InCallC s s.heap.objs.size (IV (DF qual scope s.heap.objs.size f cd).kindOf (ps.zip us) λ_=>none) (Kr (s.heap.objs.size+1) scope.names []) (IW (DF qual scope s.heap.objs.size f cd).kindOf (ps.zip us) λ_=>none) s1):
  Inv (UK CX P w K mg base N qual scope f cd A outer s H E) [] (start N vs) H s1:=by
 have F:ps.length<=N.length:=by have:=congrArg Dt S.pre;rw[Bm]at this;omega
 let(n,I,rfl,B):=x.done;have g:∀b:Ae,b∉(UK CX P w K mg base N qual scope f cd A outer s H E).ex:=λb z=>absurd (show b∈([])from z) Nu
 refine#[#[e0.mod,S.kind,Y,Y,Ap _,λy z c n d=>?_,λy l=>?_,λy c _ h=>?_,λ_=>hd,HG e0.frames,.inr #[Y,Y],λb z=>absurd z<|g b,e0.bs,e0.Aap,λb _ _=>g b,λb z=>absurd z<|g b,e0.WN,e0.AeS],
  rfl,e0.bare,Un.kept B,#[_,x.toInCall.ns,λi y v n d j0=>?_],λy c h=>#[_,x.cell y c h],e0.Oj.fresh<|Ap _,λy c h=>?_,λp j=>absurd (show p∈([]:List _)from j) Nu,e0.Oj.kept B,?_]
 ·exact name_of_addr x.apart (DB n)<|DB d
 ·rcases l with l|l
  ·exact pT l
  ·exact absurd Y<|S.Ajg _<|DB l
 ·exact Dh<|x.above y c<|DB h
 ·have o:i<vs.length:=by
   unfold start at d;by_cases o:i<vs.length
   ·exact o
   ·rw[BC<|by simpa using o]at d;rw[List.getElem?_replicate]at d;split at d<;>cases d
  have D:vs[i]?=U v:=by
   unfold start at d;rw[Ct (by simpa using o),Ag]at d;cases e:vs[i]? with
   |none=>rw[e]at d;cases d
   |some a=>rw[e]at d;cases d;rfl
  let(u,C,G):=r.get D;have j:ps[i]?=U y:=by rw[<-S.pre,Hq Nr];exact n
  have m:ps.Nodup:=by rw[<-S.pre];exact S.nd.sublist<|Ji _ _
  refine#[u,G,?_];rcases S.par y (Av j)with k|k
  ·exact .inl #[k,jH m j C k]
  ·let(c,e):=pT k;refine .inr #[.inl k,c,e,?_];have q:=x.cell y c e;rw[jF m j C (by show scope.names.lookup y≠_;rw[k];decide)]at q;exact q
 ·exact e0.Oj.fresh<|Dh<|x.above y c<|DB h
 ·unfold start;show _=N.length;rw[AN,Ac,List.length_replicate];omega
def Acu{K:Ab}{base:BM}{k:Nat}{kV:Ai}(lk:K.lookup f=U #[oc,od,.func<|Bs name qual params body scope dV kV doc pm an cdv ct,osl])(hcd:DK K cdv qual=Af)(S:O3 N ps scope)(len:∀vs H Q E,sp vs H Q E->vs.length=ps.length)(hbody:∀(A:BS)(outer:Mc)(s:Ax)(H:Hp)(vs:LM)(Q:VK)(E:XK),Oo k (A.deeper<|DF qual scope s.heap.objs.size f cdv)->sp vs H Q E ->
   ∃t,QB (UK CX P w K mg base N qual scope f cdv A outer s H E) body t/\t {nx:=λ_ H'=>Q .OH H',rt:=Q} (start N vs) H):
  Sl P w K mg base CX (k+1) f (Bs name qual params body scope dV kV doc pm an cdv ct) ps sp:=by
 refine#[len,λA outer s H z T vs Q E p d F r h=>?_];have M:=len _ _ _ _ h;have B:K.In s.heap:=d.mod.AkG.keeps λb o e=>(d.bs b o e).1
 have l:s.heap.NoLimit:=d.mod.nolimit.keeps λb o e=>(d.bs b o e).1
 have a:∀y∈ps.zip T,scope.names.lookup y.1=U .local\/(scope.names.lookup y.1=U .cell/\((Kr (s.heap.objs.size+1) scope.names []).lookup y.1).isSome=Af):=λ⟨n,v⟩O=>by
  rcases S.par n (Fn O).1 with q|q
  ·exact .inl q
  ·exact .inr #[q,G4 _ _ _<|.inl q]
 refine codeAny_call_function p.depth (B _ _ lk) Y S.co S.gen Y (PySem.W.codeRec_of B hcd)<|F _ _ _ _ ?_;refine wpAny_newFunctionEnv_cells S.kind a λL u9 C x=>?_
 subst u9;refine#[l.keeps x.toInCall.keep,codeAny_func ?_];let(t,D,G):=hbody A outer s H vs Q E (p.deeper _) h;have I:Inv (UK CX P w K mg base N qual scope f cdv A outer s H E) [] (start N vs) H C:=AaP S p.hd d M r x;refine BL (D [] C (start N vs) H _ I G) (λR j c=>?_) λe j c=>c
 have g:∀{i:St}{H':Hp}{v:V}{u:Ai},Inv (UK CX P w K mg base N qual scope f cdv A outer s H E) [] i H' j->RelV v u->Q v H'->CE outer P w H s Q u j:=
  λ{i H' v u}j0 m q=>#[v,H',j0.os,j0.bare,j0.base,j0.Oj,m,q]
 cases R with
 |ret u=>let(v,i,H',j0,m,q):=c;exact g j0 m q
 |next=>let(i,H',j0,q):=c;exact g (v:=V.OH) (u:=CP) j0 Y q
 |brk=>let(_,_,_,q):=c;exact B4 q
 |cont=>let(_,_,_,q):=c;exact B4 q
section
variable{X:Cx}{x:Ay}{p pos:CQ}{e:Expr}{es:L1}{t:TA}{id T:String}{r:LM->Hp->VK->Prop}
abbrev AqD(r:LM->Hp->VK->Prop)(Q:VK):LM->Hp->Prop:=λvs H=>r vs H Q
abbrev Apm(r:LM->Hp->VK->Prop)(t:TA):TE:=λJ H Q=>t J H (AqD r Q)
def Ph(hc:QA X (.builtin id) r)(hg:Gl X x)(hm:X.mg x=none)(hv:BG x=U (.builtin id))(ha:PA X (e::es) t)(hn:x≠"__name__":=by decide)(hdb:(x==("__debug__":Ay))=Am:=by decide)(he:AG (e::es) X.env=(Am,eval e X.env)::AG es X.env:=by rfl)(hpl:(BP pos<|AG es X.env).any (·.1)=Am:=by rfl):PE X (.Call (.Name x p) (e::es) [] pos) (Apm r t):=by intro a s J H Q I h;refine CW<|U3 I hg hm hv ?_ hn hdb;exact PyProof.Rows.callWith_builtin1 (O2 (ha pos a s J H _ I h) λb i⟨c,d,j,f,g⟩=>hc a i J d c b Q j f g) he hpl
def Y0(hc:QA X (.type T) r)(hg:Gl X x)(hm:X.mg x=none)(hv:BG x=U (.type T))(ha:PA X (e::es) t)(hn:x≠"__name__":=by decide)(hdb:(x==("__debug__":Ay))=Am:=by decide)(he:AG (e::es) X.env=(Am,eval e X.env)::AG es X.env:=by rfl)(hpl:(BP pos<|AG es X.env).any (·.1)=Am:=by rfl):PE X (.Call (.Name x p) (e::es) [] pos) (Apm r t):=by intro a s J H Q I h;refine CW<|U3 I hg hm hv ?_ hn hdb;exact C8 (O2 (ha pos a s J H _ I h) λb i⟨c,d,j,f,g⟩=>hc a i J d c b Q j f g) he hpl
end
end L2
namespace HT
open PySem PyProof.Rows
def lexLt:LS->LS->Bool
 |[],[]=>Am
 |[],_::_=>Af
 |_::_,[]=>Am
 |x::xs,y::ys=>if x=y then lexLt xs ys else decide (x<y)
def WY(x y:Int)(xs ys:LS):lexLt (x::xs) (y::ys)=if x=y then lexLt xs ys else decide (x<y):=rfl
def iA:lexLt [] []=Am:=rfl
def AcZ(y:Int)(ys:LS):lexLt [] (y::ys)=Af:=rfl
def AcY(x:Int)(xs:LS):lexLt (x::xs) []=Am:=rfl
def Acr(A:BS)(s:Ax)(a:Int)(t:Ks)(c:Int)(u:Ks):∃e,BV A s (.int a t) (.int c u) e/\(e=Af↔a=c):=#[(a==c),Hi a t c u,Nu]
def Ad8(A:BS)(s:Ax)(a:Int)(t:Ks)(c:Int)(u:Ks)(prog:Bn)(w:Bw)(E:Ai->Ax->Prop)(Q:Ai->Ax->Prop)(h:Q (.bool<|decide<|a<c) s):AZ (A7 prog w) A (Jt .Lt (.int a t)<|.int c u) Q E s:=(PyProof.Rows.lt_int h:AZ _ A _ Q E s)
section
open PySem.SeqAt
open PySem.AutoSeq1 (wpAny_loadPart')
open PySem.MeetsSeq PySem.MeetsSeq2 PySem.MeetsSeq3
def jC (l b:Addr) (items items2:Array Value) (n n2:Nat) (dd dd2:Option Addr) (sl sl2:Array (Option Value)) (ns ms:LS) (hi:IntsAre items.toList ns) (hj:IntsAre items2.toList ms):
  Meets (Builtin.«tuple.__lt__» #[[.ref l,.ref b],[]])
   (fun _ R s=>s.heap.get? l=some {cls:=.type "tuple",dict:=dd,data:=.seq items n,slots:=sl}/\s.heap.get? b=some {cls:=.type "tuple",dict:=dd2,data:=.seq items2 n2,slots:=sl2} /\
    R (.ok<|.ret<|.bool<|lexLt ns ms) s):=
 .of_wp fun p w A R s h=>by
  obtain ⟨H,g,d,F,G⟩:=s;obtain ⟨L,K,h⟩:=h;have S:=AutoSeq1.sub_tuple_tuple;have P:items.size=ns.length:=by rw[<-hi.length];simp
  have O:items2.size=ms.length:=by rw[<-hj.length];simp
  wp_walk using wpAny_loadPart' L,wpAny_loadPart' K,wpAny_forIn_list _ (fun rest b E=>b.1=none/\E=#[H,g,d,F,G]/\∃ (C D:List Value) (j i:LS),rest=C.zip D /\
   IntsAre C j/\IntsAre D i/\j.length+items2.size=i.length+items.size/\R (.ok<|.ret<|.bool<|lexLt j i) #[H,g,d,F,G]) _
  case turn=>
   rintro ⟨y,x⟩ rest b E ⟨B,rfl,C,D,j,i,z,v,m,f,r⟩;cases v with
   |nil=>cases z
   |cons a t hvi'=>
     cases m with
     |nil=>cases z
     |cons c u hwi'=>
       injection z with hyx hrest;injection hyx with hy hx;subst hy hx;rw[WY] at r;simp only [List.length_cons] at f;obtain ⟨e,M,o⟩:=Acr _ _ a t c u;refine wpAny_bind<|M p w _ _ ?_;cases e with
       |true=>
         rw[if_pos<|o.mp Y] at r
         wp_walk
         exact #[Y,Y,_,_,_,_,hrest,hvi',hwi',by omega,r]
       |false=>
         rw[if_neg (fun q=>absurd (o.mpr q) Bool.false_ne_true)] at r;have I:=Ad8 A.in1 #[H,g,d,F,G] a t c u p w
         wp_walk using I
         exact #[_,Y,by simpa using r]
  case fin=>
   rintro ⟨N,Q⟩ E ⟨B,rfl,C,D,j,i,z,v,m,f,r⟩;subst B;have j0:lexLt j i=decide (items.size < items2.size):=by
    cases v with
    |nil=>
      cases m with
      |nil=>exact (decide_eq_false<|by omega).symm
      |cons c u hw=>simp only [List.length_nil,List.length_cons] at f;exact (decide_eq_true<|by omega).symm
    |cons a t j0=>
      cases m with
      |nil=>simp only [List.length_nil,List.length_cons] at f;exact (decide_eq_false<|by omega).symm
      |cons c u hw=>cases z
   rw[j0] at r
   wp_walk
   exact #[_,Y,by simpa [Builtin.Tuple.tupleCompareSizes] using r]
  case h=>exact #[Y,Y,items.toList,items2.toList,ns,ms,Y,hi,hj,by omega,h]
end
section
variable{prog:Bn}{w:Bw}{A:BS}{E:Ai->Ax->Prop}{s:Ax}
def vE(hl:Jx s.heap l items)(hb:Jx s.heap b items2)(hi:CL items.toList ns)(hj:CL items2.toList ms)(hu:A.units<CU)(h:Q (.bool<|lexLt ns ms) s):AZ (A7 prog w) A (Bh .Lt (.ref l)<|.ref b) Q E s:=by
 let((q,v,j,p),m,u,n,o):=id hl;let((i,f,d,g),a,e,r,c):=id hb;subst u o e c;exact richCompare_meets_room (op:=.Lt) #[_,m,Y] #[_,a,Y] PySem.F.slot_tuple_lt PySem.F.entry_tuple_lt (PySem.F.args_tuple_lt_2 _ _) (jC l b items items2 n r v f p g ns ms hi hj)
  #[m,a,show GK _≠Ai.notImplemented/\Q _ s from#[(λx=>nomatch x),h]] hu
def Afa{t:Ae}(ht:Jx s.heap t vs.toArray)(hb:Jx s.heap b ws.toArray)(hv:vs≠[])(h1:ws=[]->Q (.ref t) s)(h2:ws≠[]->Q (.ref s.heap.objs.size) {s with heap:=s.heap.push {cls:=.type "tuple",data:=.seq (vs++ws).toArray}})(hsz:vs.length+ws.length<=sizeLine):AZ (A7 prog w) A (Cv .Add (.ref t)<|.ref b) Q E s:=by
 let((cls,r,data,o),i,q,n,l):=id ht;let((m,f,j,g),a,d,p,c):=id hb;simp only at q l d c;subst q l d c;have e:vs.toArray++ws.toArray=(vs++ws).toArray:=Nu;by_cases h:ws=[]
 ·exact GH #[_,i,Y] #[_,a,Y] G1 IG EZ ER (EF _ _)
   (tuple_addW1 t b vs.toArray ws.toArray n p r f o g (by simpa using hv)<|by simp[h]) #[i,a,h1 h]
 ·refine GH #[_,i,Y] #[_,a,Y] G1 IG EZ ER (EF _ _)
   (tuple_addW2 t b vs.toArray ws.toArray n p r f o g (by simpa using hv) (by simpa using h) (by rw[Aw,Aw];exact hsz)) #[i,a,?_]
  rw[e];exact h2 h
def Sn(n d:Nat):LW->Nat
 |none=>d
 |some v=>if v<0 then(v+(n:Int)).toNat else min v.toNat n
def Api(n d:Nat)(hd:d<=n)(o:LW):Sn n d o<=n:=by
 cases o with
 |none=>exact hd
 |some v=>
   show(if v<0 then(v+(n)).toNat else min _ n)<=n;by_cases a:v<0
   ·rw[Az a];omega
   ·rw[Aq a];exact Jy _ _
def xI(v:Int)(n d:Nat):(if v<0 then max (v+(n:Int)) 0 else min v (n:Int))=((Sn n d (U v):Nat):Int):=by
 show(if v<0 then max _ 0 else min v _)=(((if v<0 then(v+(n)).toNat else min _ n):Nat):Int);by_cases a:v<0
 ·simp only[Az a];omega
 ·simp only[Aq a];omega
def uB(lo hi:LW)(n:Nat):FU lo hi 1 (n:Int)=(((Sn n 0 lo:Nat):Int),((Sn n n hi:Nat):Int)):=by
 refine DZ ?_ ?_
 ·cases lo with
  |none=>rfl
  |some v=>exact xI v n 0
 ·cases hi with
  |none=>rfl
  |some v=>exact xI v n n
def vT(i j:Nat):Eb (i:Int) (j:Int) 1=j-i:=by unfold Eb;split<;>omega
def eR(p:G5 v o)(h:Q o s):AZ (A7 prog w) A (Dx.Slice.slicePartIndex v) Q E s:=by
 cases p with
 |none=>exact K1 h
 |int i t=>exact slicePart_int h
def Y7{lo:LW}{Q:Int×Int×Nat->Ax->Prop}(hs:s.heap.IsSliceOf sl vl vu .none)(pl:G5 vl lo)(pu:G5 vu hi)(h:Q (((Sn n 0 lo:Nat):Int),1,Sn n n hi-Sn n 0 lo) s):AZ (A7 prog w) A (Dx.Slice.sliceApplied (.ref sl)<|pure (n:Int)) Q E s:=by let(d,a,c,b):=id hs;refine Ad<|Ad<|Dj a b Y<|Ad<|Dj a b Y<|Ad<|Dj a b Y<|wpAny_pure ?_;refine Ad<|K1 ?_;refine Ad<|eR pl<|Ad<|eR pu<|Ad<|wpAny_pure ?_;show AZ _ _ (match FU lo hi 1 _ with|(lo,hi)=>pure (lo,(1:Int),Eb lo hi 1)) _ _ s;rw[uB lo hi n];show AZ _ _ (pure _) _ _ s;rw[vT];exact wpAny_pure h
def AdP(xs:Mb)(i k:Nat):((Ba k).filterMap λ(m:Nat)=>xs[((i:Int)+(m:Int)*1).toNat]?).toArray=((xs.toList.drop i).take k).toArray:=by
 have e:(λ(m:Nat)=>xs[((i:Int)+(m)*1).toNat]?)=λm=>xs[i+m]?:=by
  funext m
  have:((i:Int)+(m)*1).toNat=i+m:=Nr;rw[this]
 rw[e];have:=pick_run xs i k;rw[List.filterMap_map]at this;have a:((λx=>xs[x]?)∘λx=>i+x)=λm=>xs[i+m]?:=rfl
 rw[a]at this;rw[this]
def Xv{t:Ae}{lo:LW}(ht:Jx s.heap t items)(hs:s.heap.IsSliceOf sl vl vu .none)(pl:G5 vl lo)(pu:G5 vu hi)(hw:¬ (Sn items.size 0 lo=0/\Sn items.size items.size hi=items.size))(h:Q (.ref s.heap.objs.size) {s with heap:=s.heap.push {cls:=.type "tuple",data:=.seq ((items.toList.drop<|Sn items.size 0 lo).take (Sn items.size items.size hi-Sn items.size 0 lo)).toArray}})(hsz:items.size<=sizeLine):AZ (A7 prog w) A (F7 (.ref t)<|.ref sl) Q E s:=by
 have a:sizeOk (.seq ((items.toList.drop<|Sn items.size 0 lo).take (Sn items.size items.size hi-Sn items.size 0 lo)).toArray):=by show((items.toList.drop _).take _).toArray.size<=sizeLine;rw[Aw,Bm,E5,Bt];omega
 let(f,d,e,g):=id hs;have c:s.TypeIs (.ref sl) "slice":=#[f,d,e];unfold F7
 try with_reducible refine BH ?_
 refine Ad<|wpAny_sequenceKey ht.typeIs Nq ?_;refine Ad (wpAny_callSpecial?_slot ht.typeIs DH
  (El DH ht.typeIs entry_tuple_getitem ?_<|args_tuple_getitem _ _))
 show AZ _ _ (Dx.Tuple.tupleItemsOf _ >>= _) _ _ s;refine Ad<|tupleItemsOf_ ht ?_;refine Ad<|wpAny_typeOf c ?_;refine Ad<|Y7 hs pl pu ?_;have b:¬ ((((Sn items.size 0 lo):Int)==0&&(1:Int)==1&&(Sn items.size items.size hi-Sn items.size 0 lo)==items.size)=Af):=by intro q;rw[Be,Be]at q;have i:=eq_of_beq q.1.1;have j:=eq_of_beq q.2;exact hw #[Nr,Nr]
 show AZ _ _ (if(((Sn _ 0 lo:Nat):Int)==0&&(1)==1&&(Sn _ _ hi-Sn _ 0 lo)==items.size)=Af then _ else _) _ _ s;rw[Aq b,AdP]
 first
  |exact Ad<|J7 (wpAny_pure #[_,Y,wpAny_pure h]) a
  |exact Ad _
  |exact Ad _
  |exact Ad _
end
end HT
namespace L2
open PySem PySem.Spec PyProof.Rows
abbrev TO:=St->Hp->(LW->Hp->Prop)->Prop
def PO(X:Cx)(e:MD)(t:TO):Prop:=∀(q4:LN)(s:Ax)(J:St)(H:Hp)(Q:LW->Hp->Prop),Inv X q4 J H s->t J H Q ->
  AZ (A7 X.prog X.w) X.A (evalPart e X.env) (λu s'=>∃o H',Inv X q4 J H' s'/\G5 u o/\Q o H') X.xe s
abbrev Ag3:TO:=λ_ H Q=>Q none H
abbrev AlS(Q:LW->Hp->Prop):VK:=λx H=>ApU x λi=>Q (U i) H
abbrev AmR(t:TE):TO:=λJ H Q=>t J H (AlS Q)
def intsAre_of:∀{us:LQ},Vals (ns.map V.int) us->CL us ns:=by
 induction ns with
 |nil=>intro us r;cases r;exact .nil
 |cons n ns ih=>
   intro us r;cases r with
   |cons r1 r2=>let(t,e):=r1;subst e;exact .cons n t (ih r2)
section
variable{X:Cx}{e:Expr}{te:TE}{lo hi:MD}{tl th:TO}{pos p2:CQ}
def Agq:PO X none Ag3:=by intro a s J H Q I h;exact wpAny_pure #[none,H,I,.none,h]
def Agr(h:PE X e te):PO X (U e) (AmR te):=by
 intro a s J H Q I b;refine O2 (h a s J H _ I b) λu j⟨x,c,g,d,f⟩=>?_
 let(i,rfl,q):=Ai9 f;let(t,rfl):=d;exact#[U i,c,g,.int i t,q]
def Anh(X:Cx)(r:V->LW->LW->Hp->VK->Prop):Prop:=∀(q4:LN)(s:Ax)(J:St)(H:Hp)(x:V)(v vl vu:Ai)(lo hi:LW)(sl:Ae)(Q:VK),Inv X q4 J H s->RelV x v->s.heap.IsSliceOf sl vl vu .none->G5 vl lo->G5 vu hi->r x lo hi H Q ->
  ∃T id,typeLookup (.type T) "__getitem__"=pure (U<|.builtin id)/\s.TypeIs v T/\AZ (A7 X.prog X.w) X.A (F7 v<|.ref sl) (EP X q4 J Q) X.xe s
abbrev AoQ(r:V->LW->LW->Hp->VK->Prop)(x:V)(l:LW)(Q:VK):LW->Hp->Prop:=λu H=>r x l u H Q
abbrev AoP(r:V->LW->LW->Hp->VK->Prop)(th:TO)(x:V)(J:St)(Q:VK):LW->Hp->Prop:=λl H=>th J H (AoQ r x l Q)
abbrev AoO(r:V->LW->LW->Hp->VK->Prop)(tl th:TO)(J:St)(Q:VK):VK:=λx H=>tl J H (AoP r th x J Q)
abbrev Aq6(r:V->LW->LW->Hp->VK->Prop)(te:TE)(tl th:TO):TE:=λJ H Q=>te J H (AoO r tl th J Q)
def AdH(hr:Anh X r)(he:PE X e te)(hl:PO X lo tl)(hu:PO X hi th):PE X (.Subscript e (.Slice lo hi none p2) pos) (Aq6 r te tl th):=by
 intro a s J H Q I h;refine JN<|O2 (he a s J H _ I h) λv j0⟨x,E,o,i,B⟩=>?_
 refine wpAny_Slice<|O2 (hl a j0 J E _ o B) λf y⟨l,K,D,F,L⟩=>O2 (hu a y J K _ D L) λd c⟨u,g,p,G,C⟩=>?_
 rw[evalPart_none];refine wpAny_pure ?_;have j:Inv X a J g {c with heap:=c.heap.push {cls:=.type "slice",data:=.fields (zTo [f,d,.none])}}:=p.kept (t':=c.toks) λb M q=>Aj _ q
 let(T,id,z,m,n):=hr a {c with heap:=c.heap.push {cls:=.type "slice",data:=.fields (zTo [f,d,.none])}} J g x v f d l u c.heap.objs.size Q j i (BM.IsSliceOf.new ..) F G C;show AZ (A7 X.prog X.w) X.A (Le e (.Slice lo hi none p2) v<|.ref c.heap.objs.size) (EP X a J Q) X.xe {c with heap:=c.heap.push {cls:=.type "slice",data:=.fields (zTo [f,d,.none])}};exact tail_any (ops:=[.ref c.heap.objs.size,v]) m z n (by with_unfolding_all rfl)
def AaA(xs:LM)(lo hi:LW):LM:=(xs.drop<|HT.Sn xs.length 0 lo).take (HT.Sn xs.length xs.length hi-HT.Sn xs.length 0 lo)
def Zi(xs:LM)(lo hi:LW):(AaA xs lo hi).length<=xs.length:=by unfold AaA;rw[Bm,E5];omega
def Ape(K:Ab):V->LW->LW->Hp->VK->Prop:=λx lo hi H Q=>∃a xs,x=.ref a/\RE K H a xs /\
 ¬ (HT.Sn xs.length 0 lo=0/\HT.Sn xs.length xs.length hi=xs.length)/\∀p,H p=none->Q (.ref p) (upd H p<|.tup<|AaA xs lo hi)
def Aj5{K₀:Ab}{N4:Hp}[hK:Ol X K₀ N4]:Anh X (Ape K₀):=by
 let(rfl,rfl):=hK;intro g s J H x v B z l u y Q I o p m n h;let(a,e,rfl,w,j,q):=h;cases o;let(d,r,f,i):=I.tuple w;have c:d.toArray.size=e.length:=by exact r.length.symm
 refine#["tuple",_,DH.lookup,f.typeIs,?_];refine HT.Xv f p m n (by rw[c];exact j) ?_ (by rw[c];exact i);rw[c];refine#[.ref _,_,I.laid (λb A q=>Aj _ q) (Ap _) ?_,Y,q _<|I.Oj.fresh<|Ap _];exact#[AL (Zi e l u) i,_,(r.drop _).take _,KG _ _]
def Amv(K:Ab):R2:=λx y H Q=>∃a b xs ys,x=.ref a/\y=.ref b/\RE K H a xs/\RE K H b ys/\xs≠[]/\xs.length+ys.length<=sizeLine /\
 (ys=[]->Q (.ref a) H)/\(ys≠[]->∀p,H p=none->Q (.ref p) (upd H p<|.tup<|xs++ys))
def Vals.aU(r:Vals xs us):us=[]↔xs=[]:=by
 cases r with
 |nil=>simp
 |cons _ _=>simp
def Af7{K₀:Ab}{N4:Hp}[hK:Ol X K₀ N4]:TM X (Cv .Add) (Amv K₀):=by let(rfl,rfl):=hK;intro f s J H x y v u Q I p r h;let(a,b,E,C,rfl,rfl,j,o,B,g,n,A):=h;cases p;cases r;let(l,d,i,_):=I.tuple j;let(e,c,m,_):=I.tuple o;refine HT.Afa i m (λz=>B<|d.aU.mp z) (λz=>#[.ref a,H,I,Y,n<|c.aU.mp z]) (λz=>?_) (by rw[<-d.length,<-c.length];exact g);refine#[.ref _,_,I.laid (λb D q=>Aj _ q) (Ap _) ?_,Y,A (λw=>z<|c.aU.mpr w) _<|I.Oj.fresh<|Ap _];exact#[by rw[AN];exact g,_,d.append c,KG _ _]
end
def AbS(n:Nat)(i:Int):Option Nat:=if 0<=i then(if i<n then U i.toNat else none)else if -(n:Int)<=i then U (i+n).toNat else none
def fZ{α:Type}(xs:List α)(i:Int):Option α:=(AbS xs.length i).bind λj=>xs[j]?
def nA(h:AbS n i=U j):G0 i n=U j/\j<n/\-(n:Int)<=i/\i<n:=by
 unfold AbS at h;by_cases b:0<=i
 ·rw[Az b]at h;by_cases a:i<n
  ·rw[Az a]at h;have e:=AS h;exact#[by rw[Js b a,e],Nr,Nr,a]
  ·rw[Aq a]at h;cases h
 ·rw[Aq b]at h;by_cases a:-(n)<=i
  ·rw[Az a]at h;have e:=AS h;exact#[by rw[Je Nr a,e],Nr,a,Nr]
  ·rw[Aq a]at h;cases h
def lJ(h:fZ xs i=U v):∃j,G0 i xs.length=U j/\xs[j]?=U v/\j<xs.length/\-(xs.length:Int)<=i/\i<xs.length:=by
 unfold fZ at h;cases e:AbS _ i with
 |none=>rw[e]at h;cases h
 |some j=>rw[e]at h;let(a,b,d,c):=nA e;exact#[j,a,h,b,d,c]
def Pz{α:Type}{xs:List α}{j:Nat}{v:α}(h:xs[j]?=U v):fZ xs (j:Int)=U v:=by
 have a:=(Ah.mp h).1;have e:AbS xs.length (j)=U j:=by unfold AbS;rw[Az Nr,Az Nr];simp
 unfold fZ;rw[e];exact h
def xD(b:Expr):Prop:=∀o i,Ha b Am o i=operate [o,i] (F7 o i)
def AkU(X:Cx)(r:R2):Prop:=∀(value slice:Expr)(q4:LN)(s:Ax)(J:St)(H:Hp)(x y:V)(v u:Ai)(Q:VK),Inv X q4 J H s->RelV x v->RelV y u->r x y H Q ->
  Ha slice Am v u=operate [v,u] (F7 v u)->AZ (A7 X.prog X.w) X.A (Le value slice v u) (EP X q4 J Q) X.xe s
def AnG(X:Cx)(id:String)(r:V->LM->Hp->VK->Prop):Prop:=∀(q4:LN)(s:Ax)(J:St)(H:Hp)(x:V)(xs:LM)(v:Ai)(us:LQ)(Q:VK),Inv X q4 J H s->RelV x v->Vals xs us->r x xs H Q ->
  AZ (A7 X.prog X.w) X.A (call (.builtin id) (v::us)) (EP X q4 J Q) X.xe s
section
variable{X:Cx}{a b:Expr}{ta tb:TE}{pos:CQ}
def dM(hr:AkU X r)(ha:PE X a ta)(hb:PE X b tb)(hs:xD b:=by exactλ_ _=>rfl):PE X (.Subscript a b pos) (AkK r ta tb):=by intro c s J H Q I h;exact JN (Aie ha hb I h λv u e x y d f g i q=>hr a b c e J d x y v u Q f g i q<|hs _ _)
def Amx(K:Ab):R2:=λx y H Q=>∃p xs i v,x=.ref p/\y=.int i/\PX K H p xs/\fZ xs i=U v/\Q v H
def Amy(K:Ab):R2:=λx y H Q=>∃p xs i v,x=.ref p/\y=.int i/\RE K H p xs/\fZ xs i=U v/\Q v H
def Apc:R2:=λx y H Q=>∃z i c,x=.str z/\y=.int i/\z.length<=sizeLine/\fZ z.cps.toList i=U c/\Q (.str ⟨(zTo [c])⟩) H
def AfE{K₀:Ab}{N4:Hp}[hK:Ol X K₀ N4]:AkU X (Amx K₀):=by
 let(rfl,rfl):=hK;intro e d b s J H x y v u Q I G j0 h A;let(p,M,i,z,rfl,rfl,C,K,q):=h;cases G;let(t,rfl):=j0;let(g,r,l,L):=I.list C;let(j,c,B,N,D,E):=lJ K;let(w,o,f):=r.get B;have F:=r.length;have O:=YR;have a:EP X b J Q w s:=#[z,H,I,f,q];by_cases n:0<=i
 ·have m:i.toNat=j:=by
   rw[Js n E]at c;exact AS c
  exact item_listR l.isList n Nr (by rw[m];simpa using o) a A
 ·have m:(i+(g.toArray.size)).toNat=j:=by
   rw[Je Nr D]at c;rw[Aw,<-F];exact AS c
  exact Jg l.isList.typeIs Ka.lookup
   (wpAny_getItem_list_neg l.isList Nr (by rw[Aw]<;>omega) Nr (by rw[m];simpa using o) #[Y,a]) A
def vC{K₀:Ab}{N4:Hp}[hK:Ol X K₀ N4]:AkU X (Amy K₀):=by
 let(rfl,rfl):=hK;intro d b a s J H x y v u Q I B D h C;let(p,K,i,z,rfl,rfl,l,E,q):=h;cases B;let(t,rfl):=D;let(m,r,f,j0):=I.tuple l;let(j,n,g,L,F,G):=lJ E;let(w,o,e):=r.get g;have A:=r.length;have M:=YR;have c:EP X a J Q w s:=#[z,H,I,e,q];exact Jg f.typeIs slot_tuple_getitem.lookup
  (getItem_tuple f Nr Nr (by rw[Aw,<-A];exact n) (by simpa using o) #[Y,c]) C
def nB:AkU X Apc:=by
 intro b a e s J H x y v u Q I p w h r;let(z,i,c,rfl,rfl,E,g,q):=h;let(t,rfl):=p;let(B,rfl):=w;let(j,d,m,C,n,o):=lJ g;have l:z.cps.toList.length=z.length:=by simp[Ay.length]
 rw[l]at d n o;have D:=YR;exact tail_any (EX s z t) slot_str_getitem.lookup (getItem_str (by
  have f:decide (i < -(2 ^ 63))=Am:=Ar Nr;have A:decide (i≥2 ^ 63)=Am:=Ar Nr;rw[f,A,JT]) (by rw[d];simpa using m) #[.str ⟨(zTo [c])⟩,H,I.tok _,#[_,Y],q]) r
def vH(its:LQ)(n j:Nat)(u:Ai):BR (·.setIfInBounds j u) {cls:=.type "list",data:=.seq its.toArray n}={cls:=.type "list",data:=.seq (its.set j u).toArray n}:=by simp[BR]
def Inv.lst{q4:LN}{J:St}{H:Hp}{s:Ax}{p:Ae}{xs:LM}(I:Inv X q4 J H s)(h:H p=U (.lst xs)):∃(its:LQ)(n:Nat),Vals xs its/\s.heap.get? p=U {cls:=.type "list",data:=.seq its.toArray n}/\xs.length<=sizeLine:=by
 let(z,its,n,r,e):=I.Oj p _ h;exact#[its,n,r,e,z]
def Inv.Ai8{q4:LN}{J:St}{H:Hp}{s:Ax}{p:Ae}{xs ys:LM}{its its':LQ}{n n':Nat}{f:Cy->Cy}(I:Inv X q4 J H s)(h:H p=U (.lst xs))(ho:s.heap.get? p=U {cls:=.type "list",data:=.seq its.toArray n})(hf:f {cls:=.type "list",data:=.seq its.toArray n}={cls:=.type "list",data:=.seq its'.toArray n'})(r:Vals ys its')(hz:ys.length<=sizeLine)(t:Nat):Inv X q4 J (upd H p<|.lst ys) {s with heap:=s.heap.update p f,toks:=t}:=by
 have e:(s.heap.update p f).get? p=U {cls:=.type "list",data:=.seq its'.toArray n'}:=by rw[CT f ho (by rw[hf]<;>rfl),hf]
 refine I.write (x:=p) (e:=p) (by rw[h];trivial) (.inl Y) (λb u a q=>(Cq _ _<|AF a).trans q) #[_,e] ?_;exact#[hz,its',n',r,e]
def Amz:V->V->V->Hp->(Hp->Prop)->Prop:=λo i v H Q=>∃p xs k j,o=.ref p/\i=.int k/\H p=U (.lst xs)/\AbS xs.length k=U j/\Q (upd H p<|.lst<|xs.set j v)
def set_list:AkX X Amz:=by
 intro b s J H o i v F j0 u Q I y B z h;let(p,E,k,j,rfl,rfl,w,C,q):=h;cases y;let(t,rfl):=B;let(a,n,r,e,A):=I.lst w;let(c,D,x,l):=nA C;have f:=r.length;have G:=YR;have m:Inv X b J _ {s with heap:=s.heap.update p _}:=
  I.Ai8 w e (vH a n j u) (r.set z j) (by rw[Cs];exact A) _
 by_cases g:0<=k
 ·have d:k.toNat=j:=by
   rw[Js g l]at c;exact AS c
  exact PySem.W.ki_setAt e g Nr (by rw[Aw,<-f];exact l) (by rw[d];exact#[_,m,q])
 ·have d:(k+(a.toArray.size)).toNat=j:=by
   rw[Je Nr x]at c;rw[Aw,<-f];exact AS c
  exact PySem.W.ki_setBack e Nr (by rw[Aw,<-f];exact x) Nr (by rw[d];exact#[_,m,q])
def oO(lo hi:LW)(n:Nat):(Ew lo hi none n).1=((HT.Sn n 0 lo:Nat):Int)/\(Ew lo hi none n).2.1=((HT.Sn n n hi:Nat):Int)/\(Ew lo hi none n).2.2=1:=by
 refine#[?_,?_,Y]
 ·cases lo with
  |none=>simp[Ew,HT.Sn]
  |some i=>
    simp only[Ew,HT.Sn,IZ,show(1)>0 by decide,if_true];by_cases h:i<0
    ·simp only[h,if_true]<;>omega
    ·simp only[h,if_false]<;>omega
 ·cases hi with
  |none=>simp[Ew,HT.Sn]
  |some i=>
    simp only[Ew,HT.Sn,IZ,show(1)>0 by decide,if_true];by_cases h:i<0
    ·simp only[h,if_true]<;>omega
    ·simp only[h,if_false]<;>omega
def jA(its:LQ)(lo hi:LW):slicePick its.toArray lo hi none=((its.drop<|HT.Sn its.length 0 lo).take (HT.Sn its.length its.length hi-HT.Sn its.length 0 lo)).toArray:=by let(a,b,c):=oO lo hi _;unfold slicePick;rw[a,b,c];simp only[sliceRange_one,pick_run,Aw]<;>rfl
def Apd(K:Ab):V->LW->LW->Hp->VK->Prop:=λx lo hi H Q=>∃a xs,x=.ref a/\PX K H a xs/\∀p,H p=none->Q (.ref p) (upd H p<|.lst<|AaA xs lo hi)
def AgY{K₀:Ab}{N4:Hp}[hK:Ol X K₀ N4]:Anh X (Apd K₀):=by let(rfl,rfl):=hK;intro e s J H x v A y f o w Q I m n i l h;let(a,j,rfl,p,q):=h;cases m;let(g,r,d,u):=I.list p;have c:=r.length;refine#["list",_,Ka.lookup,d.isList.typeIs,?_];refine wpAny_getItem_list_slice d.isList n i l .none Nu ?_ (by rw[Aw]<;>omega);rw[jA,<-c];refine#[.ref _,_,I.laid (λb z q=>Aj _ q) (Ap _) ?_,Y,q _<|I.Oj.fresh<|Ap _];exact#[AL (Zi j f o) u,_,0,(r.drop _).take _,AR _ Y]
def Pr:V->Bool
 |.OH=>Af
 |.bl _=>Af
 |.int _=>Af
 |.str _=>Af
 |_=>Am
def pN:V->V->Bool
 |.OH,.OH=>Af
 |.bl a,.bl b=>a==b
 |.bl a,.int b=>(if a then 1 else 0)==b
 |.int a,.bl b=>a==(if b then 1 else 0)
 |.int a,.int b=>a==b
 |.str a,.str b=>a==b
 |_,_=>Am
def uP(ry:RelV y u)(rx:RelV x v)(fy:Pr y=Af)(fx:Pr x=Af):BV A s u v (pN y x):=by
 cases y with
 |OH=>
   cases ry;cases x with
   |OH=>cases rx;exact FQ _
   |bl b=>cases rx;exact BV.none_bool b
   |int b=>let(t,rfl):=rx;exact BV.none_int b t
   |str b=>let(t,rfl):=rx;exact BV.none_str b t
   |_=>exact absurd ((fx)) AI
 |bl a=>
   cases ry;cases x with
   |OH=>cases rx;exact BV.bool_none a
   |bl b=>cases rx;exact BV.bool_bool a b
   |int b=>let(t,rfl):=rx;exact BV.bool_int a b t
   |str b=>let(t,rfl):=rx;exact BV.bool_str a b t
   |_=>exact absurd ((fx)) AI
 |int a=>
   let(c,rfl):=ry;cases x with
   |OH=>cases rx;exact BV.int_none a c
   |bl b=>cases rx;exact BV.int_bool a c b
   |int b=>let(t,rfl):=rx;exact Hi a c b t
   |str b=>let(t,rfl):=rx;exact Hh a c b t
   |_=>exact absurd ((fx)) AI
 |str a=>
   let(c,rfl):=ry;cases x with
   |OH=>cases rx;exact BV.str_none a c
   |bl b=>cases rx;exact BV.str_bool a c b
   |int b=>let(t,rfl):=rx;exact He a c b t
   |str b=>let(t,rfl):=rx;exact BV.str_str a c b t
   |_=>exact absurd ((fx)) AI
 |_=>exact absurd ((fy)) AI
def Ahw(x:V)(u:Ai):Bool:=match u with
 |.none=>pN .OH x
 |.bool b=>pN (.bl b) x
 |.int i _=>pN (.int i) x
 |.str z _=>pN (.str z) x
 |_=>Am
def Acs(r:RelV y u)(f:Pr y=Af):Ahw x u=pN y x:=by
 cases y with
 |OH=>cases r;rfl
 |bl b=>cases r;rfl
 |int i=>let(t,rfl):=r;rfl
 |str z=>let(t,rfl):=r;rfl
 |_=>exact absurd ((f)) AI
def aK{x:V}{xs:LM}{us:LQ}(h:Vals xs us)(f:xs.all Pr=Af):us.any (Ahw x)=xs.any λy=>pN y x:=by
 induction h with
 |nil=>rfl
 |cons r t ih=>rw[CM,Be]at f;rw[C3,C3,Acs r f.1,ih f.2]
def U7(rx:RelV x v)(fx:Pr x=Af):∀{xs:LM}{us:LQ},Vals xs us->xs.all Pr=Af->∀u∈us,BV A s u v (Ahw x u)
 |_,_,.nil,_=>λu a=>by cases a
 | y::xs,u::us,.cons r t,f=>λb a=>by
   rw[CM,Be]at f;rcases AB.mp a with rfl|a
   ·rw[Acs r f.1];exact uP r rx f.1 fx
   ·exact U7 rx fx t f.2 b a
def AhC(x:V)(xs:LM):Bool:=xs.any λy=>pN y x
def Apb(K:Ab)(neg:Bool):R2:=λx y H Q=>∃p xs,y=.ref p/\(PX K H p xs\/RE K H p xs)/\Pr x=Af/\xs.all Pr=Af/\Q (.bl (if neg then !AhC x xs else AhC x xs)) H
def Aba{K₀:Ab}{N4:Hp}[hK:Ol X K₀ N4]:TM X (Bh .In) (Apb K₀ Am):=by
 let(rfl,rfl):=hK;intro f s J H x y v u Q I g i h;let(p,l,rfl,b,e,fs,q):=h;cases i;rcases b with b|b
 ·let(a,r,d,j):=I.list b;refine SeqAt.in_listAt _ d.isList (λw c=>U7 g e r fs w<|by simpa using c) #[.bl _,H,I,Y,?_];rw[show a.toArray.any _=a.any (Ahw x) by simp,aK r fs];exact q
 ·let(a,r,d,j):=I.tuple b;refine SeqAt.in_tupleAt _ d (λw c=>U7 g e r fs w<|by simpa using c) #[.bl _,H,I,Y,?_];rw[show a.toArray.any _=a.any (Ahw x) by simp,aK r fs];exact q
def nL{K₀:Ab}{N4:Hp}[hK:Ol X K₀ N4]:TM X (Bh .NotIn) (Apb K₀ Af):=by
 let(rfl,rfl):=hK;intro f s J H x y v u Q I g i h;let(p,l,rfl,b,e,fs,q):=h;cases i;rcases b with b|b
 ·let(a,r,d,j):=I.list b;refine SeqAt.notIn_listAt _ d.isList (λw c=>U7 g e r fs w<|by simpa using c) #[.bl _,H,I,Y,?_];rw[show a.toArray.any (Ahw x)=a.any (Ahw x) by simp,aK r fs];exact q
 ·let(a,r,d,j):=I.tuple b;refine SeqAt.notIn_tupleAt _ d (λw c=>U7 g e r fs w<|by simpa using c) #[.bl _,H,I,Y,?_];rw[show a.toArray.any _=a.any (Ahw x) by simp,aK r fs];exact q
def Abo(K₀:Ab):LM->Hp->VK->Prop:=λxs H Q=>∃p ys,xs=[.ref p]/\(PX K₀ H p ys\/RE K₀ H p ys)/\Q (.int ys.length) H
def Qv{K₀:Ab}{N4:Hp}[hK:Ol X K₀ N4]:QA X (.builtin "len") (Abo K₀):=by
 let(rfl,rfl):=hK;intro f s J H m j Q I r h;let(p,l,rfl,b,q):=h;let(u,rfl,g):=vals1 r;cases g;have n:=YR;rcases b with b|b
 ·let(d,c,e,i):=I.list b;have a:=c.length;exact Calls.call_len_list e.isList (by simp only[Aw]<;>omega) #[.int _,H,I.tok _,#[s.toks+1,by rw[Aw,a]],q]
 ·let(d,c,e,i):=I.tuple b;have a:=c.length;exact len_tuple e (by simp only[Aw]<;>omega) #[.int _,H,I.tok _,#[s.toks+1,by rw[Aw,a]],q]
def Abp:LM->Hp->VK->Prop:=λxs H Q=>∃z,xs=[.str z]/\z.length<=sizeLine/\Q (.int z.length) H
def lN:QA X (.builtin "len") Abp:=by intro a s J H c b Q I r h;let(z,rfl,e,q):=h;let(u,rfl,t,rfl):=vals1 r;have d:=YR;exact len_str Nr #[.int _,H,I.tok _,#[_,Y],q]
def Abq(K₀:Ab):LM->Hp->VK->Prop:=λxs H Q=>∃p ys,xs=[.ref p]/\(PX K₀ H p ys\/RE K₀ H p ys)/\∀l,H l=none->Q (.ref l) (upd H l<|.lst ys)
def lO{K₀:Ab}{N4:Hp}[hK:Ol X K₀ N4]:QA X (.type "list") (Abq K₀):=by
 let(rfl,rfl):=hK;intro j s J H E D Q I r h;let(p,z,rfl,i,q):=h;let(u,rfl,C):=vals1 r;cases C;have l:∀(a:LQ),Vals z a->z.length<=sizeLine->∀(c:BM)(f:Nat),(∀b o',s.heap.get? b=U o'->c.get? b=U o') ->
   c.get? _=U _->EP X j J Q _ {s with heap:=c}:=λa d v c f g e=>
  #[.ref _,_,I.laid g (Ap _) (show OC _ X.w _ c _ (.lst z)from#[v,a,f,d,e]),Y,q _<|I.Oj.fresh<|Ap _]
 rcases i with i|i
 ·let(a,d,A,v):=I.list i;have m:=d.length;let(o,y,B,n,x):=A.isList;exact K8 p (.inl Y) y B x (λc f g e=>l a d v c f g e) (by simp only[Aw]<;>omega)
 ·let(a,d,A,v):=I.tuple i;have m:=d.length;let(o,y,B,n,x):=A;exact K8 p (.inr Y) y B x (λc f g e=>l a d v c f g e) (by simp only[Aw]<;>omega)
def AmZ(K:Ab)(T:String)(x:V)(H:Hp):Prop:=match x with
 |.str _=>T="str"
 |.int _=>T="int"
 | .ref p=>(T="list"/\∃xs,PX K H p xs)\/(T="tuple"/\∃o,K.lookup p=U o/\o.cls=.type "tuple"/\o.dict=none) \/
   (T="dict"/\((∃v5,H p=U (.dK v5))\/∃v5,H p=U (.dT v5)))\/(T="set"/\∃S n,H p=U (.set S n))
 |_=>False
def AeC(I:Inv X q4 J H s)(r:RelV x v)(ty:AmZ X.K T x H):
  s.TypeIs v T/\∀a,v=.ref a->∃ob,s.heap.get? a=U ob/\ob.dict=none:=by
 cases x with
 |str z=>let(t,rfl):=r;cases((ty));exact#[EX s z t,λ_ e=>nomatch e]
 |int i=>let(t,rfl):=r;cases((ty));exact#[typeIs_int s i t,λ_ e=>nomatch e]
 |ref p=>
   cases r;rcases ty with⟨rfl,u,l⟩|⟨rfl,o,b,q,f⟩|⟨rfl,b⟩|⟨rfl,S,n,b⟩
   ·let(m,_,j,_):=I.list l;refine#[j.isList.typeIs,λa e=>?_];cases e;let(o,n,e,c,f,_):=j;exact#[o,e,f]
   ·refine#[#[o,I.U2 p o b,q],λa e=>?_];cases e;exact#[o,I.U2 _ o b,f]
   ·have z:∃o,s.heap.get? p=U o/\o.ExactDict:=by
     rcases b with⟨g,b⟩|⟨g,b⟩
     ·let(_,_,_,_,o,_,_,e,d,_):=I.Oj p _ b;exact#[o,e,d]
     ·let(_,_,_,_,o,_,_,e,d,_):=I.Oj p _ b;exact#[o,e,d]
    let(o,e,d):=z;refine#[#[o,e,d.1],λa h=>?_];cases h;exact#[o,e,d.2.1]
   ·let(o,_,_,_,e,d,_):=I.Oj p _ b;refine#[#[o,e,d.1],λa h=>?_];cases h;exact#[o,e,d.2.1]
 |_=>exact B4 ty
def Aos(K:Ab)(T:String)(r:V->LM->Hp->VK->Prop)(Q:VK):VK:=λx H1=>AmZ K T x H1/\r x [] H1 Q
abbrev Apl(K:Ab)(T:String)(r:V->LM->Hp->VK->Prop)(to:TE):TE:=λJ H Q=>to J H (Aos K T r Q)
abbrev AlJ(r:V->LM->Hp->VK->Prop)(x:V)(Q:VK):LM->Hp->Prop:=λxs H=>r x xs H Q
def ApK(K:Ab)(T:String)(r:V->LM->Hp->VK->Prop)(t:TA)(J:St)(Q:VK):VK:=λx H1=>AmZ K T x H1/\t J H1 (AlJ r x Q)
abbrev Aq2(K:Ab)(T:String)(r:V->LM->Hp->VK->Prop)(to:TE)(t:TA):TE:=λJ H Q=>to J H (ApK K T r t J Q)
variable{o e:Expr}{es:L1}{to:TE}{t:TA}{name:Ay}{v7 v8:CQ}{T id:String}{r:V->LM->Hp->VK->Prop}
def Aju(pa:HX T)(slot:Slot T name id)(hty:Jd (.builtin id)=pure (.type "method_descriptor"))(hm:AnG X id r)(ho:PE X o to)(hbase:CA o name X.env (eval o X.env)=eval o X.env:=by rfl)(hline:(v7.endLine==v8.line)=Af:=by rfl){K₀:Ab}{N4:Hp}[hK:Ol X K₀ N4]:PE X (.Call (.Attribute o name v7) [] [] v8) (Apl K₀ T r to):=by
 let(rfl,rfl):=hK;intro a s J H Q I h;refine IU hbase hline<|O2 (ho a s J H _ I h) λv i⟨x,d,c,b,j,f⟩=>?_
 let(g,e):=AeC c b j;exact#[T,id,pa,slot,hty,g,e,CI Y<|Il<|hm a i J d x [] v [] Q c b .nil f]
def Zo(pa:HX T)(slot:Slot T name id)(hty:Jd (.builtin id)=pure (.type "method_descriptor"))(hm:AnG X id r)(ho:PE X o to)(ha:PA X (e::es) t)(hbase:CA o name X.env (eval o X.env)=eval o X.env:=by rfl)(hfew:((BP v8<|AG (e::es) X.env).all (λx=>!x.1)&&(Df v8<|Cp [] X.env).all (λx=>x.1.isSome)
   && decide ((e::es).length+([]:Mv).length+(if([]:Mv).isEmpty then 0 else 1)<30))=Af:=by rfl)(hline:(v7.endLine==v8.line)=Af:=by rfl)(hs:AG (e::es) X.env=(Am,eval e X.env)::AG es X.env:=by rfl)(hplain:(BP v8<|AG es X.env).any (·.1)=Am:=by rfl){K₀:Ab}{N4:Hp}[hK:Ol X K₀ N4]:
  PE X (.Call (.Attribute o name v7) (e::es) [] v8) (Aq2 K₀ T r to t):=by
 let(rfl,rfl):=hK;intro a s J H Q I h;refine wpAny_Call_method_late hbase hfew hline Y<|O2 (ho a s J H _ I h) λv w⟨x,l,c,b,y,q⟩=>?_
 let(u,n):=AeC c b y;refine#[T,id,pa,slot,hty,u,n,?_];have d:=ha v8 a w J l _ c q;rw[hs]at d ⊢;refine CI (by show(Am||(BP v8 _).any _)=Am;rw[hplain]<;>rfl)<|Dp ?_;exact O2 d λi m⟨j,g,p,f,z⟩=>hm a m J g x j v i Q p b f z
end
def Ae0(X:Cx)(id:String)(r:V->LM->Hp->VK->Prop):Prop:=∀(q4:LN)(s:Ax)(J:St)(H:Hp)(x:V)(xs:LM)(v:Ai)(us:LQ)(Q:VK),Inv X q4 J H s->RelV x v->Vals xs us->r x xs H Q ->
  AZ (A7 X.prog X.w) X.A (call (.builtin id) (v::us)) (EP X q4 J Q) X.xe s
def Vals.one{x:V}{us:LQ}(h:Vals [x] us):∃u,us=[u]/\RelV x u:=by
 cases h with
 |cons r t=>cases t;exact#[_,Y,r]
def Vals.two{x y:V}{us:LQ}(h:Vals [x,y] us):∃u v,us=[u,v]/\RelV x u/\RelV y v:=by
 cases h with
 |cons r t=>let(v,rfl,q):=Vals.one t;exact#[_,v,Y,r,q]
def Vals.zero:∀{us:LQ},Vals [] us->us=[]
 |_,.nil=>rfl
def Vals.eraseIdx:∀{xs:LM}{us:LQ}(i:Nat),Vals xs us->Vals (xs.eraseIdx i) (us.eraseIdx i)
 |_,_,_,.nil=>.nil
 |_,_,0,.cons _ t=>t
 |_,_,i+1,.cons r t=>.cons r (Vals.eraseIdx i t)
def kH:∀(l:List α)(i:Nat),(l.eraseIdx i).length<=l.length
 |[],_=>Ap _
 |_::_,0=>Gw _
 |_::r,i+1=>CS (kH r i)
section
variable{X:Cx}{q4:LN}{J:St}{H:Hp}{s:Ax}{l:Ae}{xs ys:LM}
def Inv.Ai6{its its':LQ}{n:Nat}{f:Mb->Mb}{t':Nat}(I:Inv X q4 J H s)(hH:H l=U (.lst xs))(e:s.heap.get? l=U {cls:=.type "list",data:=.seq its.toArray n})(hf:f its.toArray=its'.toArray)(hv:Vals ys its')(hz:ys.length<=sizeLine):Inv X q4 J (upd H l<|.lst ys) {s with heap:=s.heap.update l<|BR f,toks:=t'}:=by
 have q:=PySem.IsL.update e f;rw[hf]at q;refine I.write (by rw[hH];exact trivial) (.inl Y) (λc u b a=>(Cq _ _<|AF b).trans a) #[_,q] ?_;exact#[hz,its',_,hv,q]
def Inv.Ai2(I:Inv X q4 J H s)(hv:Vals ys its)(hz:ys.length<=sizeLine):Inv X q4 J (upd H s.heap.objs.size<|.lst ys) {s with heap:=s.heap.push {cls:=.type "list",data:=.seq its.toArray},toks:=t'}:=I.laid (λ_ _ q=>Aj _ q) (Ap _) #[hz,its,0,hv,AR _ Y]
def Inv.fresh(I:Inv X q4 J H s):H s.heap.objs.size=none:=I.Oj.fresh (Ap _)
def Inv.Ai7(I:Inv X q4 J H s)(hH:H l=U (.lst xs)):xs.length<=sizeLine/\∃(its:LQ)(n:Nat),Vals xs its/\xs.length=its.length/\s.heap.get? l=U {cls:=.type "list",data:=.seq its.toArray n}:=by let(z,its,n,r,e):=I.Oj l _ hH;exact#[z,its,n,r,r.length,e]
end
section
variable{X:Cx}
def AgJ:V->LM->Hp->VK->Prop:=λx vs H Q=>∃l xs y,x=.ref l/\vs=[y]/\H l=U (.lst xs)/\xs.length<sizeLine/\Q .OH (upd H l<|.lst<|xs++[y])
def VT:Ae0 X "list.append" AgJ:=by intro b s J H x j v i Q I f g h;let(l,o,y,rfl,rfl,a,p,q):=h;cases f;let(u,rfl,d):=g.one;let(z,c,n,r,m,e):=I.Ai7 a;refine En F.slot_list_append #[_,e,Y] F.entry_list_append (F.args_list_append_2 _ _) (PySem.list_append l _ n u (by rw[Aw];omega)) #[e,?_];refine#[.OH,_,I.Ai6 a e Nu (r.append<|.cons d .nil) ?_,Y,q];rw[AN,BF];omega
def AjP:V->LM->Hp->VK->Prop:=λx vs H Q=>∃l xs i k y,x=.ref l/\vs=[.int i]/\H l=U (.lst xs)/\-(2 ^ 63)<=i/\i<2 ^ 63/\G0 i xs.length=U k/\xs[k]?=U y/\Q y (upd H l<|.lst<|xs.eraseIdx k)
def Adc:Ae0 X "list.pop" AjP:=by
 intro c s J H x G v E Q I C D h;let(l,B,i,k,y,rfl,rfl,b,A,m,f,o,q):=h;cases C;let(u,rfl,p):=D.one;let(t,rfl):=p;let(z,j,n,r,g,e):=I.Ai7 b;let(w,d,a):=r.get o;refine En F.slot_list_pop #[_,e,Y] F.entry_list_pop (F.args_list_pop_2 _ _)
  (MeetsSeq.list_pop_at l _ n i t k w (fitsIndex_both A m) (by rw[Aw,<-g];exact f) (by rw[<-Cu];exact d) (by rw[Aw];omega)) #[e,?_]
 refine#[y,_,I.Ai6 b e ?_ (r.eraseIdx k) ?_,a,q]
 ·rw[D5]
 ·have:=kH B k;omega
end
section
variable{κ:Type}[DecidableEq κ]
def PV(v5:List (κ×V))(k:κ):Mn:=(v5.find? λkv=>decide<|kv.1=k).map (·.2)
def putK(v5:List (κ×V))(k:κ)(v:V):List (κ×V):=if(v5.any λkv=>decide<|kv.1=k)=Af then v5.map (λkv=>if kv.1=k then(kv.1,v)else kv)else v5++[(k,v)]
def Tc(v5:List (κ×V))(k:κ):List (κ×V):=v5.filter λkv=>decide (kv.1≠k)
def TK{k:κ}(e:p.1=k):PV (p::r) k=U p.2:=by simp[PV,Bc,e]
def Si{k:κ}(e:¬ p.1=k):PV (p::r) k=PV r k:=by simp[PV,Bc,e]
def tP(k:κ):∀v5:List (κ×V),(v5.any λkv=>decide<|kv.1=k)=(PV v5 k).isSome
 |[]=>rfl
 | p::r=>by
   rw[C3];by_cases e:p.1=k
   ·simp only[TK e,Ao e,Ki,Option.isSome_some]
   ·rw[Si e,Ar e,Bool.false_or];exact tP k r
def U4(v5:List (κ×V))(k:κ)(v:V):(putK v5 k v).length<=v5.length+1:=by
 unfold putK;split
 ·rw[Ac];omega
 ·rw[AN,AM,CG];omega
def UJ.Tf(r:UJ o u):o.isSome=u.isSome:=by
 cases o with
 | none=>cases u with
   |none=>rfl
   |some _=>exact((r)).elim
 | some _=>cases u with
   |none=>exact((r)).elim
   |some _=>rfl
def UJ.getD(r:UJ o u)(rd:RelV d d'):RelV (o.getD d) (u.getD d'):=by
 cases o with
 | none=>cases u with
   |none=>exact rd
   |some _=>exact((r)).elim
 | some _=>cases u with
   |none=>exact((r)).elim
   |some _=>exact r
def KV.val(r:KV v5 vs)(k:κ):UJ (PV v5 k) (DJ vs k):=by
 unfold KV at r;induction r with
 |nil=>exact Bk
 |@cons p q ps qs h t ih=>
   let(c,d):=h;by_cases e:p.1=k
   ·have a:q.1=k:=c.symm.trans e;have b:DJ (q::qs) k=U q.2:=by simp[DJ,Bc,a]
    rw[TK e,b];exact d
   ·have a:¬ q.1=k:=λz=>e (c.trans z)
    have b:DJ (q::qs) k=DJ qs k:=by simp[DJ,Bc,a]
    rw[Si e,b];exact ih
def KV.any(r:KV v5 vs)(k:κ):(v5.any λkv=>decide<|kv.1=k)=vs.any λkv=>decide (kv.1=k):=by
 induction r with
 |nil=>rfl
 |cons h t a=>rw[C3,C3,a,h.1]
def KV.AjV(r:KV v5 vs)(k:κ)(ry:RelV y u):
  KV (v5.map λkv=>if kv.1=k then(kv.1,y)else kv) (vs.map λkv=>if kv.1=k then(kv.1,u)else kv):=by
 induction r with
 |nil=>exact .nil
 |@cons p q ps qs h t ih=>
   rw[Au,Au];refine .cons ?_ ih;let(a,b):=h;by_cases e:p.1=k
   ·rw[Az e,Az<|a.symm.trans e];exact#[a,ry]
   ·rw[Aq e,Aq λz=>e<|a.trans z];exact#[a,b]
def KV.put(r:KV v5 vs)(k:κ)(ry:RelV y u):KV (putK v5 k y) (stored vs k u):=by
 unfold putK stored;rw[r.any k];by_cases e:(vs.any λa=>decide<|a.1=k)=Af
 ·rw[Az e,Az e];exact r.AjV k ry
 ·rw[Aq e,Aq e];exact JM r #[Y,ry]
def KV.drop(r:KV v5 vs)(k:κ):KV (Tc v5 k) (without vs k):=by
 unfold Tc without;induction r with
 |nil=>exact .nil
 |@cons p q ps qs h t ih=>
   let(c,d):=h;rw[Dz,Dz];by_cases e:p.1=k
   ·have a:¬ decide (p.1≠k)=Af:=by simp[e]
    have b:¬ decide (q.1≠k)=Af:=by simp[c.symm.trans e]
    rw[Aq a,Aq b];exact ih
   ·have f:¬ q.1=k:=λz=>e (c.trans z)
    have a:decide (p.1≠k)=Af:=by simp[e]
    have b:decide (q.1≠k)=Af:=by simp[f]
    rw[Az a,Az b];exact .cons #[c,d] ih
def KV.keys{v5:List (κ×V)}{vs:List (κ×Ai)}(r:KV v5 vs):v5.map (·.1)=vs.map (·.1):=by
 induction r with
 |nil=>rfl
 |cons h t a=>rw[Au,Au,a,h.1]
def KV.length(r:KV v5 vs):v5.length=vs.length:=AJ r
def Acj(v5:List (κ×V))(k:κ):(Tc v5 k).length<=v5.length:=BK _ _
end
def Zk{k:Key}(r:RelV (kV k) u):(OG P w).is k u=Af:=by
 cases k with
 |inl i=>let(t,e):=((r));subst e;exact rG P w i t
 |inr x=>let(t,e):=((r));subst e;exact rH P w x t
def jV:∀{ks:Ma}{us:LQ},Vals (ks.map kV) us->ItemsAre (OG P w) ks us
 |[],_,r=>by rw[B6]at r;cases r;exact .nil
 | k::ks,_,r=>by
   rw[Au]at r;cases r with
   |cons h t=>exact .cons (Zk h) (jV t)
abbrev KT(H:Hp):Mr->MB->Prop:=Paired λp q=>p.1=q.1/\H q.2.1=U (.tup<|p.1.map kV)/\RelV p.2 q.2.2
def KT.val(r:KT H v5 xs)(k:Ma):UJ (PV v5 k) ((HS xs k).map (·.2)):=by
 induction r with
 |nil=>exact Bk
 |@cons p q ps qs h t ih=>
   let(c,_,d):=h;by_cases e:p.1=k
   ·have a:=c.symm.trans e;have b:HS (q::qs) k=U q.2:=by simp[HS,Bc,a]
    rw[TK e,b];exact d
   ·have a:¬ q.1=k:=λz=>e (c.trans z)
    have b:HS (q::qs) k=HS qs k:=by simp[HS,Bc,a]
    rw[Si e,b];exact ih
def KT.AjV(r:KT H v5 xs)(k:Ma)(ry:RelV y u):
  KT H (v5.map λkv=>if kv.1=k then(kv.1,y)else kv) (xs.map<|putAt k u):=by
 induction r with
 |nil=>exact .nil
 |@cons p q ps qs h t ih=>
   rw[Au];refine .cons ?_ ih;let(a,b,c):=h;unfold putAt;by_cases e:p.1=k
   ·rw[Az e,Az<|a.symm.trans e];exact#[a,b,ry]
   ·rw[Aq e,Aq λz=>e<|a.trans z];exact#[a,b,c]
def KT.put(r:KT H v5 xs)(k:Ma)(hb:H b=U (.tup<|k.map kV))(ry:RelV y u):KT H (putK v5 k y) (storedH xs k b u):=by
 have e:(v5.any λa=>decide<|a.1=k)=(HS xs k).isSome:=by rw[tP,(r.val k).Tf,Di]
 unfold putK storedH;rw[e];by_cases q:(HS xs k).isSome=Af
 ·rw[Az q,Az q];exact r.AjV k ry
 ·rw[Aq q,Aq q];exact JM r #[Y,hb,ry]
def KT.keeps(r:KT H v5 xs)(ht:∀b ys,H b=U (.tup ys)->H' b=U (.tup ys)):KT H' v5 xs:=Paired.Ajc r λ_ _ z=>#[z.1,ht _ _ z.2.1,z.2.2]
section
variable{P:Bn}{w:Bw}{H:Hp}{h:BM}{a:Ae}
def Ah1(ok:V7 P w H h)(e:Rd H a u):OC P w H h a u:=e.ok ok
def QW(ok:V7 P w H h)(e:Rd H a (.dK v5)):v5.length<=sizeLine/\(a==CY)=Am/\∃vs,KV v5 vs/\h.DictOf (OG P w) a vs:=show OC P w H h a _ from Ah1 ok e
def jO(ok:V7 P w H h)(e:H a=U (.dK v5)):v5.length<=sizeLine/\(a==CY)=Am/\∃vs,KV v5 vs/\h.DictOf (OG P w) a vs:=QW ok (.inl e)
def WW(ok:V7 P w H h)(e:H a=U (.tup<|ks.map kV)):(F6<|OG P w).is h ks a:=by let(_,b,r,o,f,c,n,d):=(show OC P w H h a (.tup<|ks.map kV)from ok a _ e);exact#[o,b.toArray,n,f,c,d,by simpa using jV r]
def bP(ok:V7 P w H h)(e:Rd H a (.dT v5)):v5.length<=sizeLine/\(a==CY)=Am /\
  ∃xs,KT H v5 xs/\h.DictOfH (F6<|OG P w) a xs:=by
 let(z,y,xs,r,o,i,c,g,d,n,f,j):=(show OC P w H h a _ from Ah1 ok e);refine#[z,y,xs,r,o,i,c,g,d,n,f,λx b=>?_,j];have all:∀{l:List _}{m:List _},KT H l m->∀x∈m,(F6<|OG P w).is h x.1 x.2.1:=by
  intro l m q;induction q with
  |nil=>intro x b;exact nomatch b
  |@cons p q ps qs hq t ih=>
    intro x b;rcases AB.mp b with e|b
    ·subst e;exact WW ok (by rw[<-hq.1];exact hq.2.1)
    ·exact ih x b
 exact all r x b
def Aht(ok:V7 P w H h)(e:H a=U (.dT v5)):v5.length<=sizeLine/\(a==CY)=Am /\
  ∃xs,KT H v5 xs/\h.DictOfH (F6<|OG P w) a xs:=bP ok (.inl e)
end
def bH(H:Hp)(a:Ae)(y:V)(r:Mn):Prop:=(∃v5 k,Rd H a (.dK v5)/\y=kV k/\r=PV v5 k)\/∃v5 k b,Rd H a (.dT v5)/\y=.ref b/\H b=U (.tup<|k.map kV)/\r=PV v5 k
def gG(H:Hp)(a:Ae)(y v:V)(H':Hp):Prop:=(∃v5 k,H a=U (.dK v5)/\y=kV k/\v5.length<sizeLine/\H'=upd H a (.dK<|putK v5 k v)) \/
 ∃v5 k b,H a=U (.dT v5)/\y=.ref b/\H b=U (.tup<|k.map kV)/\v5.length<sizeLine/\H'=upd H a (.dT<|putK v5 k v)
def bH.k{k:Key}(e:H a=U (.dK v5)):bH H a (kV k) (PV v5 k):=.inl #[v5,k,.inl e,Y,Y]
def gG.k{k:Key}(e:H a=U (.dK v5))(hl:v5.length<sizeLine):gG H a (kV k) v (upd H a<|.dK<|putK v5 k v):=.inl #[v5,k,e,Y,hl,Y]
def gG.t{k:Ma}(e:H a=U (.dT v5))(eb:H b=U (.tup<|k.map kV))(hl:v5.length<sizeLine):gG H a (.ref b) v (upd H a<|.dT<|putK v5 k v):=.inr #[v5,k,b,e,Y,eb,hl,Y]
section
variable{X:Cx}{q4:LN}{J:St}{H:Hp}{s:Ax}{a:Ae}{y v:V}{u r:Ai}{o:Mn}{A:BS}{E:Ai->Ax->Prop}
def Inv.big(I:Inv X q4 J H s):CY<s.heap.objs.size:=by have h:=(I.mod.glob.keeps I.bk).lt;exact Gg Nq h
def AaC(hu:A.units+1<CU)(I:Inv X q4 J H s)(g:bH H a y (U v))(ry:RelV y u)(h:∀w' s',Inv X q4 J H s'->RelV v w'->Q w' s'):AZ (A7 X.prog X.w) A (F7 (.ref a) u) Q E s:=by
 rcases g with⟨i,k,e,j,l⟩|⟨i,k,b,e,j,C,l⟩
 ·subst j;let(z,q,x,d,n):=QW I.Oj e;let(w',f,c):=UJ.some_of (v:=v) (o:=DJ x k) (by rw[l];exact d.val k);exact wpAny_getItem_of (Zk ry) n.mapOf f<|h w' _ (I.tok _) c
 ·subst j;cases(show u=Bu b from ry);let(z,q,B,d,n):=bP I.Oj e;let(w',f,c):=UJ.some_of (v:=v) (o:=(HS B k).map (·.2)) (by rw[l];exact d.val k);let(p,r,m):=AA.mp f;refine wpAny_getItem_heap (Dm hu) (WW I.Oj C) n r ?_;rw[m];exact h w' _ (I.tok _) c
def Aob(hu:A.units+1<CU)(I:Inv X q4 J H s)(g:bH H a y o)(ry:RelV y u)(h:∀s',Inv X q4 J H s'->Q (.bool o.isSome) s'):AZ (A7 X.prog X.w) A (Bh .In u<|.ref a) Q E s:=by
 rcases g with⟨f,k,e,i,l⟩|⟨f,k,b,e,i,m,l⟩
 ·subst i;let(z,d,n,c,j):=QW I.Oj e;refine wpAny_in_of (Zk ry) d j.mapOf ?_;rw[<-(c.val k).Tf,<-l];exact h _<|I.tok _
 ·subst i;cases(show u=Bu b from ry);let(z,d,p,c,j):=bP I.Oj e;refine wpAny_in_heap (Dm hu) (WW I.Oj m) d j ?_;have q:=(c.val k).Tf;rw[Di]at q;rw[<-q,<-l];exact h _ (I.tok _)
def Afj(hu:A.units+1<CU)(I:Inv X q4 J H s)(g:bH H a y o)(ry:RelV y u)(h:∀s',Inv X q4 J H s'->Q (.bool<|!o.isSome) s'):AZ (A7 X.prog X.w) A (Bh .NotIn u<|.ref a) Q E s:=by
 rcases g with⟨f,k,e,i,l⟩|⟨f,k,b,e,i,m,l⟩
 ·subst i;let(z,d,n,c,j):=QW I.Oj e;refine wpAny_notIn_of (Zk ry) d j.mapOf ?_;rw[<-(c.val k).Tf,<-l];exact h _<|I.tok _
 ·subst i;cases((ry));let(z,d,p,c,j):=bP I.Oj e;refine wpAny_notIn_heap (Dm hu) (WW I.Oj m) d j ?_;have q:=(c.val k).Tf;rw[Di]at q;rw[<-q,<-l];exact h _ (I.tok _)
def TR(I:Inv X q4 J H s)(mu:AkV (H a))(hs:De a s.heap h')(he:∃q,h'.get? a=U q)(new:OC X.prog X.w (upd H a ob) h' a ob):Inv X q4 J (upd H a ob) {s with heap:=h',toks:=t'}:=I.write (x:=a) (e:=a) mu (.inl Y) (λb q c z=>(hs.2 b c).trans z) he new
def Yy(z:v5.length<=sizeLine)(hd:(a==CY)=Am)(rel:KV v5 vs)(dd:h'.DictOf (OG P w) a vs):OC P w H' h' a (.dK v5):=#[z,hd,vs,rel,dd]
def AaD(hu:A.units+1<CU)(I:Inv X q4 J H s)(g:gG H a y v H')(ry:RelV y u)(rv:RelV v r)(h:∀s',Inv X q4 J H' s'->Q () s'):AZ (A7 X.prog X.w) A (Kb (.ref a) u r) Q E s:=by
 rcases g with⟨d,k,e,C,l,n⟩|⟨d,k,b,e,C,G,l,n⟩
 ·subst C n;let(z,m,K,f,B):=jO I.Oj e;have o:K.length<=sizeLine:=by rw[<-f.length];exact z
  have p:(putK d k v).length<=sizeLine:=by have:=U4 d k v;omega
  refine wpAny_setItem_pairs (hsz:=o) (Zk ry) B λF i x=>h _ ?_
  have S:∃q,F.get? a=U q:=let#[q,_,_,j,_]:=i;#[q,j];exact TR I (by rw[e];exact Bk) x S<|Yy p m (f.put k rv) i
 ·subst C n;cases(show u=Bu b from ry);let(z,m,N,f,B):=Aht I.Oj e;have o:N.length<=sizeLine:=by rw[<-AJ f];exact z
  have p:(putK d k v).length<=sizeLine:=by have:=U4 d k v;omega
  refine wpAny_setItem_heap (hsz:=o) (Dm hu) (WW I.Oj G) B λF i x=>h _ ?_
  let(q,O,R,j,j0,P,L,_,M):=i;refine TR I (by rw[e];exact Bk) x #[q,j] #[p,m,_,(f.put k G rv).keeps λc T D=>?_,q,O,R,j,j0,P,L,M];rw[NX<|AhT D e (λz=>nomatch z)];exact D
end
section
variable{X:Cx}{q4:LN}{J:St}{H:Hp}{s:Ax}{a:Ae}{v5:LP}{k:Key}{u:Ai}{A:BS}{E:Ai->Ax->Prop}
def Alr(I:Inv X q4 J H s)(e:H a=U (.dK v5))(ry:RelV (kV k) u)(l:PV v5 k=U v)(hm:more=[]\/∃x,more=[x])(h:∀w' s',Inv X q4 J (upd H a<|.dK<|Tc v5 k) s'->RelV v w'->Q w' s'):AZ (A7 X.prog X.w) A (call (.builtin "dict.pop") (.ref a::u::more)) Q E s:=by
 let(z,j,f,b,g):=jO I.Oj e;let(w',n,d):=UJ.some_of (v:=v) (o:=DJ f k) (by rw[<-l];exact b.val k);have m:(keyPart u).isSome=Af:=by
  cases k with
  |inl i=>let(t,q):=(show∃t,u=Hc i t from ry);subst q;rfl
  |inr x=>let(t,q):=(show∃t,u=Fy x t from ry);subst q;rfl
 have y:argsOk "dict.pop" #[.ref a::u::more,[]]:=by
  rcases hm with q|⟨x,q⟩
  ·subst q;exact PySem.F.args_dict_pop_2 _ _
  ·subst q;exact GW _ _ _
 refine Ea DY g.typeIs G6 y (meets_dict_pop_there (OG X.prog X.w) a (Zk ry) more hm m)
  #[f,w',g,by rw[<-b.length];exact z,n,λp c B=>h w' _ ?_ d]
 have r:∃q,p.get? a=U q:=let#[q,_,_,hq,_]:=c;#[q,hq];exact TR I (by rw[e];exact Bk) B r (Yy (AL (Acj v5 k) z) j (b.drop k) c)
def Afi(I:Inv X q4 J H s)(e:H a=U (.dK v5))(h:∀s',Inv X q4 J (upd H a<|.dK []) s'->Q .none s'):AZ (A7 X.prog X.w) A (call (.builtin "dict.clear") [.ref a]) Q E s:=by let(z,f,i,c,d):=jO I.Oj e;refine Ea PySem.F.slot_dict_clear d.typeIs PySem.F.entry_dict_clear (PySem.F.args_dict_clear_1 _) (meets_dict_clear (OG X.prog X.w) a) #[i,d,by rw[<-c.length];exact z,λg b l=>h _ ?_];have j:∃q,g.get? a=U q:=let#[q,_,_,hq,_]:=b;#[q,hq];exact TR (t':=s.toks) I (by rw[e];exact Bk) l j (Yy (Bo _) f .nil b)
def Ahs(I:Inv X q4 J H s)(e:Rd H a (.dK v5))(h:∀t s',Inv X q4 J H s'->Q (.int v5.length t) s'):AZ (A7 X.prog X.w) A (call (.builtin "len") [.ref a]) Q E s:=by let(z,c,f,b,d):=QW I.Oj e;refine call_len_dict c d (by rw[<-b.length];rw[Bf]at z;omega) ?_;rw[<-b.length];exact h _ _ (I.tok _)
end
def Ae1(i:Expr):Prop:=∀ov iv,Ha i Am ov iv=operate [ov,iv] (F7 ov iv)
def Ag0{id:String}(hl:typeLookup (.type T) "__getitem__"=pure (U<|.builtin id))(hs:Ae1 slice)(h:AZ (A7 prog w) A (eval value env) (λo s₁=>AZ (A7 prog w) A (eval slice env) (λi s₂=>s₂.TypeIs o T/\AZ (A7 prog w) A (F7 o i) Q E s₂) E s₁) E s):
  AZ (A7 prog w) A (eval (.Subscript value slice pos) env) Q E s:=by
 refine JN<|BL h (λo s₁ d=>BL d (λi s₂ b=>?_) λ_ _ x=>x) λ_ _ x=>x
 let(e,b):=b;refine Ad ?_;refine Ad<|wpAny_specialOf e hl ?_;have a:AZ (A7 prog w) A (Ha slice Am o i) (λr c=>AZ (A7 prog w) A (letTemporaryGo value o r >>= λ_=>pure r) Q E c) E s₂:=by rw[hs o i];exact wpAny_operating<|BL b (λr c f=>Ad<|wpAny_letTemporaryGo<|wpAny_pure f) λ_ _ x=>x
 first
  |exact wpAny_pure<|Ad a
  |exact Ad _
  |exact Ad a
def pZ(I:Inv X q4 J H s)(g:bH H a y o):s.TypeIs (.ref a) "dict":=by
 rcases g with⟨d,k,e,_,_⟩|⟨d,k,b,e,_,_,_⟩
 ·let(_,_,h,_,c):=QW I.Oj e;exact c.typeIs
 ·let(_,_,f,_,c):=bP I.Oj e;exact c.typeIs
def AlK(x:V)(Q:VK):VK:=λy H2=>∃a v,x=.ref a/\bH H2 a y (U v)/\Q v H2
abbrev Aox(ty:TE)(J:St)(Q:VK):VK:=λx H=>ty J H (AlK x Q)
abbrev Ah7(td ty:TE):TE:=λJ H Q=>td J H (Aox ty J Q)
def Aoy(neg:Bool)(y:V)(Q:VK):VK:=λx H2=>∃a o,x=.ref a/\bH H2 a y o/\Q (.bl (if neg then !o.isSome else o.isSome)) H2
abbrev AiJ(neg:Bool)(td:TE)(J:St)(Q:VK):VK:=λy H=>td J H (Aoy neg y Q)
abbrev AmI(ty td:TE):TE:=λJ H Q=>ty J H (AiJ Am td J Q)
abbrev zP(ty td:TE):TE:=λJ H Q=>ty J H (AiJ Af td J Q)
def AiK(v x:V)(D:Ends)(J:St):VK:=λy H3=>∃a H4,x=.ref a/\gG H3 a y v H4/\D.nx J H4
abbrev AoM(ty:TE)(v:V)(D:Ends)(J:St):VK:=λx H=>ty J H (AiK v x D J)
abbrev AoL(td ty:TE)(D:Ends)(J:St):VK:=λv H=>td J H (AoM ty v D J)
abbrev Ah2(td ty tv:TE):TS:=λD J H=>tv J H (AoL td ty D J)
section
variable{X:Cx}{o i value:Expr}{pos pos':CQ}{td ty tv:TE}
def Age(hu:X.A.units+1<CU)(ho:PE X o td)(hi:PE X i ty)(hs:Ae1 i):PE X (.Subscript o i pos) (Ah7 td ty):=by
 intro b s J H Q I h;refine Ag0 PySem.F.slot_dict_getitem.lookup hs<|O2 (ho b s J H _ I h) λu n⟨x,l,r,p,m⟩=>O2 (hi b n J l _ r m) λD C⟨y,j,d,q,a,v,e,g,w⟩=>?_
 subst e;obtain rfl:u=Bu a:=p;exact#[pZ d g,AaC hu d g q λB z f c=>#[v,j,f,c,w]]
def Ajs(hu:X.A.units+1<CU)(hi:PE X i ty)(ho:PE X o td):PC X .In i o (AmI ty td):=by
 intro b s J H Q I h;refine O2 (hi b s J H _ I h) λz m⟨y,f,q,p,l⟩=>O2 (ho b m J f _ q l) λu w⟨x,e,j,n,a,B,c,g,r⟩=>?_
 subst c;obtain rfl:u=Bu a:=n;exact Aob hu j g p λv d=>#[.bl _,e,d,Y,r]
def Abi(hu:X.A.units+1<CU)(hi:PE X i ty)(ho:PE X o td):PC X .NotIn i o (zP ty td):=by
 intro b s J H Q I h;refine O2 (hi b s J H _ I h) λz m⟨y,f,q,p,l⟩=>O2 (ho b m J f _ q l) λu w⟨x,e,j,n,a,B,c,g,r⟩=>?_
 subst c;obtain rfl:u=Bu a:=n;exact Afj hu j g p λv d=>#[.bl _,e,d,Y,r]
def Agw(hu:X.A.units+1<CU)(ho:PE X o td)(hi:PE X i ty)(hv:PE X value tv)(hs:swapsWith value (U<|.Subscript o i pos') pos.line X.env=pure Am):PS X (.Assign [.Subscript o i pos'] value pos) (Ah2 td ty tv):=by
 intro b s J H D I h;refine wpAny_Assign_Subscript (O2 (hv b s J H _ I h) λr z⟨v,w,e,q,m⟩=>O2 (ho b z J w _ e m) λu l⟨x,E,p,B,F⟩=>O2 (hi b l J E _ p F) λL K⟨y,j0,f,C,a,j,c,g,n⟩=>?_) hs;subst c;obtain rfl:u=Bu a:=B;exact AaD hu f g C q λG d=>#[J,j,d,n]
end
def qA(h:BM)(hb:CY<h.objs.size):OC P w H (h.push {cls:=.type "dict",data:=.dict #[]}) h.objs.size (.dK []):=#[Bo _,Cn.mpr<|AF<|A9 hb,[],.nil,BM.DictOf.new h]
def Acl(h:BM)(hb:CY<h.objs.size):OC P w H (h.push {cls:=.type "dict",data:=.dict #[]}) h.objs.size (.dT []):=#[Bo _,Cn.mpr<|AF<|A9 hb,[],.nil,_,#[],0,AR _ Y,#[Y,Y,Y],Y,Y,FC]
def ApL(o:HO)(Q:VK):Hp->Prop:=λH=>∀p,H p=none->Q (.ref p) (upd H p o)
abbrev Aka:TE:=λ_ H Q=>ApL (.dK []) Q H
abbrev Akb:TE:=λ_ H Q=>ApL (.dT []) Q H
section
variable{X:Cx}{pos:CQ}
def Ady:PE X (.Dict [] [] pos) Aka:=λa s J H Q I h=>
 Km #[.ref _,_,I.laid (λ_ _ q=>Aj _ q) (Ap _)<|qA _ I.big,Y,h _<|I.Oj.fresh<|Ap _]
def Adz:PE X (.Dict [] [] pos) Akb:=λa s J H Q I h=>
 Km #[.ref _,_,I.laid (λ_ _ q=>Aj _ q) (Ap _)<|Acl _ I.big,Y,h _<|I.Oj.fresh<|Ap _]
end
def oU:MG->St->Hp->(My->Hp->Prop)->Prop
 |[],_,H,Q=>Q [] H
 |(tk,tv)::r,J,H,Q=>tk J H λx H1=>tv J H1 λy H2=>oU r J H2 λps H3=>Q ((x,y)::ps) H3
abbrev VV:My->List (Ai×Ai)->Prop:=Paired λp q=>RelV p.1 q.1/\RelV p.2 q.2
def Ahk(X:Cx)(pos:CQ)(keys:Mu)(values:L1)(trs:MG):Prop:=∀(q4:LN)(s:Ax)(J:St)(H:Hp)(Q:My->Hp->Prop),Inv X q4 J H s->oU trs J H Q ->
  AZ (A7 X.prog X.w) X.A (evalPairs<|pairTrees keys values X.env pos) (λvs s'=>∃ps H',Inv X q4 J H' s'/\VV ps vs/\Q ps H') X.xe s
def Ags:Ahk X pos [] [] []:=λa s J H Q I h=>pairTrees_nil_walk #[[],H,I,.nil,h]
def AdR{k:Expr}(hk:PE X k tk)(hv:PE X v tv)(hr:Ahk X pos ks vs trs):Ahk X pos (U k::ks) (v::vs) ((tk,tv)::trs):=λa s J H Q I h=>
 pairTrees_cons_walk (O2 (hk a s J H _ I h) λu n⟨x,m,c,o,i⟩=>O2 (hv a n J m _ c i) λA g⟨y,q,l,p,r⟩=>
  O2 (hr a g J q _ l r) λw z⟨f,d,e,b,j⟩=>#[(x,y)::f,d,e,.cons #[o,p] b,j])
def T3(v5 more:LP):LP:=more.foldl (λacc kv=>putK acc kv.1 kv.2) v5
def KV.merge:∀{more:LP}{rs:ME}{v5:LP}{vs:ME},KV more rs->KV v5 vs->KV (T3 v5 more) (merged vs rs):=by
 intro more rs v5 vs r;induction r generalizing v5 vs with
 |nil=>intro q;exact q
 |@cons p q ps qs h t ih=>
   intro a;have e:KV (putK v5 p.1 p.2) (stored vs q.1 q.2):=by have:=a.put p.1 h.2;rw[<-h.1];exact this
   exact ih e
def SN:∀(more v5:LP),(T3 v5 more).length<=v5.length+more.length
 |[],v5=>by show v5.length<=v5.length+0;omega
 | p::r,v5=>by
   have a:=SN r<|putK v5 p.1 p.2;have b:=U4 v5 p.1 p.2;show(T3 (putK v5 p.1 p.2) r).length<=_;rw[AM];omega
def bL:∀{v5:LP}{ws:List (Ai×Ai)},VV (v5.map λkv=>(kV kv.1,kv.2)) ws->∃rs,Carries (OG P w) ws rs/\KV v5 rs
 |[],_,r=>by rw[B6]at r;cases r;exact#[[],Bk,.nil]
 | p::v5,_,r=>by
   rw[Au]at r;cases r with
   |@cons a b as bs h t=>let(rs,c,q):=bL (P:=P) (w:=w) t;let(e,d):=b;exact#[(p.1,d)::rs,#[Zk h.1,Y,c],.cons #[Y,h.2] q]
def AmJ(trs:MG):TE:=λJ H Q=>∀p,H p=none->oU trs J (upd H p<|.dK []) λps H2=>H2 p=U (.dK [])/\∃v5:LP,ps=v5.map (λkv=>(kV kv.1,kv.2))/\v5.length<=15/\Q (.ref p) (upd H2 p<|.dK<|T3 [] v5)
def Agf{keys:Mu}(h:Ahk X pos keys values trs)(hall:keys.all (·.isSome)=Af)(hl:keys.length=values.length)(h0:keys≠[])(h15:keys.length<=15):PE X (.Dict keys values pos) (AmJ trs):=by
 intro b s J H Q I q;have v:=I.Oj.fresh<|Ap _;have j:=I.laid (t':=s.toks) (λ_ _ q=>Aj _ q) (Ap _)<|qA _ I.big;refine wpAny_Dict_walk (knd:=OG _ X.w) hall hl h0 h15<|O2 (h b _ J _ _ j<|q _ v) λG F⟨E,j0,g,f,e,a,y,D,C⟩=>?_
 subst y;let(r,c,o):=bL f;let(z,i,A,m,x):=jO g.Oj e;cases m;refine#[r,c,x,λl d u=>#[.ref _,_,?_,Y,C]];have p:(T3 [] a).length<=sizeLine:=by have n:=SN a [];rw[CG]at n;rw[Bf];omega
 have B:∃q,l.get? _=U q:=let#[q,_,_,hq,_]:=d;#[q,hq];exact TR g (by rw[e];exact Bk) u B (Yy p i (o.merge .nil) d)
structure M1(X:Cx)(o:Expr)(m:Ay)(v7:CQ)(e:Expr)(v8:CQ):Prop where
 base:CA o m X.env (eval o X.env)=eval o X.env
 bU:((BP v8<|AG [e] X.env).all (λx=>!x.1)&&(Df v8<|Cp [] X.env).all (λx=>x.1.isSome)
  && decide (([e]:L1).length+([]:Mv).length+(if([]:Mv).isEmpty then 0 else 1)<30))=Af
 line:(v7.endLine==v8.line)=Af
 trees:BP v8 (AG [e] X.env)=[(Am,eval e X.env)]
structure M2(X:Cx)(o:Expr)(m:Ay)(v7:CQ)(e f:Expr)(v8:CQ):Prop where
 base:CA o m X.env (eval o X.env)=eval o X.env
 bU:((BP v8<|AG [e,f] X.env).all (λx=>!x.1)&&(Df v8<|Cp [] X.env).all (λx=>x.1.isSome)
  && decide (([e,f]:L1).length+([]:Mv).length+(if([]:Mv).isEmpty then 0 else 1)<30))=Af
 line:(v7.endLine==v8.line)=Af
 trees:BP v8 (AG [e,f] X.env)=[(Am,eval e X.env),(Am,eval f X.env)]
def AkA(H:Hp)(a:Ae):Prop:=(∃v5,Rd H a<|.dK v5)\/∃v5,Rd H a (.dT v5)
def uY(I:Inv X q4 J H s)(d:AkA H a):s.TypeIs (.ref a) "dict"/\(∀b,Bu a=.ref b->∃ob,s.heap.get? b=U ob/\ob.dict=none)/\(a==CY)=Am:=by
 rcases d with⟨g,e⟩|⟨g,e⟩
 ·let(_,f,j,_,c):=QW I.Oj e;refine#[c.typeIs,λb q=>?_,f];cases q;let(ob,_,_,i,h,_):=c;exact#[ob,i,h.2.1]
 ·let(_,f,l,_,c):=bP I.Oj e;refine#[c.typeIs,λb q=>?_,f];cases q;let(ob,_,_,i,h,_):=c;exact#[ob,i,h.2.1]
section
variable{X:Cx}{q4:LN}{J:St}{H:Hp}{s:Ax}{a:Ae}{y d:V}{u r:Ai}{o:Mn}{A:BS}{E:Ai->Ax->Prop}
def Aiw(hu:A.units+1<CU)(I:Inv X q4 J H s)(g:bH H a y o)(ry:RelV y u)(rd:RelV d r)(h:∀w' s',Inv X q4 J H s'->RelV (o.getD d) w'->Q w' s'):AZ (A7 X.prog X.w) A (call (.builtin "dict.get") [.ref a,u,r]) Q E s:=by
 rcases g with⟨j,k,e,m,l⟩|⟨j,k,b,e,m,p,l⟩
 ·subst m;let(z,i,q,c,f):=QW I.Oj e;refine Ea Fe f.typeIs G7 (GX _ _ _) (meets_dict_get_default (OG X.prog X.w) a (Zk ry) i r) #[_,f.mapOf,h _ _ (I.tok _) ?_];rw[l];exact(c.val k).getD rd
 ·subst m;cases(show u=Bu b from ry);let(z,i,n,c,f):=bP I.Oj e;refine Ea Fe f.typeIs G7 (GX _ _ _) (meetsH_dict_get_default (F6<|OG X.prog X.w) a b i r) #[Dm hu,k,n,WW I.Oj p,f,h _ _ (I.tok _) ?_];rw[l];exact(c.val k).getD rd
end
def AoC(a:Ae)(y:V)(Q:VK):VK:=λz H3=>∃o,bH H3 a y o/\Q (o.getD z) H3
abbrev AoB(tx:TE)(J:St)(a:Ae)(Q:VK):VK:=λy H=>tx J H (AoC a y Q)
def AoA(ty tx:TE)(J:St)(Q:VK):VK:=λx H1=>∃a,x=.ref a/\AkA H1 a/\ty J H1 (AoB tx J a Q)
abbrev Aew(td ty tx:TE):TE:=λJ H Q=>td J H (AoA ty tx J Q)
def AqS(a:Ae)(Q:VK):VK:=λy H2=>∃v5 k v,H2 a=U (.dK v5)/\y=kV k/\PV v5 k=U v/\Q v (upd H2 a<|.dK<|Tc v5 k)
def AoK(ty:TE)(J:St)(Q:VK):VK:=λx H1=>∃a,x=.ref a/\AkA H1 a/\ty J H1 (AqS a Q)
abbrev Akc(td ty:TE):TE:=λJ H Q=>td J H (AoK ty J Q)
section
variable{X:Cx}{o e f:Expr}{v7 v8:CQ}{td ty tx:TE}
def Adx(hu:X.A.units+1<CU)(ho:PE X o td)(he:PE X e ty)(hf:PE X f tx)(m:M2 X o "get" v7 e f v8):PE X (.Call (.Attribute o "get" v7) [e,f] [] v8) (Aew td ty tx):=by
 intro b s J H Q I h;refine GG m.base m.bU m.line EO Fe PySem.F.type_dict_get<|O2 (ho b s J H _ I h) λu E⟨x,D,i,G,a,j,d,v⟩=>?_
 subst j;obtain rfl:u=Bu a:=G;let(C,l,_):=uY i d;refine#[C,l,?_];rw[m.trees];refine CI Y (Dp (Dc (O2 (he b E J D _ i v) λS r⟨y,L,B,j0,M⟩=>
  Dc (O2 (hf b r J L _ B M) λT R⟨z,p,q,K,P,g,w⟩=>EI ?_))))
 exact Aiw hu q g j0 K λO N n c=>#[_,p,n,c,w]
def AdA(ho:PE X o td)(he:PE X e ty)(m:M1 X o "pop" v7 e v8):PE X (.Call (.Attribute o "pop" v7) [e] [] v8) (Akc td ty):=by
 intro b s J H Q I h;refine GG m.base m.bU m.line EO DY Hj<|O2 (ho b s J H _ I h) λu z⟨x,w,f,A,a,i,d,p⟩=>?_
 subst i;obtain rfl:u=Bu a:=A;let(r,g,_):=uY f d;refine#[r,g,?_];rw[m.trees];refine CI Y<|Dp<|Dc<|O2 (he b z J w _ f p) λL G⟨y,j0,q,B,j,k,v,D,C,l,E⟩=>EI ?_
 subst C;exact Alr q D B l (.inl Y) λF K n c=>#[v,_,n,c,E]
end
end L2
namespace Att
open PySem PySem.W PySem.Calls PyProof.Rows
def Z9:∀(ns:LS)(vs:LQ),WellAll P h vs (ns.map KC)->CL vs ns:=by
 intro ns;induction ns with
 |nil=>intro vs w;cases w;exact .nil
 |cons n ns ih=>
   intro vs w;cases w with
   |cons a b=>cases a;exact .cons _ _ (ih _ b)
def AbA{l:EV}{n:Nat}(hn:l.most=U n){P:Gp}{h:BM}{args:List WData}(hpre:l.row.toRowW.claim.pre args=Af)(hwl:WellAll P h vals args):
  ∃a vs ns,vals=[Bu a]/\args=[WData.list<|ns.map KC]/\h.get? a=U {cls:=.type "list",data:=.seq vs.toArray}/\CL vs ns/\ns.length<=n:=by
 have g:=(pre_splitW hpre).1;have s:=(pre_splitW hpre).2;let(d,r,rfl,m,j):=hasAllW_cons g;obtain rfl:=hasAllW_nil j;let(u,rfl,o):=hasW_list m;let(ns,rfl):=items_int o;have c:ns.length<=n:=by
  have e:(WTm.not<|.lt (.lit<|.int<|n)<|.len<|.arg 0).holds [] {args:=[.list<|ns.map .int]}=Af:=by have e:=(holds_andW s).1;rw[hn]at e;exact e
  have f:=condW_of e<|w_not<|w_lt w_lit<|w_len_list<|w_arg Y;rw[Ac]at f;refine Gr λq=>?_
  have p:(n)<((ns.length):Int):=Nr
  first
   |(rw[Ao p]at f;exact absurd f Nq)
   |(simp at f)
 cases hwl with
 |cons w1 w2=>
   cases w2;cases w1 with
   |list i b=>exact#[_,_,ns,Y,Y,i,Z9 ns _ b,c]
def Abm(l:EV)(args:List WData):l.row.toRowW.claim.post args (.bool Af) args=Af:=postW_of
  (show Kd [] _ _=Af by first|rfl|decide|simp[Kd,WShape.arms,WShape.armsAll])
  (show(WTm.eq _ _).value [] _=U _ from w_eq_bool (w_res Y) w_lit) Y
def pQ{l:EV}{n:Nat}{q:Bn}{XP:(Ay->LX)->BM->Prop}{YP:Bw->BM->Prop}{d:DefRec}(hn:l.most=U n)(hdf:d.params.defaults=[])(call:∀(w:Bw)(Qy s₁:Ax)(mg mb:Ay->LX)(fa:Ae)(o:Cy)(pm cd doc:Ai)(a:Ae)(vs:LQ)(ns:LS),
   Ground q loose [] XP w Qy mg mb s₁.heap->YP w s₁.heap ->
   s₁.heap.get? fa=U o->o.data=.func (docDef d.name d.params d.body d.scope pm cd doc)->s₁.heap.CodeRec cd d.name->mg d.name=U (.ref fa) ->
   s₁.heap.get? a=U {cls:=.type "list",data:=.seq vs.toArray}->CL vs ns->ns.length<=n->s₁.gens=#[] ->
   Er (A7 l.prog w) GI (.call (.ref fa) #[[.ref a],[]]) (λr s'=>r=.ok (.ret<|.bool Af)/\OldK s₁.heap s'.heap/\s'.os=s₁.os/\ES s'.gens) s₁):
  WalkO q loose XP YP l.row.toRowW d [] (λf vs=>IH f vs):=by
 intro w Qy s₁ mg mb G y0 fa o pm cd doc H kV C v j s i z m p as g u x h F;obtain rfl:H=.none:=Dflts.none s hdf;obtain rfl:kV=.none:=Dflts.noKw s;let(a,vs,ns,rfl,rfl,c,b,e):=AbA hn g h;refine enter_call<|EM (call w Qy s₁ mg mb fa o pm cd doc a vs ns G y0 C (fd_plain v) j i c b e z) λr s' A=>?_
 let(rfl,y,D,B):=A;exact#[.inl #[.bool Af,.bool Af,[],Y,λ_=>rfl,.bool Af,Abm l _,λ_=>#[Hr.nil,λ_ E=>(nomatch E)]],y,D,B]
end Att
namespace L2
open PySem PySem.Spec PyProof.Rows
def V6:∀{vs:LQ}{ns:LS},CL vs ns->Vals (ns.map V.int) vs
 |_,_,.nil=>.nil
 |_,_,.cons n t h=>.cons #[t,Y] (V6 h)
def OE(s:Bi):Kw:=match s with
 |.FunctionDef _ a _ _ _ _ _ _ _ _=>a
 |_=>{posonlyargs:=[],args:=[],vararg:=none,kwonlyargs:=[],kw_defaults:=[],kwarg:=none,defaults:=[]}
def Oa(s:Bi):Me:=match s with
 |.FunctionDef _ _ b _ _ _ _ _ _ _=>b
 |_=>[]
def NW(s:Bi):Scope:=match s with
 |.FunctionDef _ _ _ _ _ _ sc _ _ _=>sc
 |_=>{kind:=.function,names:=[],isGenerator:=Am,isCoroutine:=Am}
abbrev pL:AeY:=λ_ _ _ _ _ _=>False
abbrev E0:XK:=λ_ _ _=>False
def rT:Passes pL X E0:=λ_ _ _ _ _ _ _ h=>h.elim
structure Ahi(K:Ab)(x qual:Ay)(st:Bi)(f:Ae)(fd:Cz):Prop where
 ex:∃(oc:Ai)(od:LZ)(kV doc pm:Ai)(an:LZ)(cdv ct:Ai)(osl:Array (Option Ai)),
  fd=Bs x qual (OE st) (Oa st) (NW st) .none kV doc pm an cdv ct/\K.lookup f=U #[oc,od,.func fd,osl]/\DK K cdv qual=Af
 kp:BA K (.ref f)=Af
section
variable{P:Bn}{w:Bw}{K:Ab}{mg:Ay->LX}{base:BM}
def Ahi.ok{st:Bi}{k:Nat}(F:Ahi K x qual st f fd)(S:O3 N ps (NW st))(len:∀vs H Q E,sp vs H Q E->vs.length=ps.length)(hbody:∀(cdv:Ai)(A:BS)(outer:Mc)(s:Ax)(H:Hp)(vs:LM)(Q:VK)(E:XK),Oo k (A.deeper<|DF qual (NW st) s.heap.objs.size f cdv)->sp vs H Q E ->
   ∃t,QB (UK pL P w K mg base N qual (NW st) f cdv A outer s H E).AbT (Oa st) t/\t {nx:=λ_ H'=>Q .OH H',rt:=Q} (start N vs) H):Sl P w K mg base pL (k+1) f fd ps sp:=by
 let(m,l,kV,e,j,i,cdv,n,g,rfl,c,b):=F.ex;refine Acu c b S len λA outer s H vs Q E d a=>?_
 let(t,h,q):=hbody cdv A outer s H vs Q E d a;exact#[t,h.AbT,q]
def Ahi.binds{st:Bi}(F:Ahi K x qual st f fd)(h:∀(kV doc pm:Ai)(an:LZ)(cdv ct:Ai)(us:LQ),us.length=ps.length->Cf (Bs x qual (OE st) (Oa st) (NW st) .none kV doc pm an cdv ct) #[us,[]]=pure (ps.zip us)):Binds K fd ps []:=by let(e,c,kV,doc,pm,an,cdv,ct,b,rfl,d,a):=F.ex;exact .all (h kV doc pm an cdv ct)
def YB{st:Bi}{kV:Ai}(l:K.lookup f=U #[oc,od,.func<|Bs x qual (OE st) (Oa st) (NW st) .none kV doc pm an cdv ct,osl])(c:DK K cdv qual=Af)(k:BA K (.ref f)=Af):Ahi K x qual st f (Bs x qual (OE st) (Oa st) (NW st) .none kV doc pm an cdv ct):=#[#[oc,od,kV,doc,pm,an,cdv,ct,osl,Y,l,c],k]
end
def jT{k:Nat}(hr:Oo k A):A.units+1<CU:=BJ (Nat.add_le_add_left Nq _) hr.units
def V4(h:n<=1000):n<sizeLine:=BJ h Nq
section
variable{X:Cx}
def pv(i:Nat)(hN:X.N[i]?=U x:=by rfl)(hv:AkY X.env.scope x:=by first|exact B8 rfl|exact Ed (B8 Y)|exact Ed<|Ed Y)(hd:(x==("__debug__":Ay))=Am:=by decide)(hcd:(x==("__classdict__":Ay))=Am:=by decide):PE X (.Name x pos) (wL i):=vS hN hv hd hcd
def AjJ:LM->Hp->VK->Prop:=λxs H Q=>∃a v5,xs=[V.ref a]/\H a=U (.dK v5)/\Q (.int v5.length) H
def Aas:QA X (.builtin "len") AjJ:=by intro b s J H j i Q I r h;let(a,c,rfl,d,q):=h;let(u,rfl,e):=vals1 r;cases e;exact Ahs I (.inl d) λt g f=>#[.int _,H,f,#[t,Y],q]
end
def AaR{A B:Prop}(h:A):if Af=Af then A else B:=by exact h
def Ob(H H':Hp):Prop:=∀b o,H b=U o->H' b=U o
def Ob.refl(H:Hp):Ob H H:=λ_ _ h=>h
def Ob.trans(a:Ob H H1)(b:Ob H1 H2):Ob H H2:=λc o h=>b c o (a c o h)
def Ob.free(e:Ob H H')(h:H' l=JO):H l=JO:=by
 cases q:H l with
 |none=>rfl
 |some o=>rw[e l o q]at h;cases h
def Ob.seq{K:Ab}(e:Ob H H')(h:PX K H a xs):PX K H' a xs:=by
 rcases h with(h|⟨o,h⟩)|h
 ·exact .inl<|.inl<|e _ _ h
 ·exact .inl<|.inr #[o,e _ _ h]
 ·exact .inr h
def Pc(cells:Mg):Mo->Mg->Mg
 |[],cs=>cs
 |(n,k)::r,cs=>Pc cells r (if k==.free then(n,(cells.lookup n).getD 0)::cs else cs)
def pU{f:Ay×DW->Mg->Ir (ForInStep<|Mg)}(h1:∀n cs,f (n,.free) cs=(cellOf env n >>= λc=>pure<|.yield ((n,c)::cs)))(h2:∀n k cs,k≠.free->f (n,k) cs=pure (.yield cs)):
  ∀(l:Mo)(cs:Mg),(∀x∈l,x.2=.free->∃c,env.cells.lookup x.1=U c)->forIn l cs f=pure (Pc env.cells l cs)
 |[],_,_=>rfl
 | (n,k)::r,cs,h=>by
   have g:=λcs=>pU h1 h2 r cs λx i=>h x<|AD _ i
   rw[List.forIn_cons];by_cases b:k=.free
   ·subst b;let(c,a):=h (n,.free) AW Y;have a:env.cells.lookup n=U c:=a;have e:cellOf env n=pure c:=by unfold cellOf;rw[a]
    rw[h1,e,Jb,Jb];show forIn r ((n,c)::cs) f=_;rw[g];have d:Pc env.cells ((n,.free)::r) cs=Pc env.cells r ((n,(env.cells.lookup n).getD 0)::cs):=rfl;rw[d,a];rfl
   ·rw[h2 n k cs b,Jb];show forIn r cs f=_;rw[g];have d:Pc env.cells ((n,k)::r) cs=Pc env.cells r (if(k==Cd)=Af then(n,(env.cells.lookup n).getD 0)::cs else cs):=rfl;rw[d,Aq<|by simpa using b]
def Uj(h:∀x∈scope.names,x.2=.free->∃c,env.cells.lookup x.1=U c):JL scope env=pure (Pc env.cells scope.names []):=by unfold JL;dsimp only;rw[pU (λn b=>Nu) (λn k b a=>by simp[a]) _ [] h,Jb]
def Yv:∀{l:Mo}{cs:Mg}{x:Ay}{c:Ae},(Pc cells l cs).lookup x=U c->cs.lookup x=U c\/((x,Cd)∈l/\c=(cells.lookup x).getD 0)
 |[],_,_,_,h=>.inl h
 | (n,k)::r,cs,x,c,h=>by
   unfold Pc at h;rcases Yv h with q|⟨f,g⟩
   ·by_cases b:(k==Cd)=Af
    ·rw[Az b,BZ]at q;cases d:x==n with
     |true=>
       rw[d]at q;have e:x=n:=by simpa using d
       have a:k=.free:=by simpa using b
       subst e;subst a;exact .inr #[AW,(AS q).symm]
     |false=>rw[d]at q;exact .inl q
    ·rw[Aq b]at q;exact .inl q
   ·exact .inr #[AD _ f,g]
def Yu:∀{l:Mo}{cs:Mg},((x,Cd)∈l\/(cs.lookup x).isSome=Af)->((Pc cells l cs).lookup x).isSome=Af
 |[],_,h=>by rcases h with h|h;exact absurd h Nu;exact h
 | (n,k)::r,cs,h=>by
   unfold Pc;refine Yu ?_;rcases h with h|h
   ·rcases AB.mp h with e|h
    ·cases e;refine .inr ?_;simp
    ·exact .inl h
   ·refine .inr ?_;by_cases a:(k==Cd)=Af
    ·rw[Az a,BZ];cases b:x==n with
     |true=>rfl
     |false=>exact h
    ·rw[Aq a];exact h
def Xp(env:G8)(scope:Scope)(C:Ae):G8:=
 {newEnv scope C env.globals (Pc env.cells scope.names []) env.qual none .none (U env) FF with scope:=relabel scope env}
def OO(X:Cx)(scope:Scope)(Nc:LK)(fp:LL)(s:Ax)(H:Hp):Cx where
 prog:=X.prog
 w:=X.w
 K:=X.K
 mg:=X.mg
 base:=X.base
 A:=X.A
 N:=Nc
 Qy:=s
 N4:=H
 env:=Xp X.env scope s.heap.objs.size
 outer:=X.stack
 stack:=X.stack
 ex:=fp
 calm:=X.calm
 fn:=λ_=>Am
 pn:=[]
 xe:=λ_ _=>False
instance {X:Cx} {scope:Scope} {Nc:LK} {fp:LL} {s:Ax} {H:Hp} {K₀:Ab} {N4:Hp} [h:Ol X K₀ N4]:Ol (OO X scope Nc fp s H) K₀ H:=#[h.k,Y]
def pick(v9:LV)(J:St):St:=v9.map λo=>match o with|none=>none|some i=>(J[i]?).getD none
def Q2(X:Cx)(scope:Scope):LK->LV->Prop
 |[],[]=>True
 |_::r,none::q=>Q2 X scope r q
 |x::r,U i::q=>(X.N[i]?=U x/\(X.env.kindOf x=U .cell\/X.env.kindOf x=U .free)/\scope.names.lookup x=U .free)/\Q2 X scope r q
 |_,_=>False
def Q2.len:∀{N:LK}{v9:LV},Q2 X scope N v9->v9.length=N.length
 |[],[],_=>rfl
 |_::r,none::q,h=>by simp[Q2.len (N:=r) (v9:=q) h]
 |x::r,U i::q,h=>by simp[Q2.len (N:=r) (v9:=q) h.2]
 |[],_::_,h=>h.elim
 |_::_,[],h=>h.elim
def Q2.at:∀{N:LK}{v9:LV}{j i:Nat}{x:Ay},Q2 X scope N v9->N[j]?=U x->v9[j]?=U (U i)->X.N[i]?=U x/\(X.env.kindOf x=U .cell\/X.env.kindOf x=U .free)/\scope.names.lookup x=U .free
 |[],_,_,_,_,_,h,_=>by simp at h
 |_::_,[],_,_,_,h,_,_=>h.elim
 |_::r,none::q,0,_,_,_,_,h=>by simp at h
 | x::r,U i::q,0,_,_,h,h1,h2=>by
   simp at h1 h2;subst h1;subst h2;exact h.1
 |_::r,none::q,j+1,_,_,h,h1,h2=>Q2.at (N:=r) (v9:=q) (j:=j) h (by simpa using h1) (by simpa using h2)
 |_::r,U _::q,j+1,_,_,h,h1,h2=>Q2.at (N:=r) (v9:=q) (j:=j) h.2 (by simpa using h1) (by simpa using h2)
def lookup_mem{k:DW}:∀{l:Mo},l.lookup x=U k->(x,k)∈l
 |[],h=>by simp at h
 | (n,k')::r,h=>by
   rw[BZ]at h;cases a:x==n with
   |true=>
     rw[a]at h;have e:x=n:=by simpa using a
     subst e;cases h;exact AW
   |false=>rw[a]at h;exact AD _ (lookup_mem h)
def R9{env:G8}{x:Ay}:∀{names:Mo},(names.map λ(n,k)=>if(k==Cd&&env.scope.kind==.function&&env.kindOf n==U .cell)then(n,Dv)else(n,k)).lookup x=none/\names.lookup x=none \/
  ∃k,names.lookup x=U k/\(names.map λ(n,k)=>if(k==Cd&&env.scope.kind==.function&&env.kindOf n==U .cell)then(n,Dv)else(n,k)).lookup x=U (if(k==Cd&&env.scope.kind==.function&&env.kindOf x==U .cell)then Dv else k)
 |[]=>.inl #[Y,Y]
 | (n,k)::r=>by
   have b:=@R9 env x r;rw[Au];cases a:x==n with
   |true=>
     have e:x=n:=by simpa using a
     subst e;refine .inr #[k,Nu,?_];dsimp only;split<;>simp
   |false=>
     have c:(DL x ((n,k)::r))=r.lookup x:=by rw[BZ,a]
     rw[c];dsimp only;split
     ·rw[BZ,a];exact b
     ·rw[BZ,a];exact b
def rW{v9:LV}{J:St}{j:Nat}(h:(pick v9 J)[j]?=U (U v)):∃i,v9[j]?=U (U i)/\J[i]?=U (U v):=by
 unfold pick at h;rw[Ag]at h;cases e:v9[j]? with
 |none=>rw[e]at h;cases h
 |some o=>
   rw[e]at h;cases o with
   |none=>cases h
   |some i=>
     refine#[i,Y,?_];have a:(J[i]?).getD none=U v:=AS h;cases q:J[i]? with
     |none=>rw[q]at a;cases a
     |some z=>rw[q]at a;exact congrArg U a
section
variable{X:Cx}{q4:LN}{J:St}{H:Hp}{s:Ax}
def uJ{scope:Scope}{v9:LV}{fp:LL}{h1:BM}{tk:Nat}(I:Inv X q4 J H s)(hkind:scope.kind=.function)(hcell:∀y∈scope.names,y.2≠.cell)(hfr:∀y∈scope.names,y.2=.free->X.env.kindOf y.1=U .cell\/X.env.kindOf y.1=U .free)(caps:Q2 X scope Nc v9)(hfp:∀b∈fp,Q9 X q4 H b)(hfl:∀b∈fp,b<s.heap.objs.size)(hns:h1.Ns s.heap.objs.size (λ_=>none))(k:∀b u,s.heap.get? b=U u->h1.get? b=U u):Inv (OO X scope Nc fp s H) [] (pick v9 J) H {s with heap:=h1,toks:=tk}:=by
 have a:∀{x:Ay}{c:Ae},(Pc _ _ []).lookup x=U c->X.env.cells.lookup x=U c:=λ{x c}h=>by
  rcases Yv h with q|⟨A,B⟩
  ·simp at q
  ·let(N,f):=I.ok.has x (hfr _ A Y);rw[f]at B;rw[f,B];rfl
 have d:∀{x:Ay},scope.names.lookup x=U _->∃c,(Pc X.env.cells _ []).lookup x=U c:=λ{x}h=>
  DD.mp (Yu<|.inl<|lookup_mem h)
 have t:∀{c:Ae}{v:LX},s.heap.IsCell c v->h1.IsCell c v:=λ{c v}⟨o,Q,M⟩=>#[o,k c o Q,M]
 refine#[#[I.ok.mod,hkind,I.ok.glob,I.ok.blt,Ap _,λx y c g S=>I.ok.inj x y c (a g)<|a S,λx g=>?_,λ_ _ z=>(nomatch z),I.ok.hd,I.ok.frames,.inl Y,λb w=>#[A9<|hfl b w,λx c e=>(hfp b w).2.2.2.2.1 x c (a e)],I.bs,AL I.ok.Aap I.sz,λb o e w=>?_,λb w z=>?_,I.stack,I.bB],
  rfl,I.bare,Un.kept k,#[_,hns,λj x v T O W=>?_],λx c e=>?_,I.Oj.fresh<|Ap _,λx c e=>I.QC x c<|a e,λp P=>absurd (show p∈([]:List _)from P) Nu,I.Oj.kept k,?_]
 ·have g:(scope.names.map λ(n,k)=>if(k==Cd&&X.env.scope.kind==.function&&X.env.kindOf n==U .cell)then(n,Dv)else(n,k)).lookup x=U _ \/
    (scope.names.map λ(n,k)=>if(k==Cd&&X.env.scope.kind==.function&&X.env.kindOf n==U .cell)then(n,Dv)else(n,k)).lookup x=U _:=g
  rcases R9 with⟨q,_⟩|⟨C,A,B⟩
  ·rw[q]at g;rcases g with z|z<;>cases z
  ·have F:C=.free:=by
    rw[B]at g;by_cases D:(C==Cd&&X.env.scope.kind==.function&&X.env.kindOf x==U .cell)=Af
    ·cases C<;>first|rfl|(simp at D)
    ·rw[Aq D]at g;rcases g with z|z
     ·exact absurd (AS z)<|hcell _<|lookup_mem A
     ·exact AS z
   subst F;exact d A
 ·rcases(hfp b w).2.2.2.1 with z|z
  ·exact I.ok.vJ b o e z
  ·exact absurd (Bl (AO e)<|AL I.ok.Aap z)<|CN _
 ·rcases AB.mp (I.fG b z)with q|q
  ·exact(hfp b w).2.1 q
  ·exact(hfp b w).2.2.1 q
 ·obtain ⟨i,K,j0⟩:=rW O;let(u9,L,G):=caps.at T K;let(m,V,R):=I.loc;let(u,r,l):=R i x v u9 j0<|L.elim (λz=>.inr<|.inl z) λz=>.inr<|.inr z
  refine#[u,r,?_];rcases l with⟨z,_⟩|⟨_,c,D,E⟩
  ·rcases L with q|q<;>(rw[q]at z;cases z)
  ·obtain ⟨N,f⟩:=d G;have e:=a f;rw[D]at e;cases e;refine .inr #[?_,c,f,t E];show(scope.names.map λ(n,k)=>if(k==Cd&&X.env.scope.kind==.function&&X.env.kindOf n==U .cell)then(n,Dv)else(n,k)).lookup x=U _ \/
    (scope.names.map λ(n,k)=>if(k==Cd&&X.env.scope.kind==.function&&X.env.kindOf n==U .cell)then(n,Dv)else(n,k)).lookup x=U _
   rcases R9 with⟨_,q⟩|⟨C,A,B⟩
   ·rw[G]at q;cases q
   ·rw[G]at A;cases A;rw[B];split
    ·exact .inl Y
    ·exact .inr Y
 ·let(v,z):=I.cell x c (a e);exact#[v,t z]
 ·unfold pick;rw[Ac];exact caps.len
end
def AeO(X:Cx)(ifs:L1)(t:TT):Prop:=∀(q4:LN)(s:Ax)(J:St)(H:Hp)(Q:Bool->Hp->Prop),Inv X q4 J H s->t J H Q ->
  AZ (A7 X.prog X.w) X.A (forIn ifs Af λc r=>if r=Af then do let ok <-isTrue c X.env (eval c X.env);pure (IC ok)else pure (IC r)) (TP X q4 J Q) X.xe s
def VZ{X:Cx}:AeO X [] (λ_ H Q=>Q Af H):=λ_ _ _ H _ I h=>wpAny_tests_nil #[H,I,h]
def nT{X:Cx}{c:Expr}{t:TT}(h:PT X c t):AeO X [c] t:=λa s J H Q I b=>wpAny_tests_one (h a s J H Q I b)
def Wk:St->St->Prop
 |[],[]=>True
 |none::r,_::q=>Wk r q
 |some v::r,o::q=>o=U v/\Wk r q
 |_,_=>False
def Wk.len:∀{a b:St},Wk a b->a.length=b.length
 |[],[],_=>rfl
 |none::r,_::q,h=>by simp[Wk.len (a:=r) (b:=q) h]
 |some _::r,_::q,h=>by simp[Wk.len (a:=r) (b:=q) h.2]
 |[],_::_,h=>h.elim
 |none::_,[],h=>h.elim
 |some _::_,[],h=>h.elim
def Wk.get:∀{a b:St}{i:Nat}{v:V},Wk a b->a[i]?=U (U v)->b[i]?=U (U v)
 |[],_,_,_,_,h=>by simp at h
 |none::r,[],_,_,h,_=>h.elim
 |some _::r,[],_,_,h,_=>h.elim
 |none::r,_::q,0,_,_,h=>by simp at h
 | some w::r,o::q,0,v,h,e=>by
   simp at e;subst e;simp[h.1]
 | none::r,_::q,i+1,_,h,e=>by
   have:=Wk.get (a:=r) (b:=q) (i:=i) h (by simpa using e);simpa using this
 | some _::r,_::q,i+1,_,h,e=>by
   have:=Wk.get (a:=r) (b:=q) (i:=i) h.2 (by simpa using e);simpa using this
def Wk.AjY{v:V}:∀{a:St}{i:Nat},a[i]?=U none->Wk a (a.set i<|U v)
 |[],_,h=>by simp at h
 | none::r,0,_=>by
   show Wk r r;exact refl r
 |some _::_,0,h=>by simp at h
 |none::r,i+1,h=>Wk.AjY (a:=r) (i:=i) (by simpa using h)
 |some _::r,i+1,h=>#[Y,Wk.AjY (a:=r) (i:=i)<|by simpa using h]
where refl:∀(r:St),Wk r r
 |[]=>trivial
 |none::r=>refl r
 |some _::r=>#[Y,refl r]
def Wk.set{v:V}{a:St}{i:Nat}(h:a[i]?=U none):Wk a (AgZ a i v):=fF▸Wk.AjY h
def AnC(v9:LV)(J:St)(g:TG)(tt:TT)(te:TE)(j0:It)(H1:Hp)(D:Ae)(Q:VK):Prop:=∃W:Nat->Nat->LM->Hp->Prop,(∃m,W 0 m []<|upd H1 D<|.lst [])/\∀i m ys H2,W i m ys H2 ->
 (j0.stop i H2/\Q (.ref D) H2)\/(j0.go i H2/\∀x H3,j0.AbV i H2 x H3->g x (pick v9 J) H3 λσ4 H4=>Wk (pick v9 J) σ4/\tt σ4 H4 λb H5=>
  if b=Af then te σ4 H5 λy H6=>∃zs,H6 D=U (.lst zs)/\zs.length<sizeLine/\∃m',m'<m/\W (i+1) m' (zs++[y]) (upd H6 D<|.lst<|zs++[y])else∃m',m'<m/\W (i+1) m' ys H5)
def AqM(v9:LV)(g:TG)(tt:TT)(te:TE)(J:St)(Q:VK):It->Hp->Prop:=λj0 H1=>∀D,H1 D=none->AnC v9 J g tt te j0 H1 D Q
abbrev AmO(v9:LV)(wi:TI)(g:TG)(tt:TT)(te:TE):TE:=λJ H Q=>wi J H (AqM v9 g tt te J Q)
section
variable{X:Cx}
def yF{elt iter tg:Expr}{ifs:L1}{scope:Scope}{pos:CQ}{Nc:LK}{v9:LV}{wi:TI}{g:TG}{tt:TT}{te:TE}(hcalm:X.calm=Af)(hi:PI X tg iter wi)(hkind:scope.kind=.function)(hcell:∀y∈scope.names,y.2≠.cell)(hfr:∀y∈scope.names,y.2=.free->X.env.kindOf y.1=U .cell\/X.env.kindOf y.1=U .free)(hnames:∀x∈scope.names,x.2=.local->scope.names.lookup x.1=U .local)(caps:Q2 X scope Nc v9)(hg:∀fp s H,PG (OO X scope Nc fp s H) tg g)(ht:∀fp s H,AeO (OO X scope Nc fp s H) ifs tt)(he:∀fp s H,PE (OO X scope Nc fp s H) elt te)(hs:∀x,Bz iter X.env x=pure x){use:Option (Ai->Ir Unit)}{Q0:Ai->Ax->Prop}{Q:VK}{q4:LN}{s:Ax}{J:St}{H:Hp}{ipos:CQ}(I:Inv X q4 J H s)(h:AmO v9 wi g tt te J H Q)(fin:∀(fp:LL)(s3 s5:Ax)(D:Ae)(H3 H4:Hp),Inv X q4 J H3 s3->(∀b∈fp,Q9 X q4 H3 b)->Inv (OO X scope Nc fp s3 H3) [] (pick v9 J) H4 s5->Q (.ref D) H4->compPost (A7 X.prog X.w) X.A X.xe use Q0 (.ref D) s3.heap.objs.size (.ok .next) s5):
  AZ (A7 X.prog X.w) X.A (comprehension (.ListComp elt [#[tg,iter,ifs,0]] scope pos) scope X.env ipos (newList []) Am (eval iter X.env) use) Q0 X.xe s:=by
 refine wpAny_comprehension_free (use:=use) (g:=#[tg,iter,ifs,0]) (gs:=[]) Y hs (Uj λx hx hf=>I.ok.has _<|hfr x hx hf) hkind hnames<|O2 (hi q4 s J H _ I h) λv s1 y0=>O2 y0 λan E h2=>?_
 let(it,fp,V,j0,k,e,I2,T,u9,f2,hW):=h2;subst e;let(W,(m0,w0),aa):=hW E.heap.objs.size I2.fresh;refine Dr ?_<|Bo _;have I3:=I2.Ai2 (ys:=[]) (its:=[]) (t':=E.toks) .nil<|Bo _;have ah:∀b∈fp,b<E.heap.objs.size:=λb a=>by
  let(o,e,_):=T.obj 0 E.heap u9 b a;exact AO e
 generalize hD:E.heap.objs.size=D at *;have f3:∀b∈fp,Q9 X q4 (upd k D<|.lst []) b:=λb a=>#[by rw[NX<|A9<|ah b a];exact(f2 b a).1,(f2 b a).2]
 generalize hs3:({E with heap:=E.heap.push {cls:=.type "list",data:=.seq ([]:LQ).toArray}}:Ax)=s3 at *;have P:V 0 s3.heap:=T.keep 0 E.heap s3.heap u9 λb _ o e=>by rw[<-hs3];exact Aj _ e
 have R:∀b∈fp,b<s3.heap.objs.size:=λb a=>by
  let(o,e,_):=T.obj 0 s3.heap P b a;exact AO e
 refine FV hcell (by intro y hy;simp at hy) (λy0 ai af=>?_) hkind;have k1:∀b u,s3.heap.get? b=U u->y0.get? b=U u:=λb u e=>(af.2 b<|A9<|AO e).trans (Aj _ e)
 have Ic:=uJ (tk:=s3.toks+([]:Mj).length) I3 hkind hcell hfr caps f3 R ai k1;have j:V 0 y0:=T.keep 0 s3.heap y0 P λb _ o e=>k1 b o e
 have l:∀{f:Hp},(∀b∈fp,f b=none)->∀b∈fp,Q9 (OO X scope Nc fp s3<|upd k D<|.lst []) [] f b:=λ{f}hn b a=>
  #[hn b a,A9<|R b a,λz=>Ic.ok.uQ b a z,.inl a,λx c e=>(Ic.ok.Alx b a).2 x c e,λp hp=>absurd (show p∈([]:LN)from hp) Nu]
 have C:∀(n:Nat)(K:Ax),(∃i ys f,Inv (OO X scope Nc fp s3<|upd k D<|.lst []) [] (pick v9 J) f K/\V i K.heap/\(∀b∈fp,f b=none)/\W i n ys f) ->
   Er (A7 X.prog X.w) X.A (.compLoop (.ListComp elt [#[tg,iter,ifs,0]] scope pos) 0 (.ref it) (.ref D)<|Xp X.env scope s3.heap.objs.size) (compPost (A7 X.prog X.w) X.A X.xe use Q0 (.ref D) s3.heap.objs.size) K:=by
  intro n K hI;refine codeAny_loop Y (λn K=>∃i ys f,Inv (OO X scope Nc fp s3<|upd k D<|.lst []) [] (pick v9 J) f K/\V i K.heap/\(∀b∈fp,f b=none)/\W i n ys f) ?_ n hI;rintro n s4⟨i,ys,H4,I4,j,Z,w4⟩;show AZ _ X.A ((compTurn (.ListComp elt [#[tg,iter,ifs,0]] scope pos) 0 (.ref it) (.ref D)<|Xp X.env scope s3.heap.objs.size).onRaise (λx=>do Kp x (Xp X.env scope s3.heap.objs.size);theTreesLotGoes x)) _ _ s4;refine wpAny_noted ?_;rw[compTurn_list];refine Ad<|DU<|Ad ?_;rcases aa i n ys H4 w4 with⟨S,q⟩|⟨go,O⟩
  ·refine O2 (T.done (OO X scope Nc fp s3<|upd k D<|.lst []) Y Y Y hcalm i [] s4 _ H4 _ I4 (l Z) j S) λr s5⟨hr,I5⟩=>?_
   subst hr;exact wpAny_pure<|fin fp s3 s5 D _ H4 I3 f3 I5 q
  ·refine O2 (T.item (OO X scope Nc fp s3<|upd k D<|.lst []) Y Y Y hcalm i [] s4 _ H4 _ I4 (l Z) j go) λr s5⟨u,hr,h5⟩=>?_
   subst hr;refine Ad<|O2 h5 λ_ s6⟨x,H6,I6,r6,y6,F,ac⟩=>?_
   have aj:=I6.pinned (l ac)<|T.obj _ _ F;refine Ad<|BL (hg fp s3 (upd k D<|.lst []) _ s6 _ H6 x u _ aj r6<|O x H6 y6) (λ_ s7⟨ab,H7,I7,wk,q7⟩=>?_) λ_ _ z=>z.elim
   have t:∀{M:Ax}{L:Hp}{G:LM},Inv (OO X scope Nc fp s3<|upd k D<|.lst []) ([]++SR fp s6.heap) ab L M->(∃m',m'<n/\W (i+1) m' G L) ->
     ∃m,m<n/\∃i ys f,Inv (OO X scope Nc fp s3<|upd k D<|.lst []) [] (pick v9 J) f M/\V i M.heap/\(∀b∈fp,f b=none)/\W i m ys f:=λ{M L G}N⟨m',hm,w8⟩=>by
    refine#[m',hm,i+1,G,L,N.Sg.weak wk.len λi v e=>wk.get e,T.keep _ _ _ F λb a o e=>(N.pin (b,o)<|AV _<|AV _<|Pq a e).1,λb a=>?_,w8];let(o,e,d):=T.obj _ _ F b a;exact(N.pin (b,o)<|AV _<|AV _<|Pq a e).2.1
   refine Ad<|BL (ht fp s3 (upd k D<|.lst []) _ s7 ab H7 _ I7 q7) (λb M⟨L,N,q8⟩=>?_) λ_ _ z=>z.elim
   cases b with
   |false=>rw[Aq AI]at q8;exact wpAny_pure #[Y,t N q8]
   |true=>
     rw[Az Y]at q8;refine Ad<|Ad<|BL (he fp s3 (upd k D<|.lst []) _ M ab L _ N q8) (λy s9⟨yv,H9,I9,r9,zs,ad,ak,q9⟩=>?_) λ_ _ z=>z.elim
     refine Ad<|BL (VT (X:=OO X scope Nc fp s3<|upd k D<|.lst []) _ s9 ab H9 (.ref D) [yv] (.ref D) [y] (λ_ f=>f=upd H9 D (.lst<|zs++[yv])) I9 Y (.cons r9 .nil) #[D,zs,yv,Y,Y,ad,ak,Y]) (λ_ al⟨_,am,ae,_,ag⟩=>?_) λ_ _ z=>z.elim
     subst ag;exact wpAny_pure<|wpAny_pure #[Y,t ae q9]
 have B:∀b∈fp,(upd k D<|.lst []) b=none:=λb a=>(f3 b a).1
 exact codeAny_compStart_list (C m0 _ #[0,[],_,Ic,j,B,w0]) (T.self X.A 0 _ _ _ j<|C m0 _ #[0,[],_,Ic,j,B,w0])
def kO{elt iter tg:Expr}{ifs:L1}{scope:Scope}{pos:CQ}{Nc:LK}{v9:LV}{wi:TI}{g:TG}{tt:TT}{te:TE}(hcalm:X.calm=Af)(hi:PI X tg iter wi)(hkind:scope.kind=.function)(hcell:∀y∈scope.names,y.2≠.cell)(hfr:∀y∈scope.names,y.2=.free->X.env.kindOf y.1=U .cell\/X.env.kindOf y.1=U .free)(hnames:∀x∈scope.names,x.2=.local->scope.names.lookup x.1=U .local)(caps:Q2 X scope Nc v9)(hg:∀fp s H,PG (OO X scope Nc fp s H) tg g)(ht:∀fp s H,AeO (OO X scope Nc fp s H) ifs tt)(he:∀fp s H,PE (OO X scope Nc fp s H) elt te)(hs:∀x,Bz iter X.env x=pure x:=by intro _;rfl):PE X (.ListComp elt [#[tg,iter,ifs,0]] scope pos) (AmO v9 wi g tt te):=by
 intro A s J H Q I h;refine yF hcalm hi hkind hcell hfr hnames caps hg ht he hs I h λfp w M D B t C m j q=>?_
 let(G,r,_):=j.loc;refine#[G,r,λE p=>?_];have i:∀b o,w.heap.get? b=U o->b≠w.heap.objs.size:=λb o e=>A9<|AO e
 have f:=j.base;have K:Un _ fp B t _ E:=#[λb o e n d l=>(p.2 b<|i b o e).trans (f.keep b o e n d l),λb o e n d l=>by
   let(F,q):=f.slot b o e n d l;exact#[F,(p.2 b<|i b o e).trans q],f.free,λb o e l=>by
   let(j0,q):=f.there b o e l;exact#[j0,(p.2 b<|i b o e).trans q],f.Xd,f.UX,f.We]
 have k:=λb u e=>by
  have a:t w.heap.objs.size=none:=j.free;refine(j.Oj b u e).Xb (λc v L q=>(p.2 c ?_).trans q) (λ_ q=>q) λ_ _ q=>q
  rintro rfl;rcases L with z|z
  ·rw[<-z,a]at e;cases e
  ·rw[a]at z;cases z
 refine#[.ref D,t,?_,Y,q];exact Inv.xH C j.os K k j.bare λb d=>#[(m b d).2.2.2.1,(m b d).2.1,(m b d).2.2.2.2.1,(m b d).2.2.2.2.2]
end
section
variable{X:Cx}
def XW{i₀:Nat}{x₀:Ay}{pos₀ spos:CQ}{elt iter tg:Expr}{ifs:L1}{scope:Scope}{pos:CQ}{Nc:LK}{v9:LV}{wi:TI}{g:TG}{tt:TT}{te:TE}(hN:X.N.Nodup)(hi₀:X.N[i₀]?=U x₀)(hx₀:Loc X.env.scope x₀)(hcalm:X.calm=Af)(hi:PI X tg iter wi)(hkind:scope.kind=.function)(hcell:∀y∈scope.names,y.2≠.cell)(hfr:∀y∈scope.names,y.2=.free->X.env.kindOf y.1=U .cell\/X.env.kindOf y.1=U .free)(hnames:∀x∈scope.names,x.2=.local->scope.names.lookup x.1=U .local)(caps:Q2 X scope Nc v9)(hg:∀fp s H,PG (OO X scope Nc fp s H) tg g)(ht:∀fp s H,AeO (OO X scope Nc fp s H) ifs tt)(he:∀fp s H,PE (OO X scope Nc fp s H) elt te)(hs:∀x,Bz iter X.env x=pure x:=by intro _;rfl)(hsw:swapsWith (.ListComp elt [#[tg,iter,ifs,0]] scope pos) (U<|.Name x₀ pos₀) spos.line X.env=pure Af:=by rfl)(hf₀:X.fn x₀=Af\/X.env.scope.names.lookup x₀=U .local:=by first|exact .inl rfl|exact .inr rfl|assumption):PS X (.Assign [.Name x₀ pos₀] (.ListComp elt [#[tg,iter,ifs,0]] scope pos) spos) (Ag1 (AmO v9 wi g tt te)<|Wi i₀):=by
 intro n s J H K I h;rw[exec_Assign_Name_used _ _ _ _ hsw];refine Ad<|DU<|Ad ?_;refine Ad<|BL (yF hcalm hi hkind hcell hfr hnames caps hg ht he hs I h λfp A L D G p m i d q=>?_) (λ_ E r=>wpAny_pure<|wpAny_pure r) λ_ _ e=>e
 let(w,j,_):=d.loc;have u:=d.base;have f:=Inv.xH m d.os u d.Oj d.bare λb c=>#[(i b c).2.2.2.1,(i b c).2.1,(i b c).2.2.2.2.1,(i b c).2.2.2.2.2]
 have a:=m.V9 (Ap _) d.free;refine J9<|lD (v:=.ref D) f hN hi₀ hx₀ Y (λF t⟨z,C,B⟩=>?_) hf₀;have l:A.heap.objs.size≠z:=by
  rintro rfl;rcases B with e|e
  ·exact a.2.1 e
  ·exact a.2.2.2.2.1 x₀ _ e Y
 refine#[w,j.sameBut C l,λj0 k=>#[J.set i₀<|U<|.ref D,p,?_,(fF▸q:_)]];exact t.turned (λb o c e=>(k.2 b c).trans e) a.1 a.2.1 a.2.2.2.1 a.2.2.2.2.1 a.2.2.2.2.2
end
def AkC(x:Ay):It:=#[λi _=>i<x.cps.size,λi H v H'=>H'=H/\∃c,x.cps[i]?=U c/\v=.str ⟨(zTo [c])⟩,λi _=>x.cps.size<=i]
def AeB{K:Ab}{tg:Expr}(it:Ae)(ty:String)(hty:ty="str_ascii_iterator"\/ty="str_iterator")(x:Ay)(t:Ks):Turn P w K tg (AkC x) [it] it (λi h=>h.IsStrIter it ty x t i) where
 mem:=Nu
 obj:=λi h a b g=>by
  have e:b=it:=by simpa using g
  subst e;let(o,e,c,d):=a;exact#[o,e,λv z=>by rw[d]at z;cases z]
 keep:=λi h j a k=>let⟨o,e,r⟩:=a;#[o,k it Nu o e,r]
 item:=by
  intro X M L G N i f s J H E I y a F;subst M L G;let(p,q,R,D,C,B):=y it Nu;have l:i<x.cps.size:=F;have m:∀j,j.IsStrIter it ty x t (i+1)->De it s.heap j->∃u,U (Fy ⟨(zTo [x.cps[i]])⟩ s.toks)=U u /\
    AZ (A7 X.prog X.w) X.A (FH tg (.ref it) u) (λ_ O=>∃v H',Inv X f J H' O/\RelV v u/\(AkC x).AbV i H v H'/\O.heap.IsStrIter it ty x t (i+1)/\∀b∈[it],H' b=none) E {s with heap:=j,toks:=s.toks+1}:=λj n S=>by
   have Q:Inv X f J H {s with heap:=j,toks:=s.toks+1}:=I.turned (λb o g e=>(S.2 b g).trans e) p q D C B;let(o,e,c,d):=id n;exact#[_,Y,qF (s:={s with heap:=j,toks:=s.toks+1}) e c d (by rcases hty with rfl|rfl<;>decide) #[.str ⟨(zTo [x.cps[i]])⟩,H,Q,#[_,Y],#[Y,_,by simp[l],Y],n,λb g=>(y b g).1]]
  rcases hty with rfl|rfl
  ·exact wpAny_pyNext_ascii_item a (c:=x.cps[i]) (by simp[l]) m
  ·exact wpAny_pyNext_wide_item a (c:=x.cps[i]) (by simp[l]) m
 done:=by
  intro X M L G N i f s J H E I y a F;subst M L G;let(p,q,R,D,C,B):=y it Nu;have l:x.cps.size<=i:=F;rcases hty with rfl|rfl
  ·exact wpAny_pyNext_ascii_end (I.ok.hd N) a (by simp[l]) λj j0=>#[Y,I.turned (t':=s.toks) (λb o g e=>j0 b o g e) p q D C B]
  ·exact wpAny_pyNext_wide_end (I.ok.hd N) a (by simp[l]) λj j0=>#[Y,I.turned (t':=s.toks) (λb o g e=>j0 b o g e) p q D C B]
 self:=λ_ _ _ _ _ a h=>by
  rcases hty with rfl|rfl
  ·exact wpAny_pyIter_striter_ascii a h
  ·exact wpAny_pyIter_striter_wide a h
def Aol(tl:TE):TI:=λJ H R=>tl J H λx H1=>∃z,x=.str z/\R (AkC z) H1
def AdO{tg:Expr}(hl:PE X l tl):PI X tg l (Aol tl):=by
 intro a s J H R I h;refine O2 (hl a s J H _ I h) λv d⟨x,k,i,m,n⟩=>?_
 let(z,e,q):=n;subst e;let(t,rfl):=m;have c:∀f,(f="str_ascii_iterator"\/f="str_iterator")->AnJ X a J tg R _ {d with heap:=d.heap.push {cls:=.type f,data:=.fields _}}:=λf g=>by
  refine#[d.heap.objs.size,[d.heap.objs.size],_,_,k,Y,i.kept λb o e=>Aj _ e,AeB _ f g z t,#[_,AR _ Y,Y,Y],λb p=>?_,q];have e:b=d.heap.objs.size:=by simpa using p
  subst e;exact i.V9 (Ap _)<|i.Oj.fresh<|Ap _
 cases j:z.cps.all _
 ·exact wpAny_pyIter_wide j<|c _<|.inr Y
 ·exact wpAny_pyIter_ascii j (c _<|.inl Y)
structure AkQ(j0:It)(H1:Hp)(xs:LM):Prop where
 go:∀i H,Ob H1 H->i<xs.length->j0.go i H
 AbV:∀i H x H',Ob H1 H->i<xs.length->j0.AbV i H x H'->H'=H/\xs[i]?=U x
 stop:∀H,Ob H1 H->j0.stop xs.length H
def Ob.Ael{K:Ab}(e:Ob H H')(h:RE K H a xs):RE K H' a xs:=by
 rcases h with(h|⟨o,h⟩)|h
 ·exact .inl<|.inl<|e _ _ h
 ·exact .inl<|.inr #[o,e _ _ h]
 ·exact .inr h
def cU{K:Ab}(h:PX K H1 a xs):AkQ (AkB K a) H1 xs:=#[λi H s b=>#[xs,xs[i],s.seq h,by simp[b]],λi H x c s b y=>#[y.1,y.2 xs<|s.seq h],λH s=>#[xs,s.seq h,Ap _]]
def AfD{K:Ab}(h:RE K H1 a xs):AkQ (AnA K a) H1 xs:=#[λi H s b=>#[xs,xs[i],s.Ael h,by simp[b]],λi H x c s b y=>#[y.1,y.2 xs<|s.Ael h],λH s=>#[xs,s.Ael h,Ap _]]
def AaS{lo:Int}{n:Nat}:AkQ (AbO lo n) H1 ((Ba n).map λi=>V.int<|lo+(i:Nat)):=#[λi H s a=>by simpa[AbO]using a,λi H x b s a y=>#[y.1,by
  have a:i<n:=by simpa using a
  rw[Ag,CH a];exact congrArg U y.2.symm],λH s=>by simp[AbO]]
def yA:AkQ (AkC x) H1 (x.cps.toList.map λc=>V.str ⟨(zTo [c])⟩):=#[λi H s a=>by simpa[AkC]using a,λi H v d s a y=>#[y.1,by
  let(c,b,rfl):=y.2;rw[Ag,Cu,b];rfl],λH s=>by simp[AkC]]
def WX(L:AkQ j0 H1 xs)(hz:xs.length<=sizeLine)(hD:H1 D=none)(p:V->Bool)(f:V->V)(hs:∀(i:Nat)x H(R:V->Hp->Prop)(R':Hp->Prop),xs[i]?=U x->Ob H1 H->(∀H6,p x=Af->Ob H H6->R (f x) H6)->(∀H6,p x=Am->Ob H H6->R' H6) ->
   g x (pick v9 J) H λσ4 H4=>Wk (pick v9 J) σ4/\tt σ4 H4 λb H5=>if b=Af then te σ4 H5 R else R' H5)(hq:∀H',H' D=U (.lst<|(xs.filter p).map f)->Ob H1 H'->Q (.ref D) H'):AnC v9 J g tt te j0 H1 D Q:=by
 have a:∀{H:Hp}{o:HO},Ob H1 H->Ob H1 (upd H D o):=λ{H o}s b u e=>by
  rw[NX<|Oc e hD];exact s b u e
 refine#[λi m l H=>m=xs.length-i/\i<=xs.length/\l=((xs.take i).filter p).map f/\H D=U (.lst l)/\Ob H1 H,#[xs.length,Nu,Bo _,Nu,N1,a<|Ob.refl _],?_];rintro i m l k⟨rfl,z,c,n,h⟩;by_cases d:i<xs.length
 ·refine .inr #[L.go i k h d,λx v y=>?_];let(e,t):=L.AbV i k x v h d y;subst e;have r:(xs.take<|i+1)=xs.take i++[x]:=by rw[Cr,t];rfl
  have w:l.length<=i:=by rw[c,Ac];exact AL (BK _ _) (by rw[Bm];omega)
  refine hs i x v _ _ t h (λH6 q j=>#[_,j _ _ n,Nr,xs.length-(i+1),Nr,Y,d,?_,N1,a<|h.trans j]) (λH6 q j=>#[xs.length-(i+1),Nr,Y,d,?_,j _ _ n,h.trans j])
  ·rw[r,DI,AU,<-c];simp[q]
  ·rw[r,DI,AU,<-c];simp[q]
 ·have e:i=xs.length:=Nr;subst e;rw[BI]at c;exact .inl #[L.stop k h,hq k (by rw[<-c];exact n) h]
section
variable{X:Cx}
def Ad6(K₀:Ab):LM->Hp->VK->Prop:=λxs H Q=>∃x n t b,xs=[x,.ty n]/\Xl K₀ H x t/\Gn K₀ t (.type n)=U b/\Q (.bl b) H
def Sr{K₀:Ab}{N4:Hp}[hK:Ol X K₀ N4]:QA X (.builtin "isinstance") (Ad6 K₀):=by let(rfl,rfl):=hK;intro a s J H j i Q I r h;let(x,n,t,b,rfl,f,e,q):=h;let(u,v,rfl,d,g):=r.two;cases g;exact AaQ I d f e λc=>#[.bl b,H,I.tok c,Y,q]
def Ams(K₀:Ab):LM->Hp->VK->Prop:=λxs H Q=>∃(a:Ae)(bs:List Bool),xs=[.ref a]/\PX K₀ H a (bs.map V.bl)/\Q (.bl<|bs.all id) H
def bK(hc:X.calm=Af){K₀:Ab}{N4:Hp}[hK:Ol X K₀ N4]:QA X (.builtin "all") (Ams K₀):=by
 let(rfl,rfl):=hK;intro l s J H T u9 Q I r h;let(a,d,rfl,G,q):=h;let(u,rfl,M):=vals1 r;cases M;let(g,y,z,S):=I.list G;have t:a<s.heap.objs.size:=by let(o,n,e,_):=z;exact AO e
 refine call_all_walk<|GD z.isList ?_;refine#[s.heap.objs.size,_,_,_,_,_,λi=>(d[i]?).getD Am,Y,GJ (A:=X.A.in1) ((I.ok.hd hc)) _ a (A9 t) _,#[#[_,AR _ Y,Y,Y],z.isList.push _],?_,λO P F=>?_]
 ·intro i v D j0 R C m;have p:=y.length;rw[Ac]at p;have f:i<g.length:=by simpa using(Ah.mp<|by simpa using C).1
  have j:i<d.length:=Nr;have K:(d.map V.bl)[i]?=U (.bl d[i]):=by simp[j]
  let(N,w,x):=y.get K;have B:g[i]?=U v:=by simpa using C
  rw[w]at B;cases B;cases x;refine CJ ?_;have L:(d[i]?).getD Am=d[i]:=by simp[j]
  have m:j0 ((d[i]?).getD Am) D:=m;rw[L]at m;exact m
 ·have p:=y.length;rw[Ac]at p;have e:((Ba g.toArray.size).all λi=>(d[i]?).getD Am)=d.all id:=by
   rw[Aw,<-p,BN,Bj,Bj];constructor
   ·intro c b j;let(i,f,rfl):=List.mem_iff_getElem.mp j;have:=c i<|Ci.mpr f;simpa[f]using this
   ·intro c i f;have f:=Ci.mp f;have:=c d[i] (Dy f);simpa[f]using this
  refine#[.bl _,H,?_,by rw[e];rfl,q];have E:Inv X l J H {s with heap:=s.heap.push {cls:=.type "list_iterator",data:=.fields (zTo [.ref a,.int 0 0])}}:=I.kept λb o e=>Aj _ e
  have k:=I.V9 (Ap _)<|I.Oj.fresh<|Ap _;exact E.turned (λb o j e=>F b o (by simpa using j) e) k.1 k.2.1 k.2.2.2.1 k.2.2.2.2.1 k.2.2.2.2.2
def T7:∀{us:LQ},Vals (ys.map V.str) us->Kh us ys:=by
 induction ys with
 |nil=>intro us r;cases r;exact .nil
 |cons y ys ih=>
   intro us r;cases r with
   |cons r rr=>let(t,rfl):=r;exact .cons _ _ (ih rr)
def rJoin(K:Ab):V->LM->Hp->VK->Prop:=λx vs H Q=>∃(z:Ay)(a:Ae)(ys:LK),x=.str z/\vs=[.ref a]/\PX K H a (ys.map V.str)/\(ys.map (·.length)).sum+ys.length*z.length<=16777216/\Q (.str<|Fb z ys) H
def AfW{K₀:Ab}{N4:Hp}[hK:Ol X K₀ N4]:Ae0 X "str.join" (rJoin K₀):=by let(rfl,rfl):=hK;intro b s J H x m v l Q I g i h;let(z,a,n,rfl,rfl,c,j,q):=h;let(t,rfl):=g;let(u,rfl,e):=i.one;cases e;let(d,r,f,_):=I.list c;exact join_list f.isList (by simpa using T7 r) j λo k=>#[.str _,H,I.tok k,#[_,Y],q]
def kM:TM X (Bh .LtE) (λx y H Q=>∃i j,x=.str i/\y=.str j/\Q (.bl<|!decide (j.cps.toList<i.cps.toList)) H):=by intro a s J H x y v u Q I c b h;let(i,j,rfl,rfl,q):=h;let(t,rfl):=c;let(d,rfl):=b;exact PySem.P.le_str (OB I q Y)
end
namespace Boot
def b_isinstance:BG "isinstance"=U (.builtin "isinstance"):=Np
def b_len:BG "len"=U (.builtin "len"):=Np
def b_all:BG "all"=U (.builtin "all"):=Np
def b_min:BG "min"=U (.builtin "min"):=Np
def b_max:BG "max"=U (.builtin "max"):=Np
def b_sorted:BG "sorted"=U (.builtin "sorted"):=Np
def b_int:BG "int"=U (.type "int"):=Np
def b_str:BG "str"=U (.type "str"):=Np
def b_bool:BG "bool"=U (.type "bool"):=Np
def b_list:BG "list"=U (.type "list"):=Np
def b_dict:BG "dict"=U (.type "dict"):=Np
def b_set:BG "set"=U (.type "set"):=Np
def b_range:BG "range"=U (.type "range"):=Np
def b_enumerate:BG "enumerate"=U (.type "enumerate"):=Np
end Boot
structure wY(P:Bn)(w:Bw)(K:Ab)(mg:Ay->LX)(base:BM)(k:Nat)(x:Ay)(ps:LK)(sp:Sp):Prop where
 ex:∃(f:Ae)(fd:Cz),Sl P w K mg base pL k f fd ps sp/\mg x=U (.ref f)/\BA K (.ref f)=Af/\Binds K fd ps []/\∃oc od osl,K.lookup f=U #[oc,od,.func fd,osl]
structure wW(K:Ab)(mg:Ay->LX)(x:Ay)(st:Bi)(ps:LK):Prop where
 ex:∃(f:Ae)(fd:Cz),Ahi K x x st f fd/\mg x=U (.ref f)/\Binds K fd ps []
section
variable{P:Bn}{w:Bw}{K:Ab}{mg:Ay->LX}{base:BM}
def wW.has{st:Bi}{k:Nat}(d:wW K mg x st ps)(S:O3 N ps (NW st))(hbody:∀(f:Ae)(cdv:Ai)(A:BS)(outer:Mc)(s:Ax)(H:Hp)(vs:LM)(Q:VK)(E:XK),Oo k (A.deeper<|DF x (NW st) s.heap.objs.size f cdv)->sp vs H Q E ->
   ∃t,QB (UK pL P w K mg base N x (NW st) f cdv A outer s H E).AbT (Oa st) t/\t {nx:=λ_ H'=>Q .OH H',rt:=Q} (start N vs) H)(len:∀vs H Q E,sp vs H Q E->vs.length=ps.length:=by walk_at"l"):wY P w K mg base (k+1) x ps sp:=by
 let(f,c,F,b,m):=d.ex;let(l,g,p,j,o,n,cdv,q,a,e,h,i):=F.ex;exact#[f,c,F.ok S len<|hbody f,b,F.kp,m,l,g,a,h]
def wY.fn{k:Nat}{f:Ae}(u9:wY P w K mg base k x ps sp)(m:mg x=U (.ref f))(l:K.lookup f=U #[oc,od,.func fd,osl]):Sl P w K mg base pL k f fd ps sp:=by let(h,b,F,c,_,_,e,g,a,d):=u9.ex;rw[c]at m;cases m;rw[d]at l;cases l;exact F
def Aci{st:Bi}{f:Ae}{kV:Ai}(X:K.In h)(G:h.Ns AK mg)(a:AX K AK x=U (U<|.ref f))(l:K.lookup f=U #[oc,od,.func<|Bs x x (OE st) (Oa st) (NW st) .none kV doc pm an cdv ct,osl])(c:DK K cdv x=Af)(k:BA K (.ref f)=Af)(b:∀(kV doc pm:Ai)(an:LZ)(cdv ct:Ai)(us:LQ),us.length=ps.length->Cf (Bs x x (OE st) (Oa st) (NW st) .none kV doc pm an cdv ct) #[us,[]]=pure (ps.zip us)):wW K mg x st ps:=#[f,_,YB l c k,Bg X G a,(YB l c k).binds b]
end
section
variable{X:Cx}{k:Nat}{x:Ay}{ps:LK}{sp:Sp}{p pos:CQ}{e:Expr}{es:L1}{t:TA}
def Ajx(u9:wY X.prog X.w X.K X.mg X.base k x ps sp){n:Nat}(hr:Oo n X.A)(ha:PA X (e::es) t)(hdb:(x==("__debug__":Ay))=Am:=by decide)(he:AG (e::es) X.env=(Am,eval e X.env)::AG es X.env:=by rfl)(hpl:(BP pos<|AG es X.env).any (·.1)=Am:=by rfl)(hn:k<=n:=by decide)(hg:Gl X x:=by rfl):PE X (.Call (.Name x p) (e::es) [] pos) (zO sp [] E0 t):=by let(f,d,F,a,b,c,_):=u9.ex;exact Agd F (hr.mono hn) hg a b c .nil rT ha hdb he hpl
def Rc{scope sc0:Scope}(h:X.env.scope=sc0)(hd:∀y∈scope.names,y.2=.free->sc0.names.lookup y.1=U .cell\/sc0.names.lookup y.1=U .free):∀y∈scope.names,y.2=.free->X.env.kindOf y.1=U .cell\/X.env.kindOf y.1=U .free:=λy a b=>by
 subst h;exact hd y a b
def PB:Q2 X scope [] []:=trivial
def Qj(h:Q2 X scope r q):Q2 X scope (y::r) (none::q):=h
def Qh(h1:X.N[i]?=U y)(h2:X.env.kindOf y=U .cell\/X.env.kindOf y=U .free)(h3:scope.names.lookup y=U .free)(h:Q2 X scope r q):Q2 X scope (y::r) (U i::q):=#[#[h1,h2,h3],h]
end
def cV{K:Ab}{n:String}(hn:n∈["NoneType","bool","int","str","list","tuple","dict"])(hc:c∈["bool","int","str","list","tuple","dict"]):Gn K (.type n) (.type c)=U (n==c||(n == "bool"&&c == "int")):=by
 simp only[AB,CO,F3]at hn hc;rcases hn with rfl|rfl|rfl|rfl|rfl|rfl|rfl<;>rcases hc with rfl|rfl|rfl|rfl|rfl|rfl<;>rfl
def lH(mg:Ay->LX)(x:Ay)(v:V):Prop:=∃u,mg x=U u/\RelV v u
def Va{pos:CQ}(hg:Gl X x)(h:lH X.mg x v)(hd:(x==("__debug__":Ay))=Am:=by decide):PE X (.Name x pos) (tC v):=by let(u,a,r):=h;exact Agg hg a r hd
def vA{p A B:Prop}[Decidable p](h1:p->A)(h2:¬ p->B):if decide p=Af then A else B:=by
 by_cases h:p
 ·rw[Az<|Ao h];exact h1 h
 ·rw[Aq<|by simpa using h];exact h2 h
def Aop{A B:Prop}(h1:a=b->A)(h2:¬ a=b->B):if decide (V.int a=V.int b)=Af then A else B:=vA (λh=>h1 (by cases h;rfl)) λh=>h2 λe=>h (by rw[e])
def AlH{A B:Prop}(h1:a=b->A)(h2:¬ a=b->B):if decide (V.str a=V.str b)=Af then A else B:=vA (λh=>h1 (by cases h;rfl)) λh=>h2 λe=>h (by rw[e])
def AlG{A B:Prop}(h1:b=Af->A)(h2:b=Am->B):if b=Af then A else B:=by
 cases b
 ·exact h2 Y
 ·exact h1 Y
def AiG{A B:Prop}(e:b=Am)(h:B):if b=Af then A else B:=by rw[Aq (by rw[e];decide)];exact h
def Aoo{p A B:Prop}[Decidable p](e:b=decide p)(h1:p->A)(h2:¬ p->B):if b=Af then A else B:=by subst e;exact vA h1 h2
def OV{j:Int}(h:0<j):0<j:=h
def Ae6(h0:0<=i)(h:xs[i.toNat]?=U v):fZ xs i=U v:=by have a:=(Ah.mp h).1;unfold fZ AbS;rw[Az h0,Az Nr];exact h
def Ob.upd(s:Ob H H1)(n:H1 p=none):Ob H (upd H1 p o):=λb u e=>by
 rw[NX<|Oc (s b u e) n];exact s b u e
abbrev kinds:List String:=["NoneType","bool","int","str","list","tuple","dict"]
structure Thing(K:Ab)(H:Hp)(x:V)(n:String):Prop where
 ty:Xl K H x (.type n)
 mem:n∈kinds
def Thing.Adg{K:Ab}{n:String}(h:Thing K H x n)(hn:n≠"str"):∀z,x≠.str z:=λz e=>by
 subst e;have t:=h.ty;generalize hv:Ey n=v at t;cases t;cases hv;exact hn Y
def Thing.AhG{K:Ab}(h:Thing K H x "str"):∃z,x=.str z:=by have t:=h.ty;generalize hv:Ey "str"=v at t;cases t<;>first|exact#[_,Y]|(simp at hv)
def Thing.Ajh{K:Ab}{n:String}(h:Thing K H x n)(hn:n≠"int"):∀z,x≠.int z:=λz e=>by
 subst e;have t:=h.ty;generalize hv:Ey n=v at t;cases t;cases hv;exact hn Y
def Thing.AlF{K:Ab}(h:Thing K H x "int"):∃z,x=.int z:=by have t:=h.ty;generalize hv:Ey "int"=v at t;cases t<;>first|exact#[_,Y]|(simp at hv)
def Ab6(d:α)(h0:0<=i)(h:i<xs.length):fZ xs i=U (xs.getD i.toNat d):=by refine Ae6 h0 ?_;have a:i.toNat<xs.length:=Nr;simp[List.getD,a]
def lZ:LM->LM->Bool
 |[],[]=>Af
 |x::xs,y::ys=>pN x y&&lZ xs ys
 |_,_=>Am
def bT:∀{xs ys:LM},xs.length≠ys.length->lZ xs ys=Am
 |[],[],h=>absurd Y h
 |[],_::_,_=>rfl
 |_::_,[],_=>rfl
 | x::xs,y::ys,h=>by
   unfold lZ;rw[bT (xs:=xs) (ys:=ys) (λe=>h<|by simp[e]),D0]
def mC:∀{xs ys:LM},xs.length=ys.length->(Ba xs.length).all (λi=>pN ((xs[i]?).getD .OH)<|(ys[i]?).getD .OH)=lZ xs ys
 |[],[],_=>rfl
 |[],_::_,h=>by simp at h
 |_::_,[],h=>by simp at h
 | x::xs,y::ys,h=>by
   have a:=mC (xs:=xs) (ys:=ys) (by simpa using h);rw[AM,HK,CM,Ck];unfold lZ;rw[<-a];rfl
def aQ(r:Vals xs us)(q:Vals ys ws)(fx:xs.all Pr=Af)(fy:ys.all Pr=Af):∀j(h1:j<us.toArray.size)(h2:j<ws.toArray.size),BV A s us.toArray[j] ws.toArray[j] (pN ((xs[j]?).getD .OH)<|(ys[j]?).getD .OH):=by
 intro j h1 h2;simp only[Aw]at h1 h2;have i:=r.length;have k:=q.length;have b:j<xs.length:=Nr;have c:j<ys.length:=Nr;let(u,g,f):=r.get<|Al b;let(w,d,a):=q.get<|Al c;have e:us.toArray[j]=u:=by have:=Al h1;rw[g]at this;simpa using(AS this).symm
 have h:ws.toArray[j]=w:=by have:=Al h2;rw[d]at this;simpa using(AS this).symm
 rw[e,h,Al b,Al c];exact uP f a (Bj.mp fx _<|Dy b) (Bj.mp fy _<|Dy c)
section
variable{X:Cx}
def AjT(hu:X.A.units<CU)(I:Inv X q4 J H s)(h:(PX X.K H p xs/\PX X.K H q ys)\/(RE X.K H p xs/\RE X.K H q ys))(fx:xs.all Pr=Af)(fy:ys.all Pr=Af):FP X.A s (.ref p) (.ref q) (lZ xs ys)/\Fd X.A s (.ref p) (.ref q) (!lZ xs ys):=by
 rcases h with⟨n,m⟩|⟨n,m⟩
 ·obtain ⟨f,r,d,_⟩:=I.list n;let(g,c,a,_):=I.list m;have j:=r.length;have l:=c.length;by_cases e:xs.length=ys.length
  ·have b:f.toArray.size=g.toArray.size:=by simp only[Aw];omega
   have k:(Ba f.toArray.size).all (λi=>pN ((xs[i]?).getD .OH)<|(ys[i]?).getD .OH)=lZ xs ys:=by rw[Aw,<-j];exact mC e
   rw[<-k];exact#[HD d.isList a.isList b hu<|aQ r c fx fy,GU d.isList a.isList b hu<|aQ r c fx fy]
  ·have b:(f.toArray.size != g.toArray.size)=Af:=by simp only[Aw,bne_iff_ne];omega
   rw[bT e];exact#[Et d.isList a.isList b hu,D7 d.isList a.isList b hu]
 ·obtain ⟨f,r,d,_⟩:=I.tuple n;let(g,c,a,_):=I.tuple m;have j:=r.length;have l:=c.length;have k:((Ba<|min f.toArray.size g.toArray.size).all (λi=>pN ((xs[i]?).getD .OH)<|(ys[i]?).getD .OH)&&f.toArray.size==g.toArray.size)=lZ xs ys:=by
   by_cases e:xs.length=ys.length
   ·rw[Aw,Aw,<-j,<-l,<-e,Fj,mC e];simp
   ·rw[bT e,Aw,Aw,<-j,<-l,Cn.mpr e,D0]
  rw[<-k];exact#[Hy d a hu<|aQ r c fx fy,GL d a hu<|aQ r c fx fy]
end
section
open PySem.Builtin.Str
def OX(c:Nat):L8->Ml
 |[]=>[[]]
 |a::l=>if a=c then[]::OX c l else(match OX c l with|p::r=>(a::p)::r|[]=>[[a]])
def AbE(c:Nat):∀l,OX c l≠[]
 |[]=>by simp[OX]
 | a::l=>by
   unfold OX;split
   ·simp
   ·split<;>simp
def Vv:∀{p:L8},c∉p->OX c p=[p]
 |[],_=>rfl
 | a::p,h=>by
   have b:=Vv (p:=p) λm=>h<|AD _ m
   unfold OX;rw[Aq (λe:a=c=>h (by rw[e];exact AW)),b]
def T6:∀{p:L8},c∉p->OX c (p++c::l)=p::OX c l
 | [],_=>by
   show OX c (c::l)=_;rw[OX,Az Y]
 | a::p,h=>by
   have b:=T6 (l:=l) (p:=p) λm=>h<|AD _ m
   show OX c (a::(p++c::l))=_;rw[OX];rw[Aq (λe:a=c=>h (by rw[e];exact AW)),b]
def jX(c:Nat):Ml->L8
 |[]=>[]
 |[p]=>p
 |p::q::r=>p++c::jX c (q::r)
def ZG:∀{ps:Ml},ps≠[]->(∀p∈ps,c∉p)->OX c (jX c ps)=ps
 |[],h,_=>absurd Y h
 |[p],_,h=>Vv<|h p AW
 | p::q::r,_,h=>by
   unfold jX;rw[T6<|h p AW,ZG Nu λx a=>h x<|AD _ a]
def qR(c:Nat):∀ps:LK,(Fc ⟨(zTo [c])⟩ ps).cps.toList=jX c (ps.map (·.cps.toList))
 |[]=>rfl
 |[p]=>rfl
 | p::q::r=>by
   have a:=qR c (q::r);have e:Fc ⟨(zTo [c])⟩ (p::q::r)=p++⟨(zTo [c])⟩++Fc ⟨(zTo [c])⟩ (q::r):=rfl;rw[e];show(p.cps++(zTo [c])++(Fc ⟨(zTo [c])⟩ (q::r)).cps).toList=_;simp only[ID,a,Au,jX];simp
def lB(x:Ay)(c:Nat):(Dk x ⟨(zTo [c])⟩).map (·.cps.toList)=OX c x.cps.toList:=by
 have f:=StrLaws.join_split x ⟨(zTo [c])⟩;have d:=StrLaws.split_free x c;have g:=split_pos x ⟨(zTo [c])⟩;have e:x.cps.toList=jX c ((Dk x ⟨(zTo [c])⟩).map (·.cps.toList)):=by rw[<-qR,f]
 rw[e,ZG]
 ·intro z;have:(Dk x ⟨(zTo [c])⟩).length=0:=by rw[<-Ac,z];rfl
  omega
 ·intro p a;let(q,b,rfl):=AE.mp a;exact d q b
def lA:∀{l:L8}{p:L8},p∈OX c l->c∉p/\p.length<=l.length
 | [],p,h=>by
   rw[OX,An]at h;subst h;simp
 | a::l,p,h=>by
   have b:=λ{q}=>lA (c:=c) (l:=l) (p:=q)
   rw[OX]at h;split at h
   ·rcases AB.mp h with rfl|h
    ·simp
    ·have:=b h;exact#[this.1,by rw[AM];omega]
   ·rename_i d;cases e:OX c l with
    |nil=>exact absurd e<|AbE c l
    |cons q r=>
      rw[e]at h;rcases AB.mp h with rfl|h
      ·have:=b (q:=q) (by rw[e];exact AW);refine#[λm=>?_,by rw[AM,AM];omega];rcases AB.mp m with f|m
       ·exact d f.symm
       ·exact this.1 m
      ·have:=b (q:=p) (by rw[e];exact AD _ h);exact#[this.1,by rw[AM];omega]
def fE:∀l:L8,(OX c l).length<=l.length+1
 |[]=>by simp[OX]
 | a::l=>by
   have b:=fE (c:=c) l;rw[OX];split
   ·simp;omega
   ·cases e:OX c l with
    |nil=>simp
    |cons q r=>rw[e]at b;simp at b ⊢;omega
def lK:HW x ⟨(zTo [c])⟩ x.length i↔x.cps.toList[i]?=U c:=StrLaws.subAt_one x c i
def Adu(h:x.cps.toList=w++c::r)(hw:c∉w):(Hx x ⟨(zTo [c])⟩).1.cps.toList=w:=by
 have f:HW x ⟨(zTo [c])⟩ x.length w.length:=lK.mpr (by rw[h];simp);rcases partition_head x ⟨(zTo [c])⟩with⟨_,d⟩|⟨i,e,b,d⟩
 ·exact absurd f<|d _
 ·have b:=lK.mp b;have j:i<=w.length:=Gr λa=>d _ a f
  have g:¬ i<w.length:=λa=>by
   rw[h,Ct a]at b;exact hw<|Dl.mpr #[i,b]
  have k:i=w.length:=Nr;rw[e,Hd,k,h];simp
def Abw(h:x.cps.toList=w++c::r)(hr:c∉r):(FG x ⟨(zTo [c])⟩).1.cps.toList=w:=by
 have f:HW x ⟨(zTo [c])⟩ x.length w.length:=lK.mpr (by rw[h];simp);unfold FG;rcases StrLaws.last_spec x ⟨(zTo [c])⟩with⟨e,d⟩|⟨i,e,b,d⟩
 ·exact absurd f<|d _
 ·rw[e];show(strSub x 0 i).cps.toList=w;have b:=lK.mp b;have g:w.length<=i:=Gr λa=>d _ a f
  have j:¬ w.length<i:=λa=>by
   rw[h,BC Nr]at b;have:i-w.length=(i-w.length-1)+1:=Nr;rw[this,HB]at b;exact hr<|Dl.mpr #[_,b]
  have k:i=w.length:=Nr;rw[Hd,k,h];simp
def oS{x y:Ay}(h:x.cps.toList=y.cps.toList):x=y:=by cases x;cases y;simp only[Ay.mk.injEq];exact Array.toList_inj.mp h
def uL:A8 "."=⟨(zTo [46])⟩:=Np
def Ob.Apy(s:Ob H H1)(n:H p=none):Ob H (L2.upd H1 p o):=λb u e=>by
 rw[NX<|Oc e n];exact s b u e
section
variable{X:Cx}
def WL:∀(tk:Nat)(ys:LK),Vals (ys.map V.str) (strsFrom tk ys)
 |_,[]=>.nil
 |tk,y::r=>.cons #[_,Y] (WL (tk+1) r)
def AjQ:V->LM->Hp->VK->Prop:=λx vs H Q=>∃z y,x=.str z/\vs=[.str y]/\y.length≠0/\z.length<=1000000/\∀p,H p=none->Q (.ref p) (upd H p<|.lst<|(Dk z y).map V.str)
def rJ:Ae0 X "str.split" AjQ:=by
 intro d s J H x p v w Q I m n h;let(z,y,rfl,rfl,l,B,q):=h;let(t,rfl):=m;let(u,rfl,i,rfl):=n.one;have o:=I.fresh;have f:(y.length==0)=Am:=by simpa using l
 have A:=Bf;have k:=split_le z y;have a:∀(c:LQ)(j:Nat),Vals _ c->EP X d J Q _ {s with heap:=s.heap.push _,toks:=j}:=λc j r=>
  #[.ref _,_,I.Ai2 r (by rw[Ac];omega),Y,q _ o]
 cases b:(decide (z.length<y.length)||decide (strKind z<strKind y))
 ·cases g:(occurrences z y 0 _ _).isEmpty
  ·have e:Dk z y=partsBetween z _ _:=(Aq<|G9 b).trans (Aq<|G9 g);refine En F.slot_str_split (EX _ _ _) F.entry_str_split (F.args_str_split_2 _ _) (meets_str_split_sep z y t i b f g Nr (by rw[<-e];omega)) ?_;exact a _ _ (by rw[e];exact WL _ _)
  ·have e:Dk z y=[z]:=(Aq<|G9 b).trans (Az g);refine En F.slot_str_split (EX _ _ _) F.entry_str_split (F.args_str_split_2 _ _) (meets_str_split_not_found z y t i b f g) ?_;exact a _ _ (by rw[e];exact .cons #[_,Y] .nil)
 ·have e:Dk z y=[z]:=Az b;refine En F.slot_str_split (EX _ _ _) F.entry_str_split (F.args_str_split_2 _ _) (meets_str_split_cannot_occur z y t i b) ?_;exact a _ _ (by rw[e];exact .cons #[_,Y] .nil)
def Ah0(f:Ay->Ay->Ay×Ay×Ay):V->LM->Hp->VK->Prop:=λx vs H Q=>∃z y,x=.str z/\vs=[.str y]/\y.length≠0/\z.length<=1000000/\∀p,H p=none->Q (.ref p) (upd H p<|.tup [.str (f z y).1,.str (f z y).2.1,.str (f z y).2.2])
def Ag5(I:Inv X q4 J H s)(ta tb tc tk:Nat)(q:∀p,H p=none->Q (.ref p) (upd H p<|.tup [.str a,.str b,.str c])):EP X q4 J Q (.ref s.heap.objs.size) {s with heap:=s.heap.push {cls:=.type "tuple",data:=.seq [Fy a ta,.str b tb,.str c tc].toArray},toks:=tk}:=by
 refine#[.ref _,_,?_,Y,q _ I.fresh];refine I.laid (λb o e=>Aj _ e) (Ap _) #[by simp only[AM,CG];decide,[.str a ta,.str b tb,.str c tc],.cons #[_,Y]<|.cons #[_,Y]<|.cons #[_,Y] .nil,?_];exact#[_,AR _ Y,Y,0,Y]
def nK:Ae0 X "str.partition" (Ah0 Hx):=by
 intro b s J H x j v g Q I e f h;let(z,y,rfl,rfl,c,l,q):=h;let(t,rfl):=e;let(u,rfl,d,rfl):=f.one;have a:(y.length==0)=Am:=by simpa using c
 have k:=Bf;refine En F.slot_str_partition (EX _ _ _) F.entry_str_partition (F.args_str_partition_2 _ _) (meets_str_partition z y t d a Nr) ?_;unfold Hx at q
 revert q
 cases occurrences z y 0 _ 1 with
 |nil=>intro q;exact Ag5 I _ _ _ _ q
 |cons i r=>intro q;exact Ag5 I _ _ _ _ q
def iE:Ae0 X "str.rpartition" (Ah0 FG):=by
 intro b s J H x j v g Q I e f h;let(z,y,rfl,rfl,c,l,q):=h;let(t,rfl):=e;let(u,rfl,d,rfl):=f.one;have a:(y.length==0)=Am:=by simpa using c
 have k:=Bf;refine En F.slot_str_rpartition (EX _ _ _) F.entry_str_rpartition (F.args_str_rpartition_2 _ _) (meets_str_rpartition z y t d a Nr) ?_;unfold FG at q
 revert q
 cases lastOccurrence z y 0 _ with
 |none=>intro q;exact Ag5 I _ _ _ _ q
 |some i=>intro q;exact Ag5 I _ _ _ _ q
end
end
def NF(H:Hp)(a:Ae):Prop:=∀o u,H a≠U (.Ry o u)
def XI{k:Key}(h:(OG P w).is k u=Af):RelV (kV k) u:=by
 rcases Pd h with⟨i,t,rfl,rfl⟩|⟨x,t,rfl,rfl⟩
 ·exact#[t,Y]
 ·exact#[t,Y]
section
variable{X:Cx}{q4:LN}{J:St}{H:Hp}{s:Ax}{a:Ae}{v5:LP}{o:Cy}
def Inv.freeze(I:Inv X q4 J H s)(e:H a=U (.dK v5)):∃o,Inv X q4 J (upd H a<|.Ry o<|.dK v5) s/\NF X.N4 a:=by
 let(z,g,h,c,f):=jO I.Oj e;let(o,l,k,d,r):=id f;refine#[o,?_,λi j q=>?_]
 ·exact I.write (by rw[e];exact Bk) (.inl Y) (λb u _ q=>q) #[o,d] #[d,z,g,h,c,f]
 ·have:=I.base.UX a i j q;rw[e]at this;cases this
def Inv.AmV(I:Inv X q4 J H s)(e:H a=U (.Ry o<|.dK v5))(n:NF X.N4 a):Inv X q4 J (upd H a<|.dK v5) s:=by
 have d:∀b,H b=none->(upd H a<|.dK v5) b=none:=λb q=>by
  rw[NX λz=>by rw[z,e]at q;cases q];exact q
 refine#[I.ok,I.os,I.bare,#[I.base.keep,I.base.slot,λb f q A t=>d b<|I.base.free b f q A t,I.base.there,λb g q=>?_,λb f u q=>?_,λb j q=>?_],I.loc,I.cell,d _ I.free,λx c q=>d _<|I.QC x c q,λp i=>?_,?_,I.len]
 ·have:=I.base.Xd b g q;rw[NX λz=>by rw[z,e]at this;cases this];exact this
 ·have:=I.base.UX b f u q;rw[NX λz=>by subst z;exact n _ _ q];exact this
 ·let(m,this):=I.base.We b j q;exact#[m,by rw[NX λz=>by rw[z,e]at this;cases this];exact this]
 ·let(k,r,l):=I.pin p i;exact#[k,d _ r,l]
 ·intro b u q;by_cases h:b=a
  ·subst h;rw[N1]at q;cases q;exact(show OC _ X.w H _ b _ from I.Oj b _ e).2
  ·rw[NX h]at q;refine(I.Oj b u q).Xb (λc v _ z=>z) (λc z=>?_) λc g z=>?_
   ·rw[NX λy=>by rw[y,e]at z;cases z];exact z
   ·rw[NX λy=>by rw[y,e]at z;cases z];exact z
def AmW(N4:Hp)(D:Ends):Ends:={D with
 nx:=λJ H=>∃a o v5,H a=U (.Ry o<|.dK v5)/\NF N4 a/\D.nx J (upd H a<|.dK v5)
 rt:=λv H=>∃a o v5,H a=U (.Ry o<|.dK v5)/\NF N4 a/\D.rt v (upd H a<|.dK v5)}
def yU{st:Bi}{t:TS}(h:PS X st t){K₀:Ab}{N4:Hp}[hK:Ol X K₀ N4]:PS X st (λD J H=>D.bk=D.bk/\t {AmW N4 D with bk:=λ_ _=>False,ct:=λ_ _=>False} J H):=by
 let(rfl,rfl):=hK;intro b s J H D I⟨_,q⟩;refine O2 (h b s J H _ I q) λf l c=>?_
 cases f with
 |next=>let(i,j,g,a,o,d,e,n,k):=c;exact#[i,_,g.AmV e n,k]
 |brk=>let(_,_,_,k):=c;exact k.elim
 |cont=>let(_,_,_,k):=c;exact k.elim
 |ret v=>let(x,i,j,g,r,a,o,d,e,n,k):=c;exact#[x,i,_,g.AmV e n,r,k]
end
def AkT(a:Ae)(o:Cy)(v5:LP):It:=#[λi H=>i<v5.length/\H a=U (.Ry o<|.dK v5),λi H x H'=>H'=H/\∃kv,v5[i]?=U kv/\x=kV kv.1,λi H=>v5.length<=i/\H a=U (.Ry o<|.dK v5)]
def AkS(a:Ae)(o:Cy)(v5:LP):It:=#[λi H=>i<v5.length/\H a=U (.Ry o<|.dK v5),λi H x H'=>∃t kv,H t=none/\v5[i]?=U kv/\x=.ref t/\H'=upd H t (.tup [kV kv.1,kv.2]),λi H=>v5.length<=i/\H a=U (.Ry o<|.dK v5)]
def Acq(o:Cy):Nat:=match o.data with|.dict _ ep=>ep|_=>0
def RT(I:Inv X q4 J H s)(e:H a=U (.Ry o<|.dK v5)):(a==CY)=Am/\v5.length<=sizeLine/\∃vs,KV v5 vs/\vs.length=v5.length/\s.heap.DictAt (OG X.prog X.w) a vs (Acq o)/\s.heap.get? a=U o:=by
 let(d,z,g,vs,b,n,l,h,c,k,f,i):=(show OC _ X.w H _ a _ from I.Oj a _ e);rw[d]at c;cases c;have j:=(AJ b).symm;have m:Acq o=h:=by unfold Acq;rw[f]
 exact#[g,z,vs,b,j,#[o,l,d,k,by rw[m];exact f,i],d]
def KV.get(r:KV v5 vs)(h:i<v5.length):∃k v u,v5[i]?=U (k,v)/\vs[i]?=U (k,u)/\RelV v u:=by
 induction r generalizing i with
 |nil=>simp at h
 |@cons p q ps qs hh t ih=>
   cases i with
   |zero=>let(a,c):=p;let(g,d):=q;let(e,r):=hh;subst e;exact#[a,c,d,Y,Y,r]
   |succ j=>let(k,v,u,b,f,r):=ih (by simpa using h);exact#[k,v,u,by simpa using b,by simpa using f,r]
def AbK{K:Ab}{tg:Expr}(a it:Ae)(o:Cy)(v5:LP):Turn P w K tg (AkT a o v5) [it] it (λi h=>h.IsKeyIter it a i v5.length<|Acq o) where
 mem:=Nu
 obj:=λi h f b j=>by
  have e:b=it:=by simpa using j
  subst e;let(o,e,c,d):=f;exact#[o,e,λv z=>by rw[d]at z;cases z]
 keep:=λi h n f k=>f.at λo e=>k it Nu o e
 item:=by
  intro X G C A M i g s J H E I p f r;subst G C A;let(L,e):=r;let(N,z,S,m,q,x,V):=RT I e;let(k,v,u,Z,T,ru):=m.get L;let(t,y,y0,j0,F,D):=p it Nu;rw[<-q]at f;refine wpAny_pyNext_dict_item f x T λB n R l sb=>?_
  rw[q]at l;have Q:Inv X g J H {s with heap:=n}:=I.turned (t':=s.toks) (λb o j e=>(sb.2 b j).trans e) t y j0 F D;let(o2,e3,W,O):=id l;exact#[B,Y,qF (s:={s with heap:=n}) e3 W O Nq #[kV k,H,Q,XI R,#[Y,_,Z,Y],l,λb j=>(p b j).1]]
 done:=by intro X G C A M i g s J H E I p f r;subst G C A;let(L,e):=r;let(N,z,S,m,q,x,V):=RT I e;let(t,y,y0,j0,F,D):=p it Nu;rw[<-q]at f;exact wpAny_pyNext_dict_end (I.ok.hd M) f x (BQ Nr) λn u9=>#[Y,I.turned (t':=s.toks) (λb o j e=>u9 b o j e) t y j0 F D]
 self:=λ_ _ _ _ _ f h=>wpAny_pyIter_keyiter f h
def dO{h:BM}{o u:Cy}(hu:u.isFreed=Am)(e:(h.push u).get? b=U o):(b=h.objs.size/\o=u)\/h.get? b=U o:=by
 by_cases a:b=h.objs.size
 ·subst a;rw[AR h hu]at e;exact .inl #[Y,(AS e).symm]
 ·rw[BM.get?_push_ne _ _ _ a]at e;exact .inr e
def bR:entryFor table "dict_itemiterator.__iter__"=U Dx.«dict_keyiterator.__iter__»:=KO (id':="dict_keyiterator.__iter__") (by kernel_rfl) Y Np (by kernel_rfl)
def aA{it:Ae}{n:Nat}{ok:Ai}(hit:IsItemIter s.heap it d i n ep ok ov)(h:Q (.ref it) s):AZ (A7 prog w) A (KN<|.ref it) Q E s:=by have a:s.TypeIs (.ref it) "dict_itemiterator":=#[_,hit,Y];refine wpAny_pyIter_slot a F.slot_dict_itemiterator_iter<|El F.slot_dict_itemiterator_iter a bR ?_<|F.args_dict_itemiterator_iter_1 _;exact wpAny_pure #[_,Y,"dict_itemiterator",_,a,F.slot_dict_itemiterator_next.lookup,h]
def wQ{P:Bn}{w:Bw}{K:Ab}{elts:L1}{x1}{tpos:CQ}(a it:Ae)(o:Cy)(v5:LP):Turn P w K (.Tuple elts x1 tpos) (AkS a o v5) [it] it (λi h=>∃ok ov,IsItemIter h it a i v5.length (Acq o) ok ov) where
 mem:=Nu
 obj:=λi h c b d=>by
  have e:b=it:=by simpa using d
  subst e;let(ok,ov,e):=c;exact#[_,e,λv z=>by
   have V:Ku _=KY v:=z;cases V]
 keep:=λi h h'⟨ok,ov,c⟩k=>#[ok,ov,k it Nu _ c]
 item:=by
  intro X j0 C B Q i g s J H E I D c t;subst j0 C B;let(ok,ov,c):=c;let(N,e):=t;let(R,z,Z,n,r,x,ho):=RT I e;let(k,v,u,e1,e2,ru):=n.get N;let(p,A,f2,L,G,F):=D it Nu;have l:it<s.heap.objs.size:=AO c;rw[<-r]at c;refine wpAny_pyNext_items_item c x e2 λf h' W y u9 hz T=>?_
  refine#[_,Y,wpAny_letOwnedTupleGo_items (s:={s with heap:=h'}) y λM m O=>?_];rw[r]at m;have hn:H s.heap.objs.size=none:=I.fresh;have Im:Inv X g J (upd H s.heap.objs.size<|.tup [kV k,v]) {s with heap:=s.heap.push {cls:=.type "tuple",data:=.seq (zTo [f,u])}}:=
   I.laid (t':=s.toks) (λb o e=>Aj _ e) (Ap _) #[by show 2<=sizeLine;decide,[f,u],.cons (XI W)<|.cons ru .nil,_,AR s.heap Y,Y,0,Y]
  have y0:∀b q,b≠it->(s.heap.push {cls:=.type "tuple",data:=.seq (zTo [f,u])}).get? b=U q->M.get? b=U q:=λb q d j=>by
   rcases dO (h:=s.heap) (u:={cls:=.type "tuple",data:=.seq (zTo [f,u])}) Y j with⟨S,e6⟩|j
   ·subst S e6;exact(O.2 _ d).trans u9
   ·exact(O.2 _ d).trans (T b q d j)
  have I2:=Im.turned (h':=M) (t':=s.toks) (it:=it) y0 (by rw[NX<|A9 l];exact p) A L G F;refine#[.ref s.heap.objs.size,_,I2,Y,#[_,_,hn,e1,Y,Y],#[_,_,m],λb d=>?_];have j:b=it:=by simpa using d
  subst j;rw[NX<|A9 l];exact p
 done:=by intro X j0 C B Q i g s J H E I D c t;subst j0 C B;let(ok,ov,c):=c;let(N,e):=t;let(R,z,Z,n,r,x,ho):=RT I e;let(p,A,f2,L,G,F):=D it Nu;rw[<-r]at c;exact wpAny_pyNext_items_end (I.ok.hd Q) c x (BQ Nr) λh' j=>#[Y,I.turned (t':=s.toks) (λb o d e=>j b o d e) p A L G F]
 self:=λ_ _ _ _ _⟨_,_,c⟩h=>aA c h
def ApN(j0:Ae->Cy->LP->It)(N4:Hp)(R:It->Hp->Prop):VK:=λx H1=>∃a v5,x=.ref a/\H1 a=U (.dK v5)/\∀o,NF N4 a->R (j0 a o v5) (upd H1 a<|.Ry o<|.dK v5)
abbrev iD(j0:Ae->Cy->LP->It)(N4:Hp)(tl:TE):TI:=λJ H R=>tl J H (ApN j0 N4 R)
section
variable{X:Cx}{tg:Expr}
def yR(hl:PE X l tl){K₀:Ab}{N4:Hp}[hK:Ol X K₀ N4]:PI X tg l (iD AkT N4 tl):=by
 let(rfl,rfl):=hK;intro c s J H R I h;refine O2 (hl c s J H _ I h) λv i⟨x,B,u,p,r⟩=>?_
 let(a,g,e,k,q):=r;subst e;cases p;let(o,f,w):=u.freeze k;let(j,z,A,n,d,m,y):=RT f N1;refine J0 j m ?_;rw[d];refine#[i.heap.objs.size,[i.heap.objs.size],_,_,_,Y,f.kept λb o e=>Aj _ e,AbK a _ o g,#[_,AR _ Y,Y,Y],λb t=>?_,q o w];have e:b=i.heap.objs.size:=by simpa using t
 subst e;exact f.V9 (Ap _) (f.Oj.fresh<|Ap _)
def AdN{x1}(hl:PE X l tl)(hbase:CA l "items" X.env (eval l X.env)=eval l X.env:=by rfl)(hline:(v7.endLine==v8.line)=Af:=by rfl){K₀:Ab}{N4:Hp}[hK:Ol X K₀ N4]:PI X (.Tuple elts x1 tpos) (.Call (.Attribute l "items" v7) [] [] v8) (iD AkS N4 tl):=by
 let(rfl,rfl):=hK;intro c s J H R I h;refine IU hbase hline<|O2 (hl c s J H _ I h) λv f⟨x,C,y,u,a,i,e,p,q⟩=>?_
 subst e;cases u;let(o,m,A):=y.freeze p;let(n,z,r,t,d,k,B):=RT m N1;have g:=k.dictOf;refine#["dict","dict.items",F.plainAttrs_dict,F.slot_dict_items,F.type_dict_items,g.typeIs,g.mapOf.noDict,CI Y<|Il ?_];refine Ea F.slot_dict_items g.typeIs F.entry_dict_items (F.args_dict_items_1 _) (meets_dict_items _ a n) #[#[r,g],?_];have j:Inv X c J _ {f with heap:=f.heap.push {cls:=.type "dict_items",data:=.fields (zTo [.ref a])}}:=m.kept λb o e=>Aj _ e
 refine wpAny_pyIter_items #[_,AR _ Y,Y,Y] (k.push _) ?_;rw[d];refine#[_,[(f.heap.push _).objs.size],_,_,_,Y,j.kept λb o e=>Aj _ e,wQ a _ o i,#[_,_,AR _ Y],λb w=>?_,q o A];have e:b=(f.heap.push {cls:=.type "dict_items",data:=.fields (zTo [.ref a])}).objs.size:=by simpa using w
 subst e;exact j.V9 (Ap _) (j.Oj.fresh<|Ap _)
end
def Zb:∀{ns:LK}{us:LQ},Kh us ns->Vals (ns.map V.str) us
 |_,_,.nil=>.nil
 |_,_,.cons n t h=>.cons #[t,Y] (Zb h)
section
variable{X:Cx}
def Abs(K₀:Ab):LM->Hp->VK->Prop:=λxs H Q=>∃(p:Ae)(ns:LK),xs=[.ref p]/\PX K₀ H p (ns.map V.str)/\ns.length<64/\∀(ms:LK)l,ms.Perm ns->F9 ms=Af->H l=none->Q (.ref l) (upd H l<|.lst<|ms.map V.str)
def lQ{K₀:Ab}{N4:Hp}[hK:Ol X K₀ N4]:QA X (.builtin "sorted") (Abs K₀):=by
 let(rfl,rfl):=hK;intro f s J H A C Q I r h;let(p,y,rfl,l,x,k):=h;let(u,rfl,w):=vals1 r;cases w;let(c,d,n,z):=I.list l;have m:=d.length;rw[Ac]at m;refine sorted_strs n.isList (T7 d) Nr λa i v g j=>?_
 let(e,t):=sortedAll_at _ c a;have q:=I.Oj.fresh<|Gw _;have B:=g.length_eq;refine#[.ref _,_,I.laid (o:=.lst _) (λb o=>sortedAll_old) (Gw _) #[?_,a.toList,e,Zb v,?_],Y,k i _ g j q]
 ·rw[Ac,Bf];omega
 ·exact t
def AjN(K₀:Ab):LM->Hp->VK->Prop:=λxs H Q=>∃(p:Ae)(ns:LS),xs=[.ref p]/\PX K₀ H p (ns.map V.int)/\0<ns.length/\∀M,M∈ns->(∀a∈ns,M<=a)->Q (.int M) H
def Aaw(hc:X.calm=Af){K₀:Ab}{N4:Hp}[hK:Ol X K₀ N4]:QA X (.builtin "min") (AjN K₀):=by
 let(rfl,rfl):=hK;intro g s J H c K Q I r h;let(p,o,rfl,z,q,k):=h;let(u,rfl,C):=vals1 r;cases C;let(x,y,A,j0):=I.list z;have l:=intsAre_of y;let(c,e):=l.allInts.items;have b:o=c.toList.map (·.1):=by rw[<-l.numsOf,<-nums_intItems,<-e]
 have d:0<c.size:=by have i:=q;rw[b,Ac]at i;exact i
 have f:=A.isList;rw[e]at f;refine min_intList (I.ok.hd hc) f d λv E F B w=>?_
 let(t,rfl):=intItems_at B;let(G,n):=argBest_lt (numAt c)<|c.size-1;refine#[.int _,H,I.kept w,#[t,Y],k _ ?_ λa m=>?_]
 ·rw[b,numAt_eq];exact getD_mem (by rw[Ac,Bt];omega)
 ·rw[b]at m;let(j,D,rfl):=mem_getD m;rw[Ac,Bt]at D;rw[<-numAt_eq];exact n j Nr
def AgG:LM->Hp->VK->Prop:=λxs H Q=>∃(p:Ae)(v5:LP),xs=[.ref p]/\Rd H p (.dK v5)/\∀l,H l=none->Q (.ref l) (upd H l<|.dK v5)
def uG:QA X (.type "dict") AgG:=by
 intro d s J H x t Q I r h;let(p,i,rfl,g,k):=h;let(u,rfl,j):=vals1 r;cases j;let(z,f,v,a,n):=QW I.Oj g;have m:=I.fresh;have w:=AJ a;refine kt_call_dict f n Nr λq c l=>?_
 refine#[.ref _,_,I.laid (λb o e=>?_) (Ap _)<|Yy z (Cn.mpr<|AF<|A9 I.big) a c,Y,k _ m];exact(l.2 b<|A9<|AO e).trans (Aj _ e)
end
section
open PySem.W
end
section
open PySem.W
def OC.there(x:OC P w H h a o):∃ob,h.get? a=U ob:=by
 induction o with
 |lst c=>let(_,_,_,_,e):=x;exact#[_,e]
 |tup c=>let(_,_,_,_,e,_):=x;exact#[_,e]
 |dK b=>let(_,_,_,_,_,_,_,e,_):=x;exact#[_,e]
 |dT b=>let(_,_,_,_,_,_,_,e,_):=x;exact#[_,e]
 |set S n=>let(_,_,_,_,e,_):=x;exact#[_,e]
 |ins C j d=>let(_,_,_,e,_):=x;exact#[_,e]
 |own y=>exact x
 |xd d=>let(_,(_,_,_,e,_),_):=x;exact#[_,e]
 |AbU k l=>let(_,_,_,e):=x;exact#[_,e]
 |Ry ob u i=>exact#[_,x.1]
 |So g=>exact#[_,x]
 |met f y=>exact#[_,x]
 |ext φ=>exact x.2.1
structure Loose(X:Cx)(q4:LN)(H:Hp)(b:Ae):Prop where
 young:X.Qy.heap.get? b=none
 free:H b=none
 pin:∀p∈X.pn++q4,p.1≠b
section
variable{X:Cx}{q4:LN}{J:St}{H:Hp}{s:Ax}{h':BM}
def zM(I:Inv X q4 J H s):∀b∈X.fs,b∈bY X.stack:=λb a=>by
 rcases I.ok.Aj9 with e|⟨e,c⟩
 ·rw[e];exact a
 ·rw[e];unfold bY;rw[Ep,c];exact AD _ a
def fJ(I:Inv X q4 J H s)(hb:b∈bY X.stack)(e:s.heap.get? b=U o):∀vs,o.data≠.fields vs:=by let(_,d,a,c):=I.stack.mem hb;rw[e]at a;cases a;exact c
def Inv.exc{t':Nat}{hid:LL}(I:Inv X q4 J H s)(hh:∀b∈hid,Loose X q4 H b)(k:∀b o,s.heap.get? b=U o->b∉hid->b∉bY X.stack->h'.get? b=U o)(sm:s.heap.UpToSlots h'):Inv X q4 J H {s with heap:=h',toks:=t'}:=by
 have h:∀b o,X.Qy.heap.get? b=U o->b∉hid:=λb o e a=>by
  have:=(hh b a).young;rw[e]at this;cases this
 have g:∀b o,X.Qy.heap.get? b=U o->b≠X.env.locals:=λb o e z=>by
  have D:=AO e;have L:=I.ok.above;rw[z]at D;exact absurd (Bl D L)<|CN _
 have A:∀b o,X.Qy.heap.get? b=U o->b∉X.fs->b∉bY _:=λb o e a z=>by
  rcases AB.mp (I.fG b z)with q|q
  ·exact g b o e q
  ·exact a q
 have f:∀b u,H b=U u->b∉hid/\b∉bY _:=λb u e=>#[(λa=>by have:=(hh b a).free;rw[e]at this;cases this),(λa=>by have:=I.bB b a;rw[e]at this;cases this)]
 have d:∀c v,s.heap.IsCell c v->h'.IsCell c v:=λc v⟨o,Q,C⟩=>by
  let(M,e):=sm c o Q λW z=>by rw[C]at z;cases z
  exact#[_,e,C]
 refine#[I.ok,I.os,I.bare,#[λb o e n a j=>?_,λb o e n a j=>?_,I.base.free,λb o e j=>?_,I.base.Xd,I.base.UX,I.base.We],?_,λx c e=>?_,I.free,I.QC,λp F=>?_,λb u e=>?_,I.len]
 ·exact k b o (I.base.keep b o e n a j) (h b o e)<|A b o e a
 ·let(M,q):=I.base.slot b o e n a j;let(t,B):=sm b _ q<|fJ I (zM I b a) q;exact#[t,B]
 ·obtain ⟨j0,q⟩:=I.base.there b o e j;by_cases a:b∈bY X.stack
  ·let(t,B):=sm b _ q (fJ I a q);exact#[_,B]
  ·exact#[j0,k b j0 q (h b o e) a]
 ·let(m,S,R):=I.loc;refine#[m,sm.ns S,λi x v T O u9=>?_];let(u,r,l):=R i x v T O u9;refine#[u,r,l.imp id λ⟨q,c,w,z⟩=>#[q,c,w,d c _ z]]
 ·let(v,z):=I.cell x c e;exact#[v,d c v z]
 ·let(N,V,E,G,P):=I.pin p F;refine#[k _ _ N (λa=>(hh _ a).pin p F Y) (λa=>?_),V,E,G,P];rcases AB.mp (I.fG _ a)with z|z
  ·exact E z
  ·exact G z
 ·refine (I.Oj b u e).Xb (λc v w q=>?_) (λ_ q=>q) λ_ _ q=>q
  have:∃y,H c=U y:=by
   rcases w with rfl|w
   ·exact#[u,e]
   ·exact#[_,w]
  let(y,K):=this;exact k c v q (f c y K).1 (f c y K).2
end
def bO(o:Cy)(f:Mb->Mb):(o.mapFields f).dict=o.dict:=by let(c,d,a,b):=o;cases a<;>rfl
def Ahh(h:BM)(x:Ae)(cls:Ai)(dx:LZ):Prop:=∃oe vs,h.get? x=U oe/\oe.cls=cls/\oe.dict=dx/\oe.data=.fields vs/\vs[1]?=U .none
def AbY(h:BM)(x T:Ae)(cls:Ai)(dx:LZ)(fl:Ai):Prop:=∃oe vs oT ts,h.get? x=U oe/\oe.cls=cls/\oe.dict=dx/\oe.data=.fields vs/\vs[1]?=U (.ref T)/\T≠x/\h.get? T=U oT/\oT.data=.fields ts/\ts[3]?=U fl
structure Ab0(h h':BM)(S:LL)(x:Ae)(oe:Cy)(T L:Ae):Prop where
 exc:h'.get? x=U (oe.mapFields (·.setIfInBounds 1 (.ref T)))
 new:h.get? T=none
 tb:∃oT ts,h'.get? T=U oT/\oT.data=.fields ts/\ts[3]?=U (rawInt L)
 keep:∀b o,b≠x->b∉S->h.get? b=U o->h'.get? b=U o
 slot:∀b o,b≠x->h.get? b=U o->∃sl,h'.get? b=U {o with slots:=sl}
section
variable{M:Model}{A:BS}{E:Ai->Ax->Prop}{s:Ax}
def tI{base:BM}(hfr:A.frames=U (env::outer))(hl:s.heap.FunFrames base (env::outer))(hf:env.frame=U L)(he:s.heap.get? x=U oe)(hd:oe.data=.fields vs)(hsz:1<vs.size)(h:∀h' T,Ab0 s.heap h' (bY (env::outer)) x oe T L->Q () {s with heap:=h'}):AZ M A (do let a <-frameOf env;let pl <-entryPlaceOf L nx;let b <-EntryCells.newEntry hd0 a .none (rawInt L) .none pl;setField (.ref x) 1 b) Q E s:=by
 have p:x∉bY _:=λm=>by
  let(_,o,i,f):=hl.mem m;rw[he]at i;cases i;exact f vs hd
 refine Ad<|wpAny_frameOf_fun hfr hl hf λk d=>?_
 refine Ad<|wpAny_entryPlaceOf λpl c=>?_
 refine Ad<|J7 ?_<|c.sizeOk5 _ _ _ _ _;have j:=(d.2.1 x p).trans he;have l:=λo=>Aj o j
 refine HN (l _) hd hsz<|h _ k.objs.size #[?_,?_,?_,λb o g f e=>?_,λb o g e=>?_]
 ·exact CT _ (l _)<|Iu<|EE hd _
 ·exact C0<|Fl d.1.symm
 ·refine#[_,_,(Cq _ _<|A9<|AO j).trans (AR k Y),Y,?_]
  first|(simp)|(rcases c with rfl|⟨_,_,_,_,_,_,_,rfl⟩<;>simp)
 ·rw[Cq _ _<|AF g];exact Aj _<|(d.2.1 b f).trans e
 ·let(n,q):=d.2.2 b o e;refine#[n,?_];rw[Cq _ _<|AF g];exact Aj _ q
end
def ExcAt(X:Cx)(H:Hp)(x:Ae)(cls:Ai)(dx:LZ)(fl:Ai)(h:BM):Prop:=Loose X [] H x/\∃T,Loose X [] H T/\AbY h x T cls dx fl
def wX(X:Cx)(H:Hp)(x:Ae)(cls:Ai)(dx:LZ)(h:BM):Prop:=(Loose X [] H x/\Ahh h x cls dx)\/ExcAt X H x cls dx .none h\/ExcAt X H x cls dx (rawInt X.env.locals) h
def wX.loose{cls:Ai}(e:wX X H x cls dx h):Loose X [] H x:=by rcases e with⟨l,_⟩|⟨l,_⟩|⟨l,_⟩<;>exact l
section
variable{X:Cx}{q4:LN}{J:St}{H:Hp}{s:Ax}
def Inv.Th(hex:X.ex=[])(I:Inv X q4 J H s)(h:s.heap.get? b=none):Loose X q4 H b:=by
 refine#[?_,?_,λp d z=>?_]
 ·cases c:X.Qy.heap.get? b with
  |none=>rfl
  |some o=>let(e,a):=I.base.there b o c (by rw[hex];simp);rw[h]at a;cases a
 ·cases q:H b with
  |none=>rfl
  |some u=>let(o,a):=(I.Oj b u q).there;rw[h]at a;cases a
 ·have:=(I.pin p d).1;rw[z,h]at this;cases this
def Loose.yS(l:Loose X q4 H b):Loose X [] H b:=#[l.young,l.free,λp a=>l.pin p<|BO _ (by simpa using a)]
def Inv.yS(I:Inv X q4 J H s):Inv X [] J H s:=I.nN λp a=>absurd a Nu
def Ab0.Ahy(n:Ab0 h h' S x oe T L)(he:h.get? x=U oe)(hd:oe.data=.fields vs)(hsz:1<vs.size):AbY h' x T oe.cls oe.dict (rawInt L):=by let(e,d,c,a,b):=n.tb;refine#[_,_,e,d,n.exc,Cy.cls_mapFields _ _,bO _ _,EE hd _,by simp[hsz],λz=>?_,c,a,b];have:=n.new;rw[z,he]at this;cases this
variable{M:Model}{A:BS}{E:Ai->Ax->Prop}{x:Ae}{cls fl:Ai}{dx:LZ}
def yM{Q:Unit->Ax->Prop}(hex:X.ex=[])(hstk:X.stack=X.env::X.outer)(hfrm:X.env.frame=U X.env.locals)(hfr:A.frames=U X.stack)(I:Inv X [] J H s)(e:wX X H x cls dx s.heap)(h:∀h',Inv X [] J H {s with heap:=h'}->ExcAt X H x cls dx (rawInt X.env.locals) h'->Q () {s with heap:=h'}):AZ M A (Kp (.ref x) X.env) Q E s:=by
 have hfr:A.frames=U (X.env::X.outer):=by rw[hfr,hstk]
 have j0:=I.stack;rw[hstk]at j0;unfold Kp;simp only[hfrm];rcases e with⟨r,G,t,k,rfl,rfl,d,m⟩|⟨r,T,F,G,t,L,K,k,rfl,rfl,d,m,v,w,f,y⟩|l
 ·have g:=(Dq.mp m).1;refine Ad<|Dj k d m ?_;rw[Aq Nq];refine tI hfr j0 hfrm k d g λh' T n=>?_
  refine h h' (I.exc (t':=s.toks) (hid:=[x]) (λb j=>by rw[An.mp j];exact r) (λb o a i D=>n.keep b o (λz=>i<|by simp[z]) (by rw[<-hstk];exact D) a) λb o a i=>?_) #[r,T,Inv.Th hex I n.new,n.Ahy k d g];exact n.slot b o (λz=>by rw[z,k]at a;cases a;exact i t d) a
 ·have g:=(Dq.mp m).1;refine Ad<|Dj k d m ?_;rw[Az (show(Bu T != CP)=Af from by simp)];refine Ad<|Dj w f y ?_;rw[Aq (show¬ ((CP==rawInt X.env.locals)=Af)from by simp[rawInt])];refine Ad<|HN w f (Dq.mp y).1 ?_;have c:∀b,b≠T->(s.heap.update T (FR (·.setIfInBounds 3 CP))).get? b=s.heap.get? b:=λb j=>Cq _ _<|AF j
  have N:∀b o,s.heap.get? b=U o->(∀t,o.data≠.fields t)->b≠T:=λb o j C q=>by
   rw[q,w]at j;cases j;exact C K f
  have B:Inv X [] J H {s with heap:=s.heap.update T (FR (·.setIfInBounds 3 CP))}:=
   I.exc (t':=s.toks) (hid:=[T]) (λb j=>by rw[An.mp j];exact F) (λb o a i _=>(c b λz=>i<|by simp[z]).trans a) λb o a i=>#[o.slots,(c b<|N b o a i).trans a]
  have u:=B.stack;rw[hstk]at u;have p:=(c x<|AF v).trans k;refine tI hfr u hfrm p d g λh' O n=>?_
  refine h h' (Inv.exc (s:={s with heap:=s.heap.update T (FR (·.setIfInBounds 3 CP))}) (t':=s.toks) (hid:=[x]) B (λb j=>by rw[An.mp j];exact r) (λb o a i D=>n.keep b o (λz=>i<|by simp[z]) (by rw[<-hstk];exact D) a) λb o a i=>?_) #[r,O,Inv.Th hex B n.new,n.Ahy p d g];exact n.slot b o (λz=>by rw[z,p]at a;cases a;exact i t d) a
 ·let(r,T,F,G,t,L,K,k,rfl,rfl,d,m,v,w,f,y):=id l;refine Ad<|Dj k d m ?_;rw[Az (show(Bu T != CP)=Af from by simp)];refine Ad<|Dj w f y ?_;rw[Az<|F5 _];exact wpAny_pure (h s.heap I l)
def YA{Q:Unit->Ax->Prop}(I:Inv X [] J H s)(e:ExcAt X H x cls dx fl s.heap)(h:∀h',Inv X [] J H {s with heap:=h'}->ExcAt X H x cls dx .none h'->Q () {s with heap:=h'}):AZ M A (setFlight (.ref x) none) Q E s:=by
 let(r,T,n,v,t,y,u,p,rfl,rfl,m,q,d,j,c,w):=e;have i:=(Dq.mp w).1;have a:∀b,b≠T->(s.heap.update T (FR (·.setIfInBounds 3 ((none:LZ).elim CP λf=>rawInt f)))).get? b=s.heap.get? b:=λb k=>Cq _ _<|AF k
 unfold setFlight;refine Ad<|Dj p m q ?_;rw[Az (show(Bu T != CP)=Af from by simp)];refine HN j c i<|h _ (I.exc (t':=s.toks) (hid:=[T]) (λb k=>by rw[An.mp k];exact n) (λb o g l _=>(a b λz=>l<|by simp[z]).trans g) λb o g l=>#[o.slots,(a b λz=>?_).trans g]) #[r,T,n,?_]
 ·rw[z,j]at g;cases g;exact l u c
 ·exact#[v,t,_,_,(a x<|AF d).trans p,Y,Y,m,q,d,CT _ j<|Iu<|EE c _,EE c _,by simp[i]]
end
abbrev XF:=Ai->LZ->St->Hp->Prop
def Ahe(X:Cx)(Ef:XF):Ai->Ax->Prop:=λe s'=>∃x cls dx J H,e=.ref x/\Inv X [] J H s'/\wX X H x cls dx s'.heap/\Ef cls dx J H
abbrev Cx.exc(X:Cx)(Ef:XF):Cx:=X.Wf (Ahe X Ef)
def AeX(P:Bn)(w:Bw):AeY:=λouter H s E e s'=>∃x cls dx H' T,e=.ref x/\s'.os=s.os/\ES s'.gens/\Un (bY outer) [] H H' s.heap s'.heap/\V7 P w H' s'.heap /\
 (s.heap.get? x=none/\H' x=none)/\(s.heap.get? T=none/\H' T=none)/\AbY s'.heap x T cls dx .none/\E cls dx H'
def AcU{K:Ab}{base:BM}{f:Ae}(h:Ahe (UK (AeX P w) P w K mg base N qual scope f cd A outer s H E) (λcls dx _ H'=>E cls dx H') e s'):(UK (AeX P w) P w K mg base N qual scope f cd A outer s H E).xe e s':=by
 generalize hX:UK (AeX P w) P w K mg base N qual scope f cd A outer s H E=X at h;let(x,cls,dx,J,H',rfl,I,k,q):=h;have g:X.ex=[]:=by rw[<-hX];rfl
 have b:X.stack=X.env::X.outer:=by rw[<-hX];rfl
 have c:X.env.frame=U X.env.locals:=by rw[<-hX];rfl
 have m:AZ (A7 P w) X.A (leaving X.env<|.ref x) (λ_ a=>AeX P w outer H s E (.ref x) a) (λo a=>AeX P w outer H s E o a) s':=by
  unfold leaving;refine Ad<|yM g b c I.ok.frames I k λt p r=>?_
  refine YA p r λu d l=>?_
  let(i,T,j,n):=l;subst hX;exact#[x,cls,dx,H',T,Y,d.os,d.bare,d.base,d.Oj,#[i.young,i.free],#[j.young,j.free],n,q]
 subst hX;exact m
def QB.exc{st:Me}{t:TS}(h:QB (X.exc Ef) st t)(hl:∀e s',Ahe X Ef e s'->X.xe e s'):QB X st t:=λa s J H D I b=>
 BL (h a s J H D (I.Wf _) b) (λ_ _ q=>q.Q1) λe s' z=>hl e s' z
section
variable{X:Cx}{Ef:XF}{x:Ay}{p:CQ}
def Afe(hex:X.ex=[])(I:Inv X q4 J H s)(h:AeX X.prog X.w X.stack H s (λcls dx H'=>Ef cls dx J H') ev s'):Ahe X Ef ev s':=by
 let(x,cls,dx,H',T,rfl,i,a,j,g,e,c,o,q):=h;have n:=Inv.xH I i j g a λb z=>absurd z Nu
 have d:∀b,s.heap.get? b=none->H' b=none->Loose X [] H' b:=λb m k=>by
  have l:=Inv.Th hex I m;exact#[l.young,k,λp f=>l.pin p<|BO _ (by simpa using f)]
 exact#[x,cls,dx,J,H',Y,n.yS,.inr<|.inl #[d x e.1 e.2,T,d T c.1 c.2,o],q]
abbrev eX(Ef:XF)(J:St):XK:=λcls dx H=>Ef cls dx J H
end
end
section
open PySem.W
abbrev vErr:LQ:=[.type "ValueError",.type "Exception",.type "BaseException",.type "object"]
end
section
open PySem.W PySem.Builtin PySem.Builtin.ObjectAttr PySem.Builtin.Getset_descriptor
def Am9(x D:Ae)(h:BM):Prop:=∃o,h.get? x=U o/\o.cls=.ref D
section
variable{x D:Ae}
def Am9.type(I:Am9 x D h):KS M h (Jd<|.ref x) (.ref D):=by let(o,e,c):=I;exact c▸(KR e).andThen .now
end
namespace Boot
end Boot
end
section
open PySem.W
abbrev Cx.pinned(X:Cx)(q4:LN):Cx:={X with pn:=X.pn++q4}
abbrev Cx.SG(X:Cx)(x:Ae)(ox:Cy):Cx:={X with A:=X.A.mark<|U<|.ref x,calm:=Am,pn:=X.pn++[(x,ox)],xe:=λ_ _=>False}
section
variable{X:Cx}{q4:LN}{J:St}{H:Hp}{s:Ax}{x:Ae}{ox:Cy}
def Cx.Ok.pinned(ok:X.Ok):(X.pinned q4).Ok:=#[ok.mod,ok.kind,ok.glob,ok.blt,ok.above,ok.inj,ok.has,ok.Aik,ok.hd,ok.frames,ok.Aj9,ok.Alx,ok.bs,ok.Aap,ok.vJ,ok.uQ,ok.WN,ok.AeS]
def Cx.Ok.SG(ok:X.Ok):(X.SG x ox).Ok:=#[ok.mod,ok.kind,ok.glob,ok.blt,ok.above,ok.inj,ok.has,ok.Aik,λz=>Bool.noConfusion z,ok.frames,ok.Aj9,ok.Alx,ok.bs,ok.Aap,ok.vJ,ok.uQ,ok.WN,ok.AeS]
def Inv.Apx(I:Inv X q4 J H s):Inv (X.pinned q4) [] J H s:=#[I.ok.pinned,I.os,I.bare,I.base,I.loc,I.cell,I.free,I.QC,λp a=>I.pin p (by simpa using a),I.Oj,I.len]
def Inv.vM(ok:X.Ok)(I:Inv (X.pinned q4) [] J H s):Inv X q4 J H s:=#[ok,I.os,I.bare,I.base,I.loc,I.cell,I.free,I.QC,λp a=>I.pin p (by simpa using a),I.Oj,I.len]
def SP.vM(ok:X.Ok){f:Flow}(h:SP (X.pinned q4) [] D f s'):SP X q4 D f s':=by
 cases f with
 |next=>let(a,b,I,q):=h;exact#[a,b,I.vM ok,q]
 |brk=>let(a,b,I,q):=h;exact#[a,b,I.vM ok,q]
 |cont=>let(a,b,I,q):=h;exact#[a,b,I.vM ok,q]
 |ret u=>let(v,a,b,I,r,q):=h;exact#[v,a,b,I.vM ok,r,q]
def Inv.zT(I:Inv X [] J H s)(l:Loose X [] H x)(hx:s.heap.get? x=U ox)(hd:ox.data=.fields vs):Inv (X.SG x ox) [] J H s:=by
 refine#[I.ok.SG,I.os,I.bare,I.base,I.loc,I.cell,I.free,I.QC,λp b=>?_,I.Oj,I.len];rw[Br]at b;rcases AY.mp b with z|z
 ·exact I.pin p<|BO _ z
 ·rw[An.mp z];refine#[hx,l.free,λe=>?_,λe=>?_,λv e=>?_]
  ·let(m,(o,f,d,c,a,_),_):=I.loc;rw[<-e,hx]at c;cases c;rw[hd]at a;cases a
  ·exact fJ I (zM I x e) hx vs hd
  ·rw[hd]at e;cases e
def Inv.aV(ok:X.Ok)(I:Inv (X.SG x ox) [] J H s):Inv X [] J H s:=#[ok,I.os,I.bare,I.base,I.loc,I.cell,I.free,I.QC,λp a=>I.pin p (by rw[Br]at a ⊢;exact BO _ a),I.Oj,I.len]
end
end
section
open PySem.W
def AbZ(X:Cx)(ce:Expr)(u:Ai):Prop:=∀(X':Cx)(q4:LN)(J:St)(H:Hp)(s:Ax)(E:Ai->Ax->Prop)(Q:Ai->Ax->Prop),X'.mg=X.mg->X'.env=X.env->Inv X' q4 J H s->Q u s->AZ (A7 X'.prog X'.w) X'.A (eval ce X'.env) Q E s
def yK{pos:CQ}(hg:Gl X x)(hm:X.mg x=U u)(hd:(x==("__debug__":Ay))=Am:=by decide):AbZ X (.Name x pos) u:=λd a J H s E Q c b I q=>
 VO I (by unfold Gl at hg ⊢;rw[b];exact hg) (by rw[c];exact hm) q hd
end
section
open PySem.W PySem.Builtin PySem.Builtin.ObjectAttr
def sF(self:Ai):∀(l:LL),refuseLoop self "__setattr__" (l.map Bu++vErr)=pure ()
 |[]=>PySem.F.store_ValueError.passes self
 | c::r=>by
   show refuseLoop self "__setattr__" (.ref c::(r.map Bu++vErr))=pure ();rw[refuseLoop_ref];exact sF self r
structure Aaj(K:Ab)(D:Ae):Prop where
 cl:∃cd l,clsIn K D=U cd/\cd.hasDict=Af/\cd.mro=(l:LL).map Bu++vErr
 sa:BU K (.ref D) "__setattr__"=U (U<|.builtin "object.__setattr__")
 ob:mroIn K D (.type "object")=U Af
section
variable{prog:Bn}{w:Bw}{A:BS}{E:Ai->Ax->Prop}{s:Ax}{K:Ab}{x D:Ae}{name:Ay}{v:Ai}
def Am5{tk:Ks}(F:Aaj K D)(hna:BU K (.ref D) name=U none)(X:K.In s.heap)(I:Am9 x D s.heap)(h:AZ (A7 prog w) A.in1 (storeInOwnDict (.ref x) (.ref D) (.str name tk) name v Am) (λfin s'=>match fin with|.done f=>R (.ok f) s'|.again c'=>c'.quiet=Af/\Er (A7 prog w) A c' R s') (λe s'=>R (.error e) s') s):Er (A7 prog w) A (.call (.builtin "object.__setattr__") #[[.ref x,.str name tk,v],[]]) R s:=by
 have a:=Hz;let(k,l,i,j,d):=F.cl;have c:KS (A7 prog w) _ (isInstance _ _) Af:=I.type.andThen<|looks_mroIn X F.ob;refine codeAny_call_builtin a.slot.plain a.entry<|@check_slot _ _ _ s _ "object" "__setattr__" _ _ [] _ a.kind a.split c (a.args (.ref x) _ v) ?_;have b:KS (A7 prog w) _ (mroOf<|.ref D) _:=(looks_clsIn X i).andThen .now;have g:KS (A7 prog w) s.heap (storeTaker? none) none:=.now;rw[osa_eq,refuse_eq];refine Ad<|Ad<|I.type.here<|Ad<|b.here ?_;rw[d,sF];exact wpAny_pure (Ad<|I.type.here<|Ad<|(looks_findIn X hna).here (Ad<|g.here h))
def AbN(F:Aaj K D)(hna:BU K (.ref D) name=U none)(X:K.In s.heap)(I:Am9 x D s.heap)(h:AZ (A7 prog w) A.in1 (storeInOwnDict (.ref x) (.ref D) (.str name s.toks) name v Am) (λfin s'=>match fin with|.done (.ret _)=>Q () s'|_=>False) (λe s'=>E e s') {s with toks:=s.toks+1}):AZ (A7 prog w) A (setAttr (.ref x) name v) Q E s:=by
 refine Ad<|wpAny_mkText<|Ad<|Ad<|Ad<|I.type _ _ _ _ (λ_ _ e=>e)<|looks_findIn X F.sa _ _ _ _ (λ_ _ e=>e)<|BH ?_;rw[Hz.slot.bind];refine Ad<|wpAny_pure<|Ad<|Em<|Am5 F hna X I<|BL h (λfin s' z=>?_) λ_ _ z=>z
 rcases fin with(_|_|_|_)|_<;>first|exact wpAny_pure (wpAny_pure z)|exact z.elim
def Ahd{tk:Ks}(F:Aaj K D)(X:K.In s.heap)(hx:s.heap.get? x=U ox)(hc:ox.cls=.ref D)(hd:ox.dict=none)(hf:ox.data=.fields vs)(h:∀h' t',h'.get? x=U {ox with dict:=U s.heap.objs.size}->h'.Ns1 s.heap.objs.size (λy=>if y=name then U v else none)->(∀b o,b≠x->s.heap.get? b=U o->h'.get? b=U o)->Q (.done<|.ret .none) {s with heap:=h',toks:=t'}):AZ (A7 prog w) A (storeInOwnDict (.ref x) (.ref D) (.str name tk) name v b) Q E s:=by
 let(P,l,q,G,R):=F.cl;let(a,g,d,t,N):=s;have O:=looks_clsIn (M:=A7 prog w) X q;let(j0,S,C,r):=ox;dsimp only at hc hd hf;subst hc hd hf;unfold storeInOwnDict;refine Ad<|wpAny_pure ?_
 repeat lk
 rw[G,Aq Nq,Aq<|by simp[typeHasDict]];have f:(a.push {cls:=.type "dict",data:=.dict #[]}).get? x=U #[.ref D,none,.fields vs,r]:=Aj _ hx;have c:x≠a.objs.size:=A9<|AO hx;refine Ad<|wpAny_alloc' ?_;refine Ad<|wpAny_update' f ?_;refine wpAny_pure ?_;have j:((a.push {cls:=.type "dict",data:=.dict #[]}).update x λo=>{cls:=o.cls,dict:=U a.objs.size,data:=o.data,slots:=o.slots}).get? a.objs.size=U {cls:=.type "dict",data:=.dict #[]}:=
  (IK _ _ _ _ c.symm).trans (BM.get?_push_at Y Y)
 have m:((a.push {cls:=.type "dict",data:=.dict #[]}).update x λo=>{cls:=o.cls,dict:=U a.objs.size,data:=o.data,slots:=o.slots}).Ns a.objs.size (λ_=>none):=
  #[_,#[],_,j,Y,λe H=>absurd H Nu,λ_=>rfl]
 show AZ _ _ (storeInDict a.objs.size (.str name tk) name v) _ _ _;unfold storeInDict newKeyGuard;refine Ad<|wpAny_pure<|Ad<|wpAny_nsSet1 (HY m) λh' i u=>?_
 let(L,I,B,p,k,n):=i.count<|Within.cons name v Within.nil;refine Ad<|Kj p (by rw[k];exact Ko<|AL n (by rw[AM,CG,Bf];omega)) ?_;refine wpAny_pure<|h h' _ ?_ i λb o z e=>?_
 ·exact(u.2 x c).trans (CT _ f Y)
 ·exact(u.2 b<|A9<|AO e).trans ((IK _ _ _ _ z).trans (Aj _ e))
end
end
section
open PySem.W PySem.Builtin PySem.Builtin.ObjectAttr PySem.Builtin.Getset_descriptor
end
section
open PySem.W
def Xm(x D:Ae)(dx:LZ):HO:=.ext λh=>∃ox vs,h.get? x=U ox/\ox.cls=.ref D/\ox.dict=dx/\ox.data=.fields vs/\vs[1]?=U .none
def Aae(hx:h.get? x=U ox)(hc:ox.cls=.ref D)(hd:ox.dict=dx)(hf:ox.data=.fields vs)(h1:vs[1]?=U .none):OC P w H h x (Xm x D dx):=#[#[ox,vs,hx,hc,hd,hf,h1],#[ox,hx],λ_ _⟨o,a,e,r⟩k=>#[o,a,k _ e,r]]
section
variable{X:Cx}{q4:LN}{J:St}{H:Hp}{s:Ax}{h':BM}
def Inv.both(I:Inv X q4 J H s)(hx:H x=U (.ext φ))(hd:s.heap.objs.size<=d)(hne:d≠x)(k:∀b q,b≠x->s.heap.get? b=U q->h'.get? b=U q)(hx':∃q,h'.get? x=U q)(n1:OC X.prog X.w (upd (upd H d u) x o) h' x o)(n2:OC X.prog X.w (upd (upd H d u) x o) h' d u):Inv X q4 J (upd (upd H d u) x o) {s with heap:=h',toks:=t'}:=by
 have j:H d=none:=I.Oj.fresh hd;have a:∀b v,H b=U v->(∀ψ,v≠.ext ψ)->upd (upd H d u) x o b=U v:=λb v e n=>by
  rw[NX (λz=>(by rw[z,hx]at e;cases e;exact n _ Y)),NX<|Oc e j];exact e
 refine I.un #[λb q e n f i=>k b q (λz=>by rw[z,hx]at n;cases n) e,λb q e n f i=>#[q.slots,k b q (λz=>by rw[z,hx]at n;cases n) e],λb q e n _=>?_,λb q e _=>?_,λb l e=>a b _ e (λ_ z=>by cases z),λb q v e=>a b _ e (λ_ z=>by cases z),λb m e=>#[#[],by rw[IS];exact a b _ e λ_ z=>by cases z]] λb v e=>?_
 ·rw[NX (λz=>(by rw[z,hx]at n;cases n)),NX<|A9<|Bl (AO e) hd];exact n
 ·by_cases f:b=x
  ·rw[f];exact hx'
  ·exact#[q,k b q f e]
 ·by_cases f:b=x
  ·subst f;rw[N1]at e;cases e;exact n1
  ·rw[NX f]at e;by_cases g:b=d
   ·subst g;rw[N1]at e;cases e;exact n2
   ·rw[NX g]at e;refine(I.Oj b v e).Xb (λc q h z=>k c q ?_ z) (λc z=>a c _ z λ_ y=>by cases y) λc l z=>a c _ z (λ_ y=>by cases y)
    rcases h with rfl|h
    ·exact f
    ·intro y;rw[y,hx]at h;cases h
end
def ApX(K:Ab)(ta tv:TE)(f:Ay):TS:=λD J H=>tv J H λy H1=>ta J H1 λz H2=>∃x C,z=.ref x/\H2 x=U (Xm x C none)/\Aaj K C/\BU K (.ref C) f=U none /\
 ∀d,H2 d=none->d≠x->D.nx J (upd (upd H2 d<|.xd [(f,y)]) x<|Xm x C<|U d)
def Amg{f:Ay}{pos:CQ}(ha:PE X o ta)(hv:PE X value tv)(hs:swapsWith value (U<|.Attribute o f pos') pos.line X.env=pure Am){K₀:Ab}{N4:Hp}[hK:Ol X K₀ N4]:PS X (.Assign [.Attribute o f pos'] value pos) (ApX K₀ ta tv f):=by
 let(rfl,rfl):=hK;intro a s J H D I h;refine GR (O2 (hv a s J H _ I h) λu M⟨y,j0,t,N,q⟩=>O2 (ha a M J j0 _ t q) λS E⟨z,m,b,O,x,C,K,j,F,P,Q⟩=>?_) hs;subst K;cases O;let((L,R,d,i,n,k,G),_,_):=(show OC _ X.w m _ x _ from b.Oj x _ j);refine AbN F P b.U2 #[L,d,i]<|Ahd F b.U2 d i n k λB p l v r=>?_
 have c:=A9<|AO d;have A:Inv X a J (upd (upd m _<|.xd [(f,y)]) x _) {E with heap:=B,toks:=p}:=
  b.both j (Ap _) (AF c) r #[_,l] (Aae l i Y k G) #[_,v,λg=>by
   by_cases e:g=f
   ·subst e;simp only[BZ,F5,if_true];exact N
   ·have:(g==f)=Am:=by simpa using e
    simp only[BZ,this,List.lookup_nil,Aq e];exact Bk]
 exact#[J,_,A,Q _ (b.Oj.fresh<|Ap _)<|AF c]
end
section
open PySem.W
section
variable{prog:Bn}{w:Bw}{A:BS}{E:Ai->Ax->Prop}{h:BM}{g:Array Jv}{d:Drawn}{t:Nat}{os:Dd}
variable{nm q:Ay}{C N:Ae}{bs bm bmB:LQ}{hdct:Bool}{sn:LK}{sub:LQ}{ab:Bool}{col:Option Bool}{dd:LZ}{k0 k1 k2 k3 k5:LX}{B newId initId:String}
def Aa0 (F:ExcBaseFacts B newId initId bmB) (T:OwnTail h bmB bm) {rest:List Value} {oI:Obj}
  (hC:h.get? C=some (excClassObj nm q C N bs bm hdct sn sub ab col dd k0 k1 k2 k3 k5 newId)) (hn:h.Ns N mN) (hi:mN "__init__"=some (.ref fI)) (hfI:h.get? fI=some oI) (hfc:oI.cls=.type "function")
  (hq:∀ h' e,Heap.MadeExcOf h h' e (.ref C) rest->wpAny (model prog w) A (call (.ref fI) (.ref e::rest)) (fun r s'=>r=.none/\Q (.done<|.ret<|.ref e) s') E #[h',g,d,t,os]) (hrest:rest.length<=sizeLine):
  wpAny (model prog w) A (Builtin.«type.__call__» #[.ref C::rest,[]]) Q E #[h,g,d,t,os]:=by
 repeat (first | with_reducible refine wpAny_loadPart_at hC ?_ | with_reducible refine wpAny_madeBy_exc hC ?_ | wp_step)
 refine codeAny_call_builtin_code (Code.quiet_builtin _ F.quiet)<|wpAny_check_new_subT F T hC ?_;refine codeAny_exc_new_subT F T hC ?_ hrest;show wpAny _ _ _ _ _ _;have f:∀ b o,h.get? b=some o->((h.push {cls:=.type "tuple",data:=.seq rest.toArray}).push {cls:=.ref C,data:=.fields (zTo [.ref h.objs.size,.none,.none,.none,.bool false,.none])}).get? b=some o:=fun b o e=>Heap.get?_push_of_some _<|Heap.get?_push_of_some _ e
 have c:=f _ _ hC;have i:=f _ _ hfI;have j:=hn.keeps f;have m:=T.keeps f;have a:((h.push {cls:=.type "tuple",data:=.seq rest.toArray}).push {cls:=.ref C,data:=.fields (zTo [.ref h.objs.size,.none,.none,.none,.bool false,.none])}).get? (h.objs.size+1)=some {cls:=.ref C,data:=.fields (zTo [.ref h.objs.size,.none,.none,.none,.bool false,.none])}:=by heap_get
 have k:(Value.ref C::bm).contains (.ref C)=true:=by simp
 unfold isInstance
 repeat (first | with_reducible refine wpAny_loadPart_at a ?_ | (with_reducible refine wpAny_isSubtype_exc c ?_;rw[k]) | wp_step)
 show wpAny _ _ (typeLookup (.ref C) _) _ _ _;refine wpAny_typeLookup_tail c j m F.mroIs F.init.lookup ?_;rw[hi];refine wpAny_holding<|wpAny_bind ?_;unfold bindSpecial;refine wpAny_bind<|wpAny_typeOf (T:="function") #[_,i,hfc] ?_;rw[if_pos<|by decide];refine wpAny_pure<|wpAny_bind<|wpAny_mono (hq _ (h.objs.size+1) #[f,Heap.get?_none_of_le<|Nat.le_succ _,h.objs.size,a,Heap.get?_none_of_le<|Nat.le_refl _,?_]) (fun r s' l=>?_) fun _ _ x=>x
 ·exact Heap.get?_push_of_some _<|Heap.get?_push_at Y Y
 ·obtain ⟨rfl,n⟩:=l
  wp_walk
  exact n
def Aar(F:ExcBaseFacts B newId initId bmB)(T:OwnTail h bmB bm){rest:LQ}{oI:Cy}(hC:h.get? C=U (Ju nm q C N bs bm hdct sn sub ab col dd k0 k1 k2 k3 k5 newId))(hn:h.Ns N mN)(hi:mN "__init__"=U (.ref fI))(hfI:h.get? fI=U oI)(hfc:oI.cls=.type "function")(hq:∀h' e,BM.MadeExcOf h h' e (.ref C) rest->AZ (A7 prog w) (A.under<|.builtin "type.__call__" #[.ref C::rest,[]]) (call (.ref fI) (.ref e::rest)) (λr s'=>r=.none/\Q (.ref e) s') E #[h',g,d,t,os])(hrest:rest.length<=sizeLine):AZ (A7 prog w) A (call (.ref C) rest) Q E #[h,g,d,t,os]:=by
 have c:=tc_lookup;have b:=tc_bind<|.ref C;refine Em<|codeAny_of_tree ?_
 repeat(any_goals(first|assumption|with_reducible refine GF hC ?_|wp_step))
 refine#[Y,codeAny_call_builtin_at (Code.quiet_builtin _ Np) entry_typeCall<|wpAny_check_type_call_sub hC<|Aa0 F T hC hn hi hfI hfc (λh' e a=>?_) hrest];exact hq h' e a
def AgM(hbase:bm.contains (.type "BaseException")=Af)(hh:A.handled=none)(hx:AZ M A x (λv s1=>∃e oe vs,v=.ref e/\s1.heap.get? C=U (Ju nm q C N bs bm hdct sn sub ab col dd k0 k1 k2 k3 k5 newId)/\s1.heap.get? e=U oe/\oe.cls=.ref C/\oe.data=.fields vs/\vs[1]?=U .none/\E (.ref e) s1) E s):AZ M A (raiseStmt env (U x) none) Q E s:=by
 have b:(Bu C::bm).contains (.type "BaseException")=Af:=by rw[List.contains_cons,hbase,Bool.or_true]
 unfold raiseStmt;refine Ad<|BL hx (λv s1 a=>?_) λ_ _ x=>x
 let(e,oe,vs,rfl,f,h,i,c,a,j):=a;let(m,g,d,n,o):=s1;let(r,p,k,l):=oe;dsimp only at i c;subst i c
 repeat(first|with_reducible refine GF h ?_|with_reducible refine GF f ?_|(with_reducible refine wpAny_isSubtype_exc f ?_;rw[b])|with_reducible refine Dj h Y a ?_|wp_step)
 exact wpAny_raiseNew_none hh j
end
end
section
open PySem.W
def vL{K:Ab}{n:Ay}(X:K.In h)(G:h.Ns N m)(e:AX K N n=U (U v)):m n=U v:=by
 let(o,p,k,f,a,_,b):=G;unfold AX at e;split at e
 ·rename_i c d i j l q;have:=X _ _ q;rw[f]at this;cases this;cases a;rw[<-b];unfold nsFind findBy;rw[<-IQ];split at e
  ·rename_i r g;cases e;rw[g];rfl
  ·split at e<;>cases e
 ·cases e
structure Ae3(K:Ab)(C fI:Ae):Prop where
 obj:∃nm q N bs bm hdct sn sub ab col dd k0 k1 k2 k3 k5,K.lookup C=U (Ju nm q C N bs bm hdct sn sub ab col dd k0 k1 k2 k3 k5 "ValueError.__new__")/\nsOkIn K N=Af/\AX K N "__init__"=U (U<|.ref fI)/\tailIn K vErr bm=Af
 fn:typeIn K (.ref fI)=U (.type "function")
structure AeZ(P:Bn)(w:Bw)(K:Ab)(mg:Ay->LX)(base:BM)(k:Nat)(C:Ae)(ps:LK)(sp:Sp):Prop where
 ex:∃(f:Ae)(fd:Cz),Sl P w K mg base pL k f fd ps sp/\Ae3 K C f/\Binds K fd ps []
def Ag4(C:Ae)(sp:Sp)(Ef:XF)(t:TA):TS:=λ_ J H=>t J H λvs H1=>vs.length<=9/\∀x,H1 x=none->sp (.ref x::vs) (upd H1 x<|Xm x C none) (λv H2=>v=.OH/\∃dx H3,H2=upd H3 x (Xm x C dx)/\H3 x=none/\Ef (.ref C) dx J H3) E0
section
variable{X:Cx}{q4:LN}{J:St}{H:Hp}{s:Ax}
def Inv.AlV(I:Inv X q4 J H s)(k:∀b u,s.heap.get? b=U u->h'.get? b=U u)(hn:s.heap.get? a=none)(ha:H a=none)(new:OC X.prog X.w (upd H a o) h' a o):Inv X q4 J (upd H a o) {s with heap:=h',toks:=t'}:=by
 have f:∀b u,s.heap.get? b=U u->b≠a:=λb u e z=>by rw[z,hn]at e;cases e
 refine I.un #[λb u e _ _ _=>k b u e,λb u e _ _ _=>#[u.slots,k b u e],λb u e n _=>by rw[NX<|f b u e];exact n,λb u e _=>#[u,k b u e],λb g e=>by rw[NX<|Oc e ha];exact e,λb u v e=>by rw[NX<|Oc e ha];exact e,λb h e=>#[#[],by rw[IS,NX<|Oc e ha];exact e]] λb v e=>?_
 by_cases d:b=a
 ·subst d;rw[N1]at e;cases e;exact new
 ·rw[NX d]at e;exact(I.Oj b v e).Xb (λc u _ q=>k c u q) (λc q=>by rw[NX<|Oc q ha];exact q) λc g q=>by rw[NX<|Oc q ha];exact q
def Inv.AlX{dx:LZ}{H3:Hp}{s1 s2:Ax}(hex:X.ex=[])(I:Inv X q4 J H s)(hx:s.heap.get? x=none)(hup:∀b o,s.heap.get? b=U o->s1.heap.get? b=U o)(os:s2.os=s.os)(bare:ES s2.gens)(u:Un (bY X.stack) [] (upd H x<|Xm x C none) (upd H3 x<|Xm x C dx) s1.heap s2.heap)(Oj:V7 X.prog X.w (upd H3 x<|Xm x C dx) s2.heap)(h3:H3 x=none):Inv X q4 J H3 s2/\Loose X q4 H3 x/\Ahh s2.heap x (.ref C) dx:=by
 have g:∀b o,s.heap.get? b=U o->b≠x:=λb o e z=>by rw[z,hx]at e;cases e
 have l:=Inv.Th hex I hx;have d:∀b v,H b=U v->b≠x:=λb v e z=>by rw[z,l.free]at e;cases e
 have A:Un (bY X.stack) [] H H3 s.heap s2.heap:=by
  refine#[λb o e n f a=>u.keep b o (hup b o e) (by rw[NX<|g b o e];exact n) f a,λb o e n f a=>u.slot b o (hup b o e) (by rw[NX<|g b o e];exact n) f a,λb o e n a=>?_,λb o e a=>u.there b o (hup b o e) a,λb j e=>?_,λb o v e=>?_,λb k e=>?_]
  ·have:=u.free b o (hup b o e) (by rw[NX<|g b o e];exact n) a;rwa[NX<|g b o e]at this
  ·have:=u.Xd b j (by rw[NX<|d b _ e];exact e);rwa[NX<|d b _ e]at this
  ·have:=u.UX b o v (by rw[NX<|d b _ e];exact e);rwa[NX<|d b _ e]at this
  ·let(m,this):=u.We b k (by rw[NX<|d b _ e];exact e);rw[NX<|d b _ e]at this;exact#[m,this]
 have h:V7 X.prog X.w H3 s2.heap:=λb v e=>by
  have f:b≠x:=λz=>by rw[z,h3]at e;cases e
  refine(Oj b v (by rw[NX f];exact e)).Xb (λ_ _ _ q=>q) (λc q=>?_) λc j q=>?_
  ·have i:c≠x:=λz=>by rw[z,N1]at q;cases q
   rwa[NX i]at q
  ·have i:c≠x:=λz=>by rw[z,N1]at q;cases q
   rwa[NX i]at q
 refine#[Inv.xH (ch:=[]) I os A h bare λb z=>absurd z Nu,#[l.young,h3,l.pin],?_];let((t,r,y,E,B,D,p),_,_):=(show OC X.prog X.w _ s2.heap x (Xm x C dx)from Oj x _ N1);exact#[t,r,y,E,B,D,p]
end
def Abn{X:Cx}{Ef:XF}{k:Nat}{sp:Sp}{np v8 pos:CQ}{e:Expr}{es:L1}{t:TA}(u9:AeZ X.prog X.w X.K X.mg X.base k C ps sp)(hr:Oo (k+1) X.A)(hex:X.ex=[])(hc:X.calm=Af)(hm:X.mg x=U (.ref C))(hg:Gl X x)(ha:PA (X.exc Ef) (e::es) t)(hdb:(x==("__debug__":Ay))=Am:=by decide)(he:BP v8 (AG (e::es) X.env)=(Am,eval e X.env)::BP v8 (AG es X.env):=by rfl)(hpl:(BP v8<|AG es X.env).any (·.1)=Am:=by rfl):
  PS (X.exc Ef) (.Raise (U<|.Call (.Name x np) (e::es) [] v8) none pos) (Ag4 C sp Ef t):=by
 intro c s J H D I h;let(fI,fd,F,O,hb):=u9.ex;let(nm,q,N,bs,bm,hdct,sn,sub,ab,col,dd,k0,k1,k2,k3,k5,lk,B,Zj,tl):=O.obj;let(oI,aa,V):=AA.mp O.fn;have j:bm.contains (.type "BaseException")=Af:=(tail_of_in I.U2 tl).hasType Nq;have hh:=I.ok.hd hc;have i:(BP v8<|AG (e::es) X.env).any (·.1)=Am:=by rw[he];simpa using hpl
 refine Ad (DU (AgM (C:=C) (nm:=nm) (q:=q) (N:=N) (bs:=bs) (hdct:=hdct) (sn:=sn) (sub:=sub) (ab:=ab) (col:=col) (dd:=dd) (k0:=k0) (k1:=k1) (k2:=k2) (k3:=k3) (k5:=k5) (newId:="ValueError.__new__") j hh
  (Ad<|BL (wpAny_Call_ofName<|VO I hg hm ?_ hdb) (λv s3 h3=>Ad<|DU<|wpAny_pure h3) λ_ _ x=>x)))
 have G:=ha v8 c s J H _ I h;have y0:AZ (A7 X.prog X.w) X.A (evalArgs (.ref C) Af (BP v8<|AG (e::es) X.env) []) (λa Q=>a.kw=[]/\AP (X.exc Ef) c J (λM P=>M.length<=9/\∀x,P x=none->sp (.ref x::M) (upd P x<|Xm x C none) (λv H2=>v=.OH/\∃R y,H2=upd y x (Xm x C R)/\y x=none/\Ef (.ref C) R J y) E0) a.pos Q) (X.exc Ef).xe s:=by rw[he]at G ⊢;exact Dp<|O2 G λus Q q=>#[Y,q]
 refine Ad<|BH<|BL y0 (λa Q h1=>Ad<|DU ?_) λ_ _ x=>x
 let(f,ad):=a;let(T,M,P,ac,r,hz,E):=h1;obtain rfl:ad=[]:=T;have L:=ac.Q1;have p:=L.U2;have hC:=p _ _ lk;have hN:=BM.Ns.of_isNs<|isNs_of_in p B;let(hp,g,d,tk,os):=Q;simp only[show(BP v8 _).any _=Am from i];refine Ad<|wpAny_keeperOf_exc hC ?_;refine Ad<|Aar PySem.F.excBase_ValueError (tail_of_in p tl) hC hN (vL p hN Zj) (p _ _ aa) V (λh' x b=>?_) (by have Z:=r.length;rw[Z]at hz;exact AL hz Nq);let(tt,m1,m2,m3):=b.there;have m:=(Inv.Th hex L b.new).free;have I2:Inv X c J (upd P x<|Xm x C none) #[h',g,d,tk,os]:=by exact L.AlV b.keeps b.new m<|Aae m1 Y Y Y Y
 have Z:(Bu x::f).length=ps.length:=by have:=F.len _ _ _ _<|E x m;rw[AM,<-r.length,<-this,AM]
 refine Em<|EM (F.run _ _ _ _ _ _ (.ref x::M) _ E0 (hr.make C f []) (I2.AaH.make C f []) (by have:=hb _ _ I2.U2 (by rw[Br];exact Z);rwa[Br]at this) (.cons Y r)<|E x m) λrr s2 z=>?_
 cases rr with
 |error ev=>exact B4 z
 |ok fl=>
   cases fl with
   |next=>exact B4 z
   |brk=>exact B4 z
   |cont=>exact B4 z
   |ret u=>let(v,H2,S,n,W,o,rv,rfl,R,y,rfl,h3,q):=z;cases rv;refine#[Y,Ad<|BH<|wpAny_point<|wpAny_pure ?_];let(j0,l,fr):=Inv.AlX hex L b.new b.keeps S n W o h3;let(ox,ws,e1,e2,e3,e4,e5):=id fr;exact#[x,ox,ws,Y,j0.U2 _ _ lk,e1,e2,e4,e5,x,.ref C,R,J,y,Y,j0.yS,.inl #[l.yS,fr],q]
end
section
open PySem.W
abbrev TH:=Ae->Ai->LZ->TS
def Ang(X:Cx)(hs:List Lb)(tt:TH):Prop:=∀(x:Ae)(cls:Ai)(dx:LZ)(J:St)(H:Hp)(D:Ends)(s:Ax),Inv X [] J H s->ExcAt X H x cls dx .none s.heap->tt x cls dx D J H ->
 AZ (A7 X.prog X.w) X.A (handleBy (.ref x) X.env hs) (SP X [] D) X.xe s
def ExcAt.obj{cls:Ai}(e:ExcAt X H x cls dx fl h):∃ox vs,h.get? x=U ox/\ox.cls=cls/\ox.data=.fields vs/\ox.dict=dx/\notCls ox=Af:=by let(_,T,_,d,vs,_,_,b,f,c,a,_):=e;exact#[d,vs,b,f,a,c,by unfold notCls;rw[a]]
def Aqy(K:Ab)(u:Ai)(ts rest:TH):TH:=λx cls dx D J H=>∃b,exmOne K cls u=U b/\if b=Af then ts x cls dx D J H else rest x cls dx D J H
def Aof:TH:=λ_ _ _ _ _ _=>False
section
variable{X:Cx}{ce:Expr}{u:Ai}{b₀:Bi}{SG:Me}{hpos:CQ}{hs:List Lb}{ts tr:TH}
def Agn:Ang X [] Aof:=λ_ _ _ _ _ _ _ _ _ h=>h.elim
def AjA(K:Ab)(hK:X.K=K)(hc:AbZ X ce u)(hs1:∀(x:Ae)(ox:Cy)(cls:Ai)(dx:LZ),ox.cls=cls->ox.dict=dx->notCls ox=Af->QB (X.SG x ox) (b₀::SG) (ts x cls dx))(hr:Ang X hs tr):
  Ang X (.ExceptHandler (U ce) none (b₀::SG) hpos::hs) (Aqy K u ts tr):=by
 subst hK;intro x cls dx J H D s I e h;let(b,F,q):=h;let(B,M,j,C,l,_,_):=e.obj;have k:=I.zT e.1 j l;refine wpAny_handleBy_cons (codeAny_handlers_test<|hc (X.SG x B) _ _ _ _ _ _ Y Y k ?_) (by intro q;cases q);have A:KS (A7 X.prog X.w) s.heap (Jd<|.ref x) cls:=C▸(KR j).andThen .now;refine(exm_one k.U2 A F).here ?_;cases b with
 |false=>exact hr x cls dx J H D s I e q
 |true=>
   refine codeAny_handlers_suite ?_;refine YA I e λN m g=>?_
   let(E,O,y,j0,G,p,n):=g.obj;have t:=m.zT e.1 y G;refine BL (hs1 x E cls dx j0 p n [] _ _ H _ t q) (λf L r=>?_) λ_ _ z=>z.elim
   cases f with
   |next=>let(i,a,d,c):=r;exact#[_,a,d.aV I.ok,c]
   |brk=>let(i,a,d,c):=r;exact#[_,a,d.aV I.ok,c]
   |cont=>let(i,a,d,c):=r;exact#[_,a,d.aV I.ok,c]
   |ret u=>let(v,i,a,d,o,c):=r;exact#[v,_,a,d.aV I.ok,o,c]
end
def Apt(tb:XF->TS)(tt:TH):TS:=λD=>tb (λcls dx σ' H'=>∀x,H' x=none->tt x cls dx D σ' H') D
def AjH{pos:CQ}(hex:X.ex=[])(hstk:X.stack=X.env::X.outer)(hfrm:X.env.frame=U X.env.locals)(hb:∀(Ef:XF)(q4:LN),QB ((X.pinned q4).exc Ef) body<|tb Ef)(hh:∀q4:LN,Ang (X.pinned q4) (h₀::hs) tt):PS X (.Try body (h₀::hs) [] [] pos) (Apt tb tt):=by
 intro q4 s J H D I h;refine wpAny_Try_except<|BL (hb _ q4 [] s J H D (I.Apx.Wf _) h) (λf l q=>?_) λn l q=>?_
 ·have q:=SP.vM I.ok q.Q1;cases f with
  |next=>exact ED q
  |brk=>exact q
  |cont=>exact q
  |ret u=>exact q
 ·let(x,a,m,i,k,rfl,j,ex,q):=q;have e:=ex.loose.free;refine yM (X:=X.pinned q4) hex hstk hfrm I.ok.frames j ex λp g c=>?_
  refine YA g c λt d b=>?_
  exact O2 (hh q4 x a m i k D _ d b<|q x e) λf o r=>SP.vM I.ok r
end
section
open PySem.W
def Ov(st:Bi)(j:Nat):Bi:=match st with
 |.ClassDef _ _ _ body _ _ _ _ _ _ _=>body.getD j<|.Pass #[0,0,0,0]
 |_=>.Pass #[0,0,0,0]
section
variable{P:Bn}{w:Bw}{K:Ab}{mg:Ay->LX}{base:BM}
structure SK(K:Ab)(C:Ae)(m qual:Ay)(st:Bi)(ps:LK)(f:Ae):Prop where
 ex:∃fd:Cz,Ahi K m qual st f fd/\Binds K fd ps []
def Aa2{st:Bi}{f:Ae}{kV:Ai}(l:K.lookup f=U #[oc,od,.func<|Bs m qual (OE st) (Oa st) (NW st) .none kV doc pm an cdv ct,osl])(c:codeIn K cdv qual=Af)(k:keepIn K (.ref f)=Af)(b:∀(kV doc pm:Ai)(an:LZ)(cdv ct:Ai)(us:LQ),us.length=ps.length->Cf (Bs m qual (OE st) (Oa st) (NW st) .none kV doc pm an cdv ct) #[us,[]]=pure (ps.zip us)):SK K C m qual st ps f:=#[_,YB l c k,(YB l c k).binds b]
def SK.Aog{st:Bi}{f:Ae}{k:Nat}(d:SK K C m qual st ps f)(O:Ae3 K C f)(S:O3 N ps (NW st))(len:∀vs H Q E,sp vs H Q E->vs.length=ps.length)(hbody:∀(cdv:Ai)(A:BS)(outer:Mc)(s:Ax)(H:Hp)(vs:LM)(Q:VK)(E:XK),Oo k (A.deeper<|DF qual (NW st) s.heap.objs.size f cdv)->sp vs H Q E ->
   ∃t,QB (UK pL P w K mg base N qual (NW st) f cdv A outer s H E).AbT (Oa st) t/\t {nx:=λ_ H'=>Q .OH H',rt:=Q} (start N vs) H):AeZ P w K mg base (k+1) C ps sp:=by
 let(a,F,b):=d.ex;exact#[f,a,F.ok S len hbody,O,b]
end
end
section
inductive DV where
 |fl (v:V)
 |tup (xs:List DV)
 |lst (xs:List DV)
 |Aix (ks:List (Key×DV))
mutual
def DV.eq:DV->DV->Bool
 |.fl a,.fl b=>pN a b
 |.tup xs,.tup ys=>DV.eqs xs ys
 |.lst xs,.lst ys=>DV.eqs xs ys
 |_,_=>Am
def DV.eqs:List DV->List DV->Bool
 |[],[]=>Af
 |x::xs,y::ys=>DV.eq x y&&DV.eqs xs ys
 |_,_=>Am
end
mutual
def DV.fit:DV->DV->Bool
 |.fl _,.fl _=>Af
 |.tup xs,.tup ys=>DV.fits xs ys
 |.lst xs,.lst ys=>DV.fits xs ys
 |_,_=>Am
def DV.fits:List DV->List DV->Bool
 |x::xs,y::ys=>DV.fit x y&&DV.fits xs ys
 |_,_=>Af
end
mutual
def DV.dep:DV->Nat
 |.fl _=>0
 |.tup xs=>DV.Rb xs+1
 |.lst xs=>DV.Rb xs+1
 |.Aix _=>0
def DV.Rb:List DV->Nat
 |[]=>0
 |x::xs=>max (DV.dep x) (DV.Rb xs)
end
mutual
def Yr(K:Ab)(H:Hp):DV->V->Prop
 |.fl a,v=>v=a/\Pr a=Af
 |.tup xs,v=>∃p vs,v=.ref p/\RE K H p vs/\QN K H xs vs
 |.lst xs,v=>∃p vs,v=.ref p/\PX K H p vs/\QN K H xs vs
 |.Aix ks,v=>∃p v5,v=.ref p/\Rd H p (.dK v5)/\RL K H ks v5
def QN(K:Ab)(H:Hp):List DV->LM->Prop
 |[],[]=>True
 |x::xs,v::vs=>Yr K H x v/\QN K H xs vs
 |_,_=>False
def RL(K:Ab)(H:Hp):List (Key×DV)->LP->Prop
 |[],[]=>True
 |x::xs,v::vs=>x.1=v.1/\Yr K H x.2 v.2/\RL K H xs vs
 |_,_=>False
end
def QN.length{K:Ab}:∀{xs:List DV}{vs:LM},QN K H xs vs->xs.length=vs.length
 |[],[],_=>rfl
 | _::_,_::_,h=>by
   rw[QN]at h;rw[AM,AM,QN.length h.2]
 |[],_::_,h=>by rw[QN]at h;exact h.elim;all_goals simp
 |_::_,[],h=>by rw[QN]at h;exact h.elim;all_goals simp
def QN.get{K:Ab}:∀{xs:List DV}{vs:LM}{i:Nat}{v:V},QN K H xs vs->vs[i]?=U v->∃x,xs[i]?=U x/\Yr K H x v
 | x::xs,v::vs,0,u,h,e=>by
   rw[QN]at h;cases e;exact#[x,Y,h.1]
 | x::xs,v::vs,i+1,u,h,e=>by
   rw[QN]at h;exact QN.get (i:=i) h.2 e
 |[],[],_,_,_,e=>by simp at e
 |[],_::_,_,_,h,_=>by rw[QN]at h;exact h.elim;all_goals simp
 |_::_,[],_,_,h,_=>by rw[QN]at h;exact h.elim;all_goals simp
def RL.length{K:Ab}:∀{xs:List (Key×DV)}{vs:LP},RL K H xs vs->xs.length=vs.length
 |[],[],_=>rfl
 | _::_,_::_,h=>by
   rw[RL]at h;rw[AM,AM,RL.length h.2.2]
 |[],_::_,h=>by rw[RL]at h;exact h.elim;all_goals simp
 |_::_,[],h=>by rw[RL]at h;exact h.elim;all_goals simp
def DV.mE:∀{xs ys:List DV},xs.length≠ys.length->DV.eqs xs ys=Am
 |[],[],h=>absurd Y h
 |[],_::_,_=>by rw[DV.eqs];all_goals simp
 |_::_,[],_=>by rw[DV.eqs];all_goals simp
 | x::xs,y::ys,h=>by
   rw[DV.eqs,DV.mE (xs:=xs) (ys:=ys) (λe=>h<|by simp[e]),D0]
def DV.mD:∀{xs ys:List DV},xs.length=ys.length->(Ba xs.length).all (λi=>DV.eq ((xs[i]?).getD (.fl .OH))<|(ys[i]?).getD (.fl .OH))=DV.eqs xs ys
 |[],[],_=>by rw[DV.eqs];rfl
 |[],_::_,h=>by simp at h
 |_::_,[],h=>by simp at h
 | x::xs,y::ys,h=>by
   have a:=DV.mD (xs:=xs) (ys:=ys) (by simpa using h);rw[AM,HK,CM,Ck,DV.eqs,<-a];rfl
def DV.VL:∀{xs ys:List DV}{i:Nat}{x y:DV},DV.fits xs ys=Af->xs[i]?=U x->ys[i]?=U y->DV.fit x y=Af
 |[],_,_,_,_,_,e,_=>by simp at e
 |_::_,[],_,_,_,_,_,e=>by simp at e
 | a::xs,b::ys,0,x,y,h,e1,e2=>by
   rw[DV.fits,Be]at h;cases e1;cases e2;exact h.1
 | a::xs,b::ys,i+1,x,y,h,e1,e2=>by
   rw[DV.fits,Be]at h;exact DV.VL (i:=i) h.2 e1 e2
def DV.Xr:∀{xs:List DV}{i:Nat}{x:DV},xs[i]?=U x->DV.dep x<=DV.Rb xs
 |[],_,_,e=>by simp at e
 | a::xs,0,x,e=>by
   cases e;rw[DV.Rb];exact JG _ _
 | a::xs,i+1,x,e=>by
   rw[DV.Rb];exact AL (DV.Xr (i:=i) e) (Jz _ _)
def bS(h:Pr a=Af):pN a a=Af:=by cases a<;>simp_all [Pr,pN]
section
variable{X:Cx}{q4:LN}{J:St}{H:Hp}{s:Ax}
def sE(I:Inv X q4 J H s):∀(n:Nat){d e:DV}{x:V},KI d<n->Yr X.K H d x->Yr X.K H e x->DV.fit d e=Af->DV.eq d e=Af:=by
 intro n;induction n with
 |zero=>intro d e x h;omega
 |succ n ih=>
   have y:∀{c j:List DV}{g:LM},KI c<n->QN X.K H c g->QN X.K H j g->DV.fits c j=Af->DV.eqs c j=Af:=by intro c j g m r q f;have E:=r.length;have F:=q.length;rw[<-DV.mD (E.trans F.symm),Bj];intro i D;rw[Ci]at D;have k:i<g.length:=Nr;let(a,v,z):=r.get<|Al k;let(b,w,B):=q.get<|Al k;rw[v,w];have C:KI a<KI c:=List.sizeOf_lt_of_mem<|Dl.mpr #[i,v];exact ih (Gg C m) z B<|DV.VL f v w
   intro d e x m r q f;cases d with
   |fl a=>
     cases e with
     |fl b=>rw[Yr]at r q;let(rfl,l):=r;let(rfl,_):=q;rw[DV.eq];exact bS l
     |_=>rw[DV.fit]at f;exact absurd f Nu;all_goals simp
   |tup c=>
     cases e with
     |tup j=>rw[Yr]at r q;let(p,g,rfl,l,o):=r;let(G,A,e,u,t):=q;cases e;cases I.lE l u;rw[DV.fit]at f;rw[DV.eq];refine y ?_ o t f;simp at m;omega
     |_=>rw[DV.fit]at f;exact absurd f Nu;all_goals simp
   |lst c=>
     cases e with
     |lst j=>rw[Yr]at r q;let(p,g,rfl,l,o):=r;let(G,A,e,u,t):=q;cases e;cases I.cZ l u;rw[DV.fit]at f;rw[DV.eq];refine y ?_ o t f;simp at m;omega
     |_=>rw[DV.fit]at f;exact absurd f Nu;all_goals simp
   |Aix j0=>rw[DV.fit]at f;exact absurd f Nu;all_goals simp
def XJ(rx:QN X.K H xs vs)(ry:QN X.K H ys ws)(ru:Vals vs us)(rw':Vals ws us')(k:∀(i:Nat)(a b:DV)(v w:V)(u u':Ai),xs[i]?=U a->ys[i]?=U b->Yr X.K H a v->Yr X.K H b w->RelV v u->RelV w u'->BV A s u u' (DV.eq a b)):∀j(h1:j<us.toArray.size)(h2:j<us'.toArray.size),BV A s us.toArray[j] us'.toArray[j] (DV.eq ((xs[j]?).getD (.fl .OH))<|(ys[j]?).getD (.fl .OH)):=by
 intro j h1 h2;simp only[Aw]at h1 h2;have p:=ru.length;have q:=rw'.length;have d:j<vs.length:=Nr;have f:j<ws.length:=Nr;let(u,n,ru):=ru.get<|Al d;let(w,g,rw'):=rw'.get<|Al f;let(a,c,m):=rx.get<|Al d;let(b,e,l):=ry.get<|Al f;have h:us.toArray[j]=u:=by have:=Al h1;rw[n]at this;simpa using(AS this).symm
 have o:us'.toArray[j]=w:=by have:=Al h2;rw[g]at this;simpa using(AS this).symm
 rw[h,o,c,e];exact k j a b _ _ u w c e m l ru rw'
def qY(hu:A.units<CU)(I:Inv X q4 J H s)(h1:PX X.K H p vs)(h2:PX X.K H q ws)(rx:QN X.K H xs vs)(ry:QN X.K H ys ws)(k:∀(i:Nat)(a b:DV)(v w:V)(u u':Ai),xs[i]?=U a->ys[i]?=U b->Yr X.K H a v->Yr X.K H b w->RelV v u->RelV w u'->BV A.in1 s u u' (DV.eq a b)):FP A s (.ref p) (.ref q) (DV.eqs xs ys)/\Fd A s (.ref p) (.ref q) (!DV.eqs xs ys):=by
 let(h,r,g,_):=I.list h1;let(f,j,d,_):=I.list h2;have m:=r.length;have t:=j.length;have n:=rx.length;have o:=ry.length;by_cases e:xs.length=ys.length
 ·have c:h.toArray.size=f.toArray.size:=by simp only[Aw];omega
  have l:(Ba h.toArray.size).all (λi=>DV.eq ((xs[i]?).getD (.fl .OH))<|(ys[i]?).getD (.fl .OH))=DV.eqs xs ys:=by rw[Aw,<-m,<-n];exact DV.mD e
  rw[<-l];exact#[HD g.isList d.isList c hu<|XJ rx ry r j k,GU g.isList d.isList c hu<|XJ rx ry r j k]
 ·have c:(h.toArray.size != f.toArray.size)=Af:=by simp only[Aw,bne_iff_ne];omega
  rw[DV.mE e];exact#[Et g.isList d.isList c hu,D7 g.isList d.isList c hu]
def zV(hu:A.units<CU)(I:Inv X q4 J H s)(h1:RE X.K H p vs)(h2:RE X.K H q ws)(rx:QN X.K H xs vs)(ry:QN X.K H ys ws)(k:∀(i:Nat)(a b:DV)(v w:V)(u u':Ai),xs[i]?=U a->ys[i]?=U b->Yr X.K H a v->Yr X.K H b w->RelV v u->RelV w u'->BV A.in1 s u u' (DV.eq a b)):FP A s (.ref p) (.ref q) (DV.eqs xs ys)/\Fd A s (.ref p) (.ref q) (!DV.eqs xs ys):=by
 let(g,r,m,_):=I.tuple h1;let(d,f,c,_):=I.tuple h2;have j:=r.length;have l:=f.length;have n:=rx.length;have h:=ry.length;have o:((Ba<|min g.toArray.size d.toArray.size).all (λi=>DV.eq ((xs[i]?).getD (.fl .OH))<|(ys[i]?).getD (.fl .OH))&&g.toArray.size==d.toArray.size)=DV.eqs xs ys:=by
  by_cases e:xs.length=ys.length
  ·rw[Aw,Aw,<-j,<-l,<-n,<-h,<-e,Fj,DV.mD e];simp
  ·rw[DV.mE e,Aw,Aw,<-j,<-l,<-n,<-h,Cn.mpr e,D0]
 rw[<-o];exact#[Hy m c hu<|XJ rx ry r f k,GL m c hu<|XJ rx ry r f k]
def uO(I:Inv X q4 J H s):∀(n:Nat){A:BS}{d e:DV}{x y:V}{u w:Ai},DV.dep d<n->A.units+n<CU->DV.fit d e=Af->Yr X.K H d x->Yr X.K H e y->RelV x u->RelV y w->BV A s u w (DV.eq d e):=by
 intro n;induction n with
 |zero=>omega
 |succ n ih=>
   intro A d e x y u w F N f r q h c;cases d with
   |fl a=>
     cases e with
     |fl b=>let(rfl,k):=r;let(rfl,j):=q;exact uP h c k j
     |_=>rw[DV.fit]at f;exact absurd f Nu;all_goals simp
   |tup xs=>
     cases e with
     |tup ys=>
       by_cases g:x=y
       ·subst g;have E:=sE I _ (C9 _) r q f;rw[E];let(p,z,rfl,k,j):=r;cases h;cases c;exact FQ _
       let(p,z,rfl,k,j):=r;let(L,G,rfl,D,B):=q;cases h;cases c;rw[DV.dep]at F;refine Hg (λe=>g<|by rw[e]) (zV Nr I k D j B ?_).1;intro i a b v w u j0 m t o C h l;exact ih (BJ (DV.Xr m) Nr) (by show A.units+1+n<CU;omega) (DV.VL f m t) o C h l
     |_=>rw[DV.fit]at f;exact absurd f Nu;all_goals simp
   |lst xs=>
     cases e with
     |lst ys=>
       by_cases g:x=y
       ·subst g;have E:=sE I _ (C9 _) r q f;rw[E];let(p,z,rfl,k,j):=r;cases h;cases c;exact FQ _
       let(p,z,rfl,k,j):=r;let(L,G,rfl,D,B):=q;cases h;cases c;rw[DV.dep]at F;refine Hg (λe=>g<|by rw[e]) (qY Nr I k D j B ?_).1;intro i a b v w u j0 m t o C h l;exact ih (BJ (DV.Xr m) Nr) (by show A.units+1+n<CU;omega) (DV.VL f m t) o C h l
     |_=>rw[DV.fit]at f;exact absurd f Nu;all_goals simp
   |Aix M=>rw[DV.fit]at f;exact absurd f Nu;all_goals simp
def AgL(K:Ab)(neg:Bool):R2:=λx y H Q=>∃d e,Yr K H d x/\Yr K H e y/\DV.fit d e=Af/\(∀a,d≠.fl a)/\DV.dep d<=8/\Q (.bl (if neg then !DV.eq d e else DV.eq d e)) H
def AjS(I:Inv X q4 J H s)(hu:X.A.units+64<CU)(r:Yr X.K H d x)(q:Yr X.K H e y)(f:DV.fit d e=Af)(nf:∀a,d≠.fl a)(hz:DV.dep d<=8)(ru:RelV x u)(rw':RelV y w):
  FP X.A s u w (DV.eq d e)/\Fd X.A s u w (!DV.eq d e):=by
 cases d with
 |fl a=>exact absurd Y<|nf a
 |tup xs=>
   cases e with
   |tup ys=>let(p,t,rfl,m,h):=r;let(z,B,rfl,n,j):=q;cases ru;cases rw';rw[DV.dep]at hz;refine zV Nr I m n h j ?_;intro i a b v w u C g o l k ru c;exact uO I 9 (BJ (DV.Xr g) Nr) (by show X.A.units+1+9<CU;omega) (DV.VL f g o) l k ru c
   |_=>rw[DV.fit]at f;exact absurd f Nu;all_goals simp
 |lst xs=>
   cases e with
   |lst ys=>let(p,t,rfl,m,h):=r;let(z,B,rfl,n,j):=q;cases ru;cases rw';rw[DV.dep]at hz;refine qY Nr I m n h j ?_;intro i a b v w u C g o l k ru c;exact uO I 9 (BJ (DV.Xr g) Nr) (by show X.A.units+1+9<CU;omega) (DV.VL f g o) l k ru c
   |_=>rw[DV.fit]at f;exact absurd f Nu;all_goals simp
 |Aix D=>rw[DV.fit]at f;exact absurd f Nu;all_goals simp
end
section
variable{X:Cx}
def vO(hu:X.A.units+64<CU){K₀:Ab}{N4:Hp}[hK:Ol X K₀ N4]:TM X (Bh .NotEq) (AgL K₀ Af):=by let(rfl,rfl):=hK;intro a s J H x y v u Q I b c h;let(d,e,r,q,f,g,i,k):=h;exact(AjS I hu r q f g i b c).2 _ _ _ _ #[.bl _,H,I,Y,k]
def U0(js:List (Key×DV)):List (Key×DV)->Bool
 |[]=>Af
 |(k,x)::ks=>(match js.find? (λj=>decide<|j.1=k)with|none=>Am|some j=>DV.eq x j.2)&&U0 js ks
def bV(js:List (Key×DV)):List (Key×DV)->Bool
 |[]=>Af
 |(k,x)::ks=>(match js.find? (λj=>decide<|j.1=k)with|none=>Af|some j=>DV.fit x j.2)&&bV js ks
def AeQ(ks js:List (Key×DV)):Bool:=ks.length==js.length&&U0 js ks
def ZR(ks:List (Key×DV)):Nat:=DV.Rb (ks.map (·.2))
def RL.val{K:Ab}{k:Key}:∀{ks:List (Key×DV)}{v5:LP},RL K H ks v5 ->
  (ks.find? (λj=>decide<|j.1=k)=none/\PV v5 k=none)\/∃j v,ks.find? (λj=>decide<|j.1=k)=U j/\PV v5 k=U v/\Yr K H j.2 v
 |[],[],_=>.inl #[Y,Y]
 | x::xs,v::vs,h=>by
   rw[RL]at h;let(e,r,h):=h;by_cases b:x.1=k
   ·right
    have a:v.1=k:=e▸b;exact#[x,v.2,by simp[D8,b],by simp[PV,D8,a],r]
   ·have a:¬ v.1=k:=e▸b;have d:=RL.val (k:=k) h;have c:(x::xs).find? (λj=>decide<|j.1=k)=xs.find? (λj=>decide<|j.1=k):=by simp[D8,b]
    have f:PV (v::vs) k=PV vs k:=by simp[PV,D8,a]
    rw[c,f];exact d
 |[],_::_,h=>by rw[RL]at h;exact h.elim;all_goals simp
 |_::_,[],h=>by rw[RL]at h;exact h.elim;all_goals simp
def xX(I:Inv X q4 J H s)(hu:A.units+9<CU)(rj:RL X.K H js v5)(rb:KV v5 kb):
  ∀{ks:List (Key×DV)}{kvs':LP}{ka:ME},RL X.K H ks kvs'->KV kvs' ka->bV js ks=Af->ZR ks<=8->PySem.W.KeqHits A s kb ka (U0 js ks)
 | [],[],ka,_,ra,_,_=>by
   cases ra;exact .nil
 | x::xs,v::vs,ka,h,ra,f,hz=>by
   rw[RL]at h;let(e,r,h):=h;let(k,d):=x;cases ra with
   |@cons p q ps qs hh t=>
     let(u,D):=q;let(n,C):=v;let(l,o):=hh;have e:k=n:=e;have l:n=u:=l;subst e l;rw[bV,Be]at f;have w:max (DV.dep d) (ZR xs)<=8:=by have:=hz;unfold ZR at this;rw[Au,DV.Rb]at this;exact this
     have a:=rb.val k;rw[U0];rcases rj.val (k:=k)with⟨g,m⟩|⟨j,y,g,m,B⟩
     ·rw[g];rw[m]at a;exact .miss (by
       cases b:DJ kb k with
       |none=>rfl
       |some z=>rw[b]at a;exact a.elim)
     ·rw[g]at f ⊢;rw[m]at a;obtain⟨z,i,c⟩:∃z,DJ kb k=U z/\RelV y z:=by
       cases b:DJ kb k with
       |none=>rw[b]at a;exact a.elim
       |some z=>rw[b]at a;exact#[z,Y,a]
      exact .hit i (uO I 9 Nr hu f.1 r B o c)<|xX I hu rj rb h t f.2 Nr
 |[],_::_,_,h,_,_,_=>by rw[RL]at h;exact h.elim;all_goals simp
 |_::_,[],_,h,_,_,_=>by rw[RL]at h;exact h.elim;all_goals simp
def AjO(K:Ab)(neg:Bool):R2:=λx y H Q=>∃ks js,Yr K H (.Aix ks) x/\Yr K H (.Aix js) y/\bV js ks=Af/\ZR ks<=8/\Q (.bl (if neg then !AeQ ks js else AeQ ks js)) H
def Adr(hu:X.A.units+64<CU){K₀:Ab}{N4:Hp}[hK:Ol X K₀ N4]:TM X (Bh .NotEq) (AjO K₀ Af):=by
 let(rfl,rfl):=hK;intro j s J H x y v u Q I G j0 h;let(c,l,r,q,f,C,k):=h;let(p,n,rfl,z,a):=r;let(P,i,rfl,F,d):=q;cases G;cases j0;let(O,B,D,b,t):=QW I.Oj z;let(N,m,w,g,M):=QW I.Oj F;have K:=a.length;have L:=d.length;have E:=AJ b;have o:=AJ g;refine PySem.W.keq_ne B m t M Nr (λ_=>xX I (by show X.A.units+1+9<CU;omega) d g a b f C) #[.bl _,H,I,Y,?_];have e:(D.length==w.length&&U0 l c)=AeQ c l:=by unfold AeQ;rw[<-E,<-o,<-K,<-L]
 rw[e];exact k
end
end
def QS:∀{xs:LM}{us:LQ},xs.length=us.length->(∀(i:Nat)(x:V)(u:Ai),xs[i]?=U x->us[i]?=U u->RelV x u)->Vals xs us
 |[],[],_,_=>.nil
 |[],_::_,h,_=>by simp at h
 |_::_,[],h,_=>by simp at h
 |x::xs,u::us,h,k=>.cons (k 0 x u Y Y) (QS (by simpa using h) λi a b c d=>k (i+1) a b (by simpa using c)<|by simpa using d)
def AgO{lo:Int}{n:Nat}(h:((Ba n).map λj=>V.int<|lo+(j:Nat))[i]?=U v):i<n/\v=.int (lo+i):=by
 rw[Ag]at h;cases a:(Ba n)[i]? with
 |none=>rw[a]at h;cases h
 |some j=>rw[a]at h;cases h;let(b,c):=Ah.mp a;rw[List.getElem_range]at c;rw[By]at b;subst c;exact#[b,Y]
def AiS{lo:Int}{n:Nat}(hz:n<=sizeLine)(hD:H1 D=none)(f:Nat->V)(hs:∀(i:Nat)H(R:V->Hp->Prop)(R':Hp->Prop),i<n->Ob H1 H->(∀H6,Ob H H6->R (f i) H6) ->
   g (.int<|lo+i) (pick v9 J) H λσ4 H4=>Wk (pick v9 J) σ4/\(λ_ H Q=>Q Af H:TT) σ4 H4 λb H5=>if b=Af then te σ4 H5 R else R' H5)(hq:∀H',H' D=U (.lst<|(Ba n).map f)->Ob H1 H'->Q (.ref D) H'):AnC v9 J g (λ_ H Q=>Q Af H) te (AbO lo n) H1 D Q:=by
 refine WX AaS (by rw[Ac,By];exact hz) hD (λ_=>Af) (λv=>match v with|.int k=>f (k-lo).toNat|v=>v) ?_ ?_
 ·intro i v H R R' o l j m;let(a,rfl):=AgO o;refine hs i H R R' a l λH6 d=>?_
  have:=j H6 Y d;have e:(lo+(i:Nat)-lo).toNat=i:=Nr;dsimp only at this;rw[e]at this;exact this
 ·intro H' c h;refine hq H' ?_ h;rw[c,Ce.mpr (λ_ _=>rfl),As]
  congr 2
  refine A4 λi _=>?_
  show f (lo+(i:Nat)-lo).toNat=f i
  congr 1
  omega
def Akk{K:Ab}(h:PX K H p xs):AmZ K "list" (.ref p) H:=.inl #[Y,xs,h]
abbrev Ent:=Int×Mt
abbrev Mz:=Option Ent
abbrev O7:=List (Ay×Ent)
abbrev L4:=List (Ay×O7)
def iG:Mt->V
 |none=>.OH
 |some z=>.str z
def Abd(a:Mt):Pr (iG a)=Af:=by cases a<;>rfl
def WM(e:Ent):DV:=.tup [.fl<|.int e.1,.fl<|iG e.2]
def ZH(E:O7):List (Key×DV):=E.map λe=>(.inr e.1,WM e.2)
def look(E:O7)(n:Ay):Mz:=(E.find? λe=>decide<|e.1=n).map (·.2)
def Rz(E:O7)(n:Ay)(x:Ent):O7:=if(E.any λe=>decide<|e.1=n)=Af then E.map (λe=>if e.1=n then(e.1,x)else e)else E++[(n,x)]
def Rh(e:Ay×Ent)(E:O7)(n:Ay):look (e::E) n=if e.1=n then U e.2 else look E n:=by unfold look;by_cases h:e.1=n<;>simp[D8,h]
def YT{n:Ay}:look E n=none↔∀e∈E,e.1≠n:=by unfold look;simp
def Tg{n:Ay}(h:look E n=U x):(n,x)∈E:=by unfold look at h;rw[AA]at h;let((m,y),a,rfl):=h;have b:=Fo a;have c:=Cc a;simp at b;subst b;exact c
def Sw:∀{E:O7}{n:Ay}{x:Ent},(E.map (·.1)).Nodup->(n,x)∈E->look E n=U x
 | e::E,n,x,hn,h=>by
   rw[Rh];rw[Au,Bb]at hn;rcases AB.mp h with rfl|h
   ·simp
   ·have:e.1≠n:=λq=>hn.1 (q▸AE.mpr #[_,h,Y])
    rw[Aq this];exact Sw hn.2 h
def qZ(E F:O7)(n:Ay):look (E++F) n=(look E n).or (look F n):=by
 induction E with
 |nil=>rfl
 |cons e E ih=>rw[Gk,Rh,Rh,ih];split<;>rfl
def dA(E:O7)(n m:Ay)(x:Ent):look (Rz E n x) m=if n=m then U x else look E m:=by
 unfold Rz;split
 ·rename_i h;have f:∀F:O7,look (F.map λe=>if e.1=n then(e.1,x)else e) m=if n=m/\(F.any λe=>decide<|e.1=n)=Af then U x else look F m:=by
   intro F;induction F with
   |nil=>simp[look]
   |cons e F ih=>
     rw[Au,Rh,Rh,ih];by_cases b:e.1=n
     ·rw[Az b];by_cases a:n=m
      ·have d:=b.trans a;have g:((e::F).any λe=>decide<|e.1=n)=Af:=by simp[b]
       rw[Az d,Az #[a,g]]
      ·have d:=λq=>a (b.symm.trans q)
       rw[Aq d,Aq (λq=>a q.1),Aq (λq=>a q.1),Aq d]
     ·rw[Aq b];have g:((e::F).any λe=>decide<|e.1=n)=(F.any λe=>decide<|e.1=n):=by simp[b]
      rw[g];by_cases a:n=m
      ·have d:¬ e.1=m:=λq=>b (q.trans a.symm)
       rw[Aq d,Aq d]
      ·rw[Aq (c:=n=m/\_) (λq=>a q.1),Aq (c:=n=m/\_) λq=>a q.1]
  rw[f];by_cases a:n=m
  ·rw[Az #[a,h],Az a]
  ·rw[Aq (λq=>a q.1),Aq a]
 ·rename_i h;rw[qZ,Rh];by_cases a:n=m
  ·subst a;have:=YT.mpr λe i q=>h<|B1.mpr #[e,i,by simpa using q]
   rw[this];simp
  ·rw[Aq a,Aq a];cases look E m<;>rfl
def AcN(E:O7)(n:Ay)(x:Ent):(Rz E n x).map (·.1)=if n∈E.map (·.1)then E.map (·.1)else E.map (·.1)++[n]:=by
 unfold Rz;have b:((E.any λe=>decide<|e.1=n)=Af)↔n∈E.map (·.1):=by
  rw[B1,AE];constructor
  ·rintro⟨e,a,q⟩;exact#[e,a,by simpa using q]
  ·rintro⟨e,a,q⟩;exact#[e,a,by simpa using q]
 by_cases h:n∈E.map (·.1)
 ·rw[Az<|b.mpr h,Az h,As];refine A4 λe _=>?_
  show(if e.1=n then(e.1,x)else e).1=e.1;split<;>rfl
 ·rw[Aq (λq=>h<|b.mp q),Aq h,AU];rfl
def Ade(h:(E.map (·.1)).Nodup)(n:Ay)(x:Ent):((Rz E n x).map (·.1)).Nodup:=by
 rw[AcN];split
 ·exact h
 ·rename_i q;rw[CC];exact#[h,Nu,λa d b c e=>q (by simp at c;rw[<-c,<-e];exact d)]
def yE(a b:Ent):Ent:=if a.1≠b.1 then(if a.1>b.1 then a else b)else if b.2=none then b else a
def jn:Mz->Mz->Mz
 |none,y=>y
 |x,none=>x
 |some a,U b=>U (yE a b)
def Yh(o:Mz)(y:Ent):Ent:=match o with
 |some x=>yE x y
 |none=>y
def Ow(E F:O7):O7:=F.foldl (λA f=>Rz A f.1<|Yh (look A f.1) f.2) E
def kI:∀{E:O7},(F.map (·.1)).Nodup->∀n,look (Ow E F) n=jn (look E n) (look F n):=by
 induction F with
 |nil=>intro E _ n;show look E n=jn _ none;cases look E n<;>rfl
 |cons f F ih=>
   intro E a n;rw[Au,Bb]at a;have e:Ow E (f::F)=Ow _ F:=rfl;rw[e,ih a.2,dA,Rh];by_cases h:f.1=n
   ·rw[Az h,Az h];have:=YT.mpr λe b q=>a.1<|AE.mpr #[e,b,q.trans h.symm]
    rw[this,h];cases look E n<;>rfl
   ·rw[Aq h,Aq h]
def yJ:∀{E:O7},(E.map (·.1)).Nodup->((Ow E F).map (·.1)).Nodup:=by
 induction F with
 |nil=>intro E h;exact h
 |cons f F a=>intro E h;exact a (Ade h _ _)
def wK[DecidableEq α]:∀{l m:List α},l.Nodup->(∀a∈l,a∈m)->m.length<=l.length->∀a∈m,a∈l:=by
 intro l;induction l with
 |nil=>intro m _ _ f a d;have:=Cm.mp (by simpa using f);rw[this]at d;exact d
 |cons b l ih=>
   intro m g h f a d;rw[Bb]at g;by_cases e:a=b
   ·rw[e];exact AW
   ·refine AD _ (ih g.2 (λc i=>?_) ?_ a<|(Ds e).mpr d)
    ·exact(Ds λq:c=b=>g.1<|q▸i).mpr (h c<|AD _ i)
    ·rw[Cj<|h b AW];simp only[AM]at f;omega
def Aiz(a b:Ent):DV.eq (WM a) (WM b)=decide (a=b):=by let(e,c):=a;let(f,d):=b;unfold WM;rw[DV.eq,DV.eqs,DV.eqs,DV.eqs,DV.eq,DV.eq,BN,Bx];cases c<;>cases d<;>simp[pN,iG]
def Afp(a b:Ent):DV.fit (WM a) (WM b)=Af:=by
 unfold WM;rw[DV.fit,DV.fits,DV.fits,DV.fits,DV.fit,DV.fit]
 all_goals simp
def zL(F:O7)(n:Ay):(ZH F).find? (λj=>decide<|j.1=.inr n)=(F.find? λe=>decide<|e.1=n).map λe=>(.inr e.1,WM e.2):=by
 unfold ZH;induction F with
 |nil=>rfl
 |cons f F ih=>
   rw[Au,Bc,Bc];by_cases h:f.1=n
   ·simp[h]
   ·have:¬ (C1 f.1:Key)=.inr n:=λq=>h (by injection q)
    simp only[Ar h,Ar this];exact ih
def qP(F:O7):∀E:O7,U0 (ZH F) (ZH E)=Af↔∀e∈E,look F e.1=U e.2
 |[]=>by simp[ZH,U0]
 | e::E=>by
   have c:ZH (e::E)=(.inr e.1,WM e.2)::ZH E:=rfl;rw[c,U0,zL,Be,qP F E];unfold look;cases h:F.find? λx=>decide (x.1=e.1)with
   |none=>simp[h]
   |some f=>simp only[Option.map_some,Aiz,Bx,AB,forall_eq_or_imp,h,Ho];exact#[λ⟨a,b⟩=>#[a.symm,b],λ⟨a,b⟩=>#[a.symm,b]]
def Aet(F:O7):∀E:O7,bV (ZH F) (ZH E)=Af
 |[]=>rfl
 | e::E=>by
   have a:ZH (e::E)=(.inr e.1,WM e.2)::ZH E:=rfl;rw[a,bV,zL,Aet F E,JU];cases F.find? λx=>decide (x.1=e.1)with
   |none=>rfl
   |some f=>exact Afp _ _
def Aes:∀E:O7,ZR (ZH E)<=8
 |[]=>by simp[ZR,ZH,DV.Rb]
 | e::E=>by
   have a:=Aes E;have b:ZH (e::E)=(.inr e.1,WM e.2)::ZH E:=rfl;unfold ZR at a ⊢;rw[b,Au,DV.Rb];have:DV.dep (WM e.2)=1:=by unfold WM;rw[DV.dep,DV.Rb,DV.Rb,DV.Rb,DV.dep,DV.dep];rfl
   show max (DV.dep<|WM e.2) _<=8;omega
def Afq(hE:(E.map (·.1)).Nodup)(hF:(F.map (·.1)).Nodup):AeQ (ZH E) (ZH F)=Af↔∀n,look E n=look F n:=by
 unfold AeQ;have g:(ZH E).length=E.length:=by simp[ZH]
 have i:(ZH F).length=F.length:=by simp[ZH]
 rw[Be,qP,g,i,Ek];constructor
 ·rintro ⟨k,h⟩ n;cases q:look E n with
  |some x=>exact(h _<|Tg q).symm
  |none=>
    cases r:look F n with
    |none=>rfl
    |some y=>
      have d:=wK (l:=E.map (·.1)) (m:=F.map (·.1)) hE (λa c=>by
       let(e,b,rfl):=AE.mp c;exact AE.mpr #[_,Tg<|h e b,Y]) (by simp[k]) n<|AE.mpr #[_,Tg r,Y]
      let(e,b,rfl):=AE.mp d;exact absurd Y<|YT.mp q e b
 ·intro h;have f:∀e∈E,look F e.1=U e.2:=λe b=>by rw[<-h];exact Sw hE b
  refine#[?_,f];have o:∀a∈E.map (·.1),a∈F.map (·.1):=λa c=>by
   let(e,b,rfl):=AE.mp c;exact AE.mpr #[_,Tg<|f e b,Y]
  have j:∀a∈F.map (·.1),a∈E.map (·.1):=λa c=>by
   let(e,b,rfl):=AE.mp c;exact AE.mpr #[_,Tg (by rw[h];exact Sw hF b),Y]
  have p:(E.map (·.1)).Perm (F.map (·.1)):=by
   rw[List.perm_iff_count];intro a;rw[hE.count,hF.count];by_cases q:a∈E.map (·.1)
   ·rw[Az q,Az<|o a q]
   ·rw[Aq q,Aq λr=>q<|j a r]
  simpa using p.length_eq
def Alw(hE:(E.map (·.1)).Nodup)(hF:(F.map (·.1)).Nodup)(h:∀n,look E n=look F n):AeQ (ZH E) (ZH F)=Af:=(Afq hE hF).mpr h
section
variable{K:Ab}{H:Hp}
def AgN:Yr K H (WM e) x↔∃t,x=.ref t/\RE K H t [.int e.1,iG e.2]:=by
 constructor
 ·rintro ⟨t,g,rfl,f,d⟩
  match g,d with
  |[a,b],d=>let((rfl,_),(rfl,_),_):=d;exact#[t,Y,f]
  |[],d=>exact d.elim;all_goals simp
  |[a],d=>exact d.2.elim;all_goals simp
  |a::b::c::r,d=>exact d.2.2.elim;all_goals simp
 ·rintro⟨t,rfl,h⟩;refine#[t,_,Y,h,?_];exact#[#[Y,Y],#[Y,Abd _],Bk]
abbrev Ae2(K:Ab)(H:Hp)(E:O7)(v5:LP):Prop:=RL K H (ZH E) v5
def Ae2.nil:Ae2 K H [] []:=by exact Bk
def Abu:RL K H (x::xs) (v::vs)↔x.1=v.1/\Yr K H x.2 v.2/\RL K H xs vs:=by rw[RL]
def Ae2.cons{e:Ay×Ent}{E:O7}{t:Ae}{v5:LP}(ht:RE K H t [.int e.2.1,iG e.2.2])(h:Ae2 K H E v5):Ae2 K H (e::E) ((.inr e.1,.ref t)::v5):=Abu.mpr #[Y,AgN.mpr #[t,Y,ht],h]
end
abbrev WS:Ay:="abcdefghijklmnopqrstuvwxyz0123456789"
def Akr:WS.cps.toList=Gs 97 26++Gs 48 10:=Np
def bF:WS.cps.toList.length=36:=Np
def Am2:WS.cps.toList.Nodup:=Np
def sg(i:Int):Ay:=⟨(zTo [WS.cps.toList.getD (i%36).toNat 0])⟩
def zI(i:Int):fZ WS.cps.toList (i%36)=U (WS.cps.toList.getD (i%36).toNat 0):=by have a:=BY i (show(36)≠0 by decide);exact Ab6 0 a (by rw[bF];omega)
def AnS:(⟨(zTo [c])⟩:Ay).cps.toList=[c]:=rfl
def PQ(x y:Ay):(x++y).length=x.length+y.length:=Ay.length_append x y
def QV(x y:Ay):(x++y).cps.toList=x.cps.toList++y.cps.toList:=by show(x.cps++y.cps).toList=_;rw[ID]
def VQ(x:Ay):x.cps.toList.length=x.length:=Nt
def Aj1(h:sg i=sg j):i%36=j%36:=by
 have a:(i%36).toNat<WS.cps.toList.length:=by rw[bF];omega
 have b:(j%36).toNat<WS.cps.toList.length:=by rw[bF];omega
 have e:WS.cps.toList.getD (i%36).toNat 0=WS.cps.toList.getD (j%36).toNat 0:=by have:=congrArg (λz:Ay=>z.cps.toList) h;unfold sg at this;simpa[AnS]using this
 rw[BD,BD,Al a,Al b]at e;have:=(E6 Am2).mp e;omega
def join_one(l:LK)(h:∀a∈l,a.length=1):(Fb (A8 "") l).length=l.length:=PySem.W.KT.join_ones l h
def zN:∀{n:Nat}(l:LK)(h:∀a∈l,a.length=1),l.length=n->(l.map (·.length)).sum=n
 |_,[],_,e=>by subst e;rfl
 | _,a::l,h,e=>by
   have d:=zN l (λb c=>h b<|AD _ c) Y;have f:=h a AW;simp only[Au,List.sum_cons,AM]at *;omega
def AaT{f:Nat->Ay}{n:Nat}(hn:n<=1000)(h:∀i,(f i).length=1):(((Ba n).map f).map (·.length)).sum+((Ba n).map f).length*(A8 "").length<=16777216:=by rw[zN (n:=n) _ (λa b=>by let(i,_,rfl):=AE.mp b;exact h i) Nu];have:(A8 "").length=0:=Np;rw[this];omega
def AcH{f:Nat->Ay}{n:Nat}(h:∀i,(f i).length=1):(Fb (A8 "")<|(Ba n).map f).length=n:=by rw[join_one _ λa b=>by let(i,_,rfl):=AE.mp b;exact h i];simp
def mix(c k:Int):Int:=(c+7919*k)*48271%2147483647*((c+7919*k)*48271%2147483647)%2147483629
def base(c:Int):Ay:=Fb (A8 "") ((Ba 8).map λk=>sg<|mix c (k:Nat))
def cell(ns:LS)(k:Int):Int:=if k<ns.length then ns.getD k.toNat 0 else 0
abbrev AnM:Ay:="!\"#$&'()*+,-./0123456789:;<=>?@ABCDEFGHIJKLMNOPQRSTUVWXYZ[\\]^_`"++"abcdefghijklmnopqrstuvwxyz{|}~"
def tg(i:Int):Ay:=⟨(zTo [AnM.cps.toList.getD (i%93).toNat 0])⟩
section
variable{q:Ae}{o:Cy}{kq:LP}{g:TG}{tb:TS}{D:Ends}{J:St}{H:Hp}
def AaJ(Pv:Nat->St->Hp->Prop)(h0:Pv 0 J H)(hf:∀i J H,i<=kq.length->Pv i J H->H q=U (.Ry o<|.dK kq))(hs:∀i kv t J H,kq[i]?=U kv->Pv i J H->H t=none->g (.ref t) J (upd H t<|.tup [kV kv.1,kv.2]) λσ2 H2=>tb {D with nx:=Pv<|i+1,ct:=Pv<|i+1,bk:=D.nx} σ2 H2)(hd:∀J H,Pv kq.length J H->D.nx J H):∃W:Nat->Nat->St->Hp->Prop,(∃m,W 0 m J H)/\∀i m J H,W i m J H ->
   ((AkS q o kq).stop i H/\D.nx J H)\/((AkS q o kq).go i H/\∃N:St->Hp->Prop,(∀σ' H',N σ' H'->∃m',m'<m/\W (i+1) m' σ' H')/\∀x H',(AkS q o kq).AbV i H x H'->g x J H' λσ2 H2=>tb {D with nx:=N,ct:=N,bk:=D.nx} σ2 H2):=by
 refine#[λi m J H=>m=kq.length-i/\i<=kq.length/\Pv i J H,#[kq.length,Nu,Bo _,h0],?_];rintro i m J H⟨rfl,b,p⟩;by_cases a:i<kq.length
 ·refine .inr #[#[a,hf i J H b p],Pv _,λσ' H' d=>#[kq.length-(i+1),Nr,Y,a,d],λx H' y=>?_];let(t,kv,c,e,rfl,rfl):=y;exact hs i kv t J H e p c
 ·have e:i=kq.length:=Nr;subst e;exact .inl #[#[Ap _,hf _ J H b p],hd J H p]
def qE(Pv:Nat->St->Hp->Prop)(h0:Pv 0 J H)(hf:∀i J H,i<=kq.length->Pv i J H->H q=U (.Ry o<|.dK kq))(hs:∀i kv J H,kq[i]?=U kv->Pv i J H->g (kV kv.1) J H λσ2 H2=>tb {D with nx:=Pv<|i+1,ct:=Pv<|i+1,bk:=D.nx} σ2 H2)(hd:∀J H,Pv kq.length J H->D.nx J H):∃W:Nat->Nat->St->Hp->Prop,(∃m,W 0 m J H)/\∀i m J H,W i m J H ->
   ((AkT q o kq).stop i H/\D.nx J H)\/((AkT q o kq).go i H/\∃N:St->Hp->Prop,(∀σ' H',N σ' H'->∃m',m'<m/\W (i+1) m' σ' H')/\∀x H',(AkT q o kq).AbV i H x H'->g x J H' λσ2 H2=>tb {D with nx:=N,ct:=N,bk:=D.nx} σ2 H2):=by
 refine#[λi m J H=>m=kq.length-i/\i<=kq.length/\Pv i J H,#[kq.length,Nu,Bo _,h0],?_];rintro i m J H⟨rfl,b,p⟩;by_cases a:i<kq.length
 ·refine .inr #[#[a,hf i J H b p],Pv _,λσ' H' c=>#[kq.length-(i+1),Nr,Y,a,c],λx H' y=>?_];let(rfl,kv,e,rfl):=y;exact hs i kv J _ e p
 ·have e:i=kq.length:=Nr;subst e;exact .inl #[#[Ap _,hf _ J H b p],hd J H p]
end
def AcR(h:b.1<a.1):yE a b=a:=by unfold yE;rw[Az Nr,Az h]
def AcS(h:a.1<b.1):yE a b=b:=by unfold yE;rw[Az Nr,Aq Nr]
def AhM(h:a.1=b.1)(n:b.2=none):yE a b=b:=by unfold yE;rw[Aq (λq=>q h),Az n]
def AhN(h:a.1=b.1)(n:b.2≠none):yE a b=a:=by unfold yE;rw[Aq (λq=>q h),Aq n]
end L2
namespace L2
end L2
namespace L2
end L2
namespace L2
end L2
namespace L2
open PySem
end L2
namespace L2
open PySem PySem.Spec PyProof.Rows
section
section
variable{X:Cx}
def AgH:LM->Hp->VK->Prop:=λxs H Q=>∃(p:Ae)(v5:LP),xs=[.ref p]/\Rd H p (.dK v5)/\∀l,H l=none->Q (.ref l) (upd H l<|.lst<|v5.map λkv=>kV kv.1)
def uH(hc:X.calm=Af):QA X (.type "list") AgH:=by
 intro t s J H R T Q I r h;let(p,f,rfl,D,k):=h;let(u,rfl,j0):=vals1 r;cases j0;let(z,y,N,b,G):=QW I.Oj D;have E:=AJ b;let(S,l):=G.dictAt;refine PySem.W.kdl_call (D1 y) (I.ok.hd hc) l Nr λL M c A B m a=>?_
 have F:=I.fresh;refine#[.ref _,_,I.laid (o:=.lst _) B (Ap _) #[by rw[Ac];exact z,c.toList,A,?_,by exact m],Y,k _ F];refine QS (by rw[Ac,E];simpa using a.1.symm) λi x u d q=>?_
 rw[Cu]at q;let(C,w,g,j):=a.2 i u q;rw[Ag]at d;cases e:f[i]? with
 |none=>rw[e]at d;cases d
 |some kv=>rw[e]at d;cases d;let(O,K,P,v,n,_):=b.get (Ah.mp e).1;rw[e]at v;cases v;rw[g]at n;cases n;exact XI j
def Abr:LM->Hp->VK->Prop:=λxs H Q=>∃(p:Ae)(v5:LP)(ns:LK),xs=[.ref p]/\Rd H p (.dK v5)/\v5.map (·.1)=ns.map C1/\ns.length<64 /\
  ∀(ms:LK)l,ms.Perm ns->F9 ms=Af->H l=none->Q (.ref l) (upd H l<|.lst<|ms.map V.str)
def lP(hc:X.calm=Af):QA X (.builtin "sorted") Abr:=by
 intro v s J H xs us Q I r h;let(p,g,A,rfl,hp,q,ab,k):=h;let(u,rfl,ru):=vals1 r;cases ru;let(z,P,vs,t,dd):=QW I.Oj hp;have hl:=AJ t;have aa:g.length=A.length:=by have:=congrArg Dt q;simpa using this
 let(ep,D):=dd.dictAt;refine EG Hn GO GQ (Jh _) ?_;refine Ad<|wpAny_pure ?_;refine Ad<|Ec (D1 P) (I.ok.hd hc) D Nr λj0 W c u9 a=>?_
 have F:Kh c.toList A:=by
  refine T7<|QS (by have:=a.1;simp only[Ac,Bt];omega) λi x u y M=>?_
  rw[Cu]at M;let(m,w,B,C):=a.2 i u M;rw[Ag]at y;cases f:A[i]? with
  |none=>rw[f]at y;cases y
  |some n=>
    rw[f]at y;cases y;have hi:i<g.length:=by have:=(Ah.mp f).1;omega
    let(y0,v',Z,e1,L,_):=t.get hi;rw[B]at L;obtain⟨rfl,rfl⟩:m=y0/\w=Z:=by simpa using L
    have:=congrArg (λl=>l[i]?) q;rw[Ag,Ag,e1,f]at this;have:m=C1 n:=by simpa using this
    subst this;exact XI C
 have V:c.toList.length=A.length:=by rw[Bt,a.1];omega
 refine Ad<|Dr ?_ Nr;have G:Inv X v J H {s with heap:=j0,toks:=W}:=I.kept u9;have d:(j0.push<|seqObj "list" c.toList.toArray 0).get? _=U _:=AR _ Y;refine Ad<|BH<|El FY #[_,d,Y] FI (list_sort_treeK strKind_oneLt d F.keysOf (λac ad O e=>keyKind_strs (by rw[<-e];exact F)) Nr λE a1 a2=>#[_,Y,?_])<|Ie _;refine wpAny_pure #[_,Y,?_];let(R,S,N,T):=sorted_out_str F a1 a2;have hn:=G.fresh;let(e,f):=IL d;have hm:=N.length_eq;refine#[.ref _,_,G.laid (o:=.lst _) (λb o K=>?_) (Ap _) #[?_,((DX E).map _).toList,e,Zb S,?_],Y,k R _ N T hn]
 ·have j:=AO K;rw[Ia (A9 j) (by rw[Ib];exact EW j)];exact Aj _ K
 ·rw[Ac];omega
 ·exact f
def AgK:V->LM->Hp->VK->Prop:=λx vs H Q=>∃l v5,x=.ref l/\vs=[]/\H l=U (.dK v5)/\Q .OH (upd H l<|.dK [])
def Aa3:Ae0 X "dict.clear" AgK:=by intro b s J H x k v j Q I f g h;let(l,c,rfl,rfl,d,q):=h;cases f;have a:=g.zero;subst a;exact Afi I d λi e=>#[.OH,_,e,Y,q]
end
def AeU(a b:Ay):Prop:=¬ (b.cps.toList<a.cps.toList)
def dQ:∀(p:Ay)(l:LK),risingS p l=Af->(∀a∈l,AeU p a)/\l.Pairwise AeU
 |p,[],_=>#[Nu,.nil]
 | p,a::l,h=>by
   unfold risingS at h;rw[Be,Bool.not_eq_true',ltCps_eq,F4]at h;let(d,g):=dQ a l h.2;have f:∀b∈l,AeU p b:=λb c q=>by
    have i:¬ (b.cps.toList<a.cps.toList):=d b c;have j:¬ (a.cps.toList<p.cps.toList):=h.1;exact absurd (List.lt_of_le_of_lt (IA.mp i) q) j
   exact#[λb c=>(AB.mp c).elim (λe=>e▸h.1) (f b),.cons d g]
def eS:∀(l:LK),F9 l=Af->l.Pairwise AeU
 |[],_=>.nil
 | p::l,h=>by
   let(a,b):=dQ p l h;exact .cons a b
def AcT(h1:AeU a b)(h2:AeU b a):a=b:=by have:=List.le_antisymm (IA.mp h1)<|IA.mp h2;exact oS this
def AbD{l m:LK}(hl:l.Pairwise AeU)(hm:m.Pairwise AeU)(p:l.Perm m):l=m:=p.eq_of_pairwise (λa b _ _ c d=>AcT c d) hl hm
def Yw(E:O7)(n:Ay):Int:=match look E n with
 |some x=>x.1
 |none=>0
def Ag8{v5:LP}{k:Key}{v:V}(hn:(v5.map (·.1)).Nodup)(h:(k,v)∈v5):PV v5 k=U v:=by
 induction v5 with
 |nil=>cases h
 |cons e v5 a=>
   rw[Au,Bb]at hn;rcases AB.mp h with rfl|h
   ·simp[PV]
   ·have:e.1≠k:=λq=>hn.1 (q▸AE.mpr #[_,h,Y])
    have a:=a hn.2 h;unfold PV at a ⊢;rw[Bc];simp only[Ar this];exact a
open PySem.SeqAt PySem.MeetsSeq PySem.MeetsSeq2 PySem.MeetsSeq3
open PySem.AutoSeq1 (wpAny_loadPart')
end
section
variable{X:Cx}{J:St}{l:Ae}{xs:LM}{H0:Hp}{q:Ae}(P:Nat->Hp->V->Prop)(c:Nat->Nat->Bool)
def Ada(hc:X.calm=Af)(hl:PX X.K H0 l xs)(mP:∀i H H' k,Ob H H'->P i H k->P i H' k)(tr:∀a b i,c a i=Af->c b i=Am->c a b=Af)(an:∀a b,c a b=Af->c b a=Am)(turn:∀i x,xs[i]?=U x->∀q4 s H u,Inv X q4 J H s->Ob H0 H->RelV x u->AZ (A7 X.prog X.w) X.A.in1 (call (.ref q) [u]) (EP X q4 J λk H'=>Ob H H'/\P i H' k) (λ_ _=>False) s)(less:∀i j q4 s J H ki kj ui uj(Q:Ai->Ax->Prop)(E:Ai->Ax->Prop),Inv X q4 J H s->P i H ki->P j H kj->RelV ki ui->RelV kj uj->Q (.bool<|c i j) s->AZ (A7 X.prog X.w) X.A.in1 (Jt .Lt ui uj) Q E s)(hSI:S≠I)(hlI:l≠I)(fin:∀i x u H s,xs[i]?=U x->RelV x u->(∀j,j<xs.length->c j i=Am/\(j<i->c i j=Af))->Inv X q4 J H s->Ob H0 H->R (.ok<|.ret u) s):
  ∀(r j i:Nat)(s:Ax)(H:Hp)(x:V)(u:Ai)(k:V)(uk:Ai)(e:Nat),xs.length-(j+1)=r->j+1<=xs.length->Inv X q4 J H s->Ob H0 H->Q9 X q4 H S->Q9 X q4 H I ->
   s.heap.get? S=U (seqObj "list" (zTo [u,uk]) e)->s.heap.IsListIter I l (j+1)->xs[i]?=U x->RelV x u->P i H k->RelV k uk->i<=j->(∀j',j'<=j->c j' i=Am/\(j'<i->c i j'=Af)) ->
   Er (A7 X.prog X.w) X.A (.builtin "min.loop" #[[.ref I,.ref q,.ref S],[]]) R s:=by
 have nm:(toString "min"++toString ".loop":String)="min.loop":=Nq;intro r;induction r with
 |zero=>
   intro j i s H x u k uk e hr hj j0 u9 t h Z it hx ru pk rk ai g;let(m,rv,pl,hz):=j0.list<|u9.seq hl;have B:=rv.length;have W:=GJ (prog:=X.prog) (w:=X.w) (A:=X.A.in1) (j0.ok.hd hc) I l hlI m.toArray;refine Hu E3 ?_;refine Ad<|HP Z Y ?_;refine Ad<|D9<|W.done _ _ _ #[by rw[Aw,<-B,show xs.length=j+1 by omega];exact it,pl.isList] λO n kk=>?_
   have J1:Inv X q4 J H {s with heap:=O,toks:=n}:=j0.turned (λb o d G=>kk b o (by simpa using d) G) h.1 h.2.1 h.2.2.2.1 h.2.2.2.2.1 h.2.2.2.2.2;have p:=kk S _ (by simpa using hSI) Z;have sb:=BW O S<|BR λ_=>(#[])
   refine Ad<|Ht p Y<|Ad<|Ff<|wpAny_pure ?_;have J2:=J1.turned (t':=n) (λb o d G=>(sb.2 b d).trans G) t.1 t.2.1 t.2.2.2.1 t.2.2.2.2.1 t.2.2.2.2.2;exact fin i x u H _ hx ru (λj' ad=>g j' Nr) J2 u9
 |succ r ih=>
   intro j i s H x u k uk e hr hj j0 u9 t h Z it hx ru pk rk ai g;let(m,rv,pl,hz):=j0.list<|u9.seq hl;have B:=rv.length;have C:j+1<xs.length:=Nr;have W:=GJ (prog:=X.prog) (w:=X.w) (A:=X.A.in1) (j0.ok.hd hc) I l hlI m.toArray;refine Hu E3 ?_;refine Ad<|HP Z Y ?_;refine Ad<|D9<|W.item _ _ _ _ (by rw[Aw];omega) #[it,pl.isList] λv O n hP am kk=>?_
   obtain⟨y,hy⟩:∃y,xs[j+1]?=U y:=#[_,Al C];let(N,aj,ac):=rv.get hy;have ev:N=v:=by
    have hP:m[j+1]?=U v:=by simpa using hP
    rw[aj]at hP;exact AS hP
   subst ev;have J1:Inv X q4 J H {s with heap:=O,toks:=n}:=j0.turned (λb o d G=>kk b o (by simpa using d) G) h.1 h.2.1 h.2.2.2.1 h.2.2.2.2.1 h.2.2.2.2.2;have p:=kk S _ (by simpa using hSI) Z;let(oI,gI,cI,dI):=id am.1;have ao:=J1.pinned (λb d=>by
    rcases AB.mp d with rfl|d
    ·exact t
    ·rw[An.mp d];exact h) (λb d=>by
    rcases AB.mp d with rfl|d
    ·exact#[_,p,λv z=>by cases z]
    ·rw[An.mp d];exact#[oI,gI,λv z=>by rw[dI]at z;cases z])
   have pS:(S,seqObj "list" _ e)∈SR [S,I] O:=Pq Nu p;have pI:(I,oI)∈SR [S,I] O:=Pq Nu gI;refine Ad<|D9<|BH<|BL (turn _ y hy _ _ H N ao u9 ac) (λkv T he=>?_) λ_ _ hF=>hF.elim
   let(k2,L,M,af,D,y0):=he;have J2:=M.Sg;let(F,ah,_):=M.pin _<|AV _<|AV _ pS;let(ae,al,_):=M.pin _<|AV _<|AV _ pI;have f:Q9 X q4 L S:=#[ah,t.2];have ag:Q9 X q4 L I:=#[al,h.2];have ak:T.heap.IsListIter I l _:=#[oI,ae,cI,dI];have aa:=u9.trans D;refine Ad<|D9<|BH<|Ad<|less _ i q4 T J L k2 k kv uk _ _ J2 y0 (mP i H L k D pk) af rk ?_;refine Ad<|BH<|CJ ?_;refine Ad<|Ff<|wpAny_pure ?_;cases d:c _ i with
   |true=>
     have sb:=BW T.heap S<|BR λ_=>(zTo [N,kv])
     obtain⟨e2,ap⟩:∃e2,(T.heap.update S<|BR λ_=>(zTo [N,kv])).get? S=U _:=#[_,EH F λ_=>(zTo [N,kv])];refine Ad<|Ht F Y<|Ad<|Ff ?_;have J3:=J2.turned (t':=T.toks) (λb o d G=>(sb.2 b d).trans G) f.1 f.2.1 f.2.2.2.1 f.2.2.2.2.1 f.2.2.2.2.2;refine wpAny_pure #[Gi C7 _,ih _ _ _ L y N k2 kv e2 Nr C J3 aa f ag ap #[oI,(sb.2 I<|AF hSI).trans ae,cI,dI] hy ac y0 af (Ap _) λj' ad=>?_];by_cases ej:j'=j+1
     ·subst ej;refine#[?_,λz=>absurd z<|CN _];cases ab:c _ _ with
      |false=>rfl
      |true=>rw[<-ab];exact an _ _ ab
     ·have b1:=(g j' Nr).1;exact#[an _ _<|tr _ _ _ d b1,λ_=>tr _ _ _ d b1]
   |false=>
     refine Ad<|Ff ?_;refine wpAny_pure #[Gi C7 _,ih _ i T L x u k uk e Nr C J2 aa f ag F ak hx ru (mP i H L k D pk) rk Nr λj' ad=>?_];by_cases ej:j'=j+1
     ·subst ej;exact#[d,λz=>Nr]
     ·exact g j' Nr
def AfU(hc:X.calm=Af)(hl:PX X.K H0 l xs)(mP:∀i H H' k,Ob H H'->P i H k->P i H' k)(tr:∀a b i,c a i=Af->c b i=Am->c a b=Af)(an:∀a b,c a b=Af->c b a=Am)(turn:∀i x,xs[i]?=U x->∀q4 s H u,Inv X q4 J H s->Ob H0 H->RelV x u->AZ (A7 X.prog X.w) X.A.in1 (call (.ref q) [u]) (EP X q4 J λk H'=>Ob H H'/\P i H' k) (λ_ _=>False) s)(less:∀i j q4 s J H ki kj ui uj(Q:Ai->Ax->Prop)(E:Ai->Ax->Prop),Inv X q4 J H s->P i H ki->P j H kj->RelV ki ui->RelV kj uj->Q (.bool<|c i j) s->AZ (A7 X.prog X.w) X.A.in1 (Jt .Lt ui uj) Q E s)(j0:Inv X q4 J H0 s)(hne:0<xs.length)(k:∀i x H,xs[i]?=U x->(∀j,j<xs.length->c j i=Am/\(j<i->c i j=Af))->Ob H0 H->Q x H):
  AZ (A7 X.prog X.w) X.A (call (.builtin "min") [.ref l] [(A8 "key",.ref q)]) (EP X q4 J Q) X.xe s:=by
 have nm:(toString "min"++toString ".loop":String)="min.loop":=Nq;let(am,rv,pl,hz):=j0.list hl;have al:=rv.length;refine PyProof.Rows.kmk_tree PySem.F.kind_min PySem.F.plain_min PySem.F.entry_min (PyProof.Rows.kmk_min_key _ _) ?_;show AZ _ X.A.in1 (Dx.Builtins.bindParams "min" ["key","default"] 0 #[[],[(A8 "key",.ref q)]] >>= _) _ _ s;refine Ad<|wpAny_of_eq (a:=[U<|.ref q,none]) Y<|Ad<|wpAny_pure<|Ad<|GD pl.isList<|Ad<|Dr ?_<|Bo _;rw[nm];refine wpAny_pure #[Gi C7 _,?_];have ad:(s.heap.push {cls:=.type "list_iterator",data:=.fields (zTo [.ref l,.int 0 0])}).objs.size=s.heap.objs.size+1:=Ib ..;have J1:Inv X q4 J H0 {s with heap:=s.heap.push {cls:=.type "list_iterator",data:=.fields (zTo [.ref l,.int 0 0])}}:=j0.kept (t':=s.toks) λb o e=>Aj _ e
 have J2:Inv X q4 J H0 {s with heap:=(s.heap.push {cls:=.type "list_iterator",data:=.fields (zTo [.ref l,.int 0 0])}).push (seqObj "list" #[] 0)}:=J1.kept (t':=s.toks) λb o e=>Aj _ e
 have r:Q9 X q4 H0 s.heap.objs.size:=j0.V9 (Ap _)<|j0.Oj.fresh<|Ap _;have fS:Q9 X q4 H0 (s.heap.push {cls:=.type "list_iterator",data:=.fields (zTo [.ref l,.int 0 0])}).objs.size:=J1.V9 (Ap _)<|J1.Oj.fresh<|Ap _;have gI:((s.heap.push {cls:=.type "list_iterator",data:=.fields (zTo [.ref l,.int 0 0])}).push (seqObj "list" #[] 0)).get? s.heap.objs.size=U {cls:=.type "list_iterator",data:=.fields (zTo [.ref l,.int 0 0])}:=Aj _<|AR _ Y;have gS:((s.heap.push {cls:=.type "list_iterator",data:=.fields (zTo [.ref l,.int 0 0])}).push (seqObj "list" #[] 0)).get? (s.heap.push {cls:=.type "list_iterator",data:=.fields (zTo [.ref l,.int 0 0])}).objs.size=U (seqObj "list" #[] 0):=AR _ Y;have t:(s.heap.push {cls:=.type "list_iterator",data:=.fields (zTo [.ref l,.int 0 0])}).objs.size≠s.heap.objs.size:=by rw[ad];exact Ig<|C9 _
 have O:l≠s.heap.objs.size:=by let(o,n,e,_):=pl;exact A9<|AO e
 let(h,M,y0,_):=J2.list hl;have ak:=M.length;generalize(s.heap.push {cls:=.type "list_iterator",data:=.fields (zTo [.ref l,.int 0 0])}).objs.size=S at *;generalize(s.heap.push {cls:=.type "list_iterator",data:=.fields (zTo [.ref l,.int 0 0])}).push (seqObj "list" #[] 0)=hh at *;generalize s.heap.objs.size=I at *;have W:=GJ (prog:=X.prog) (w:=X.w) (A:=X.A.in1) (j0.ok.hd hc) I l O h.toArray;refine Hu E3 ?_;rw[BS.under_plainId C7 _];show AZ _ X.A.in1 (seqItems? (.ref S) >>= _) _ _ _;refine Ad<|HP gS Y ?_;show AZ _ X.A.in1 (tryCatch (pyNext<|.ref I) _ >>= _) _ _ _;refine Ad<|D9<|W.item 0 _ _ _ (by rw[Aw];omega) #[#[_,gI,Y,Y],y0.isList] λv h' L u9 af kk=>?_
 obtain⟨y,hy⟩:∃y,xs[0]?=U y:=#[_,Al hne];let(f,ac,G):=M.get hy;have ev:f=v:=by
  have u9:h[0]?=U v:=by simpa using u9
  rw[ac]at u9;exact AS u9
 subst ev;have J3:Inv X q4 J H0 {s with heap:=h',toks:=L}:=J2.turned (λb o g eb=>kk b o (by simpa using g) eb) r.1 r.2.1 r.2.2.2.1 r.2.2.2.2.1 r.2.2.2.2.2;have R:=kk S _ (by simpa using t) gS;let(oI,N,cI,dI):=id af.1;have aa:=J3.pinned (fp:=[S,I]) (λb g=>by
  rcases AB.mp g with rfl|g
  ·exact fS
  ·rw[An.mp g];exact r) (λb g=>by
  rcases AB.mp g with rfl|g
  ·exact#[_,R,λv z=>by cases z]
  ·rw[An.mp g];exact#[oI,N,λv z=>by rw[dI]at z;cases z])
 have pS:(S,seqObj "list" #[] 0)∈SR [S,I] h':=Pq Nu R;have pI:(I,oI)∈SR [S,I] h':=Pq Nu N;show AZ _ X.A.in1 (tryCatch (holding [f]<|call (.ref q) [f]) _ >>= _) _ _ _;refine Ad<|D9<|BH<|BL (turn 0 y hy _ {s with heap:=h',toks:=L} H0 f aa (Ob.refl _) G) (λp T he=>?_) λ_ _ hF=>hF.elim
 let(k2,H2,m,ai,ab,V):=he;have J4:=m.Sg;let(C,Z,_):=m.pin _<|AV _<|AV _ pS;let(ah,ae,_):=m.pin _<|AV _<|AV _ pI;have d:Q9 X q4 H2 S:=#[Z,fS.2];have aj:Q9 X q4 H2 I:=#[ae,r.2];have sb:=BW T.heap S<|BR λ_=>(zTo [f,p])
 obtain⟨e2,ag⟩:∃e2,(T.heap.update S<|BR λ_=>(zTo [f,p])).get? S=U (seqObj "list" (zTo [f,p]) e2):=#[_,EH C λ_=>(zTo [f,p])];show AZ _ X.A.in1 (updateSeq S (λ_=>(zTo [f,p])) >>= _) _ _ _;refine Ad<|Ht C Y ?_;rw[nm];have J5:=J4.turned (t':=T.toks) (h':=T.heap.update S<|BR λ_=>(zTo [f,p])) (λb o g eb=>(sb.2 b g).trans eb) d.1 d.2.1 d.2.2.2.1 d.2.2.2.2.1 d.2.2.2.2.2;refine wpAny_pure #[Gi C7 _,Ada P c hc hl mP tr an turn less t O (λi x u H s hx ru B JJ sH=>#[x,H,JJ,ru,k i x H hx B sH]) _ 0 0 _ H2 y f k2 p e2 Y hne J5 ab d aj ag #[oI,(sb.2 I<|AF t).trans ah,cI,dI] hy G V ai (Ap _) λj' ao=>?_];have e:j'=0:=Nr;subst e;refine#[?_,λz=>absurd z<|CN _];cases D:c 0 0 with
 |false=>rfl
 |true=>rw[<-D];exact an _ _ D
end
def Amd(q:V->Hp->Prop):LM->Hp->Prop
 |[x],H=>q x H
 |_,_=>False
def XM(X:Cx)(A:BS)(qual:Ay)(scope:Scope)(N:LK)(f:Ae)(cd:Ai)(s:Ax)(H:Hp):Cx where
 prog:=X.prog
 w:=X.w
 K:=X.K
 mg:=X.mg
 base:=X.base
 A:=A.deeper (EY qual scope s.heap.objs.size f cd<|Pc X.env.cells scope.names [])
 N:=N
 Qy:=s
 N4:=H
 env:=EY qual scope s.heap.objs.size f cd (Pc X.env.cells scope.names [])
 outer:=X.stack
 stack:=EY qual scope s.heap.objs.size f cd (Pc X.env.cells scope.names [])::X.stack
 ex:=[]
 calm:=Af
 fn:=λ_=>Am
 pn:=[]
 xe:=λ_ _=>False
section
variable{X:Cx}{q4:LN}{J:St}{H:Hp}{s:Ax}
def kE{f:Ae}{tk:Nat}(I:Inv X q4 J H s)(hA:A.frames=U X.stack)(hh:A.handled=none)(hkind:scope.kind=.function)(hcell:∀y∈scope.names,y.2≠.cell)(hpar:scope.names.lookup par=U .local)(hfr:∀y∈scope.names,y.2=.free->X.env.kindOf y.1=U .cell\/X.env.kindOf y.1=U .free)(caps:Q2 X scope Nc v9)(hns:h1.Ns s.heap.objs.size (λy=>[(par,u)].reverse.lookup y))(k:∀b o,s.heap.get? b=U o->h1.get? b=U o)(rv:RelV v u):
  Inv (XM X A qual scope (par::Nc) f cd s H) [] (U v::pick v9 J) H {s with heap:=h1,toks:=tk}:=by
 have a:∀{x:Ay}{c:Ae},(Pc _ _ []).lookup x=U c->X.env.cells.lookup x=U c:=λ{x c}h=>by
  rcases Yv h with q|⟨O,L⟩
  ·simp at q
  ·let(N,g):=I.ok.has x (hfr _ O Y);rw[g]at L;rw[g,L];rfl
 have d:∀{x:Ay},scope.names.lookup x=U _->∃c,(Pc X.env.cells _ []).lookup x=U c:=λ{x}h=>
  DD.mp (Yu<|.inl<|lookup_mem h)
 have n:∀{c:Ae}{v:LX},s.heap.IsCell c v->h1.IsCell c v:=λ{c v}⟨o,R,M⟩=>#[o,k c o R,M]
 have B:∀b:Ae,b∉(XM X A qual scope (par::Nc) f cd s H).ex:=λb z=>absurd (show b∈([])from z) Nu
 refine#[#[I.ok.mod,hkind,Y,Y,Ap _,λx y c t T=>I.ok.inj x y c (a t)<|a T,λx t=>?_,λ_ _ z=>(nomatch z),λ_=>hh,HG hA,.inr #[Y,Y],λb z=>absurd z<|B b,I.bs,AL I.ok.Aap I.sz,λb _ _=>B b,λb z=>absurd z<|B b,I.stack,I.bB],
  rfl,I.bare,Un.kept k,#[_,hns,λj x w j0 G y0=>?_],λx c e=>?_,I.Oj.fresh<|Ap _,λx c e=>I.QC x c<|a e,λp Q=>absurd (show p∈([]:List _)from Q) Nu,I.Oj.kept k,?_]
 ·rcases t with t|t
  ·exact absurd Y<|hcell _<|lookup_mem t
  ·exact d t
 ·cases j with
  |zero=>cases j0;cases G;exact#[u,rv,.inl #[hpar,Nu]]
  |succ j=>
    let(i,E,D):=rW G;let(u9,K,F):=caps.at j0 E;let(m,W,S):=I.loc;let(P,r,l):=S i x w u9 D<|K.elim (λz=>.inr<|.inl z) λz=>.inr<|.inr z
    refine#[P,r,?_];rcases l with⟨z,_⟩|⟨_,c,V,C⟩
    ·rcases K with q|q<;>(rw[q]at z;cases z)
    ·let(N,g):=d F;have e:=a g;rw[V]at e;cases e;exact .inr #[.inr F,c,g,n C]
 ·let(v,z):=I.cell x c (a e);exact#[v,n z]
 ·show(U v::pick v9 J).length=(par::Nc).length;unfold pick;rw[AM,AM,Ac];rw[caps.len]
def AcO{t:TE}(I:Inv X q4 J H s)(hc:X.calm=Af)(hq:s.heap.get? q=U (DC "<lambda>" qual params body scope (Pc X.env.cells scope.names []) pm c' ctv))(hcd:s.heap.CodeRec (.ref c') qual)(hbind:∀fd:Cz,fd.params=params->fd.defaults=.none->fd.kwdefaults=.none->Cf fd #[[u],[]]=pure [(par,u)])(hkind:scope.kind=.function)(hco:scope.isCoroutine=Am)(hgen:scope.isGenerator=Am)(hcell:∀y∈scope.names,y.2≠.cell)(hpar:scope.names.lookup par=U .local)(hfr:∀y∈scope.names,y.2=.free->X.env.kindOf y.1=U .cell\/X.env.kindOf y.1=U .free)(caps:Q2 X scope Nc v9)(hroom:X.A.in1.depth<CZ)(rv:RelV v u)(hb:PE (XM X X.A.in1 qual scope (par::Nc) q (.ref c') s H) body t)(h:t (U v::pick v9 J) H Q):AZ (A7 X.prog X.w) X.A.in1 (call (.ref q) [u]) (EP X q4 J Q) (λ_ _=>False) s:=by
 refine Em ?_;have d:=I.AaH.in1;have g:s.heap.NoLimit:=d.mod.nolimit.keeps λb o e=>(d.bs b o e).1
 refine Hw hroom hq Y hco hgen Y hcd ?_;rw[hbind _ Y Y Y];refine wpAny_pure<|FV hcell (λy m=>by rw[An.mp m];exact hpar) (λk i a=>#[g.fresh _ a,?_]) hkind;have j:∀b o,s.heap.get? b=U o->k.get? b=U o:=λb o e=>a.extBut b o (A9<|AO e)<|Aj _ e
 show Er _ _ (.expr body<|EY qual scope s.heap.objs.size q (.ref c')<|Pc X.env.cells scope.names []) _ _;have j0:=kE (qual:=qual) (f:=q) (cd:=.ref c') (tk:=s.toks+1) I d.frames (I.ok.hd hc) hkind hcell hpar hfr caps i j rv;refine Hv<|BL (hb [] _ _ H Q j0 h) (λC B r=>?_) λ_ _ z=>z.elim
 let(x,n,c,l,p):=r;exact I.after #[x,n,c.os,c.bare,c.base,c.Oj,l,p]
def Inv.grow{more:Mb}(I:Inv X q4 J H s)(hP:H P=U (.So ps))(k:∀b o,b≠P->s.heap.get? b=U o->h'.get? b=U o)(hn:h'.get? P=U {cls:=.none,data:=.fields (ps++more)}):Inv X q4 J (upd H P<|.So<|ps++more) {s with heap:=h',toks:=t'}:=by
 have j:∀b,H b=none->b≠P:=λb e z=>by rw[z,hP]at e;cases e
 have B:=j _ I.free;have w:∀y c,X.env.cells.lookup y=U c->c≠P:=λy c e=>j _<|I.QC y c e
 refine#[I.ok,I.os,I.bare,#[λb o e n x h=>k b o (j _<|I.base.free b o e n h)<|I.base.keep b o e n x h,λb o e n x h=>?_,λb o e n h=>?_,λb o e h=>?_,λb C e=>?_,λb o u e=>?_,λb M e=>?_],?_,λy c e=>?_,?_,λy c e=>?_,λp K=>?_,λb u e=>?_,I.len]
 ·let(F,g):=I.base.slot b o e n x h;exact#[F,k _ _ (j _<|I.base.free b o e n h) g]
 ·rw[NX<|j _<|I.base.free b o e n h];exact I.base.free b o e n h
 ·let(A,g):=I.base.there b o e h;by_cases f:b=P
  ·subst f;exact#[_,hn]
  ·exact#[A,k _ _ f g]
 ·have g:=I.base.Xd b C e;rw[NX λz=>by rw[z,hP]at g;cases g];exact g
 ·have g:=I.base.UX b o u e;rw[NX λz=>by rw[z,hP]at g;cases g];exact g
 ·obtain ⟨m,g⟩:=I.base.We b M e;by_cases f:b=P
  ·subst f;rw[hP]at g;cases g;exact#[m++more,by rw[N1,IT]]
  ·exact#[m,by rw[NX f];exact g]
 ·let(m,(o,O,Q,g,r),N):=I.loc;refine#[m,#[o,O,Q,k _ _ B g,r],λi y v a b c=>?_];let(u,E,l):=N i y v a b c;refine#[u,E,?_];rcases l with l|⟨R,c,D,A,j0,L⟩
  ·exact .inl l
  ·exact .inr #[R,c,D,A,k _ _ (w _ _ D) j0,L]
 ·let(v,o,g,G):=I.cell y c e;exact#[v,o,k _ _ (w y c e) g,G]
 ·rw[NX B];exact I.free
 ·rw[NX<|w y c e];exact I.QC y c e
 ·let(a,b,c,d,e):=I.pin p K;exact#[k _ _ (j _ b) a,by rw[NX<|j _ b];exact b,c,d,e]
 ·by_cases f:b=P
  ·subst f;rw[N1]at e;cases e;exact hn
  ·rw[NX f]at e;refine(I.Oj b u e).Xb (λc v t q=>k c v ?_ q) (λc q=>?_) λc C q=>?_
   ·rcases t with rfl|t
    ·exact f
    ·intro z;rw[z,hP]at t;cases t
   ·rw[NX λz=>by rw[z,hP]at q;cases q];exact q
   ·rw[NX λz=>by rw[z,hP]at q;cases q];exact q
def Inv.AeA(I:Inv X q4 J H s)(f:Q9 X q4 H a)(hy:X.Qy.heap.get? a=none)(h1:φ s.heap)(h2:∃o,s.heap.get? a=U o)(h3:∀h h':BM,φ h->(∀o,h.get? a=U o->h'.get? a=U o)->φ h'):Inv X q4 J (upd H a<|.ext φ) s:=by
 let(j,A,_,_,z,r):=f;refine#[I.ok,I.os,I.bare,#[I.base.keep,I.base.slot,λb o e n w=>?_,I.base.there,λb k e=>?_,λb o u e=>?_,λb t e=>?_],I.loc,I.cell,?_,λy c e=>?_,λp i=>?_,λb u e=>?_,I.len]
 ·rw[NX λq=>by rw[q,hy]at e;cases e];exact I.base.free b o e n w
 ·have:=I.base.Xd b k e;rw[NX<|Oc this j];exact this
 ·have:=I.base.UX b o u e;rw[NX<|Oc this j];exact this
 ·let(g,m):=I.base.We b t e;exact#[g,by rw[NX<|Oc m j];exact m]
 ·rw[NX<|AF A];exact I.free
 ·rw[NX<|z y c e];exact I.QC y c e
 ·let(x,b,c,d,e):=I.pin p i;exact#[x,by rw[NX<|r p i];exact b,c,d,e]
 ·by_cases l:b=a
  ·subst l;rw[N1]at e;cases e;exact#[h1,h2,h3]
  ·rw[NX l]at e;exact(I.Oj b u e).Xb (λc v _ q=>q) (λc q=>by rw[NX<|Oc q j];exact q) λc k q=>by rw[NX<|Oc q j];exact q
end
def AeN(c:Ae)(q:Ay):HO:=.ext λh=>h.CodeRec (.ref c) q
def Sq(H:Hp)(pos:CQ)(q:Ay)(ps:Mb):Prop:=ps=#[]\/∃c,ps=(zTo [rawInt pos.line,rawInt pos.col,.ref c])/\H c=U (AeN c q)
def Ui(P:Ae)(H H':Hp):Prop:=∀b u,b≠P->H b=U u->H' b=U u
def Ss:∀h h':BM,h.CodeRec (.ref c) q->(∀o,h.get? c=U o->h'.get? c=U o)->h'.CodeRec (.ref c) q:=by rintro h h'⟨g,o,d,t,e,a,f,b⟩k;cases e;exact#[c,o,d,t,Y,k o a,f,b]
section
variable{X:Cx}{q4:LN}{J:St}{H:Hp}{s:Ax}
def AcP{pos:CQ}(I:Inv X q4 J H s)(hcode:X.env.code=.ref c)(C:Fi X.base c P)(hB:X.base.BuiltinsAt X.mg P)(hP:H P=U (.So ps))(hT:Sq H pos qual ps)(hdef:HR params X.env=([],[]))(hcl:JL scope X.env=pure (Pc X.env.cells scope.names []))(hq:qual=X.env.qual++"<lambda>")(h:∀q c' ctv H' s',(∃ps',H' P=U (.So ps')/\Sq H' pos qual ps')->Ui P H H'->Inv X q4 J H' s'->Q9 X q4 H' q->X.Qy.heap.get? q=none->H' c'=U (AeN c' qual) ->
   s'.heap.get? q=U (DC "<lambda>" qual params body scope (Pc X.env.cells scope.names []) ((X.mg "__name__").getD .none) c' ctv)->s'.heap.CodeRec (.ref c') qual->R (.ref q) s'):
  AZ (A7 X.prog X.w) X.A (eval (.Lambda params body scope pos) X.env) R E s:=by
 have p:=λb o e=>(I.bs b o e).1
 have nP:∀b o,X.base.get? b=U o->b≠P:=λb o e z=>by
  have:=(I.bs b o e).2;rw[z,hP]at this;cases this
 have j0:=C.keeps p;have K:s.heap.Ns AK X.mg:=by let(o,M,N,e,r):=I.ok.mod.glob;exact#[o,M,N,p _ _ e,r]
 have D:AK≠P:=by let(o,M,N,e,r):=I.ok.mod.glob;exact nP _ _ e
 have l:s.heap.BuiltinsAt X.mg P:=by let(u9,o,a1,a2,Q,T,S,a6):=hB;exact#[u9,o,a1,a2,Q,T,p _ _ S,a6]
 have f:=I.Oj P _ hP;subst hq;refine PySem.W.kla_eval hdef ?_;rcases hT with rfl|⟨c',rfl,g⟩
 ·refine PySem.W.kla_makeFunction hcl I.ok.glob K hcode j0 f (by exact Bk) Nt D l λc' ctv h' k Z a m d G=>?_
  have j:Inv X q4 J _ {s with heap:=h',toks:=k}:=I.grow hP (λb o n e=>Z b o n e) G;have i:c'≠P:=λz=>absurd (AO f)<|Nat.not_lt.mpr<|z▸a
  have v:(upd H P<|.So<|#[]++(zTo [rawInt pos.line,rawInt pos.col,.ref c'])) c'=none:=by rw[NX i];exact I.Oj.fresh a
  have O:=I.V9 a v;have y0:=C0<|AL I.sz a;have V:∃o,h'.get? c'=U o:=by let(c2,o,vs,t,e,e1,_):=d;cases e;exact#[o,e1]
  have y:=j.AeA O y0 d V Ss;have x:=y.kept (h':=h'.push<|DC "<lambda>" (X.env.qual++"<lambda>") params body scope (Pc X.env.cells scope.names []) ((X.mg "__name__").getD .none) c' ctv) (t':=k) λb o e=>Aj _ e
  refine h _ c' ctv _ _ #[_,by rw[NX<|AF i];exact N1,.inr #[c',Nu,N1]] (λb u n e=>?_) x (y.V9 (Ap _)<|y.Oj.fresh<|Ap _) (C0<|AL I.sz<|AL a<|Dh m) N1 (AR _ Y)<|Ss _ _ d λo e=>Aj _ e
  rw[NX (λz=>by rw[z,I.Oj.fresh a]at e;cases e),NX n];exact e
 ·have F:=(show OC _ X.w H _ c' _ from I.Oj c' _ g).1;refine PySem.W.kla_makeFunctionHit (cv:=.ref c') hcl I.ok.glob K hcode j0 f (by exact Bk) (by simp[codeAmong,rawInt]) l λctv h' k L B=>?_
  have j:Inv X q4 J H {s with heap:=h',toks:=k}:=I.kept L;have x:=j.kept (h':=h'.push<|DC "<lambda>" (X.env.qual++"<lambda>") params body scope (Pc X.env.cells scope.names []) ((X.mg "__name__").getD .none) c' ctv) (t':=k) λb o e=>Aj _ e
  exact h _ c' ctv H _ #[_,hP,.inr #[c',Y,g]] (λb u _ e=>e) x (j.V9 (Ap _)<|j.Oj.fresh<|Ap _) (C0<|AL I.sz B) g (AR _ Y) (Ss _ _ (Ss _ _ F λo e=>L _ _ e) λo e=>Aj _ e)
def FO(q:Ae)(qual:Ay)(params:Kw)(body:Expr)(scope:Scope)(clos:Mg)(pm:Ai)(c':Ae)(ctv:Ai):HO:=.ext λh=>h.get? q=U (DC "<lambda>" qual params body scope clos pm c' ctv)
def Apn(X:Cx)(P:Ae)(params:Kw)(body:Expr)(scope:Scope)(pos:CQ):TE:=λ_ H Q=>∃ps,H P=U (.So ps)/\Sq H pos (X.env.qual++"<lambda>") ps /\
 ∀q c' ctv H',(∃ps',H' P=U (.So ps')/\Sq H' pos (X.env.qual++"<lambda>") ps')->Ui P H H'->H q=none->H' q=U (FO q (X.env.qual++"<lambda>") params body scope (Pc X.env.cells scope.names []) ((X.mg "__name__").getD .none) c' ctv) ->
  H' c'=U (AeN c'<|X.env.qual++"<lambda>")->Q (.ref q) H'
def AdD{pos:CQ}(hcode:X.env.code=.ref c)(C:Fi X.base c P)(hB:X.base.BuiltinsAt X.mg P)(hdef:HR params X.env=([],[]))(hfr:∀y∈scope.names,y.2=.free->X.env.kindOf y.1=U .cell\/X.env.kindOf y.1=U .free):
  PE X (.Lambda params body scope pos) (Apn X P params body scope pos):=by
 intro r s J H Q I h;let(N,L,B,k):=h;refine AcP I hcode C hB L B hdef (Uj λx K G=>I.ok.has _<|hfr x K G) Y λq j i R M⟨o,g,n⟩w D f j0 a p v=>?_
 have d:q≠P:=λz=>by have e:=f.1;rw[z,g]at e;cases e
 have l:j≠q:=λz=>by rw[z]at a;rw[f.1]at a;cases a
 have E:=D.AeA (φ:=λh=>h.get? q=U (DC "<lambda>" (X.env.qual++"<lambda>") params body scope (Pc X.env.cells scope.names []) ((X.mg "__name__").getD .none) j i)) f j0 p #[_,p] λh O e k=>k _ e
 have t:H q=none:=by
  cases e:H q with
  |none=>rfl
  |some u=>have:=w q u d e;rw[f.1]at this;cases this
 refine#[.ref q,_,E,Y,k q j i _ #[o,by rw[NX<|AF d];exact g,?_] (λb u A e=>?_) t N1 (by rw[NX l];exact a)]
 ·rcases n with e|⟨F,e,m⟩
  ·exact .inl e
  ·exact .inr #[F,e,by rw[NX λz=>by rw[z,f.1]at m;cases m];exact m]
 ·rw[NX λz=>by rw[z,t]at e;cases e];exact w b u A e
def AcQ{t:TE}(I:Inv X q4 J H s)(hc:X.calm=Af)(hq:H q=U (FO q qual params body scope (Pc X.env.cells scope.names []) pm c' ctv))(hcd:H c'=U (AeN c' qual))(hbind:∀(u:Ai)(fd:Cz),fd.params=params->fd.defaults=.none->fd.kwdefaults=.none->Cf fd #[[u],[]]=pure [(par,u)])(hkind:scope.kind=.function)(hco:scope.isCoroutine=Am)(hgen:scope.isGenerator=Am)(hcell:∀y∈scope.names,y.2≠.cell)(hpar:scope.names.lookup par=U .local)(hfr:∀y∈scope.names,y.2=.free->X.env.kindOf y.1=U .cell\/X.env.kindOf y.1=U .free)(caps:Q2 X scope Nc v9)(hroom:X.A.in1.depth<CZ)(rv:RelV v u)(hb:∀(s:Ax)(H:Hp),PE (XM X X.A.in1 qual scope (par::Nc) q (.ref c') s H) body t)(h:t (U v::pick v9 J) H Q):AZ (A7 X.prog X.w) X.A.in1 (call (.ref q) [u]) (EP X q4 J Q) (λ_ _=>False) s:=by
 have a:OC X.prog X.w H s.heap q (FO q qual params body scope (Pc X.env.cells scope.names []) pm c' ctv):=I.Oj q _ hq;have b:OC X.prog X.w H s.heap c' (AeN c' qual):=I.Oj c' _ hcd;exact AcO I hc a.1 b.1 (hbind u) hkind hco hgen hcell hpar hfr caps hroom rv (hb s H) h
end
def AfM:HT.lexLt [a,b] [c,d]=Af↔a<c\/(a=c/\b<d):=by
 rw[HT.WY,HT.WY,HT.iA];split
 ·split
  ·simp;omega
  ·simp;omega
 ·simp;omega
def AcX:HT.lexLt [a,b] [c,d]=Am↔¬ (a<c\/(a=c/\b<d)):=by rw[<-AfM];simp
def Ui.seq{K:Ab}(sb:Ui P H H')(hP:H P=U (.So ps))(h:PX K H l xs):PX K H' l xs:=by
 rcases h with(h|⟨o,h⟩)|h
 ·exact .inl<|.inl<|sb _ _ (λz=>by rw[z,hP]at h;cases h) h
 ·exact .inl<|.inr #[o,sb _ _ (λz=>by rw[z,hP]at h;cases h) h]
 ·exact .inr h
section
variable{X:Cx}
def AhR(X:Cx)(P:Ae)(lpos:CQ)(v9:LV)(t:TE)(J:St)(Q:VK)(x:V)(H1:Hp):Prop:=∃l xs,x=.ref l/\PX X.K H1 l xs/\0<xs.length/\∃ps,H1 P=U (.So ps)/\Sq H1 lpos (X.env.qual++"<lambda>") ps /\
 ∀H2,(∃ps',H2 P=U (.So ps')/\Sq H2 lpos (X.env.qual++"<lambda>") ps')->Ui P H1 H2->∃(ka kb:Nat->Int),
  (∀i x,xs[i]?=U x->∀H3(R:VK),Ob H2 H3->(∀H4 y,Ob H3 H4->H4 y=U (.tup [.int<|ka i,.int<|kb i])->R (.ref y) H4)->t (U x::pick v9 J) H3 R) /\
  ∀i x H3,xs[i]?=U x->(∀j,j<xs.length->¬ (ka j<ka i\/(ka j=ka i/\kb j<kb i))/\(j<i->ka i<ka j\/(ka i=ka j/\kb i<kb j)))->Ob H2 H3->Q x H3
def AmP(X:Cx)(P:Ae)(lpos:CQ)(v9:LV)(t te:TE):TE:=λJ H Q=>te J H (AhR X P lpos v9 t J Q)
def Agj{t:TE}{pos:CQ}(hcode:X.env.code=.ref c)(C:Fi X.base c P)(hB:X.base.BuiltinsAt X.mg P)(hdef:HR params X.env=([],[]))(hbind:∀(u:Ai)(fd:Cz),fd.params=params->fd.defaults=.none->fd.kwdefaults=.none->Cf fd #[[u],[]]=pure [(par,u)])(hkind:scope.kind=.function)(hco:scope.isCoroutine=Am)(hgen:scope.isGenerator=Am)(hcell:∀y∈scope.names,y.2≠.cell)(hpar:scope.names.lookup par=U .local)(hfr:∀y∈scope.names,y.2=.free->X.env.kindOf y.1=U .cell\/X.env.kindOf y.1=U .free)(caps:Q2 X scope Nc v9)(hroom:X.A.in1.depth<CZ)(hu:X.A.in1.units<CU)(hg:Gl X "min")(hm:X.mg "min"=none)(hc:X.calm=Af)(he:PE X e te)(hb:∀(q c':Ae)(s:Ax)(H:Hp),PE (XM X X.A.in1 (X.env.qual++"<lambda>") scope (par::Nc) q (.ref c') s H) body t)(hs:AG [e] X.env=[(Am,eval e X.env)]:=by rfl):
  PE X (.Call (.Name "min" p) [e] [#[U "key",.Lambda params body scope lpos,kpos]] pos) (AmP X P lpos v9 t te):=by
 intro d s J H Q I h;refine CW<|U3 I hg hm Boot.b_min ?_ Nq Nq;have pa:=N7 he Om hs;have pk:PK X [#[U "key",.Lambda params body scope lpos,kpos]] _:=yT (AdD hcode C hB hdef hfr) AdQ;refine callWith_kw (O2 (pa pos d s J H (Amd _) I h) λus s1⟨D,R,I1,K,N⟩=>?_) (by rw[hs];rfl) (by rw[hs];rfl) Y Y;obtain⟨x,rfl,l,xs,Z,hx,G,ps,W,hT,k⟩:∃x,D=[x]/\AhR X P lpos v9 t J Q x R:=by
  match D,N with
  |[x],N=>exact#[x,Y,N]
 subst Z;let(u,rfl,V):=vals1 K;cases V;refine O2 (pk pos d s1 J R (λD g=>∃q c' f,D=[.ref q]/\(∃ps',g P=U (.So ps')/\Sq g lpos _ ps')/\Ui P R g/\g q=U (FO q _ params body scope _ _ c' f)/\g c'=U (AeN c' _)) I1
  #[ps,W,hT,λq c' f g m F _ r j0=>#[q,c',f,Y,m,F,r,j0]]) λws s2⟨zs,g,I2,S,q,c',f,ez,m,F,hq,M⟩=>?_
 subst ez;let(w,rfl,L):=vals1 S;cases L;let(n,B,ht,kk):=k g m F;refine AfU (λi H k=>∃y,k=.ref y/\H y=U (.tup [.int<|n i,.int<|B i])) (λi j=>HT.lexLt [n i,B i] [n j,B j]) hc (F.seq W hx) (λi H H' k s⟨y,T,O⟩=>#[y,T,s _ _ O]) (λa b i r j0=>?_) (λa b r=>?_) (λi x z d s H u I v V=>?_) (λi j d s J H ki kj ui uj Q E I z u9 ri rj q=>?_) I2 G λi x H z o v=>kk i x H z (λj u9=>?_) v
 ·rw[AfM]at r ⊢;rw[AcX]at j0;omega
 ·rw[AfM]at r;rw[AcX];omega
 ·exact AcQ I hc (v _ _ hq) (v _ _ M) hbind hkind hco hgen hcell hpar hfr caps hroom V (λs H=>hb q c' s H)<|ht i x z H _ v λH4 y s4 e4=>#[s4,y,Y,e4]
 ·let(y1,rfl,T):=z;let(y2,rfl,O):=u9;cases ri;cases rj;let(aa,K,p1,_):=I.tuple<|RE.of T;let(y0,S,p2,_):=I.tuple<|RE.of O;exact HT.vE p1 p2 (intsAre_of (ns:=[n i,B i]) K) (intsAre_of (ns:=[n j,B j]) S) hu q
 ·have:=o j u9;rw[AcX,AfM]at this;exact this
end
def Inv.zX{X:Cx}{q4:LN}{J:St}{H:Hp}{s:Ax}{h':BM}{t':Nat}{ch:LL}(I:Inv X q4 J H s)(k:∀b o,b∉ch->s.heap.get? b=U o->h'.get? b=U o)(hn:∀b∈ch,H b=none)(hL:∀b∈ch,b≠X.env.locals)(h1:∀b∈ch,b∈X.ex\/X.Qy.heap.objs.size<=b)(h2:∀b∈ch,∀x c,X.env.cells.lookup x=U c->c≠b)(h3:∀b∈ch,∀p∈X.pn++q4,p.1≠b):Inv X q4 J H {s with heap:=h',toks:=t'}:=by
 have d:∀b u,H b=U u->b∉ch:=λb u e z=>by rw[hn b z]at e;cases e
 refine I.step (g':=s.gens) (d':=s.drawn) (ch:=ch) (λb f=>#[h1 b f,hL b f,h2 b f,h3 b f]) (λb o _ _ a e _=>k b o a e) (λb o _ _ a e _=>#[o.slots,k b o a e]) (λ_ _ _ _ n=>n)
  (λb o a e=>#[o,k b o a e]) (λ_ _ e=>e) (λ_ _ _ e=>e) (λb l e=>#[#[],by rw[e];simp]) (λm g=>?_) (λb u e=>?_) I.bare
 ·let(o,j,h,i,r):=g;exact#[o,j,h,k _ o (λz=>hL _ z Y) i,r]
 ·refine(I.Oj b u e).Xb (λc v a q=>k c v ?_ q) (λ_ q=>q) λ_ _ q=>q
  rcases a with z|z
  ·rw[z];exact d b u e
  ·exact d c _ z
def Inv.zW{X:Cx}{q4:LN}{J:St}{H H0:Hp}{s:Ax}{h':BM}{t':Nat}{ch:LL}(I:Inv X q4 J H s)(k:∀b o,b∉ch->s.heap.get? b=U o->h'.get? b=U o)(hn:∀b∈ch,H b=none)(hf:∀b∈ch,Q9 X q4 H0 b):Inv X q4 J H {s with heap:=h',toks:=t'}:=I.zX k hn (λb a=>(hf b a).2.1) (λb a=>(hf b a).2.2.2.1) (λb a=>(hf b a).2.2.2.2.1) (λb a=>(hf b a).2.2.2.2.2)
def AkR(K:Ab)(a:Ae):It:=#[λi H=>∃xs x,PX K H a xs/\xs[i]?=U x,
  λi H v H'=>∃t x,H t=none/\(∀xs,PX K H a xs->xs[i]?=U x)/\v=.ref t/\H'=upd H t (.tup [.int (i:Nat),x]),
  λi H=>∃xs,PX K H a xs/\xs[i]?=none]
def AbJ{P:Bn}{w:Bw}{K:Ab}{elts:L1}{x1}{tpos:CQ}(a e it:Ae)(hne:e≠it):Turn P w K (.Tuple elts x1 tpos) (AkR K a) [e,it] e (λi h=>(∃old,IsEnum h e it (i:Nat) old)/\h.IsListIter it a i) where
 mem:=Nu
 obj:=λi h j c d=>by
  let((old,f),(y0,T,D,d1)):=j;simp only[AB,CO,F3]at d;rcases d with rfl|rfl
  ·exact#[_,f,λv z=>by cases z]
  ·exact#[y0,T,λv z=>by rw[d1]at z;cases z]
 keep:=λi h h' j k=>by
  let((old,f),n):=j;exact#[#[old,k e Nu _ f],n.at λo q=>k it Nu o q]
 item:=by
  intro X u9 t Q d i l s J H E I y j M;subst u9 t Q;let((old,f),n):=j;let(xs,x,g,F):=M;let(B,m,S,O):=I.list g;let(p,j0,W):=m.get F;have G:∀c∈[e,it],c<s.heap.objs.size:=λc d=>by
   let(y0,T,_):=n;simp only[AB,CO,F3]at d;rcases d with rfl|rfl
   ·exact AO f
   ·exact AO T
  refine wpAny_pyNext_enum_item f n S.isList (x:=p) (by simpa using j0) hne λh' a1 a3 a5 a6 N=>?_
  refine#[_,Y,wpAny_letOwnedTupleGo_enum (s:={s with heap:=h',toks:=s.toks+1}) a1 λA R V=>?_];have hn:H s.heap.objs.size=none:=I.fresh;have Im:Inv X l J (upd H s.heap.objs.size<|.tup [.int (i:Nat),x]) {s with heap:=s.heap.push {cls:=.type "tuple",data:=.seq (zTo [.int (i:Nat) s.toks,p])}}:=
   I.laid (t':=s.toks) (λb o e=>Aj _ e) (Ap _) #[by show 2<=sizeLine;decide,[.int (i:Nat) s.toks,p],.cons #[_,Y]<|.cons W .nil,_,AR s.heap Y,Y,0,Y]
  have kk:∀c C,c∉[e,it]->(s.heap.push {cls:=.type "tuple",data:=.seq (zTo [.int (i:Nat) s.toks,p])}).get? c=U C->A.get? c=U C:=λc C d L=>by
   have D:c≠e:=λq=>d (by simp[q])
   have c2:c≠it:=λq=>d (by simp[q])
   rcases dO (h:=s.heap) (u:={cls:=.type "tuple",data:=.seq (zTo [.int (i:Nat) s.toks,p])}) Y L with⟨Z,e6⟩|L
   ·subst Z e6;exact(V.2 _ D).trans a5
   ·exact(V.2 _ D).trans (N c C D c2 L)
  have r:∀c∈[e,it],(upd H s.heap.objs.size<|.tup [.int (i:Nat),x]) c=none:=λc d=>by
   rw[NX<|A9<|G c d];exact(y c d).1
  have I2:=Im.zW (h':=A) (t':=s.toks+1) kk r y;refine#[.ref s.heap.objs.size,_,I2,Y,#[_,x,hn,λws t=>by rw[I.cZ t g];exact F,Y,Y],#[#[p,by exact_mod_cast R],?_],r];exact a3.extBut V.extBut<|AF hne
 done:=by
  intro X u9 t Q d i l s J H E I y j M;subst u9 t Q;let((old,f),n):=j;let(xs,g,F):=M;let(B,m,S,O):=I.list g;have l1:=m.length;refine wpAny_pyNext_enum_end (I.ok.hd d) f n S.isList ?_ λh' N=>#[Y,I.zW (t':=s.toks) (ch:=[e,it]) (λc o d q=>N c o (λz=>d<|by simp[z]) q) (λc d=>(y c d).1) y]
  rw[EK]at F;rw[Array.getElem?_eq_none_iff,Aw];omega
 self:=λ_ _ _ _ _ j h=>by
  let((old,f),_):=j;exact JZ f h
def AlC(K:Ab)(tl:TA):TI:=λJ H R=>tl J H λvs H1=>∃a xs,vs=[.ref a]/\PX K H1 a xs/\R (AkR K a) H1
def Ago{x1}{pos:CQ}(hg:Gl X "enumerate")(hm:X.mg "enumerate"=none)(ha:PA X [l] tl)(hs:AG [l] X.env=[(Am,eval l X.env)]:=by rfl){K₀:Ab}{N4:Hp}[hK:Ol X K₀ N4]:PI X (.Tuple elts x1 tpos) (.Call (.Name "enumerate" p) [l] [] pos) (AlC K₀ tl):=by
 let(rfl,rfl):=hK;intro b s J H R I h;refine Call_<|U3 I hg hm Boot.b_enumerate<|C8 (O2 (ha pos b s J H _ I h) λE k⟨C,i,e,o,v⟩=>?_) hs Y;let(a,D,rfl,g,q):=v;let(u,rfl,B):=vals1 o;cases B;let(j,y,A,w):=e.list g;refine call_enumerate_list A.isList λt m f z r=>?_
 have x:Inv X b J i {k with heap:=t}:=e.kept r;refine JZ m ?_;refine#[_,_,_,_,i,Y,x,AbJ a _ _<|Nat.succ_ne_self _,#[#[_,m],f],λc n=>?_,q];have d:k.heap.objs.size<=c:=by simp only[AB,CO,F3]at n;rcases n with rfl|rfl<;>omega
 exact e.V9 d (e.Oj.fresh d)
def Acv{K:Ab}{g:TG}{tb:TS}{D:Ends}{J:St}{H:Hp}(Pv:Nat->St->Hp->Prop)(h0:Pv 0 J H)(hl:∀i J H,i<=xs.length->Pv i J H->PX K H a xs)(hs:∀i x t J H,xs[i]?=U x->Pv i J H->H t=none->g (.ref t) J (upd H t<|.tup [.int (i:Nat),x]) λσ2 H2=>tb {D with nx:=Pv<|i+1,ct:=Pv<|i+1,bk:=D.nx} σ2 H2)(hd:∀J H,Pv xs.length J H->D.nx J H):∃W:Nat->Nat->St->Hp->Prop,(∃m,W 0 m J H)/\∀i m J H,W i m J H ->
   ((AkR K a).stop i H/\D.nx J H)\/((AkR K a).go i H/\∃N:St->Hp->Prop,(∀σ' H',N σ' H'->∃m',m'<m/\W (i+1) m' σ' H')/\∀x H',(AkR K a).AbV i H x H'->g x J H' λσ2 H2=>tb {D with nx:=N,ct:=N,bk:=D.nx} σ2 H2):=by
 refine#[λi m J H=>m=xs.length-i/\i<=xs.length/\Pv i J H,#[xs.length,Nu,Bo _,h0],?_];rintro i m J H⟨rfl,j,p⟩;have c:=hl i J H j p;by_cases b:i<xs.length
 ·have k:=Al b;refine .inr #[#[xs,_,c,k],Pv _,λσ' H' d=>#[xs.length-(i+1),Nr,Y,b,d],λx H' y=>?_];let(t,x,h,f,rfl,rfl):=y;exact hs i x t J H (f xs c) p h
 ·have e:i=xs.length:=Nr;refine .inl #[#[xs,c,?_],hd J H<|e▸p];rw[EK];omega
section
variable{prog:Bn}{w:Bw}{A:BS}{E:Ai->Ax->Prop}{s:Ax}{a kS:Ae}{vs:LQ}{kz:LS}{keys:Mb}{e e1:Nat}{R:PySem.Fin->Ax->Prop}
def qT{st:K3}(nk:s.heap.get? kS=U (seqObj "list" keys e))(na:s.heap.get? a=U (seqObj "list" #[] e1))(hka:kS≠a)(hz:keys.size=vs.length)(h64:vs.length<64)(hk:CL keys.toList kz)(hp:(DX st).Perm (keys.zip vs.toArray))(hs:FZ (DX st) (DX st).size)(hfl:GP st=none)(h:∀h' out c,(∀b o,b≠kS->b≠a->s.heap.get? b=U o->h'.get? b=U o)->h'.get? a=U (seqObj "list" out c)->out.size=vs.length->KskOut Am kz vs out.toList->R (.done<|.ret .none) {s with heap:=h'}):AZ (A7 prog w) A (ksk_tail a Am e1 (.ref kS) st) R E s:=by
 have k:(DX st).size=vs.length:=by rw[hp.size_eq,JB,hz,Aw,Fj]
 have j:((DX st).map (·.2)).size=vs.length:=(JC ..).trans k;have i:=BW s.heap kS<|BR λ_=>(#[])
 have d:=(i.2 a<|AF hka).trans na;have m:=BW (s.heap.update kS<|BR λ_=>(#[])) a (BR λ_=>(DX st).map (·.2));obtain⟨g,f⟩:∃g,((s.heap.update kS<|BR λ_=>(#[])).update a (BR λ_=>(DX st).map (·.2))).get? a=U _:=#[_,EH d λ_=>(DX st).map _];refine Ad<|Eu nk Y ?_ (by rw[Bf];omega)<|Bo _;refine Ad<|Ff<|Ad<|seqEpoch_at d Y ?_;refine Ad<|Eu d Y ?_ (Bo _)<|AL (Fl j) (by rw[Bf];omega);rw[hfl];simp only[bne_self_eq_false,Jc,if_false];exact wpAny_pure (h _ _ g (λb o l n p=>(m.2 b n).trans ((i.2 b l).trans p)) f j<|ksk_out hk hp hs)
def AfI(nk:s.heap.get? kS=U (seqObj "list" keys e))(na:s.heap.get? a=U (seqObj "list" #[] e1))(hka:kS≠a)(hz:keys.size=vs.length)(h64:vs.length<64)(hk:CL keys.toList kz)(h:∀h' out c,(∀b o,b≠kS->b≠a->s.heap.get? b=U o->h'.get? b=U o)->h'.get? a=U (seqObj "list" out c)->out.size=vs.length->KskOut Am kz vs out.toList->R (.done<|.ret .none) {s with heap:=h'}):AZ (A7 prog w) A (ksk_end a Am vs.toArray e1 (.ref kS) keys) R E s:=by
 have g:(keys.zip vs.toArray).size=vs.length:=by rw[JB,hz,Aw,Fj]
 unfold ksk_end;simp only[Jc,if_false];by_cases d:vs.length<2
 ·rw[Az (by exact d),Az<|by exact d];refine qT nk na hka hz h64 hk (Ij _) (λi j k f=>?_) Y h;have f:j<(keys.zip _).size:=f;obtain rfl:i=j:=Nr;exact GB _
 ·rw[Aq (by exact d),Aq (by exact d),ksk_kind hk Nr];refine Ad (wpAny_pure (Ad (BL (wpS_sortRuns
   (Q:=λ_ t=>(DX t).Perm _/\GP t=none/\FZ (DX t) _)
   (ksk_intKeys hk) #[Ij _,Y,Y,Y] Nr (by rw[g];exact h64) λt x y z=>#[x,y,z]) ?_ λ_ _ z=>z)))
  rintro⟨⟨⟩,t⟩l⟨rfl,x,y,z⟩;exact qT nk na hka hz h64 hk x (by rw[x.size_eq];exact z) y h
end
def oY:Ai->Ay
 |.str x _=>x
 |_=>""
def zY:∀{vs:LQ}{ns:LK},Vals (ns.map V.str) vs->vs.map oY=ns
 |[],[],_=>rfl
 | v::vs,n::ns,.cons r h=>by
   let(t,rfl):=r;show n::vs.map oY=n::ns;rw[zY h]
def zZ:∀{vs:LQ}{ns:LK},Vals (ns.map V.str) vs->∀v∈vs,RelV (.str<|oY v) v
 | v::vs,n::ns,.cons r h,x,a=>by
   rcases AB.mp a with rfl|a
   ·let(t,rfl):=r;exact#[t,Y]
   ·exact zZ h x a
 |[],[],_,x,a=>nomatch a
def tQ(f:α->V)(g:α->Ai):∀l:List α,(∀x∈l,RelV (f x)<|g x)->Vals (l.map f) (l.map g)
 |[],_=>.nil
 |x::l,h=>.cons (h x AW) (tQ f g l λy a=>h y<|AD _ a)
def Inv.Akh(I:Inv X q4 J H s)(f:Q9 X q4 H a)(hy:X.Qy.heap.get? a=none)(h1:OC X.prog X.w (upd H a u) s.heap a u):Inv X q4 J (upd H a u) s:=by
 let(i,A,_,_,x,m):=f;refine#[I.ok,I.os,I.bare,#[I.base.keep,I.base.slot,λb o e n r=>?_,I.base.there,λb j e=>?_,λb o v e=>?_,λb q e=>?_],I.loc,I.cell,?_,λy c e=>?_,λp h=>?_,λb v e=>?_,I.len]
 ·rw[NX λz=>by rw[z,hy]at e;cases e];exact I.base.free b o e n r
 ·have:=I.base.Xd b j e;rw[NX<|Oc this i];exact this
 ·have:=I.base.UX b o v e;rw[NX<|Oc this i];exact this
 ·let(g,l):=I.base.We b q e;exact#[g,by rw[NX<|Oc l i];exact l]
 ·rw[NX<|AF A];exact I.free
 ·rw[NX<|x y c e];exact I.QC y c e
 ·let(t,b,c,d,e):=I.pin p h;exact#[t,by rw[NX<|m p h];exact b,c,d,e]
 ·by_cases k:b=a
  ·subst k;rw[N1]at e;cases e;exact h1
  ·rw[NX k]at e;exact(I.Oj b v e).Xb (λc v _ z=>z) (λc z=>by rw[NX<|Oc z i];exact z) λc j z=>by rw[NX<|Oc z i];exact z
section
variable{X:Cx}{J:St}{H0:Hp}{q p:Ae}
def Aeq{kz:LS}(hc:X.calm=Af)(hp:Rd H0 p (.dK v5))(hns:v5.map (·.1)=ns.map C1)(h64:ns.length<64)(hkz:kz.length=ns.length)(turn:∀(i:Nat)n k,ns[i]?=U n->kz[i]?=U k->∀q4 s H u,Inv X q4 J H s->Ob H0 H->RelV (.str n) u->AZ (A7 X.prog X.w) X.A.in1.in1 (call (.ref q) [u]) (EP X q4 J λy H'=>Ob H H'/\y=.int k) (λ_ _=>False) s){q4:LN}{s:Ax}{Q:VK}(I:Inv X q4 J H0 s)(k:∀(ms:MF)l H,ms.Perm (kz.zip ns)->ms.Pairwise (λx y=>x.1<=y.1)->Ob H0 H->H l=none->Q (.ref l) (upd H l<|.lst<|ms.map λx=>V.str x.2)):
  AZ (A7 X.prog X.w) X.A (call (.builtin "sorted") [.ref p] [(A8 "key",.ref q)]) (EP X q4 J Q) X.xe s:=by
 let(z,hd,vs,ad,dd):=QW I.Oj hp;have hl:v5.length=vs.length:=AJ ad;have ar:v5.length=ns.length:=by have:=congrArg Dt hns;simpa using this
 let(ep,ao):=dd.dictAt;refine call_function_entry_kw Hn GO GQ (ksk_s1 _ _) ?_;unfold Dx.«sorted»;refine Ad (m:=checkCount "sorted" 1 1 _)<|wpAny_pure ?_;refine Ad<|Ec (A:=X.A.in1) (D1 (knd:=OG X.prog X.w) (kvs:=vs) (ep:=ep) hd) (I.ok.hd hc) ao Nr λh' C O hk h=>?_
 have hV:Vals (ns.map V.str) O.toList:=by
  refine QS (by have:=h.1;simp only[Ac,Bt];omega) λi x u B hu=>?_
  rw[Cu]at hu;let(ac,w,ae,ag):=h.2 i u hu;rw[Ag]at B;cases R:ns[i]? with
  |none=>rw[R]at B;cases B
  |some n=>
    rw[R]at B;cases B;have hi:i<v5.length:=by have:=(Ah.mp R).1;omega
    let(k',v',u',L,e2,_):=ad.get hi;rw[ae]at e2;obtain⟨rfl,rfl⟩:ac=k'/\w=u':=by simpa using e2
    have:=congrArg (λl=>l[i]?) hns;rw[Ag,Ag,L,R]at this;have:ac=C1 n:=by simpa using this
    subst this;exact XI ag
 have F:O.toList.length=ns.length:=by rw[Bt,h.1];omega
 generalize O.toList=g at hV F;clear h;refine Ad<|Dr ?_ (by rw[F,Bf];omega);have I1:Inv X q4 J H0 {s with heap:=h',toks:=C}:=I.kept (t':=C) hk;have g1:(h'.push<|seqObj "list" g.toArray 0).get? h'.objs.size=U (seqObj "list" g.toArray 0):=AR _ Y;have T:Q9 X q4 H0 h'.objs.size:=I1.V9 (Ap _)<|I1.Oj.fresh<|Ap _;have am:X.Qy.heap.get? h'.objs.size=none:=C0 I1.sz;have I2:Inv X q4 J H0 {s with heap:=h'.push<|seqObj "list" g.toArray 0,toks:=C}:=I1.kept (t':=C) λb o E=>Aj _ E
 show AZ _ _ _ _ _ {s with heap:=h'.push<|seqObj "list" g.toArray 0,toks:=C};refine Ad<|BH<|wpAny_call_entry_kw FY #[_,g1,Y] FI ?body<|ksk_l1 _ _;generalize h'.objs.size=D at *;generalize h'.push (seqObj "list" g.toArray 0)=h2 at *;rw[ksk_t1];have b1:=BW h2 D<|BR λ_=>(#[]:Mb)
 obtain⟨L,aa⟩:∃L,(h2.update D<|BR λ_=>(#[]:Mb)).get? D=U (seqObj "list" #[] L):=#[_,EH g1 λ_=>#[]];have I3:=I2.turned (t':=C) (h':=h2.update D<|BR λ_=>(#[]:Mb)) (λb o a E=>(b1.2 b a).trans E) T.1 T.2.1 T.2.2.2.1 T.2.2.2.2.1 T.2.2.2.2.2;unfold ksk_tree;refine Ad<|listItems_at g1 Y<|Ad<|Eu g1 Y ?_ (by rw[Aw,Bf];omega)<|Bo _;show AZ _ _ _ _ _ {s with heap:=h2.update D<|BR λ_=>(#[]:Mb),toks:=C};generalize h2.update D (BR λ_=>(#[]:Mb))=N at *;refine Ad<|seqEpoch_at (n:=L) aa Y<|Ad<|KJ ?_ (by show g.length<=_;rw[F,Bf];omega);refine Ad<|Dr ?_<|Bo _;refine BH ?_;have I4:Inv X q4 J H0 {s with heap:=N.push<|seqObj "tuple" g.toArray 0,toks:=C}:=I3.kept (t':=C) λb o E=>Aj _ E
 have y0:(N.push<|seqObj "tuple" g.toArray 0).get? D=U (seqObj "list" #[] L):=Aj _ aa;show AZ _ _ (ksk_rest D (.ref q) Am g.toArray L<|.ref (N.push<|seqObj "tuple" g.toArray 0).objs.size) _ _ {s with heap:=(N.push<|seqObj "tuple" g.toArray 0).push _,toks:=C};generalize N.push _=h4 at *;have fS:=I4.V9 (Ap _)<|I4.Oj.fresh<|Ap _;have I5:Inv X q4 J H0 {s with heap:=h4.push<|seqObj "list" #[] 0,toks:=C}:=I4.kept λb o E=>Aj _ E
 have W:=Ig<|AO y0;have ai:(h4.push<|seqObj "list" #[] 0).get? D=U _:=Aj _ y0;have gS:(h4.push<|seqObj "list" #[] 0).get? _=U _:=AR _ Y;generalize h4.objs.size=S at *;refine Ad<|HQ ?_;rw[List.forIn_toArray];refine Ad (ksk_fold (λi t=>∃H M e,Inv X q4 J H t/\Ob H0 H/\Q9 X q4 H S/\Q9 X q4 H D/\t.heap.get? S=U (seqObj "list" M e)/\t.heap.get? D=U _/\CL M.toList (kz.take i)) g 0 _
  #[H0,#[],0,I5,Ob.refl _,fS,T,gS,ai,by simpa using CL.nil] ?step ?done)
 case step=>
  rintro j x t B⟨H,M,e,j0,sH,f,d,cS,cD,G⟩;simp only[Ez]at G ⊢;have hj:=(Ah.mp B).1;obtain⟨n,hn⟩:∃n,ns[j]?=U n:=#[_,Al Nr];obtain⟨m,hm⟩:∃m,kz[j]?=U m:=#[_,Al Nr];have rx:RelV (.str n) x:=by let(x',Z,r'):=hV.get (by rw[Ag,hn];rfl);rw[B]at Z;cases Z;exact r'
  have zA:M.size<=g.length:=by have u9:=G.length;rw[Bt,Bm]at u9;omega
  have Jp:=j0.pinned (λb a=>by
   rcases AB.mp a with rfl|a
   ·exact f
   ·rw[An.mp a];exact d) (λb a=>by
   rcases AB.mp a with rfl|a
   ·exact#[_,cS,λv z=>by cases z]
   ·rw[An.mp a];exact#[_,cD,λv z=>by cases z])
  have pS:(S,seqObj "list" M e)∈SR [S,D] _:=Pq Nu cS;have pD:(D,seqObj "list" #[] L)∈SR [S,D] _:=Pq Nu cD;refine Ad<|wpAny_attempt<|BL (turn j n m hn hm _ t H x Jp sH rx) (λv t2 R=>?_) λ_ _ z=>z.elim
  let(y,H2,P,ry,ap,rfl):=R;let(tt,rfl):=ry;have J2:=P.Sg;let(ab,ah,_):=P.pin _<|AV _<|AV _ pS;let(af,an,_):=P.pin _<|AV _<|AV _ pD;have r:Q9 X q4 H2 S:=#[ah,f.2];have al:Q9 X q4 H2 D:=#[an,d.2];have u1:=BW t2.heap S (BR (·.push (.int m tt)));obtain⟨c2,aj⟩:∃c2,(t2.heap.update S (BR (·.push (.int m tt)))).get? S=U _:=#[_,EH ab _];have J3:=J2.turned (t':=t2.toks) (λb o a E=>(u1.2 b a).trans E) r.1 r.2.1 r.2.2.2.1 r.2.2.2.2.1 r.2.2.2.2.2;refine Ad<|Eu ab Y ?_ Nr<|AL (Fl<|Array.size_push ..) Nr;refine wpAny_pure #[Y,H2,_,c2,J3,sH.trans ap,r,al,aj,(u1.2 D<|AF W).trans af,?_];have ek:kz.take (j+1)=kz.take j++[m]:=by rw[Cr,hm];rfl
  rw[ek,Array.toList_push];exact ksk_snoc G
 case done=>
  rintro t⟨H,M,e,j0,sH,f,d,cS,cD,G⟩;have G:CL M.toList kz:=by rw[HI Nr]at G;exact G
  have zA:M.size=g.length:=by have u9:=G.length;rw[Bt]at u9;omega
  refine Ad<|listItems_at cS Y<|AfI cS cD W zA Nr G λh6 au c kp gD zo ko=>#[_,Y,wpAny_pure #[_,Y,?_]]
  let(K,p1,p2,p3):=ko;have ak:∀x∈K,x.2∈g:=λx B=>by
   have:=p1.mem_iff.mp B;exact(Fn this).2
  have J6:Inv X q4 J H {t with heap:=h6,toks:=t.toks}:=j0.zX (ch:=[S,D]) (λb o a E=>kp b o (λz=>a<|by simp[z]) (λz=>a<|by simp[z]) E) (λb a=>?a1) (λb a=>?a2) (λb a=>?a3) (λb a=>?a4) (λb a=>?a5)
  case a1=>rcases AB.mp a with rfl|a;exact f.1;rw[An.mp a];exact d.1
  case a2=>rcases AB.mp a with rfl|a;exact f.2.1;rw[An.mp a];exact d.2.1
  case a3=>rcases AB.mp a with rfl|a;exact f.2.2.2.1;rw[An.mp a];exact d.2.2.2.1
  case a4=>rcases AB.mp a with rfl|a;exact f.2.2.2.2.1;rw[An.mp a];exact d.2.2.2.2.1
  case a5=>rcases AB.mp a with rfl|a;exact f.2.2.2.2.2;rw[An.mp a];exact d.2.2.2.2.2
  have lp:K.length=ns.length:=by rw[p1.length_eq,List.length_zip,hkz,F,Fj]
  have e2:(K.map λx=>(x.1,oY x.2)).map (λx=>V.str x.2)=K.map λx=>V.str (oY x.2):=by rw[As];rfl
  have aq:OC X.prog X.w (upd H D<|.lst<|(K.map λx=>(x.1,oY x.2)).map λx=>V.str x.2) h6 D (.lst<|(K.map λx=>(x.1,oY x.2)).map λx=>V.str x.2):=by rw[e2];refine#[by rw[Ac];omega,K.map _,c,tQ _ _ K λx B=>zZ hV _<|ak x B,?_];rw[<-p2];exact gD
  refine#[.ref D,_,J6.Akh d am aq,Y,k _ D H ?_ ?_ sH d.1]
  ·have u9:=p1.map (λx:Int×Ai=>(x.1,oY x.2));have N:(kz.zip g).map (λx:Int×Ai=>(x.1,oY x.2))=kz.zip ns:=by
    rw[<-zY hV,List.zip_map_right];exact A4 λ⟨x,y⟩_=>rfl
   rw[N]at u9;exact u9
  ·rw[CB];exact p3.imp λ{x y}z=>z
end
section
variable{X:Cx}{q4:LN}{J:St}{H:Hp}{s:Ax}
def AaX{t:TE}(I:Inv X q4 J H s)(hc:X.calm=Af)(hq:H q=U (FO q qual params body scope (Pc X.env.cells scope.names []) pm c' ctv))(hcd:H c'=U (AeN c' qual))(hbind:∀(u:Ai)(fd:Cz),fd.params=params->fd.defaults=.none->fd.kwdefaults=.none->Cf fd #[[u],[]]=pure [(par,u)])(hkind:scope.kind=.function)(hco:scope.isCoroutine=Am)(hgen:scope.isGenerator=Am)(hcell:∀y∈scope.names,y.2≠.cell)(hpar:scope.names.lookup par=U .local)(hfr:∀y∈scope.names,y.2=.free->X.env.kindOf y.1=U .cell\/X.env.kindOf y.1=U .free)(caps:Q2 X scope Nc v9)(hroom:X.A.in1.in1.depth<CZ)(rv:RelV v u)(hb:∀(s:Ax)(H:Hp),PE (XM X X.A.in1.in1 qual scope (par::Nc) q (.ref c') s H) body t)(h:t (U v::pick v9 J) H Q):AZ (A7 X.prog X.w) X.A.in1.in1 (call (.ref q) [u]) (EP X q4 J Q) (λ_ _=>False) s:=by
 have p:OC X.prog X.w H s.heap q (FO q qual params body scope (Pc X.env.cells scope.names []) pm c' ctv):=I.Oj q _ hq;have m:OC X.prog X.w H s.heap c' (AeN c' qual):=I.Oj c' _ hcd;refine Em ?_;have d:=I.AaH.in1.in1;have g:s.heap.NoLimit:=d.mod.nolimit.keeps λb o e=>(d.bs b o e).1
 refine Hw hroom p.1 Y hco hgen Y m.1 ?_;rw[hbind u _ Y Y Y];refine wpAny_pure<|FV hcell (λy n=>by rw[An.mp n];exact hpar) (λk i a=>#[g.fresh _ a,?_]) hkind;have j:∀b o,s.heap.get? b=U o->k.get? b=U o:=λb o e=>a.extBut b o (A9<|AO e)<|Aj _ e
 show Er _ _ (.expr body<|EY qual scope s.heap.objs.size q (.ref c')<|Pc X.env.cells scope.names []) _ _;have j0:=kE (A:=X.A.in1.in1) (qual:=qual) (f:=q) (cd:=.ref c') (tk:=s.toks+1) I d.frames (I.ok.hd hc) hkind hcell hpar hfr caps i j rv;refine Hv<|BL (hb s H [] _ _ H Q j0 h) (λE D C=>?_) λ_ _ z=>z.elim
 let(x,r,c,l,B):=C;exact I.after #[x,r,c.os,c.bare,c.base,c.Oj,l,B]
end
def Ui.rd(sb:Ui P H H')(hP:H P=U (.So ps))(hu:∀qs,u≠.So qs)(h:Rd H l u):Rd H' l u:=by
 rcases h with h|⟨o,h⟩
 ·exact .inl<|sb _ _ (λz=>by rw[z,hP]at h;cases h;exact hu _ Y) h
 ·exact .inr #[o,sb _ _ (λz=>by rw[z,hP]at h;cases h) h]
section
variable{X:Cx}
def Aep(X:Cx)(P:Ae)(lpos:CQ)(v9:LV)(t:TE)(J:St)(Q:VK)(x:V)(H1:Hp):Prop:=∃p v5 ns,x=.ref p/\Rd H1 p (.dK v5)/\v5.map (·.1)=(ns:LK).map C1/\ns.length<64/\∃ps,H1 P=U (.So ps)/\Sq H1 lpos (X.env.qual++"<lambda>") ps /\
 ∀H2,(∃ps',H2 P=U (.So ps')/\Sq H2 lpos (X.env.qual++"<lambda>") ps')->Ui P H1 H2->∃kz:LS,kz.length=ns.length /\
  (∀(i:Nat)n k,ns[i]?=U n->kz[i]?=U k->∀H3(R:VK),Ob H2 H3->(∀H4,Ob H3 H4->R (.int k) H4)->t (U (.str n)::pick v9 J) H3 R) /\
  ∀(ms:MF)l H3,ms.Perm (kz.zip ns)->ms.Pairwise (λx y=>x.1<=y.1)->Ob H2 H3->H3 l=none->Q (.ref l) (upd H3 l<|.lst<|ms.map λx=>V.str x.2)
def Ake(X:Cx)(P:Ae)(lpos:CQ)(v9:LV)(t te:TE):TE:=λJ H Q=>te J H (Aep X P lpos v9 t J Q)
def AdI{t:TE}{pos:CQ}(hcode:X.env.code=.ref c)(C:Fi X.base c P)(hB:X.base.BuiltinsAt X.mg P)(hdef:HR params X.env=([],[]))(hbind:∀(u:Ai)(fd:Cz),fd.params=params->fd.defaults=.none->fd.kwdefaults=.none->Cf fd #[[u],[]]=pure [(par,u)])(hkind:scope.kind=.function)(hco:scope.isCoroutine=Am)(hgen:scope.isGenerator=Am)(hcell:∀y∈scope.names,y.2≠.cell)(hpar:scope.names.lookup par=U .local)(hfr:∀y∈scope.names,y.2=.free->X.env.kindOf y.1=U .cell\/X.env.kindOf y.1=U .free)(caps:Q2 X scope Nc v9)(hroom:X.A.in1.in1.depth<CZ)(hg:Gl X "sorted")(hm:X.mg "sorted"=none)(hc:X.calm=Af)(he:PE X e te)(hb:∀(q c':Ae)(s:Ax)(H:Hp),PE (XM X X.A.in1.in1 (X.env.qual++"<lambda>") scope (par::Nc) q (.ref c') s H) body t)(hs:AG [e] X.env=[(Am,eval e X.env)]:=by rfl):
  PE X (.Call (.Name "sorted" p) [e] [#[U "key",.Lambda params body scope lpos,kpos]] pos) (Ake X P lpos v9 t te):=by
 intro a s J H Q I h;refine CW<|U3 I hg hm Boot.b_sorted ?_ Nq Nq;have pa:=N7 he Om hs;have pk:PK X [#[U "key",.Lambda params body scope lpos,kpos]] _:=yT (AdD hcode C hB hdef hfr) AdQ;refine callWith_kw (O2 (pa pos a s J H (Amd _) I h) λus s1⟨j,G,V,T,B⟩=>?_) (by rw[hs];rfl) (by rw[hs];rfl) Y Y;obtain⟨x,rfl,d,N,ns,O,hx,F,K,y0,L,hT,k⟩:∃x,j=[x]/\Aep X P lpos v9 t J Q x G:=by
  match j,B with
  |[x],B=>exact#[x,Y,B]
 subst O;let(u,rfl,j0):=vals1 T;cases j0;refine O2 (pk pos a s1 J G (λj f=>∃q c' b,j=[.ref q]/\(∃ps',f P=U (.So ps')/\Sq f lpos _ ps')/\Ui P G f/\f q=U (FO q _ params body scope _ _ c' b)/\f c'=U (AeN c' _)) V
  #[y0,L,hT,λq c' b f g o _ h1 S=>#[q,c',b,Y,g,o,h1,S]]) λws s2⟨zs,f,I2,r2,q,c',b,ez,g,o,Z,v⟩=>?_
 subst ez;let(w,rfl,r):=vals1 r2;cases r;let(kz,D,u9,kk):=k f g o;refine Aeq hc (o.rd L (λ_ z=>by cases z) hx) F K D (λi n m hn hm a s H u I E j0=>?_) I2 λM l W a1 a2 a3 a4=>kk M l W a1 a2 a3 a4
 exact AaX I hc (E _ _ Z) (E _ _ v) hbind hkind hco hgen hcell hpar hfr caps hroom j0 (λs H=>hb q c' s H) (u9 i n m hn hm H _ E λH4 R=>#[R,Y])
end
def lI(ts:LL)(h:BM):Prop:=∀P∈ts,h.get? P=U (HU #[])/\isCodeTable h P
def AkW(ts:LL)(H:Hp):Prop:=∀b,H b=none\/(b∈ts/\H b=U (.So #[]))\/∃o xs,H b=U (.Ry o<|.lst xs)
def AaY{K:Ab}{k:Nat}(KX:K.In s₁.heap)(hns:s₁.heap.Ns AK mg)(hb:s₁.heap.Ns FF mb)(hbb:∀x:Ay,x≠"__name__"->mb x=BG x)(hlim:s₁.heap.NoLimit)(hg:s₁.gens=#[])(hbm:∃bm ob,mg "__builtins__"=U (.ref bm)/\bm≠FF/\s₁.heap.get? bm=U ob/\ob.cls=.type "module"/\ob.dict=U FF/\ob.data=.plain)(hT:lI ts s₁.heap)(hKt:∀P∈ts,K.lookup P=none)(ha:s₁.heap.get? a=U {cls:=.type "list",data:=.seq vs.toArray})(hi:CL vs ns)(hl:ns.length<=sizeLine)(hr:Oo k GI)(F:∀base:BM,K.In base->base.Ns AK mg->(∀P∈ts,base.BuiltinsAt mg P)->Sl P w K mg base CX k fa fd [x] sp)(hbind:∀(s:Ax)(u:Ai),HF s fd #[[u],[]] [(x,u)])(hsp:∀H:Hp,(∀P∈ts,H P=U (.So #[]))->PX K H a (ns.map V.int)->sp [.ref a] H (λv _=>v=.bl Af) λ_ _ _=>False)(hCX:∀H e s',CX [] H s₁ (λ_ _ _=>False) e s'->False):
  Er (A7 P w) GI (.call (.ref fa) #[[.ref a],[]]) (λr s'=>r=.ok (.ret<|.bool Af)/\OldK s₁.heap s'.heap/\s'.os=s₁.os/\ES s'.gens) s₁:=by
 have R:=V6 hi;have C:=hi.length;have y:a∉ts:=λz=>by
  have e:=(hT a z).1;rw[ha]at e;cases e
 have j:∀H:Hp,(∀P∈ts,H P=U (.So #[]))->AkW ts H->PX K H a (ns.map V.int)->V7 P w H s₁.heap->(∀b,H b≠none->b=a\/b∈ts)->(H a≠none->K.lookup a=none) ->
   Er (A7 P w) GI (.call (.ref fa) #[[.ref a],[]]) (λr s'=>r=.ok (.ret<|.bool Af)/\OldK s₁.heap s'.heap/\s'.os=s₁.os/\ES s'.gens) s₁:=by
  intro H hH hO hS O S hK;have n:∀{b:Ae}{o:Cy},s₁.heap.get? b=U o->o≠HU #[]->o≠{cls:=.type "list",data:=.seq _}->H b=none:=λ{b o}e n1 n2=>by
   cases q:H b with
   |none=>rfl
   |some u=>
     rcases S b (by rw[q];simp)with rfl|z
     ·rw[ha]at e;cases e;exact absurd Y n2
     ·rw[(hT b z).1]at e;cases e;exact absurd Y n1
  have g:∀{b:Ae}{m:Ay->LX},s₁.heap.Ns b m->(uW _ H).Ns b m:=λ{b m}⟨o,u9,W,e,d,r⟩=>
   #[o,u9,W,cQ e<|n e (λz=>by rw[z]at d;cases d) (λz=>by rw[z]at d;cases d),d,r]
  have E:K.In (uW _ H):=λb o e=>cQ (KX b o e) (by
   cases q:H b with
   |none=>rfl
   |some u=>
     rcases S b (by rw[q];simp)with rfl|z
     ·rw[hK (by rw[q];simp)]at e;cases e
     ·rw[hKt b z]at e;cases e)
  have Z:Mod K mg _:=#[E,g hns,#[mb,g hb,hbb],let#[mc,h1,h2]:=hlim;#[mc,g h1,h2]];have N:∀P∈ts,(uW _ H).BuiltinsAt mg P:=λP D=>by
   let(bm,ob,a1,a2,B,T,a5,p):=hbm;refine#[bm,ob,a1,a2,λz=>?_,λz=>?_,cQ B (n B (λz=>by rw[z]at p;cases p) λz=>by rw[z]at p;cases p),T,a5,p]
   ·let(o,u9,W,e,d,_):=hns;rw[<-z,B]at e;cases e;rw[p]at d;cases d
   ·rw[z,(hT P D).1]at B;cases B;cases T
  have X:gH P w K mg _ GI [] s₁ H:=#[Y,Z,λb o e=>Af4 e,Fl<|AaO _ _,trivial,λb hb=>absurd (show b∈([])from hb) Nu,O,.of_eq hg];refine EM ((F _ E (g hns) N).run GI [] s₁ H _ _ [.ref a] _ _ hr X (hbind s₁ _) (.cons Y .nil) (hsp H hH hS)) λr s' h=>?_
  cases r with
  |error e=>exact(hCX H e s' h).elim
  |ok fl=>
    cases fl with
    |next=>exact B4 h
    |brk=>exact B4 h
    |cont=>exact B4 h
    |ret u=>
      let(v,H',os,A,I,l,y0,q):=h;have q':=q;subst q';obtain rfl:u=GK Af:=y0;refine#[Y,#[λb o e=>?_,λb o e=>I.there b o e Nu],os,A];rcases hO b with z|⟨Q,M⟩|⟨ob,xs,z⟩
      ·exact .inl<|I.keep b o e z (by intro z;exact absurd (show b∈([])from z) Nu) Nu
      ·let(t,z3):=I.We b _ M;have j0:=l b _ z3;have G:=(hT b Q).1;rw[e]at G;cases G;exact .inr<|.inl #[(hT b Q).2,Y,#[],t,Y,j0]
      ·have M:=I.UX b ob _ z;let(j0,_):=O b _ z;let(G,_):=l b _ M;rw[e]at j0;cases j0;exact .inl G
 have f:∀(H:Hp)b,b∈ts->OC P w H _ b (.So #[]):=λH b z=>(hT b z).1
 cases L:K.lookup a with
 |some o=>
   have e:=KX a o L;rw[ha]at e;cases e;refine j (λb=>if b∈ts then U _ else none) (λP D=>Az D) (λb=>?_) (.inr #[_,vs.toArray,_,L,Y,Y,Y,by rw[Aw,C];exact hl,by simpa using R]) (λb u z=>?_) (λb z=>?_) λz=>absurd (Aq y) z
   ·by_cases hb:b∈ts
    ·exact .inr<|.inl #[hb,Az hb]
    ·exact .inl<|Aq hb
   ·by_cases hb:b∈ts
    ·have i:=(Az hb).symm.trans z;cases i;exact f _ b hb
    ·have i:=(Aq hb).symm.trans z;cases i
   ·by_cases hb:b∈ts
    ·exact .inr hb
    ·exact absurd (Aq hb) z
 |none=>
   refine j (λb=>if b∈ts then U _ else if b=a then U (.Ry {cls:=.type "list",data:=.seq vs.toArray} _)else none) (λP D=>Az D) (λb=>?_)
    (.inl<|.inr #[{cls:=.type "list",data:=.seq _},(Aq y).trans (Az Y)]) (λb u z=>?_) (λb z=>?_) λ_=>L
   ·by_cases hb:b∈ts
    ·exact .inr<|.inl #[hb,Az hb]
    ·by_cases c:b=a
     ·exact .inr<|.inr #[_,_,(Aq hb).trans (Az c)]
     ·exact .inl<|(Aq hb).trans (Aq c)
   ·by_cases hb:b∈ts
    ·have i:=(Az hb).symm.trans z;cases i;exact f _ b hb
    ·by_cases c:b=a
     ·have i:=((Aq hb).trans (Az c)).symm.trans z;cases i;subst c;exact#[ha,by rw[Ac];exact hl,vs,_,R,ha]
     ·have i:=((Aq hb).trans (Aq c)).symm.trans z;cases i
   ·by_cases hb:b∈ts
    ·exact .inr hb
    ·by_cases c:b=a
     ·exact .inl c
     ·exact absurd ((Aq hb).trans (Aq c)) z
def AeH{l:EV}{n k:Nat}{q:Bn}{loose:LK}{XP:(Ay->LX)->BM->Prop}{YP:Bw->BM->Prop}{d:DefRec}{K:Gp->Ab}{CX:Bw->AeY}{sp:Bw->Sp}{ts:LL}(hn:l.most=U n)(hn2:n<=sizeLine)(hdf:d.params.defaults=[])(hr:Oo k GI)(hY:∀(w:Bw)(h:BM),YP w h->(K w.params).In h)(hT:∀(w:Bw)(h:BM),YP w h->lI ts h)(hKt:∀(w:Bw),∀P∈ts,(K w.params).lookup P=none)(F:∀(w:Bw)(mg:Ay->LX)(fa:Ae)(h:BM),(K w.params).In h->h.Ns AK mg->mg d.name=U (.ref fa) ->
   ∃fd:Cz,(∀(s:Ax)(u:Ai),HF s fd #[[u],[]] [(x,u)]) /\
    ∀base:BM,(K w.params).In base->base.Ns AK mg->(∀P∈ts,base.BuiltinsAt mg P)->Sl l.prog w (K w.params) mg base (CX w) k fa fd [x] (sp w))(hsp:∀(w:Bw)(H:Hp)(a:Ae)(ns:LS),ns.length<=n->(∀P∈ts,H P=U (.So #[]))->PX (K w.params) H a (ns.map V.int)->sp w [.ref a] H (λv _=>v=.bl Af) λ_ _ _=>False)(hCX:∀(w:Bw)(H:Hp)(s:Ax)(e:Ai)(s':Ax),CX w [] H s (λ_ _ _=>False) e s'->False):
  Jo q loose XP YP l.row.toRowW d [] (λf vs=>IH f vs):=by
 refine Att.pQ hn hdf λw j0 C mg L fa o I N A a vs ns G y0 M E D m j i c t=>?_
 have p:=hY w _ y0;let(fd,r,z):=F w mg fa _ p G.T.g m;exact AaY p G.T.g G.T.b G.T.builtins G.T.nolimit t G.T.bmain (hT w _ y0) (hKt w) j i (AL c hn2) hr z r (λH y B=>hsp w H a ns c y B) λH e s'=>hCX w H C e s'
def AbG{K:Gp->Ab}{as:LL}{e:∀P,as=(K P).map (·.1)}{ts:LL}{w:Bw}{h:BM}(y0:(PySem.W.kmHook K as e ts).says w h)(cs:List (Ae×Ae))(hc:∀q∈cs,FX (K w.params) q.1 q.2=Af)(hm:∀q∈cs,q.2∈ts):lI (cs.map (·.2)) h:=λP d=>by
 let((c,f),a,rfl):=AE.mp d;have b:=Ft (PySem.W.km_in_of y0)<|hc _ a;have e:=PySem.W.km_tabs_of y0 f<|hm _ a;exact#[e,(b.tab e).isCodeTable]
structure bI(K:Ab)(mg:Ay->LX)(x:Ay)(st:Bi)(ps:LK)(c:Ae):Prop where
 ex:∃(f:Ae)(fd:Cz),Ahi K x x st f fd/\mg x=U (.ref f)/\Binds K fd ps []/\fd.code=.ref c
section
variable{P:Bn}{w:Bw}{K:Ab}{mg:Ay->LX}{base:BM}
def bI.has{st:Bi}{k:Nat}(d:bI K mg x st ps c)(S:O3 N ps (NW st))(hbody:∀(f:Ae)(A:BS)(outer:Mc)(s:Ax)(H:Hp)(vs:LM)(Q:VK)(E:XK),Oo k (A.deeper<|DF x (NW st) s.heap.objs.size f<|.ref c)->sp vs H Q E ->
   ∃t,QB (UK pL P w K mg base N x (NW st) f (.ref c) A outer s H E).AbT (Oa st) t/\t {nx:=λ_ H'=>Q .OH H',rt:=Q} (start N vs) H)(len:∀vs H Q E,sp vs H Q E->vs.length=ps.length:=by walk_at"l"):wY P w K mg base (k+1) x ps sp:=by
 let(f,B,F,l,v,y):=d.ex;let(u,o,D,r,C,z,j,G,g,e,i,b):=F.ex;subst e;have m:=y;subst m;refine#[f,_,Acu i b S len λA outer s H vs Q E p a=>?_,l,F.kp,v,u,o,g,i];let(t,h,q):=hbody f A outer s H vs Q E p a;exact#[t,h.AbT,q]
def AaF{st:Bi}{f:Ae}{kV:Ai}(X:K.In h)(G:h.Ns AK mg)(a:AX K AK x=U (U<|.ref f))(l:K.lookup f=U #[oc,od,.func<|Bs x x (OE st) (Oa st) (NW st) .none kV doc pm an (.ref c) ct,osl])(cc:DK K (.ref c) x=Af)(k:BA K (.ref f)=Af)(b:∀(kV doc pm:Ai)(an:LZ)(cdv ct:Ai)(us:LQ),us.length=ps.length->Cf (Bs x x (OE st) (Oa st) (NW st) .none kV doc pm an cdv ct) #[us,[]]=pure (ps.zip us)):bI K mg x st ps c:=#[f,_,YB l cc k,Bg X G a,(YB l cc k).binds b,Y]
end
def Oo.AoU{k:Nat}(r:Oo (k+1) A)(env:G8):Oo k (A.in1.deeper env):=#[r.hd,by have:=r.dp;show A.depth+1+3*k+5<_;omega,by have:=r.un;show A.units+1+3+16*k+200<_;omega]
def Oo.AoV{k:Nat}(r:Oo (k+1) A)(env:G8):Oo k (A.in1.in1.deeper env):=#[r.hd,by have:=r.dp;show A.depth+1+3*k+5<_;omega,by have:=r.un;show A.units+1+1+3+16*k+200<_;omega]
def AmB{k:Nat}(r:Oo k A):A.in1.depth<CZ:=by have:=r.dp;show A.depth<_;omega
def AmC{k:Nat}(r:Oo k A):A.in1.in1.depth<CZ:=by have:=r.dp;show A.depth<_;omega
def Am0{k:Nat}(r:Oo k A):A.in1.units<CU:=by have:=r.un;show A.units+1<_;omega
structure Pl(H H':Hp):Prop where
 keep:∀b u,(∀ps,u≠.So ps)->H b=U u->H' b=U u
 tabs:∀b ps,H b=U (.So ps)->∃qs,H' b=U (.So qs)
section
variable{H H1 H2 H':Hp}
def Ob.n(s:Ob H H'):Pl H H':=#[λb u _ e=>s b u e,λb a e=>#[a,s b _ e]]
def Ui.n(s:Ui P H H')(hP:H P=U (.So ps))(hP':∃qs,H' P=U (.So qs)):Pl H H':=by
 refine#[λb u c e=>s b u (λz=>?_) e,λb qs e=>?_]
 ·rw[z,hP]at e;cases e;exact c _ Y
 ·by_cases a:b=P
  ·rw[a];exact hP'
  ·exact#[qs,s b _ a e]
def Pl.trans(s:Pl H H1)(t:Pl H1 H2):Pl H H2:=#[λb u a e=>t.keep b u a<|s.keep b u a e,λb d e=>by
 let(f,c):=s.tabs b d e;exact t.tabs b f c]
def Pl.free(s:Pl H H')(h:H' a=none):H a=none:=by
 cases e:H a with
 |none=>rfl
 |some u=>
   by_cases c:∃b,u=.So b
   ·let(b,rfl):=c;let(f,d):=s.tabs a b e;rw[h]at d;cases d
   ·have:=s.keep a u (λb z=>c #[b,z]) e;rw[h]at this;cases this
def Pl.upd(s:Pl H H1)(n:H1 p=none):Pl H (upd H1 p o):=s.trans (((Ob.refl H1).upd n).n)
def Pl.Am1(s:Pl H H1)(n:H p=none):Pl H (L2.upd H1 p o):=#[λb u c e=>by
 rw[NX<|Oc e n];exact s.keep b u c e,λb d e=>by
 let(f,a):=s.tabs b d e;exact#[f,by rw[NX<|Oc e n];exact a]]
def Pl.lst(s:Pl H H'){a:Ae}{xs:LM}(h:H a=U (.lst xs)):H' a=U (.lst xs):=s.keep a _ (λ_ z=>by cases z) h
def Pl.dk(s:Pl H H')(h:H a=U (.dK xs)):H' a=U (.dK xs):=s.keep a _ (λ_ z=>by cases z) h
def Pl.rd(s:Pl H H')(hu:∀ps,u≠.So ps)(h:Rd H a u):Rd H' a u:=by
 rcases h with h|⟨o,h⟩
 ·exact .inl<|s.keep a u hu h
 ·exact .inr #[o,s.keep a _ (λ_ z=>by cases z) h]
def Pl.Ael{K:Ab}(s:Pl H H')(h:RE K H l xs):RE K H' l xs:=by
 rcases h with h|h
 ·exact .inl<|s.rd (λ_ z=>by cases z) h
 ·exact .inr h
end
def Tab(P:Ae)(pos:CQ)(q:Ay)(H:Hp):Prop:=∃ps,H P=U (.So ps)/\Sq H pos q ps
def Sq.n{pos:CQ}(s:Pl H H')(h:Sq H pos q ps):Sq H' pos q ps:=by
 rcases h with h|⟨c,a,b⟩
 ·exact .inl h
 ·exact .inr #[c,a,s.keep _ _ (λ_ z=>by cases z) b]
def Tab.same{pos:CQ}(s:Ob H H')(h:Tab P pos q H):Tab P pos q H':=by let(c,a,b):=h;exact#[c,s _ _ a,b.n s.n]
def Tab.upd{pos:CQ}(h:Tab P pos q H)(ha:H a=U o)(n1:∀ps,o≠.So ps)(n2:∀c,o≠AeN c q):Tab P pos q (upd H a o'):=by
 let(ps,d,b):=h;refine#[ps,by rw[NX λz=>by rw[z,ha]at d;cases d;exact n1 _ Y];exact d,?_];rcases b with b|⟨c,b,e⟩
 ·exact .inl b
 ·exact .inr #[c,b,by rw[NX λz=>by rw[z,ha]at e;cases e;exact n2 _ Y];exact e]
def Tab.Ag6{pos:CQ}(h:Tab P pos q H)(ha:H a=U (.lst xs)):Tab P pos q (L2.upd H a o'):=h.upd ha (λ_ z=>by cases z) λc z=>by cases z
def Tab.one{pos:CQ}(h:H P=U (.So #[])):Tab P pos q H:=#[_,h,.inl Y]
section
variable{X:Cx}
def Ad7:V->LM->Hp->VK->Prop:=λx vs H Q=>∃(l:Ae)(ns:LK)(z:Ay)(k:Nat),x=.ref l/\vs=[.str z]/\H l=U (.lst<|ns.map V.str)/\ns[k]?=U z/\(∀j,j<k->ns[j]?≠U z)/\Q .OH (upd H l<|.lst<|(ns.eraseIdx k).map V.str)
def vI:Ae0 X "list.remove" Ad7:=by
 intro A s J H x P v S Q I L E h;let(l,b,z,k,rfl,rfl,w,p,M,q):=h;cases L;let(u,rfl,N):=E.one;let(t,rfl):=N;let(D,a,n,r,o,e):=I.Ai7 w;have O:Kh a b:=T7 r;have o:b.length=a.length:=by simpa using o
 have B:k<b.length:=(Ah.mp p).1;have G:a.length<=sizeLine:=by rw[<-o];simpa using D
 have d:∀m(i:m<a.toArray.size),∃y g,b[m]?=U y/\a.toArray[m]=.str y g:=λm i=>by
  have C:m<a.length:=by simpa using i
  let(R,c,g,rfl):=r.get (x:=.str b[m]) (by rw[Ag,Al _];rfl);refine#[b[m],g,Al Nr,?_];have f:=(Ah.mp c).2;simpa using f
 refine En F.slot_list_remove #[_,e,Y] F.entry_list_remove (F.args_list_remove_2 _ _)
  (MeetsSeq.list_remove l _ n _ (isStrOf z) (λy K=>eq_isStrOf z t O y<|by simpa using K) k (by rw[Aw];omega) ?_ ?_ (by rw[Aw];exact G)) #[e,?_]
 ·let(y,g,c,f):=d k (by rw[Aw];omega);rw[p]at c;cases c;rw[f];unfold isStrOf;simp
 ·intro m i j;let(y,g,c,f):=d m i;rw[f];have:=M m j;rw[c]at this;unfold isStrOf;simpa usingλq=>this (by rw[q])
 ·refine #[.OH,_,I.Ai6 (its':=a.eraseIdx k) w e ?_ ?_ ?_,Y,q]
  ·show a.toArray.eraseIdxIfInBounds k=(a.eraseIdx k).toArray;rw[D5]
  ·have j0:(b.eraseIdx k).map V.str=(b.map V.str).eraseIdx k:=by
    rw[C4,C4,AU,JQ,JR]
   rw[j0];exact r.eraseIdx k
  ·rw[Ac,List.length_eraseIdx];split<;>omega
end
section
open PySem.W
structure Aag(P:Bn)(w:Bw)(K:Ab)(mg:Ay->LX)(base:BM)(k:Nat)(C:Ae)(m:Ay)(ps:LK)(sp:Sp):Prop where
 ex:∃(f:Ae)(fd:Cz),Sl P w K mg base pL k f fd ps sp/\Meth K C m f/\Binds K fd ps []/\Xj K C
structure wZ(P:Bn)(w:Bw)(K:Ab)(mg:Ay->LX)(base:BM)(k:Nat)(C:Ae)(m:Ay)(ps:LK)(sp:Sp):Prop where
 ex:∃(f:Ae)(fd:Cz),Sl P w K mg base (AeX P w) k f fd ps sp/\Meth K C m f/\Binds K fd ps []/\Xj K C
structure xA(P:Bn)(w:Bw)(K:Ab)(mg:Ay->LX)(base:BM)(k:Nat)(x:Ay)(C:Ae)(ps:LK)(sp:Sp):Prop where
 ex:∃(f:Ae)(fd:Cz),Sl P w K mg base pL k f fd ps sp/\Mk K C f/\Binds K fd ps []/\mg x=U (.ref C)
section
variable{P:Bn}{w:Bw}{K:Ab}{mg:Ay->LX}{base:BM}
def SK.AiC{st:Bi}{f:Ae}{k:Nat}(d:SK K C m qual st ps f)(M:Meth K C m f)(c:Xj K C)(S:O3 N ps (NW st))(hbody:∀(cdv:Ai)(A:BS)(outer:Mc)(s:Ax)(H:Hp)(vs:LM)(Q:VK)(E:XK),Oo k (A.deeper<|DF qual (NW st) s.heap.objs.size f cdv)->sp vs H Q E ->
   ∃t,QB (UK pL P w K mg base N qual (NW st) f cdv A outer s H E).AbT (Oa st) t/\t {nx:=λ_ H'=>Q .OH H',rt:=Q} (start N vs) H)(len:∀vs H Q E,sp vs H Q E->vs.length=ps.length:=by walk_at"l"):Aag P w K mg base (k+1) C m ps sp:=by
 let(a,F,b):=d.ex;exact#[f,a,F.ok S len hbody,M,b,c]
def SK.Alz{st:Bi}{f:Ae}{k:Nat}(d:SK K C m qual st ps f)(M:Meth K C m f)(c:Xj K C)(S:O3 N ps (NW st))(len:∀vs H Q E,sp vs H Q E->vs.length=ps.length)(hbody:∀(cdv:Ai)(A:BS)(outer:Mc)(s:Ax)(H:Hp)(vs:LM)(Q:VK)(E:XK),Oo k (A.deeper<|DF qual (NW st) s.heap.objs.size f cdv)->sp vs H Q E ->
   ∃t,QB ((UK (AeX P w) P w K mg base N qual (NW st) f cdv A outer s H E).exc λcls dx _ H'=>E cls dx H') (Oa st) t/\t {nx:=λ_ H'=>Q .OH H',rt:=Q} (start N vs) H):wZ P w K mg base (k+1) C m ps sp:=by
 let(r,F,l):=d.ex;let(y,v,x,j,u,o,cdv,B,n,rfl,g,b):=F.ex;refine#[f,_,Acu g b S len λA outer s H vs Q E i a=>?_,M,l,c];let(t,h,q):=hbody cdv A outer s H vs Q E i a;exact#[t,h.exc λe p z=>AcU z,q]
def SK.AlA{st:Bi}{f:Ae}{k:Nat}(d:SK K C "__init__" qual st ps f)(M:Mk K C f)(hx:mg x=U (.ref C))(S:O3 N ps (NW st))(hbody:∀(cdv:Ai)(A:BS)(outer:Mc)(s:Ax)(H:Hp)(vs:LM)(Q:VK)(E:XK),Oo k (A.deeper<|DF qual (NW st) s.heap.objs.size f cdv)->sp vs H Q E ->
   ∃t,QB (UK pL P w K mg base N qual (NW st) f cdv A outer s H E).AbT (Oa st) t/\t {nx:=λ_ H'=>Q .OH H',rt:=Q} (start N vs) H)(len:∀vs H Q E,sp vs H Q E->vs.length=ps.length:=by walk_at"l"):xA P w K mg base (k+1) x C ps sp:=by
 let(a,F,b):=d.ex;exact#[f,a,F.ok S len hbody,M,b,hx]
end
section
variable{X:Cx}{k:Nat}{C:Ae}{x m:Ay}{ps:LK}{sp:Sp}{p pos v7:CQ}{o e:Expr}{es:L1}{ta:TE}{t:TA}
def Agl{pl:Ir Bool}{n:Nat}(u9:Aag X.prog X.w X.K X.mg X.base k C m ps sp)(hr:Oo n X.A)(he:PE X o ta)(ha:PA X (e::es) t)(hst:AG (e::es) X.env=(Am,eval e X.env)::AG es X.env:=by rfl)(hpl:(BP pos<|AG es X.env).any (·.1)=Am:=by rfl)(ht:eval (.Call (.Attribute o m v7) (e::es) [] pos) X.env=(do
   let ov <-eval o X.env
   standAt v7.atName
   let(f,first) <-holding [ov] (getMethod ov m pl)
   Ex pos f first (BP pos<|AG (e::es) X.env) (Df pos<|Cp [] X.env)):=by rfl)(hn:k<=n:=by decide):
  PE X (.Call (.Attribute o m v7) (e::es) [] pos) (fK C m sp [] E0 ta t):=by
 let(f,b,F,M,a,c):=u9.ex;exact Agi he c M F (hr.mono hn) a .nil rT ha hst hpl ht
def AdK{pl:Ir Bool}{n:Nat}(u9:Aag X.prog X.w X.K X.mg X.base k C m ps sp)(hr:Oo n X.A)(he:PE X o ta)(ht:eval (.Call (.Attribute o m v7) [] [] pos) X.env=(do
   let ov <-eval o X.env
   standAt v7.atName
   let(f,first) <-holding [ov] (getMethod ov m pl)
   Ex pos f first (BP pos<|AG [] X.env) (Df pos<|Cp [] X.env)):=by rfl)(hn:k<=n:=by decide):
  PE X (.Call (.Attribute o m v7) [] [] pos) (fK C m sp [] E0 ta tL):=by
 let(f,b,F,M,a,c):=u9.ex;exact AdF he c M F (hr.mono hn) a .nil rT ht
def Abk{n:Nat}(u9:xA X.prog X.w X.K X.mg X.base k x C ps sp)(hr:Oo n X.A)(hdb:(x==("__debug__":Ay))=Am:=by decide)(hn:k+1<=n:=by decide)(hg:Gl X x:=by rfl):PE X (.Call (.Name x p) [] [] pos) (tK C sp [] E0 tL):=by let(f,c,F,M,a,b):=u9.ex;exact AdE M F (hr.mono hn) hg b a .nil rT hdb
end
end
section
open PySem.W
section
variable{X:Cx}{Ef:XF}{k:Nat}{C:Ae}{m:Ay}{ps:LK}{sp:Sp}{pos v7:CQ}{o e:Expr}{es:L1}{ta:TE}{t:TA}
abbrev AlQ(Ef:XF)(sp:Sp)(x:V)(J:St)(Q:VK):LM->Hp->Prop:=λvs H=>sp (x::vs) H Q (eX Ef J)
def AcI(Ef:XF)(C:Ae)(m:Ay)(sp:Sp)(t:TA)(J:St)(Q:VK):VK:=λx H1=>∃a dx fs,x=.ref a/\H1 a=U (.ins C dx fs)/\fs.lookup m=none/\t J H1 (AlQ Ef sp x J Q)
abbrev Akd(Ef:XF)(C:Ae)(m:Ay)(sp:Sp)(ta:TE)(t:TA):TE:=λJ H Q=>ta J H (AcI Ef C m sp t J Q)
def AdL{pl:Ir Bool}(hex:X.ex=[])(u9:wZ X.prog X.w X.K X.mg X.base k C m ps sp)(hr:Oo k X.A)(he:PE (X.exc Ef) o ta)(ha:PA (X.exc Ef) (e::es) t)(hst:AG (e::es) X.env=(Am,eval e X.env)::AG es X.env:=by rfl)(hpl:(BP pos<|AG es X.env).any (·.1)=Am:=by rfl)(ht:eval (.Call (.Attribute o m v7) (e::es) [] pos) X.env=(do
   let ov <-eval o X.env
   standAt v7.atName
   let(f,first) <-holding [ov] (getMethod ov m pl)
   Ex pos f first (BP pos<|AG (e::es) X.env) (Df pos<|Cp [] X.env)):=by rfl):
  PE (X.exc Ef) (.Call (.Attribute o m v7) (e::es) [] pos) (Akd Ef C m sp ta t):=by
 let(f,y0,F,M,D,c):=u9.ex;intro b s J H Q I h;refine E9 (O2 (he b s J H _ I h) λu P⟨x,L,p,R,a,z,Z,ex,V,l,q⟩=>?_) ht;subst ex;obtain rfl:u=Bu a:=R;refine WO p V c M l ?_;refine Eo I.ok.mod.AkG M.kp (O2 (ha pos b P J L _ p q) λT y⟨E,S,g,r,B⟩=>#[g.U2,?_]) hst hpl;have n:Vals (.ref a::E) _:=.cons Y r;have O:(Bu a::T).length=ps.length:=by rw[<-n.length];exact F.len _ _ _ _ B
 refine Em<|EM (F.run X.A _ y S _ _ _ Q (λi z j=>Ef i z J j) hr g.Q1.AaH (by have:=D y _ g.U2 (by rw[Br];exact O);rw[Br]at this;exact this) n B) λr W d=>?_
 cases r with
 |error e=>exact Afe hex g.Q1 d
 |ok fl=>
   cases fl with
   |ret u=>let(v,j,G,j0,N):=g.Q1.after d;exact#[v,j,G.Wf _,j0,N]
   |next=>exact B4 d
   |brk=>exact B4 d
   |cont=>exact B4 d
end
end
def Anx(K:Ab)(m q:Ay)(st:Bi)(f:Ae)(cd:Ai):Prop:=∃(oc:Ai)(od:LZ)(kV doc pm:Ai)(an:LZ)(ct:Ai)(osl:Array (Option Ai)),K.lookup f=U #[oc,od,.func<|Bs m q (OE st) (Oa st) (NW st) .none kV doc pm an cd ct,osl]/\DK K cd q=Af/\BA K (.ref f)=Af
def Pu(K:Ab)(x:Ay)(st:Bi):Prop:=∃f cd,AX K AK x=U (U<|.ref f)/\Anx K x x st f cd
def jD(K:Ab)(x:Ay)(st:Bi)(c:Ae):Prop:=∃f,AX K AK x=U (U<|.ref f)/\Anx K x x st f (.ref c)
def OI(K:Ab)(C:Ae)(m q:Ay)(st:Bi)(f:Ae):Prop:=∃cd,BU K (.ref C) m=U (U<|.ref f)/\FL K (.ref f)=Af/\Anx K m q st f cd
section
variable{K:Ab}{mg:Ay->LX}{h:BM}{x m q:Ay}{st:Bi}{ps:LK}{f C c:Ae}
def Pu.mk(X:K.In h)(G:h.Ns AK mg)(d:Pu K x st)(b:∀(kV doc pm:Ai)(an:LZ)(cdv ct:Ai)(us:LQ),us.length=ps.length->Cf (Bs x x (OE st) (Oa st) (NW st) .none kV doc pm an cdv ct) #[us,[]]=pure (ps.zip us)):wW K mg x st ps:=by let(f,e,a,_,_,_,_,_,_,_,_,l,c,k):=d;exact Aci X G a l c k b
def jD.mk(X:K.In h)(G:h.Ns AK mg)(d:jD K x st c)(b:∀(kV doc pm:Ai)(an:LZ)(cdv ct:Ai)(us:LQ),us.length=ps.length->Cf (Bs x x (OE st) (Oa st) (NW st) .none kV doc pm an cdv ct) #[us,[]]=pure (ps.zip us)):bI K mg x st ps c:=by let(f,a,_,_,_,_,_,_,_,_,l,c,k):=d;exact AaF X G a l c k b
def OI.mk(d:OI K C m q st f)(b:∀(kV doc pm:Ai)(an:LZ)(cdv ct:Ai)(us:LQ),us.length=ps.length->Cf (Bs m q (OE st) (Oa st) (NW st) .none kV doc pm an cdv ct) #[us,[]]=pure (ps.zip us)):SK K C m q st ps f:=by let(a,_,_,_,_,_,_,_,_,_,_,l,c,k):=d;exact Aa2 l c k b
def OI.me(d:OI K C m q st f):Meth K C m f:=by let(b,a,i,_,_,_,_,_,_,_,_,l,c,k):=d;exact#[a,i,k]
def OI.AiC{base:BM}{k:Nat}(a:OI K C m q st f)(c:Xj K C)(S:O3 N ps (NW st))(hbody:∀(cdv:Ai)(A:BS)(outer:Mc)(s:Ax)(H:Hp)(vs:LM)(Q:VK)(E:XK),Oo k (A.deeper<|DF q (NW st) s.heap.objs.size f cdv)->sp vs H Q E ->
   ∃t,QB (UK pL P w K mg base N q (NW st) f cdv A outer s H E).AbT (Oa st) t/\t {nx:=λ_ H'=>Q .OH H',rt:=Q} (start N vs) H)(b:∀(kV doc pm:Ai)(an:LZ)(cdv ct:Ai)(us:LQ),us.length=ps.length->Cf (Bs m q (OE st) (Oa st) (NW st) .none kV doc pm an cdv ct) #[us,[]]=pure (ps.zip us):=by walk_at"b")(len:∀vs H Q E,sp vs H Q E->vs.length=ps.length:=by walk_at"l"):Aag P w K mg base (k+1) C m ps sp:=(a.mk b).AiC a.me c S hbody len
def OI.AqV(d:OI K C "__init__" q st f)(mk:B7 K C=Af)(kp:BA K (.ref C)=Af):Mk K C f:=by let(b,a,i,_):=d;exact#[mk,a,i,kp]
end
abbrev Ani:=Nat×Nat×Nat
def hi(b c:Nat):L8:=(Ba c).filter λh=>decide (Gq ((b:Nat):Int) ((2 ^ h:Nat):Int)≠0)
def so(c m:Nat):L8:=(Ba<|2 ^ c).filter λb=>decide ((hi b c).length=m)
def ta(a b:Nat):Bool:=decide (Gq ((a:Nat):Int) ((b:Nat):Int)=0)
def w2(c r a b:Nat):List Ani:=if ta a b=Af then(so c r).map λh=>(a,b,h)else[]
def w1(c r a:Nat):List Ani:=(Ba<|2 ^ c).flatMap (w2 c r a)
def W(c r w:Nat):List Ani:=(so c w).flatMap (w1 c r)
def mi(t:Ani):Bool:=decide (Gq ((t.2.2:Nat):Int) (Dx.bitOr ((t.1:Nat):Int) ((t.2.1:Nat):Int))=0)
structure Md where
 P:Bn
 w:Bw
 mg:Ay->LX
 base:BM
structure Fm where
 f:Ae
 cd:Ai
 A:BS
 o:Mc
 s:Ax
 E:XK
def cN(M:Md)(K:Ab)(N:LK)(q:Ay)(sc:Scope)(φ:Fm)(H:Hp):Cx:=(UK pL M.P M.w K M.mg M.base N q sc φ.f φ.cd φ.A φ.o φ.s H φ.E).AbT
instance {K:Ab}:Ol (cN M K N q sc φ H) K H:=#[Y,Y]
def Rm(k:Nat)(N:LK)(q:Ay)(sc:Scope)(φ:Fm):Prop:=Oo k (φ.A.deeper<|DF q sc φ.s.heap.objs.size φ.f φ.cd)/\N.Nodup
class P0(X:Cx)(M:outParam Md):Prop where
 p:X.prog=M.P
 w:X.w=M.w
 g:X.mg=M.mg
 b:X.base=M.base
instance {K:Ab}:P0 (cN M K N q sc φ H) M:=#[Y,Y,Y,Y]
instance {X:Cx} {scope:Scope} {Nc:LK} {fp:LL} {s:Ax} {H:Hp} {M:Md} [h:P0 X M]:P0 (OO X scope Nc fp s H) M:=#[h.p,h.w,h.g,h.b]
class UR(X:Cx):Prop where
 p:IY (A7 X.prog X.w) X.A X.env X.xe
 c:X.calm=Af
instance {K:Ab}:UR (cN M K N q sc φ H):=#[IY.never,Y]
abbrev fin(Q:VK):Ends:={nx:=λ_ H'=>Q .OH H',rt:=Q}
abbrev Zn:Nat->St
 |0=>[]
 |n+1=>none::Zn n
abbrev tW:LM->Nat->St
 |[],n=>Zn n
 |v::vs,0=>U v::tW vs 0
 |v::vs,n+1=>U v::tW vs n
def rM:∀n,Zn n=EB n none
 |0=>rfl
 | n+1=>by
   show none::Zn n=_;rw[rM n];rfl
def Tz{N:LK}{vs:LM}{n:Nat}(e:N.length=n):start N vs=tW vs n:=by
 suffices h:∀(vs:LM)(n:Nat),vs.map U++EB (n-vs.length) none=tW vs n by rw[<-e];exact h _ _
 intro vs;induction vs with
 |nil=>intro n;exact(rM n).symm
 |cons v vs ih=>
   intro n;cases n with
   |zero=>
     have:=ih 0;rw[Kx]at this;show U v::(vs.map U++EB _ none)=U v::tW vs 0
     rw[Kx,this]
   |succ n=>
     show U v::(vs.map U++EB (n+1-(vs.length+1)) none)=U v::tW vs n
     rw[Nat.add_sub_add_right,ih n]
section
variable(M:Md)(K:Ab)(k:Nat)
def Hf(x:Ay)(sp:Sp):Prop:=∃ps,wY M.P M.w K M.mg M.base k x ps sp
def Hm(C:Ae)(m:Ay)(sp:Sp):Prop:=∃ps,Aag M.P M.w K M.mg M.base k C m ps sp
def Hk(x:Ay)(C:Ae)(sp:Sp):Prop:=∃ps,xA M.P M.w K M.mg M.base k x C ps sp
end
section
variable{M:Md}{K:Ab}{k n:Nat}{N:LK}{q x m:Ay}{st:Bi}{sp:Sp}{C:Ae}
def hf(p n:Nat){t:Hp->TS}(d:∃X:BM,K.In X/\X.Ns AK M.mg)(a:Pu K x st)(kt:∀φ H,Rm k N x (NW st) φ->QB (cN M K N x (NW st) φ H) (Oa st) (t H))(rd:∀vs H Q E,sp vs H Q E->t H (fin Q) (tW vs n) H)(S:O3 N (N.take p) (NW st):=by walk_at"s")(b:∀(kV doc pm:Ai)(an:LZ)(cdv ct:Ai)(us:LQ),us.length=(N.take p).length->Cf (Bs x x (OE st) (Oa st) (NW st) .none kV doc pm an cdv ct) #[us,[]]=pure ((N.take p).zip us):=by walk_at"b")(len:∀vs H Q E,sp vs H Q E->vs.length=(N.take p).length:=by walk_at"l")(hn:N.length=n:=by rfl):Hf M K (k+1) x sp:=by let(X,c,g):=d;exact#[_,(a.mk c g b).has S (λf i A o s H vs Q E e h=>#[_,kt #[f,i,A,o,s,E] H #[e,S.nd],by rw[Tz hn];exact rd vs H Q E h]) len]
def Aqz(p n:Nat){t:Hp->TS}(d:∃X:BM,K.In X/\X.Ns AK M.mg)(a:Pu K x st)(kt:∀φ H,Rm k N x (NW st) φ->QB (cN M K N x (NW st) φ H) (Oa st) (t H))(rd:∀vs H Q E,sp vs H Q E->t H (fin Q) (tW vs n) H)(S:O3 N (N.take p) (NW st):=by walk_at"s")(b:∀(kV doc pm:Ai)(an:LZ)(cdv ct:Ai)(us:LQ),us.length=(N.take p).length->Cf (Bs x x (OE st) (Oa st) (NW st) .none kV doc pm an cdv ct) #[us,[]]=pure ((N.take p).zip us):=by walk_at"b")(len:∀vs H Q E,sp vs H Q E->vs.length=(N.take p).length:=by walk_at"l")(hn:N.length=n:=by rfl):wY M.P M.w K M.mg M.base (k+1) x (N.take p) sp:=by let(X,c,g):=d;exact(a.mk c g b).has S (λf i A o s H vs Q E e h=>#[_,kt #[f,i,A,o,s,E] H #[e,S.nd],by rw[Tz hn];exact rd vs H Q E h]) len
def hm(p n:Nat){t:Hp->TS}(a:∃f,OI K C m q st f)(c:Xj K C)(kt:∀φ H,Rm k N q (NW st) φ->QB (cN M K N q (NW st) φ H) (Oa st) (t H))(rd:∀vs H Q E,sp vs H Q E->t H (fin Q) (tW vs n) H)(S:O3 N (N.take p) (NW st):=by walk_at"s")(b:∀(kV doc pm:Ai)(an:LZ)(cdv ct:Ai)(us:LQ),us.length=(N.take p).length->Cf (Bs m q (OE st) (Oa st) (NW st) .none kV doc pm an cdv ct) #[us,[]]=pure ((N.take p).zip us):=by walk_at"b")(len:∀vs H Q E,sp vs H Q E->vs.length=(N.take p).length:=by walk_at"l")(hn:N.length=n:=by rfl):Hm M K (k+1) C m sp:=by let(f,a):=a;exact#[_,a.AiC c S (λe A o s H vs Q E d h=>#[_,kt #[f,e,A,o,s,E] H #[d,S.nd],by rw[Tz hn];exact rd vs H Q E h]) b len]
def hk(p n:Nat){t:Hp->TS}(a:∃f,OI K C "__init__" q st f)(mk:B7 K C=Af/\BA K (.ref C)=Af)(hx:M.mg x=U (.ref C))(kt:∀φ H,Rm k N q (NW st) φ->QB (cN M K N q (NW st) φ H) (Oa st) (t H))(rd:∀vs H Q E,sp vs H Q E->t H (fin Q) (tW vs n) H)(S:O3 N (N.take p) (NW st):=by walk_at"s")(b:∀(kV doc pm:Ai)(an:LZ)(cdv ct:Ai)(us:LQ),us.length=(N.take p).length->Cf (Bs "__init__" q (OE st) (Oa st) (NW st) .none kV doc pm an cdv ct) #[us,[]]=pure ((N.take p).zip us):=by walk_at"b")(len:∀vs H Q E,sp vs H Q E->vs.length=(N.take p).length:=by walk_at"l")(hn:N.length=n:=by rfl):Hk M K (k+1) x C sp:=by let(f,a):=a;exact#[_,(a.mk b).AlA (a.AqV mk.1 mk.2) hx S (λd A o s H vs Q E c h=>#[_,kt #[f,d,A,o,s,E] H #[c,S.nd],by rw[Tz hn];exact rd vs H Q E h]) len]
end
section
variable{X:Cx}{M:Md}{K:Ab}{N4:Hp}{k n:Nat}{C:Ae}{x m:Ay}{sp:Sp}{p pos v7:CQ}{o e:Expr}{es:L1}{ta:TE}{t:TA}
def Hf.at[h:P0 X M][g:Ol X K N4](u9:Hf M K k x sp):∃ps,wY X.prog X.w X.K X.mg X.base k x ps sp:=by rw[h.p,h.w,h.g,h.b,g.k];exact u9
def Hm.at[h:P0 X M][g:Ol X K N4](u9:Hm M K k C m sp):∃ps,Aag X.prog X.w X.K X.mg X.base k C m ps sp:=by rw[h.p,h.w,h.g,h.b,g.k];exact u9
def Hk.at[h:P0 X M][g:Ol X K N4](u9:Hk M K k x C sp):∃ps,xA X.prog X.w X.K X.mg X.base k x C ps sp:=by rw[h.p,h.w,h.g,h.b,g.k];exact u9
def Qf[P0 X M][Ol X K N4](u9:Hf M K k x sp)(hr:Oo n X.A)(ha:PA X (e::es) t)(hdb:(x==("__debug__":Ay))=Am:=by decide)(he:AG (e::es) X.env=(Am,eval e X.env)::AG es X.env:=by rfl)(hpl:(BP pos<|AG es X.env).any (·.1)=Am:=by rfl)(hn:k<=n:=by decide)(hg:Gl X x:=by rfl):PE X (.Call (.Name x p) (e::es) [] pos) (zO sp [] E0 t):=by let(a,u9):=u9.at (X:=X);exact Ajx u9 hr ha hdb he hpl hn hg
def Qm{pl:Ir Bool}[P0 X M][Ol X K N4](u9:Hm M K k C m sp)(hr:Oo n X.A)(he:PE X o ta)(ha:PA X (e::es) t)(hst:AG (e::es) X.env=(Am,eval e X.env)::AG es X.env:=by rfl)(hpl:(BP pos<|AG es X.env).any (·.1)=Am:=by rfl)(ht:eval (.Call (.Attribute o m v7) (e::es) [] pos) X.env=(do
   let ov <-eval o X.env
   standAt v7.atName
   let(f,first) <-holding [ov] (getMethod ov m pl)
   Ex pos f first (BP pos<|AG (e::es) X.env) (Df pos<|Cp [] X.env)):=by rfl)(hn:k<=n:=by decide):
  PE X (.Call (.Attribute o m v7) (e::es) [] pos) (fK C m sp [] E0 ta t):=by
 let(a,u9):=u9.at (X:=X);exact Agl u9 hr he ha hst hpl ht hn
def Aqa{pl:Ir Bool}[P0 X M][Ol X K N4](u9:Hm M K k C m sp)(hr:Oo n X.A)(he:PE X o ta)(ht:eval (.Call (.Attribute o m v7) [] [] pos) X.env=(do
   let ov <-eval o X.env
   standAt v7.atName
   let(f,first) <-holding [ov] (getMethod ov m pl)
   Ex pos f first (BP pos<|AG [] X.env) (Df pos<|Cp [] X.env)):=by rfl)(hn:k<=n:=by decide):
  PE X (.Call (.Attribute o m v7) [] [] pos) (fK C m sp [] E0 ta tL):=by
 let(a,u9):=u9.at (X:=X);exact AdK u9 hr he ht hn
def Qk[P0 X M][Ol X K N4](u9:Hk M K k x C sp)(hr:Oo n X.A)(ha:PA X (e::es) t)(hdb:(x==("__debug__":Ay))=Am:=by decide)(he:AG (e::es) X.env=(Am,eval e X.env)::AG es X.env:=by rfl)(hpl:(BP pos<|AG es X.env).any (·.1)=Am:=by rfl)(hn:k+1<=n:=by decide)(hg:Gl X x:=by rfl):PE X (.Call (.Name x p) (e::es) [] pos) (tK C sp [] E0 t):=by
 let(d,u9):=u9.at (X:=X);let(f,c,F,M,b,a):=u9.ex;exact Agh M F (hr.mono hn) hg a b .nil rT ha hdb he hpl
def Ap9[P0 X M][Ol X K N4](u9:Hk M K k x C sp)(hr:Oo n X.A)(hdb:(x==("__debug__":Ay))=Am:=by decide)(hn:k+1<=n:=by decide)(hg:Gl X x:=by rfl):PE X (.Call (.Name x p) [] [] pos) (tK C sp [] E0 tL):=by let(a,u9):=u9.at (X:=X);exact Abk u9 hr hdb hn hg
end
section
variable{X:Cx}{n i:Nat}{x:Ay}{o e f v:Expr}{td ty tx tv te:TE}{pos pos' v7 v8:CQ}
def Qg(hr:Oo n X.A)(ho:PE X o td)(hi:PE X e ty)(hs:Ae1 e:=by exactλ_ _=>rfl):PE X (.Subscript o e pos) (Ah7 td ty):=Age (jT hr) ho hi hs
def Qi(hr:Oo n X.A)(hi:PE X e ty)(ho:PE X o td):PC X .In e o (AmI ty td):=Ajs (jT hr) hi ho
def Aqb(hr:Oo n X.A)(hi:PE X e ty)(ho:PE X o td):PC X .NotIn e o (zP ty td):=Abi (jT hr) hi ho
def Qp(hr:Oo n X.A)(ho:PE X o td)(hi:PE X e ty)(hv:PE X v tv)(hs:swapsWith v (U<|.Subscript o e pos') pos.line X.env=pure Am:=by rfl):PS X (.Assign [.Subscript o e pos'] v pos) (Ah2 td ty tv):=Agw (jT hr) ho hi hv hs
def Ap8(hr:Oo n X.A)(ho:PE X o td)(he:PE X e ty)(hf:PE X f tx)(m:M2 X o "get" v7 e f v8:=by exact#[Y,Y,Y,Y]):PE X (.Call (.Attribute o "get" v7) [e,f] [] v8) (Aew td ty tx):=Adx (jT hr) ho he hf m
def Qs(hN:X.N.Nodup)(i:Nat)(he:PE X e te)(hi:X.N[i]?=U x:=by rfl)(hx:Loc X.env.scope x:=by first|exact B8 rfl|exact Ed Y)(hs:swapsWith e (U<|.Name x pos') pos.line X.env=pure Am:=by rfl)(hf:X.fn x=Af\/X.env.scope.names.lookup x=U .local:=by first|exact .inl rfl|exact .inr rfl|assumption):PS X (.Assign [.Name x pos'] e pos) (Ag1 te<|Wi i):=AdY hN hi hx he hs hf
def Qn(hN:X.N.Nodup)(i:Nat)(hi:X.N[i]?=U x:=by rfl)(hx:Loc X.env.scope x:=by first|exact B8 rfl|exact Ed Y)(hf:X.fn x=Af\/X.env.scope.names.lookup x=U .local:=by first|exact .inl rfl|exact .inr rfl|assumption):PG X (.Name x pos) (Wi i):=Qx hN hi hx hf
def Qr{tg iter:Expr}{body:Me}{wi:TI}{g:TG}{tb:TS}[h:UR X](hi:PI X tg iter wi)(hg:PG X tg g)(hb:QB X body tb)(hs:∀x,Bz iter X.env x=pure x:=by intro _;rfl):PS X (.For tg iter body [] pos) (AmM wi g tb):=AjF h.p h.c hi hg hb hs
def Qw{c:Expr}{body:Me}{tc:TT}{tb:TS}[h:UR X](hc:PT X c tc)(hb:QB X body tb):PS X (.While c body [] pos) (Aex tc tb):=AdZ h.p hc hb
end
section
variable{X:Cx}{ta tb tc:TE}{tA tB':TT}{rest:L1}{a b c e:Expr}{pos:CQ}{r r':R2}{t u:TS}
def Adh{v:V}:∀{J:St}{i:Nat},J[i]?=U (U v)->Aji J i=U v
 |_::_,0,h=>AS h
 |_::t,_+1,h=>Adh (J:=t) h
def Al7(i:Nat):TE:=λJ H Q=>∃v,J[i]?=U (U v)/\Q v H
def Af1(h:Al7 i J H Q):wL i J H Q:=by let(v,e,h):=h;show vQ _ Q H;rw[Adh e];exact h
def P9(i:Nat){x:Ay}{pos:CQ}(hN:X.N[i]?=U x:=by rfl)(hv:AkY X.env.scope x:=by first|exact B8 rfl|exact Ed (B8 Y)|exact Ed<|Ed Y)(hd:(x==("__debug__":Ay))=Am:=by decide)(hcd:(x==("__classdict__":Ay))=Am:=by decide):PE X (.Name x pos) (Al7 i):=λa s J H Q I h=>vS hN hv hd hcd a s J H Q I (Af1 h)
def Adl{Q:Bool->Hp->Prop}:(λx H=>∃c,x=V.bl c/\Q c H)=qS Q:=funext λx=>funext λH=>propext #[λ⟨c,e,q⟩=>by subst e;exact q,Xc]
def ic{F G:Hp->Prop}:(λ(c:Bool)(H:Hp)=>if c=Af then F H else G H)=λc H=>Q3 c (F H) (G H):=funext λc=>funext λH=>by cases c<;>rfl
def oB(t:TE):TT:=λJ H Q=>t J H λx H1=>∃c,x=.bl c/\Q c H1
def AhV{t:TE}:oB t=tB t:=funext λJ=>funext λH=>funext λQ=>congrArg _ Adl
def Agy{t:TE}(h:PE X e t)(he:∀whole,isTrue e X.env whole=(do let v <-whole;standAt e.pos;holding [v] (truthy v)):=by intro _;rfl):PT X e (oB t):=AhV▸Ad2 h he
def XX(ho:TM X (Bh op) r)(ha:PE X a ta)(hb:PE X b tb)(hm:behindInMarks op b=Am):PT X (.Compare a [op] [b] pos) (oB<|AkK r ta tb):=AhV▸yW ho ha hb hm
def Al5(t u:TT):TT:=λJ H Q=>t J H λc H1=>if c=Af then u J H1 Q else Q Am H1
def AfZ{t u:TT}:Al5 t u=AmH t u:=funext λJ=>funext λH=>funext λQ=>congrArg _ ic
def AgF(ha:PT X a tA)(hb:PW X (.BoolOp .And (b::rest) pos) tB'):PW X (.BoolOp .And (a::b::rest) pos) (Al5 tA tB'):=AfZ▸Ad5 ha hb
def AhU(ta tb:TE):TE:=λJ H Q=>ta J H λx H1=>∃c,x=.bl c/\if c=Af then tb J H1 Q else Q (.bl Am) H1
def AhW(ta:TE):TE:=λJ H Q=>ta J H λx H1=>∃c,x=.bl c/\Q (.bl<|!c) H1
def iT{F G:Hp->Prop}:(λ(x:V)(H:Hp)=>∃c,x=V.bl c/\if c=Af then F H else G H)=qS λc H=>Q3 c (F H) (G H):=by rw[<-ic];exact Adl
def Adi{ta tb:TE}:AhU ta tb=Ah5 ta tb:=funext λJ=>funext λH=>funext λQ=>congrArg _ iT
def Adk{ta:TE}:AhW ta=Ah8 ta:=funext λJ=>funext λH=>funext λQ=>congrArg _ Adl
def VW(ha:PE X a ta)(hb:PE X (.BoolOp .And (b::rest) pos) tb):PE X (.BoolOp .And (a::b::rest) pos) (AhU ta tb):=Adi▸Adw ha hb
def Agk(ha:PE X a ta):PE X (.UnaryOp .Not a pos) (AhW ta):=Adk▸AdG ha
def Al6(c:TT)(t u:TS):TS:=λD J H=>c J H λb H1=>if b=Af then t D J H1 else u D J H1
def Af0{c:TT}{t u:TS}:Al6 c t u=AmN c t u:=funext λD=>funext λJ=>funext λH=>congrArg _ ic
def AjG{tc:TT}{a b:Me}(hc:PT X c tc)(ha:QB X a t)(hb:QB X b u):PS X (.If c a b pos) (Al6 tc t u):=Af0▸AdX hc ha hb
def ApV(C:Int->Int->Prop)(g:Int->Int->V):R2:=λx y H Q=>∃i j,x=.int i/\y=.int j/\C i j/\Q (g i j) H
def ApW(g:Int->Int->V):R2:=λx y H Q=>∃i j,x=.int i/\y=.int j/\Q (g i j) H
def AhQ{x y:V}{F:Int->Int->Prop}:(∃i j,x=V.int i/\y=V.int j/\F i j)=mI x y F:=propext #[λ⟨i,j,b,a,q⟩=>by subst b a;exact q,yH]
def Ajj{C:Int->Int->Prop}{g:Int->Int->V}:ApV C g=rI C g:=funext λx=>funext λy=>funext λH=>funext λQ=>AhQ
def Ajk{g:Int->Int->V}:ApW g=AeV g:=funext λx=>funext λy=>funext λH=>funext λQ=>AhQ
def o0{f:Ai->Ai->Ir Ai}{g:Int->Int->V}(h:TM X f (AeV g)):TM X f (ApW g):=Ajk▸h
def oC{f:Ai->Ai->Ir Ai}{C:Int->Int->Prop}{g:Int->Int->V}(h:TM X f (rI C g)):TM X f (ApV C g):=Ajj▸h
def Adj(r r':R2)(ta tb tc:TE):TE:=λJ H Q=>ta J H λx H1=>tb J H1 λy H2=>r x y H2 λz H3=>∃k,z=.bl k/\(if k=Af then tc J H3 λw' H4=>r' y w' H4 Q else Q (.bl Am) H3)
def Aa6{r r':R2}{ta tb tc:TE}:Adj r r' ta tb tc=Aev r r' ta tb tc:=funext λJ=>funext λH=>funext λQ=>congrArg _ (funext λx=>funext λa=>congrArg _ (funext λy=>funext λb=>congrArg _ iT))
def Y1(ho:TM X (Bh op) r)(ho':TM X (Bh op') r')(ha:PE X a ta)(hb:PE X b tb)(hc:PE X c tc)(hm:Kq [op,op'] [b,c]=Am:=by with_unfolding_all rfl):PE X (.Compare a [op,op'] [b,c] pos) (Adj r r' ta tb tc):=Aa6▸rU ho ho' ha hb hc hm
end
section
variable{K:Ab}{H:Hp}{a C:Ae}{fs:L5}{f z:Ay}{v:V}{Q:VK}{t:TA}{J:St}{D:Ends}{A B:Prop}{b:Bool}{xs:LM}{v5:LP}
structure Ahg(K:Ab)(C:Ae)(ns:LK):Prop where
 c:Xj K C
 n:∀f∈ns,Qe K C f
def dD:∀{fs:L5},fs.lookup f=U v->f∈fs.map (·.1)
 | (g,w)::t,h=>by
   by_cases e:f=g
   ·subst e;exact AW ..
   ·rw[BZ,Gm e]at h;exact AD _ (dD h)
def Up(H:Hp)(a:Ae)(o:HO)(H1:Hp):Prop:=H1=upd H a o
def cB(h1:b=Af->A)(h2:b=Am->B):Q3 b A B:=by cases b;exact h2 Y;exact h1 Y
def cD{P:Prop}[Decidable P](h1:P->A)(h2:¬ P->B):Q3 (decide P) A B:=cB (λh=>h1<|Bv h) λh=>h2 (of_decide_eq_false h)
def cS{z w:Ay}(h1:z=w->A)(h2:z≠w->B):Q3 (decide<|V.str z=V.str w) A B:=cD (λh=>h1 (by cases h;rfl)) λh=>h2 λe=>h (by rw[e])
def cI{z w:Int}(h1:z=w->A)(h2:z≠w->B):Q3 (decide<|V.int z=V.int w) A B:=cD (λh=>h1 (by cases h;rfl)) λh=>h2 λe=>h (by rw[e])
def gS(h:Rd H a (.dK v5))(e:PV v5 (.inr z)=U v)(k:Q v H):AlK (.ref a) Q (.str z) H:=#[a,v,Y,.inl #[v5,.inr z,h,Y,e.symm],k]
def gI{i:Int}(h:Rd H a (.dK v5))(e:PV v5 (.inl i)=U v)(k:Q v H):AlK (.ref a) Q (.int i) H:=#[a,v,Y,.inl #[v5,.inl i,h,Y,e.symm],k]
def nS(h:Rd H a (.dK v5))(e:(PV v5<|.inr z).isSome=b)(k:Q (.bl<|!b) H):Aoy Af (.str z) Q (.ref a) H:=#[a,_,Y,.inl #[v5,.inr z,h,Y,Y],by rw[e];exact k]
def pS(h:H a=U (.dK v5))(hl:v5.length<sizeLine)(k:∀H1,Up H a (.dK<|putK v5 (.inr z) v) H1->D.nx J H1):AiK v (.ref a) D J (.str z) H:=#[a,_,Y,gG.k (k:=.inr z) h hl,k _ Y]
def pI{i:Int}(h:H a=U (.dK v5))(hl:v5.length<sizeLine)(k:∀H1,Up H a (.dK<|putK v5 (.inl i) v) H1->D.nx J H1):AiK v (.ref a) D J (.int i) H:=#[a,_,Y,gG.k (k:=.inl i) h hl,k _ Y]
def mL{r:V->LM->Hp->VK->Prop}(h:H a=U (.lst xs))(k:t J H (AlJ r (.ref a) Q)):ApK K "list" r t J Q (.ref a) H:=#[.inl #[Y,xs,PX.of h],k]
end
end L2
namespace L2
open PySem
def AmA(a:Ent):Int:=2*a.1+(if a.2=none then 1 else 0)
end L2
namespace L2
open PySem PySem.Spec PyProof.Rows
def xY(nm:Ay):∀zs:LK,AhC (.str nm) (zs.map V.str)=decide (nm∈zs)
 |[]=>by simp[AhC]
 | z::zs=>by
   have a:=xY nm zs;unfold AhC at a ⊢;rw[Au,C3,a];have e:pN (.str z) (.str nm)=decide (nm=z):=by show(z==nm)=_;rw[BN,Ek,Bx];exact eq_comm
   rw[e,BN];simp
abbrev QI:=List (Ay×List Int)
def cR(Hs:QI):List (Key×DV):=Hs.map λe=>(.inr e.1,.tup<|e.2.map λi=>.fl<|.int i)
abbrev xB(K:Ab)(H:Hp)(Hs:QI)(v5:LP):Prop:=RL K H (cR Hs) v5
def Ad9{K:Ab}{is:LS}:QN K H (is.map λi=>.fl<|.int i) (is.map V.int):=by
 induction is with
 |nil=>exact Bk
 |cons i is ih=>exact#[#[Y,Y],ih]
def lp(m:Nat):Int:=(((Ba 11).map λv=>10-((m:Int)-1)*((v:Nat):Int)).filter λx=>decide<|0<x).sum
def xB.get{K:Ab}:∀{v5:LP}{i:Nat}{kv:Key×V},xB K H Hs v5->v5[i]?=U kv->∃e t,Hs[i]?=U e/\kv=(.inr e.1,.ref t)/\RE K H t (e.2.map V.int):=by
 induction Hs with
 |nil=>
   intro v5 i kv h e;cases v5 with
   |nil=>simp at e
   |cons _ _=>exact h.elim;all_goals simp
 |cons x Hs ih=>
   intro v5 i kv h e;cases v5 with
   |nil=>simp at e
   |cons w v5=>
     let(f,(t,a,d,c,b),g):=h;cases i with
     |succ j=>exact ih g (by simpa using e)
     |zero=>
       have k:w=kv:=by simpa using e
       subst k;have l:a=x.2.map V.int:=by
        clear c;generalize x.2=is at b;induction is generalizing a with
        |nil=>
          cases a with
          |nil=>rfl
          |cons _ _=>exact b.elim;all_goals simp
        |cons i is ih=>
          cases a with
          |nil=>exact b.elim;all_goals simp
          |cons v a=>rw[Au,b.1.1,ih _ b.2]
       subst l;let(m,n):=w;subst f d;exact#[x,t,Y,Y,c]
def xB.len{K:Ab}(h:xB K H Hs v5):v5.length=Hs.length:=by have:=h.length;unfold cR at this;simpa using this.symm
def FT(d:DV):Prop:=∃xs:LM,d=.tup (xs.map DV.fl)/\∀x∈xs,Pr x=Af
def Acx:∀{xs:LM},(∀x∈xs,Pr x=Af)->DV.eqs (xs.map DV.fl) (xs.map DV.fl)=Af/\DV.fits (xs.map DV.fl) (xs.map DV.fl)=Af/\DV.Rb (xs.map DV.fl)=0
 | [],_=>by
   refine#[?_,?_,?_]
   ·rw[B6,DV.eqs]
   ·rw[B6,DV.fits];all_goals simp
   ·rw[B6,DV.Rb]
 | x::xs,h=>by
   let(d,a,c):=Acx (xs:=xs) λy b=>h y<|AD _ b
   refine#[?_,?_,?_]
   ·rw[Au,DV.eqs,DV.eq,d,bS<|h x AW];rfl
   ·rw[Au,DV.fits,DV.fit,a];rfl
   ·rw[Au,DV.Rb,DV.dep,c];rfl
def FT.self(h:FT d):DV.eq d d=Af/\DV.fit d d=Af/\DV.dep d<=1:=by let(f,rfl,e):=h;let(b,a,c):=Acx e;refine#[by exact b,by exact a,by rw[DV.dep,c];exact Ap _]
def xT:∀{ks:List (Key×DV)},(ks.map (·.1)).Nodup->∀{e:Key×DV},e∈ks->ks.find? (λj=>decide<|j.1=e.1)=U e
 | x::ks,nd,e,he=>by
   rw[Au,Bb]at nd;rcases AB.mp he with rfl|h
   ·simp[D8]
   ·have:x.1≠e.1:=λq=>nd.1 (q▸AH h)
    simp[D8,this];have:=xT nd.2 h;simpa using this
def sY(nd:(ks.map (·.1)).Nodup)(ft:∀e∈ks,FT e.2):∀{js:List (Key×DV)},(∀e∈js,e∈ks)->U0 ks js=Af/\bV ks js=Af/\ZR js<=8
 | [],_=>by
   refine#[by rw[U0],by rw[bV],?_];unfold ZR;rw[B6,DV.Rb];decide
 | (k,d)::js,h=>by
   let(m,j,c):=sY nd ft (js:=js) λe i=>h e<|AD _ i
   have a:=h (k,d) AW;have b:=xT nd a;let(g,f,l):=(ft _ a).self;refine#[?_,?_,?_]
   ·rw[U0,b,m];exact Ej.mpr #[g,Y]
   ·rw[bV,b,j];exact Ej.mpr #[f,Y]
   ·unfold ZR at c ⊢;rw[Au,DV.Rb];exact F0.mpr #[AL l Nq,c]
def AmF(nd:(ks.map (·.1)).Nodup)(ft:∀e∈ks,FT e.2):bV ks ks=Af/\ZR ks<=8/\AeQ ks ks=Af:=by
 let(a,c,d):=sY nd ft λe b=>b
 exact#[c,d,by unfold AeQ;rw[a];simp]
def AcC(Hs:QI):(cR Hs).map (·.1)=(Hs.map (·.1)).map C1:=by unfold cR;rw[As,As];rfl
def Ajd{l:LK}(h:l.Nodup):(l.map (C1:Ay->Key)).Nodup:=by unfold List.Nodup at h ⊢;rw[CB];exact h.imp λa e=>a (JD e)
def Afr(is:LS):FT (.tup<|is.map λi=>.fl<|.int i):=#[is.map _,by rw[As];rfl,λx a=>by
 let(i,_,rfl):=AE.mp a;rfl]
def AmE{Hs:QI}(nd:(Hs.map (·.1)).Nodup):bV (cR Hs) (cR Hs)=Af/\ZR (cR Hs)<=8/\AeQ (cR Hs) (cR Hs)=Af:=AmF (by rw[AcC];exact Ajd nd) λe a=>by
  let(x,_,rfl):=AE.mp a;exact Afr _
def wd(ws:Ml)(i:Nat):L8:=ws.getD i []
def AqW(ws:Ml)(n:Nat):L8:=wd ws (n / 25)++46::(wd ws (n / 5%5)++46::wd ws (n%5))
def nm(ws:Ml)(n:Nat):Ay:=⟨(AqW ws n).toArray⟩
def Aey(h:46∉w):(w++46::r).takeWhile (·≠46)=w:=by
 induction w with
 |nil=>simp
 |cons x w a=>
   rw[AB,not_or]at h;have:x≠46:=λe=>h.1 e.symm
   have a:=a h.2;simp at a;simp[this,a]
def cnt(f:Nat->Nat)(x:Nat)(l:L8):Nat:=l.countP λy=>decide (f y=f x)
def AhS:∀{l m:L8},l.Nodup->(∀a∈l,a∈m)->l.length<=m.length
 |[],_,_,_=>Bo _
 | x::l,m,nd,h=>by
   rw[Bb]at nd;have d:=h x AW;have:=AhS (l:=l) (m:=m.erase x) nd.2 λa c=>by
    have b:a≠x:=λe=>nd.1<|e▸c
    exact(Ds b).mpr (h a<|AD _ c)
   rw[Cj d]at this;have:=HL d;rw[AM];omega
def dH(l:L8):Prop:=∀x∈l,x∈WS.cps.toList
def zJ(i:Int):dH (sg i).cps.toList:=by intro x a;unfold sg at a;rw[An]at a;subst a;rw[BD,Al (by rw[bF];omega)];exact Dy _
def tD:∀{l:LK},(∀a∈l,dH a.cps.toList)->dH (Fc (A8 "") l).cps.toList
 | [],_=>λx d=>by
   have d:x∈([]:L8):=d;cases d
 |[a],h=>h a AW
 | a::b::r,h=>by
   have e:=tD (l:=b::r) λc f=>h c<|AD _ f
   intro x d;have d:x∈(a++A8 ""++Fc (A8 "") (b::r)).cps.toList:=d;rw[QV,QV,AY,AY]at d;rcases d with(d|d)|d
   ·exact h a AW x d
   ·have d:x∈([]:L8):=d;cases d
   ·exact e x d
def AfF(h:∀a∈l,dH a.cps.toList):dH (Fb (A8 "") l).cps.toList:=by show dH (Dx.Str.glued _ l).cps.toList;rw[StrLaws.glued_eq_join];exact tD h
def pl(d t:Int):Int:=((1+d / 11)*t+d%11)%11
def AjC:∀d:Fin 110,∀i j:Fin 11,pl (d.val:Nat) (i.val:Nat)=pl (d.val:Nat) (j.val:Nat)->i=j:=Np
def Agp{t:Int}(d0:0<=d)(d1:d<110)(t0:0<=t)(t1:t<11)(u0:0<=u)(u1:u<11)(h:pl d t=pl d u):t=u:=by let(d,rfl):=B9 d0;let(t,rfl):=B9 t0;let(u,rfl):=B9 u0;have:=AjC #[d,Nr] #[t,Nr] #[u,Nr] h;have:=congrArg Fin.val this;have:t=u:=this;rw[this]
def uD(d:Int):LS->Int
 |[]=>0
 |[t]=>pl d t
 |t::u::r=>min (pl d t) (uD d (u::r))
def aN(d:Int):∀{ps:LS},ps≠[]->∃t∈ps,uD d ps=pl d t
 |[],h=>absurd Y h
 |[t],_=>#[t,Nu,Y]
 | t::u::r,_=>by
   let(x,a,e):=aN d (ps:=u::r) Nu;rw[uD];rcases Int.le_total (pl d t) (uD d (u::r))with h|h
   ·exact#[t,Nu,Int.min_eq_left h]
   ·exact#[x,AD _ a,by rw[Int.min_eq_right h,e]]
def Ab7(d:Int):∀{ps:LS},∀t∈ps,uD d ps<=pl d t
 |[],t,h=>nomatch h
 |[t],u,h=>by rw[An.mp h];exact GB _
 | t::u::r,x,h=>by
   rw[uD];rcases AB.mp h with rfl|h
   ·exact Int.min_le_left _ _
   ·exact Int.le_trans (Int.min_le_right _ _) (Ab7 d (ps:=u::r) x h)
def Aif(h1:M∈ps.map (pl d))(h2:∀a∈ps.map (pl d),M<=a):M=uD d ps:=by
 let(t,c,rfl):=AE.mp h1;have b:ps≠[]:=λe=>by rw[e]at c;cases c
 let(u,f,e):=aN d b;have h:=Ab7 d t c;have g:=h2 _<|AH f;omega
def Good(z:Ay):Prop:=z.length<=1000/\∃a b c:L8,z.cps.toList=a++46::(b++46::c)/\46∉a/\46∉b/\46∉c
def Q4(z:Ay):L8:=z.cps.toList.takeWhile (·≠46)
def Sy(z:Ay):L8:=((z.cps.toList.reverse.dropWhile (·≠46)).drop 1).reverse
def Ack(h:46∉w):(w++46::r).dropWhile (·≠46)=46::r:=by
 induction w with
 |nil=>simp
 |cons x w a=>
   rw[AB,not_or]at h;have:x≠46:=λe=>h.1 e.symm
   have a:=a h.2;simp at a;simp[this,a]
def sI(h:z.cps.toList=a++46::r)(ha:46∉a):Q4 z=a:=by unfold Q4;rw[h];exact Aey ha
def sJ(h:z.cps.toList=a++46::r)(hr:46∉r):Sy z=a:=by unfold Sy;rw[h,List.reverse_append,Jj,CF];have:=Ack (w:=r.reverse) (r:=a.reverse) (by simpa using hr);rw[show r.reverse++([46]++a.reverse)=r.reverse++46::a.reverse by simp,this];simp
structure Qd(Hs:QI):Prop where
 nd:(Hs.map (·.1)).Nodup
 ne:∀e∈Hs,e.2≠[]
 Aon:∀e∈Hs,∀t∈e.2,0<=t/\t<11
 Afl:∀e∈Hs,∀e'∈Hs,e.1≠e'.1->∀t∈e.2,t∉e'.2
 len:∀e∈Hs,e.2.length<=11
 bU:Hs.length<=30
 good:∀e∈Hs,Good e.1
def Ans(Hs:QI)(n:Ay):LS:=((Hs.find? λe=>decide<|e.1=n).map (·.2)).getD []
def yD(Hs:QI)(d:Int)(n:Ay):Int:=uD d (Ans Hs n)
def nO:∀{Hs:QI},(Hs.map (·.1)).Nodup->∀{e:Ay×LS},e∈Hs->Ans Hs e.1=e.2
 | x::Hs,nd,e,he=>by
   rw[Au,Bb]at nd;unfold Ans;rcases AB.mp he with rfl|h
   ·simp[D8]
   ·have a:x.1≠e.1:=λq=>nd.1 (q▸AH h)
    have:=nO nd.2 h;unfold Ans at this;rw[HM<|by simpa using a];exact this
def AfJ(h:Qd Hs)(d0:0<=d)(d1:d<110)(ha:a∈Hs.map (·.1))(hb:b∈Hs.map (·.1))(e:yD Hs d a=yD Hs d b):a=b:=by
 let(x,f,rfl):=AE.mp ha;let(y,c,rfl):=AE.mp hb;unfold yD at e;rw[nO h.nd f,nO h.nd c]at e;let(t,k,l):=aN d<|h.ne x f;let(u,j,m):=aN d<|h.ne y c;rw[l,m]at e;have g:=h.Aon x f t k;have i:=h.Aon y c u j;have:=Agp d0 d1 g.1 g.2 i.1 i.2 e;subst this;by_cases q:x.1=y.1
 ·exact q
 ·exact absurd j (h.Afl x f y c q t k)
def YY(Hs:QI)(d:Int):LK:=(Hs.map (·.1)).mergeSort λa b=>decide (yD Hs d a<=yD Hs d b)
def RU(Hs:QI)(d:Int):(YY Hs d).Perm (Hs.map (·.1)):=IM _ _
def Aga(Hs:QI)(d:Int):(YY Hs d).Pairwise λa b=>yD Hs d a<=yD Hs d b:=by have:=HA (le:=λa b=>decide<|yD Hs d a<=yD Hs d b) (λa b c e f=>by simp at e f ⊢;omega) (λa b=>by simp;omega) (Hs.map (·.1));exact this.imp λh=>by simpa using h
def Adt{Hs:QI}(h:Qd Hs){d:Int}(d0:0<=d)(d1:d<110){zs ws:LK}(p1:zs.Perm (Hs.map (·.1)))(p2:ws.Perm (Hs.map (·.1)))(s1:zs.Pairwise λa b=>yD Hs d a<=yD Hs d b)(s2:ws.Pairwise λa b=>yD Hs d a<=yD Hs d b):zs=ws:=(p1.trans p2.symm).eq_of_pairwise (λa b c e f g=>AfJ h d0 d1 (p1.mem_iff.mp c) (p2.mem_iff.mp e) Nr) s1 s2
def Aig(z:Ay)(tk:LK):Nat:=tk.countP λo=>decide (Q4 o=Q4 z)
def Ak5(z:Ay)(tk:LK):Nat:=tk.countP λo=>decide (Q4 o=Q4 z)&&decide (Sy o=Sy z)
def T2(tk:LK)(x y:Ay):Prop:=Aig x tk<Aig y tk\/(Aig x tk=Aig y tk/\Ak5 x tk<Ak5 y tk)
instance (tk:LK) (x y:Ay):Decidable (T2 tk x y):=by unfold T2;exact inferInstance
def XT(tk w:LK):Ay:=(w.filter λx=>w.all λy=>!decide (T2 tk y x)).headD ""
def Ajt{tk:LK}{i:Nat}(hx:w[i]?=U x)(h:∀j y,w[j]?=U y->¬ T2 tk y x/\(j<i->T2 tk x y)):XT tk w=x:=by
 unfold XT;have g:=(Ah.mp hx).1;have e:w=w.take i++x::w.drop (i+1):=by
  have f:w.drop i=x::w.drop (i+1):=by rw[EL g,(Ah.mp hx).2]
  rw[<-f,B5]
 have k:(w.take i).filter (λx=>w.all λy=>!decide (T2 tk y x))=[]:=by
  rw[List.filter_eq_nil_iff];intro y c;let(j,a):=Eh c;rw[List.getElem?_take]at a;split at a
  ·rename_i b;have:=(h j y a).2 b;simp;exact#[x,Av hx,this]
  ·cases a
 have d:(w.all λy=>!decide (T2 tk y x))=Af:=by rw[Bj];intro y c;let(j,a):=Eh c;have:=(h j y a).1;simpa using this
 have l:w.filter (λx=>w.all λy=>!decide (T2 tk y x))=(w.take i++x::w.drop (i+1)).filter (λx=>w.all λy=>!decide (T2 tk y x)):=by rw[<-e]
 rw[l,DI,k,DQ (p:=λx=>w.all λy=>!decide _) d];rfl
def TV:Nat->LK->LK->LK
 |0,_,tk=>tk
 |m+1,w,tk=>if w=[]then tk else TV m (w.erase<|XT tk w) (tk++[XT tk w])
def RZ(m:Nat)(tk:LK):TV m [] tk=tk:=by
 cases m with
 |zero=>rfl
 |succ m=>rw[TV,Az Y]
def Rf{tk:LK}(h:w≠[]):TV (m+1) w tk=TV m (w.erase<|XT tk w) (tk++[XT tk w]):=by rw[TV,Aq h]
def OT(Hs:QI)(d:Int)(m:Nat):LK:=TV m (YY Hs d) []
def qB:∀{w:LK}{i:Nat}{x:Ay},w.Nodup->w[i]?=U x->w.eraseIdx i=w.erase x
 | y::w,0,x,_,h=>by
   have h:y=x:=by simpa using h
   subst h;simp
 | y::w,i+1,x,nd,h=>by
   have h:w[i]?=U x:=by simpa using h
   rw[Bb]at nd;have a:y≠x:=λe=>nd.1<|e▸Av h
   rw[CD,List.erase_cons,Aq (by simpa using a),qB nd.2 h]
 |[],_,_,_,h=>by simp at h
def Al2{w:LK}{i j:Nat}{x:Ay}(nd:w.Nodup)(h1:w[i]?=U x)(h2:w[j]?=U x):i=j:=by let(c,a):=Ah.mp h1;let(d,b):=Ah.mp h2;exact(E6 nd).mp (a.trans b.symm)
def xB.at{K:Ab}{H:Hp}{Hs:QI}(h:xB K H Hs v5){i:Nat}{e:Ay×LS}(he:Hs[i]?=U e):∃t,v5[i]?=U (.inr e.1,.ref t)/\RE K H t (e.2.map V.int):=by
 have c:=h.len;have b:i<v5.length:=by rw[c];exact(Ah.mp he).1
 let(g,t,a,d,f):=h.get<|Al b;rw[he]at a;cases a;exact#[t,by rw[Al b,d],f]
def xB.keys{K:Ab}{H:Hp}{Hs:QI}(h:xB K H Hs v5):v5.map (·.1)=(Hs.map (·.1)).map C1:=by
 refine ET λi=>?_
 rw[Ag,Ag,Ag];cases e:Hs[i]? with
 |none=>
   have:v5.length<=i:=by rw[h.len];exact EK.mp e
   rw[BQ this];rfl
 |some x=>let(t,a,_):=h.at e;rw[a];rfl
def AfX{l:LK}(h:l.Nodup):(l.map (C1:Ay->Key)).Nodup:=by rw[EC,CB];exact(EC.mp h).imp λh q=>h (by injection q)
def xB.val{K:Ab}{H:Hp}{Hs:QI}{v5:LP}(h:xB K H Hs v5)(nd:(Hs.map (·.1)).Nodup){e:Ay×LS}(he:e∈Hs):∃t,PV v5 (.inr e.1)=U (.ref t)/\RE K H t (e.2.map V.int):=by let(i,b):=Eh he;let(t,a,c):=h.at b;exact#[t,Ag8 (by rw[h.keys];exact AfX nd)<|Av a,c]
def Abh{Hs:QI}(h:Qd Hs){d:Int}(d0:0<=d)(d1:d<110){ms:MF}(p:ms.Perm ((Hs.map λe=>uD d e.2).zip (Hs.map (·.1))))(s:ms.Pairwise λx y=>x.1<=y.1):ms.map (·.2)=YY Hs d:=by
 have c:(Hs.map λe=>uD d e.2).zip (Hs.map (·.1))=Hs.map λe=>(uD d e.2,e.1):=by rw[List.zip_map']
 rw[c]at p;have a:∀x∈ms,x.1=yD Hs d x.2:=λx b=>by
  let(e,f,rfl):=AE.mp<|p.mem_iff.mp b;show uD d e.2=uD d _;rw[nO h.nd f]
 refine Adt h d0 d1 ?_ (RU Hs d) ?_<|Aga Hs d
 ·have:=p.map (·.2);rw[As]at this;exact this
 ·rw[CB];exact s.imp_of_mem λ{x y}b g q=>by rw[<-a x b,<-a y g];exact q
def Af9(h:Qd Hs)(d:Int):(YY Hs d).Nodup:=(RU Hs d).nodup_iff.mpr h.nd
def XS(Hs:QI)(d:Int):(YY Hs d).length=Hs.length:=by rw[(RU Hs d).length_eq,Ac]
def Abe(h:Qd Hs)(hz:z∈YY Hs d):Good z:=by let(e,a,rfl):=AE.mp<|(RU Hs d).mem_iff.mp hz;exact h.good e a
def bC{zs:LK}{i:Nat}{x:V}(h:(zs.map V.str)[i]?=U x):∃z,zs[i]?=U z/\x=.str z:=by
 rw[Ag]at h;cases e:zs[i]? with
 |none=>rw[e]at h;cases h
 |some z=>rw[e]at h;cases h;exact#[z,Y,Y]
def Afx{zs:LS}{i:Nat}(h:(zs.map V.int)[i]?=U x):∃z,zs[i]?=U z/\x=.int z:=by
 rw[Ag]at h;cases e:zs[i]? with
 |none=>rw[e]at h;cases h
 |some z=>rw[e]at h;cases h;exact#[z,Y,Y]
def cY(tk:LK)(x:Ay):¬ T2 tk x x:=by unfold T2;omega
def qU(tk:LK):∀{w:LK},w≠[]->∃x∈w,∀y∈w,¬ T2 tk y x
 |[],h=>absurd Y h
 |[x],_=>#[x,Nu,λy c=>by rw[An.mp c];exact cY tk x]
 | x::y::r,_=>by
   let(z,d,b):=qU tk (w:=y::r) Nu;by_cases h:T2 tk x z
   ·refine #[x,Nu,λu a=>?_];rcases AB.mp a with rfl|a
    ·exact cY tk _
    ·intro q;refine b u a ?_;unfold T2 at h q ⊢;omega
   ·refine#[z,AD _ d,λu a=>?_];rcases AB.mp a with rfl|a
    ·exact h
    ·exact b u a
def Adv(tk:LK)(h:w≠[]):XT tk w∈w/\∀y∈w,¬ T2 tk y (XT tk w):=by
 let(x,g,f):=qU tk h;have d:x∈w.filter λx=>w.all λy=>!decide (T2 tk y x):=by rw[Bp];refine#[g,?_];rw[Bj];intro y b;simpa using f y b
 have c:XT tk w∈w.filter λx=>w.all λy=>!decide (T2 tk y x):=by
  unfold XT;cases e:w.filter λx=>w.all λy=>!decide (T2 tk y x)with
  |nil=>rw[e]at d;cases d
  |cons a l=>simp
 rw[Bp,Bj]at c;exact#[c.1,λy b=>by simpa using c.2 y b]
def nM(tk:LK)(h:w≠[]):XT tk w∈w:=(Adv tk h).1
def qG:∀(m:Nat)(w tk:LK),(TV m w tk).length=tk.length+min m w.length
 |0,w,tk=>by rw[TV];omega
 | m+1,w,tk=>by
   by_cases h:w=[]
   ·rw[h,RZ,CG];omega
   ·rw[Rf h,qG m,AN,BF,Cj<|nM tk h];have:=C5.mpr h;omega
def jS:∀(m M:Nat)(w tk:LK),m<=M->TV m w tk=(TV M w tk).take (tk.length+m)
 | 0,M,w,tk,_=>by
   rw[TV,Ky];have b:∀(M:Nat)(w tk:LK),tk <+: TV M w tk:=λM=>by
    induction M with
    |zero=>intro w tk;rw[TV];exact Jq _
    |succ M ih=>
      intro w tk;by_cases h:w=[]
      ·rw[h,RZ];exact Jq _
      ·rw[Rf h];exact(List.prefix_append _ _).trans (ih _ _)
   exact(List.prefix_iff_eq_take.mp<|b M w tk)
 | m+1,M+1,w,tk,h=>by
   by_cases a:w=[]
   ·rw[a,RZ,RZ,HI Nr]
   ·rw[Rf a,Rf a,jS m M _ _ Nr,AN,BF]
    congr 1
    omega
def jR:∀(m:Nat)(w tk:LK),w.length<=m->(TV m w tk).Perm (tk++w)
 | 0,w,tk,h=>by
   rw[TV,Cm.mp<|Nat.le_zero.mp h,Br]
 | m+1,w,tk,h=>by
   by_cases a:w=[]
   ·rw[a,RZ,Br]
   ·rw[Rf a];have b:=nM tk a;have:=jR m (w.erase<|XT tk w) (tk++[XT tk w]) (by rw[Cj b];omega);refine this.trans ?_;rw[CF,List.singleton_append];exact(Iy b).symm.append_left tk
def qH:∀(m:Nat)(w tk:LK),∀z∈TV m w tk,z∈tk\/z∈w
 |0,w,tk,z,h=>.inl (by rw[TV]at h;exact h)
 | m+1,w,tk,z,h=>by
   by_cases a:w=[]
   ·rw[a,RZ]at h;exact .inl h
   ·rw[Rf a]at h;rcases qH m _ _ z h with h|h
    ·rcases AY.mp h with h|h
     ·exact .inl h
     ·rw[An.mp h];exact .inr<|nM tk a
    ·exact .inr (Ih h)
def UW(Hs:QI)(d:Int)(m:Nat):(OT Hs d m).length=min m Hs.length:=by unfold OT;rw[qG,XS,CG,Ez]
def AaE(Hs:QI)(d:Int)(h:m<=M):OT Hs d m=(OT Hs d M).take m:=by unfold OT;rw[jS m M _ _ h,CG,Ez]
def jN(Hs:QI)(d:Int)(h:Hs.length<=m):(OT Hs d m).Perm (Hs.map (·.1)):=by have:=jR m (YY Hs d) [] (by rw[XS];exact h);exact this.trans (RU Hs d)
def Acg(h:z∈OT Hs d m):z∈Hs.map (·.1):=by
 rcases qH m _ _ z h with h|h
 ·cases h
 ·exact(RU Hs d).mem_iff.mp h
def Xq(ho:Qd Hs)(d:Int)(m:Nat):(OT Hs d m).Nodup:=by
 rcases Nat.le_total _ m with h|h
 ·exact(jN Hs d h).nodup_iff.mpr ho.nd
 ·rw[AaE Hs d h];exact((jN Hs d<|Ap _).nodup_iff.mpr ho.nd).sublist (Ji _ _)
def Ao5{D:Ends}{J σ':St}{H:Hp}(e:J=σ')(h:D.nx σ' H):D.nx J H:=by rw[e];exact h
def dd(l:LK):LK:=l.foldl (λs z=>if z∈s then s else s++[z]) []
structure QT(Hs:QI):Prop where
 nd:(Hs.map (·.1)).Nodup
 AbU:∀e∈Hs,∀x∈e.2,(0:Int)<=x/\x<11
 one:∀e∈Hs,e.2.Nodup
 inc:∀e∈Hs,e.2.Pairwise (·<=·)
 ne:∀e∈Hs,e.2≠[]
 Afl:∀e∈Hs,∀f∈Hs,∀x,x∈e.2->x∈f.2->e.1=f.1
def AhE{l:LS}(nd:l.Nodup)(h:∀x∈l,(0:Int)<=x/\x<11):l.length<=11:=by
 have:(l.map Int.toNat).length<=(Ba 11).length:=AhS
  (CB.mpr<|Hr.imp_of_mem (λ{a b}c f d=>by have:=h a c;have:=h b f;omega) nd) λa c=>by
   let(x,e,rfl):=AE.mp c;have:=h x e;rw[Ci];omega
 simpa using this
def QT.len{Hs:QI}(h:QT Hs):∀e∈Hs,e.2.length<=11:=λe a=>AhE (h.one e a) (h.AbU e a)
def Aam(Hs:QI):LS:=Hs.flatMap (·.2)
def xE:∀{Hs:QI},QT Hs->(Aam Hs).Nodup
 |[],_=>FC
 | e::Hs,h=>by
   have i:QT Hs:=#[(Bb.mp h.nd).2,λf c=>h.AbU f<|AD _ c,λf c=>h.one f<|AD _ c,λf c=>h.inc f<|AD _ c,λf c=>h.ne f<|AD _ c,λf c g m=>h.Afl f (AD _ c) g<|AD _ m];have j:=xE i;show(e.2++Aam Hs).Nodup;rw[CC];refine#[h.one e AW,j,λa k b l d=>?_];subst d;let(f,c,n):=Jr.mp l;have:=h.Afl e AW f (AD _ c) a k n;exact(Bb.mp h.nd).1 (by show e.1∈_;rw[this];exact AH c)
def Ab4(h:QT Hs):∀x∈Aam Hs,(0:Int)<=x/\x<11:=λx a=>by
 let(f,b,a):=Jr.mp a;exact h.AbU f b x a
def Ab3{Hs:QI}(h:QT Hs):(Aam Hs).length<=11:=AhE (xE h) (Ab4 h)
def qV:∀{Hs:QI},(∀e∈Hs,e.2≠[])->Hs.length<=(Aam Hs).length
 |[],_=>Ap _
 | e::Hs,h=>by
   have b:=qV (Hs:=Hs) λf a=>h f<|AD _ a
   have:=C5.mpr<|h e AW;show Hs.length+1<=(e.2++Aam Hs).length;rw[AN];omega
def QT.bU(h:QT Hs):Hs.length<=11:=AL (qV h.ne) (Ab3 h)
def vP(Hs:QI)(p:Int):Mt:=(Hs.find? λe=>decide<|p∈e.2).map (·.1)
def Abg:vP Hs p=none↔∀e∈Hs,p∉e.2:=by
 unfold vP;constructor
 ·simpa using h e he
 ·simpa using h e he
def kN{n:Ay}(h:vP Hs p=U n):∃e∈Hs,p∈e.2/\e.1=n:=by let(e,a,rfl):=AA.mp h;exact#[e,Cc a,by simpa using Fo a,Y]
def yQ(t:QT Hs)(he:e∈Hs)(hp:p∈e.2):vP Hs p=U e.1:=by
 cases q:vP Hs p with
 |none=>exact absurd hp<|Abg.mp q e he
 |some n=>let(f,a,b,rfl):=kN q;rw[t.Afl f a e he p b hp]
def Abf(Hs:QI)(h:Ay)(p:Int):Mt:=(Hs.find? λe=>decide (e.1≠h)&&decide (p∈e.2)).map (·.1)
def Agc(t:QT Hs)(h:Ay)(p:Int):Abf Hs h p=(vP Hs p).filter λn=>decide (n≠h):=by
 cases q:Abf Hs h p with
 |some n=>let(e,a,rfl):=AA.mp q;have b:=Fo a;simp only[Be,Bx]at b;rw[yQ t (Cc a) b.2,Iw,Az<|by simpa using b.1]
 |none=>
   unfold Abf at q;rw[E4,BX]at q;cases w:vP Hs p with
   |none=>rfl
   |some n=>
     let(e,a,c,rfl):=kN w;have:=q e a;simp only[Be,Bx,not_and]at this;have:=Classical.byContradiction λz=>this z c
     rw[Iw,Aq<|by simpa using this]
def cT(l:LS):LS:=l.mergeSort λa b=>decide (a<=b)
def R0(l:LS):(cT l).Perm l:=IM _ _
def jU(l:LS):(cT l).Pairwise (·<=·):=by have:=HA (le:=λa b:Int=>decide<|a<=b) (λa b c d e=>by simp only[Bx]at *;omega) (λa b=>by simp only[GC,Bx];omega) l;exact this.imp λh=>by simpa using h
def AcG(p:ms.Perm l)(s:ms.Pairwise (·<=·)):ms=cT l:=Gu (λa b _ _ c d=>Nr) s (jU l) (p.trans (R0 l).symm)
def uZ(s:l.Pairwise (·<=·)):cT l=l:=(AcG (K4.refl l) s).symm
def iH(Hs:QI)(n:Ay)(ps:LS):QI:=if(Hs.any λe=>decide<|e.1=n)=Af then Hs.map (λe=>if e.1=n then(e.1,ps)else e)else Hs++[(n,ps)]
def pP{Hs:QI}{n:Ay}:(Hs.any λe=>decide<|e.1=n)=Af↔n∈Hs.map (·.1):=by simp
def QX{Hs:QI}{n:Ay}{ps:LS}{e:Ay×LS}(h:e∈iH Hs n ps):(e∈Hs/\e.1≠n)\/e=(n,ps):=by
 unfold iH at h;split at h
 ·let(f,a,rfl):=AE.mp h;by_cases q:f.1=n
  ·right;rw[Az q,q]
  ·left;rw[Aq q];exact#[a,q]
 ·rename_i b;rcases AY.mp h with h|h
  ·exact .inl #[h,λz=>b<|pP.mpr<|z▸AH h]
  ·exact .inr (by simpa using h)
def AgB{Hs:QI}{n:Ay}{ps:LS}(h:(Hs.map (·.1)).Nodup):((iH Hs n ps).map (·.1)).Nodup:=by
 unfold iH;split
 ·have e:(Hs.map λe=>if e.1=n then(e.1,ps)else e).map (·.1)=Hs.map (·.1):=by
   rw[As];refine A4 λe _=>?_
   show(if e.1=n then(e.1,ps)else e).1=e.1;split<;>rfl
  rw[e];exact h
 ·rename_i g;rw[AU,CC];refine#[h,Nu,λa f b d c=>?_];rw[Au,B6,An]at d;subst c d;exact g (pP.mpr f)
def QT.put(h:QT Hs){n:Ay}(r:∀x∈ps,(0:Int)<=x/\x<11)(o:ps.Nodup)(ne:ps≠[])(ha:∀p∈ps,Abf Hs n p=none):QT (iH Hs n<|cT ps):=by
 have d:∀e∈Hs,e.1≠n->∀x∈cT ps,x∉e.2:=λe a g x b i=>by
  have:=ha x<|(R0 ps).mem_iff.mp b;rw[Agc h,yQ h a i]at this;simp[g]at this
 refine#[AgB h.nd,λe a x b=>?_,λe a=>?_,λe a=>?_,λe a=>?_,λe a f j x b c=>?_]
 ·rcases QX a with⟨q,_⟩|rfl
  ·exact h.AbU e q x b
  ·exact r x<|(R0 ps).mem_iff.mp b
 ·rcases QX a with⟨q,_⟩|rfl
  ·exact h.one e q
  ·exact(R0 ps).nodup_iff.mpr o
 ·rcases QX a with⟨q,_⟩|rfl
  ·exact h.inc e q
  ·exact jU ps
 ·rcases QX a with⟨q,_⟩|rfl
  ·exact h.ne e q
  ·intro z;have:=(R0 ps).length_eq;rw[show cT ps=[]from z]at this;exact ne<|Cm.mp this.symm
 ·rcases QX a with⟨q,l⟩|rfl
  ·rcases QX j with⟨r,k⟩|rfl
   ·exact h.Afl e q f r x b c
   ·exact absurd b<|d e q l x c
  ·rcases QX j with⟨r,k⟩|rfl
   ·exact absurd c<|d f r k x b
   ·rfl
def QT.nil:QT []:=#[Nu,Nu,Nu,Nu,Nu,Nu]
def AkZ:("abcdefghijklmnopqrstuvwxyz0123456789":Ay).cps.toList=Gs 97 26++Gs 48 10:=Np
def low(c:Nat):Bool:=(decide (97<=c)&&decide (c<=122))||(decide (48<=c)&&decide (c<=57))
def aS(z:Ay):Bool:=(decide (1<=z.length)&&decide (z.length<=8))&&z.cps.toList.all low
def AfC:V->Bool
 |.str z=>aS z
 |_=>Am
def AlE(c:Nat):(!(Dw "abcdefghijklmnopqrstuvwxyz0123456789" ⟨(zTo [c])⟩ 0 ("abcdefghijklmnopqrstuvwxyz0123456789":Ay).length 1).isEmpty)=low c:=by rw[StrLaws.found_one,AkZ];unfold low;rw[BN];simp only[Bx,AY,Ga,GC,Be];omega
def U1(l:L8):Bool:=(decide (1<=l.length)&&decide (l.length<=8))&&l.all low
def AiI(z:Ay):aS z=U1 z.cps.toList:=by rfl
def gF(z:Ay):Bool:=decide ((OX 46 z.cps.toList).length=3)&&(OX 46 z.cps.toList).all U1
def Afy:V->Bool
 |.str z=>gF z
 |_=>Am
def xF{ws:LK}{z:Ay}(h:ws.map (·.cps.toList)=OX 46 z.cps.toList):(decide (ws.length=3)&&ws.all aS)=gF z:=by unfold gF;rw[<-h,Ac,Ck];rw[show(U1∘λs:Ay=>s.cps.toList)=aS from funext λs=>(AiI s).symm]
def AcW{ws:LK}{z:Ay}(h:ws.map (·.cps.toList)=OX 46 z.cps.toList)(hz:z.length<=1000):∀w∈ws,w.length<=1000:=λw a=>by
 have:w.cps.toList∈OX 46 z.cps.toList:=by rw[<-h];exact AH a
 have:=(lA this).2;exact AL this hz
def ApT:low 46=Am:=Nq
def VN(h:U1 l=Af):46∉l:=λq=>by
 unfold U1 at h;simp only[Be,Bj]at h;have:=h.2 46 q;cases this
def Afz(e:z.cps.toList=a++46::(b++46::c))(ha:U1 a=Af)(hb:U1 b=Af)(hc:U1 c=Af):gF z=Af:=by unfold gF;rw[e,T6<|VN ha,T6<|VN hb,Vv<|VN hc];simp[ha,hb,hc]
def AfA{z:Ay}{a b c:L8}(e:z.cps.toList=a++46::(b++46::c))(ha:U1 a=Af)(hb:U1 b=Af)(hc:U1 c=Af):z.length<=26:=by have h:z.cps.toList.length=z.length:=Bt;rw[<-h,e];unfold U1 at ha hb hc;simp only[Be,Bx]at ha hb hc;simp only[AN,AM];omega
def vN{a b:Ay}(ha:dH a.cps.toList)(hb:dH b.cps.toList):dH (a++b).cps.toList:=λx c=>by
 rw[QV]at c;rcases AY.mp c with h|h
 ·exact ha x h
 ·exact hb x h
end L2
namespace HT
open PySem PyProof.Rows
end HT
namespace L2
open PySem PySem.Spec PyProof.Rows
def num(ln:List (Ay×Nat))(z:Ay):Nat:=((ln.find? λe=>decide<|e.1=z).map (·.2)).getD 0
instance (a b:Ay):Decidable (AeU a b):=by unfold AeU;exact inferInstance
section
open Builtin.Str
def Ai4(h:c∈WS.cps.toList):low c=Af:=by rw[Akr,AY,Ga,Ga]at h;unfold low;simp only[GC,Be,Bx];omega
def mZ(o:dH l)(h1:1<=l.length)(h8:l.length<=8):U1 l=Af:=by unfold U1;simp only[Be,Bx,Bj];exact#[#[h1,h8],λc a=>Ai4<|o c a]
def Afn:(A8 ".").cps.toList=[46]:=by rw[uL]
def Agb{n:Ay}(no:∀e∈Hs,¬ (e.1≠n/\q∈e.2)):Abf Hs n q=none:=by
 unfold Abf;rw[BX.mpr]
 ·rfl
 ·intro x a z;simp only[Be,Bx]at z;exact no x a z
end
end L2
namespace Sh
end Sh
namespace L2
open PySem PySem.Spec PyProof.Rows
section
open Sh
end
section
variable{X:Cx}
def Amt(K:Ab):R2:=λx y H Q=>∃a b xs ys,x=.ref a/\y=.ref b/\RE K H a xs/\RE K H b ys/\xs.length+ys.length<=sizeLine /\
 (xs=[]->Q (.ref b) H)/\(xs≠[]->ys=[]->Q (.ref a) H)/\(xs≠[]->ys≠[]->∀p,H p=none->Q (.ref p) (upd H p<|.tup<|xs++ys))
def Af5{K₀:Ab}{N4:Hp}[hK:Ol X K₀ N4]:TM X (Cv .Add) (Amt K₀):=by
 let(rfl,rfl):=hK;intro c s J H x y v u Q I t w h;let(a,b,r,O,rfl,rfl,z,m,L,D,K,S):=h;by_cases d:r=[]
 ·cases t;cases w;let(j0,F,M,_):=I.tuple z;let(A,T,E,_):=I.tuple m;let((C,N,o,G),q,R,n,B):=id M;let((p,i,l,k),e,j,P,f):=id E;subst R B j f;have g:=F.aU.mpr d;exact GH #[_,q,Y] #[_,e,Y] G1 IG EZ ER (EF _ _) (tuple_addW0 a b _ _ n P N i G k<|by simp[g]) #[q,e,#[.ref b,H,I,Y,D d]]
 ·exact Af7 c s J H _ _ v u Q I t w #[a,b,r,O,Y,Y,z,m,d,L,K d,S d]
end
def QT.push{Hs:QI}(ok:QT Hs){n:Ay}{old:LS}{i:Nat}(i11:i<11)(low:∀e∈Hs,∀x∈e.2,x<(i:Int))(ho:(n,old)∈Hs\/old=[]):QT (iH Hs n<|old++[(i:Int)]):=by
 have j:∀x∈old,x<(i:Int):=λx a=>by
  rcases ho with h|rfl
  ·exact low _ h x a
  ·cases a
 have l:∀x∈old,(0:Int)<=x/\x<11:=λx a=>by
  rcases ho with h|rfl
  ·exact ok.AbU _ h x a
  ·cases a
 have f:(old++[(i:Int)]).Pairwise (·<=·):=by
  rw[Iz];refine#[?_,Nu,λx a y d=>?_]
  ·rcases ho with h|rfl
   ·exact ok.inc _ h
   ·simp
  ·rw[An.mp d];have:=j x a;omega
 have k:(old++[(i:Int)]).Nodup:=by
  rw[CC];refine#[?_,Nu,λx a y d=>?_]
  ·rcases ho with h|rfl
   ·exact ok.one _ h
   ·simp
  ·rw[An.mp d];have:=j x a;omega
 have c:=ok.put (n:=n) (ps:=old++[(i:Int)]) (λx a=>by
  rcases AY.mp a with h|h
  ·exact l x h
  ·rw[An.mp h];omega) k Nu (λp c=>Agb λe g b=>by
  rcases AY.mp c with h|h
  ·rcases ho with m|rfl
   ·exact b.1<|ok.Afl e g _ m p b.2 h
   ·cases h
  ·rw[An.mp h]at b;have:=low e g _ b.2;omega)
 rwa[uZ f]at c
def Ad3{Hs:QI}{n:Ay}{old:LS}{i:Nat}(low:∀e∈Hs,∀x∈e.2,x<(i:Int))(ho:(n,old)∈Hs\/old=[]):∀e∈iH Hs n (old++[(i:Int)]),∀x∈e.2,x<((i+1:Nat):Int):=λe b x a=>by
 rcases QX b with⟨h,_⟩|rfl
 ·have:=low e h x a;omega
 ·rcases AY.mp a with h|h
  ·rcases ho with c|rfl
   ·have:=low _ c x h;omega
   ·cases h
  ·rw[An.mp h];omega
section
variable{X:Cx}
def vW:LM->Hp->VK->Prop:=λxs H Q=>∃(p:Ae)(v5:LP)(ns:LS),xs=[.ref p]/\Rd H p (.dK v5)/\v5.map (·.1)=ns.map Cb/\ns.length<64 /\
  ∀(ms:LS)l,ms.Perm ns->ms.Pairwise (·<=·)->H l=none->Q (.ref l) (upd H l<|.lst<|ms.map V.int)
def gK(hc:X.calm=Af):QA X (.builtin "sorted") vW:=by
 intro v s J H xs us Q I r h;let(p,g,A,rfl,y0,q,aa,k):=h;let(u,rfl,ru):=vals1 r;cases ru;let(z,O,vs,t,dd):=QW I.Oj y0;have hl:=AJ t;have Z:g.length=A.length:=by have:=congrArg Dt q;simpa using this
 let(ep,D):=dd.dictAt;refine EG Hn GO GQ (Jh _) ?_;refine Ad<|wpAny_pure ?_;refine Ad<|Ec (D1 O) (I.ok.hd hc) D Nr λG u9 c S a=>?_
 have hS:CL c.toList A:=by
  refine intsAre_of<|QS (by have:=a.1;simp only[Ac,Bt];omega) λi x u y L=>?_
  rw[Cu]at L;let(m,w,B,C):=a.2 i u L;rw[Ag]at y;cases f:A[i]? with
  |none=>rw[f]at y;cases y
  |some n=>
    rw[f]at y;cases y;have hi:i<g.length:=by have:=(Ah.mp f).1;omega
    let(V,v',W,e1,K,_):=t.get hi;rw[B]at K;obtain⟨rfl,rfl⟩:m=V/\w=W:=by simpa using K
    have:=congrArg (λl=>l[i]?) q;rw[Ag,Ag,e1,f]at this;have:m=Cb n:=by simpa using this
    subst this;exact XI C
 have T:c.toList.length=A.length:=by rw[Bt,a.1];omega
 refine Ad<|Dr ?_ Nr;have F:Inv X v J H {s with heap:=G,toks:=u9}:=I.kept S;have d:(G.push<|seqObj "list" c.toList.toArray 0).get? _=U _:=AR _ Y;refine Ad<|BH<|El FY #[_,d,Y] FI (K2 d hS Nr λE N P M R=>#[_,Y,?_])<|Ie _;refine wpAny_pure #[_,Y,?_];have hn:=F.fresh;let(e,f):=IL d;have hm:=M.length_eq;refine#[.ref _,_,F.laid (o:=.lst _) (λb o j0=>?_) (Ap _) #[?_,E.toList,e,V6 P,?_],Y,k N _ M R hn]
 ·have j:=AO j0;rw[Ia (A9 j) (by rw[Ib];exact EW j)];exact Aj _ j0
 ·rw[Ac];omega
 ·exact f
end
section
variable{prog:Bn}{w:Bw}{A:BS}{E:Ai->Ax->Prop}{s:Ax}{K:Type}[DecidableEq K]{knd:KeyKind prog w K}
def Aed{n:Nat}(hn:n<=5)(ho:s.heap.get? a=U {cls:=.type "set",dict:=none,data:=.set #[] 0 (.fresh 0 0 led)})(h:∀h',De a s.heap h'->h'.SetOf knd a (λ_=>Am) 0->Q () {s with heap:=h'}):AZ (A7 prog w) A (setRoomFor a n) Q E s:=by
 unfold setRoomFor;refine Ad<|JX ho Y (by cases led<;>decide) ?_;by_cases h5:n=5
 ·subst h5;have e:(CK 0 0 led).roomFor 5=U 10:=by cases led<;>decide
  dsimp only;rw[e];show AZ _ _ (setRelay a 10) _ _ _;unfold setRelay;refine Ad<|JX ho Y (by cases led<;>decide) ?_;dsimp only;have e3:¬ (KW.sizeAbove 10>sizeLine):=Nq;rw[Aq e3];have e4:(CK 0 0 led).relaid (KH (λ(x:Int×Ai)=>x.1) #[]) 10=U ({CK 0 ((CK 0 0 led).movedTo 15) led with mask:=15},#[]):=by cases led<;>kernel_rfl
  show AZ _ _ (_ >>= _) _ _ _;rw[e4];show AZ _ _ (storeSet a #[] {CK 0 ((CK 0 0 led).movedTo 15) led with mask:=15}) _ _ _;refine wpAny_storeSet_of ho Y ?_ Nq;let(_,hS):=SetOf_store (knd:=knd) (S':=λ_=>Am) ho #[Y,Y,Y] Y (es':=#[]) (t':={CK 0 ((CK 0 0 led).movedTo 15) led with mask:=15}) (λe he=>by cases he) (λk=>#[λq=>(by cases q),λ⟨e,he,_⟩=>(by cases he)]) Nq (by cases led<;>kernel_rfl);exact h _ (BW _ a _) hS
 ·have e:(CK 0 0 led).roomFor n=none:=by
   have:n=0\/n=1\/n=2\/n=3\/n=4:=Nr;rcases this with rfl|rfl|rfl|rfl|rfl<;>cases led<;>decide
  dsimp only;rw[e];refine wpAny_pure ?_;have e2:s={s with heap:=s.heap}:=by cases s;rfl
  rw[e2];exact h s.heap (De.refl _ _) ((PyProof.Rows.setObjOf_fresh (knd:=knd) led).setOf ho Nq)
def set_dict (hd:s.heap.DictOf knd d vs) (hsc:∀ k u,knd.is k u=true->u.scannable=true) (hn:vs.length<=5) (hm:(d == sysModules)=false)
  (h:∀ (h':Heap),h'.SetOf knd s.heap.objs.size (fun z=>decide (z∈vs.map (·.1))) vs.length->(∀ b o,b < s.heap.objs.size->s.heap.get? b=some o->h'.get? b=some o)->s.heap.objs.size < h'.objs.size->Q (.ref s.heap.objs.size) {s with heap:=h'}):
  wpAny (model prog w) A (call (.type "set") [.ref d]) Q E s:=by
 obtain ⟨c,tl,av⟩:=F.called_set.mro;have aa:=F.called_set.made;have ar:=F.called_set.sub;refine wpAny_call<|codeAny_of_tree ?_;show wpAny _ _ (callAny (.type "set") _) _ _ _;refine wpAny_pure #[Code.quiet_builtin _ (by decide +kernel),codeAny_builtin F.entry_type_call ?_];rw[Around.under_plain (weight_type_call_type "set" [.ref d] []) Y];have h1:=F.called_set.notType;have u9:=F.called_set.canCreate;have az:=F.typeCall_set_1<|.ref d
 repeat (any_goals (first | assumption | wp_step))
 refine codeAny_mono (code_set_new_1 (.ref d) (E:=E) (Q₁:=fun X au=>∃ f:Bool,X=.ref s.heap.objs.size/\au={s with heap:=s.heap.push {cls:=.type "set",dict:=none,data:=.set #[] 0 (.fresh 0 0 f)}}) fun f=>#[f,Y,Y]) fun r au C=>?_
 cases r with
 |error e=>exact C
 |ok fl=>
   cases fl with
   |ret X=>
     obtain ⟨f,rfl,rfl⟩:=C;have hS:(s.heap.push {cls:=.type "set",dict:=none,data:=.set #[] 0 (.fresh 0 0 f)}).get? s.heap.objs.size=some {cls:=.type "set",dict:=none,data:=.set #[] 0 (.fresh 0 0 f)}:=Heap.get?_push_size _ Y;have hT:Shared.TypeIs {s with heap:=s.heap.push {cls:=.type "set",dict:=none,data:=.set #[] 0 (.fresh 0 0 f)}} (.ref s.heap.objs.size) "set":=#[_,hS,Y];have a0:=F.called_set.init.lookup;have ay:=F.called_set.init.bind<|.ref s.heap.objs.size
     repeat (any_goals (first | assumption | wp_step))
     refine codeAny_mono (codeAny_call_builtin (R:=wants (fun r ap=>r=.none/\∃ h',ap={s with heap:=h'}/\h'.SetOf knd s.heap.objs.size (fun z=>decide (z∈vs.map (·.1))) vs.length/\(∀ b o,b < s.heap.objs.size->s.heap.get? b=some o->h'.get? b=some o)) E) F.called_set.init.plain F.entry_set_init<|check_set_init_1 hT ?_) fun aw ap M=>?_
     ·obtain ⟨od,g,ep,B,ai,T,L,l,ah⟩:=hd;obtain ⟨al,j0,ab,G⟩:=od;obtain ⟨y0,p⟩:=ai;simp only at y0 T;subst y0;subst T;have am:(s.heap.push {cls:=.type "set",dict:=none,data:=.set #[] 0 (.fresh 0 0 f)}).get? d=some {cls:=.type "dict",dict:=j0,data:=.dict g ep,slots:=G}:=Heap.get?_push_of_some _ B;have aq:=F.sub_dict_set;have an:=F.sub_dict_frozenset;have ax:(Value.type "dict" == Value.type "dict")=true:=by decide
      unfold Builtin.«set.__init__» noKeywords Builtin.Frozenset.updateFrom;generalize hRF:setRoomFor=RF
      wp_walk
      subst hRF;have ae:g.size=vs.length:=by rw[<-Array.length_toList];exact l.length
      have dS:d≠s.heap.objs.size:=Nat.ne_of_lt<|Heap.lt_size B;refine Aed (knd:=knd) (by omega) hS fun u9 ad af=>?_
      have k2:∀ b o,b≠s.heap.objs.size->s.heap.get? b=some o->u9.get? b=some o:=fun b o S e=>(ad.2 b S).trans (Heap.get?_push_of_some _ e)
      refine wpAny_bind<|wpAny_dictEntries (k2 _ _ dS B) Y ?_;refine wpAny_bind ?_;rw[Std.Legacy.Range.forIn_eq_forIn_range'];simp only [Std.Legacy.Range.size,Nat.sub_zero,Nat.add_sub_cancel,Nat.div_one];refine wpAny_forIn_list _
       (fun p _ Z=>∃ h' i,Z={s with heap:=h'}/\p=List.range' i (g.size - i)/\i<=g.size/\h'.SetOf knd s.heap.objs.size (fun z=>decide (z∈(vs.map (·.1)).take i)) i/\(∀ b o,b≠s.heap.objs.size->s.heap.get? b=some o->h'.get? b=some o))
       _ ?_ ?_ _ _ #[u9,0,Y,by simp,Nat.zero_le _,PyProof.Rows.SetOf_congr af (fun y=>by simp) Y,k2]
      ·rintro x P b Z ⟨h',i,rfl,C,hi,I,m⟩;have D:i < g.size:=by
        rcases Nat.lt_or_ge i g.size with h | h
        ·exact h
        ·rw[Nat.sub_eq_zero_of_le h] at C;simp at C
       obtain ⟨rfl,O⟩:x=i/\P=List.range' (i+1) (g.size - (i+1)):=by
        have e:g.size - i=(g.size - (i+1))+1:=by omega
        rw[e,List.range'_succ] at C;injection C with h1 u9;exact ⟨h1,u9⟩
       refine wpAny_bind (wpAny_dictEntries (m _ _ dS B) rfl ?_);rw[Array.getElem?_eq_getElem D];obtain ⟨kv,N⟩:∃ kv,vs[x]?=some kv:=⟨vs[x]'(by omega),List.getElem?_eq_getElem _⟩;obtain ⟨k,v⟩:=kv;obtain ⟨n,ao⟩:=l.get? (e:=g[x]) (by simp[D]) N;obtain ⟨V,K,H⟩:=L g[x] (Array.getElem_mem D);obtain rfl:V=k:=knd.inj _ _ _ K n;show wpAny _ _ (holding [g[x].key] (setAddHashed s.heap.objs.size g[x].key g[x].hash) >>= _) _ _ _;rw[H];refine wpAny_bind (wpAny_holding (wpAny_setAddHashed_of n (hsc _ _ n) I (by unfold scanBound;omega) fun h3 ak ag=>?_));have k3:∀ b o,b≠s.heap.objs.size->s.heap.get? b=some o->h3.get? b=some o:=fun b o S e=>(ak.2 b S).trans (m b o S e)
       refine wpAny_bind<|wpAny_dictEpoch (k3 _ _ dS B) Y ?_;rw[if_neg<|by simp];have aj:V∉(vs.map (·.1)).take x:=fun q=>by
        obtain ⟨j,hj⟩:=List.mem_iff_getElem?.mp q;have hl:=(List.getElem?_eq_some_iff.mp hj).1;rw[List.length_take] at hl;rw[List.getElem?_take_of_lt<|by omega] at hj;have hx:(vs.map (·.1))[x]?=some V:=by rw[List.getElem?_map,N];rfl
        have a:=List.getElem?_eq_some_iff.mp hx;have b:=List.getElem?_eq_some_iff.mp hj;have:=(List.getElem_inj ah).mp (a.2.trans b.2.symm);omega
       refine wpAny_pure #[h3,x+1,Y,O,D,PyProof.Rows.SetOf_congr ag (fun y=>?_) (by rw[if_neg<|by simpa using aj]),k3];rw[List.take_add_one,List.getElem?_map,N];show (decide (y∈(vs.map (·.1)).take x) || decide (y=V))=decide (y∈(vs.map (·.1)).take x++[V]);simp
      ·rintro b Z ⟨h',i,rfl,C,hi,I,m⟩;have ac:i=g.size:=by
        have:=congrArg List.length C;simp at this;omega
       subst ac;refine wpAny_pure ?_;show wpAny _ _ (ret Value.none) _ _ _;refine wpAny_pure #[Y,h',Y,PyProof.Rows.SetOf_congr I (fun y=>by rw[List.take_of_length_le (by rw[List.length_map];omega)]) ae,fun b o S e=>m b o (Nat.ne_of_lt S) e]
     ·cases aw with
      |error e=>exact M
      |ok fl₂=>
        cases fl₂ with
        |ret r=>
          obtain ⟨rfl,h',rfl,W,m⟩:=M
          repeat (any_goals (first | assumption | wp_step))
          refine h _ W m ?_;obtain ⟨o,g,ep,t,ho,p⟩:=W;exact Heap.lt_size ho
        |_=>exact M.elim
   |_=>exact C.elim
end
def lY:entryFor table "set.__ne__"=U Dx.«frozenset.__ne__»:=KO (id':="frozenset.__ne__") (by kernel_rfl) Y Np (by kernel_rfl)
section
variable{prog:Bn}{w:Bw}{A:BS}{E:Ai->Ax->Prop}{s:Ax}{K:Type}[DecidableEq K]{knd:KeyKind prog w K}
def sZ{h:BM}{a:Ae}{S S':K->Bool}{n n':Nat}(hS:h.SetOf knd a S n)(e:∀k,S k=S' k)(en:n=n'):h.SetOf knd a S' n':=by have:=funext e;subst this;subst en;exact hS
def size_of{a:Ae}{o:Cy}{es:Array (Int×Ai)}{ep:Nat}{t:KW}{Q:Nat->Ax->Prop}(ho:s.heap.get? a=U o)(hd:o.data=.set es ep t)(hf:t.fits es.size=Af)(h:Q es.size s):AZ (A7 prog w) A (Jw a) Q E s:=by
 exact Ad (Ge ho hd hf<|wpAny_pure h)
def vX{x:Ai}(h:x.scannable=Af):FA x=pure Af:=by cases x<;>first|rfl|cases h
def tS{a b:Ae}{oa ob:Cy}{ea eb:Array (Int×Ai)}{pa pb:Nat}{t t':KW}{Q:List (Int×Ai)->Ax->Prop}(hoa:s.heap.get? a=U oa)(da:oa.data=.set ea pa t)(fa:t.fits ea.size=Af)(hob:s.heap.get? b=U ob)(db:ob.data=.set eb pb t')(fb:t'.fits eb.size=Af)(la:∀e∈ea.toList,e.2.scannable=Af)(lb:∀e∈eb.toList,e.2.scannable=Af)(h:Q ea.toList s):AZ (A7 prog w) A (Dx.Frozenset.walkUnseen a b) Q E s:=by
 refine Ad<|Ge hoa da fa<|Ad<|Ge hob db fb<|Ad ?_;refine Kk _ (λc b g=>b=(none,())/\g=s/\∀e∈c,e.2.scannable=Af) _ ?_ ?_ _ _ #[Y,Y,λe d=>(AY.mp d).elim (la e) (lb e)]
 ·rintro⟨i,x⟩c _ _⟨rfl,rfl,f⟩;show AZ _ _ (FA x >>= _) _ _ _;rw[vX<|f _<|.head _];exact wpAny_pure #[Y,Y,λe d=>f e<|.tail _ d]
 ·rintro _ _⟨rfl,rfl,_⟩;exact wpAny_pure h
def AbF{a b:Ae}{S T:K->Bool}{n m:Nat}{ks:List K}{id:String}{Q:Bool->Ax->Prop}(ha:s.heap.SetOf knd a S n)(hb:s.heap.SetOf knd b T m)(hnm:n<=m)(hks:∀k,S k=Af↔k∈ks)(h:Q (ks.all T) s):AZ (A7 prog w) A (Fu id a b) Q E s:=by
 have R:=ha;have B:=hb;let(oa,L,X,t,g,y0,v,G,D,ba,u,rfl):=ha;let(ob,eb,pb,Z,p,xb,j0,V,mb,bb,H,rfl):=hb;unfold Fu;refine Ad<|size_of g v u<|Ad<|size_of p j0 H ?_;rw[Aq Nr];refine Ad<|JY g v u ?_;refine Ad<|tS g v u p j0 H (λe c=>(G e c).2) (λe c=>(V e c).2)<|Ad ?_;refine Kk _ (λj N M=>N=(none,())/\M=s/\∃f,L.toList=f++j/\∀e∈f,∀k,knd.is k e.2=Af->T k=Af) _ ?_ ?_ _ _ #[Y,Y,[],Y,λe c=>(by cases c)]
 ·rintro ⟨u9,x⟩ j _ _ ⟨rfl,rfl,f,d,z⟩;have I:(u9,x)∈L.toList:=by rw[d];simp
  let((k,o,c),q):=G _ I;dsimp only at o c q;subst c;show AZ _ _ (holding [x] (setFind b x<|knd.hash k) >>= _) _ _ _;refine Ad<|BH<|wpAny_setFind_of o q B λr F=>?_
  cases r with
  |none=>
    have y:T k=Am:=F.symm;have C:S k=Af:=(D k).mpr #[_,I,o];have e:ks.all T=Am:=by
     cases P:ks.all T with
     |false=>rfl
     |true=>rw[Bj.mp P k<|(hks k).mp C]at y;cases y
    rw[e]at h;exact wpAny_pure<|wpAny_pure h
  |some i=>
    have y:T k=Af:=F.symm;show AZ _ _ (Fq id a X >>= _) _ _ _;unfold Fq;refine Ad<|Ad<|JY g v u ?_;rw[Aq Nu];refine wpAny_pure<|wpAny_pure #[Y,Y,f++[(knd.hash k,x)],by rw[d];simp,λe c O l=>?_];rcases AY.mp c with c|c
    ·exact z e c O l
    ·rw[An.mp c]at l;rw[knd.inj _ _ _ l o];exact y
 ·rintro _ _⟨rfl,rfl,f,d,z⟩;have e:ks.all T=Af:=Bj.mpr λk o=>by
   let(e,c,W):=(D k).mp ((hks k).mpr o);rw[d,Br]at c;exact z e c k W
  rw[e]at h;exact wpAny_pure h
def AjZ {a b:Addr} {S T:K->Bool} {n m:Nat} {ks:List K} {Q:Value->Shared->Prop} (ha:s.heap.SetOf knd a S n) (hb:s.heap.SetOf knd b T m) (hu:A.units < cLine) (hks:∀ k,S k=true↔k∈ks)
  (h:Q (.bool<|!(n == m&&ks.all T)) s):
  wpAny (model prog w) A (compareOp .NotEq (.ref a)<|.ref b) Q E s:=by
 refine wpAny_richCompare_same_room (op:=.NotEq) ha.typeIs hb.typeIs PySem.F.slot_set_ne (wpAny_call_entry PySem.F.slot_set_ne ha.typeIs lY ?_<|PySem.F.args_set_ne_2 _ _) hu;show wpAny _ _ (Builtin.Frozenset.slot1 "__ne__" _ >>= _) _ _ s;have N:=hb.typeIs;have r:=ha.typeIs;have j:=ha;have g:=hb;obtain ⟨u9,o,V,t,i,B,q,P,j0,L,p,rfl⟩:=ha;obtain ⟨H,d,M,C,c,O,y,R,G,D,v,rfl⟩:=hb;have u:=F.sub_set_set;have l:=F.sub_set_frozenset;generalize hSZ:Builtin.Frozenset.sizeOf=I;generalize hSB:Builtin.Frozenset.subsetOf=z
 wp_walk
 subst hSZ;refine size_of i q p ?_;refine wpAny_bind<|size_of c y v ?_;refine wpAny_bind ?_;by_cases e:o.size=d.size
 ·rw[if_neg<|by simpa using e];subst hSB;have f:(o.size == d.size)=true:=by simpa using e
  rw[f] at h;refine wpAny_bind ?_;refine wpAny_bind<|wpAny_isInstance r l ?_;refine wpAny_pure ?_;refine AbF j g (by omega) hks ?_;exact wpAny_pure #[_,Y,(fun x=>nomatch x),h]
 ·rw[if_pos<|by simpa using e];have f:(o.size == d.size)=false:=by simpa using e
  rw[f] at h;exact wpAny_pure (wpAny_pure #[_,Y,(fun x=>nomatch x),h])
end
def Aic(P:Bn)(w:Bw)(a:Ae)(ks:Ma):HO:=.ext λh=>h.SetOf (OG P w) a (λk=>ks.any λx=>decide<|x=k) ks.length
def Adb{P:Bn}{w:Bw}(k:Key)(u:Ai)(h:(OG P w).is k u=Af):u.scannable=Af:=by
 have r:=XI h;rcases k with i|z
 ·let(t,rfl):=r;rfl
 ·let(t,rfl):=r;rfl
section
variable{X:Cx}
def jL:QA X (.type "set") (λxs H Q=>∃(p:Ae)(v5:LP),xs=[.ref p]/\Rd H p (.dK v5)/\v5.length<=5/\∀l,H l=none->Q (.ref l) (upd H l (Aic X.prog X.w l (v5.map (·.1))))):=by
 intro j s J H xs L Q I r h;let(p,v5,rfl,y,K,k):=h;let(u,rfl,C):=vals1 r;cases C;let(z,n,G,c,B):=QW I.Oj y;have A:=AJ c;have v:=(KV.keys c).symm;refine set_dict B Adb Nr n λF f g q=>?_
 rw[v,<-A]at f;refine#[.ref _,_,I.laid (λb o e=>g b o (AO e) e) (Ap _) ?_,Y,k _<|I.Oj.fresh<|Ap _];refine#[sZ f (λk=>by rw[BN];simp) (by rw[Ac]),?_,λj0 E x D=>?_]
 ·let(o,i,m,t,d,a):=f;exact#[o,d]
 ·let(o,i,m,t,d,a):=x;exact#[o,i,m,t,D _ d,a]
def Ads(hu:X.A.units+64<CU):TM X (Bh .NotEq) (λx y H Q=>∃(a b:Ae)(ks js:Ma),x=.ref a/\y=.ref b/\H a=U (Aic X.prog X.w a ks)/\H b=U (Aic X.prog X.w b js)/\Q (.bl<|!(ks.length==js.length&&ks.all λk=>js.any λx=>decide<|x=k)) H):=by intro c s J H x y v u Q I g j h;let(a,b,ks,js,rfl,rfl,e,i,k):=h;cases g;cases j;let(d,_):=I.Oj a _ e;let(f,_):=I.Oj b _ i;exact AjZ d f Nr (λk=>Nu) #[.bl _,H,I,Y,k]
end
def QT.Pn(ok:QT Hs)(g:∀e∈Hs,Good e.1):Qd Hs:=#[ok.nd,ok.ne,ok.AbU,λe a f b c t d h=>c<|ok.Afl e a f b t d h,λe a=>ok.len e a,by have:=ok.bU;omega,g]
def kK:∀(f n r:Nat),r<=1->32<=n->n<=f->minRun' f n r<=max 64 n
 |0,n,r,_,h1,h2=>Nr
 | f+1,n,r,h0,h1,h2=>by
   rw[minRun'_succ];by_cases h:n<64
   ·rw[Az h];omega
   ·rw[Aq h];have:=kK f (n / 2) (max r<|n%2) Nr Nr Nr;omega
def lU{st:K3}(hk:Gv a₀)(hb:SBase a₀ st)(h2:2<=a₀.size)(hs:FZ (DX st) a₀.size)(h:Q (U a₀.size) st):wpS (A7 prog w) A E s (countRun' 0 a₀.size) Q st:=by
 rw[countRun'_eq];simp only[Ez];refine Fv<|K0 (Q:=λc a=>c=(none,a₀.size)/\a=st) (wpS_ascLoop hk (Ap _) (Ap _) Nr hb (λi j b f=>hs i j b Nr) λn b f g d=>?_) ?_
 ·rcases d with rfl|d
  ·exact#[Y,Y]
  ·by_cases e:n=a₀.size
   ·subst e;exact#[Y,Y]
   ·exact absurd (hs (n-1) n Nr Nr) Nr
 ·rintro c a⟨rfl,rfl⟩;rw[Az Nu];exact HZ h
def oP{st:K3}(hk:Gv a₀)(hb:SBase a₀ st)(h2:64<=a₀.size)(hs:FZ (DX st) a₀.size)(h:∀(st':K3),(DX st').Perm a₀->GP st'=none->FZ (DX st') a₀.size->Q () st'):wpS (A7 prog w) A E s sortRuns' Q st:=by
 have k:=hb.perm.size_eq;rw[sortRuns'_eq];refine Fv<|wpS_get ?_;rw[k];refine Fv<|K0 (Q:=λ(c)st'=>c=(none,a₀.size)/\DX st'=DX st/\GP st'=none/\(pendingOf st').size=1) (wpS_forRange (λi(c)st'=>(i=0/\c=(none,0)/\st'=st)\/(1<=i/\c=(none,a₀.size)/\DX st'=DX st/\GP st'=none/\(pendingOf st').size=1)) ?_ ?_<|.inl #[Y,Y,Y]) ?_
 ·rintro i c st' _ n(⟨l,rfl,e⟩|⟨p,rfl,g,j,m⟩)
  ·rw[e];rw[Aq Nr];refine Fv<|lU hk hb Nr hs ?_;dsimp only;have o:=kK a₀.size a₀.size 0 Nr Nr Nr;rw[Aq Nr];refine Fv<|wpS_get ?_;rw[hb.pend];refine Fv<|wpS_modify ?_;refine HZ ?_;exact .inr #[Nr,by rw[Ez],Y,hb.failed,by rw[hb.pend];rfl]
  ·rw[Az<|Ap _];exact HZ #[Y,g,j,m]
 ·rintro c st'(⟨l,_,_⟩|⟨_,a,b,c,d⟩)
  ·exact absurd l Nr
  ·exact#[a,b,c,d]
 ·rintro c st'⟨rfl,g,j,m⟩;refine Fv<|K0 (Q:=λ(c)f=>c=(none,())/\f=st') (wpS_forRange (λi(c)f=>c=(none,())/\f=st') ?_ ?_ #[Y,Y]) ?_
  ·rintro i c f _ n⟨rfl,e⟩;rw[e];refine Fv<|wpS_get ?_;rw[Az Nr];exact HZ #[Y,Y]
  ·exactλ_ _ h=>h
  ·rintro c f⟨rfl,e⟩;rw[e];exact HZ (h st' (by rw[g];exact hb.perm) j (by rw[g];exact hs))
def xZ:∀{vs:LQ}{ns:LS},CL vs ns->∀{i:Nat}{x:Int},ns[i]?=U x->∃t,vs[i]?=U (.int x t)
 | _,_,.cons n t h,0,x,e=>by
   injection e with e;exact#[t,by rw[<-e];rfl]
 |_,_,.cons n t h,i+1,x,e=>xZ h (i:=i) (by simpa using e)
def AcM(h:CL vs ns)(e:ns[i]?=U x):HH (pairsOf vs) i=x:=by
 let(t,a):=xZ h e;have:(pairsOf vs)[i]?=U (.int x t,.int x t):=by unfold pairsOf;rw[Array.getElem?_zip_eq_some];exact#[by simpa using a,by simpa using a]
 unfold HH;rw[this];rfl
def qQ:∀{vs:LQ}{ns:LS},CL vs ns->vs.length=ns.length
 |_,_,.nil=>rfl
 |_,_,.cons n t h=>by rw[AM,AM,qQ h]
def iC{n:Nat}(ho:s.heap.get? a=U (seqObj "list" vs.toArray n))(hi:CL vs ns)(hl:64<=vs.length)(hl2:vs.length<=sizeLine)(hp:ns.Pairwise (·<=·))(h:∀(out:Mb)(ns':LS),CL out.toList ns'->ns'.Perm ns->ns'.Pairwise (·<=·) ->
         P (Fin.done<|La CP)
          {heap:=sortedHeap s.heap a vs out,gens:=s.gens,drawn:=s.drawn,toks:=s.toks,os:=s.os}):
     AZ (A7 prog w) A (Dx.«list.sort» {pos:=[Bu a]}) P E s:=by
 rw[list_sort_plain];refine Ad<|wpAny_listItems ho Y ?_;refine Ad<|Eu ho Y ?_ (by simpa using hl2) (by show 0<=_;omega);have l:(s.heap.update a<|BR λx=>#[]).get? a=U _:=CT _ ho Y;refine Ad<|Ad<|JI l<|wpAny_pure ?_;refine Ad<|KJ ?_ (by simpa using hl2);refine Ad<|Dr ?_;refine BH ?_;obtain⟨t,u,m,e⟩:∃t u m,vs=t::u::m:=by
  match vs,hl with
  |a::b::c,_=>exact#[a,b,c,Y]
 have k:¬ vs.toArray.size<2:=by simp;omega
 rw[Aq k];have q:keyKind' vs.toArray=pure oneType':=by rw[e];exact keyKind_ints (by rw[<-e];exact hi)
 rw[q];refine Ad<|wpAny_pure ?_;rw[Aq k];have y:=pairsOf_size vs;have F:FZ _ vs.length:=λi j r H=>by
  have j0:=qQ hi;have v:j<ns.length:=Nr;have g:i<ns.length:=Nr;rw[AcM hi<|Al v,AcM hi<|Al g];rcases Nat.eq_or_lt_of_le r with rfl|r
  ·exact GB _
  ·exact List.pairwise_iff_getElem.mp hp i j g v r
 refine Ad ?_;refine BL (oP (Q:=λ_ d=>(DX d).Perm _/\GP d=none/\FZ (DX d) _) hi.intKeys #[.refl _,Y,Y,Y] Nr (by rw[y];exact F) λd a b c=>#[a,b,c]) ?_ (λ_ _ h=>h);rintro⟨_,d⟩G⟨rfl,f,C,p⟩;have o:=Aj {cls:=Ey "list",data:=Ld #[]} (Aj {cls:=Ey "tuple",data:=Ld vs.toArray} l);refine Ad<|Ad<|JI o<|wpAny_pure ?_;have I:(DX d).size=vs.length:=by rw[f.size_eq];exact y
 refine Ad<|Eu o Y ?_ (by show 0<=_;omega) (by show(KH _<|DX d).size<=_;rw[JC];omega);rw[C];rw[Aq Nu];let(ns',z,D,B):=sorted_out hi f p;exact wpAny_pure (h _ ns' z D B)
def nG{n:Nat}(ho:s.heap.get? a=U (seqObj "list" vs.toArray n))(hi:CL vs ns)(hl2:vs.length<=sizeLine)(hp:ns.Pairwise (·<=·))(h:∀(out:Mb)(ns':LS),CL out.toList ns'->ns'.Perm ns->ns'.Pairwise (·<=·) ->
         P (Fin.done<|La CP)
          {heap:=sortedHeap s.heap a vs out,gens:=s.gens,drawn:=s.drawn,toks:=s.toks,os:=s.os}):
     AZ (A7 prog w) A (Dx.«list.sort» {pos:=[Bu a]}) P E s:=by
 by_cases b:vs.length<64
 ·exact K2 ho hi b h
 ·exact iC ho hi Nr hl2 hp h
section
variable{X:Cx}
def vV:LM->Hp->VK->Prop:=λxs H Q=>∃(p:Ae)(v5:LP)(ns:LS),xs=[.ref p]/\Rd H p (.dK v5)/\v5.map (·.1)=ns.map Cb/\ns.Pairwise (·<·) /\
  ∀l,H l=none->Q (.ref l) (upd H l<|.lst<|ns.map V.int)
def gJ(hc:X.calm=Af):QA X (.builtin "sorted") vV:=by
 intro A s J H xs us Q I r h;let(p,j,C,rfl,hp,v,q,k):=h;let(u,rfl,ru):=vals1 r;cases ru;let(z,O,vs,y,dd):=QW I.Oj hp;have hl:=AJ y;have aa:j.length=C.length:=by have:=congrArg Dt v;simpa using this
 let(ep,F):=dd.dictAt;refine EG Hn GO GQ (Jh _) ?_;refine Ad<|wpAny_pure ?_;refine Ad<|Ec (D1 O) (I.ok.hd hc) F Nr λK V d T c=>?_
 have hS:CL d.toList C:=by
  refine intsAre_of<|QS (by have:=c.1;simp only[Ac,Bt];omega) λi x u B N=>?_
  rw[Cu]at N;let(t,w,D,E):=c.2 i u N;rw[Ag]at B;cases g:C[i]? with
  |none=>rw[g]at B;cases B
  |some n=>
    rw[g]at B;cases B;have hi:i<j.length:=by have:=(Ah.mp g).1;omega
    let(y0,v',Z,e1,M,_):=y.get hi;rw[D]at M;obtain⟨rfl,rfl⟩:t=y0/\w=Z:=by simpa using M
    have:=congrArg (λl=>l[i]?) v;rw[Ag,Ag,e1,g]at this;have:t=Cb n:=by simpa using this
    subst this;exact XI E
 have u9:d.toList.length=C.length:=by rw[Bt,c.1];omega
 refine Ad<|Dr ?_ Nr;have j0:Inv X A J H {s with heap:=K,toks:=V}:=I.kept T;have f:(K.push<|seqObj "list" d.toList.toArray 0).get? _=U _:=AR _ Y;refine Ad<|BH<|El FY #[_,f,Y] FI (nG f hS Nr (q.imp Kz) λG ms P b2 S=>#[_,Y,?_])<|Ie _;refine wpAny_pure #[_,Y,?_];have hn:=j0.fresh;let(e,g):=IL f;have em:=Gu (λa b _ _ W R=>Int.le_antisymm W R) S (q.imp Kz) b2;subst em;refine#[.ref _,_,j0.laid (o:=.lst _) (λb o L=>?_) (Ap _) #[?_,G.toList,e,V6 P,?_],Y,k _ hn]
 ·have m:=AO L;rw[Ia (A9 m) (by rw[Ib];exact EW m)];exact Aj _ L
 ·rw[Ac];omega
 ·exact g
end
section
variable{κ α:Type}[DecidableEq κ]
variable{g:α->κ}
def P2(g:α->κ)(xs:List α)(e:α):List α:=if(xs.any λx=>decide<|g x=g e)=Af then xs.map (λx=>if g x=g e then e else x)else xs++[e]
def XY(h:g e∉xs.map g):P2 g xs e=xs++[e]:=by unfold P2;rw[Aq];intro q;let(x,a,z):=B1.mp q;exact h (by rw[<-Bv z];exact AH a)
def kP(xs:List α)(e:α):(P2 g xs e).map g=if g e∈xs.map g then xs.map g else xs.map g++[g e]:=by
 by_cases h:g e∈xs.map g
 ·rw[Az h];unfold P2;let(x,a,z):=AE.mp h;rw[Az<|B1.mpr #[x,a,Ao z],As];refine A4 λy _=>?_
  by_cases q:g y=g e
  ·show g (if g y=g e then e else y)=g y;rw[Az q,q]
  ·show g (if g y=g e then e else y)=g y;rw[Aq q]
 ·rw[Aq h,XY h,AU];rfl
def AgC(nd:(xs.map g).Nodup)(e:α):((P2 g xs e).map g).Nodup:=by
 rw[kP];split
 ·exact nd
 ·rename_i h;refine CC.mpr #[nd,Nu,λa c b d z=>?_];rw[An.mp d]at z;exact h (z▸c)
def Vb(h:x∈P2 g xs e):x=e\/x∈xs:=by
 unfold P2 at h;split at h
 ·let(y,a,z):=AE.mp h;split at z
  ·exact .inl z.symm
  ·exact .inr<|z▸a
 ·rcases AY.mp h with h|h
  ·exact .inr h
  ·exact .inl (An.mp h)
def Tj(xs:List α)(e:α):(P2 g xs e).length<=xs.length+1:=by
 unfold P2;split
 ·rw[Ac];omega
 ·rw[AN];exact Ap _
end
inductive WR where|top|decl|Ab2|left|kept|post|uw|asks|begun|Ai5|Oz (k:Int)|Uq (k:Int)|ask (n:Nat)|N3 (n:Nat)
inductive Rl where|own (n:Nat)|wd (i:Nat) (r:WR)
structure Ro where
 of:Ae->Option Rl
 ts:Mi
instance:CoeFun Ro (λ_=>Ae->Option Rl):=⟨Ro.of⟩
def AnH:HO->Prop
 |.ins _ _ _=>True
 |.dK _=>True
 |.dT _=>True
 |.lst _=>True
 |.Ry _ (.dK _)=>True
 |.Ry _ (.dT _)=>True
 |_=>False
structure AnK(ρ:Ro)(H:Hp):Prop where
 mu:∀a r,ρ a=U r->∃o,H a=U o/\AnH o
 tb:∀x∈ρ.ts,Tab x.1 x.2.1 x.2.2 H
structure Ard(R:Rl->Prop)(ρ:Ro)(H:Hp)(ρ':Ro)(H':Hp):Prop where
 keep:∀a u,(∀r,ρ a=U r->¬ R r)->(∀ps,u≠.So ps)->H a=U u->H' a=U u
 role:∀a u,H a=U u->ρ' a=ρ a
 tab:∀a ps,H a=U (.So ps)->∃ps',H' a=U (.So ps')
 ts:ρ'.ts=ρ.ts
 ok:AnK ρ' H'
section
variable{H:Hp}
def Tab.Akl{pos:CQ}(h:Tab P pos q H)(ha:H a=U o)(m:AnH o):Tab P pos q (L2.upd H a o'):=h.upd ha (λ_ z=>by rw[z]at m;exact m) λc z=>by rw[z]at m;exact m
end
structure Lt where
 num:Int
 OQ:Ay
 ask:LW
 Pn:Ay
 key:Int
 Xk:O7
abbrev Mq:=List Lt
structure Ak where
 kind:Ay
 Pb:Ay
 key:Int
 QF:Int
 RY:O7
 ahead:List (Ay×Int)
 N3:LK
 Pf:Ay
abbrev Mx:=List Ak
structure PY where
 key:Int
 c:Int
 r:Int
 w:Int
 sh:L4
abbrev L9:=List PY
abbrev Zg:=(Ay×Int)×O7
abbrev L6:=List Zg
abbrev Anc:=(Ay×Ay×Int)×O7
abbrev Sx(e:Ay×Int):Ma:=[.inr e.1,.inl e.2]
abbrev Ajf(e:Ay×Ay×Int):Ma:=[.inr e.1,.inr e.2.1,.inl e.2.2]
def oI:LW->V
 |none=>.OH
 |some n=>.int n
structure QJ where
 Hs:QI
 Ts:L9
 away:LK
 hints:List Anc
 O6:Int
 Ls:Mq
 Ms:Mx
 QL:L6
structure WC where
 W:Ae
 T:Ae
 P:Ae
 L:Ae
 S:Ae
 A:Ae
 H:Ae
structure WA where
 t:Ae
 dh:Ae
 dd:Ae
 da:Ae
 lf:Ae
 kp:Ae
 po:Ae
 uw:Ae
 as:Ae
 bg:Ae
 lr:Ae
structure pO(O6:Int)(Ls:Mq):Prop where
 up:(Ls.map (·.num)).Pairwise (·<·)
 le:∀L∈Ls,L.num<=O6
def pO.nd(h:pO O6 Ls):(Ls.map λL=>(.inl L.num:Key)).Nodup:=by
 have:(Ls.map λL=>(.inl L.num:Key))=(Ls.map (·.num)).map Cb:=by rw[As];rfl
 rw[this];refine CB.mpr<|h.up.imp λ{a b}q e=>?_
 injection e with e;omega
def pO.snoc(h:pO O6 Ls)(OQ:Ay)(ask:LW)(Pn:Ay)(key:Int)(E:O7):pO (O6+1) (Ls++[#[O6+1,OQ,ask,Pn,key,E]]):=by
 refine#[?_,λL c=>?_]
 ·rw[AU];refine Iz.mpr #[h.up,List.pairwise_singleton _ _,λa d b f=>?_];let(L,c,rfl):=AE.mp d;have e:b=O6+1:=by simpa using f
  have:=h.le L c;omega
 ·rcases AY.mp c with c|c
  ·have:=h.le L c;omega
  ·rw[An.mp c];exact GB _
structure US(Ts:L9):Prop where
 nd:(Ts.map λT=>(.inl T.key:Key)).Nodup
 key:∀T∈Ts,0<=T.key/\T.key<256
 bU:∀T∈Ts,T.sh.length<=5
 one:∀T∈Ts,(T.sh.map (·.1)).Nodup
def Ul(OQ:Ay)(ask:LW)(key:Int)(E:O7):Int->LK->Mq
 |_,[]=>[]
 |s,z::zs=>#[s+1,OQ,ask,z,key,E]::Ul OQ ask key E (s+1) zs
def dF{ask:LW}:∀{zs:LK}{s:Int},Ul OQ ask key E s (zs++[z])=Ul OQ ask key E s zs++[#[s+zs.length+1,OQ,ask,z,key,E]]
 |[],s=>by simp[Ul]
 | y::ys,s=>by
   rw[Gk,Ul,Ul,dF,Gk,AM];rw[show s+1+(ys.length:Int)+1=s+((ys.length+1:Nat):Int)+1 by push_cast;omega]
def YU{ask:LW}:∀{zs:LK}{s:Int},(Ul OQ ask key E s zs).length=zs.length
 |[],s=>rfl
 |y::ys,s=>by rw[Ul,AM,YU,AM]
def OF(L:L6)(z:Ay)(k:Int):O7:=((L.find? λe=>decide<|Sx e.1=Sx (z,k)).map (·.2)).getD []
def Amw(K:Ab)(neg:Bool):R2:=λx y H Q=>∃(p q:Ae)(xs:LM),x=.ref p/\y=.ref q/\PX K H p xs/\PX K H q []/\Q (.bl (if neg then !xs.isEmpty else xs.isEmpty)) H
def AjR(hu:X.A.units<CU)(I:Inv X q4 J H s)(h1:PX X.K H p xs)(h2:PX X.K H q []):FP X.A s (.ref p) (.ref q) xs.isEmpty/\Fd X.A s (.ref p) (.ref q) (!xs.isEmpty):=by
 cases xs with
 |nil=>exact AjT hu I (.inl #[h1,h2]) Y Y
 |cons x xs=>
   let(d,r,c,_):=I.list h1;let(h,e,a,_):=I.list h2;have f:=r.length;have g:=e.length;have b:(d.toArray.size != h.toArray.size)=Af:=by simp only[Aw,bne_iff_ne];simp only[AM,CG]at f g;omega
   exact#[Et c.isList a.isList b hu,D7 c.isList a.isList b hu]
def Ajo(hu:X.A.units<CU){K₀:Ab}{N4:Hp}[hK:Ol X K₀ N4]:TM X (Bh .Eq) (Amw K₀ Am):=by let(rfl,rfl):=hK;intro a s J H x y v u Q I d e h;let(p,q,f,rfl,rfl,c,b,k):=h;cases d;cases e;exact(AjR hu I c b).1 _ _ _ _ #[.bl _,H,I,Y,k]
def dG[DecidableEq α]:∀{l m:List α},l.Nodup->(∀a∈l,a∈m)->l.length<=m.length
 |[],_,_,_=>Bo _
 | a::l,m,nd,h=>by
   rw[Bb]at nd;have c:=h a<|.head _;have:=dG (m:=m.erase a) nd.2 λb d=>(Ds λz=>nd.1 (by rw[<-z];exact d)).mpr (h b<|.tail _ d)
   rw[Cj c]at this;have:=HL c;rw[AM];omega
def P6(S:L4)(z:Ay):O7:=((S.find? λe=>decide<|(.inr e.1:Key)=.inr z).map (·.2)).getD []
def QG(T:PY)(z:Ay)(E:O7):PY:=if z∈T.sh.map (·.1)then{T with sh:=P2 (λe=>(.inr e.1:Key)) T.sh (z,Ow (P6 T.sh z) E)}else T
def TZ:(QG T z E).key=T.key:=by unfold QG;split<;>rfl
def Po(A:Ak)(z:Ay)(E:O7):Ak×Bool:=if A.Pf≠"open"\/z∈A.N3 then(A,Am)
 else if((A.N3.length:Int)+1)<A.QF then({A with N3:=A.N3++[z],RY:=Ow A.RY E},Am)
 else({A with N3:=A.N3++[z],RY:=Ow A.RY E,Pf:="done" },Af)
def YL:(Po A z E).1.kind=A.kind:=by
 unfold Po;split
 ·rfl
 ·split<;>rfl
def P4(Ts:L9)(T:PY):L9:=Ts.map λx=>if(.inl x.key:Key)=.inl T.key then T else x
def OJ(qs:LK)(E:O7):Prop:=(E.map (·.1)).Nodup/\∀m,(look E m).isSome=Af->m∈qs
def OJ.nil:OJ qs []:=#[.nil,λ_ h=>by cases h]
def OJ.len(h:OJ qs E):E.length<=qs.length:=by
 have:=dG h.1 λa b=>by
  let(x,c,rfl):=AE.mp b;exact h.2 _ (by rw[Sw h.1<|(c)];rfl)
 rwa[Ac]at this
def OJ.join(h:OJ qs E)(g:OJ qs F):OJ qs (Ow E F):=#[yJ h.1,λm a=>by
 rw[kI g.1]at a;cases e:look E m with
 |some x=>exact h.2 m (by rw[e];rfl)
 |none=>
   rw[e]at a;exact g.2 m a]
def jP[DecidableEq κ]{k:κ}(xs:List α):(P2 g xs e).find? (λx=>decide<|g x=k)=if g e=k then U e else xs.find? (λx=>decide<|g x=k):=by
 have d:∀b:List α,(b.map λx=>if g x=g e then e else x).find? (λx=>decide<|g x=k)=if g e=k then(if(b.any λx=>decide<|g x=g e)=Af then U e else b.find? (λx=>decide<|g x=k))else b.find? (λx=>decide<|g x=k):=by
  intro b;induction b with
  |nil=>simp
  |cons y b ih=>
    rw[Au,Bc,ih,Bc];by_cases c:g y=g e
    ·by_cases a:g e=k
     ·simp[c,a]
     ·simp[c,a]
    ·by_cases a:g e=k
     ·have i:¬ g y=k:=λz=>c (z.trans a.symm)
      simp[c,a,i]
     ·simp[c,a]
 unfold P2;split
 ·rename_i h;rw[d,h];simp
 ·rename_i h;rw[Jm];by_cases a:g e=k
  ·have:=BX.mpr λx j f=>h (B1.mpr #[x,j,by rw[a];exact f])
   rw[this];simp[a]
  ·simp[a]
def aT(L:L6)(z y:Ay)(k j:Int)(F:O7):OF (P2 (λe=>Sx e.1) L ((z,k),F)) y j=if z=y/\k=j then F else OF L y j:=by
 unfold OF;rw[jP];by_cases h:z=y/\k=j
 ·rw[Az h,Az<|by rw[h.1,h.2]];rfl
 ·rw[Aq h,Aq (λe=>h (by
   injection e with e1 e2;injection e2 with e2;injection e1 with e1;injection e2 with e2;exact#[e1,e2]))]
def RB(T:PY):Int×LK:=(T.key,T.sh.map (·.1))
def Aj3(S:L4)(z y:Ay)(F:O7):P6 (P2 (λe=>(.inr e.1:Key)) S (z,F)) y=if z=y then F else P6 S y:=by
 unfold P6;rw[jP];by_cases h:z=y
 ·rw[Az h,Az<|by rw[h]];rfl
 ·rw[Aq h,Aq (λe=>h (by
   injection e))]
def YQ:RB (QG T z E)=RB T:=by
 unfold QG;split
 ·rename_i h;unfold RB;have:=kP (g:=λe:Ay×O7=>(.inr e.1:Key)) T.sh (z,Ow (P6 T.sh z) E);rw[Az (by
   let(x,b,e):=AE.mp h;exact AE.mpr #[x,b,by rw[e]])]at this
  have a:∀S:L4,S.map (λe=>(.inr e.1:Key))=(S.map _).map _:=λS=>by rw[As];rfl
  rw[a,a]at this;have:=(List.map_inj_right λx y e=>by injection e).mp this;rw[this]
 ·rfl
def Aeo(hz:z∈T.sh.map (·.1)):P6 (QG T z E).sh y=if z=y then Ow (P6 T.sh z) E else P6 T.sh y:=by unfold QG;rw[Az hz];exact Aj3 _ _ _ _
def eQ{Ts Ts':L9}(e:Ts'.map RB=Ts.map RB){T:PY}(h:T∈Ts'):∃T'∈Ts,RB T'=RB T:=by have:=AH (f:=RB) h;rw[e]at this;exact AE.mp this
def US.sk{Ts Ts':L9}(h:US Ts)(e:Ts'.map RB=Ts.map RB):US Ts':=by
 refine#[?_,λT c=>?_,λT c=>?_,λT c=>?_]
 ·have f:∀S:L9,S.map (λT=>(.inl T.key:Key))=(S.map RB).map λp=>(.inl p.1):=λS=>by rw[As];rfl
  rw[f,e,<-f];exact h.nd
 ·let(a,b,q):=eQ e c;have g:a.key=T.key:=congrArg Iv q;rw[<-g];exact h.key a b
 ·let(a,b,q):=eQ e c;have d:a.sh.map _=T.sh.map _:=congrArg GY q;have:=h.bU a b;rw[<-Ac,d,Ac]at this;exact this
 ·let(a,b,q):=eQ e c;have d:a.sh.map _=T.sh.map _:=congrArg GY q;rw[<-d];exact h.one a b
def sX:∀{Ts:L9},US Ts->∀{T T':PY},T∈Ts->T'∈Ts->T.key=T'.key->T=T':=λ{Ts}h{T T'}f d e=>by
 have c:=h.nd;clear h;induction Ts with
 |nil=>cases f
 |cons x xs ih=>
   rw[Au,Bb]at c;rcases AB.mp f with b|b
   ·rcases AB.mp d with a|a
    ·rw[b,a]
    ·exact(c.1<|AE.mpr #[T',a,by rw[<-b,e]]).elim
   ·rcases AB.mp d with a|a
    ·exact(c.1<|AE.mpr #[T,b,by rw[<-a,e]]).elim
    ·exact ih b a c.2
def oN(tok:US Ts)(hT:T∈Ts)(e:RB T'=RB T):(P4 Ts T').map RB=Ts.map RB:=by
 unfold P4;rw[As];refine A4 λx a=>?_
 show RB (if(.inl _:Key)=.inl _ then T' else x)=RB x;split
 ·rename_i h;injection h with h;have b:=congrArg Iv e;rw[sX tok a hT<|h.trans b,e]
 ·rfl
def V3(h:T∈P4 Ts T'):T=T'\/(T∈Ts/\T.key≠T'.key):=by
 let(x,a,e):=AE.mp h;split at e
 ·exact .inl e.symm
 ·rename_i h;rw[<-e];exact .inr #[a,λz=>h<|by rw[z]]
def VS{ask:LW}:∀{D:LK}{s:Int},L∈Ul OQ ask key E s D->L.OQ=OQ/\L.ask=ask/\L.key=key/\L.Xk=E/\L.Pn∈D
 | z::D,s,h=>by
   rcases AB.mp h with h|h
   ·rw[h];exact#[Y,Y,Y,Y,.head _]
   ·let(a,b,c,d,e):=VS h;exact#[a,b,c,d,.tail _ e]
structure LE where
 mo:Ae
 rw:Ae
 sa:Ae
 mi:Ae
 sh:Ae
 Hs:QI
 qs:LK
 Sk:Mh
def Ab5(w:QJ)(n:Nat)(B:Ak)(L:Lt):QJ:={w with Ms:=w.Ms.set n (Po B L.Pn L.Xk).1,QL:=if(Po B L.Pn L.Xk).2=Af/\B.kind="read" then P2 (λe=>Sx e.1) w.QL ((B.Pb,B.key),Ow (OF w.QL B.Pb B.key) (Po B L.Pn L.Xk).1.RY)else w.QL}
def VM:(Po A z E).1.Pb=A.Pb/\(Po A z E).1.key=A.key/\(Po A z E).1.QF=A.QF:=by
 unfold Po;split
 ·exact#[Y,Y,Y]
 ·split<;>exact#[Y,Y,Y]
structure LF where
 mo:Ae
 rw:Ae
 ak:Ae
 sh:Ae
 mi:Ae
 key:Int
 Hs:QI
 qs:LK
 D:LK
 rd:Int
 wr:Int
def xW{B:Ak}{E:O7}(h:B.Pf≠"open"\/z∈B.N3):Po B z E=(B,Am):=by unfold Po;rw[Az h]
def AcA{B:Ak}{E:O7}(h1:B.Pf="open")(h2:z∉B.N3):Po B z E=if((B.N3.length:Int)+1)<B.QF then({B with N3:=B.N3++[z],RY:=Ow B.RY E},Am)else({B with N3:=B.N3++[z],RY:=Ow B.RY E,Pf:="done" },Af):=by unfold Po;rw[Aq λz=>by rcases z with z|z;exact z h1;exact h2 z]
def Aen{α:Type}{l:List α}{m:Nat}{x:α}(h:l[m]?=U x):l.set m x=l:=by
 induction l generalizing m with
 |nil=>rfl
 |cons y l ih=>
   cases m with
   |zero=>cases h;rfl
   |succ m=>rw[List.set_cons_succ,ih h]
def wk(t:TE):TE:=λJ H Q=>∃Q',t J H Q'/\∀v H1,Q' v H1->Q v H1
def PE.wk{t:TE}(h:PE X e t):PE X e (wk t):=λa s J H Q I⟨b,d,c⟩=>O2 (h a s J H b I d) λ_ _⟨v,g,f,r,q⟩=>#[v,g,f,r,c _ _ q]
def PE.imp{t u:TE}(h:PE X e t)(m:∀J H Q,u J H Q->t J H Q):PE X e u:=λa s J H Q I b=>h a s J H Q I (m J H Q b)
def Al3(ks js:Ma):Bool:=!(ks.length==js.length&&ks.all λk=>js.any λx=>decide<|x=k)
def AoG(ks:Ma)(l:Ae)(H2:Hp)(Q:VK):VK:=λy H3=>∃q kws,y=.ref q/\Rd H3 q (.dK kws)/\kws.length<=5/\H3 l=H2 l/\∀H4,Ob H3 H4->Q (.bl (Al3 ks (kws.map (·.1)))) H4
def AqO(tb:TE)(J:St)(Q:VK):VK:=λx H1=>∃p v5,x=.ref p/\Rd H1 p (.dK v5)/\v5.length<=5/\∀l H2,H1 l=none->H2 l≠none->Ob H1 H2->tb J H2 (AoG (v5.map (·.1)) l H2 Q)
abbrev Aq4(ta tb:TE):TE:=λJ H Q=>ta J H (AqO tb J Q)
def Aqc{X:Cx}{ta tb:TE}{a b:Expr}{p p' q q' pos:CQ}{n:Nat}(hr:Oo n X.A)(hm:X.mg "set"=none)(ha:PE X a ta)(hb:PE X b tb)(hg:Gl X "set":=by rfl)(h1:AG [a] X.env=(Am,eval a X.env)::AG [] X.env:=by rfl)(h2:AG [b] X.env=(Am,eval b X.env)::AG [] X.env:=by rfl):PE X (.Compare (.Call (.Name "set" p) [a] [] q) [.NotEq] [.Call (.Name "set" p') [b] [] q'] pos) (Aq4 ta tb):=by
 refine(aY (Ads hr.units) (Y0 (he:=h1) jL hg hm Boot.b_set<|N7 ha.wk Om h1) (Y0 (he:=h2) jL hg hm Boot.b_set<|N7 hb.wk Om h2)<|YV _).imp λJ H Q h=>?_
 refine#[_,h,λx u⟨d,g,t,o,v,k⟩=>#[d,g,by rw[t],o,v,λl c=>?_]];refine#[_,k l _ c (by rw[N1];intro z;cases z)<|(Ob.refl u).upd c,λy B⟨e,j,w,he,r,i,s⟩=>#[e,j,by rw[w],he,r,λm f=>?_]];rw[N1]at i;exact#[l,m,_,_,Y,Y,(NX<|Oc i f).trans i,N1,s _<|(Ob.refl B).upd f]
def OM(S:L4)(D:LK):L4:=D.map λz=>(z,P6 S z)
def QR(S:L4)(D:LK):(OM S D).map (·.1)=D:=by unfold OM;rw[As];exact Eg _
def X0(S:L4)(D:LK):(OM S D).length=D.length:=by unfold OM;rw[Ac]
def AbC(S:L4)(D:LK)(z:Ay):OM S (D++[z])=OM S D++[(z,P6 S z)]:=by unfold OM;rw[AU];rfl
def Aax(S:L4)(D:LK):Bool:=Al3 (S.map λe=>.inr e.1) (D.map C1)
structure Zs where
 K:Ab
 w:WC
 o:Ae
 d:Ae
instance {X:Cx} {A:BS} {q:Ay} {sc:Scope} {N:LK} {f:Ae} {cd:Ai} {s:Ax} {H:Hp} {K₀:Ab} {N4:Hp} [h:Ol X K₀ N4]:Ol (XM X A q sc N f cd s H) K₀ H:=#[h.k,Y]
instance {X:Cx} {A:BS} {q:Ay} {sc:Scope} {N:LK} {f:Ae} {cd:Ai} {s:Ax} {H:Hp} {M:Md} [h:P0 X M]:P0 (XM X A q sc N f cd s H) M:=#[h.p,h.w,h.g,h.b]
def ApI{M:Md}{K:Ab}{k:Nat}{N ps:LK}{x:Ay}{st:Bi}{sp:Sp}{c:Ae}(n:Nat)(d:bI K M.mg x st ps c)(body:∀f A o s H vs Q E,Rm k N x (NW st) #[f,.ref c,A,o,s,E]->sp vs H Q E->∃t,QB (cN M K N x (NW st) #[f,.ref c,A,o,s,E] H) (Oa st) t/\t (fin Q) (tW vs n) H)(S:O3 N ps (NW st):=by walk_at"s")(len:∀vs H Q E,sp vs H Q E->vs.length=ps.length:=by walk_at"l")(hn:N.length=n:=by rfl):Hf M K (k+1) x sp:=#[_,d.has S (λf A o s H vs Q E a h=>let⟨t,h1,h2⟩:=body f A o s H vs Q E #[a,S.nd] h;#[t,h1,by rw[Tz hn];exact h2]) len]
def take_snoc{xs:List α}{j:Nat}(h:xs[j]?=U z):xs.take (j+1)=xs.take j++[z]:=by rw[Cr,h];rfl
def XR{xs:List α}{j:Nat}(nd:xs.Nodup)(h:xs[j]?=U z):z∉xs.take j:=λm=>by
 let(c,b):=Dl.mp m;have a:c<j:=by have:=(Ah.mp b).1;rw[Bm]at this;omega
 rw[Hq a]at b;let(f,d):=Ah.mp h;let(g,e):=Ah.mp b;have:=(E6 nd).mp (d.trans e.symm);omega
def Afv{xs:List α}{f:α->Ay}(h:z∉xs.map f):(.inr z:Key)∉xs.map λe=>(.inr (f e):Key):=λm=>by
 let(y,a,e):=AE.mp m;injection e with e;exact h (e▸AH a)
inductive D where
 |f (v:V)
 |t (xs:List D)
 |l (xs:List D)
 |d (ks:List (Key×D))
 |m (ks:List (List Key×D))
 |i (C:Ae) (fs:List (Ay×D))
abbrev LO:=List D
abbrev LY:=List (Key×D)
abbrev Mf:=List (Ay×D)
abbrev Mm:=List (List Key×D)
abbrev Mw:=List (D×V)
inductive O where
 |l (xs:LO)
 |d (ks:LY)
 |m (ks:Mm)
 |i (C:Ae) (fs:Mf)
abbrev N9:=Ae->Option (Rl×O)
def KD{κ:Type}(R:D->V->Prop)(p:κ×D)(q:κ×V):Prop:=q.1=p.1/\R p.2 q.2
def Ahl(F:LL)(H:Hp)(a:Ae)(u:HO):Prop:=H a=U u\/(a∈F/\∃o,H a=U (.Ry o u))
def xC(K:Ab)(C:Ae)(fs:L5):Prop:=Xj K C/\∀f∈fs.map (·.1),Qe K C f
def Rd.lk{H H':Hp}{u:HO}(h:Rd H a u)(k:∀w,H a=U w->H' a=U w):Rd H' a u:=h.imp (k _) λ⟨o,e⟩=>#[o,k _ e]
def AkD(K:Ab)(S:N9)(H:Hp)(a:Ae)(vs:LM):Prop:=(S a=none/\Rd H a (.lst vs))\/∃(o:Cy)(its:Mb)(n:Nat),K.lookup a=U o/\o.cls=.type "list"/\o.dict=none/\o.data=.seq its n/\its.size<=sizeLine/\Vals vs its.toList
def AkD.sq{K:Ab}{S:N9}{H:Hp}(h:AkD K S H a vs):PX K H a vs:=h.imp (·.2) id
section
variable(K:Ab)(F:LL)(S:N9)(H:Hp)
def Aai:Nat->D->V->Prop
 | 0,d,v=>match d with
   |.f x=>v=x
   |_=>False
 | n+1,d,v=>match d with
   |.f x=>v=x
   |.t xs=>∃a vs,v=.ref a/\H a=U (.tup vs)/\Paired (Aai n) xs vs
   |.l xs=>∃a vs,v=.ref a/\AkD K S H a vs/\Paired (Aai n) xs vs
   |.d ks=>∃a v5,v=.ref a/\S a=none/\Ahl F H a (.dK v5)/\Paired (KD<|Aai n) ks v5
   |.m ks=>∃a v5,v=.ref a/\S a=none/\H a=U (.dT v5)/\Paired (KD<|Aai n) ks v5
   |.i C fs=>∃a dx gs,v=.ref a/\S a=none/\H a=U (.ins C dx gs)/\xC K C gs/\Paired (KD<|Aai n) fs gs
def VD(d:D)(v:V):Prop:=∃n,Aai K F S H n d v
end
def KD.imp{κ:Type}{R Q:D->V->Prop}{p:κ×D}{q:κ×V}(h:∀d v,R d v->Q d v)(x:KD R p q):KD Q p q:=#[x.1,h _ _ x.2]
section
variable{K:Ab}{F F':LL}{S S':N9}{H H':Hp}{n m:Nat}
def Aai.up(h:Aai K F S H n d v):Aai K F S H (n+1) d v:=by
 induction n generalizing d v with
 |zero=>cases d<;>first|exact h|exact h.elim
 |succ n ih=>
   cases d with
   |f x=>exact h
   |t k=>let(a,g,e,c,b):=h;exact#[a,g,e,c,Paired.imp' (λ_ _=>ih) b]
   |l k=>let(a,g,e,c,b):=h;exact#[a,g,e,c,Paired.imp' (λ_ _=>ih) b]
   |d k=>let(a,g,e,j,c,b):=h;exact#[a,g,e,j,c,Paired.imp' (λ_ _=>KD.imp λ_ _=>ih) b]
   |m k=>let(a,g,e,j,c,b):=h;exact#[a,g,e,j,c,Paired.imp' (λ_ _=>KD.imp λ_ _=>ih) b]
   |i C r=>let(a,p,o,e,j,c,q,b):=h;exact#[a,p,o,e,j,c,q,Paired.imp' (λ_ _=>KD.imp λ_ _=>ih) b]
def Aai.le(h:Aai K F S H n d v)(l:n<=m):Aai K F S H m d v:=by
 induction l with
 |refl=>exact h
 |step _ a=>exact a.up
def YZ{α β:Type}{R:Nat->α->β->Prop}(up:∀n m a b,n<=m->R n a b->R m a b){xs:List α}{ys:List β}(h:Paired (λa b=>∃n,R n a b) xs ys):∃n,Paired (R n) xs ys:=by
 induction h with
 |nil=>exact#[0,.nil]
 |cons c _ ih=>let(n,c):=c;let(m,d):=ih;exact#[max n m,.cons (up _ _ _ _ (JG ..) c)<|Paired.imp' (λa b=>up _ _ a b<|Jz ..) d]
def AcJ{κ:Type}{ks:List (κ×D)}{vs:List (κ×V)}(h:Paired (KD<|VD K F S H) ks vs):∃n,Paired (KD<|Aai K F S H n) ks vs:=YZ (λn m a b l h=>h.imp λ_ _ q=>q.le l) (Paired.imp' (λa b⟨e,n,q⟩=>#[n,e,q]) h)
def VD.f:VD K F S H (.f x) x:=#[0,Y]
def Ou:VD K F S H (.f x) v↔v=x:=#[λ⟨n,h⟩=>by cases n<;>exact h,λe=>e▸.f]
def Zc:VD K F S H (.t xs) v↔∃a vs,v=.ref a/\H a=U (.tup vs)/\Paired (VD K F S H) xs vs:=by
 refine#[λ⟨n,h⟩=>?_,λ⟨a,vs,e,c,b⟩=>?_]
 ·cases n with
  |zero=>exact h.elim
  |succ n=>let(a,vs,e,c,b):=h;exact#[a,vs,e,c,Paired.imp' (λ_ _ q=>#[n,q]) b]
 ·let(n,b):=YZ (λ_ _ _ _ l q=>q.le l) b;exact#[n+1,a,vs,e,c,b]
def AbM:VD K F S H (.l xs) v↔∃a vs,v=.ref a/\AkD K S H a vs/\Paired (VD K F S H) xs vs:=by
 refine#[λ⟨n,h⟩=>?_,λ⟨a,vs,e,c,b⟩=>?_]
 ·cases n with
  |zero=>exact h.elim
  |succ n=>let(a,vs,e,c,b):=h;exact#[a,vs,e,c,Paired.imp' (λ_ _ q=>#[n,q]) b]
 ·let(n,b):=YZ (λ_ _ _ _ l q=>q.le l) b;exact#[n+1,a,vs,e,c,b]
def tR:VD K F S H (.d xs) v↔∃a vs,v=.ref a/\S a=none/\Ahl F H a (.dK vs)/\Paired (KD<|VD K F S H) xs vs:=by
 refine#[λ⟨n,h⟩=>?_,λ⟨a,vs,e,g,c,b⟩=>?_]
 ·cases n with
  |zero=>exact h.elim
  |succ n=>let(a,vs,e,g,c,b):=h;exact#[a,vs,e,g,c,Paired.imp' (λ_ _=>KD.imp λ_ _ q=>#[n,q]) b]
 ·let(n,b):=AcJ b;exact#[n+1,a,vs,e,g,c,b]
def Akp:VD K F S H (.m xs) v↔∃a vs,v=.ref a/\S a=none/\H a=U (.dT vs)/\Paired (KD<|VD K F S H) xs vs:=by
 refine#[λ⟨n,h⟩=>?_,λ⟨a,vs,e,d,c,b⟩=>?_]
 ·cases n with
  |zero=>exact h.elim
  |succ n=>let(a,vs,e,d,c,b):=h;exact#[a,vs,e,d,c,Paired.imp' (λ_ _=>KD.imp λ_ _ q=>#[n,q]) b]
 ·let(n,b):=AcJ b;exact#[n+1,a,vs,e,d,c,b]
def Ako:VD K F S H (.i C xs) v↔∃a dx gs,v=.ref a/\S a=none/\H a=U (.ins C dx gs)/\xC K C gs/\Paired (KD<|VD K F S H) xs gs:=by
 refine#[λ⟨n,h⟩=>?_,λ⟨a,dx,c,e,g,d,j,b⟩=>?_]
 ·cases n with
  |zero=>exact h.elim
  |succ n=>let(a,dx,c,e,g,d,j,b):=h;exact#[a,dx,c,e,g,d,j,Paired.imp' (λ_ _=>KD.imp λ_ _ q=>#[n,q]) b]
 ·let(n,b):=AcJ b;exact#[n+1,a,dx,c,e,g,d,j,b]
structure Pe(F:LL)(S:N9)(H:Hp)(F':LL)(S':N9)(H':Hp):Prop where
 t:∀a vs,H a=U (.tup vs)->H' a=U (.tup vs)
 l:∀a vs,S a=none->Rd H a (.lst vs)->S' a=none/\Rd H' a (.lst vs)
 d:∀a vs,S a=none->Ahl F H a (.dK vs)->S' a=none/\Ahl F' H' a (.dK vs)
 m:∀a vs,S a=none->H a=U (.dT vs)->S' a=none/\H' a=U (.dT vs)
 i:∀a C dx gs,S a=none->H a=U (.ins C dx gs)->S' a=none/\H' a=U (.ins C dx gs)
def VD.pe(p:Pe F S H F' S' H')(h:VD K F S H d v):VD K F' S' H' d v:=by
 let(n,h):=h;refine#[n,?_];induction n generalizing d v with
 |zero=>cases d<;>first|exact h|exact h.elim
 |succ n ih=>
   cases d with
   |f x=>exact h
   |t k=>let(a,j,e,b,c):=h;exact#[a,j,e,p.t _ _ b,Paired.imp' (λ_ _=>ih) c]
   |l k=>let(a,j,e,b,c):=h;exact#[a,j,e,b.imp (λq=>p.l _ _ q.1 q.2) id,Paired.imp' (λ_ _=>ih) c]
   |d k=>let(a,j,e,g,b,c):=h;exact#[a,j,e,(p.d _ _ g b).1,(p.d _ _ g b).2,Paired.imp' (λ_ _=>KD.imp λ_ _=>ih) c]
   |m k=>let(a,j,e,g,b,c):=h;exact#[a,j,e,(p.m _ _ g b).1,(p.m _ _ g b).2,Paired.imp' (λ_ _=>KD.imp λ_ _=>ih) c]
   |i C u=>let(a,r,o,e,g,b,s,c):=h;exact#[a,r,o,e,(p.i _ _ _ _ g b).1,(p.i _ _ _ _ g b).2,s,Paired.imp' (λ_ _=>KD.imp λ_ _=>ih) c]
end
def OD(K:Ab)(F:LL)(S:N9)(H:Hp)(a:Ae):O->Prop
 |.l xs=>∃vs,H a=U (.lst vs)/\Paired (VD K F S H) xs vs
 |.d ks=>∃v5,Ahl F H a (.dK v5)/\Paired (KD<|VD K F S H) ks v5
 |.m ks=>∃v5,H a=U (.dT v5)/\Paired (KD<|VD K F S H) ks v5
 |.i C fs=>∃dx gs,H a=U (.ins C dx gs)/\xC K C gs/\Paired (KD<|VD K F S H) fs gs
structure Rp(K:Ab)(T:Mi)(F:LL)(H:Hp)(S:N9)(L:Mw):Prop where
 st:∀a r o,S a=U (r,o)->OD K F S H a o
 led:∀p∈L,VD K F S H p.1 p.2
 tb:∀x∈T,Tab x.1 x.2.1 x.2.2 H
 fd:∀a∈F,H a≠none
def wV{H:Hp}(h:H a≠none):upd H b u a≠none:=by
 unfold upd;split
 ·nofun
 ·exact h
def NY(S:N9)(a:Ae)(x:Rl×O):N9:=λb=>if b=a then U x else S b
def NZ:NY S a x a=U x:=Az Y
def N0(h:b≠a):NY S a x b=S b:=Aq h
def gL(S:N9)(a:Ae):N9:=λb=>if b=a then none else S b
def T8{S:N9}(h:S a=U (r,o))(k:S b=U (r',o'))(n:r≠r'):a≠b:=λz=>by
 rw[z,k]at h;injection h with h;injection h with h;exact n h.symm
section
variable{K:Ab}{T:Mi}{F F':LL}{S S':N9}{H H':Hp}{L L':Mw}{o:O}{r:Rl}
def OD.pe(p:Pe F S H F' S' H')(k:H a=H' a)(kf:a∈F->a∈F')(h:OD K F S H a o):OD K F' S' H' a o:=by
 cases o with
 |l g=>let(c,b,e):=h;exact#[c,k▸b,Paired.imp' (λ_ _=>VD.pe p) e]
 |d g=>
   let(c,b,e):=h;refine#[c,?_,Paired.imp' (λ_ _=>KD.imp λ_ _=>VD.pe p) e];rcases b with b|⟨f,o,b⟩
   ·exact .inl<|k▸b
   ·exact .inr #[kf f,o,k▸b]
 |m g=>let(c,b,e):=h;exact#[c,k▸b,Paired.imp' (λ_ _=>KD.imp λ_ _=>VD.pe p) e]
 |i C g=>let(j,c,b,n,e):=h;exact#[j,c,k▸b,n,Paired.imp' (λ_ _=>KD.imp λ_ _=>VD.pe p) e]
def OD.mu(h:OD K F S H a o):∃u,H a=U u/\AnH u:=by
 cases o with
 |l c=>let(e,b,_):=h;exact#[_,b,Bk]
 |d c=>
   obtain⟨e,b|⟨_,o,b⟩,_⟩:=h
   ·exact#[_,b,Bk]
   ·exact#[_,b,Bk]
 |m c=>let(e,b,_):=h;exact#[_,b,Bk]
 |i C c=>let(g,e,b,_):=h;exact#[_,b,Bk]
def Rp.free(R:Rp K T F H S L)(h:H a=none):S a=none:=by
 cases e:S a with
 |none=>rfl
 |some x=>let(u,q,_):=(R.st a x.1 x.2 e).mu;rw[h]at q;cases q
def Rp.sub(R:Rp K T F H S L)(h:∀p∈L',p∈L):Rp K T F H S L':=#[R.st,λp m=>R.led p<|h p m,R.tb,R.fd]
def Rp.add(R:Rp K T F H S L)(h:VD K F S H d v):Rp K T F H S ((d,v)::L):=#[R.st,λp m=>by
 rcases AB.mp m with rfl|m
 ·exact h
 ·exact R.led p m,R.tb,R.fd]
def Pe.Qo(s:Pl H H'):Pe F S H F S H':=#[λa b e=>s.keep _ _ nofun e,λa b h e=>#[h,e.imp (s.keep _ _ nofun) λ⟨o,e⟩=>#[o,s.keep _ _ nofun e]],λa b h e=>#[h,by
  rcases e with e|⟨f,o,e⟩
  ·exact .inl<|s.keep _ _ nofun e
  ·exact .inr #[f,o,s.keep _ _ nofun e]],λa b h e=>#[h,s.keep _ _ nofun e],λa C d c h e=>#[h,s.keep _ _ nofun e]]
def Rp.Qo(R:Rp K T F H S L)(s:Pl H H')(tb:∀x∈T,Tab x.1 x.2.1 x.2.2 H'):Rp K T F H' S L:=by
 refine#[λa r o e=>?_,λp m=>(R.led p m).pe (Pe.Qo s),tb,λa m=>?_]
 ·have h:=R.st a r o e;let(u,q,mu):=h.mu;exact h.pe (Pe.Qo s) (q.trans (s.keep _ _ (λ_ z=>by rw[z]at mu;exact mu) q).symm) id
 ·cases e:H a with
  |none=>exact(R.fd a m e).elim
  |some u=>
    by_cases z:∃b,u=.So b
    ·let(b,rfl):=z;let(c,h):=s.tabs a b e;rw[h];nofun
    ·rw[s.keep a u (λb q=>z #[b,q]) e];nofun
def Rp.same(R:Rp K T F H S L)(s:Ob H H'):Rp K T F H' S L:=R.Qo s.n λx m=>Tab.same s (R.tb x m)
def Pe.set(R:Rp K T F H S L)(hS:S b=U (r,o)):Pe F S H F (NY S b (r',o')) (upd H b u):=by
 let(w,g,mu):=(R.st b r o hS).mu;have c:∀a,S a=none->a≠b:=λa h z=>by rw[z,hS]at h;cases h
 refine#[λa d e=>?_,λa d h e=>#[(N0<|c a h).trans h,e.lk λw q=>(NX<|c a h).trans q],λa d h e=>#[(N0<|c a h).trans h,?_],λa d h e=>#[(N0<|c a h).trans h,(NX<|c a h).trans e],λa C j i h e=>#[(N0<|c a h).trans h,(NX<|c a h).trans e]]
 ·rw[NX]
  ·exact e
  ·intro z;rw[z,g]at e;cases e;exact mu
 ·rcases e with e|⟨f,o,e⟩
  ·exact .inl<|(NX<|c a h).trans e
  ·exact .inr #[f,o,(NX<|c a h).trans e]
def Rp.set(R:Rp K T F H S L)(hS:S b=U (r,o))(hO:OD K F (NY S b (r',o')) (upd H b u) b o'):Rp K T F (upd H b u) (NY S b (r',o')) L:=by
 have p:=Pe.set (r':=r') (o':=o') (u:=u) R hS;refine#[λa g h e=>?_,λq m=>(R.led q m).pe p,λx m=>?_,λa m=>wV<|R.fd a m]
 ·by_cases z:a=b
  ·subst z;rw[NZ]at e;injection e with e;injection e with e1 e2;rw[<-e2];exact hO
  ·rw[N0 z]at e;exact(R.st a g h e).pe p (NX z).symm id
 ·let(w,c,d):=(R.st b r o hS).mu;exact Tab.Akl (R.tb x m) c d
def Pe.own(s:Ob H H')(h:H b=none):Pe F S H F (NY S b x) H':=by
 have c:∀a w,H a=U w->a≠b:=λa w e z=>by rw[z,h]at e;cases e
 exact#[λa d e=>s _ _ e,λa d q e=>#[(N0<|e.elim (c a _) λ⟨o,e⟩=>c a _ e).trans q,e.lk λw k=>s _ _ k],λa d q e=>by
  rcases e with e|⟨f,o,e⟩
  ·exact#[(N0<|c a _ e).trans q,.inl<|s _ _ e]
  ·exact#[(N0<|c a _ e).trans q,.inr #[f,o,s _ _ e]],λa d q e=>#[(N0<|c a _ e).trans q,s _ _ e],λa C i g q e=>#[(N0<|c a _ e).trans q,s _ _ e]]
def Rp.own(R:Rp K T F H S L)(s:Ob H H')(h:H b=none)(r:Rl)(hO:OD K F (NY S b (r,o)) H' b o):Rp K T F H' (NY S b (r,o)) L:=by
 have p:=Pe.own (F:=F) (S:=S) (x:=(r,o)) s h;refine#[λa d g e=>?_,λq m=>(R.led q m).pe p,λx m=>Tab.same s<|R.tb x m,λa m z=>R.fd a m<|s.free z];by_cases z:a=b
 ·subst z;rw[NZ]at e;injection e with e;injection e with e1 e2;rw[<-e2];exact hO
 ·rw[N0 z]at e;have q:=R.st a d g e;let(u,c,_):=q.mu;exact q.pe p (c.trans (s _ _ c).symm) id
abbrev bW:O->D
 |.l xs=>.l xs
 |.d ks=>.d ks
 |.m ks=>.m ks
 |.i C fs=>.i C fs
def Pe.fix:Pe F S H F (gL S b) H:=by
 have k:∀a,S a=none->gL S b a=none:=λa h=>by
  unfold gL;split
  ·rfl
  ·exact h
 exact#[λa c e=>e,λa c q e=>#[k a q,e],λa c q e=>#[k a q,e],λa c q e=>#[k a q,e],λa C g d q e=>#[k a q,e]]
def Rp.fix(R:Rp K T F H S L)(hS:S b=U (r,o)):Rp K T F H (gL S b) ((bW o,.ref b)::L):=by
 have p:=Pe.fix (F:=F) (S:=S) (H:=H) (b:=b);have n:gL S b b=none:=Az Y;refine Rp.add #[λa s v e=>?_,λq m=>(R.led q m).pe p,R.tb,R.fd] ?_
 ·have z:a≠b:=λz=>by rw[z,n]at e;cases e
  have e:=(Aq z).symm.trans e;exact(R.st a s v e).pe p Y id
 ·have h:=(R.st b r o hS).pe p Y id;cases o with
  |l k=>let(c,j,g):=h;exact AbM.mpr #[b,c,Y,.inl #[n,.inl j],g]
  |d k=>let(c,j,g):=h;exact tR.mpr #[b,c,Y,n,j,g]
  |m k=>let(c,j,g):=h;exact Akp.mpr #[b,c,Y,n,j,g]
  |i C k=>let(t,c,j,u,g):=h;exact Ako.mpr #[b,t,c,Y,n,j,u,g]
def Pe.walk{ob:Cy}(e0:H b=U (.dK v5)):Pe F S H (b::F) S (upd H b<|.Ry ob<|.dK v5):=by
 have d:∀a w,H a=U w->w≠.dK v5->a≠b:=λa w e n z=>by rw[z,e0]at e;exact n (AS e).symm
 have g:∀a c,Rd H a (.lst c)->Rd (upd H b<|.Ry ob<|.dK v5) a (.lst c):=λa c e=>by
  rcases e with e|⟨o,e⟩
  ·exact .inl<|(NX<|d a _ e nofun).trans e
  ·exact .inr #[o,(NX<|d a _ e (λz=>by cases z)).trans e]
 exact #[λa c e=>(NX<|d a _ e nofun).trans e,λa c q e=>#[q,g a c e],λa c q e=>#[q,by
  by_cases z:a=b
  ·subst z;rcases e with e|⟨_,o,e⟩
   ·rw[e0]at e;cases e;exact .inr #[AW ..,_,N1]
   ·rw[e0]at e;cases e
  ·rcases e with e|⟨f,o,e⟩
   ·exact .inl<|(NX z).trans e
   ·exact .inr #[AD _ f,o,(NX z).trans e]],λa c q e=>#[q,(NX<|d a _ e nofun).trans e],λa C i h q e=>#[q,(NX<|d a _ e nofun).trans e]]
def Pe.rest{ob:Cy}(e0:H b=U (.Ry ob<|.dK v5)):Pe (b::F) S H F S (upd H b<|.dK v5):=by
 have d:∀a w,H a=U w->w≠.Ry ob _->a≠b:=λa w e n z=>by rw[z,e0]at e;exact n (AS e).symm
 have g:∀a c,Rd H a (.lst c)->Rd (upd H b<|.dK v5) a _:=λa c e=>by
  rcases e with e|⟨o,e⟩
  ·exact .inl<|(NX<|d a _ e nofun).trans e
  ·exact .inr #[o,(NX<|d a _ e (λz=>by cases z)).trans e]
 exact #[λa c e=>(NX<|d a _ e nofun).trans e,λa c q e=>#[q,g a c e],λa c q e=>#[q,by
  by_cases z:a=b
  ·subst z;rcases e with e|⟨_,o,e⟩
   ·rw[e0]at e;cases e
   ·rw[e0]at e;cases e;exact .inl N1
  ·rcases e with e|⟨f,o,e⟩
   ·exact .inl<|(NX z).trans e
   ·exact .inr #[(AB.mp f).resolve_left z,o,(NX z).trans e]],λa c q e=>#[q,(NX<|d a _ e nofun).trans e],λa C i h q e=>#[q,(NX<|d a _ e nofun).trans e]]
def OD.walk{ob:Cy}(e0:H b=U (.dK v5))(h:OD K F S H a o):OD K (b::F) S (upd H b<|.Ry ob<|.dK v5) a o:=by
 by_cases z:a=b
 ·subst z;cases o with
  |l j=>let(g,c,e):=h;rw[e0]at c;cases c
  |d j=>
    let(g,c,e):=h;rcases c with c|⟨_,o,c⟩
    ·rw[e0]at c;cases c;exact#[_,.inr #[AW ..,_,N1],Paired.imp' (λ_ _=>KD.imp λ_ _=>VD.pe<|Pe.walk e0) e]
    ·rw[e0]at c;cases c
  |m j=>let(g,c,e):=h;rw[e0]at c;cases c
  |i C j=>let(k,g,c,n,e):=h;rw[e0]at c;cases c
 ·exact h.pe (Pe.walk e0) (NX z).symm (AD _)
def OD.rest{ob:Cy}(e0:H b=U (.Ry ob<|.dK v5))(h:OD K (b::F) S H a o):OD K F S (upd H b<|.dK v5) a o:=by
 by_cases z:a=b
 ·subst z;cases o with
  |l j=>let(g,c,e):=h;rw[e0]at c;cases c
  |d j=>
    let(g,c,e):=h;rcases c with c|⟨_,o,c⟩
    ·rw[e0]at c;cases c
    ·rw[e0]at c;cases c;exact#[_,.inl N1,Paired.imp' (λ_ _=>KD.imp λ_ _=>VD.pe<|Pe.rest e0) e]
  |m j=>let(g,c,e):=h;rw[e0]at c;cases c
  |i C j=>let(k,g,c,n,e):=h;rw[e0]at c;cases c
 ·have p:=Pe.rest (F:=F) (S:=S) e0;cases o with
  |l j=>let(g,c,e):=h;exact#[g,(NX z).trans c,Paired.imp' (λ_ _=>VD.pe p) e]
  |d j=>
    let(g,c,e):=h;refine#[g,?_,Paired.imp' (λ_ _=>KD.imp λ_ _=>VD.pe p) e];rcases c with c|⟨f,o,c⟩
    ·exact .inl<|(NX z).trans c
    ·exact .inr #[(AB.mp f).resolve_left z,o,(NX z).trans c]
  |m j=>let(g,c,e):=h;exact#[g,(NX z).trans c,Paired.imp' (λ_ _=>KD.imp λ_ _=>VD.pe p) e]
  |i C j=>let(k,g,c,n,e):=h;exact#[k,g,(NX z).trans c,n,Paired.imp' (λ_ _=>KD.imp λ_ _=>VD.pe p) e]
def Rp.walk{ob:Cy}(R:Rp K T F H S L)(e0:H b=U (.dK v5)):Rp K T (b::F) (upd H b<|.Ry ob<|.dK v5) S L:=#[λa r o e=>(R.st a r o e).walk e0,λq m=>(R.led q m).pe (Pe.walk e0),λx m=>Tab.Akl (R.tb x m) e0 Bk,λa m=>by
  rcases AB.mp m with rfl|m
  ·rw[N1];nofun
  ·exact wV<|R.fd a m]
def Rp.rest{ob:Cy}(R:Rp K T (b::F) H S L)(e0:H b=U (.Ry ob<|.dK v5)):Rp K T F (upd H b<|.dK v5) S L:=#[λa r o e=>(R.st a r o e).rest e0,λq m=>(R.led q m).pe (Pe.rest e0),λx m=>Tab.Akl (R.tb x m) e0 Bk,λa m=>wV<|R.fd a<|AD _ m]
end
section
variable{κ:Type}[DecidableEq κ]
def O0(ks:List (κ×D))(k:κ):Option D:=(ks.find? λp=>decide<|p.1=k).map (·.2)
def putD(ks:List (κ×D))(k:κ)(d:D):List (κ×D):=if(ks.any λp=>decide<|p.1=k)=Af then ks.map (λp=>if p.1=k then(p.1,d)else p)else ks++[(k,d)]
def Yz(ks:List (κ×D))(k:κ):List (κ×D):=ks.filter λp=>decide (p.1≠k)
variable{R:D->V->Prop}{ks:List (κ×D)}{vs:List (κ×V)}{k:κ}
def Sv(h:Paired (KD R) ks vs):vs.map (·.1)=ks.map (·.1):=by
 induction h with
 |nil=>rfl
 |cons a _ b=>rw[Au,Au,a.1,b]
def YN(h:Paired (KD R) ks vs):(O0 ks k=none/\PV vs k=none)\/∃d v,O0 ks k=U d/\PV vs k=U v/\R d v:=by
 induction h with
 |nil=>exact .inl #[Y,Y]
 |@cons p q _ _ h1 _ ih=>
   by_cases e:p.1=k
   ·exact .inr #[p.2,q.2,by simp[O0,Bc,e],TK<|h1.1.trans e,h1.2]
   ·rw[Si λz=>e<|h1.1.symm.trans z];unfold O0 at *;rw[HM<|by simpa using e];exact ih
def nD(h:Paired (KD R) ks vs)(e:O0 ks k=U d):∃v,PV vs k=U v/\R d v:=by
 rcases YN h with⟨a,_⟩|⟨c,v,a,b,r⟩
 ·rw[e]at a;cases a
 ·rw[e]at a;cases a;exact#[v,b,r]
def AhL(h:Paired (KD R) ks vs):(PV vs k).isSome=(O0 ks k).isSome:=by rcases YN h with⟨b,a⟩|⟨c,v,b,a,_⟩<;>rw[b,a]<;>rfl
def AiL(h:Paired (KD R) ks vs):(vs.any λp=>decide<|p.1=k)=ks.any λp=>decide (p.1=k):=by
 induction h with
 |nil=>rfl
 |cons a _ b=>rw[C3,C3,a.1,b]
def aZ{α β:Type}{G:α->β->Prop}{as:List α}{bs:List β}{a:α}{b:β}(h:Paired G as bs)(r:G a b):Paired G (as++[a]) (bs++[b]):=by
 induction h with
 |nil=>exact .cons r .nil
 |cons c _ d=>exact .cons c d
def nC(h:Paired (KD R) ks vs)(r:R d v):Paired (KD R) (putD ks k d) (putK vs k v):=by
 have a:Paired (KD R) (ks.map λp=>if p.1=k then(p.1,d)else p) (vs.map λp=>if p.1=k then(p.1,v)else p):=by
  induction h with
  |nil=>exact .nil
  |@cons p q _ _ a _ ih=>
    rw[Au,Au];refine .cons ?_ ih;rw[a.1];split
    ·exact#[Y,r]
    ·exact a
 unfold putD putK;rw[AiL h];split
 ·exact a
 ·exact aZ h #[Y,r]
def yB(h:Paired (KD R) ks vs):Paired (KD R) (Yz ks k) (Tc vs k):=by
 induction h with
 |nil=>exact .nil
 |cons h1 h2 ih=>
   unfold Yz Tc at *;rw[Dz,Dz,h1.1];split
   ·exact .cons h1 ih
   ·exact ih
end
def sA(f:Ay)(d:D):Mf->Mf
 |[]=>[(f,d)]
 |(g,x)::r=>if g=f then(g,d)::r else(g,x)::sA f d r
def AfG{R:D->V->Prop}{fs:Mf}{gs:L5}(h:Paired (KD R) fs gs):∀{d:D},fs.lookup f=U d->∃v,gs.lookup f=U v/\R d v:=by
 induction h with
 |nil=>intro d e;cases e
 |@cons p q _ _ h1 _ ih=>
   intro d e;let(a,x):=p;let(b,y):=q;have c:=h1.1;subst c;rw[BZ]at e ⊢;by_cases z:f=b
   ·subst z;simp only[F5]at e ⊢;cases e;exact#[y,Y,h1.2]
   ·rw[Gm z]at e ⊢;exact ih e
def jZ{R:D->V->Prop}{fs:Mf}{gs:L5}(h:Paired (KD R) fs gs):fs.lookup f=none->gs.lookup f=none:=by
 induction h with
 |nil=>intro e;rfl
 |@cons p q _ _ h1 _ ih=>
   intro e;let(a,x):=p;let(b,y):=q;have c:=h1.1;subst c;rw[BZ]at e ⊢;by_cases z:f=b
   ·subst z;simp only[F5]at e;cases e
   ·rw[Gm z]at e ⊢;exact ih e
def AfH{R:D->V->Prop}{fs:Mf}{gs:L5}(h:Paired (KD R) fs gs)(r:R d v):Paired (KD R) (sA f d fs) (SS f v gs):=by
 induction h with
 |nil=>exact .cons #[Y,r] .nil
 |@cons p q _ _ h1 h2 ih=>
   let(a,x):=p;have b:=h1.1;subst b;unfold sA SS;split
   ·exact .cons #[Y,r] h2
   ·exact .cons h1 ih
def vU{gs:L5}(h:g∈(SS f v gs).map (·.1)):g=f\/g∈gs.map (·.1):=by
 induction gs with
 |nil=>exact .inl<|An.mp h
 |cons p r ih=>
   unfold SS at h;split at h
   ·exact .inr h
   ·rcases AB.mp h with h|h
    ·exact .inr (by rw[h];exact AW ..)
    ·rcases ih h with h|h
     ·exact .inl h
     ·exact .inr (AD _ h)
def Is(S:N9)(L:Mw)(x:V)(o:O):Prop:=(∃a r,x=.ref a/\S a=U (r,o))\/(bW o,x)∈L
section
variable{K:Ab}{T:Mi}{F:LL}{H:Hp}{S:N9}{L:Mw}{Q:VK}{o:O}{d e:D}{x y v:V}{a C:Ae}{r:Rl}{ks:LY}{km:Mm}{fs:Mf}{xs ds:LO}{vs dvs:LM}{f m z:Ay}{i:Int}{k:Ma}{sp:Sp}{t:TA}{J:St}{E:XK}
def OR(K:Ab)(F:LL)(S:N9)(H:Hp)(a:Ae):O->Prop
 |.l xs=>∃vs,PX K H a vs/\Paired (VD K F S H) xs vs
 |.d ks=>∃v5,Ahl F H a (.dK v5)/\Paired (KD<|VD K F S H) ks v5
 |.m ks=>∃v5,H a=U (.dT v5)/\Paired (KD<|VD K F S H) ks v5
 |.i C fs=>∃dx gs,H a=U (.ins C dx gs)/\xC K C gs/\Paired (KD<|VD K F S H) fs gs
def OD.or(h:OD K F S H a o):OR K F S H a o:=by
 cases o with
 |l e=>let(d,b,c):=h;exact#[d,PX.of b,c]
 |_=>exact h
def Rp.is(R:Rp K T F H S L)(h:Is S L x o):∃a,x=.ref a/\OR K F S H a o:=by
 rcases h with⟨a,r,e,h⟩|h
 ·exact#[a,e,(R.st a r o h).or]
 ·have h:=R.led _ h;cases o with
  |l g=>let(a,b,e,f,c):=AbM.mp h;exact#[a,e,b,f.sq,c]
  |d g=>let(a,b,e,_,f,c):=tR.mp h;exact#[a,e,b,f,c]
  |m g=>let(a,b,e,_,f,c):=Akp.mp h;exact#[a,e,b,f,c]
  |i C g=>let(a,j,b,e,_,f,k,c):=Ako.mp h;exact#[a,e,j,b,f,k,c]
def Rp.tup(R:Rp K T F H S L)(h:(.t ds,x)∈L):∃a vs,x=.ref a/\H a=U (.tup vs)/\Paired (VD K F S H) ds vs:=Zc.mp (R.led _ h)
def Ahl.rd{u:HO}(h:Ahl F H a u):Rd H a u:=by
 rcases h with h|⟨_,o,h⟩
 ·exact .inl h
 ·exact .inr #[o,h]
def aF(R:Rp K T F H S L)(h:Is S L x (.i C fs))(l:fs.lookup f=U d)(k:∀v,VD K F S H d v->Rp K T F H S ((d,v)::L)->Q v H):AlO K f Q x H:=by let(a,rfl,m,g,j,(n,c),b):=R.is h;let(v,e,q):=AfG b l;exact#[a,C,m,g,v,Y,j,n,c f<|dD e,e,k v q<|R.add q]
def aM(R:Rp K T F H S L)(h:Is S L x (.i C fs))(l:fs.lookup m=none)(k:t J H (ApO sp dvs x Q E)):AhI C m sp dvs t J Q E x H:=by let(a,rfl,d,b,e,_,c):=R.is h;exact#[a,d,b,Y,e,jZ c l,k]
def Aqe{Ef:XF}(R:Rp K T F H S L)(h:Is S L x (.i C fs))(l:fs.lookup m=none)(k:t J H (AlQ Ef sp x J Q)):AcI Ef C m sp t J Q x H:=by let(a,rfl,d,b,e,_,c):=R.is h;exact#[a,d,b,Y,e,jZ c l,k]
def AlL{q:Key}(R:Rp K T F H S L)(h:Is S L x (.d ks))(l:O0 ks q=U d)(k:∀v,VD K F S H d v->Q v H):AlK x Q (kV q) H:=by let(a,rfl,b,f,c):=R.is h;let(v,e,w):=nD c l;exact#[a,v,Y,.inl #[b,q,f.rd,Y,e.symm],k v w]
abbrev wM(k:Ma):D:=.t (k.map λq=>.f<|kV q)
def Ahx:∀{k:Ma}{vs:LM},Paired (VD K F S H) (k.map λq=>.f<|kV q) vs->vs=k.map kV
 |[],_,h=>by cases h;rfl
 | q::k,_,h=>by
   cases h with
   |cons a b=>rw[Au,Ou.mp a,Ahx b]
def Rp.key(R:Rp K T F H S L)(h:(wM k,x)∈L):∃b,x=.ref b/\H b=U (.tup<|k.map kV):=by let(b,d,rfl,a,c):=R.tup h;rw[Ahx c]at a;exact#[b,Y,a]
def Aqd(R:Rp K T F H S L)(h:Is S L x (.m km))(hy:(wM k,y)∈L)(l:O0 km k=U d)(c:∀v,Rp K T F H S ((d,v)::L)->Q v H):AlK x Q y H:=by let(a,rfl,f,i,g):=R.is h;let(b,rfl,j):=R.key hy;let(v,e,w):=nD g l;exact#[a,v,Y,.inr #[f,k,b,.inl i,Y,j,e.symm],c v<|R.add w]
def AlM{q:Key}{n:Bool}(R:Rp K T F H S L)(h:Is S L x (.d ks))(k:Q (.bl (if n then !(O0 ks q).isSome else(O0 ks q).isSome)) H):Aoy n (kV q) Q x H:=by let(a,rfl,b,e,c):=R.is h;exact#[a,_,Y,.inl #[b,q,e.rd,Y,Y],by rw[AhL c];exact k]
def Rp.dk(R:Rp K T F H S L)(h:S a=U (r,.d ks))(n:a∉F):∃v5,H a=U (.dK v5)/\Paired (KD<|VD K F S H) ks v5:=by
 obtain⟨v5,b|⟨z,_⟩,c⟩:=R.st a r _ h
 ·exact#[v5,b,c]
 ·exact(n z).elim
def Rp.RO{v5:LP}(R:Rp K T F H S L)(h:S a=U (r,.d ks))(q:Paired (KD<|VD K F S H) ks' v5):Rp K T F (upd H a<|.dK v5) (NY S a (r,.d ks')) L:=R.set h #[v5,.inl N1,Paired.imp' (λ_ _=>KD.imp λ_ _=>VD.pe<|Pe.set R h) q]
def Rp.setM{v5:Mr}(R:Rp K T F H S L)(h:S a=U (r,.m km))(q:Paired (KD<|VD K F S H) km' v5):Rp K T F (upd H a<|.dT v5) (NY S a (r,.m km')) L:=R.set h #[v5,N1,Paired.imp' (λ_ _=>KD.imp λ_ _=>VD.pe<|Pe.set R h) q]
def Rp.Aem{vs:LM}(R:Rp K T F H S L)(h:S a=U (r,.l xs))(q:Paired (VD K F S H) ds vs):Rp K T F (upd H a<|.lst vs) (NY S a (r,.l ds)) L:=R.set h #[vs,N1,Paired.imp' (λ_ _=>VD.pe<|Pe.set R h) q]
def RX(h:S a=none):gL (NY S a x') a=S:=by
 funext b
 unfold gL NY;split
 ·rename_i e;rw[e,h]
 ·rfl
def Rp.fresh(R:Rp K T F H' (NY S a (r,o)) L)(h:S a=none):Rp K T F H' S ((bW o,.ref a)::L):=by have q:=R.fix NZ;rw[RX h]at q;exact q
def Rp.Adf(R:Rp K T F H S L)(h:H a=none)(q:Paired (VD K F S H) ds vs):Rp K T F (upd H a<|.tup vs) S ((.t ds,.ref a)::L):=
 have s:=(Ob.refl H).upd h
 (R.same s).add (Zc.mpr #[a,vs,Y,N1,Paired.imp' (λ_ _=>VD.pe<|Pe.Qo s.n) q])
def AlT{v5:LP}(h:v5.map (·.1)=ks.map (·.1)):Paired (VD K F S H) (ks.map λp=>.f<|kV p.1) (v5.map λp=>kV p.1):=by
 have c:ks.map (λp=>D.f<|kV p.1)=(ks.map (·.1)).map λq=>D.f (kV q):=by rw[As];rfl
 have d:v5.map (λp=>kV p.1)=(ks.map (·.1)).map kV:=by rw[<-h,As];rfl
 rw[c,d];generalize ks.map _=a;induction a with
 |nil=>exact .nil
 |cons q a b=>exact .cons .f b
def rX{α β:Type}{G:α->β->Prop}{xs:List α}{ys:List β}(h:Paired G xs ys):∀{j:Nat}{x:α},xs[j]?=U x->∃y,ys[j]?=U y/\G x y:=by
 induction h with
 |nil=>intro j x e;simp at e
 |cons h1 _ ih=>
   intro j x e;cases j with
   |zero=>cases e;exact#[_,Y,h1]
   |succ j=>exact ih e
def AdT{α β:Type}{G:α->β->Prop}{xs:List α}{ys:List β}{x:α}(h:Paired G xs ys)(e:fZ xs i=U x):∃y,fZ ys i=U y/\G x y:=by
 unfold fZ at *;rw[<-AJ h];cases z:AbS _ i with
 |none=>rw[z]at e;cases e
 |some j=>rw[z]at e;exact rX h e
def Aqf(R:Rp K T F H S L)(h:Is S L x (.l xs))(e:fZ xs i=U d)(k:∀v,Rp K T F H S ((d,v)::L)->Q v H):Amx K x (.int i) H Q:=by let(a,rfl,g,b,f):=R.is h;let(v,c,w):=AdT f e;exact#[a,g,i,v,Y,Y,b,c,k v<|R.add w]
def Aqg(R:Rp K T F H S L)(h:(.t xs,x)∈L)(e:fZ xs i=U d)(k:∀v,Rp K T F H S ((d,v)::L)->Q v H):Amy K x (.int i) H Q:=by let(a,g,rfl,b,f):=R.tup h;let(v,c,w):=AdT f e;exact#[a,g,i,v,Y,Y,RE.of b,c,k v<|R.add w]
def Sa:NY (NY S a x') a y'=NY S a y':=by
 funext b
 unfold NY;split<;>rfl
end
section
open PySem.W
end
section
def RW(e:Ent):D:=.t [.f<|.int e.1,.f<|iG e.2]
def Pa(E:O7):D:=.d (E.map λe=>(.inr e.1,RW e.2))
def QU(Hs:QI):D:=.d (Hs.map λe=>(.inr e.1,.t<|e.2.map λn=>.f<|.int n))
def tU(C:Ae)(L:Lt):D:=.i C [("number",.f<|.int L.num),("label",.f<|.str L.OQ),("ask",.f<|oI L.ask),("house",.f<|.str L.Pn),("key",.f<|.int L.key),("state",Pa L.Xk)]
def Aid(p:Ay×Int):D:=.t [.f<|.str p.1,.f<|.int p.2]
def Aal(C:Ae)(h:Ae)(B:Ak):O:=.i C [("kind",.f<|.str B.kind),("asker",.f<|.str B.Pb),("key",.f<|.int B.key),("enough",.f<|.int B.QF),("gathered",Pa B.RY),("ahead",.l<|B.ahead.map Aid),("heard",.f<|.ref h),("stage",.f<|.str B.Pf)]
def bD(C:Ae)(s:Ae)(T:PY):O:=.i C [("key",.f<|.int T.key),("copies",.f<|.int T.c),("reads",.f<|.int T.r),("writes",.f<|.int T.w),("shelves",.f<|.ref s)]
def RO(L:LK):LY:=L.map λz=>(.inr z,.f<|.bl Af)
def Uo(S:L4):LY:=S.map λe=>(.inr e.1,Pa e.2)
def Pt(w:QJ)(k:Int):Option PY:=w.Ts.find? λT=>decide (T.key=k)
def Sm(C:WC)(A:WR->Ae)(w:QJ):WR->Option O
 |.top=>U<|.i C.W [("there",QU w.Hs),("declared",.f<|.ref<|A .decl),("absent",.f<|.ref<|A .Ab2),("left",.f<|.ref<|A .left),("post",.f<|.ref<|A .post),("asks",.f<|.ref<|A .asks),("learnt",.f<|.ref<|A .Ai5)]
 |.decl=>U<|.d<|w.Ts.map λT=>(.inl T.key,.f<|.ref<|A<|.Oz T.key)
 |.Ab2=>U<|.d<|RO w.away
 |.left=>U<|.i C.H [("kept",.f<|.ref<|A .kept)]
 |.kept=>U<|.m<|w.hints.map λe=>(Ajf e.1,Pa e.2)
 |.post=>U<|.i C.P [("sent",.f<|.int w.O6),("under_way",.f<|.ref<|A .uw)]
 |.uw=>U<|.d<|w.Ls.map λL=>(.inl L.num,tU C.L L)
 |.asks=>U<|.i C.S [("begun",.f<|.ref<|A .begun)]
 |.begun=>U<|.l<|(Ba w.Ms.length).map λn=>.f<|.ref<|A<|.ask n
 |.Ai5=>U<|.m<|w.QL.map λe=>(Sx e.1,Pa e.2)
 |.Oz k=>(Pt w k).map (bD C.T<|A<|.Uq k)
 |.Uq k=>(Pt w k).map λT=>.d<|Uo T.sh
 |.ask n=>w.Ms[n]?.map (Aal C.A<|A<|.N3 n)
 |.N3 n=>w.Ms[n]?.map λB=>.d (RO B.N3)
def Ox(C:WC)(i:Nat)(A:WR->Ae)(w:QJ)(S:N9):Prop:=∀x o,Sm C A w x=U o->S (A x)=U (.wd i x,o)
def Fr(i:Nat)(S S':N9):Prop:=∀a r o,S a=U (r,o)->(∀x,r≠.wd i x)->S' a=U (r,o)
section
variable{C:WC}{i:Nat}{A:WR->Ae}{w w':QJ}{S S':N9}{y:WR}{o:O}
def Fr.refl:Fr i S S:=λ_ _ _ h _=>h
def Fr.trans(h:Fr i S S')(k:Fr i S' S''):Fr i S S'':=λa r o e n=>k a r o (h a r o e n) n
def Fr.set(h:S a=U (.wd i y,o)):Fr i S (NY S a x):=λb r c e n=>(N0 λz=>by rw[z,h]at e;injection e with e;injection e with e;exact n _ e.symm).trans e
def Fr.new(h:S a=none):Fr i S (NY S a x):=λb r c e n=>(N0 λz=>by rw[z,h]at e;cases e).trans e
def Ox.ne(h:Ox C i A w S)(e:Sm C A w x=U o)(e':Sm C A w y=U o')(n:x≠y):A x≠A y:=T8 (h x o e) (h y o' e') λz=>by injection z with _ z;exact n z
def Ox.upd(h:Ox C i A w S)(y:WR)(e0:Sm C A w y=U ov)(e1:Sm C A w' y=U o)(e:∀x,x≠y->Sm C A w' x=Sm C A w x):Ox C i A w' (NY S (A y) (.wd i y,o)):=λx b a=>by
 by_cases z:x=y
 ·subst z;rw[e1]at a;cases a;exact NZ
 ·rw[e x z]at a;exact(N0<|h.ne a e0 z).trans (h x b a)
def Ox.new(h:Ox C i A w S)(n:S a=none):Ox C i A w (NY S a x):=λy o e=>(N0 λz=>by have:=h y o e;rw[z,n]at this;cases this).trans (h y o e)
def T9{w:QJ}(tok:US w.Ts)(hT:T∈w.Ts):Pt w T.key=U T:=by
 unfold Pt;have a:=tok.nd;clear tok;generalize w.Ts=Ts at *;induction Ts with
 |nil=>cases hT
 |cons x xs ih=>
   rw[Au,Bb]at a;rcases AB.mp hT with rfl|hT
   ·rw[Bc,Ao Y]
   ·rw[Bc,Ar λz=>a.1 (by rw[z];exact AH hT)];exact ih hT a.2
end
section
variable{κ α:Type}[DecidableEq κ]{g:α->κ}{c:α->D}
def Qb(xs:List α)(k:κ):O0 (xs.map λx=>(g x,c x)) k=(xs.find? λx=>decide<|g x=k).map c:=by
 unfold O0;induction xs with
 |nil=>rfl
 |cons x xs ih=>
   rw[Au,Bc,Bc];by_cases e:g x=k
   ·simp[e]
   ·simp only[e,decide_false];exact ih
def T5(xs:List α)(e:α):putD (xs.map λx=>(g x,c x)) (g e) (c e)=(P2 g xs e).map λx=>(g x,c x):=by
 unfold putD P2;rw[List.any_map];show(if(xs.any λx=>decide _)=Af then _ else _)=_;split
 ·rw[As,As];refine A4 λx _=>?_
  show(if g x=g e then(g x,c e)else(g x,c x))=(g (if g x=g e then e else x),c (if g x=g e then e else x));split
  ·rename_i h;rw[h]
  ·rfl
 ·rw[AU];rfl
def lW(xs:List α)(k:κ):Yz (xs.map λx=>(g x,c x)) k=(xs.filter λx=>decide<|g x≠k).map λx=>(g x,c x):=by unfold Yz;rw[Fp];rfl
end
def pB(L:LK)(z:Ay):(O0 (RO L)<|.inr z).isSome=decide (z∈L):=by unfold RO;rw[Qb,Di];rw[BN,Gb,Bx];refine#[λ⟨x,a,e⟩=>?_,λh=>#[z,h,Ao Y]];have e:=Bv e;injection e with e;exact e▸a
def AeF(S:L4)(z:Ay):(O0 (Uo S)<|.inr z).isSome=decide (z∈S.map (·.1)):=by
 unfold Uo;rw[Qb,Di];rw[BN,Gb,Bx];refine#[λ⟨x,a,e⟩=>?_,λh=>?_]
 ·have e:=Bv e;injection e with e;exact e▸AH a
 ·let(x,a,e):=AE.mp h;exact#[x,a,Ao<|by rw[e]]
def pC(S:L4)(z:Ay):(O0 (Uo S)<|.inr z).getD (Pa [])=Pa (P6 S z):=by unfold Uo P6;rw[Qb];cases S.find? λe=>decide ((.inr e.1:Key)=.inr z)<;>rfl
def pA(L:L6)(z:Ay)(k:Int):(O0 (L.map λe=>(Sx e.1,Pa e.2))<|Sx (z,k)).getD (Pa [])=Pa (OF L z k):=by unfold OF;rw[Qb];cases L.find? λe=>decide (Sx e.1=Sx _)<;>rfl
def AcB(L:List Anc)(e:Ay×Ay×Int):O7:=((L.find? λx=>decide<|Ajf x.1=Ajf e).map (·.2)).getD []
section
variable{K:Ab}{F:LL}{S:N9}{H:Hp}
def Akn:VD K F S H (RW e) v->∃t,v=.ref t/\H t=U (.tup [.int e.1,iG e.2]):=λh=>by
 let(t,f,rfl,d,c):=Zc.mp h;cases c with
 |cons a c=>
   cases c with
   |cons b c=>cases c;rw[Ou.mp a,Ou.mp b]at d;exact#[t,Y,d]
def Aj8{E:O7}{v5:LP}(h:Paired (KD<|VD K F S H) (E.map λe=>(.inr e.1,RW e.2)) v5):Ae2 K H E v5:=by
 induction E generalizing v5 with
 |nil=>cases h;exact Ae2.nil
 |cons e E ih=>
   cases h with
   |@cons p q ps qs h1 h2=>let(k,v):=q;let(t,rfl,a):=Akn h1.2;have b:k=.inr e.1:=h1.1;rw[b];exact Ae2.cons (RE.of a) (ih h2)
def Aeu(h:VD K F S H (Pa E) v):∃a v5,v=.ref a/\Rd H a (.dK v5)/\(a∉F->H a=U (.dK v5))/\Ae2 K H E v5:=by
 let(a,v5,rfl,_,b,c):=tR.mp h;refine#[a,v5,Y,b.rd,λn=>?_,Aj8 c];rcases b with b|⟨z,_⟩
 ·exact b
 ·exact(n z).elim
end
def Zt(w:QJ)(OQ:Ay)(ask:LW)(Pn:Ay)(key:Int)(E:O7):QJ:={w with O6:=w.O6+1,Ls:=w.Ls++[#[w.O6+1,OQ,ask,Pn,key,E]]}
def Ag7{Ls:Mq}{C:Ae}(L:Lt)(h:∀M∈Ls,M.num<L.num):U (O.d<|(Ls++[L]).map λL=>(.inl L.num,tU C L))=U (.d<|putD (Ls.map λL=>((.inl L.num:Key),tU C L)) (.inl L.num)<|tU C L):=by rw[T5 Ls L,XY];intro m;let(M,a,e):=AE.mp m;injection e with e;have:=h M a;omega
abbrev QD:=D->N9->Prop
abbrev Lc:=List (Option D)
abbrev DE:=LL->Lc->N9->QD->Prop
abbrev Mp:=List (DE×DE)
abbrev DT:=LL->Lc->N9->(Bool->N9->Prop)->Prop
abbrev DA:=LL->Lc->N9->(LO->N9->Prop)->Prop
structure pM where
 nx:Lc->N9->Prop
 rt:QD
 bk:Lc->N9->Prop:=λ_ _=>False
 ct:Lc->N9->Prop:=λ_ _=>False
abbrev DS:=LL->pM->Lc->N9->Prop
abbrev TN:=Mi
section
variable{F F1 F2:LL}{S S1 S2:N9}{H H1 H2:Hp}
def Pe.refl:Pe F S H F S H:=#[λ_ _ h=>h,λ_ _ h k=>#[h,k],λ_ _ h k=>#[h,k],λ_ _ h k=>#[h,k],λ_ _ _ _ h k=>#[h,k]]
def Pe.trans(p:Pe F S H F1 S1 H1)(q:Pe F1 S1 H1 F2 S2 H2):Pe F S H F2 S2 H2:=#[λa b h=>q.t _ _<|p.t _ _ h,λa b h k=>q.l _ _ (p.l _ _ h k).1 (p.l _ _ h k).2,λa b h k=>q.d _ _ (p.d _ _ h k).1 (p.d _ _ h k).2,λa b h k=>q.m _ _ (p.m _ _ h k).1 (p.m _ _ h k).2,λa C e c h k=>q.i _ _ _ _ (p.i _ _ _ _ h k).1 (p.i _ _ _ _ h k).2]
def AnI:HO->Prop
 |.Ry _ _=>False
 |_=>True
structure Px(F:LL)(S:N9)(H:Hp)(F':LL)(S':N9)(H':Hp):Prop extends Pe F S H F' S' H' where
 z:∀a∈F,a∈F'->∀o u,H a=U (.Ry o u)->H' a=U (.Ry o u)
def Px.refl:Px F S H F S H:=#[.refl,λ_ _ _ _ _ h=>h]
def Px.trans(p:Px F S H F S1 H1)(q:Px F S1 H1 F S2 H2):Px F S H F S2 H2:=#[p.toPe.trans q.toPe,λa m _ o u h=>q.z a m m o u<|p.z a m m o u h]
def Px.Qo(s:Pl H H1):Px F S H F S H1:=#[.Qo s,λa _ _ o u h=>s.keep _ _ nofun h]
def Px.own(s:Ob H H1)(h:H b=none):Px F S H F (NY S b x) H1:=#[.own s h,λa _ _ o u e=>s _ _ e]
def Px.fix:Px F S H F (gL S b) H:=#[.fix,λ_ _ _ _ _ h=>h]
def Px.set{K:Ab}{T:Mi}{u0 u:HO}(R:Rp K T F H S L)(hS:S b=U (r,o))(e0:H b=U u0:=by assumption)(nf:AnI u0:=by trivial):Px F S H F (NY S b (r',o')) (upd H b u):=#[.set R hS,λa _ _ o v e=>by
 rw[NX]
 ·exact e
 ·intro z;rw[z,e0]at e;cases e;exact nf]
end
section
variable(K:Ab)(F:LL)(S:N9)(H:Hp)
def Ap7(o:Option D)(x:Mn):Prop:=∀d,o=U d->∃v,x=U v/\VD K F S H d v
abbrev Lo(loc:Lc)(J:St):Prop:=Paired (Ap7 K F S H) loc J
abbrev Zh(ds:LO)(vs:LM):Prop:=Paired (VD K F S H) ds vs
variable(T:TN)
def Nx(Q':QD)(Q:VK):Prop:=∀d S1 H1 v,Px F S H F S1 H1->Rp K T F H1 S1 []->VD K F S1 H1 d v->Q' d S1->Q v H1
end
section
variable{K:Ab}{T:TN}{F F':LL}{S S1 S':N9}{H H1 H':Hp}{loc:Lc}{J:St}{ds:LO}{vs:LM}{d:D}{v:V}{o:O}
def VD.px(p:Px F S H F' S' H')(h:VD K F S H d v):VD K F' S' H' d v:=h.pe p.toPe
def Lo.px(p:Px F S H F' S' H')(h:Lo K F S H loc J):Lo K F' S' H' loc J:=Paired.imp' (λ_ _ q d e=>let⟨v,z,w⟩:=q d e;#[v,z,w.px p]) h
def Zh.px(p:Px F S H F' S' H')(h:Zh K F S H ds vs):Zh K F' S' H' ds vs:=Paired.imp' (λ_ _=>VD.px p) h
def Nx.px{Q':QD}{Q:VK}(p:Px F S H F S1 H1)(h:Nx K F S H T Q' Q):Nx K F S1 H1 T Q' Q:=λd a b v q=>h d a b v (p.trans q)
def Ra(S:N9)(d:D)(o:O):Prop:=d=bW o\/∃a r,d=.f (.ref a)/\S a=U (r,o)
def OK(h:Ra S d o)(w:VD K F S H d v):Is S [(d,v)] v o:=by
 rcases h with rfl|⟨a,r,rfl,h⟩
 ·exact .inr<|.head _
 ·exact .inl #[a,r,Ou.mp w,h]
def Rp.one(R:Rp K T F H S [])(w:VD K F S H d v):Rp K T F H S [(d,v)]:=R.add w
def Rp.two(R:Rp K T F H S [])(w:VD K F S H d v)(w':VD K F S H e x):Rp K T F H S [(d,v),(e,x)]:=(R.add w').add w
def Rp.hd{L:Mw}(R:Rp K T F H S ((d,v)::L)):VD K F S H d v:=R.led _ (.head _)
def Rp.nil{L:Mw}(R:Rp K T F H S L):Rp K T F H S []:=R.sub nofun
abbrev yN:Lc->Nat->Option D
 |[],_=>none
 |a::_,0=>a
 |_::t,n+1=>yN t n
abbrev lC:Lc->Nat->D->Lc
 |[],_,_=>[]
 |_::t,0,d=>U d::t
 |a::t,n+1,d=>a::lC t n d
def Lo.get:∀{loc:Lc}{J:St}{i:Nat},Lo K F S H loc J->yN loc i=U d->∃v,Aji J i=U v/\VD K F S H d v
 |_,_,0,.cons h _,e=>h d e
 |_,_,n+1,.cons _ t,e=>Lo.get (i:=n) t e
def Lo.set(w:VD K F S H d v):∀{loc:Lc}{J:St}{i:Nat},Lo K F S H loc J->Lo K F S H (lC loc i d) (AgZ J i v)
 |_,_,_,.nil=>.nil
 |_,_,0,.cons _ t=>.cons (λ_ e=>#[v,Y,by cases e;exact w]) t
 |_,_,n+1,.cons h t=>.cons h (Lo.set w (i:=n) t)
end
section
variable(K:Ab)(T:TN)
def lf(t:DE):TE:=λJ H Q=>∃F loc S Q',Rp K T F H S []/\Lo K F S H loc J/\t F loc S Q'/\Nx K F S H T Q' Q
def WZ(t:DT):TT:=λJ H Q=>∃F loc S Q',Rp K T F H S []/\Lo K F S H loc J/\t F loc S Q'/\∀b S1 H1,Px F S H F S1 H1->Rp K T F H1 S1 []->Q' b S1->Q b H1
def iB(t:DA):TA:=λJ H Q=>∃F loc S Q',Rp K T F H S []/\Lo K F S H loc J/\t F loc S Q'/\∀ds S1 H1 vs,Px F S H F S1 H1->Rp K T F H1 S1 []->Zh K F S1 H1 ds vs->Q' ds S1->Q vs H1
structure Ah9(F:LL)(S:N9)(H:Hp)(D':pM)(E:Ends):Prop where
 nx:∀loc S1 H1 J,Px F S H F S1 H1->Rp K T F H1 S1 []->Lo K F S1 H1 loc J->D'.nx loc S1->E.nx J H1
 rt:Nx K F S H T D'.rt E.rt
 bk:∀loc S1 H1 J,Px F S H F S1 H1->Rp K T F H1 S1 []->Lo K F S1 H1 loc J->D'.bk loc S1->E.bk J H1
 ct:∀loc S1 H1 J,Px F S H F S1 H1->Rp K T F H1 S1 []->Lo K F S1 H1 loc J->D'.ct loc S1->E.ct J H1
def Rx(t:DS):TS:=λE J H=>∃F loc S D',Rp K T F H S []/\Lo K F S H loc J/\t F D' loc S/\Ah9 K T F S H D' E
end
def Ah9.px{K:Ab}{T:TN}{D':pM}{E:Ends}(p:Px F S H F S1 H1)(h:Ah9 K T F S H D' E):Ah9 K T F S1 H1 D' E:=#[λa b c J q=>h.nx a b c J<|p.trans q,h.rt.px p,λa b c J q=>h.bk a b c J<|p.trans q,λa b c J q=>h.ct a b c J<|p.trans q]
def PT.imp{X:Cx}{t u:TT}(h:PT X e t)(m:∀J H Q,u J H Q->t J H Q):PT X e u:=λa s J H Q I b=>h a s J H Q I (m J H Q b)
def PA.imp{X:Cx}{t u:TA}(h:PA X es t)(m:∀J H Q,u J H Q->t J H Q):PA X es u:=λb a s J H Q I c=>h b a s J H Q I (m J H Q c)
def PS.imp{X:Cx}{st:Bi}{t u:TS}(h:PS X st t)(m:∀E J H,u E J H->t E J H):PS X st u:=λa s J H E I b=>h a s J H E I (m E J H b)
def QB.imp{X:Cx}{st:Me}{t u:TS}(h:QB X st t)(m:∀E J H,u E J H->t E J H):QB X st u:=λa s J H E I b=>h a s J H E I (m E J H b)
def PW.imp{X:Cx}{t u:TT}(h:PW X e t)(m:∀J H Q,u J H Q->t J H Q):PW X e u:=λc a s J H Q I b=>h c a s J H Q I (m J H Q b)
abbrev D2:=D->D->LL->N9->QD->Prop
abbrev DN:=LO->LL->N9->QD->Prop
section
variable(X:Cx)(K:Ab)(T:TN)
def Aah(r:R2)(δ:D2):Prop:=∀F S H(Q:VK)(Q':QD)d e x y,Rp K T F H S []->VD K F S H d x->VD K F S H e y->δ d e F S Q'->Nx K F S H T Q' Q->r x y H Q
def AnD(r:LM->Hp->VK->Prop)(δ:DN):Prop:=∀F S H(Q:VK)(Q':QD)ds vs,Rp K T F H S []->Zh K F S H ds vs->δ ds F S Q'->Nx K F S H T Q' Q->r vs H Q
def Yq(f:Ai->Ai->Ir Ai)(δ:D2):Prop:=∃r,TM X f r/\Aah K T r δ
def AnB(δ:D2):Prop:=∃r,AkU X r/\Aah K T r δ
def RD(f:Ai)(δ:DN):Prop:=∃r,QA X f r/\AnD K T r δ
end
section
variable{X:Cx}{K:Ab}{T:TN}{t u t3:DE}{tA uA:DT}{ta:DA}{s:DS}{δ δ':D2}{pos:CQ}{a b c e:Expr}{es rest:L1}{x f:Ay}
def Nx.flat{Q':QD}{Q:VK}{w:V}(R:Rp K T F H S [])(h:Nx K F S H T Q' Q)(q:Q' (.f w) S):Q w H:=h _ _ _ _ .refl R .f q
abbrev oQ(o:Option D)(Q:QD)(S:N9):Prop:=match o with
 |some d=>Q d S
 |none=>False
abbrev lV(i:Nat):DE:=λ_ loc S Q=>oQ (yN loc i) Q S
def ev(i:Nat)(hN:X.N[i]?=U x:=by rfl)(hv:AkY X.env.scope x:=by first|exact B8 rfl|exact Ed (B8 Y)|exact Ed<|Ed Y)(hd:(x==("__debug__":Ay))=Am:=by decide)(hcd:(x==("__classdict__":Ay))=Am:=by decide):PE X (.Name x pos) (lf K T<|lV i):=
 (vS hN hv hd hcd).imp λJ H Q⟨F,a,S,b,R,c,h,k⟩=>by
  show vQ _ Q H;change oQ _ b S at h;cases z:yN a i with
  |none=>rw[z]at h;exact h.elim
  |some d=>rw[z]at h;let(v,e,w):=c.get z;rw[e];exact k d S H v .refl R w h
abbrev dC(v:V):DE:=λ_ _ S Q=>Q (.f v) S
def pV{v:V}(h:PE X e (tC v)):PE X e (lf K T<|dC v):=h.imp λJ H Q⟨F,a,S,b,R,c,h,k⟩=>k.flat R h
def N2{i j pos}:PE X (.Constant (.int i) j pos) (lf K T<|dC<|.int i):=pV PU
def TU{b j pos}:PE X (.Constant (.bool b) j pos) (lf K T<|dC<|.bl b):=pV AhZ
def Xu{j pos}:PE X (.Constant .none j pos) (lf K T<|dC .OH):=pV Ajw
def N8{x j pos}:PE X (.Constant (.str x) j pos) (lf K T<|dC<|.str x):=pV SQ
def QQ{v:V}(hg:Gl X x)(h:lH X.mg x v)(hd:(x==("__debug__":Ay))=Am:=by decide):PE X (.Name x pos) (lf K T<|dC v):=pV (Va hg h hd)
abbrev pY(δ:D2)(t u:DE):DE:=λF loc S Q=>t F loc S λd S1=>u F loc S1 λe S2=>δ d e F S2 Q
def Aah.tr{r:R2}(h:Aah K T r δ):lf K T (pY δ t u) J H Q->AkK r (lf K T t) (lf K T u) J H Q:=λ⟨F,a,S,i,R,f,q,k⟩=>
 #[F,a,S,_,R,f,q,λd m w v b n j o=>#[F,a,m,_,n,f.px b,o,λe g l y c R2 p s=>h F g l Q i d e v y R2 (j.px c) p s<|k.px<|b.trans c]]
def Oy{op:Operator}(h:Yq X K T (Cv op) δ)(ha:PE X a (lf K T t))(hb:PE X b (lf K T u)):PE X (.BinOp a op b pos) (lf K T<|pY δ t u):=by let(r,c,d):=h;exact(PH c ha hb).imp λJ H Q=>d.tr
def bQ{op:CmpOp}(h:Yq X K T (Bh op) δ)(ha:PE X a (lf K T t))(hb:PE X b (lf K T u))(hm:behindInMarks op b=Am:=by first|exact U8 _ Nq Nq|rfl):PE X (.Compare a [op] [b] pos) (lf K T<|pY δ t u):=by let(r,c,d):=h;exact(aY c ha hb hm).imp λJ H Q=>d.tr
def Pk(h:AnB X K T δ)(ha:PE X a (lf K T t))(hb:PE X b (lf K T u))(hs:xD b:=by exactλ_ _=>rfl):PE X (.Subscript a b pos) (lf K T<|pY δ t u):=by let(r,c,d):=h;exact(dM c ha hb hs).imp λJ H Q=>d.tr
abbrev AhH(Q:Bool->N9->Prop):QD:=λd S=>match d with
 |.f (.bl c)=>Q c S
 |_=>False
def YM{Q:Bool->N9->Prop}(h:AhH Q d S):∃c,d=.f (.bl c)/\Q c S:=by
 unfold AhH at h;split at h
 ·exact#[_,Y,h]
 ·exact h.elim
abbrev dB(t:DE):DT:=λF loc S Q=>t F loc S (AhH Q)
def Ak7:WZ K T (dB t) J H Q->tB (lf K T t) J H Q:=λ⟨F,a,S,i,R,g,q,k⟩=>
 #[F,a,S,_,R,g,q,λd e b v p f w h=>by
  let(c,rfl,h):=YM h;rw[Ou.mp w];exact k c e b p f h]
def OL{op:CmpOp}(h:Yq X K T (Bh op) δ)(ha:PE X a (lf K T t))(hb:PE X b (lf K T u))(hm:behindInMarks op b=Am:=by first|exact U8 _ Nq Nq|rfl):PT X (.Compare a [op] [b] pos) (WZ K T<|dB<|pY δ t u):=by
 let(r,m,i):=h;exact(yW m ha hb hm).imp λJ H Q⟨F,e,S,f,R,n,q,k⟩=>i.tr #[F,e,S,AhH f,R,n,q,λd j g v p l w h=>by
  let(c,rfl,h):=YM h;rw[Ou.mp w];exact k c j g p l h]
def Pp(h:PE X e (lf K T t))(he:∀whole,isTrue e X.env whole=(do let v <-whole;standAt e.pos;holding [v] (truthy v)):=by intro _;rfl):PT X e (WZ K T<|dB t):=(Ad2 h he).imp λJ H Q=>Ak7
abbrev uK(t u:DT):DT:=λF loc S Q=>t F loc S λc S1=>Q3 c (u F loc S1 Q) (Q Am S1)
abbrev Ais(t u:DT):DT:=λF loc S Q=>t F loc S λc S1=>Q3 c (Q Af S1) (u F loc S1 Q)
abbrev AaB(t:DT):DT:=λF loc S Q=>t F loc S λc S1=>Q (!c) S1
def Q7(h:PT X a (WZ K T tA)):PT X (.UnaryOp .Not a pos) (WZ K T<|AaB tA):=(Ad1 h).imp λJ H Q⟨F,b,S,i,R,g,q,k⟩=>
 #[F,b,S,_,R,g,q,λc e d p f h=>k _ e d p f h]
def Zd(h:PT X a (WZ K T tA)):PW X (.BoolOp .And [a] pos) (WZ K T tA):=yX h
def TL(h:PT X a (WZ K T tA)):PW X (.BoolOp .Or [a] pos) (WZ K T tA):=AjI h
def w_and(ha:PT X a (WZ K T tA))(hb:PW X (.BoolOp .And (b::rest) pos) (WZ K T uA)):PW X (.BoolOp .And (a::b::rest) pos) (WZ K T<|uK tA uA):=(Ad5 ha hb).imp λJ H Q⟨F,d,S,j,R,g,q,k⟩=>
 #[F,d,S,_,R,g,q,λc e m p f h=>by
  cases c with
  |true=>exact#[F,d,e,j,f,g.px p,h,λb i l n=>k b i l<|p.trans n]
  |false=>exact k _ e m p f h]
def w_or(ha:PT X a (WZ K T tA))(hb:PW X (.BoolOp .Or (b::rest) pos) (WZ K T uA)):PW X (.BoolOp .Or (a::b::rest) pos) (WZ K T<|Ais tA uA):=(Amh ha hb).imp λJ H Q⟨F,d,S,j,R,g,q,k⟩=>
 #[F,d,S,_,R,g,q,λc e m p f h=>by
  cases c with
  |true=>exact k _ e m p f h
  |false=>exact#[F,d,e,j,f,g.px p,h,λb i l n=>k b i l<|p.trans n]]
def PW.nR(h:PW X e (WZ K T tA)):PT X e (WZ K T tA):=h.pt
abbrev Ak6(t u:DE):DE:=λF loc S Q=>t F loc S (AhH λc S1=>Q3 c (u F loc S1 Q)<|Q (.f<|.bl Am) S1)
abbrev Alm(t:DE):DE:=λF loc S Q=>t F loc S (AhH λc S1=>Q (.f<|.bl<|!c) S1)
def Ahv{op}(h:PE X a (lf K T t)):PE X (.BoolOp op [a] pos) (lf K T t):=W8 h
def xP(ha:PE X a (lf K T t))(hb:PE X (.BoolOp .And (b::rest) pos) (lf K T u)):PE X (.BoolOp .And (a::b::rest) pos) (lf K T<|Ak6 t u):=(Adw ha hb).imp λJ H Q⟨F,e,S,j,R,i,q,k⟩=>
 #[F,e,S,_,R,i,q,λd l m v p g w h=>by
  let(c,rfl,h):=YM h;rw[Ou.mp w];cases c with
  |true=>exact#[F,e,l,j,g,i.px p,h,k.px p]
  |false=>exact k _ _ _ _ p g .f h]
def Alv(ha:PE X a (lf K T t)):PE X (.UnaryOp .Not a pos) (lf K T<|Alm t):=(AdG ha).imp λJ H Q⟨F,b,S,i,R,g,q,k⟩=>
 #[F,b,S,_,R,g,q,λd l j v p e w h=>by
  let(c,rfl,h):=YM h;rw[Ou.mp w];exact k _ _ _ _ p e .f h]
abbrev Aqs(c:DT)(t u:DE):DE:=λF loc S Q=>c F loc S λb S1=>Q3 b (t F loc S1 Q) (u F loc S1 Q)
def aP(hc:PT X c (WZ K T tA))(ha:PE X a (lf K T t))(hb:PE X b (lf K T u)):PE X (.IfExp c a b pos) (lf K T<|Aqs tA t u):=(AdC hc ha hb).imp λJ H Q⟨F,d,S,f,R,e,q,k⟩=>
 #[F,d,S,_,R,e,q,λb g j p i h=>by
  cases b with
  |true=>exact#[F,d,g,f,i,e.px p,h,k.px p]
  |false=>exact#[F,d,g,f,i,e.px p,h,k.px p]]
abbrev Aqm(δ δ':D2)(t u v:DE):DE:=λF loc S Q=>t F loc S λd S1=>u F loc S1 λe S2=>δ d e F S2 (AhH λc S3=>Q3 c (v F loc S3 λg S4=>δ' e g F S4 Q)<|Q (.f<|.bl Am) S3)
def lX{op op':CmpOp}(ho:Yq X K T (Bh op) δ)(ho':Yq X K T (Bh op') δ')(ha:PE X a (lf K T t))(hb:PE X b (lf K T u))(hc:PE X c (lf K T t3))(h1:Kq [op,op'] [b,c]=Am:=by with_unfolding_all rfl):PE X (.Compare a [op,op'] [b,c] pos) (lf K T<|Aqm δ δ' t u t3):=by
 let(r,L,Z):=ho;let(r',j0,l2):=ho';refine(rU L j0 ha hb hc h1).imp λJ H Q⟨F,i,S,P,R,j,q,k⟩=>?_
 refine#[F,i,S,_,R,j,q,λd S1 H1 v s O A E=>#[F,i,S1,_,O,j.px s,E,λe M u9 y o D w q2=>?_]];refine Z F M u9 _ _ d e v y D (A.px o) w q2 λg V H3 z l m B I=>?_
 let(c,rfl,h):=YM I;rw[Ou.mp B];have p:=(s.trans o).trans l;cases c with
 |true=>exact#[F,i,V,_,m,j.px p,h,λg W C G n y0 x N=>l2 F W C Q P e g y G y0 (w.px<|l.trans n) x N<|k.px<|p.trans n]
 |false=>exact k _ _ _ _ p m .f h
def kF(f:Ay)(Q:QD):QD:=λd S=>∃C fs x,Ra S d (.i C fs)/\fs.lookup f=U x/\Q x S
abbrev Aio(t:DE)(f:Ay):DE:=λF loc S Q=>t F loc S (kF f Q)
def N5{N4:Hp}[hK:Ol X K N4](h:PE X e (lf K T t))(hb:CA e f X.env (eval e X.env)=eval e X.env:=by rfl):PE X (.Attribute e f pos) (lf K T<|Aio t f):=(AdB h hb).imp λJ H Q⟨F,a,S,n,R,m,q,k⟩=>
 #[F,a,S,_,R,m,q,λd j c v p b w⟨C,o,x,i,l,q⟩=>aF (b.one w) (OK i w) l λy g _=>k x j c y p b g q]
abbrev Afh:DA:=λ_ _ S Q=>Q [] S
abbrev Ahp(t:DE)(r:DA):DA:=λF loc S Q=>t F loc S λd S1=>r F loc S1 λds S2=>Q (d::ds) S2
def NU:PA X [] (iB K T Afh):=Om.imp λJ H Q⟨F,a,S,b,R,c,q,k⟩=>k [] S H [] .refl R .nil q
def NS(he:PE X e (lf K T t))(hr:PA X es (iB K T ta))(hs:AG (e::es) X.env=(Am,eval e X.env)::AG es X.env:=by rfl):PA X (e::es) (iB K T<|Ahp t ta):=(N7 he hr hs).imp λJ H Q⟨F,a,S,o,R,c,q,k⟩=>
 #[F,a,S,_,R,c,q,λd j s v p l w m=>#[F,a,j,_,l,c.px p,m,λu f i r b h g n=>k _ f i _ (p.trans b) h (.cons (w.px b) g) n]]
def aw(F:LL)(o:O)(Q:QD)(S:N9):Prop:=Q (bW o) S\/∃r,∀a,S a=none->a∉F->Q (.f<|.ref a) (NY S a (r,o))
def Pw{Q:QD}(h:Q (bW o) S):aw F o Q S:=.inl h
def RM{Q:QD}(r:Rl)(h:∀a,S a=none->a∉F->Q (.f<|.ref a) (NY S a (r,o))):aw F o Q S:=.inr #[r,h]
def Rp.aw{Q':QD}{Q:VK}{u:HO}{o:O}(R:Rp K T F H S [])(hp:H p=none)(hi:H'=upd H p u)(hO:∀r,OD K F (NY S p (r,o)) H' p o)(h:aw F o Q' S)(k:Nx K F S H T Q' Q):Q (.ref p) H':=by
 subst hi;have s:Ob H (upd H p u):=(Ob.refl H).upd hp;rcases h with h|⟨r,h⟩
 ·have c:=R.own s hp (.own 0) (hO _);have a:=c.fresh<|R.free hp;have b:Px F S H F S _:=Px.Qo s.n;exact k _ _ _ _ b a.nil a.hd h
 ·exact k _ _ _ _ (Px.own s hp) (R.own s hp r<|hO r) .f (h p (R.free hp) λm=>R.fd p m hp)
abbrev Aoa(t:DA):DE:=λF loc S Q=>t F loc S λds S1=>kC (Ee ds.length 1000=Af) (Q (.t ds) S1)
def le_size{n:Nat}(h:Ee n 1000=Af):n<=sizeLine:=by rw[Bf];have:=Fw h;omega
def P1{x1}(h:PA X es (iB K T ta)):PE X (.Tuple es x1 pos) (lf K T<|Aoa ta):=(AdJ h).imp λJ H Q⟨F,b,S,m,R,j,q,k⟩=>
 #[F,b,S,_,R,j,q,λs r f o p g c⟨l,i⟩=>#[by rw[<-AJ c];exact le_size l,λa e=>by
  have d:=g.Adf e c;exact k _ _ _ _ (p.trans<|Px.Qo ((Ob.refl f).upd e).n) d.nil d.hd i]]
abbrev An1(t:DA):DE:=λF loc S Q=>t F loc S λds S1=>kC (Ee ds.length 1000=Af) (aw F (.l ds) Q S1)
def Wh(h:PA X es (iB K T ta)):PE X (.List es pos) (lf K T<|An1 ta):=(vR h).imp λJ H Q⟨F,c,S,n,R,m,q,k⟩=>
 #[F,c,S,_,R,m,q,λg s f e p i d⟨l,j⟩=>#[by rw[<-AJ d];exact le_size l,λa b=>
  i.aw (o:=.l g) b Y (λr=>#[e,N1,Paired.imp' (λ_ _=>VD.px<|Px.own ((Ob.refl f).upd b) b) d]) j (k.px p)]]
abbrev AkE:DE:=λF _ S Q=>aw F (.d []) Q S
abbrev Aqn:DE:=λF _ S Q=>aw F (.m []) Q S
def OA:PE X (.Dict [] [] pos) (lf K T AkE):=Ady.imp λJ H Q⟨F,c,S,e,R,f,q,k⟩a b=>R.aw (o:=.d []) b Y (λr=>#[[],.inl N1,.nil]) q k
def aO:PE X (.Dict [] [] pos) (lf K T Aqn):=Adz.imp λJ H Q⟨F,c,S,d,R,e,q,k⟩a b=>R.aw (o:=.m []) b Y (λr=>#[[],N1,.nil]) q k
abbrev AnV(δ:DN)(t:DA):DE:=λF loc S Q=>t F loc S λds S1=>δ ds F S1 Q
def AnD.tr{r:LM->Hp->VK->Prop}{δ:DN}(h:AnD K T r δ):lf K T (AnV δ ta) J H Q->Apm r (iB K T ta) J H Q:=λ⟨F,a,S,b,R,l,q,k⟩=>
 #[F,a,S,_,R,l,q,λe f d c p g j i=>h F f d Q b e c g j i<|k.px p]
def O4{δ:DN}{id:String}{p:CQ}(hc:RD X K T (.builtin id) δ)(hg:Gl X x)(hm:X.mg x=none)(hv:BG x=U (.builtin id))(ha:PA X (e::es) (iB K T ta))(hn:x≠"__name__":=by decide)(hdb:(x==("__debug__":Ay))=Am:=by decide)(he:AG (e::es) X.env=(Am,eval e X.env)::AG es X.env:=by rfl)(hpl:(BP pos<|AG es X.env).any (·.1)=Am:=by rfl):PE X (.Call (.Name x p) (e::es) [] pos) (lf K T<|AnV δ ta):=by let(r,a,b):=hc;exact(Ph a hg hm hv ha hn hdb he hpl).imp λJ H Q=>b.tr
def OY{δ:DN}{Ty:String}{p:CQ}(hc:RD X K T (.type Ty) δ)(hg:Gl X x)(hm:X.mg x=none)(hv:BG x=U (.type Ty))(ha:PA X (e::es) (iB K T ta))(hn:x≠"__name__":=by decide)(hdb:(x==("__debug__":Ay))=Am:=by decide)(he:AG (e::es) X.env=(Am,eval e X.env)::AG es X.env:=by rfl)(hpl:(BP pos<|AG es X.env).any (·.1)=Am:=by rfl):PE X (.Call (.Name x p) (e::es) [] pos) (lf K T<|AnV δ ta):=by let(r,a,b):=hc;exact(Y0 a hg hm hv ha hn hdb he hpl).imp λJ H Q=>b.tr
end
abbrev DP:=LL->LO->N9->QD->Prop
def cn(K:Ab)(T:TN)(p:DP):Sp:=λvs H Q _=>∃F S ds Q',Rp K T F H S []/\Zh K F S H ds vs/\p F ds S Q'/\Nx K F S H T Q' Q
def fz(Q:QD):QD:=λd S=>Q d S\/∃a r o,d=.f (.ref a)/\S a=U (r,o)/\Q (bW o) (gL S a)
def OP{Q:QD}(h:Q d S):fz Q d S:=.inl h
def gM{Q:QD}(e:S a=U (r,o))(h:Q (bW o) (gL S a)):fz Q (.f<|.ref a) S:=.inr #[a,r,o,Y,e,h]
section
variable{X:Cx}{K:Ab}{T:TN}{t u:DE}{tA:DT}{ta:DA}{s s':DS}{pos:CQ}{a b c e o:Expr}{es rest:L1}{x f:Ay}{p:DP}
def Nx.fz{Q':QD}{Q:VK}(h:Nx K F S H T Q' Q):Nx K F S H T (fz Q') Q:=λd f c v p R w q=>by
 rcases q with q|⟨a,r,o,rfl,e,q⟩
 ·exact h d f c v p R w q
 ·rw[Ou.mp w];have b:=R.fix e;exact h _ _ _ _ (p.trans Px.fix) b.nil b.hd q
abbrev Wg:DS:=λ_ D loc S=>D.nx loc S
abbrev gA(t u:DS):DS:=λF D loc S=>t F #[λloc S=>u F D loc S,D.rt,D.bk,D.ct] loc S
def Oe:QB X [] (Rx K T Wg):=yV.imp λE J H⟨F,a,S,c,R,b,q,k⟩=>k.nx a S H J .refl R b q
def NT{st:Bi}{rest:Me}(h1:PS X st (Rx K T s))(h2:QB X rest (Rx K T s')):QB X (st::rest) (Rx K T<|gA s s'):=(OS h1 h2).imp λE J H⟨F,c,S,g,R,h,q,k⟩=>
 #[F,c,S,_,R,h,q,λa d j i p e b f=>#[F,a,d,g,e,b,f,k.px p],k.rt,k.bk,k.ct]
def NV{st:Bi}(h1:PS X st (Rx K T s)):QB X [st] (Rx K T s):=O8 h1
abbrev Ace:DS:=λ_ _ _ _=>False
def RN{st:Bi}:PS X st (Rx K T Ace):=λ_ _ _ _ _ _⟨_,_,_,_,_,_,h,_⟩=>h.elim
def tH{st:Me}:QB X st (Rx K T Ace):=λ_ _ _ _ _ _⟨_,_,_,_,_,_,h,_⟩=>h.elim
abbrev Aca(t:DE):DS:=λF D loc S=>t F loc S λ_ S1=>D.nx loc S1
def Oq(he:PE X e (lf K T t))(hs:swapsWith e none pos.line X.env=pure Am:=by rfl):PS X (.Expr e pos) (Rx K T<|Aca t):=(XU he hs).imp λE J H⟨F,a,S,i,R,b,q,k⟩=>
 #[F,a,S,_,R,b,q,λd f c v p g w h=>k.nx a f c J p g (b.px p) h]
abbrev An5(t:DE):DS:=λF D loc S=>t F loc S (fz D.rt)
def Oh(he:PE X e (lf K T t)):PS X (.Return (U e) pos) (Rx K T<|An5 t):=(QH he).imp λE J H⟨F,a,S,c,R,b,q,k⟩=>#[F,a,S,_,R,b,q,k.rt.fz]
def oM:PS X (.Return none pos) (Rx K T λ_ D _ S=>D.rt (.f .OH) S):=Agx.imp λE J H⟨F,a,S,b,R,c,q,k⟩=>k.rt.flat R q
abbrev pW(c:DT)(t u:DS):DS:=λF D loc S=>c F loc S λb S1=>Q3 b (t F D loc S1) (u F D loc S1)
def O5{a b:Me}(hc:PT X c (WZ K T tA))(ha:QB X a (Rx K T s))(hb:QB X b (Rx K T s')):PS X (.If c a b pos) (Rx K T<|pW tA s s'):=(AdX hc ha hb).imp λE J H⟨F,d,S,i,R,e,q,k⟩=>
 #[F,d,S,_,R,e,q,λb f j p g h=>by
  cases b with
  |true=>exact#[F,d,f,i,g,e.px p,h,k.px p]
  |false=>exact#[F,d,f,i,g,e.px p,h,k.px p]]
abbrev bN(t:DE)(i:Nat):DS:=λF D loc S=>t F loc S λd S1=>D.nx (lC loc i d) S1
def Og{pos':CQ}(hN:X.N.Nodup)(i:Nat)(he:PE X e (lf K T t))(hi:X.N[i]?=U x:=by rfl)(hx:Loc X.env.scope x:=by first|exact B8 rfl|exact Ed Y)(hs:swapsWith e (U<|.Name x pos') pos.line X.env=pure Am:=by rfl)(hf:X.fn x=Af\/X.env.scope.names.lookup x=U .local:=by first|exact .inl rfl|exact .inr rfl|assumption):PS X (.Assign [.Name x pos'] e pos) (Rx K T<|bN t i):=(AdY hN hi hx he hs hf).imp λE J H⟨F,a,S,j,R,b,q,k⟩=>
 #[F,a,S,_,R,b,q,λd f c v p g w h=>k.nx _ f c _ p g ((b.px p).set w) h]
def Anq(K:Ab)(f:Ay)(y:D)(N:N9->Prop)(d:D)(S:N9):Prop:=∃a r C fs,d=.f (.ref a)/\S a=U (r,.i C fs)/\((fs.lookup f).isSome=Af\/Qe K C f)/\Ee fs.length 999=Af/\N (NY S a (r,.i C<|sA f y fs))
abbrev jM(K:Ab)(t v:DE)(f:Ay):DS:=λF D loc S=>v F loc S λy S1=>t F loc S1 λd S2=>Anq K f y (λS3=>D.nx loc S3) d S2
def AcL{R:D->V->Prop}{fs:Mf}{gs:L5}(h:Paired (KD R) fs gs):gs.map (·.1)=fs.map (·.1):=Sv h
def AfP{fs:Mf}(h:(fs.lookup f).isSome=Af):f∈fs.map (·.1):=by
 induction fs with
 |nil=>cases h
 |cons p r ih=>
   let(g,d):=p;rw[BZ]at h;by_cases z:f=g
   ·rw[z];exact AW ..
   ·rw[Gm z]at h;exact AD _ (ih h)
def O1{N4:Hp}[hK:Ol X K N4]{value:Expr}{pos':CQ}(ho:PE X o (lf K T t))(hv:PE X value (lf K T u))(hs:swapsWith value (U<|.Attribute o f pos') pos.line X.env=pure Am:=by rfl):PS X (.Assign [.Attribute o f pos'] value pos) (Rx K T<|jM K t u f):=(AjE ho hv hs).imp λE J H⟨F,b,S,D',R,x,q,k⟩=>
 #[F,b,S,_,R,x,q,λy u9 Z v p O w L=>#[F,b,u9,_,O,x.px p,L,λd y0 H2 z A l V⟨a,r,C,P,Q,n,e,N,W⟩=>by
  subst Q;cases Ou.mp V;let(s,m,M,(G,D),h):=l.st a r _ n;have c:Qe K C f:=by
   rcases e with e|e
   ·exact D f (by rw[AcL h];exact AfP e)
   ·exact e
  have B:=Px.set (r':=r) (o':=.i C<|sA f y P) (u:=.ins C s<|SS f v m) l n;have j0:=l.set n (o':=.i C _) #[s,SS f v m,N1,#[G,λg j=>by
   rcases vU j with rfl|j
   ·exact c
   ·exact D g j],Paired.imp' (λ_ _=>KD.imp λ_ _=>VD.px B)<|AfH h<|w.px A]
  have I:=(p.trans A).trans B;exact#[a,C,s,m,Y,M,G,c,by rw[<-AJ h];exact Nat.lt_succ_of_le<|Fw N,k.nx b _ _ J I j0 (x.px I) W]]]
abbrev Ab9(p:DP)(t:DA):DE:=λF loc S Q=>t F loc S λds S1=>p F ds S1 Q
def Afc:lf K T (Ab9 p ta) J H Q->zO (cn K T p) [] E0 (iB K T ta) J H Q:=λ⟨F,a,S,b,R,i,q,k⟩=>
 #[F,a,S,_,R,i,q,λd e l j c f h g=>#[F,e,d,b,f,by rw[Br];exact h,g,k.px c]]
variable{M:Md}{N4:Hp}{k n:Nat}{C:Ae}{m:Ay}{p1 v7:CQ}
def Of[P0 X M][Ol X K N4](u9:Hf M K k x (cn K T p))(hr:Oo n X.A)(ha:PA X (e::es) (iB K T ta))(hdb:(x==("__debug__":Ay))=Am:=by decide)(he:AG (e::es) X.env=(Am,eval e X.env)::AG es X.env:=by rfl)(hpl:(BP pos<|AG es X.env).any (·.1)=Am:=by rfl)(hn:k<=n:=by decide)(hg:Gl X x:=by rfl):PE X (.Call (.Name x p1) (e::es) [] pos) (lf K T<|Ab9 p ta):=(Qf u9 hr ha hdb he hpl hn hg).imp λJ H Q=>Afc
def AkP(S:N9)(d:D)(C:Ae)(m:Ay):Prop:=∃fs,Ra S d (.i C fs)/\fs.lookup m=none
abbrev pX(C:Ae)(m:Ay)(p:DP)(t:DE)(ta:DA):DE:=λF loc S Q=>t F loc S λd S1=>kC (AkP S1 d C m) (ta F loc S1 λds S2=>p F (d::ds) S2 Q)
def Afd:lf K T (pX C m p t ta) J H Q->fK C m (cn K T p) [] E0 (lf K T t) (iB K T ta) J H Q:=λ⟨F,a,S,r,R,f,q,k⟩=>
 #[F,a,S,_,R,f,q,λd s y v c e w⟨⟨z,o,n⟩,h⟩=>aM (e.one w) (OK o w) n #[F,a,s,_,e,f.px c,h,λj l A x b g i u=>
  #[F,l,d::j,r,g,by rw[Br];exact .cons (w.px b) i,u,k.px<|c.trans b]]]
def Od{pl:Ir Bool}[P0 X M][Ol X K N4](u9:Hm M K k C m (cn K T p))(hr:Oo n X.A)(he:PE X o (lf K T t))(ha:PA X (e::es) (iB K T ta))(hst:AG (e::es) X.env=(Am,eval e X.env)::AG es X.env:=by rfl)(hpl:(BP pos<|AG es X.env).any (·.1)=Am:=by rfl)(ht:eval (.Call (.Attribute o m v7) (e::es) [] pos) X.env=(do
   let ov <-eval o X.env
   standAt v7.atName
   let(f,first) <-holding [ov] (getMethod ov m pl)
   Ex pos f first (BP pos<|AG (e::es) X.env) (Df pos<|Cp [] X.env)):=by rfl)(hn:k<=n:=by decide):
  PE X (.Call (.Attribute o m v7) (e::es) [] pos) (lf K T<|pX C m p t ta):=(Qm u9 hr he ha hst hpl ht hn).imp λJ H Q=>Afd
def QK{pl:Ir Bool}[P0 X M][Ol X K N4](u9:Hm M K k C m (cn K T p))(hr:Oo n X.A)(he:PE X o (lf K T t))(ht:eval (.Call (.Attribute o m v7) [] [] pos) X.env=(do
   let ov <-eval o X.env
   standAt v7.atName
   let(f,first) <-holding [ov] (getMethod ov m pl)
   Ex pos f first (BP pos<|AG [] X.env) (Df pos<|Cp [] X.env)):=by rfl)(hn:k<=n:=by decide):
  PE X (.Call (.Attribute o m v7) [] [] pos) (lf K T<|pX C m p t Afh):=(Aqa u9 hr he ht hn).imp λJ H Q⟨F,a,S,c,R,j,q,k⟩=>
 #[F,a,S,_,R,j,q,λd h r v e b w⟨⟨s,l,g⟩,i⟩=>aM (b.one w) (OK l w) g #[F,h,[d],c,b,.cons w .nil,i,k.px e]]
abbrev An2(C:Ae)(p:DP)(t:DA):DE:=λF loc S Q=>t F loc S λds S1=>∃r,∀a,S1 a=none->a∉F->p F (.f (.ref a)::ds) (NY S1 a (r,.i C [])) λd S2=>d=.f .OH/\fz Q (.f<|.ref a) S2
def Ahn(c:Xj K C)(R:Rp K T F H S [])(ws:Zh K F S H ds vs)(h:∃r,∀a,S a=none->a∉F->p F (.f (.ref a)::ds) (NY S a (r,.i C [])) λd S2=>d=.f .OH/\fz Q' (.f<|.ref a) S2)(k:Nx K F S H T Q' Q):ApP C (cn K T p) [] Q E0 vs H:=by let(r,h):=h;intro x g b l n;have s:Ob H (upd (upd H g<|.own x) x<|.ins C g []):=((Ob.refl H).upd l).upd (by rw[NX<|AF n];exact b);have j:Px F S H F (NY S x (r,.i C [])) _:=Px.own s b;have u:=R.own (o:=.i C []) s b r #[g,[],N1,#[c,λ_ h=>nomatch h],.nil];refine#[F,_,_,_,u,by rw[Br];exact .cons .f<|Zh.px j ws,h x (R.free b) (λm=>R.fd x m b),λd S2 z v t q w⟨e,y⟩=>?_];subst e;exact#[Ou.mp w,(k.px<|j.trans t).fz _ _ _ _ .refl q .f y]
def Aco[P0 X M][Ol X K N4](u9:Hk M K k x C (cn K T p))(c:Xj K C)(hr:Oo n X.A)(ha:PA X (e::es) (iB K T ta))(hdb:(x==("__debug__":Ay))=Am:=by decide)(he:AG (e::es) X.env=(Am,eval e X.env)::AG es X.env:=by rfl)(hpl:(BP pos<|AG es X.env).any (·.1)=Am:=by rfl)(hn:k+1<=n:=by decide)(hg:Gl X x:=by rfl):PE X (.Call (.Name x p1) (e::es) [] pos) (lf K T<|An2 C p ta):=(Qk u9 hr ha hdb he hpl hn hg).imp λJ H Q⟨F,a,S,h,R,g,q,k⟩=>
 #[F,a,S,_,R,g,q,λl m j i p1 b f d=>Ahn c b f d<|k.px p1]
def Acp[P0 X M][Ol X K N4](u9:Hk M K k x C (cn K T p))(c:Xj K C)(hr:Oo n X.A)(hdb:(x==("__debug__":Ay))=Am:=by decide)(hn:k+1<=n:=by decide)(hg:Gl X x:=by rfl):PE X (.Call (.Name x p1) [] [] pos) (lf K T<|An2 C p Afh):=(Ap9 u9 hr hdb hn hg).imp λJ H Q⟨F,a,S,b,R,d,q,k⟩=>Ahn c R .nil q k
end
section
variable{X:Cx}{K:Ab}{T:TN}
abbrev AkH(d e:D)(P:Int->Int->Prop):Prop:=match d,e with
 |.f (.int i),.f (.int j)=>P i j
 |_,_=>False
def Ac4{P:Int->Int->Prop}(h:AkH d e P):∃i j,d=.f (.int i)/\e=.f (.int j)/\P i j:=by
 unfold AkH at h;split at h
 ·exact#[_,_,Y,Y,h]
 ·exact h.elim
abbrev Ahq(g:Int->Int->V):D2:=λd e _ S Q=>AkH d e λi j=>Q (.f<|g i j) S
abbrev dI(C:Int->Int->Prop)(g:Int->Int->V):D2:=λd e _ S Q=>AkH d e λi j=>kC (C i j) (Q (.f<|g i j) S)
def qW{g:Int->Int->V}:Aah K T (AeV g) (Ahq g):=λF S H Q c d e x y R a b h k=>by
 let(i,j,rfl,rfl,h):=Ac4 h;rw[Ou.mp a,Ou.mp b];exact k.flat R h
def AiU{C:Int->Int->Prop}{g:Int->Int->V}:Aah K T (rI C g) (dI C g):=λF S H Q f d e x y R a b h k=>by
 let(i,j,rfl,rfl,c,h):=Ac4 h;rw[Ou.mp a,Ou.mp b];exact#[c,k.flat R h]
def P8:Yq X K T (Cv .Add) (Ahq λi j=>.int<|i+j):=#[_,YX,qW]
def Ado:Yq X K T (Cv .Sub) (Ahq λi j=>.int<|i-j):=#[_,Ajq,qW]
def rP:Yq X K T (Cv .Mult) (dI AeW λi j=>.int<|i*j):=#[_,Adq,AiU]
def SO:Yq X K T (Cv .FloorDiv) (dI AkN λi j=>.int<|i / j):=#[_,VU,AiU]
def PF:Yq X K T (Cv .Mod) (dI (λ_ j=>0<j) λi j=>.int<|i%j):=#[_,T4,AiU]
def Aa8:Yq X K T (Bh .Lt) (Ahq λi j=>.bl<|decide<|i<j):=#[_,Adp,qW]
def Aa7:Yq X K T (Bh .LtE) (Ahq λi j=>.bl<|decide<|i<=j):=#[_,yP,qW]
def Af2:Yq X K T (Bh .Gt) (Ahq λi j=>.bl<|decide<|j<i):=#[_,AhY,qW]
abbrev Anm(P:V->V->N9->QD->Prop):D2:=λd e _ S Q=>match d,e with
 |.f x,.f y=>P x y S Q
 |_,_=>False
def Acf{P:V->V->N9->QD->Prop}(h:Anm P d e F S Q):∃x y,d=.f x/\e=.f y/\P x y S Q:=by
 unfold Anm at h;split at h
 ·exact#[_,_,Y,Y,h]
 ·exact h.elim
abbrev Aqo:D2:=Anm λx y S Q=>kC (AgS x y=Af) (Q (.f<|.bl<|decide<|x=y) S)
abbrev Aqt:D2:=Anm λx y S Q=>kC (AgS x y=Af) (Q (.f<|.bl<|!decide (x=y)) S)
def U9:Yq X K T (Bh .Eq) Aqo:=#[_,yO,λF S H Q i d e x y R f g h k=>by
 let(a,b,rfl,rfl,c,h):=Acf h;rw[Ou.mp f,Ou.mp g];exact#[c,k.flat R h]]
def Af3:Yq X K T (Bh .NotEq) Aqt:=#[_,Amf,λF S H Q i d e x y R f g h k=>by
 let(a,b,rfl,rfl,c,h):=Acf h;rw[Ou.mp f,Ou.mp g];exact#[c,k.flat R h]]
abbrev AfY:D->Bool
 |.f x=>decide<|x=.OH
 |_=>Am
def yL(h:VD K F S H d x):decide (x=.OH)=AfY d:=by
 cases d with
 |f v=>rw[Ou.mp h]
 |t b=>let(a,_,rfl,_):=Zc.mp h;rfl
 |l b=>let(a,_,rfl,_):=AbM.mp h;rfl
 |d b=>let(a,_,rfl,_):=tR.mp h;rfl
 |m b=>let(a,_,rfl,_):=Akp.mp h;rfl
 |i C b=>let(a,_,_,rfl,_):=Ako.mp h;rfl
abbrev AnZ:D2:=λd e _ S Q=>e=.f .OH/\Q (.f<|.bl<|AfY d) S
abbrev Alk:D2:=λd e _ S Q=>e=.f .OH/\Q (.f<|.bl<|!AfY d) S
def Adm:Yq X K T (Bh .Is) AnZ:=#[_,Ajp,λF S H Q f d e x y R a b⟨c,h⟩k=>by
 subst c;exact#[Ou.mp b,by rw[yL a];exact k.flat R h]]
def Ajm:Yq X K T (Bh .IsNot) Alk:=#[_,Af8,λF S H Q f d e x y R a b⟨c,h⟩k=>by
 subst c;exact#[Ou.mp b,by rw[yL a];exact k.flat R h]]
abbrev An6(P:Ay->Ay->N9->QD->Prop):D2:=λd e _ S Q=>match d,e with
 |.f (.str x),.f (.str y)=>P x y S Q
 |_,_=>False
def Aiv{P:Ay->Ay->N9->QD->Prop}(h:An6 P d e F S Q):∃x y,d=.f (.str x)/\e=.f (.str y)/\P x y S Q:=by
 unfold An6 at h;split at h
 ·exact#[_,_,Y,Y,h]
 ·exact h.elim
def YW:Yq X K T (Cv .Add) (An6 λi j S Q=>kC (i.length+j.length<=sizeLine)<|Q (.f<|.str<|i++j) S):=#[_,Ql,λF S H Q g d e x y R a b h k=>by
 let(i,j,rfl,rfl,c,h):=Aiv h;rw[Ou.mp a,Ou.mp b];exact#[i,j,Y,Y,c,k.flat R h]]
def ApH:D->Bool
 |.f x=>Pr x
 |_=>Am
def AkL:D->V
 |.f x=>x
 |_=>.OH
def qC(h:Zh K F S H ds vs)(f:ds.all ApH=Af):vs=ds.map AkL/\(ds.map AkL).all Pr=Af:=by
 induction h with
 |nil=>exact#[Y,Y]
 |@cons d v _ _ h1 _ ih=>
   rw[CM,Ej]at f;let(b,a):=ih f.2;cases d with
   |f x=>exact#[by rw[Au,<-b,Ou.mp h1];rfl,by rw[Au,CM,a,JU];exact f.1]
   |_=>cases f.1
def Anl(neg:Bool):D2:=λd e _ S Q=>∃x xs,d=.f x/\(Ra S e (.l xs)\/e=.t xs)/\Pr x=Af/\xs.all ApH=Af/\Q (.f<|.bl (if neg then !AhC x (xs.map AkL)else AhC x (xs.map AkL))) S
def AhO:Aah K T (Apb K neg) (Anl neg):=λF S H Q q d e x y R o j⟨s,r,p,f,n,m,h⟩k=>by
 subst p;cases Ou.mp o;rcases f with f|rfl
 ·let(a,rfl,c,i,g):=(R.one j).is (OK f j);let(b,l):=qC g m;exact#[a,c,Y,.inl i,n,by rw[b];exact l,by rw[b];exact k.flat R h]
 ·let(a,c,rfl,i,g):=Zc.mp j;let(b,l):=qC g m;exact#[a,c,Y,.inr<|RE.of i,n,by rw[b];exact l,by rw[b];exact k.flat R h]
def Ti{N4:Hp}[Ol X K N4]:Yq X K T (Bh .In) (Anl Am):=#[_,Aba,AhO]
def rQ{N4:Hp}[Ol X K N4]:Yq X K T (Bh .NotIn) (Anl Af):=#[_,nL,AhO]
def Aqv:D2:=λd e _ S Q=>∃xs i x,Ra S d (.l xs)/\e=.f (.int i)/\fZ xs i=U x/\Q x S
def Aqw:D2:=λd e _ S Q=>∃xs i x,d=.t xs/\e=.f (.int i)/\fZ xs i=U x/\Q x S
def PR{N4:Hp}[Ol X K N4]:AnB X K T Aqv:=#[_,AfE,λF S H Q l d e x y R a f⟨m,i,z,g,j,b,h⟩k=>by
 subst j;cases Ou.mp f;exact Aqf (R.one a) (OK g a) b λv c=>k _ _ _ _ .refl R c.hd h]
def PD{N4:Hp}[Ol X K N4]:AnB X K T Aqw:=#[_,vC,λF S H Q l d e x y R a f⟨m,i,z,g,j,b,h⟩k=>by
 subst j g;cases Ou.mp f;exact Aqg (R.one a) (.head _) b λv c=>k _ _ _ _ .refl R c.hd h]
abbrev yC(e:D)(P:Key->Prop):Prop:=match e with
 |.f (.int i)=>P<|.inl i
 |.f (.str z)=>P<|.inr z
 |_=>False
def cW{P:Key->Prop}(h:yC e P):∃q,e=.f (kV q)/\P q:=by
 unfold yC at h;split at h
 ·exact#[.inl _,Y,h]
 ·exact#[.inr _,Y,h]
 ·exact h.elim
def ApF:D2:=λd e _ S Q=>(∃ks,Ra S d (.d ks)/\yC e λq=>∃x,O0 ks q=U x/\Q x S)\/∃km k x,Ra S d (.m km)/\e=wM k/\O0 km k=U x/\Q x S
variable{t u t3:DE}{o i e f value:Expr}{pos pos' v7 v8:CQ}{n:Nat}
def N6(hr:Oo n X.A)(ho:PE X o (lf K T t))(hi:PE X i (lf K T u))(hs:Ae1 i:=by exactλ_ _=>rfl):PE X (.Subscript o i pos) (lf K T<|pY ApF t u):=(Qg hr ho hi hs).imp λJ H Q⟨F,f,S,Q',R,E,q,k⟩=>
 #[F,f,S,_,R,E,q,λd V Z x C O b j0=>#[F,f,V,_,O,E.px C,j0,λe N H2 y w g D c=>by
  have b:=b.px w;have B:=k.px<|C.trans w;rcases c with⟨y0,hi,c⟩|⟨W,l,L,hi,j,s,c⟩
  ·let(z,j,L,s,I):=cW c;subst j;cases Ou.mp D;exact AlL (g.one b) (OK hi b) s λv P=>B _ _ _ _ .refl g P I
  ·subst j;have G:=g.two b D;have h:Is N [(d,x),(wM l,y)] x (.m W):=by
    rcases hi with p|⟨a,r,p,M⟩
    ·rw[p];exact .inr<|.head _
    ·subst p;exact .inl #[a,r,Ou.mp b,M]
   exact Aqd G h (.tail _<|.head _) s λv u9=>B _ _ _ _ .refl g u9.hd c]]
def Alf(neg:Bool):D2:=λe d _ S Q=>(∃ks,Ra S d (.d ks)/\yC e λq=>Q (.f<|.bl (if neg then !(O0 ks q).isSome else(O0 ks q).isSome)) S)\/∃km k,Ra S d (.m km)/\e=wM k/\Q (.f<|.bl (if neg then !(O0 km k).isSome else(O0 km k).isSome)) S
def vD{neg:Bool}:lf K T (pY (Alf neg) t u) J H Q->lf K T t J H (AiJ neg (lf K T u) J Q):=λ⟨F,g,S,L,R,s,q,k⟩=>
 #[F,g,S,_,R,s,q,λe E j0 y r D h B=>#[F,g,E,_,D,s.px r,B,λd I M x o c i f=>by
  have h:=h.px o;have p:=k.px<|r.trans o;rcases f with⟨G,n,f⟩|⟨N,m,n,l,f⟩
  ·let(z,l,v):=cW f;subst l;cases Ou.mp h;exact AlM (c.one i) (OK n i)<|p.flat c v
  ·subst l;let(a,rfl,j,C,w):=(c.one i).is (OK n i);let(b,rfl,A):=(c.one h).key (.head _);exact#[a,_,Y,.inr #[j,m,b,.inl C,Y,A,Y],by rw[AhL w];exact p.flat c f]]]
def Acm(hr:Oo n X.A)(hi:PE X i (lf K T t))(ho:PE X o (lf K T u))(h1:behindInMarks .In o=Am:=by rfl):PE X (.Compare i [.In] [o] pos) (lf K T<|pY (Alf Am) t u):=(Ajv (Qi hr hi ho) h1).imp λJ H Q=>vD
def Ac0{t':TE}(h:∀J H Q,lf K T t J H Q->t' J H Q):WZ K T (dB t) J H Q->tB t' J H Q:=λ⟨F,a,S,i,R,g,q,k⟩=>h _ _ _ #[F,a,S,_,R,g,q,λd e b v p f w h=>by
  let(c,rfl,h):=YM h;rw[Ou.mp w];exact k c e b p f h]
def tM(hr:Oo n X.A)(hi:PE X i (lf K T t))(ho:PE X o (lf K T u))(h1:behindInMarks .In o=Am:=by rfl):PT X (.Compare i [.In] [o] pos) (WZ K T<|dB<|pY (Alf Am) t u):=(Ad0 (Qi hr hi ho) h1).imp λJ H Q=>Ac0 λJ H Q=>vD
def TB(hr:Oo n X.A)(hi:PE X i (lf K T t))(ho:PE X o (lf K T u))(h1:behindInMarks .NotIn o=Am:=by rfl):PT X (.Compare i [.NotIn] [o] pos) (WZ K T<|dB<|pY (Alf Af) t u):=(Ad0 (Aqb hr hi ho) h1).imp λJ H Q=>Ac0 λJ H Q=>vD
def AeT(F:LL)(y d e:D)(N:N9->Prop)(S:N9):Prop:=∃a r,d=.f (.ref a)/\((∃ks,S a=U (r,.d ks)/\a∉F/\ks.length<100000/\yC e λq=>N<|NY S a (r,.d<|putD ks q y))\/∃km k,S a=U (r,.m km)/\km.length<100000/\e=wM k/\N (NY S a (r,.m<|putD km k y)))
abbrev An4(td ty tv:DE):DS:=λF D loc S=>tv F loc S λy S1=>td F loc S1 λd S2=>ty F loc S2 λe S3=>AeT F y d e (λS4=>D.nx loc S4) S3
def OW(hr:Oo n X.A)(ho:PE X o (lf K T t))(hi:PE X i (lf K T u))(hv:PE X value (lf K T t3))(hs:swapsWith value (U<|.Subscript o i pos') pos.line X.env=pure Am:=by rfl):PS X (.Assign [.Subscript o i pos'] value pos) (Rx K T<|An4 t u t3):=(Qp hr ho hi hv hs).imp λE J H⟨F,c,S,D',R,s,q,k⟩=>
 #[F,c,S,_,R,s,q,λy S1 H1 v I R1 w V=>#[F,c,S1,_,R1,s.px I,V,λd y0 H2 x B u9 w2 q2=>#[F,c,y0,_,u9,s.px<|I.trans B,q2,λe S3 H3 z M h N⟨a,r,ed,p⟩=>by
  subst ed;cases Ou.mp w2;have w:=w.px<|B.trans M;have f:=(I.trans B).trans M;rcases p with⟨Q,j,W,Z,p⟩|⟨km,C,j,Z,G,p⟩
  ·let(j0,G,O):=cW p;subst G;cases Ou.mp N;let(g,D,l):=h.dk j W;have L:=h.RO j<|nC (k:=j0) l w;have f:=f.trans<|Px.set (r':=r) (o':=.d<|putD Q j0 y) (u:=.dK<|putK g j0 v) h j;exact#[a,_,Y,gG.k D (by rw[<-AJ l,Bf];omega),k.nx c _ _ J f L (s.px f) O]
  ·subst G;let(g,D,l):=h.st a r _ j;let(b,rfl,P):=(h.one N).key (.head _);have L:=h.setM j<|nC (k:=C) l w;have f:=f.trans<|Px.set (r':=r) (o':=.m<|putD km C y) (u:=.dT<|putK g C v) h j;exact#[a,_,Y,gG.t D P (by rw[<-AJ l,Bf];omega),k.nx c _ _ J f L (s.px f) p]]]]
def AlP(d e z:D)(Q:QD)(S:N9):Prop:=(∃ks,Ra S d (.d ks)/\yC e λq=>Q ((O0 ks q).getD z) S)\/∃km k,Ra S d (.m km)/\e=wM k/\Q ((O0 km k).getD z) S
def Ane(S:N9)(d:D):Prop:=(∃ks,Ra S d<|.d ks)\/∃km,Ra S d (.m km)
abbrev Ale(td ty tz:DE):DE:=λF loc S Q=>td F loc S λd S1=>kC (Ane S1 d) (ty F loc S1 λe S2=>tz F loc S2 λz S3=>AlP d e z Q S3)
def Rk(hr:Oo n X.A)(ho:PE X o (lf K T t))(he:PE X e (lf K T u))(hf:PE X f (lf K T t3))(m:M2 X o "get" v7 e f v8:=by exact#[Y,Y,Y,Y]):PE X (.Call (.Attribute o "get" v7) [e,f] [] v8) (lf K T<|Ale t u t3):=(Ap8 hr ho he hf m).imp λJ H Q⟨F,s,S,Q',R,u9,q,k⟩=>
 #[F,s,S,_,R,u9,q,λd S1 H1 x M N g⟨W,q1⟩=>by
  obtain ⟨a,rfl,I⟩:∃a,x=.ref a/\AkA H1 a:=by
   rcases W with⟨Z,p⟩|⟨km,p⟩
   ·let(a,rfl,c,j,w):=(N.one g).is (OK p g);exact#[a,Y,.inl #[c,j.rd]]
   ·let(a,rfl,c,j,w):=(N.one g).is (OK p g);exact#[a,Y,.inr #[c,.inl j]]
  refine#[a,Y,I,#[F,s,S1,_,N,u9.px M,q1,λe S2 H2 y G R2 D q2=>#[F,s,S2,_,R2,u9.px<|M.trans G,q2,λz S3 H3 y' E i V h=>?_]]];have g:=g.px<|G.trans E;have D:=D.px E;have C:=k.px<|(M.trans G).trans E;rcases h with⟨Z,p,h⟩|⟨km,O,p,L,h⟩
  ·let(qq,L,B):=cW h;subst L;cases Ou.mp D;let(b,j0,c,j,w):=(i.one g).is (OK p g);cases j0;refine#[_,.inl #[c,qq,j.rd,Y,Y],?_];rcases YN w with⟨r,l⟩|⟨d',v,r,l,P⟩
   ·rw[l];rw[r]at B;exact C _ _ _ _ .refl i V B
   ·rw[l];rw[r]at B;exact C _ _ _ _ .refl i P B
  ·subst L;let(b,j0,c,j,w):=(i.one g).is (OK p g);cases j0;let(tt,rfl,y0):=(i.one D).key (.head _);refine#[_,.inr #[c,O,tt,.inl j,Y,y0,Y],?_];rcases YN w with⟨r,l⟩|⟨d',v,r,l,P⟩
   ·rw[l];rw[r]at h;exact C _ _ _ _ .refl i V h
   ·rw[l];rw[r]at h;exact C _ _ _ _ .refl i P h]
end
abbrev AaI(Q:QD):pM:={nx:=λ_ S=>Q (.f .OH) S,rt:=Q}
abbrev vK:Nat->Lc
 |0=>[]
 |n+1=>none::vK n
abbrev YS:LO->Nat->Lc
 |[],n=>vK n
 |d::ds,0=>U d::YS ds 0
 |d::ds,n+1=>U d::YS ds n
section
variable{K:Ab}{T:TN}
def Ac2:∀n,Lo K F S H (vK n) (Zn n)
 |0=>.nil
 |n+1=>.cons (λ_ e=>nomatch e) (Ac2 n)
def Ai3:∀{ds:LO}{vs:LM}{n:Nat},Zh K F S H ds vs->Lo K F S H (YS ds n) (tW vs n)
 |_,_,n,.nil=>Ac2 n
 |_,_,0,.cons h t=>.cons (λ_ e=>#[_,Y,by cases e;exact h])<|Ai3 (n:=0) t
 |_,_,n+1,.cons h t=>.cons (λ_ e=>#[_,Y,by cases e;exact h]) (Ai3 (n:=n) t)
def xJ{p:DP}{t:DS}{n:Nat}(rd:∀F ds S Q,p F ds S Q->t F (AaI Q) (YS ds n) S):∀vs H Q E,cn K T p vs H Q E->Rx K T t (fin Q) (tW vs n) H:=λvs H Q E⟨F,S,ds,a,R,b,h,k⟩=>
 #[F,_,S,_,R,Ai3 b,rd F ds S a h,λe i g J d c j q=>k _ _ _ _ d c .f q,k,λ_ _ _ _ _ _ _ h=>h,λ_ _ _ _ _ _ _ h=>h]
def lS{p:DP}{m:Nat}(h:∀F ds S Q,p F ds S Q->ds.length=m):∀vs H Q E,cn K T p vs H Q E->vs.length=m:=λvs H Q E⟨F,S,ds,a,R,b,c,k⟩=>(AJ b).symm.trans (h F ds S a c)
end
section
variable{M:Md}{K:Ab}{T:TN}{k n:Nat}{N:LK}{q x m:Ay}{st:Bi}{sp:DP}{C:Ae}{t:DS}
def cP(p n:Nat)(d:∃X:BM,K.In X/\X.Ns AK M.mg)(a:Pu K x st)(kt:∀φ H,Rm k N x (NW st) φ->QB (cN M K N x (NW st) φ H) (Oa st) (Rx K T t))(rd:∀F ds S Q,sp F ds S Q->t F (AaI Q) (YS ds n) S)(S:O3 N (N.take p) (NW st):=by walk_at"s")(b:∀(kV doc pm:Ai)(an:LZ)(cdv ct:Ai)(us:LQ),us.length=(N.take p).length->Cf (Bs x x (OE st) (Oa st) (NW st) .none kV doc pm an cdv ct) #[us,[]]=pure ((N.take p).zip us):=by walk_at"b")(len:∀F ds S Q,sp F ds S Q->ds.length=(N.take p).length:=by walk_at"l")(hn:N.length=n:=by rfl):Hf M K (k+1) x (cn K T sp):=hf p n d a kt (xJ rd) S b (lS len) hn
def Ta(p n:Nat)(a:∃f,OI K C m q st f)(c:Xj K C)(kt:∀φ H,Rm k N q (NW st) φ->QB (cN M K N q (NW st) φ H) (Oa st) (Rx K T t))(rd:∀F ds S Q,sp F ds S Q->t F (AaI Q) (YS ds n) S)(S:O3 N (N.take p) (NW st):=by walk_at"s")(b:∀(kV doc pm:Ai)(an:LZ)(cdv ct:Ai)(us:LQ),us.length=(N.take p).length->Cf (Bs m q (OE st) (Oa st) (NW st) .none kV doc pm an cdv ct) #[us,[]]=pure ((N.take p).zip us):=by walk_at"b")(len:∀F ds S Q,sp F ds S Q->ds.length=(N.take p).length:=by walk_at"l")(hn:N.length=n:=by rfl):Hm M K (k+1) C m (cn K T sp):=hm p n a c kt (xJ rd) S b (lS len) hn
def AiE(p n:Nat)(a:∃f,OI K C "__init__" q st f)(mk:B7 K C=Af/\BA K (.ref C)=Af)(hx:M.mg x=U (.ref C))(kt:∀φ H,Rm k N q (NW st) φ->QB (cN M K N q (NW st) φ H) (Oa st) (Rx K T t))(rd:∀F ds S Q,sp F ds S Q->t F (AaI Q) (YS ds n) S)(S:O3 N (N.take p) (NW st):=by walk_at"s")(b:∀(kV doc pm:Ai)(an:LZ)(cdv ct:Ai)(us:LQ),us.length=(N.take p).length->Cf (Bs "__init__" q (OE st) (Oa st) (NW st) .none kV doc pm an cdv ct) #[us,[]]=pure ((N.take p).zip us):=by walk_at"b")(len:∀F ds S Q,sp F ds S Q->ds.length=(N.take p).length:=by walk_at"l")(hn:N.length=n:=by rfl):Hk M K (k+1) x C (cn K T sp):=hk p n a mk hx kt (xJ rd) S b (lS len) hn
end
section
variable{X:Cx}{K:Ab}{T:TN}
def Rj(h:Zh K F S H [d] vs):∃v,vs=[v]/\VD K F S H d v:=by
 cases h with
 |cons a b=>cases b;exact#[_,Y,a]
def Ahb(h:Zh K F S H [d,e] vs):∃v w,vs=[v,w]/\VD K F S H d v/\VD K F S H e w:=by
 cases h with
 |cons a b=>let(w,rfl,c):=Rj b;exact#[_,_,Y,a,c]
abbrev one(ds:LO)(P:D->Prop):Prop:=match ds with
 |[d]=>P d
 |_=>False
def Ri{P:D->Prop}(h:one ds P):∃d,ds=[d]/\P d:=by
 unfold one at h;split at h
 ·exact#[_,Y,h]
 ·exact h.elim
def Ami:DN:=λds F S Q=>one ds λd=>∃ks,Ra S d (.d ks)/\aw F (.d ks) Q S
def Qt:RD X K T (.type "dict") Ami:=#[_,uG,λF S H Q m p n R i h k=>by
 let(d,rfl,g,j,h):=Ri h;let(v,rfl,w):=Rj i;let(a,rfl,b,f,e):=(R.one w).is (OK j w);exact#[a,b,Y,f.rd,λl c=>R.aw (o:=.d g) c Y (λr=>#[b,.inl N1,Paired.imp' (λ_ _=>KD.imp λ_ _=>VD.px<|Px.own ((Ob.refl H).upd c) c) e]) h k]]
def Amj:DN:=λds F S Q=>one ds λd=>∃ks,Ra S d (.d ks)/\aw F (.l<|ks.map λp=>.f<|kV p.1) Q S
def Ae8(hc:X.calm=Af):RD X K T (.type "list") Amj:=#[_,uH hc,λF S H Q j n m R g h k=>by
 let(d,rfl,p,i,h):=Ri h;let(v,rfl,w):=Rj g;let(a,rfl,b,f,e):=(R.one w).is (OK i w);exact#[a,b,Y,f.rd,λl c=>R.aw (o:=.l _) c Y (λr=>#[_,N1,AlT<|Sv e]) h k]]
def Amm:DN:=λds F S Q=>one ds λd=>∃xs,(Ra S d (.l xs)\/d=.t xs)/\aw F (.l xs) Q S
def Aaq{N4:Hp}[Ol X K N4]:RD X K T (.type "list") Amm:=#[_,lO,λF S H Q n q p R m h k=>by
 let(d,rfl,j,g,i):=Ri h;let(v,rfl,w):=Rj m;rcases g with g|rfl
 ·let(a,rfl,c,f,e):=(R.one w).is (OK g w);exact#[a,c,Y,.inl f,λl b=>R.aw (o:=.l j) b Y (λr=>#[c,N1,Paired.imp' (λ_ _=>VD.px<|Px.own ((Ob.refl H).upd b) b) e]) i k]
 ·let(a,c,rfl,f,e):=Zc.mp w;exact#[a,c,Y,.inr<|RE.of f,λl b=>R.aw (o:=.l j) b Y (λr=>#[c,N1,Paired.imp' (λ_ _=>VD.px<|Px.own ((Ob.refl H).upd b) b) e]) i k]]
def Ao7:DN:=λds _ S Q=>one ds λd=>∃xs,(Ra S d (.l xs)\/d=.t xs)/\Q (.f<|.int xs.length) S
def Qu{N4:Hp}[Ol X K N4]:RD X K T (.builtin "len") Ao7:=#[_,Qv,λF S H Q j m l R i h k=>by
 let(d,rfl,n,f,g):=Ri h;let(v,rfl,w):=Rj i;rcases f with f|rfl
 ·let(a,rfl,b,e,c):=(R.one w).is (OK f w);exact#[a,b,Y,.inl e,by rw[<-AJ c];exact k.flat R g]
 ·let(a,b,rfl,e,c):=Zc.mp w;exact#[a,b,Y,.inr<|RE.of e,by rw[<-AJ c];exact k.flat R g]]
def Amk:DN:=λds F S Q=>one ds λd=>∃a r ks,d=.f (.ref a)/\S a=U (r,.d ks)/\a∉F/\Q (.f<|.int ks.length) S
def Aih:RD X K T (.builtin "len") Amk:=#[_,Aas,λF S H Q i l j R g h k=>by
 let(d,rfl,a,r,m,rfl,e,n,h):=Ri h;let(v,rfl,w):=Rj g;cases Ou.mp w;let(b,f,c):=R.dk e n;exact#[a,b,Y,f,by rw[<-AJ c];exact k.flat R h]]
def Apa:DN:=λds _ S Q=>one ds λd=>∃i:Int,d=.f (.int i)/\i.natAbs.log2<1920/\Q (.f<|.str<|toString i) S
def Yt:RD X K T (.type "str") Apa:=#[_,lR,λF S H Q c f e R b h k=>by
 let(d,rfl,i,rfl,a,h):=Ri h;let(v,rfl,w):=Rj b;cases Ou.mp w;exact#[i,Y,a,k.flat R h]]
abbrev DM:=D->LO->LL->N9->QD->Prop
def AnN(F:LL)(S:N9)(Ty:String)(d:D):Prop:=(Ty="list"/\∃xs,Ra S d<|.l xs)\/(Ty="str"/\∃z,d=.f (.str z))\/(Ty="dict"/\∃a r ks,d=.f (.ref a)/\S a=U (r,.d ks)/\a∉F)
def Ap6(K:Ab)(T:TN)(r:V->LM->Hp->VK->Prop)(δ:DM):Prop:=∀F S H(Q:VK)(Q':QD)d x ds vs,Rp K T F H S []->VD K F S H d x->Zh K F S H ds vs->δ d ds F S Q'->Nx K F S H T Q' Q->r x vs H Q
def Aib(X:Cx)(K:Ab)(T:TN)(id:String)(δ:DM):Prop:=∃r,AnG X id r/\Ap6 K T r δ
def AeD{Ty:String}(R:Rp K T F H S [])(w:VD K F S H d x)(h:AnN F S Ty d):AmZ K Ty x H:=by
 rcases h with⟨rfl,j,i⟩|⟨rfl,z,rfl⟩|⟨rfl,a,r,k,rfl,g,n⟩
 ·let(a,rfl,e,c,f):=(R.one w).is (OK i w);exact .inl #[Y,e,c]
 ·cases Ou.mp w;rfl
 ·cases Ou.mp w;let(b,c,f):=R.dk g n;exact .inr (.inr<|.inl #[Y,.inl #[b,c]])
abbrev Aql(Ty:String)(δ:DM)(t:DE)(ta:DA):DE:=λF loc S Q=>t F loc S λd S1=>kC (AnN F S1 Ty d) (ta F loc S1 λds S2=>δ d ds F S2 Q)
abbrev AnU(Ty:String)(δ:DM)(t:DE):DE:=λF loc S Q=>t F loc S λd S1=>kC (AnN F S1 Ty d) (δ d [] F S1 Q)
def uM{N4:Hp}[hK:Ol X K N4]{t:DE}{ta:DA}{δ:DM}{o e:Expr}{es:L1}{name:Ay}{v7 v8:CQ}{Ty id:String}(pa:HX Ty)(slot:Slot Ty name id)(hty:Jd (.builtin id)=pure (.type "method_descriptor"))(hm:Aib X K T id δ)(ho:PE X o (lf K T t))(ha:PA X (e::es) (iB K T ta))(hbase:CA o name X.env (eval o X.env)=eval o X.env:=by rfl)(hfew:((BP v8<|AG (e::es) X.env).all (λx=>!x.1)&&(Df v8<|Cp [] X.env).all (λx=>x.1.isSome)
   && decide ((e::es).length+([]:Mv).length+(if([]:Mv).isEmpty then 0 else 1)<30))=Af:=by rfl)(hline:(v7.endLine==v8.line)=Af:=by rfl)(hs:AG (e::es) X.env=(Am,eval e X.env)::AG es X.env:=by rfl)(hplain:(BP v8<|AG es X.env).any (·.1)=Am:=by rfl):
  PE X (.Call (.Attribute o name v7) (e::es) [] v8) (lf K T<|Aql Ty δ t ta):=by
 let(r,m,h):=hm;exact(Zo pa slot hty m ho ha hbase hfew hline hs hplain).imp λJ H Q⟨F,a,S,v,R,g,q,k⟩=>
  #[F,a,S,_,R,g,q,λd z B x c f w⟨u,l⟩=>#[AeD f w u,F,a,z,_,f,g.px c,l,λp s y j b i n A=>h F s y Q v d x p j i (w.px b) n A<|k.px<|c.trans b]]
def Alu{N4:Hp}[hK:Ol X K N4]{t:DE}{δ:DM}{o:Expr}{name:Ay}{v7 v8:CQ}{Ty id:String}(pa:HX Ty)(slot:Slot Ty name id)(hty:Jd (.builtin id)=pure (.type "method_descriptor"))(hm:Aib X K T id δ)(ho:PE X o (lf K T t))(hbase:CA o name X.env (eval o X.env)=eval o X.env:=by rfl)(hline:(v7.endLine==v8.line)=Af:=by rfl):PE X (.Call (.Attribute o name v7) [] [] v8) (lf K T<|AnU Ty δ t):=by
 let(r,j,g):=hm;exact(Aju pa slot hty j ho hbase hline).imp λJ H Q⟨F,a,S,c,R,m,q,k⟩=>
  #[F,a,S,_,R,m,q,λd h f x e b w⟨l,i⟩=>#[AeD b w l,g F h f Q c d x [] [] b w .nil i<|k.px e]]
def AlZ:DM:=λd ds _ S Q=>∃a r xs y,d=.f (.ref a)/\ds=[y]/\S a=U (r,.l xs)/\xs.length<100000/\Q (.f .OH) (NY S a (r,.l<|xs++[y]))
def XQ:Aib X K T "list.append" AlZ:=#[_,VT,λF S H Q n d x q o R w l⟨a,r,s,y,g,m,b,p,h⟩k=>by
 subst g m;cases Ou.mp w;let(v,rfl,e):=Rj l;let(j,i,c):=R.st a r _ b;exact#[a,j,v,Y,Y,i,by rw[<-AJ c,Bf];omega,k _ _ _ _ (Px.set R b) (R.Aem b<|aZ c e) .f h]]
def Ac5:DM:=λd ds _ S Q=>∃a r xs i n y,d=.f (.ref a)/\ds=[.f<|.int i]/\S a=U (r,.l xs)/\-(2 ^ 63)<=i/\i<2 ^ 63/\G0 i xs.length=U n/\xs[n]?=U y/\Q y (NY S a (r,.l<|xs.eraseIdx n))
def AdV{α β:Type}{G:α->β->Prop}{as:List α}{bs:List β}(h:Paired G as bs):∀n,Paired G (as.eraseIdx n) (bs.eraseIdx n):=by
 induction h with
 |nil=>intro n;cases n<;>exact .nil
 |cons h1 h2 ih=>
   intro n;cases n with
   |zero=>exact h2
   |succ n=>exact .cons h1 (ih n)
def AfS:Aib X K T "list.pop" Ac5:=#[_,Adc,λF S H Q I d x G E R w o⟨a,r,A,i,n,y,D,p,c,j,g,B,t,h⟩k=>by
 subst D p;cases Ou.mp w;let(v,rfl,C):=Rj o;cases Ou.mp C;let(e,s,b):=R.st a r _ c;let(z,q,m):=rX b t;have f:=Px.set (r':=r) (o':=.l<|A.eraseIdx n) (u:=.lst<|e.eraseIdx n) R c;exact#[a,e,i,n,z,Y,Y,s,j,g,by rw[<-AJ b];exact B,q,k _ _ _ _ f (R.Aem c<|AdV b n) (m.px f) h]]
variable{t u:DE}{o e:Expr}{v7 v8:CQ}
def ApQ(F:LL)(d e:D)(Q:QD)(S:N9):Prop:=∃a r ks,d=.f (.ref a)/\S a=U (r,.d ks)/\a∉F/\yC e λq=>∃x,O0 ks q=U x/\Q x (NY S a (r,.d<|Yz ks q))
abbrev Aln(t u:DE):DE:=λF loc S Q=>t F loc S λd S1=>kC (Ane S1 d) (u F loc S1 λe S2=>ApQ F d e Q S2)
def AcD{Tb:TN}(R1:Rp K Tb F H1 S1 [])(w1:VD K F S1 H1 d x)(hM:Ane S1 d):∃a,x=.ref a/\AkA H1 a:=by
 rcases hM with⟨h,e⟩|⟨g,e⟩
 ·let(a,rfl,b,c,f):=(R1.one w1).is (OK e w1);exact#[a,Y,.inl #[b,c.rd]]
 ·let(a,rfl,b,c,f):=(R1.one w1).is (OK e w1);exact#[a,Y,.inr #[b,.inl c]]
def xQ(ho:PE X o (lf K T t))(he:PE X e (lf K T u))(m:M1 X o "pop" v7 e v8:=by exact#[Y,Y,Y,Y]):PE X (.Call (.Attribute o "pop" v7) [e] [] v8) (lf K T<|Aln t u):=(AdA ho he m).imp λJ H Q⟨F,f,S,Z,R,A,q,k⟩=>
 #[F,f,S,_,R,A,q,λd P y0 x w z n⟨D,G⟩=>by
  let(b,rfl,i):=AcD z n D;refine#[b,Y,i,#[F,f,P,_,z,A.px w,G,λe W H2 y C h u9⟨a,r,E,M,l,j0,V⟩=>?_]];subst M;cases Ou.mp n;let(j,L,x,O,B):=cW V;subst L;cases Ou.mp u9;let(c,I,p):=h.dk l j0;let(v,g,N):=nD p O;have s:=Px.set (r':=r) (o':=.d<|Yz E j) (u:=.dK<|Tc c j) h l;exact#[c,j,v,I,Y,g,k _ _ _ _ ((w.trans C).trans s) (h.RO l<|yB p) (N.px s) B]]
end
abbrev DG:=D->Lc->N9->(Lc->N9->Prop)->Prop
abbrev Aky:=LO->Lc->N9->(Lc->N9->Prop)->Prop
section
variable(K:Ab)(T:TN)
def ApD(F:LL)(S:N9)(H:Hp)(Q':Lc->N9->Prop)(Q:St->Hp->Prop):Prop:=∀loc S1 H1 J,Px F S H F S1 H1->Rp K T F H1 S1 []->Lo K F S1 H1 loc J->Q' loc S1->Q J H1
def tT(g:DG):TG:=λv J H Q=>∃F loc S d Q',Rp K T F H S []/\Lo K F S H loc J/\VD K F S H d v/\g d loc S Q'/\ApD K T F S H Q' Q
def AfN(g:Aky):AeP:=λvs J H Q=>∃F loc S ds Q',Rp K T F H S []/\Lo K F S H loc J/\Zh K F S H ds vs/\g ds loc S Q'/\ApD K T F S H Q' Q
end
def PG.imp{X:Cx}{t u:TG}(h:PG X e t)(m:∀v J H Q,u v J H Q->t v J H Q):PG X e u:=λa s J H v w Q I r b=>h a s J H v w Q I r (m v J H Q b)
def AbQ.imp{X:Cx}{t u:AeP}(h:AbQ X es t)(m:∀v J H Q,u v J H Q->t v J H Q):AbQ X es u:=λa s J H v w Q I r b=>h a s J H v w Q I r (m v J H Q b)
section
variable{X:Cx}{K:Ab}{T:TN}{t:DE}{g:DG}{gs:Aky}{tb:DS}{pos:CQ}{e tg l:Expr}{es:L1}{x:Ay}{body:Me}
abbrev dN(i:Nat):DG:=λd loc S Q=>Q (lC loc i d) S
def OU(hN:X.N.Nodup)(i:Nat)(hi:X.N[i]?=U x:=by rfl)(hx:Loc X.env.scope x:=by first|exact B8 rfl|exact Ed Y)(hf:X.fn x=Af\/X.env.scope.names.lookup x=U .local:=by first|exact .inl rfl|exact .inr rfl|assumption):PG X (.Name x pos) (tT K T<|dN i):=(Qx hN hi hx hf).imp λv J H Q⟨F,b,S,d,c,R,a,w,q,k⟩=>k _ S H _ .refl R (a.set w) q
abbrev Aqq:Aky:=λds loc S Q=>match ds with
 |[]=>Q loc S
 |_=>False
abbrev Aqp(g:DG)(gs:Aky):Aky:=λds loc S Q=>match ds with
 |d::r=>g d loc S λloc S=>gs r loc S Q
 |[]=>False
def mF:AbQ X [] (AfN K T Aqq):=Agm.imp λe J H Q⟨F,c,S,f,d,R,b,a,q,k⟩=>by
 cases a with
 |nil=>exact k _ S H _ .refl R b q
 |cons _ _=>exact q.elim
def Su(h1:PG X e (tT K T g))(h2:AbQ X es (AfN K T gs))(hs:(C6 (e::es) X.env).map (·.2)=G2 e X.env::(C6 es X.env).map (·.2):=by rfl):AbQ X (e::es) (AfN K T<|Aqp g gs):=(AdM h1 h2 hs).imp λu J H Q⟨F,f,S,x,i,R,s,c,q,k⟩=>by
 cases c with
 |nil=>exact q.elim
 |cons w c=>exact#[F,f,S,_,_,R,s,w,q,λb m v t p o d r=>#[F,b,m,_,i,o,d,Zh.px p c,r,λa h j l n=>k a h j l<|p.trans n]]
def Aqr(n:Nat)(gs:Aky):DG:=λd loc S Q=>∃ds,d=.t ds/\ds.length=n/\gs ds loc S Q
def xV{k n:Nat}{N4:Hp}[Ol X K N4](hc:X.calm=Af)(h:AbQ X es (AfN K T gs))(hn:(C6 es X.env).length=n:=by rfl)(hst:(C6 es X.env).findIdx? (·.1)=none:=by rfl):PG X (.Tuple es k pos) (tT K T<|Aqr n gs):=(Ajz hc h hn hst).imp λv J H Q⟨F,b,S,d,f,R,m,w,⟨l,e,i,q⟩,k⟩=>by
 subst e;let(a,g,rfl,j,c):=Zc.mp w;exact#[a,g,Y,RE.of j,by rw[<-AJ c];exact i,F,b,S,l,f,R,m,c,q,k]
abbrev AnT(t:DE)(g:DG):DS:=λF D loc S=>t F loc S λd S1=>g d loc S1 D.nx
def AmD(he:PE X e (lf K T t))(hg:PG X tg (tT K T g))(hs:IE [tg] e pos.line X.env=pure Am:=by rfl)(hw:IF [tg] e X.env=pure none:=by rfl)(h1:(C6 [tg] X.env).map (·.2)=[G2 tg X.env]:=by rfl):PS X (.Assign [tg] e pos) (Rx K T<|AnT t g):=(AdW he hg hs hw h1).imp λE J H⟨F,b,S,r,R,c,q,k⟩=>
 #[F,b,S,_,R,c,q,λd j o v p l w n=>#[F,b,j,d,_,l,c.px p,w,n,λa f h i m=>k.nx a f h i<|p.trans m]]
def Lp(F:LL)(xs:LO)(g:DG)(tb:DS)(D:pM)(loc:Lc)(S:N9)(keep:N9->Prop):Prop:=∃I:Nat->Lc->N9->Prop,I 0 loc S/\(∀i loc S,I i loc S->keep S) /\
 (∀i x loc S,xs[i]?=U x->I i loc S->g x loc S λloc S=>tb F #[I<|i+1,D.rt,D.nx,I<|i+1] loc S)/\∀loc S,I xs.length loc S->D.nx loc S
def Lp.mk{D:pM}{keep:N9->Prop}(I:Nat->Lc->N9->Prop)(h0:I 0 loc S)(hk:∀i loc S,I i loc S->keep S)(hs:∀i x loc S,xs[i]?=U x->I i loc S->g x loc S λloc S=>tb F #[I<|i+1,D.rt,D.nx,I<|i+1] loc S)(hd:∀loc S,I xs.length loc S->D.nx loc S):Lp F xs g tb D loc S keep:=#[I,h0,hk,hs,hd]
def Ann:D->Bool
 |.f _=>Af
 |_=>Am
def AcE(h:Zh K F S H ds vs)(f:ds.all Ann=Af):vs=ds.map AkL:=by
 induction h with
 |nil=>rfl
 |@cons d v _ _ h1 _ ih=>
   rw[CM,Ej]at f;cases d with
   |f x=>rw[Au,<-ih f.2,Ou.mp h1];rfl
   |_=>cases f.1
abbrev Alc(t:DE)(g:DG)(tb:DS):DS:=λF D loc S=>t F loc S λd S1=>∃xs,Ra S1 d (.l xs)/\(d=.l xs\/xs.all Ann=Af)/\Lp F xs g tb D loc S1 λS=>Ra S d (.l xs)
def lM{E:Ends}{D':pM}{I:Nat->Lc->N9->Prop}{S0:N9}{H0:Hp}{F:LL}{x:D}{v:V}{i:Nat}{J:St}{H:Hp}{loc:Lc}{S:N9}(Pv:Nat->St->Hp->Prop)(hP:∀i loc S J H,Rp K T F H S []->Lo K F S H loc J->I i loc S->Px F S0 H0 F S H->Pv i J H)(k:Ah9 K T F S0 H0 D' E)(R:Rp K T F H S [])(lo:Lo K F S H loc J)(pe:Px F S0 H0 F S H)(w:VD K F S H x v)(hs:g x loc S λloc S=>tb F #[I<|i+1,D'.rt,D'.nx,I<|i+1] loc S):tT K T g v J H (Rx K T tb<|Acd (Pv<|i+1) E):=#[F,loc,S,x,_,R,lo,w,hs,λe n s r p o h q=>#[F,e,n,_,o,h,q,
  λb j l m d c a f=>hP _ _ _ _ _ c a f<|(pe.trans p).trans d,k.rt.px<|pe.trans p,λb j l m d c a f=>k.nx _ _ _ _ ((pe.trans p).trans d) c a f,λb j l m d c a f=>hP _ _ _ _ _ c a f<|(pe.trans p).trans d]]
def AnF(K:Ab)(F:LL)(S1:N9)(H1:Hp)(d:D)(xs:LO)(a:Ae)(vs:LM):Prop:=(d=.l xs/\AkD K S1 H1 a vs)\/(d=.f (.ref a)/\H1 a=U (.lst vs))
def nH{F:LL}{S1:N9}{H1:Hp}{d:D}{xs:LO}{v:V}(R1:Rp K T F H1 S1 [])(hi:Ra S1 d (.l xs))(w:VD K F S1 H1 d v):∃a,v=.ref a/\∃vs,PX K H1 a vs/\Zh K F S1 H1 xs vs/\AnF K F S1 H1 d xs a vs:=by
 rcases hi with e|⟨a,r,e,f⟩
 ·subst e;let(a,vs,rfl,b,c):=AbM.mp w;exact#[a,Y,vs,b.sq,c,.inl #[Y,b]]
 ·subst e;cases Ou.mp w;let(vs,b,c):=R1.st a r _ f;exact#[a,Y,vs,PX.of b,c,.inr #[Y,b]]
def AnF.keep{F:LL}{S S1:N9}{H H1:Hp}{d:D}{xs:LO}{a:Ae}{vs:LM}(l:AnF K F S1 H1 d xs a vs)(h2:Zh K F S1 H1 xs vs)(hf:d=.l xs\/xs.all Ann=Af)(hk:Ra S d (.l xs))(R2:Rp K T F H S [])(pe:Px F S1 H1 F S H):PX K H a vs:=by
 rcases l with⟨_,l⟩|⟨e,h⟩
 ·exact AkD.sq<|l.imp (λq=>pe.l _ _ q.1 q.2) id
 ·rcases hf with z|hf
  ·rw[e]at z;cases z
  ·rcases hk with z|⟨b,r,z,g⟩
   ·rw[e]at z;cases z
   ·rw[e]at z;cases z;let(i,f,c):=R2.st _ r _ g;refine PX.of ?_;rw[f,AcE c hf,<-AcE h2 hf]
def Y6{N4:Hp}[Ol X K N4][UR X](hl:PE X l (lf K T t))(hg:PG X tg (tT K T g))(hb:QB X body (Rx K T tb))(hs:∀x,Bz l X.env x=pure x:=by intro _;rfl):PS X (.For tg l body [] pos) (Rx K T<|Alc t g tb):=(Qr (VX hl) hg hb hs).imp λE J H⟨F,e,S,D',R,B,q,k⟩=>#[F,e,S,_,R,B,q,λd z j0 v p M w⟨xs,hi,Z,I,Q,W,s,O⟩=>by
  have A:=k.px p;let(a,rfl,C,y0,r,u9):=nH M hi w;let Pv:=λi J H=>∃e S,Rp K T F H S []/\Lo K F S H e J/\I i e S/\Px F z j0 F S H
  have hP:∀i e S J H,Rp K T F H S []->Lo K F S H e J->I i e S->Px F z j0 F S H->Pv i J H:=λi e S J H a b c d=>#[e,S,a,b,c,d]
  have u:∀i J H,Pv i J H->PX K H a C:=λi J H⟨e,S,n,f,m,j⟩=>u9.keep r Z (W i e S m) n j
  refine#[a,Y,#[C,y0],Acw Pv #[e,z,M,B.px p,Q,.refl] (λi J H _ V=>u i J H V) ?_ ?_]
  ·rintro i x aa H2 N⟨h,G,n,f,m,j⟩;have o:=AJ r;have D:i<xs.length:=by rw[o];exact(Ah.mp N).1
   let(y,L,P):=rX r<|Al D;rw[N]at L;cases L;exact lM Pv hP A n f j (VD.px j P)<|s i _ h G (Al D) m
  ·rintro aa H2⟨h,G,n,f,m,j⟩;rw[<-AJ r]at m;exact A.nx _ _ _ _ j n f<|O _ _ m]
def AbP(F:LL)(lo:Int)(n:Nat)(g:DG)(tb:DS)(D:pM)(loc:Lc)(S:N9):Prop:=∃I:Nat->Lc->N9->Prop,I 0 loc S /\
 (∀i loc S,i<n->I i loc S->g (.f<|.int<|lo+i) loc S λloc S=>tb F #[I<|i+1,D.rt,D.nx,I<|i+1] loc S)/\∀loc S,I n loc S->D.nx loc S
def AbP.mk{D:pM}{lo:Int}(I:Nat->Lc->N9->Prop)(h0:I 0 loc S)(hs:∀i loc S,i<n->I i loc S->g (.f<|.int<|lo+i) loc S λloc S=>tb F #[I<|i+1,D.rt,D.nx,I<|i+1] loc S)(hd:∀loc S,I n loc S->D.nx loc S):AbP F lo n g tb D loc S:=#[I,h0,hs,hd]
def rC{E:Ends}{D':pM}{n:Nat}{Ai3:Int}(R1:Rp K T F H1 S1 [])(lo:Lo K F S1 H1 loc J)(k:Ah9 K T F S1 H1 D' E)(h:AbP F Ai3 n g tb D' loc S1):kFor (tT K T g) (Rx K T tb) E J (AbO Ai3 n) H1:=by
 let(I,v,l,r):=h;let Pv:=λi J H=>∃loc S,Rp K T F H S []/\Lo K F S H loc J/\I i loc S/\Px F S1 H1 F S H
 have u:∀i loc S J H,Rp K T F H S []->Lo K F S H loc J->I i loc S->Px F S1 H1 F S H->Pv i J H:=λi loc S J H a b c d=>#[loc,S,a,b,c,d]
 refine jQ Pv #[loc,S1,R1,lo,v,.refl] ?_ ?_
 ·rintro i t s w⟨e,q,m,j,o,p⟩;exact lM Pv u k m j p .f<|l i e q w o
 ·rintro t s⟨e,q,m,j,o,p⟩;exact k.nx _ _ _ _ p m j (r _ _ o)
abbrev Ald(t:DA)(g:DG)(tb:DS):DS:=λF D loc S=>t F loc S λds S1=>∃j:Int,ds=[.f<|.int j]/\-(2 ^ 62)<=j/\j<2 ^ 62/\AbP F 0 j.toNat g tb D loc S1
abbrev Aip(t:DA)(g:DG)(tb:DS):DS:=λF D loc S=>t F loc S λds S1=>∃i j:Int,ds=[.f<|.int i,.f<|.int j]/\(-(2 ^ 62)<=i/\i<2 ^ 62/\-(2 ^ 62)<=j/\j<2 ^ 62)/\AbP F i (j-i).toNat g tb D loc S1
end
abbrev Wj:LV->Lc->Lc
 |[],_=>[]
 |none::r,loc=>none::Wj r loc
 |some i::r,loc=>yN loc i::Wj r loc
section
variable{X:Cx}{K:Ab}{T:TN}
def rN:∀{J:St}{i:Nat},(J[i]?).getD none=Aji J i
 |[],_=>rfl
 |_::_,0=>rfl
 |_::t,n+1=>rN (J:=t) (i:=n)
def VR:∀{v9:LV}{loc:Lc}{J:St},Lo K F S H loc J->Lo K F S H (Wj v9 loc) (pick v9 J)
 |[],_,_,_=>.nil
 |none::r,_,_,h=>.cons (λ_ e=>nomatch e)<|VR (v9:=r) h
 | some i::r,_,J,h=>.cons (λd e=>by
   let(v,a,w):=h.get e;exact#[v,rN.trans a,w]) (VR (v9:=r) h)
def wO:AeO X [] (WZ K T λ_ _ S Q=>Q Af S):=λa s J H Q I⟨F,b,S,c,R,d,q,k⟩=>VZ a s J H Q I (k Af S H .refl R q)
def Aki{c:Expr}{t:DT}(h:PT X c (WZ K T t)):AeO X [c] (WZ K T t):=nT h
def Aia(F:LL)(xs:LO)(v9:LV)(n:Nat)(tt:DT)(te:DE)(loc:Lc)(S1:N9)(p:Ae)(keep:N9->Prop)(Q:QD):Prop:=∃W:Nat->LO->N9->Prop,W 0 [] (NY S1 p (.own 0,.l []))/\(∀i ys S,W i ys S->keep S) /\
 (∀i x ys S,xs[i]?=U x->W i ys S->tt F (lC (Wj v9 loc) n x) S λb S3=>Q3 b (te F (lC (Wj v9 loc) n x) S3 λy S4=>∃r,S4 p=U (r,.l ys)/\ys.length<100000/\W (i+1) (ys++[y]) (NY S4 p (r,.l<|ys++[y])))<|W (i+1) ys S3)/\∀ys S,W xs.length ys S->fz Q (.f<|.ref p) S
def Aia.mk{keep:N9->Prop}(W:Nat->LO->N9->Prop)(h0:W 0 [] (NY S1 p (.own 0,.l [])))(hk:∀i ys S,W i ys S->keep S)(hs:∀i x ys S,xs[i]?=U x->W i ys S->tt F (lC (Wj v9 loc) n x) S λb S3=>Q3 b (te F (lC (Wj v9 loc) n x) S3 λy S4=>∃r,S4 p=U (r,.l ys)/\ys.length<100000/\W (i+1) (ys++[y]) (NY S4 p (r,.l<|ys++[y])))<|W (i+1) ys S3)(hd:∀ys S,W xs.length ys S->fz Q (.f<|.ref p) S):Aia F xs v9 n tt te loc S1 p keep Q:=#[W,h0,hk,hs,hd]
abbrev An0(v9:LV)(n:Nat)(t:DE)(tt:DT)(te:DE):DE:=λF loc S Q=>t F loc S λd S1=>∃xs,Ra S1 d (.l xs)/\(d=.l xs\/xs.all Ann=Af)/\∀p,S1 p=none->p∉F->Aia F xs v9 n tt te loc S1 p (λS=>Ra S d<|.l xs) Q
def Aer{v9:LV}{n:Nat}(h:v9[n]?=U none)(J:St)(v:V):Wk (pick v9 J) (AgZ (pick v9 J) n v):=Wk.set (by
 unfold pick;rw[Ag,h];rfl)
def AhP{v9:LV}{n:Nat}{t te:DE}{tt:DT}(hn:v9[n]?=U none):lf K T (An0 v9 n t tt te) J H Q->AmO v9 (AhA K<|lf K T t) (Wi n) (WZ K T tt) (lf K T te) J H Q:=λ⟨F,aa,S,Q',R,lo,q,k⟩=>
 #[F,aa,S,_,R,lo,q,λd y0 z v O E w⟨h,hi,hf,hw⟩=>by
  let(a,rfl,j,h1,B,ls):=nH E hi w;refine#[a,Y,#[j,h1],λD s=>?_];let(W,h0,hk,j0,hd):=hw D (E.free s) λm=>E.fd D m s
  have sD:Ob z (upd z D<|.lst []):=(Ob.refl z).upd s;have I:Px F y0 z F (NY y0 D (.own 0,.l [])) _:=Px.own sD s;refine#[λi m zs V=>∃p g,m=h.length-i/\i<=h.length/\Rp K T F V g []/\W i p g/\Px F y0 z F g V,#[h.length,[],_,Y,Bo _,E.own (o:=.l []) sD s _ #[[],N1,.nil],h0,I],?_];rintro i m zs V⟨p,g,rfl,ac,L,M,c⟩;have P:=ls.keep B hf (hk i p g M) L c;by_cases u:i<h.length
  ·have G:i<j.length:=by rw[<-AJ B];exact u
   refine .inr #[#[j,j[i],P,Al G],λx H3 C=>?_];let(rfl,u9):=C;have u9:=u9 j<|P;let(y,C,wy):=rX B<|Al u;rw[u9]at C;cases C;refine#[Aer hn J x,F,_,g,_,L,(VR<|lo.px<|O.trans c).set (wy.px c),j0 i _ p g (Al u) M,λb S3 H3 A R3 q3=>?_];cases b with
   |false=>exact#[h.length-(i+1),Nr,p,S3,Y,u,R3,q3,c.trans A]
   |true=>refine#[F,_,S3,_,R3,(VR<|lo.px<|O.trans<|c.trans A).set (wy.px<|c.trans A),q3,λy S4 H4 v4 p4 X w4⟨r,Z,ab,N⟩=>?_];let(us,g1,g2):=X.st D r _ Z;refine#[us,g1,by rw[<-AJ g2,Bf];omega,h.length-(i+1),Nr,_,_,Y,u,X.Aem Z<|aZ g2 w4,N,(c.trans A).trans (p4.trans<|Px.set X Z)]
  ·have e:i=h.length:=Nr;subst e;exact .inl #[#[j,P,by rw[AJ B];exact Ap _],(k.px O).fz _ _ _ _ c L .f (hd p g M)]]
variable{elt tg l:Expr}{ifs:L1}{scope:Scope}{pos:CQ}{Nc:LK}{v9:LV}{t te:DE}{tt:DT}{n:Nat}
def Ahu{N4:Hp}[Ol X K N4](hcalm:X.calm=Af)(hl:PE X l (lf K T t))(hkind:scope.kind=.function)(hcell:∀y∈scope.names,y.2≠.cell)(hfr:∀y∈scope.names,y.2=.free->X.env.kindOf y.1=U .cell\/X.env.kindOf y.1=U .free)(hnames:∀x∈scope.names,x.2=.local->scope.names.lookup x.1=U .local)(caps:Q2 X scope Nc v9)(hg:∀fp s H,PG (OO X scope Nc fp s H) tg<|Wi n)(ht:∀fp s H,AeO (OO X scope Nc fp s H) ifs<|WZ K T tt)(he:∀fp s H,PE (OO X scope Nc fp s H) elt<|lf K T te)(hn:v9[n]?=U none:=by rfl)(hs:∀x,Bz l X.env x=pure x:=by intro _;rfl):PE X (.ListComp elt [#[tg,l,ifs,0]] scope pos) (lf K T<|An0 v9 n t tt te):=(kO hcalm (VX hl) hkind hcell hfr hnames caps hg ht he hs).imp λJ H Q=>AhP hn
def AgR{N4:Hp}[Ol X K N4]{i₀:Nat}{x₀:Ay}{pos₀ spos:CQ}(hN:X.N.Nodup)(hi₀:X.N[i₀]?=U x₀)(hx₀:Loc X.env.scope x₀)(hcalm:X.calm=Af)(hl:PE X l (lf K T t))(hkind:scope.kind=.function)(hcell:∀y∈scope.names,y.2≠.cell)(hfr:∀y∈scope.names,y.2=.free->X.env.kindOf y.1=U .cell\/X.env.kindOf y.1=U .free)(hnames:∀x∈scope.names,x.2=.local->scope.names.lookup x.1=U .local)(caps:Q2 X scope Nc v9)(hg:∀fp s H,PG (OO X scope Nc fp s H) tg<|Wi n)(ht:∀fp s H,AeO (OO X scope Nc fp s H) ifs<|WZ K T tt)(he:∀fp s H,PE (OO X scope Nc fp s H) elt<|lf K T te)(hn:v9[n]?=U none:=by rfl)(hs:∀x,Bz l X.env x=pure x:=by intro _;rfl)(hsw:swapsWith (.ListComp elt [#[tg,l,ifs,0]] scope pos) (U<|.Name x₀ pos₀) spos.line X.env=pure Af:=by rfl)(hf₀:X.fn x₀=Af\/X.env.scope.names.lookup x₀=U .local:=by first|exact .inl rfl|exact .inr rfl|assumption):PS X (.Assign [.Name x₀ pos₀] (.ListComp elt [#[tg,l,ifs,0]] scope pos) spos) (Rx K T<|bN (An0 v9 n t tt te) i₀):=(XW hN hi₀ hx₀ hcalm (VX hl) hkind hcell hfr hnames caps hg ht he hs hsw hf₀).imp λE J H⟨F,a,S,h,R,b,q,k⟩=>AhP hn #[F,a,S,_,R,b,q,λd e c v p f w g=>k.nx _ e c _ p f ((b.px p).set w) g]
end
section
variable{M:Md}{K:Ab}{k:Nat}{x:Ay}{sp sp':Sp}
def Hf.imp(u9:Hf M K k x sp)(h:∀vs H Q E,sp' vs H Q E->sp vs H Q E):Hf M K k x sp':=by let(b,(f,a,F,r)):=u9;exact#[b,#[f,a,F.imp h,r]]
end
section
variable{K:Ab}{S:N9}{Q:QD}{x y:D}{C:Ae}{fs:Mf}{f m:Ay}{a:Ae}{r:Rl}{i:Nat}{A:WR->Ae}{w w':QJ}{Cw:WC}{N:N9->Prop}
def zF(h:S a=U (r,.i C fs))(l:fs.lookup f=U x)(k:Q x S):kF f Q (.f<|.ref a) S:=#[C,fs,x,.inr #[a,r,Y,h],l,k]
def Zf(l:fs.lookup f=U x)(k:Q x S):kF f Q (.i C fs) S:=#[C,fs,x,.inl Y,l,k]
def Sj(wd:Ox Cw i A w S)(y:WR)(k:Q x S)(e0:Sm Cw A w y=U (.i C fs):=by rfl)(l:fs.lookup f=U x:=by rfl):kF f Q (.f<|.ref<|A y) S:=zF (wd y _ e0) l k
def zC(h:S a=U (r,.i C fs))(l:fs.lookup m=none):AkP S (.f<|.ref a) C m:=#[fs,.inr #[a,r,Y,h],l]
def Arb(l:fs.lookup m=none):AkP S (.i C fs) C m:=#[fs,.inl Y,l]
def RS(wd:Ox Cw i A w S)(y:WR)(e0:Sm Cw A w y=U (.i C fs):=by rfl)(l:fs.lookup m=none:=by rfl):AkP S (.f<|.ref<|A y) C m:=zC (wd y _ e0) l
def bG(wd:Ox Cw i A w S)(y:WR){o:O}(e0:Sm Cw A w y=U o:=by rfl):Ra S (.f<|.ref<|A y) o:=.inr #[_,_,Y,wd y _ e0]
def zS(h:S a=U (r,.i C fs))(n:(fs.lookup f).isSome=Af\/Qe K C f)(l:Ee fs.length 999=Af)(k:N (NY S a (r,.i C<|sA f y fs))):Anq K f y N (.f<|.ref a) S:=#[a,r,C,fs,Y,h,n,l,k]
def pK{ns:LK}(G:Ahg K C ns)(k:N (NY S a (r,.i C<|sA f y fs)))(n:f∈ns:=by decide +kernel)(l:Ee fs.length 999=Af:=by rfl):Anq K f y N (.f<|.ref a) (NY S a (r,.i C fs)):=zS NZ (.inr<|G.n f n) l (by rw[Sa];exact k)
def Ap4(wd:Ox Cw i A w S)(z:WR)(w':QJ)(k:∀S1,Ox Cw i A w' S1->Fr i S S1->N S1)(e0:Sm Cw A w z=U (.i C fs):=by rfl)(e1:Sm Cw A w' z=U (.i C<|sA f y fs):=by rfl)(e:∀x,x≠z->Sm Cw A w' x=Sm Cw A w x:=by walk_at"w")(n:(fs.lookup f).isSome=Af:=by rfl)(l:Ee fs.length 999=Af:=by rfl):Anq K f y N (.f<|.ref<|A z) S:=zS (wd z _ e0) (.inl n) l (k _ (wd.upd z e0 e1 e)<|Fr.set<|wd z _ e0)
end
section
variable{X:Cx}{K:Ab}{T:TN}
def Yp:∀(ms:LK),Zh K F S H (ms.map λz=>.f<|.str z) (ms.map V.str)
 |[]=>.nil
 |_::ms=>.cons .f (Yp ms)
def pF:∀(ms:LS),Zh K F S H (ms.map λz=>.f<|.int z) (ms.map V.int)
 |[]=>.nil
 |_::ms=>.cons .f (pF ms)
abbrev oR(ms:LK):O:=.l (ms.map λz=>.f<|.str z)
abbrev Afw(ms:LS):O:=.l (ms.map λz=>.f<|.int z)
def Amr:DN:=λds F S Q=>one ds λd=>∃ks ns,Ra S d (.d ks)/\ks.map (·.1)=ns.map C1/\ns.length<64/\∀ms:LK,ms.Perm ns->F9 ms=Af->aw F (oR ms) Q S
def jJ(hc:X.calm=Af):RD X K T (.builtin "sorted") Amr:=#[_,lP hc,λF S H Q u y x R q h k=>by
 let(d,rfl,z,m,s,e,l,g):=Ri h;let(v,rfl,w):=Rj q;let(a,rfl,c,j,i):=(R.one w).is (OK s w);exact#[a,c,m,Y,j.rd,(Sv i).trans e,l,λb p f n t=>R.aw (o:=oR b) t Y (λr=>#[_,N1,Yp b]) (g b f n) k]]
def Amo:DN:=λds F S Q=>one ds λd=>∃ks ns,Ra S d (.d ks)/\ks.map (·.1)=ns.map Cb/\ns.Pairwise (·<·)/\aw F (Afw ns) Q S
def uE(hc:X.calm=Af):RD X K T (.builtin "sorted") Amo:=#[_,gJ hc,λF S H Q q t s R j h k=>by
 let(d,rfl,u,c,m,e,l,f):=Ri h;let(v,rfl,w):=Rj j;let(a,rfl,b,i,g):=(R.one w).is (OK m w);exact#[a,b,c,Y,i.rd,(Sv g).trans e,l,λp n=>R.aw (o:=Afw c) n Y (λr=>#[_,N1,pF c]) f k]]
def Amq:DN:=λds F S Q=>one ds λd=>∃ns:LK,Ra S d (oR ns)/\ns.length<64/\∀ms:LK,ms.Perm ns->F9 ms=Af->aw F (oR ms) Q S
def AfT{ns:LK}(h:Zh K F S H (ns.map λz:Ay=>.f<|.str z) vs):vs=ns.map V.str:=by
 induction ns generalizing vs with
 |nil=>cases h;rfl
 |cons n ns ih=>
   cases h with
   |cons a b=>rw[Au,Ou.mp a,ih b]
def jK{N4:Hp}[Ol X K N4]:RD X K T (.builtin "sorted") Amq:=#[_,lQ,λF S H Q t x u R n h k=>by
 let(d,rfl,j,q,l,f):=Ri h;let(v,rfl,w):=Rj n;let(a,rfl,y,i,g):=(R.one w).is (OK q w);have e:=AfT g;subst e;exact#[a,j,Y,i,l,λb p c m s=>R.aw (o:=oR b) s Y (λr=>#[_,N1,Yp b]) (f b c m) k]]
abbrev Anw:=D->LW->LW->LL->N9->QD->Prop
abbrev DO:=LL->Lc->N9->(LW->N9->Prop)->Prop
def AnL(X:Cx)(K:Ab)(T:TN)(δ:Anw):Prop:=∃r,Anh X r/\∀F S H(Q:VK)(Q':QD)d x lo hi,Rp K T F H S []->VD K F S H d x->δ d lo hi F S Q'->Nx K F S H T Q' Q->r x lo hi H Q
def Anr(K:Ab)(T:TN)(t:DO):TO:=λJ H Q=>∃F loc S Q',Rp K T F H S []/\Lo K F S H loc J/\t F loc S Q'/\∀o S1 H1,Px F S H F S1 H1->Rp K T F H1 S1 []->Q' o S1->Q o H1
def PO.imp{X:Cx}{t u:TO}{o:MD}(h:PO X o t)(m:∀J H Q,u J H Q->t J H Q):PO X o u:=λa s J H Q I b=>h a s J H Q I (m J H Q b)
variable{t u:DE}{tl th:DO}{e:Expr}{lo hi:MD}{p2 pos:CQ}
def AeK:PO X none (Anr K T λ_ _ S Q=>Q none S):=Agq.imp λJ H Q⟨F,a,S,b,R,c,q,k⟩=>k none S H .refl R q
abbrev Aja(d:D)(P:Int->Prop):Prop:=match d with
 |.f (.int i)=>P i
 |_=>False
def AfR{P:Int->Prop}(h:Aja d P):∃i,d=.f (.int i)/\P i:=by
 unfold Aja at h;split at h
 ·exact#[_,Y,h]
 ·exact h.elim
def AeL(h:PE X e (lf K T t)):PO X (U e) (Anr K T λF loc S Q=>t F loc S λd S1=>Aja d λi=>Q (U i) S1):=(Agr h).imp λJ H Q⟨F,loc,S,f,R,b,q,k⟩=>
 #[F,loc,S,_,R,b,q,λd S1 a v p c w h=>by
  let(i,rfl,h):=AfR h;rw[Ou.mp w];exact k _ S1 a p c h]
abbrev Aqu(δ:Anw)(t:DE)(tl th:DO):DE:=λF loc S Q=>t F loc S λd S1=>tl F loc S1 λl S2=>th F loc S2 λh S3=>δ d l h F S3 Q
def xR{δ:Anw}(hr:AnL X K T δ)(he:PE X e (lf K T t))(hl:PO X lo (Anr K T tl))(hu:PO X hi (Anr K T th)):PE X (.Subscript e (.Slice lo hi none p2) pos) (lf K T<|Aqu δ t tl th):=by
 let(r,s,m):=hr;exact(AdH s he hl hu).imp λJ H Q⟨F,a,S,g,R,lo,q,k⟩=>#[F,a,S,_,R,lo,q,λd n B v b o w p=>#[F,a,n,_,o,lo.px b,p,λl f A p2 i y=>#[F,a,f,_,i,lo.px<|b.trans p2,y,λu j z c h x=>
  m F j z Q g d v l u h (w.px<|p2.trans c) x (k.px<|(b.trans p2).trans c)]]]
def Aaz{α:Type}(xs:List α)(lo hi:LW):List α:=(xs.drop<|HT.Sn xs.length 0 lo).take (HT.Sn xs.length xs.length hi-HT.Sn xs.length 0 lo)
def Agv{α β:Type}{G:α->β->Prop}{as:List α}{bs:List β}(h:Paired G as bs):∀n,Paired G (as.take n) (bs.take n):=by
 induction h with
 |nil=>intro n;rw[JP,JP];exact .nil
 |cons h1 _ ih=>
   intro n;cases n with
   |zero=>exact .nil
   |succ n=>exact .cons h1 (ih n)
def Agt{α β:Type}{G:α->β->Prop}{as:List α}{bs:List β}(h:Paired G as bs):∀n,Paired G (as.drop n) (bs.drop n):=by
 induction h with
 |nil=>intro n;rw[JS,JS];exact .nil
 |cons h1 h2 ih=>
   intro n;cases n with
   |zero=>exact .cons h1 h2
   |succ n=>exact ih n
def AdU{G:α->V->Prop}{as:List α}{bs:LM}(h:Paired G as bs)(lo hi:LW):Paired G (Aaz as lo hi) (AaA bs lo hi):=by unfold Aaz AaA;rw[AJ h];exact Agv (Agt h _) _
def AiR{N4:Hp}[Ol X K N4]:AnL X K T (λd lo hi F S Q=>∃xs,Ra S d (.l xs)/\aw F (.l<|Aaz xs lo hi) Q S):=#[_,AgY,λF S H Q i d x lo hi R w⟨xs,c,h⟩k=>by
 let(a,rfl,e,g,f):=(R.one w).is (OK c w);exact#[a,e,Y,g,λp b=>R.aw (o:=.l _) b Y (λr=>#[_,N1,Paired.imp' (λ_ _=>VD.px<|Px.own ((Ob.refl H).upd b) b)<|AdU f lo hi]) h k]]
def AlU{N4:Hp}[Ol X K N4]:AnL X K T (λd lo hi F S Q=>∃xs,d=.t xs/\¬ (HT.Sn xs.length 0 lo=0/\HT.Sn xs.length xs.length hi=xs.length)/\Q (.t<|Aaz xs lo hi) S):=#[_,Aj5,λF S H Q l d x lo hi R w⟨xs,i,j,h⟩k=>by
 subst i;let(a,f,rfl,g,e):=Zc.mp w;refine#[a,f,Y,RE.of g,by rw[<-AJ e];exact j,λp b=>?_];have c:=R.Adf b<|AdU e lo hi;exact k _ _ _ _ (Px.Qo ((Ob.refl H).upd b).n) c.nil c.hd h]
def AdS{α β:Type}{G:α->β->Prop}{as cs:List α}{bs es:List β}(h:Paired G as bs)(h':Paired G cs es):Paired G (as++cs) (bs++es):=by
 induction h with
 |nil=>exact h'
 |cons a _ b=>exact .cons a b
def Amu(K:Ab):R2:=λx y H Q=>∃l b xs zs,x=.ref l/\y=.ref b/\PX K H l xs/\PX K H b zs/\xs.length+zs.length<=sizeLine/\∀p,H p=none->Q (.ref p) (upd H p<|.lst<|xs++zs)
def Af6{N4:Hp}[hK:Ol X K N4]:TM X (Cv .Add) (Amu K):=by let(rfl,rfl):=hK;intro w s J H x y v u Q I j0 L h;let(l,b,u9,R,rfl,rfl,E,N,S,q):=h;cases j0;cases L;let(c,r,G,T):=I.list E;let(a,z,g,C):=I.list N;have V:=r.length;have W:=z.length;let((B,M,o,D),t,P,n,A):=G.isList;let((p,i,m,k),d,j,O,f):=g.isList;subst P A j f;have e:c.toArray++a.toArray=(c++a).toArray:=Nu;refine GH #[_,t,Y] #[_,d,Y] noFill_list_add seq_list_add PySem.F.slot_list_add PySem.F.entry_list_add (PySem.F.args_list_add_2 _ _) (list_addW l b _ _ n O M i D k (by simp only[Aw];omega)) #[t,d,?_];rw[e];exact#[.ref _,_,I.Ai2 (r.append z) (by rw[AN];omega),Y,q _ I.fresh]
def AnW:D2:=λd e F S Q=>∃xs ys,Ra S d (.l xs)/\Ra S e (.l ys)/\xs.length+ys.length<100000/\aw F (.l<|xs++ys) Q S
def Al8{N4:Hp}[Ol X K N4]:Yq X K T (Cv .Add) AnW:=#[_,Af6,λF S H Q v d e x y R f j⟨z,w,m,t,l,h⟩k=>by
 let(a,rfl,q,s,g):=(R.one f).is (OK m f);let(b,rfl,n,u,i):=(R.one j).is (OK t j);exact#[a,b,q,n,Y,Y,s,u,by rw[<-AJ g,<-AJ i,Bf];omega,λp c=>R.aw (o:=.l _) c Y (λr=>#[_,N1,Paired.imp' (λ_ _=>VD.px<|Px.own ((Ob.refl H).upd c) c)<|AdS g i]) h k]]
def AqN(y d e:D)(N:N9->Prop)(S:N9):Prop:=∃a r xs i j,d=.f (.ref a)/\e=.f (.int i)/\S a=U (r,.l xs)/\AbS xs.length i=U j/\N (NY S a (r,.l<|xs.set j y))
def AjD{α β:Type}{G:α->β->Prop}{as:List α}{bs:List β}{a:α}{b:β}(h:Paired G as bs)(r:G a b):∀n,Paired G (as.set n a) (bs.set n b):=by
 induction h with
 |nil=>intro n;exact .nil
 |cons h1 h2 ih=>
   intro n;cases n with
   |zero=>exact .cons r h2
   |succ n=>exact .cons h1 (ih n)
abbrev Ali(td ty tv:DE):DS:=λF D loc S=>tv F loc S λy S1=>td F loc S1 λd S2=>ty F loc S2 λe S3=>AqN y d e (λS4=>D.nx loc S4) S3
def Aej{t3:DE}{o i value:Expr}{pos':CQ}(ho:PE X o (lf K T t))(hi:PE X i (lf K T u))(hv:PE X value (lf K T t3))(ha:∀v,G2 (.Subscript o i pos') X.env v=(do
   let ov <-holding [v] (eval o X.env);let iv <-holding [v,ov] (eval i X.env)
   standAt pos'
   holding [v,ov,iv] (Kb ov iv v)
   release [v,ov,iv] []):=by intro _;rfl)(hs:IE [.Subscript o i pos'] value pos.line X.env=pure Am:=by rfl)(hw:IF [.Subscript o i pos'] value X.env=pure none:=by rfl)(h1:(C6 [.Subscript o i pos'] X.env).map (·.2)=[G2 (.Subscript o i pos') X.env]:=by rfl):PS X (.Assign [.Subscript o i pos'] value pos) (Rx K T<|Ali t u t3):=
 (AdW hv (Ajy ho hi set_list ha) hs hw h1).imp λE J H⟨F,b,S,y0,R,c,q,k⟩=>
 #[F,b,S,_,R,c,q,λy P W v h L A D=>#[F,b,P,_,L,c.px h,D,λd j0 Z x g C Q u9=>#[F,b,j0,_,C,c.px<|h.trans g,u9,λe S3 V z n f B⟨a,r,M,i,j,N,I,m,O,G⟩=>by
  subst N I;cases Ou.mp Q;cases Ou.mp B;let(s,h1,p):=f.st a r _ m;have w:=((h.trans g).trans n).trans (Px.set (r':=r) (o':=.l<|M.set j y) (u:=.lst<|s.set j v) f m);exact#[a,s,i,j,Y,Y,h1,by rw[<-AJ p];exact O,k.nx b _ _ J w (f.Aem m<|AjD p (A.px<|g.trans n) j) (c.px w) G]]]]
end
def erase_filter{κ β:Type}[DecidableEq κ]{k:κ}{b:β}:∀{xs:List (κ×β)}{j:Nat},(xs.map (·.1)).Nodup->xs[j]?=U (k,b)->xs.eraseIdx j=xs.filter λx=>decide (x.1≠k)
 |[],_,_,h=>by simp at h
 | x::xs,0,nd,h=>by
   cases h;rw[Au,Bb]at nd;rw[List.eraseIdx_cons_zero,E7 Nu]
   symm
   rw[Ce];intro y c;exact Ao λe=>nd.1 (by rw[<-e];exact AE.mpr #[y,c,Y])
 | x::xs,j+1,nd,h=>by
   rw[Au,Bb]at nd;have h:xs[j]?=U (k,b):=h;have a:x.1≠k:=λe=>nd.1 (by rw[e];exact AE.mpr #[_,Av h,Y])
   rw[CD,DQ (by simpa using a),erase_filter nd.2 h]
section
variable{prog:Bn}{w:Bw}{κ:Type}[DecidableEq κ]{knd:HeapKind prog w κ}{A:BS}{E:Ai->Ax->Prop}{s:Ax}{d a:Ae}{k:κ}{xs:List (κ×Ae×Ai)}
def oV{Q:Option Kt->Ax->Prop}(hu:knd.room A)(hkey:knd.is s.heap k a)(hm:s.heap.DictOfH knd d xs)(ht:∃(j:Nat)(p:Ae×Ai),xs[j]?=U (k,p))(hz:xs.length<=sizeLine)(hQ:∀(j:Nat)(p:Ae×Ai),xs[j]?=U (k,p)->∀h',h'.DictOfH knd d (xs.filter λx=>decide<|x.1≠k)->De d s.heap h'->Q (U<|entryOfKey knd (k,p)) {s with heap:=h',toks:=s.toks+knd.draws k}):AZ (A7 prog w) A (DR d<|.ref a) Q E s:=by
 let(o,q,n,c,r,b,h,g,m):=hm;unfold DR
 try with_reducible refine BH ?_
 refine Ad<|knd.pyHash hu hkey ?_;refine Ad<|JE hu hkey c b h g m ?_ ?_
 ·intro i;let(j,p,f):=ht;exact absurd f<|i j p
 ·intro j p f;refine Ad<|J8 c b ?_;rw[entry_at h j,f];refine Ad<|wpAny_updateDictKeys (hz:=by have e:=KA h;omega) c b<|wpAny_pure<|hQ j p f _ #[_,_,n+1,CT _ c<|Cy.isFreed_of_dict<|IJ b _,r.mapDictKeys _,IJ b _,?_,?_,?_]<|BW ..
  ·rw[<-erase_filter m f];obtain⟨l⟩:=q;subst h;rw[D5];rw[C4,C4,AU,JQ,JR]
  ·intro x t;exact knd.keeps (g x (Bp.mp t).1) c b<|BW ..
  ·exact List.Sublist.nodup (FE _ FJ) m
end
def KT.filter(r:KT H v5 xs)(k:Ma):KT H (Tc v5 k) (xs.filter λx=>decide<|x.1≠k):=by
 induction r with
 |nil=>exact .nil
 |cons h1 h2 ih=>
   unfold Tc at *;rw[Dz,Dz,h1.1];split
   ·exact .cons h1 ih
   ·exact ih
def KT.there(r:KT H v5 xs)(k:Ma)(h:PV v5 k=U v):∃(j:Nat)(p:Ae×Ai),xs[j]?=U (k,p):=by
 induction r with
 |nil=>cases h
 |@cons p q _ _ h1 _ ih=>
   by_cases e:p.1=k
   ·exact#[0,q.2,by rw[List.getElem?_cons_zero,<-e,h1.1]]
   ·rw[Si e]at h;let(j,p,a):=ih h;exact#[j+1,p,by exact a]
def KT.at(r:KT H v5 xs)(nd:(xs.map (·.1)).Nodup)(h:PV v5 k=U v):∀(j:Nat)(p:Ae×Ai),xs[j]?=U (k,p)->RelV v p.2:=by
 induction r with
 |nil=>intro j p e;simp at e
 |@cons p q ps qs h1 h2 ih=>
   rw[Au,Bb]at nd;intro j z e;cases j with
   |zero=>
     injection e with e;have a:p.1=k:=by rw[h1.1,e]
     rw[TK a]at h;cases h;have:=h1.2.2;rw[e]at this;exact this
   |succ j=>
     have n:p.1≠k:=λa=>nd.1 (by rw[<-h1.1,a];exact AE.mpr #[_,Av e,Y])
     rw[Si n]at h;exact ih nd.2 h j z e
def Px.walk{ob:Cy}(e0:H b=U (.dK v5)):Px F S H (b::F) S (upd H b<|.Ry ob<|.dK v5):=#[.walk e0,λa _ _ o u e=>by
 rw[NX]
 ·exact e
 ·intro z;rw[z,e0]at e;cases e]
section
variable{X:Cx}{K:Ab}{T:TN}{t:DE}{g:DG}{tb:DS}{pos v7 v8:CQ}{l tg:Expr}{body:Me}
def ApC(xs:LO)(P:Ae->Prop)(g:DG)(tb:DS)(D:pM)(loc:Lc)(S:N9):Prop:=∀a,P a->∃I:Nat->Lc->N9->Prop,I 0 loc S /\
 (∀i x loc S',xs[i]?=U x->I i loc S'->(S a=none->S' a=none)->g x loc S' λloc S=>tb [a] #[I<|i+1,D.rt,λ_ _=>False,I<|i+1] loc S)/\∀loc S,I xs.length loc S->D.nx loc S
def ApM(it:LY->LO)(g:DG)(tb:DS)(F:LL)(D:pM)(loc:Lc):QD:=λd S=>∃ks,F=[]/\((d=.d ks/\ApC (it ks) (λa=>S a=none) g tb D loc S)\/∃a r,d=.f (.ref a)/\S a=U (r,.d ks)/\ApC (it ks) (λb=>b=a) g tb D loc S)
abbrev Acb(it:LY->LO)(t:DE)(g:DG)(tb:DS):DS:=λF D loc S=>t F loc S (ApM it g tb F D loc)
abbrev Anp(ks:LY):LO:=ks.map λp=>.f (kV p.1)
abbrev AqA(ks:LY):LO:=ks.map λp=>.t [.f<|kV p.1,p.2]
def Afm{it:LY->LO}{D':pM}(R:Rp K T F H S [])(w:VD K F S H d v)(h:ApM it g tb F D' loc d S):∃ks a v5,F=[]/\v=.ref a/\H a=U (.dK v5)/\Paired (KD<|VD K F S H) ks v5/\∃I:Nat->Lc->N9->Prop,I 0 loc S /\
  (∀i x loc S',(it ks)[i]?=U x->I i loc S'->(S a=none->S' a=none)->g x loc S' λloc S=>tb [a] #[I<|i+1,D'.rt,λ_ _=>False,I<|i+1] loc S)/\∀loc S,I (it ks).length loc S->D'.nx loc S:=by
 obtain⟨ks,rfl,⟨rfl,L⟩|⟨a,r,rfl,e,L⟩⟩:=h
 ·obtain⟨a,v5,rfl,n,b|⟨z,_⟩,c⟩:=tR.mp w
  ·exact#[ks,a,v5,Y,Y,b,c,L a n]
  ·cases z
 ·cases Ou.mp w;let(v5,b,c):=R.dk e nofun;exact#[ks,a,v5,Y,Y,b,c,L a Y]
def AhK{R:D->V->Prop}{ks:LY}{vs:LP}(h:Paired (KD R) ks vs){i:Nat}{kv:Key×V}(e:vs[i]?=U kv):∃p,ks[i]?=U p/\kv.1=p.1/\R p.2 kv.2:=by
 induction h generalizing i with
 |nil=>simp at e
 |@cons p q _ _ h1 _ ih=>
   cases i with
   |zero=>cases e;exact#[p,Y,h1.1,h1.2]
   |succ i=>exact ih e
def Aeg{it:LY->LO}{j0:Ae->Cy->LP->It}{wi:TI}{N4:Hp}[hK:Ol X K N4][UR X](hw:∀J H R,lf K T t J H (ApN j0 N4 R)->wi J H R)(hi:PI X tg l wi)(hg:PG X tg (tT K T g))(hb:QB X body (Rx K T tb))(hs:∀x,Bz l X.env x=pure x)(hl:∀ks,(it ks).length=ks.length)(run:∀{a:Ae}{ob:Cy}{v5:LP}{J:St}{H:Hp}{E:Ends}(Pv:Nat->St->Hp->Prop),Pv 0 J H->(∀i J H,i<=v5.length->Pv i J H->H a=U (.Ry ob<|.dK v5)) ->
   (∀i kv J H v H',v5[i]?=U kv->Pv i J H->(∀(S:N9)(F:LL)(d:D),Rp K T F H S []->VD K F S H d kv.2->∃x,(∀ks:LY,ks[i]?=U (kv.1,d)->(it ks)[i]?=U x)/\Rp K T F H' S []/\VD K F S H' x v/\Px F S H F S H')->tT K T g v J H' (Rx K T tb<|Acd (Pv<|i+1) E) )->(∀J H,Pv v5.length J H->E.nx J H)->kFor (tT K T g) (Rx K T tb) E J (j0 a ob v5) H):
  PS X (.For tg l body [] pos) (Rx K T<|Acb it t g tb):=by
 refine(yU<|Qr hi hg hb hs).imp λE J H⟨F,r,S,D',R,lo,q,k⟩=>#[Y,hw _ _ _ #[F,r,S,_,R,lo,q,λd B u9 v p R1 w h=>?_]]
 let(ks,a,v5,rfl,rfl,h1,h2,I,h0,aa,hd):=Afm R1 w h;refine#[a,v5,Y,h1,λob nf=>?_];have p0:Px [] B u9 [a] B (upd u9 a<|.Ry ob _):=Px.walk h1;have R2:Rp K T [a] (upd u9 a<|.Ry ob _) B []:=R1.walk h1;have af:=(lo.px p).px p0;generalize hH2:upd u9 a (.Ry ob _)=W at *;have z2:W a=U (.Ry ob<|.dK v5):=by rw[<-hH2];exact N1
 have ad:=Paired.imp' (λ_ _=>KD.imp λ_ _=>VD.px p0) h2;have C:∀{f:N9}{s:Hp},Px [a] B W [a] f s->s a=U _:=λc=>c.z a (.head _) (.head _) _ _ z2
 have u:∀{f:N9}{s:Hp},Px [a] B W [a] f s->Rp K T [a] s f []->Rp K T [] _ f []/\Pe [a] f s [] f _/\Px [] S H [] f _:=λ{f s}c G=>
  #[G.rest<|C c,Pe.rest<|C c,#[((p.toPe.trans p0.toPe).trans c.toPe).trans (Pe.rest<|C c),λb m=>nomatch m]]
 let Pv:=λi J H=>∃r S,Rp K T [a] H S []/\Lo K [a] S H r J/\I i r S/\Px [a] B W [a] S H
 refine run Pv #[r,B,R2,af,h0,.refl] (λi J H _⟨_,_,_,_,_,c⟩=>C c) ?_ ?_
 ·rintro i kv ag s v H4 ae⟨j,f,G,A,V,c⟩mk;let((k0,d0),ab,e1,wd):=AhK ad ae;let(x,hx,R4,wx,P):=mk f [a] d0 G<|wd.px c;have hx:=hx ks (by rw[e1];exact ab);refine#[[a],j,f,x,_,R4,A.px P,wx,aa i x j f hx V (λn=>?_),λN S5 H5 ai y0 R5 ac q5=>#[[a],N,S5,_,R5,ac,q5,λo Q H6 ah L O y M=>#[o,Q,O,y,M,((c.trans P).trans y0).trans L],λd6 Q H6 v6 L O w6 M=>?_,λ_ _ _ _ _ _ _ h=>h.elim,λo Q H6 ah L O y M=>#[o,Q,O,y,M,((c.trans P).trans y0).trans L]]]
  ·exact(c.d a v5 n<|.inr #[.head _,ob,z2]).1
  ·have pp:=((c.trans P).trans y0).trans L;let(R7,Z,p8):=u pp O;exact#[a,ob,v5,C pp,nf,k.rt _ _ _ _ p8 R7 (w6.pe Z) M]
 ·rintro ag s⟨j,f,G,A,V,c⟩;let(R7,Z,p8):=u c G;rw[<-AJ h2,<-hl ks]at V;exact#[a,ob,v5,C c,nf,k.nx _ _ _ _ p8 R7 (Paired.imp' (λ_ _ q d e=>let⟨v,z,w⟩:=q d e;#[v,z,w.pe Z]) A)<|hd _ _ V]
def eJ{N4:Hp}[hK:Ol X K N4][UR X](hl:PE X l (lf K T t))(hg:PG X tg (tT K T g))(hb:QB X body (Rx K T tb))(hs:∀x,Bz l X.env x=pure x:=by intro _;rfl):PS X (.For tg l body [] pos) (Rx K T<|Acb Anp t g tb):=Aeg (λ_ _ _ h=>h) (yR hl) hg hb hs (λq=>Ac ..) λ{a s j J H E}n o m b c=>qE n o m (λi r J H e p=>b i r J H _ H e p λS F d R _=>#[.f _,λq k=>by rw[Ag,k];rfl,R,.f,.refl]) c
def Aef{N4:Hp}[hK:Ol X K N4][UR X]{es:L1}{x1:Nat}{tpos:CQ}(hl:PE X l (lf K T t))(hg:PG X (.Tuple es x1 tpos) (tT K T g))(hb:QB X body (Rx K T tb))(hbase:CA l "items" X.env (eval l X.env)=eval l X.env:=by rfl)(hline:(v7.endLine==v8.line)=Af:=by rfl)(hs:∀x,Bz (.Call (.Attribute l "items" v7) [] [] v8) X.env x=pure x:=by intro _;rfl):PS X (.For (.Tuple es x1 tpos) (.Call (.Attribute l "items" v7) [] [] v8) body [] pos) (Rx K T<|Acb AqA t g tb):=Aeg (λ_ _ _ h=>h) (AdN hl hbase hline) hg hb hs (λv=>Ac ..) λ{a y o J H E}s u r b m=>AaJ s u r (λi k z J H e p j=>b i k J H _ _ e p λS F d R w=>by
  have c:=R.Adf (ds:=[.f<|kV k.1,d]) j<|.cons .f<|.cons w .nil;exact#[.t _,λv q=>by rw[Ag,q];rfl,c.nil,c.hd,Px.Qo ((Ob.refl H).upd j).n]) m
end
section
variable{F:LL}{S:N9}{Q:QD}{C:WC}{i:Nat}{A:WR->Ae}{w w':QJ}{N:N9->Prop}
def Ox.AoZ(wd:Ox C i A w S)(w':QJ)(e1:w'.Hs=w.Hs/\w'.Ts=w.Ts/\w'.away=w.away/\w'.hints=w.hints/\w'.O6=w.O6/\w'.Ms=w.Ms/\w'.QL=w.QL:=by exact#[Y,Y,Y,Y,Y,Y,Y]):Ox C i A w' (NY S (A .uw) (.wd i .uw,.d<|w'.Ls.map λL=>(.inl L.num,tU C.L L))):=by let(Hs,Ts,b,e,c,Ls,Ms,a):=w;let(rfl,rfl,rfl,rfl,rfl,rfl,rfl):=e1;exact wd.upd .uw Y Y λx h=>by cases x<;>first|rfl|exact(h Y).elim
def Ox.AlW(wd:Ox C i A w S)(l:L6):Ox C i A {w with QL:=l} (NY S (A .Ai5) (.wd i .Ai5,.m<|l.map λe=>(Sx e.1,Pa e.2))):=wd.upd _ Y Y λx h=>by cases x<;>first|rfl|exact(h Y).elim
def pJ{a:Ae}{r:Rl}{y e:D}{ks:LY}(hS:S a=U (r,.d ks))(nF:a∉F)(hl:ks.length<100000)(k:yC e λq=>N<|NY S a (r,.d<|putD ks q y)):AeT F y (.f<|.ref a) e N S:=#[a,r,Y,.inl #[ks,hS,nF,hl,k]]
def Anv{a:Ae}{r:Rl}{y:D}{kk:Ma}{km:Mm}(hS:S a=U (r,.m km))(hl:km.length<100000)(k:N (NY S a (r,.m<|putD km kk y))):AeT F y (.f<|.ref a) (wM kk) N S:=#[a,r,Y,.inr #[km,kk,hS,hl,Y,k]]
def zG{d e:D}{ks:LY}(h:Ra S d (.d ks))(k:yC e λq=>∃x,O0 ks q=U x/\Q x S):ApF d e F S Q:=.inl #[ks,h,k]
def tX{d e:D}{ks:LY}{n:Bool}(h:Ra S d (.d ks))(k:yC e λq=>Q (.f<|.bl (if n then !(O0 ks q).isSome else(O0 ks q).isSome)) S):Alf n e d F S Q:=.inl #[ks,h,k]
def Anu{d e z:D}{ks:LY}(h:Ra S d (.d ks))(k:yC e λq=>Q ((O0 ks q).getD z) S):AlP d e z Q S:=.inl #[ks,h,k]
def Akv{d z:D}{kk:Ma}{km:Mm}(h:Ra S d (.m km))(k:Q ((O0 km kk).getD z) S):AlP d (wM kk) z Q S:=.inr #[km,kk,h,Y,k]
def Ap3{a:Ae}{r:Rl}{e:D}{ks:LY}(hS:S a=U (r,.d ks))(nF:a∉F)(k:yC e λq=>∃x,O0 ks q=U x/\Q x (NY S a (r,.d<|Yz ks q))):ApQ F (.f<|.ref a) e Q S:=#[a,r,ks,Y,hS,nF,k]
def PZ{P:Key->Prop}{z:Ay}(h:P (.inr z)):yC (.f<|.str z) P:=h
def tY{P:Key->Prop}{z:Int}(h:P (.inl z)):yC (.f<|.int z) P:=h
def Ot{c:Bool}{A B:Prop}(h:c=Af)(k:A):Q3 c A B:=by subst h;exact k
def Oi{c:Bool}{A B:Prop}(h:c=Am)(k:B):Q3 c A B:=by subst h;exact k
end
def pE{Ls:Mq}{C:Ae}{L:Lt}(nd:(Ls.map λL=>(.inl L.num:Key)).Nodup)(h:L∈Ls):O0 (Ls.map λL=>((.inl L.num:Key),tU C L)) (.inl L.num)=U (tU C L):=by
 rw[Qb (g:=λL:Lt=>(.inl L.num:Key)) (c:=tU C)];induction Ls with
 |nil=>cases h
 |cons x xs ih=>
   rw[Au,Bb]at nd;rcases AB.mp h with rfl|h
   ·rw[Bc,Ao Y];rfl
   ·rw[Bc,Ar λz=>nd.1 (by rw[z];exact AH (f:=λL:Lt=>(.inl L.num:Key)) h)];exact ih nd.2 h
def Pm(w:QJ)(n:Int):QJ:={w with Ls:=w.Ls.filter λL=>decide ((.inl L.num:Key)≠.inl n)}
def Aiy(Ls:Mq)(C:Ae)(n:Int):Yz (Ls.map λL=>((.inl L.num:Key),tU C L)) (.inl n)=(Ls.filter λL=>decide<|(.inl L.num:Key)≠.inl n).map λL=>((.inl L.num:Key),tU C L):=lW Ls _
def AkJ(L:Lt):D:=.t [.f<|.int L.num,.f<|.str L.OQ,.f<|oI L.ask,.f<|.str L.Pn,.f<|.int L.key]
section
variable{F:LL}{xs:LO}{v9:LV}{n:Nat}{tt:DT}{te:DE}{loc:Lc}{S1:N9}{p:Ae}{keep:N9->Prop}{Q:QD}
def Ap5{α:Type}(us:List α)(c f:α->D)(b:α->Bool)(hk:∀ys,keep<|NY S1 p (.own 0,.l ys))(hl:us.length<100000)(hb:∀u∈us,∀(ys:LO)(B:Bool->N9->Prop),B (b u) (NY S1 p (.own 0,.l ys))->tt F (lC (Wj v9 loc) n<|c u) (NY S1 p (.own 0,.l ys)) B)(hf:∀u∈us,b u=Af->∀(ys:LO)(Q':QD),Q' (f u) (NY S1 p (.own 0,.l ys))->te F (lC (Wj v9 loc) n<|c u) (NY S1 p (.own 0,.l ys)) Q')(k:fz Q (.f<|.ref p) (NY S1 p (.own 0,.l<|(us.filter b).map f)))(hx:xs=us.map c:=by first|rfl|(simp only[As];rfl)):Aia F xs v9 n tt te loc S1 p keep Q:=by
 subst hx;refine Aia.mk (λi ys S=>ys=((us.take i).filter b).map f/\S=NY S1 p (.own 0,.l ys)) #[Y,Y] (λi ys S h=>by rw[h.2];exact hk ys) ?_ ?_
 ·rintro i x ys S hx⟨rfl,rfl⟩;rw[Ag]at hx;let(u,g,rfl):=AA.mp hx;have a:us.take (i+1)=us.take i++[u]:=by rw[Cr,g];rfl
  have j:(((us.take i).filter b).map f).length<100000:=by rw[Ac];exact BJ (AL (BK ..) (by rw[Bm];exact Jy ..)) hl
  have d:=Av g;refine hb u d _ _ ?_;cases e:b u with
  |true=>exact hf u d e _ _ #[.own 0,NZ,j,by rw[a,DI,DQ e,AU];rfl,Sa]
  |false=>exact#[by rw[a,DI,E7 (by rw[e];exact AI),List.filter_nil,Br],Y]
 ·rintro ys S⟨rfl,rfl⟩;rw[Ac,BI];exact k
def Akx{α:Type}(us:List α)(c f:α->D)(hp:S1 p=none)(hk:∀ys,keep<|NY S1 p (.own 0,.l ys))(hl:us.length<100000)(hf:∀u∈us,∀(ys:LO)(Q':QD),Q' (f u) (NY S1 p (.own 0,.l ys))->te F (lC (Wj v9 loc) n<|c u) (NY S1 p (.own 0,.l ys)) Q')(k:Q (.l<|us.map f) S1)(hx:xs=us.map c:=by first|rfl|(simp only[As];rfl)):Aia F xs v9 n (λ_ _ S Q=>Q Af S) te loc S1 p keep Q:=Ap5 us c f (λ_=>Af) hk hl (λx _ ys B h=>h) (λx hx _=>hf x hx) (gM NZ (by rw[RX hp,Ce.mpr λ_ _=>rfl];exact k)) hx
end
def Ox.zR(wd:Ox C i A w S)(n:S a=none):Ox C i A w (NY S a x):=wd.new n
section
variable{C:WC}{i:Nat}{A:WR->Ae}{w:QJ}{S:N9}{T:PY}
def VJ(tok:US w.Ts)(hT:T∈w.Ts):O0 (w.Ts.map λT=>((.inl T.key:Key),D.f<|.ref<|A<|.Oz T.key)) (.inl T.key)=U (.f<|.ref<|A<|.Oz T.key):=by rw[Qb];have:=T9 tok hT;unfold Pt at this;rw[show(w.Ts.find? λx=>decide _)=w.Ts.find? λx=>decide _ from congrArg (λf=>w.Ts.find? f) (funext λx=>D3.mpr #[λe=>by injection e,λe=>by rw[e]]),this];rfl
def Ox.jB(wd:Ox C i A w S)(tok:US w.Ts)(hT:T∈w.Ts):S (A<|.Oz T.key)=U (.wd i<|.Oz T.key,bD C.T (A<|.Uq T.key) T):=wd _ _ (by show(Pt w _).map _=_;rw[T9 tok hT];rfl)
def Ox.Uq(wd:Ox C i A w S)(tok:US w.Ts)(hT:T∈w.Ts):S (A<|.Uq T.key)=U (.wd i<|.Uq T.key,.d<|Uo T.sh):=wd _ _ (by show(Pt w _).map _=_;rw[T9 tok hT];rfl)
def AgX(l:L4):(Uo l).map (λp=>D.f<|kV p.1)=l.map λe=>.f (.str e.1):=by unfold Uo;rw[As];rfl
def Vw(tok:US w.Ts)(hT:T∈w.Ts)(sh':L4)(k:Int):Pt {w with Ts:=P4 w.Ts {T with sh:=sh'}} k=if k=T.key then U {T with sh:=sh'}else Pt w k:=by
 have a:=T9 tok hT;unfold Pt P4 at *;generalize w.Ts=Ts at *;clear tok hT;induction Ts with
 |nil=>cases a
 |cons x xs ih=>
   rw[Au,Bc];rw[Bc]at a ⊢;by_cases e:x.key=T.key
   ·rw[Az<|by rw[e]];rw[Ao e]at a;cases a;by_cases b:k=T.key
    ·subst b;rw[Az Y,Ao Y]
    ·rw[Aq b,Ar λz:T.key=k=>b z.symm];clear ih;induction xs with
     |nil=>rfl
     |cons y ys ih2=>
       rw[Au,Bc,Bc];by_cases d:y.key=T.key
       ·rw[Az (by rw[d]),Ar (λz:T.key=k=>b z.symm),Ar λz:y.key=k=>b<|z.symm.trans d];exact ih2
       ·rw[Aq λz=>d (by injection z)];cases decide (y.key=k)with
        |true=>rfl
        |false=>exact ih2
   ·rw[Ar e]at a;rw[Aq λz=>e (by injection z)];by_cases c:x.key=k
    ·rw[Ao c,Aq λz=>e<|c.trans z]
    ·rw[Ar c];exact ih a
def kD(Ts:L9)(T:PY)(g:Int->D):(P4 Ts T).map (λT=>((.inl T.key:Key),g T.key))=Ts.map λT=>(.inl T.key,g T.key):=by
 unfold P4;rw[As];refine A4 λx _=>?_
 show((.inl (if(Cb _:Key)=.inl _ then T else x).key:Key),g (if(Cb _:Key)=.inl _ then T else x).key)=_;split
 ·rename_i h;injection h with h;rw[h]
 ·rfl
def Ox.Apk(wd:Ox C i A w S)(tok:US w.Ts)(hT:T∈w.Ts)(sh':L4):Ox C i A {w with Ts:=P4 w.Ts {T with sh:=sh'}} (NY S (A<|.Uq T.key) (.wd i<|.Uq T.key,.d<|Uo sh')):=by
 refine wd.upd (.Uq T.key) (ov:=.d<|Uo T.sh) (by show(Pt w T.key).map _=_;rw[T9 tok hT];rfl) (by show(Pt _ T.key).map _=_;rw[Vw tok hT,Az Y];rfl) λx h=>?_
 cases x with
 |decl=>exact congrArg (λl=>U<|O.d l)<|kD w.Ts _ λk=>.f<|.ref<|A<|.Oz k
 |Oz k=>
   show(Pt _ k).map _=(Pt w k).map _;rw[Vw tok hT];split
   ·rename_i e;subst e;rw[T9 tok hT];rfl
   ·rfl
 |Uq k=>show(Pt _ k).map _=(Pt w k).map _;rw[Vw tok hT,Aq λe=>h (by rw[e])]
 |_=>rfl
end
def iY(A:WR->Ae)(n:Nat)(a h:Ae):WR->Ae
 |.ask m=>if m=n then a else A (.ask m)
 |.N3 m=>if m=n then h else A (.N3 m)
 |x=>A x
section
variable{C:WC}{i:Nat}{A:WR->Ae}{w:QJ}{S:N9}
def Ox.Aje(wd:Ox C i A w S)(B:Ak)(a h:Ae)(ha:S a=none)(hh:S h=none)(n:a≠h):
  Ox C i (iY A w.Ms.length a h) {w with Ms:=w.Ms++[B]} (NY (NY (NY S h (.wd i<|.N3 w.Ms.length,.d<|RO B.N3)) a (.wd i<|.ask w.Ms.length,Aal C.A h B)) (A .begun) (.wd i .begun,.l<|(Ba w.Ms.length).map (λn=>D.f<|.ref<|A<|.ask n)++[.f<|.ref a])):=by
 intro x o e;have b:∀y,Sm C A w y=U o->iY A w.Ms.length a h y=A y->y≠.begun->NY (NY (NY S h (.wd i<|.N3 w.Ms.length,.d<|RO B.N3)) a (.wd i<|.ask w.Ms.length,Aal C.A h B)) _ (.wd i .begun,.l<|(Ba w.Ms.length).map (λn=>D.f<|.ref<|A<|.ask n)++[.f<|.ref a]) (iY A _ a h y)=U _:=λy k r t=>by
  have q:=wd y o k;rw[r,N0<|wd.ne k (show Sm C A w _=U _ from Y) t,N0 (λz=>by rw[z,ha]at q;cases q),N0 λz=>by rw[z,hh]at q;cases q];exact q
 have c:=wd .begun _ Y;have s:a≠A _:=λz=>by rw[<-z,ha]at c;cases c
 have g:h≠A _:=λz=>by rw[<-z,hh]at c;cases c
 cases x with
 |begun=>
   show NY _ _ _ (A _)=_;rw[NZ];refine congrArg (λl=>U (Rl.wd i _,O.l l)) ?_ |>.trans (congrArg U (congrArg _ (AS e)));rw[AN,BF,Gx,AU]
   congr 1
   ·refine A4 λm p=>?_
    have:=A9<|Ci.mp p;show _=D.f (.ref (if m=w.Ms.length then a else A _));rw[Aq this]
   ·show[D.f _]=[D.f<|.ref (if w.Ms.length=w.Ms.length then a else _)];rw[Az Y]
 |ask m=>
   have e:((w.Ms++[B])[m]?).map _=U o:=e;by_cases z:m=w.Ms.length
   ·subst z;rw[BC<|Ap _,Dg]at e;injection e with e;subst e;show NY _ _ _ (if w.Ms.length=w.Ms.length then a else _)=U (_,Aal C.A (if w.Ms.length=w.Ms.length then h else _) B);rw[Az Y,Az Y,N0 s,NZ]
   ·refine b _ ?_ (Aq z) nofun;rw[<-e];show w.Ms[m]?.map _=((w.Ms++[B])[m]?).map (Aal C.A (if m=w.Ms.length then h else A _));rw[Aq z];by_cases j:m<w.Ms.length
    ·rw[Ct j]
    ·rw[BQ Nr,BQ (by rw[AN,BF];omega)]
 |N3 m=>
   have e:((w.Ms++[B])[m]?).map (λB=>O.d _)=U o:=e;by_cases z:m=w.Ms.length
   ·subst z;rw[BC<|Ap _,Dg]at e;injection e with e;subst e;show NY _ _ _ (if w.Ms.length=w.Ms.length then h else _)=_;rw[Az Y,N0 g,N0<|AF n,NZ]
   ·refine b _ ?_ (Aq z) nofun;rw[<-e];show w.Ms[m]?.map _=((w.Ms++[B])[m]?).map _;by_cases j:m<w.Ms.length
    ·rw[Ct j]
    ·rw[BQ Nr,BQ (by rw[AN,BF];omega)]
 |_=>exact b _ e Y nofun
def Ox.Ak3(wd:Ox C i A w S){n:Nat}{B B':Ak}(hB:w.Ms[n]?=U B):Ox C i A {w with Ms:=w.Ms.set n B'} (NY (NY S (A<|.N3 n) (.wd i<|.N3 n,.d<|RO B'.N3)) (A<|.ask n) (.wd i<|.ask n,Aal C.A (A<|.N3 n) B')):=by
 have a:=(Ah.mp hB).1;have e:A (.ask n)≠A (.N3 n):=wd.ne (show Sm C A w (.ask n)=U _ by show w.Ms[n]?.map _=_;rw[hB];rfl) (show Sm C A w (.N3 n)=U _ by show w.Ms[n]?.map _=_;rw[hB];rfl) nofun;have c:Ox C i A {w with Ms:=w.Ms.set n {B with N3:=B'.N3}} (NY S (A<|.N3 n) (.wd i<|.N3 n,.d<|RO B'.N3)):=by
  refine wd.upd (.N3 n) (ov:=.d<|RO B.N3) (by show w.Ms[n]?.map _=_;rw[hB];rfl) (by show((w.Ms.set n _)[n]?).map _=_;rw[Bd a];rfl) λx h=>?_
  cases x with
  |begun=>show U (O.l<|(Ba (w.Ms.set n _).length).map _)=_;rw[Cs];rfl
  |ask m=>
    show((w.Ms.set n _)[m]?).map _=(w.Ms[m]?).map _;by_cases z:n=m
    ·subst z;rw[Bd a,hB];rfl
    ·rw[BB z]
  |N3 m=>show((w.Ms.set n _)[m]?).map _=(w.Ms[m]?).map _;rw[BB λz=>h (by rw[z])]
  |_=>rfl
 have b:(w.Ms.set n {B with N3:=B'.N3})[n]?=U {B with N3:=B'.N3}:=Bd a;have:({w with Ms:=w.Ms.set n B'}:QJ)={w with Ms:=(w.Ms.set n {B with N3:=B'.N3}).set n B'}:=by rw[HJ]
 rw[this];refine Ox.upd (w:={w with Ms:=w.Ms.set n {B with N3:=B'.N3}}) (w':={w with Ms:=(w.Ms.set n {B with N3:=B'.N3}).set n B'}) c (.ask n) (ov:=Aal C.A (A<|.N3 n) {B with N3:=B'.N3}) (by show((w.Ms.set n _)[n]?).map _=_;rw[b];rfl) (by show(((w.Ms.set n _).set n B')[n]?).map _=_;rw[Bd (by rw[Cs];exact a)];rfl) λx h=>?_
 cases x with
 |begun=>show U (O.l<|(Ba ((w.Ms.set n _).set n B').length).map _)=U (O.l<|(Ba (w.Ms.set n _).length).map _);rw[Cs]
 |ask m=>show(((w.Ms.set n _).set n B')[m]?).map _=((w.Ms.set n _)[m]?).map _;rw[BB λz=>h (by rw[z])]
 |N3 m=>
   show(((w.Ms.set n _).set n B')[m]?).map _=((w.Ms.set n _)[m]?).map _;by_cases z:n=m
   ·subst z;rw[Bd (by rw[Cs];exact a),b];rfl
   ·rw[BB z]
 |_=>rfl
end
section
variable{K:Ab}{F:LL}{S:N9}{H:Hp}
def Apz(h:Zh K F S H [d,e,g] vs):∃v w x,vs=[v,w,x]/\VD K F S H d v/\VD K F S H e w/\VD K F S H g x:=by
 cases h with
 |cons a b=>let(w,x,rfl,f,c):=Ahb b;exact#[_,_,_,Y,a,f,c]
def AiH{ns:LS}(h:Zh K F S H (ns.map λz:Int=>.f<|.int z) vs):vs=ns.map V.int:=by
 induction ns generalizing vs with
 |nil=>cases h;rfl
 |cons n ns ih=>
   cases h with
   |cons a b=>rw[Au,Ou.mp a,ih b]
def uX{Hs:QI}{kp:LP}(h:Paired (KD<|VD K F S H) (Hs.map λe=>((.inr e.1:Key),D.t<|e.2.map λn=>.f<|.int n)) kp):xB K H Hs kp:=by
 induction Hs generalizing kp with
 |nil=>cases h;exact Bk
 |cons e Hs ih=>
   cases h with
   |@cons p q _ _ h1 h2=>let(a,g,d,c,b):=Zc.mp h1.2;refine#[h1.1.symm,?_,ih h2];exact#[a,g,d,RE.of c,by rw[AiH b];exact Ad9]
def Aad{ms:LK}(n:S l=none)(h:H l=U (.lst<|ms.map V.str)):VD K F S H (.l<|ms.map λz=>.f<|.str z) (.ref l):=AbM.mpr #[l,_,Y,.inl #[n,.inl h],Yp ms]
end
def Ug(Hs:QI)(z:Ay):(O0 (Hs.map λe=>((.inr e.1:Key),D.t<|e.2.map λn=>.f<|.int n))<|.inr z).isSome=decide (z∈Hs.map (·.1)):=by
 rw[Qb,Di];rw[BN,Gb,Bx];refine#[λ⟨x,a,e⟩=>?_,λh=>?_]
 ·have e:=Bv e;injection e with e;exact e▸AH a
 ·let(x,a,e):=AE.mp h;exact#[x,a,Ao<|by rw[e]]
def Aha{l:L4}(m:z∈l.map (·.1)):O0 (Uo l) (.inr z)=U (Pa<|P6 l z):=by
 have h:=AeF l z;rw[Ao m]at h;have g:=pC l z;cases e:O0 (Uo l) _ with
 |none=>rw[e]at h;cases h
 |some d=>rw[e]at g;exact congrArg U g
def Ad4(l:L4)(z:Ay)(E:O7):putD (Uo l) (.inr z) (Pa E)=Uo (P2 (λe=>(.inr e.1:Key)) l (z,E)):=T5 l (z,E)
def AbB{Ts:L9}{T:PY}(tok:US Ts)(hT:T∈Ts):P4 Ts T=Ts:=by
 unfold P4;have a:=tok.nd;clear tok;induction Ts with
 |nil=>rfl
 |cons x xs ih=>
   rw[Au,Bb]at a;rw[Au];rcases AB.mp hT with rfl|hT
   ·rw[Az Y]
    congr 1
    refine(A4 λy b=>?_).trans (Eg _);rw[Aq λe=>a.1 (by rw[<-e];exact AH b)];rfl
   ·rw[Aq (λe=>a.1 (by rw[e];exact AH hT)),ih hT a.2]
abbrev Rv(E:O7):LY:=E.map λe=>(.inr e.1,RW e.2)
def RR(E:O7)(n:Ay):O0 (Rv E) (.inr n)=(look E n).map RW:=by unfold look;rw[Qb,Option.map_map];rw[show(E.find? λx=>decide _)=E.find? λx=>decide _ from congrArg (λf=>E.find? f) (funext λx=>D3.mpr #[λe=>by injection e,λe=>by rw[e]])];rfl
def V0(E:O7)(n:Ay)(x:Ent):putD (Rv E) (.inr n) (RW x)=Rv (Rz E n x):=by
 rw[T5 E (n,x)];unfold P2 Rz;have e:∀y:Ay×Ent,((.inr y.1:Key)=.inr n)=(y.1=n):=λy=>propext #[λe=>by injection e,λe=>by rw[e]]
 simp only[e];split
 ·refine congrArg Rv (A4 λy _=>?_);split
  ·rename_i h;rw[h]
  ·rfl
 ·rfl
def join_snoc(E G:O7)(f:Ay×Ent):Ow E (G++[f])=Rz (Ow E G) f.1 (Yh (look (Ow E G) f.1) f.2):=by unfold Ow;rw[Jl];rfl
def dJ(E:O7):O7:=E.foldl (λA f=>Rz A f.1 (f.2.1,none)) []
def rR(G:O7)(f:Ay×Ent):dJ (G++[f])=Rz (dJ G) f.1 (f.2.1,none):=by unfold dJ;rw[Jl];rfl
def Xi(E:O7)(n v:Ay):O7:=Rz (dJ E) n (Yw E n+1,U v)
def rZ(E:O7)(n:Ay)(x:Ent):(Rz E n x).length<=E.length+1:=by
 unfold Rz;split
 ·rw[Ac];omega
 ·rw[AN];exact Ap _
def jW(E G:O7):(Ow E G).length<=E.length+G.length:=by
 unfold Ow;induction G generalizing E with
 |nil=>exact Ap _
 |cons f G ih=>rw[Gz,AM];have a:=ih<|Rz E f.1<|Yh (look E f.1) f.2;have b:=rZ E f.1<|Yh (look E f.1) f.2;omega
def aW(E:O7):(dJ E).length<=E.length:=by
 have:∀(A:O7),(E.foldl (λA f=>Rz A f.1 (f.2.1,none)) A).length<=A.length+E.length:=by
  induction E with
  |nil=>intro A;exact Ap _
  |cons f E ih=>intro A;rw[Gz,AM];have a:=ih<|Rz A f.1 (f.2.1,none);have b:=rZ A f.1 (f.2.1,none);omega
 have:=this [];rw[CG,Ez]at this;exact this
def Aa5(o:Mt):AfY (.f<|iG o)=o.isNone:=by cases o<;>rfl
section
variable{C:WC}{i:Nat}{A:WR->Ae}{w:QJ}{S:N9}
def Ox.Xn(wd:Ox C i A w S){n:Nat}{B:Ak}(h:w.Ms[n]?=U B):S (A<|.ask n)=U (.wd i<|.ask n,Aal C.A (A<|.N3 n) B):=wd _ _ (by show w.Ms[n]?.map _=_;rw[h];rfl)
def Ox.Aok(wd:Ox C i A w S){n:Nat}{B:Ak}(h:w.Ms[n]?=U B):S (A<|.N3 n)=U (.wd i<|.N3 n,.d<|RO B.N3):=wd _ _ (by show w.Ms[n]?.map _=_;rw[h];rfl)
def Ox.Aqh(wd:Ox C i A w S){n:Nat}{B:Ak}(h:w.Ms[n]?=U B):A (.ask n)≠A (.N3 n):=T8 (wd.Xn h) (wd.Aok h) nofun
def RP(n:a≠b):NY (NY (NY S a x) b y) a z=NY (NY S b y) a z:=by
 funext c
 unfold NY;split
 ·rfl
 ·split
  ·rfl
  ·rfl
def AgE(l:LK)(z:Ay)(h:z∉l):putD (RO l) (.inr z) (.f<|.bl Af)=RO (l++[z]):=by unfold RO;rw[T5 l z,XY];intro m;let(x,a,e):=AE.mp m;injection e with e;exact h (e▸a)
def zH(l:LK):(RO l).length=l.length:=Ac ..
end
def AoX(w:QJ)(k:Ay×Ay×Int)(E:O7):QJ:={w with hints:=P2 (λe=>Ajf e.1) w.hints (k,Ow (AcB w.hints k) E)}
def Ao1(w:QJ)(T:PY)(z:Ay):Bool:=!decide (z∈T.sh.map (·.1))&&!decide (z∈w.away)
def Ao2(w:QJ)(T:PY):Mt:=(YY w.Hs<|T.key%110).find? (Ao1 w T)
def AlY(w:QJ)(T:PY)(L:Lt):QJ:=match Ao2 w T with
 |some k=>AoX w (k,L.Pn,L.key) L.Xk
 |none=>w
def Xo(w:QJ)(T:PY)(L:Lt):QJ:=if L.Pn∈T.sh.map (·.1)then if L.Pn∈w.away then AlY w T L else
  if L.OQ="put" then Zt {w with Ts:=P4 w.Ts (QG T L.Pn L.Xk)} "ack" L.ask L.Pn L.key []else{w with Ts:=P4 w.Ts (QG T L.Pn L.Xk)}
 else w
structure jE(qs:LK)(w:QJ):Prop where
 UQ:pO w.O6 w.Ls
 tok:US w.Ts
 Oj:Qd w.Hs
 nh:(w.hints.map λe=>Ajf e.1).Nodup
 sl:∀L∈w.Ls,OJ qs L.Xk
 sh:∀e∈w.hints,OJ qs e.2
 st:∀T∈w.Ts,∀e∈T.sh,OJ qs e.2
 sm:∀B∈w.Ms,OJ qs B.RY
 se:∀e∈w.QL,OJ qs e.2
 q9:qs.length<=900
def jE.rK(ok:jE qs w)(h:OJ qs E):E.length<=1000:=AL h.len (AL ok.q9 Nq)
def jE.Aoj(ok:jE qs w)(k:Ay×Ay×Int):OJ qs (AcB w.hints k):=by
 unfold AcB;cases e:w.hints.find? λx=>decide (Ajf x.1=Ajf k)with
 |none=>exact OJ.nil
 |some x=>exact ok.sh x (Cc e)
def jE.AbH(ok:jE qs w)(hT:T∈w.Ts)(z:Ay):OJ qs (P6 T.sh z):=by
 unfold P6;cases e:T.sh.find? λe=>decide ((.inr e.1:Key)=.inr z)with
 |none=>exact OJ.nil
 |some x=>exact ok.st T hT x (Cc e)
def jE.Apw(ok:jE qs w)(hT:T∈w.Ts)(z:Ay):(P6 T.sh z).length<=1000:=ok.rK (ok.AbH hT z)
def QO(w:QJ)(OQ:Ay)(n k:Int)(E:O7)(zs:LK):QJ:={w with O6:=w.O6+zs.length,Ls:=w.Ls++Ul OQ (U n) k E w.O6 zs}
def yI(w:QJ)(OQ:Ay)(n:Int)(T:PY)(E:O7):QJ:=QO w OQ n T.key E (T.sh.map (·.1))
def W4:QO w OQ n k E []=w:=by unfold QO;rw[Ul,Br];show({w with O6:=w.O6+0})=w;rw[Int.add_zero]
def U6:QO w OQ n k E (zs++[z])=Zt (QO w OQ n k E zs) OQ (U n) z k E:=by unfold QO Zt;rw[dF,AN,BF,<-CF];simp only[Int.natCast_add,Int.natCast_one,Int.add_assoc]
def dE:(QO w OQ n k E zs).Ls.length=w.Ls.length+zs.length:=by show(w.Ls++Ul _ _ _ _ _ _).length=_;rw[AN,YU]
def kJ(UQ:pO w.O6 w.Ls)(OQ:Ay)(n k:Int)(E:O7)(zs:LK):pO (QO w OQ n k E zs).O6 (QO w OQ n k E zs).Ls:=by
 have:∀a:LK,pO (QO w OQ n k E a.reverse).O6 (QO w OQ n k E a.reverse).Ls:=by
  intro a;induction a with
  |nil=>rw[List.reverse_nil,W4];exact UQ
  |cons z a b=>rw[Jj,U6];exact b.snoc OQ _ z k E
 have:=this zs.reverse;rwa[List.reverse_reverse]at this
def Ahc(w:QJ)(T:PY)(z v:Ay):QJ:=yI {w with QL:=P2 (λe=>Sx e.1) w.QL ((z,T.key),Xi (OF w.QL z T.key) z v),Ms:=w.Ms++[#["write",z,T.key,T.w,Xi (OF w.QL z T.key) z v,[],[],"open"]]} "put" (w.Ms.length+1) T (Xi (OF w.QL z T.key) z v)
def bA(l:L6)(k:Ay×Int)(E:O7):putD (l.map λe=>(Sx e.1,Pa e.2)) (Sx k) (Pa E)=(P2 (λe=>Sx e.1) l (k,E)).map λe=>(Sx e.1,Pa e.2):=T5 l (k,E)
def jE.Ac3(ok:jE qs w)(z:Ay)(k:Int):OJ qs (OF w.QL z k):=by
 unfold OF;cases e:w.QL.find? λe=>decide (Sx e.1=Sx _)with
 |none=>exact OJ.nil
 |some x=>exact ok.se x (Cc e)
def jE.Ai1(ok:jE qs w)(z:Ay)(k:Int):(OF w.QL z k).length<=1000:=ok.rK (ok.Ac3 z k)
def jE.AmX(ok:jE qs w)(n:Int):jE qs (Pm w n):=
 {ok with
  UQ:=#[Hr.sublist (FE _ FJ) ok.UQ.up,λL a=>ok.UQ.le L (Bp.mp a).1]
  sl:=λL a=>ok.sl L (Bp.mp a).1}
section
variable{X:Cx}{K:Ab}{T:TN}{t:DE}{a b:Expr}{p p' q q' pos:CQ}{n j:Nat}{f:Ay}
def AoH(F:LL)(loc:Lc)(j:Nat)(f:Ay)(Q:QD):QD:=λd S=>∃ks js e C fs x,Ra S d (.d ks)/\ks.length<=5/\yN loc j=U e/\Ra S e (.i C fs)/\fs.lookup f=U x/\Ra S x (.d js)/\js.length<=5/\Q (.f (.bl (Al3 (ks.map (·.1)) (js.map (·.1))))) S
abbrev An3(t:DE)(j:Nat)(f:Ay):DE:=λF loc S Q=>t F loc S (AoH F loc j f Q)
def Afo{N4:Hp}[Ol X K N4](hr:Oo n X.A)(hm:X.mg "set"=none)(ha:PE X a (lf K T t))(hb:PE X b (AmL K (wL j) f))(hg:Gl X "set":=by rfl)(h1:AG [a] X.env=(Am,eval a X.env)::AG [] X.env:=by rfl)(h2:AG [b] X.env=(Am,eval b X.env)::AG [] X.env:=by rfl):PE X (.Compare (.Call (.Name "set" p) [a] [] q) [.NotEq] [.Call (.Name "set" p') [b] [] q'] pos) (lf K T<|An3 t j f):=(Aqc hr hm ha hb hg h1 h2).imp λJ H Q⟨F,m,S,Q',R,G,q,k⟩=>
 #[F,m,S,_,R,G,q,λd S1 H1 v p z w⟨Z,js,e,C,fs,x,O,W,u9,i,N,V,y0,j0⟩=>by
  let(a,rfl,c,M,u):=(z.one w).is (OK O w);refine#[a,c,Y,M.rd,by rw[<-AJ u];exact W,λl P _ _ s=>?_];have g:=z.same s;have D:=p.trans<|Px.Qo s.n;let(v2,L,E):=(G.px D).get u9;show vQ _ _ P;rw[L];refine aF (g.one E) (OK i E) N λy r _=>?_
  let(b,rfl,h,I,B):=(g.one r).is (OK V r);exact#[b,h,Y,I.rd,by rw[<-AJ B];exact y0,Y,λH4 o=>by rw[Sv u,Sv B];exact k _ _ _ _ (D.trans<|Px.Qo o.n) (g.same o) .f j0]]
end
def zE(A:WR->Ae)(k:Int)(t q:Ae):WR->Ae
 |.Oz m=>if m=k then t else A (.Oz m)
 |.Uq m=>if m=k then q else A (.Uq m)
 |x=>A x
section
variable{C:WC}{i:Nat}{A:WR->Ae}{w:QJ}{S:N9}
def zQ{T:PY}(h:T.key∉w.Ts.map (·.key))(k:Int):Pt {w with Ts:=w.Ts++[T]} k=if k=T.key then U T else Pt w k:=by
 unfold Pt;rw[Jm];by_cases e:k=T.key
 ·subst e;have:(w.Ts.find? λx=>decide<|x.key=T.key)=none:=BX.mpr λx a z=>h (by rw[<-Bv z];exact AH a)
  rw[Az Y,this,Option.none_or,Bc,Ao Y]
 ·rw[Aq e,Bc,Ar (λz=>e z.symm),List.find?_nil,Option.or_none]
def Ox.newThing(wd:Ox C i A w S)(T:PY)(t q:Ae)(ht:S t=none)(hq:S q=none)(n:t≠q)(hk:T.key∉w.Ts.map (·.key)):
  Ox C i (zE A T.key t q) {w with Ts:=w.Ts++[T]} (NY (NY (NY S q (.wd i<|.Uq T.key,.d<|Uo T.sh)) t (.wd i<|.Oz T.key,bD C.T q T)) (A .decl) (.wd i .decl,.d<|(w.Ts.map λT=>((.inl T.key:Key),D.f<|.ref<|A<|.Oz T.key))++[(.inl T.key,.f<|.ref t)])):=by
 intro x o e;have b:=wd .decl _ Y;have h:t≠A _:=λz=>by rw[<-z,ht]at b;cases b
 have g:q≠A _:=λz=>by rw[<-z,hq]at b;cases b
 have a:∀y,Sm C A w y=U o->zE A T.key t q y=A y->y≠.decl->NY (NY (NY S q (.wd i<|.Uq T.key,.d<|Uo T.sh)) t (.wd i<|.Oz T.key,bD C.T q T)) _ (.wd i .decl,.d<|(w.Ts.map λT=>((.inl T.key),D.f<|.ref<|A<|.Oz T.key))++[(.inl T.key,.f<|.ref t)]) (zE A _ t q y)=U _:=λy c k p=>by
  have z:=wd y o c;rw[k,N0<|wd.ne c (show Sm C A w _=U _ from Y) p,N0 (λu=>by rw[u,ht]at z;cases z),N0 λu=>by rw[u,hq]at z;cases z];exact z
 cases x with
 |decl=>
   show NY _ _ _ (A _)=_;rw[NZ];refine congrArg (λl=>U (Rl.wd i _,O.d l)) ?_ |>.trans (congrArg U (congrArg _ (AS e)));rw[AU]
   congr 1
   ·refine A4 λy j=>?_
    have:y.key≠T.key:=λz=>hk (by rw[<-z];exact AH j)
    show _=((.inl _:Key),D.f<|.ref (if y.key=T.key then t else A _));rw[Aq this]
   ·show _=[((.inl _:Key),D.f<|.ref (if T.key=T.key then t else _))];rw[Az Y]
 |Oz m=>
   have e:(Pt _ m).map _=U o:=e;rw[zQ hk]at e;by_cases z:m=T.key
   ·subst z;rw[Az Y]at e;injection e with e;subst e;show NY _ _ _ (if T.key=T.key then t else _)=U (_,bD C.T (if T.key=T.key then q else _) T);rw[Az Y,Az Y,N0 h,NZ]
   ·rw[Aq z]at e;refine a _ ?_ (Aq z) nofun;rw[<-e];show(Pt w m).map _=(Pt w m).map (bD C.T (if m=T.key then q else A _));rw[Aq z]
 |Uq m=>
   have e:(Pt _ m).map (λT=>O.d _)=U o:=e;rw[zQ hk]at e;by_cases z:m=T.key
   ·subst z;rw[Az Y]at e;injection e with e;subst e;show NY _ _ _ (if T.key=T.key then q else _)=_;rw[Az Y,N0 g,N0<|AF n,NZ]
   ·rw[Aq z]at e;exact a _ e (Aq z) nofun
 |_=>exact a _ e Y nofun
def Pg(h:NY S a x b=none):b≠a/\S b=none:=by
 have n:b≠a:=λz=>by rw[z,NZ]at h;cases h
 exact#[n,by rw[N0 n]at h;exact h]
end
def rY{κ:Type}[DecidableEq κ]{ks:List (κ×D)}{k:κ}(h:O0 ks k=none):putD ks k d=ks++[(k,d)]:=by unfold putD;rw[Aq];intro q;let(x,a,e):=B1.mp q;unfold O0 at h;rw[E4,BX]at h;exact h x a e
def eO(n:a≠b)(m:a≠c):NY (NY (NY (NY S a x) b y) c z) a u=NY (NY (NY S b y) c z) a u:=by
 funext e
 unfold NY;by_cases h:e=a
 ·simp only[h,if_true]
 ·simp only[h,if_false]
def AhD(a d b l lk p pu s bg ln:Ae):WR->Ae
 |.top=>a|.decl=>d|.Ab2=>b|.left=>l|.kept=>lk|.post=>p|.uw=>pu|.asks=>s|.begun=>bg|.Ai5=>ln|_=>a
def Ox.init{C:WC}{i:Nat}{S':N9}{Hs:QI}{a d b l lk p pu s bg ln:Ae}(nd:[a,d,b,lk,l,pu,p,bg,s,ln].Nodup)(hn:∀x∈[a,d,b,lk,l,pu,p,bg,s,ln],S' x=none){St:N9}(e:St=NY (NY (NY (NY (NY (NY (NY (NY (NY (NY S' d (.wd i .decl,.d [])) b (.wd i .Ab2,.d [])) lk (.wd i .kept,.m [])) l (.wd i .left,.i C.H [("kept",.f<|.ref lk)])) pu (.wd i .uw,.d [])) p (.wd i .post,.i C.P [("sent",.f<|.int 0),("under_way",.f<|.ref pu)])) bg (.wd i .begun,.l [])) s (.wd i .asks,.i C.S [("begun",.f<|.ref bg)])) ln (.wd i .Ai5,.m []))
   a (.wd i .top,.i C.W [("there",QU Hs),("declared",.f<|.ref d),("absent",.f<|.ref b),("left",.f<|.ref l),("post",.f<|.ref p),("asks",.f<|.ref s),("learnt",.f<|.ref ln)])):
  Ox C i (AhD a d b l lk p pu s bg ln) #[Hs,[],[],[],0,[],[],[]] St/\Fr i S' St:=by
 subst e;refine#[λx o e=>?_,λc r o e _=>?_]
 ·simp only[Bb,AB,CO,F3,not_or,FC,and_true,not_false_eq_true]at nd;let((v,k,h,j,g,q,t,u,n),(m1,E,G,m4,m5,D,y0,m8),(A,k2,Q,k4,X,k6,M),(F,j2,K,N,B,L),(i1,j0,i3,i4,T),(V,I,h3,u9),(Z,O,g3),(R,f2),e1):=nd;cases x<;>first|(cases e;done)|(injection e with e;subst e;simp only[AhD];unfold NY;simp only[v,k,h,j,g,q,t,u,n,m1,E,G,m4,m5,D,y0,m8,A,k2,Q,k4,X,k6,M,F,j2,K,N,B,L,i1,j0,i3,i4,T,V,I,h3,u9,Z,O,g3,R,f2,e1,AF v,AF k,AF h,AF j,AF g,AF q,AF t,AF u,AF n,if_true,if_false];try rfl)
 ·have y:∀x∈[a,d,b,lk,l,pu,p,bg,s,ln],c≠x:=λx hx z=>by rw[z,hn x hx]at e;cases e
  simp only[Ei]at y;let(v,k,h,j,g,q,t,u,n,w,_):=y;rw[N0 v,N0 w,N0 n,N0 u,N0 t,N0 q,N0 g,N0 j,N0 h,N0 k];exact e
def XO{E:O7}{f:Ay×Ent}(nd:(E.map (·.1)).Nodup)(h:f∈E):look E f.1=U f.2:=by
 unfold look;induction E with
 |nil=>cases h
 |cons x xs ih=>
   rw[Au,Bb]at nd;rcases AB.mp h with rfl|h
   ·rw[Bc,Ao Y];rfl
   ·rw[Bc,Ar λz=>nd.1 (by rw[z];exact AH h)];exact ih nd.2 h
def AgA{E:O7}{n:Ay}{x:Ent}(nd:(E.map (·.1)).Nodup)(h:look E n=U x):Rz E n x=E:=by
 have b:=Tg h;unfold Rz;rw[Az<|B1.mpr #[(n,x),b,Ao Y]];refine(A4 λe a=>?_).trans (Eg _);split
 ·rename_i z;have:=XO nd a;rw[z,h]at this;injection this with this;rw[this];rfl
 ·rfl
def xG{α:Type}{x:α}{xs:List α}:fZ (x::xs) 0=U x:=Pz Y
def vB{n j:Nat}(h:j<n):AbS n (j:Int)=U j:=by unfold AbS;rw[Az<|Int.ofNat_lt.mpr h];rfl
def Aee(L:Lt):D:=.t [.f<|.int L.num,.f<|.str L.OQ,.f<|oI L.ask,.f<|.str L.Pn,.f<|.int L.key,Pa L.Xk]
inductive LR where|top|rows|Um|Qa|Al4
structure Arc where
 O6:Int
 Ls:Mq
 asks:Int
 QL:L6
 OZ:L6
 Zj:List Anc
 away:LK
def Uh(S S':N9):Prop:=∀a r o,S a=U (r,o)->(∀n,r≠.own n)->S' a=U (r,o)
section
variable{S S' S'':N9}{C:WC}{i:Nat}{A:WR->Ae}{w:QJ}
def Uh.refl:Uh S S:=λ_ _ _ h _=>h
def Uh.trans(h:Uh S S')(k:Uh S' S''):Uh S S'':=λa r o e n=>k a r o (h a r o e n) n
def Uh.set(h:S a=U (.own n,o)):Uh S (NY S a x):=λb r c e m=>(N0 λz=>by rw[z,h]at e;injection e with e;injection e with e;exact m _ e.symm).trans e
def Ox.fo(h:Ox C i A w S)(f:Uh S S'):Ox C i A w S':=λx o e=>f _ _ _ (h x o e) λn z=>by cases z
end
def Ac1{n:Nat}(h:n<97):((n:Int)).natAbs.log2<1920:=BJ (Nat.log2_le_self _) Nr
def Akw{neg:Bool}{S:N9}{e:D}{xs:LO}{y:Ay}{F:LL}{Q:QD}(zs:LK)(h:Ra S e (.l xs))(hx:xs=zs.map λz=>.f<|.str z)(k:Q (.f<|.bl (if neg then !decide (y∈zs)else decide (y∈zs))) S):Anl neg (.f<|.str y) e F S Q:=by
 subst hx;refine#[_,_,Y,.inl h,Y,?_,?_]
 ·rw[Ck];exact Bj.mpr λ_ _=>rfl
 ·rw[As];rw[show((AkL∘λz:Ay=>D.f<|.str z):Ay->V)=V.str from Y,xY];exact k
def wN{w:QJ}{j:Nat}{L:Lt}(UQ:pO w.O6 w.Ls)(h:w.Ls[j]?=U L):(Pm w L.num).Ls=w.Ls.eraseIdx j:=by
 have a:=UQ.nd;show(w.Ls.filter λM=>decide _)=_;generalize w.Ls=Ls at *;clear UQ;induction Ls generalizing j with
 |nil=>cases h
 |cons x xs ih=>
   rw[Au,Bb]at a;cases j with
   |zero=>cases h;rw[E7 Nu];exact Ce.mpr λy b=>Ao λz=>a.1 (by rw[<-z];exact AH b)
   |succ j=>
     have q:(Cb _:Key)≠.inl _:=λz=>a.1 (by rw[z];exact AH<|Av h)
     rw[DQ (p:=λM:Lt=>decide<|(.inl _:Key)≠.inl _)<|Ao q,CD,ih h a.2]
def Aa1{α β:Type}(f:α->β)(xs:List α)(j:Nat):(xs.eraseIdx j).map f=(xs.map f).eraseIdx j:=by
 induction xs generalizing j with
 |nil=>rfl
 |cons x xs ih=>
   cases j with
   |zero=>rfl
   |succ j=>rw[CD,Au,Au,CD,ih]
def Aj7{i n:Nat}(h:i<n):G0 (i:Int) n=U i:=(nA<|vB h).1
section
variable{X:Cx}{K:Ab}{T:TN}
def Ala(neg:Bool):D2:=λd e _ S Q=>∃xs,Ra S d (.l xs)/\Ra S e (.l [])/\Q (.f<|.bl (if neg then !xs.isEmpty else xs.isEmpty)) S
def AiV{neg:Bool}:Aah K T (Amw K neg) (Ala neg):=λF S H Q q d e x y R c g⟨p,o,n,h⟩k=>by
 let(a,rfl,f,m,j):=(R.one c).is (OK o c);let(b,rfl,r,l,i):=(R.one g).is (OK n g);cases i;have e:f.isEmpty=p.isEmpty:=by cases j<;>rfl
 exact#[a,b,f,Y,Y,m,l,by rw[e];exact k.flat R h]
def Al9{n:Nat}{N4:Hp}[Ol X K N4](hr:Oo n X.A):Yq X K T (Bh .Eq) (Ala Am):=#[_,Ajo<|BJ (Nat.le_add_right _ 64) hr.units,AiV]
end
def Ys{α:Type}{xs:List α}(h:xs≠[])(x:Int):∃j y,x%(xs.length:Int)=((j:Nat):Int)/\xs[j]?=U y/\fZ xs (x%(xs.length:Int))=U y:=by have l:=C5.mpr h;have c:=BY x (show(xs.length:Int)≠0 by omega);have d:=Ca x (show(0:Int)<xs.length by omega);let(j,a):=B9 c;have b:j<xs.length:=Nr;refine#[j,xs[j],a,Al b,?_];rw[a];exact Pz (Al b)
section
variable{qs:LK}{z v:Ay}
def OJ.put{E:O7}{n:Ay}{x:Ent}(h:OJ qs E)(hn:n∈qs):OJ qs (Rz E n x):=#[Ade h.1 n x,λm a=>by
 rw[dA]at a;by_cases e:n=m
 ·rw[<-e];exact hn
 ·rw[Aq e]at a;exact h.2 m a]
def OJ.old{E:O7}(h:OJ qs E):OJ qs (dJ E):=by
 have c:∀f∈E,f.1∈qs:=λf d=>h.2 f.1 (by rw[XO h.1 d];rfl)
 have:∀(G:O7),(∀f∈G,f.1∈qs)->∀A,OJ qs A->OJ qs (G.foldl (λA f=>Rz A f.1 (f.2.1,none)) A):=by
  intro G;induction G with
  |nil=>intro _ A a;exact a
  |cons f G e=>intro b A a;exact e (λg i=>b g<|.tail _ i) _<|a.put<|b f<|.head _
 exact this E c [] OJ.nil
def OJ.ApZ{E:O7}(h:OJ qs E)(hn:z∈qs):OJ qs (Xi E z v):=h.old.put hn
def qO{B:Ak}{E:O7}(h1:OJ qs B.RY)(h2:OJ qs E):OJ qs (Po B z E).1.RY:=by
 unfold Po;split
 ·exact h1
 ·split<;>exact h1.join h2
end
open PySem.SeqAt PySem.MeetsSeq PySem.MeetsSeq2 PySem.MeetsSeq3
open PySem.AutoSeq1 (wpAny_loadPart')
section
variable{X:Cx}{K:Ab}{T:TN}{F:LL}{S:N9}{H:Hp}
def AeR(t:LM):DV:=.tup (t.map .fl)
def uR:∀{t:LM},t.all Pr=Af->DV.eqs (t.map .fl) (t.map .fl)=Af/\DV.fits (t.map .fl) (t.map .fl)=Af/\DV.Rb (t.map .fl)<=0
 |[],_=>#[Y,Y,Ap _]
 | x::t,h=>by
   rw[CM,Be]at h;let(a,b,c):=uR (t:=t) h.2;rw[Au,DV.eqs,DV.fits,DV.Rb,DV.eq,DV.fit,DV.dep,bS h.1,a,b];exact#[Y,Y,F0.mpr #[Ap _,c]]
def xU:∀{ts:MH},(∀t∈ts,t.all Pr=Af)->DV.eqs (ts.map AeR) (ts.map AeR)=Af/\DV.fits (ts.map AeR) (ts.map AeR)=Af/\DV.Rb (ts.map AeR)<=1
 |[],_=>#[Y,Y,Bo _]
 | x::ts,h=>by
   let(a,b,c):=xU (ts:=ts) λt f=>h t<|.tail _ f
   let(e,d,g):=uR<|h x<|.head _;rw[Au];unfold AeR at *;rw[DV.eqs,DV.fits,DV.Rb,DV.eq,DV.fit,DV.dep,a,b,e,d];exact#[Y,Y,F0.mpr #[CS g,c]]
def V1{K:Ab}{F:LL}{S:N9}{H:Hp}:∀{t:LM}{vs:LM},t.all Pr=Af->Zh K F S H (t.map .f) vs->QN K H (t.map .fl) vs
 |[],vs,_,h=>by cases h;rw[B6,QN];exact Bk
 | x::t,vs,f,h=>by
   rw[CM,Be]at f;cases h with
   |cons h1 h2=>rw[Au,QN,Yr];exact#[#[Ou.mp h1,f.1],V1 f.2 h2]
def dP{K:Ab}{F:LL}{S:N9}{H:Hp}:∀{ts:MH}{vs:LM},(∀t∈ts,t.all Pr=Af)->Zh K F S H (ts.map λt=>.t<|t.map .f) vs->QN K H (ts.map AeR) vs
 |[],vs,_,h=>by cases h;rw[B6,QN];exact Bk
 | x::ts,vs,f,h=>by
   cases h with
   |cons h1 h2=>rw[Au,QN];refine#[?_,dP (λt c=>f t<|.tail _ c) h2];let(a,d,rfl,e,b):=Zc.mp h1;unfold AeR;rw[Yr];exact#[a,d,Y,RE.of e,V1 (f x<|.head _) b]
def Alq(neg:Bool):D2:=λd e _ S Q=>∃ts:MH,Ra S d (.l<|ts.map λt=>.t<|t.map .f)/\Ra S e (.l<|ts.map λt=>.t<|t.map .f)/\(∀t∈ts,t.all Pr=Af)/\Q (.f<|.bl<|!neg) S
def Alo(neg:Bool):D2:=λd e _ S Q=>∃t:LM,Ra S d (.l<|t.map .f)/\Ra S e (.l<|t.map .f)/\t.all Pr=Af/\Q (.f<|.bl<|!neg) S
def Ai0{neg:Bool}:Aah K T (AgL K neg) (Alq neg):=λF S H Q v d e x y R c i⟨g,j,t,f,h⟩k=>by
 let(a,rfl,o,q,l):=(R.one c).is (OK j c);let(b,rfl,r,p,n):=(R.one i).is (OK t i);let(m,s,u):=xU f;refine#[.lst<|g.map AeR,.lst<|g.map AeR,?_,?_,?_,nofun,?_,?_]
 ·exact#[a,o,Y,q,dP f l]
 ·exact#[b,r,Y,p,dP f n]
 ·exact s
 ·rw[DV.dep];omega
 ·rw[DV.eq,m];have e:(if neg=Af then !true else Af)=!neg:=by cases neg<;>rfl
  rw[e];exact k.flat R h
def AiY{neg:Bool}:Aah K T (AgL K neg) (Alo neg):=λF S H Q v d e x y R c g⟨t,i,s,f,h⟩k=>by
 let(a,rfl,n,p,j):=(R.one c).is (OK i c);let(b,rfl,q,o,m):=(R.one g).is (OK s g);let(l,r,u):=uR f;refine#[.lst<|t.map .fl,.lst<|t.map .fl,?_,?_,?_,nofun,?_,?_]
 ·exact#[a,n,Y,p,V1 f j]
 ·exact#[b,q,Y,o,V1 f m]
 ·exact r
 ·rw[DV.dep];omega
 ·rw[DV.eq,l];have e:(if neg=Af then !true else Af)=!neg:=by cases neg<;>rfl
  rw[e];exact k.flat R h
def Amc{n:Nat}{N4:Hp}[Ol X K N4](hr:Oo n X.A):Yq X K T (Bh .NotEq) (Alq Af):=#[_,vO hr.units,Ai0]
def Ama{n:Nat}{N4:Hp}[Ol X K N4](hr:Oo n X.A):Yq X K T (Bh .NotEq) (Alo Af):=#[_,vO hr.units,AiY]
def Alp(neg:Bool):D2:=λd e _ S Q=>∃E,d=Pa E/\e=Pa E/\(E.map (·.1)).Nodup/\Q (.f<|.bl<|!neg) S
def AiZ{neg:Bool}:Aah K T (AjO K neg) (Alp neg):=λF S H Q r d e x y R g n⟨E,p,q,c,h⟩k=>by
 subst p q;let(a,o,rfl,l,_,m):=Aeu g;let(b,j,rfl,f,_,i):=Aeu n;refine#[ZH E,ZH E,?_,?_,Aet _ _,Aes _,?_]
 ·exact#[a,o,Y,l,m]
 ·exact#[b,j,Y,f,i]
 ·rw[Alw c c λ_=>rfl];have e:(if neg=Af then !true else Af)=!neg:=by cases neg<;>rfl
  rw[e];exact k.flat R h
def AhX{n:Nat}{N4:Hp}[Ol X K N4](hr:Oo n X.A):Yq X K T (Bh .NotEq) (Alp Af):=#[_,Adr hr.units,AiZ]
def Al0:DM:=λd ds F S Q=>ds=[]/\∃a r ks,d=.f (.ref a)/\S a=U (r,.d ks)/\a∉F/\Q (.f .OH) (NY S a (r,.d []))
def Ac6:Aib X K T "dict.clear" Al0:=#[_,Aa3,λF S H Q l d x p m R w j⟨c,a,r,q,e,b,n,h⟩k=>by
 subst e c;cases Ou.mp w;cases j;let(i,g,o):=R.dk b n;exact#[a,i,Y,Y,g,k _ _ _ _ (Px.set R b) (R.RO b .nil) .f h]]
end
def AgT{S:N9}(n:a≠b):NY (NY S a x) b y=NY (NY S b y) a x:=by
 funext c
 unfold NY;by_cases h:c=a
 ·rw[Aq (by rw[h];exact n),Az h,Az h]
 ·rw[Aq h,Aq h]
section
variable{S:N9}{C:WC}{i:Nat}{A:WR->Ae}{w:QJ}
def Ox.o0(h:Ox C i A w S)(ha:S a=U (.own n,o)):Ox C i A w (NY S a x):=λy o e=>(N0<|T8 (h y o e) ha nofun).trans (h y o e)
end
def Afg{α:Type}(x:α)(xs:List α):Aaz (x::xs) (U 1) none=xs:=by
 unfold Aaz;have a:HT.Sn (x::xs).length 0 (U 1)=1:=by simp[HT.Sn]
 have b:HT.Sn (x::xs).length (x::xs).length none=xs.length+1:=by rfl
 rw[a,b];show(xs.take _)=xs;rw[Nat.add_sub_cancel,BI]
def Ant(L:Lt):LM:=[.int L.num,.str L.OQ,oI L.ask,.str L.Pn,.int L.key]
def AjW(L:Lt):(Ant L).all Pr=Af:=by unfold Ant;cases L.ask<;>rfl
def yZ(Ls:Mq):Ls.map AkJ=(Ls.map Ant).map λt=>D.t (t.map .f):=by rw[As];rfl
def jY{P:Bool->N9->Prop}{S:N9}(h:P Am S):AhH P (.f<|.bl<|!true) S:=h
def Aay{A B:Prop}(h:B):Q3 Am A B:=h
def Ak8:D2:=λd e _ S Q=>∃xs ys,d=.t xs/\e=.t ys/\Ee (xs.length+ys.length) 1000=Af/\Q (.t<|xs++ys) S
def Ajl{X:Cx}{K:Ab}{T:TN}{N4:Hp}[Ol X K N4]:Yq X K T (Cv .Add) Ak8:=#[_,Af5,λF S H Q A d e x y R m q⟨C,B,v,w,l,h⟩k=>by
 subst v w;have c:=m;have f:=q;let(a,s,rfl,t,g):=Zc.mp m;let(b,r,rfl,u,i):=Zc.mp q;refine#[a,b,s,r,Y,Y,RE.of t,RE.of u,by rw[<-AJ g,<-AJ i];exact le_size l,λz=>?_,λ_ z=>?_,λ_ _ p j=>?_]
 ·subst z;cases g;exact k _ _ _ _ .refl R f h
 ·subst z;cases i;rw[Br]at h;exact k _ _ _ _ .refl R c h
 ·have o:=R.Adf j (AdS g i);exact k _ _ _ _ (Px.Qo ((Ob.refl H).upd j).n) o.nil o.hd h]
section
variable{X:Cx}{K:Ab}{T:TN}{ta:DA}{g:DG}{tb:DS}{pos p1 p2:CQ}{tg a b:Expr}{body:Me}
def V2[UR X](hg0:Gl X "range")(hm:X.mg "range"=none)(ha:PA X [a] (iB K T ta))(hg:PG X tg (tT K T g))(hb:QB X body (Rx K T tb))(h1:AG [a] X.env=[(Am,eval a X.env)]:=by rfl)(hs:∀x,Bz (.Call (.Name "range" p1) [a] [] p2) X.env x=pure x:=by intro _;rfl):PS X (.For tg (.Call (.Name "range" p1) [a] [] p2) body [] pos) (Rx K T<|Ald ta g tb):=(Qr (VY hg0 hm ha h1) hg hb hs).imp λE J H⟨F,b,S,r,R,c,q,k⟩=>#[F,b,S,_,R,c,q,λs o n m p i d⟨j,e,f,l,h⟩=>by
  subst e;let(v,rfl,w):=Rj d;cases Ou.mp w;exact#[j,Y,f,l,rC i (c.px p) (k.px p) h]]
def AgP[UR X](hg0:Gl X "range")(hm:X.mg "range"=none)(ha:PA X [a,b] (iB K T ta))(hg:PG X tg (tT K T g))(hb:QB X body (Rx K T tb))(h1:AG [a,b] X.env=[(Am,eval a X.env),(Am,eval b X.env)]:=by rfl)(h2:AG [b] X.env=[(Am,eval b X.env)]:=by rfl)(hs:∀x,Bz (.Call (.Name "range" p1) [a,b] [] p2) X.env x=pure x:=by intro _;rfl):PS X (.For tg (.Call (.Name "range" p1) [a,b] [] p2) body [] pos) (Rx K T<|Aip ta g tb):=(Qr (Abl hg0 hm ha h1 h2) hg hb hs).imp λE J H⟨F,c,S,y,R,d,q,k⟩=>#[F,c,S,_,R,d,q,λs t r o p m n⟨i,j,e,l,h⟩=>by
  subst e;let(v,u,rfl,w,f):=Ahb n;cases Ou.mp w;cases Ou.mp f;exact#[i,j,Y,l,rC m (d.px p) (k.px p) h]]
end
abbrev XH(Hs:QI):LY:=Hs.map λe=>(.inr e.1,.t<|e.2.map λn=>.f<|.int n)
def AgD(Hs:QI)(n:Ay)(ps:LS):putD (XH Hs) (.inr n) (.t<|ps.map λn=>.f<|.int n)=XH (iH Hs n ps):=by
 rw[T5 Hs (n,ps)];unfold P2 iH;have e:∀y:Ay×LS,((.inr y.1:Key)=.inr n)=(y.1=n):=λy=>propext #[λe=>by injection e,λe=>by rw[e]]
 simp only[e];split
 ·refine congrArg XH (A4 λy _=>?_);split
  ·rename_i h;rw[h]
  ·rfl
 ·rfl
def AeE(Hs:QI)(n:Ay):∃old:LS,(O0 (XH Hs)<|.inr n).getD (.t [])=.t (old.map λn=>.f<|.int n)/\((n,old)∈Hs\/old=[]):=by
 rw[Qb];cases q:Hs.find? λe=>decide ((.inr e.1:Key)=.inr n)with
 |none=>exact#[[],Y,.inr Y]
 |some e=>have b:=Cc q;have c:=Fo q;have a:=Bv c;injection a with a;exact#[e.2,Y,.inl (by rw[<-a];exact b)]
end
section
variable{X:Cx}{K:Ab}{T:TN}
def Ao9:DN:=λds _ S Q=>∃i j:Int,ds=[.f<|.int i,.f<|.int j]/\Q (.f<|.int (if j<i then j else i)) S
def Aij(hc:X.calm=Af):RD X K T (.builtin "min") Ao9:=#[_,Aav hc,λF S H Q d g f R c⟨i,j,e,h⟩k=>by
 subst e;let(v,u,rfl,a,b):=Ahb c;cases Ou.mp a;cases Ou.mp b;exact#[i,j,Y,k.flat R h]]
def Ajb:DM:=λd ds F S Q=>∃z y:Ay,d=.f (.str z)/\ds=[.f<|.str y]/\y.length≠0/\z.length<=1000000/\aw F (oR<|Dk z y) Q S
def m_split:Aib X K T "str.split" Ajb:=#[_,rJ,λF S H Q j d x m l R w g⟨z,y,c,i,f,e,h⟩k=>by
 subst c i;cases Ou.mp w;let(v,rfl,a):=Rj g;cases Ou.mp a;exact#[z,y,Y,Y,f,e,λp b=>R.aw (o:=oR _) b Y (λr=>#[_,N1,Yp _]) h k]]
abbrev Alh(v9:LV)(n:Nat)(ta:DA)(tt:DT)(te:DE):DE:=λF loc S Q=>ta F loc S λds S1=>∃j:Int,ds=[.f<|.int j]/\-(2 ^ 62)<=j/\j<2 ^ 62/\∀p,S1 p=none->p∉F->Aia F ((Ba j.toNat).map λ(i:Nat)=>.f<|.int<|0+(i:Int)) v9 n tt te loc S1 p (λ_=>True) Q
def AiW{v9:LV}{n:Nat}{ta:DA}{te:DE}{tt:DT}(hn:v9[n]?=U none):lf K T (Alh v9 n ta tt te) J H Q->AmO v9 (AhB<|iB K T ta) (Wi n) (WZ K T tt) (lf K T te) J H Q:=λ⟨F,L,S,Q',R,j0,q,k⟩=>
 #[F,L,S,_,R,j0,q,λds G g vs A B ws⟨j,e,j1,j2,hw⟩=>by
  subst e;let(v,rfl,w):=Rj ws;cases Ou.mp w;refine#[j,Y,j1,j2,λD d=>?_];let(W,h0,hk,u,M):=hw D (B.free d) λm=>B.fd D m d
  have O:Ob g (upd g D<|.lst []):=(Ob.refl g).upd d;have t:Px F G g F (NY G D (.own 0,.l [])) _:=Px.own O d;have ll:((Ba j.toNat).map λ(i:Nat)=>L2.D.f<|.int<|0+(i)).length=j.toNat:=by rw[Ac,By]
  refine#[λi m zs C=>∃h a,m=j.toNat-i/\i<=j.toNat/\Rp K T F C a []/\W i h a/\Px F G g F a C,#[j.toNat,[],_,Y,Bo _,B.own (o:=.l []) O d _ #[[],N1,.nil],h0,t],?_];rintro i m zs C⟨h,a,rfl,aa,u9,V,c⟩;by_cases p:i<j.toNat
  ·refine .inr #[p,λx H3 hy=>?_];let(rfl,rfl):=hy;refine#[Aer hn J _,F,_,a,_,u9,(VR<|j0.px<|A.trans c).set .f,u i _ h a (by rw[Ag,CH p];rfl) V,λb Z H3 s N X=>?_];cases b with
   |false=>exact#[j.toNat-(i+1),Nr,h,Z,Y,p,N,X,c.trans s]
   |true=>refine#[F,_,Z,_,N,(VR<|j0.px<|A.trans<|c.trans s).set .f,X,λy S4 H4 v4 p4 E w4⟨r,I,y0,z⟩=>?_];let(us,g1,P):=E.st D r _ I;refine#[us,g1,by rw[<-AJ P,Bf];omega,j.toNat-(i+1),Nr,_,_,Y,p,E.Aem I<|aZ P w4,z,(c.trans s).trans (p4.trans<|Px.set E I)]
  ·have e:i=j.toNat:=Nr;subst e;rw[ll]at M;exact .inl #[Ap _,(k.px A).fz _ _ _ _ c u9 .f (M h a V)]]
variable{elt tg a:Expr}{ifs:L1}{scope:Scope}{pos p1 p2:CQ}{Nc:LK}{v9:LV}{ta:DA}{te:DE}{tt:DT}{n:Nat}
def Aek{i₀:Nat}{x₀:Ay}{pos₀ spos:CQ}(hN:X.N.Nodup)(hi₀:X.N[i₀]?=U x₀)(hx₀:Loc X.env.scope x₀)(hcalm:X.calm=Af)(hg0:Gl X "range")(hm:X.mg "range"=none)(ha:PA X [a] (iB K T ta))(hkind:scope.kind=.function)(hcell:∀y∈scope.names,y.2≠.cell)(hfr:∀y∈scope.names,y.2=.free->X.env.kindOf y.1=U .cell\/X.env.kindOf y.1=U .free)(hnames:∀x∈scope.names,x.2=.local->scope.names.lookup x.1=U .local)(caps:Q2 X scope Nc v9)(hg:∀fp s H,PG (OO X scope Nc fp s H) tg<|Wi n)(ht:∀fp s H,AeO (OO X scope Nc fp s H) ifs<|WZ K T tt)(he:∀fp s H,PE (OO X scope Nc fp s H) elt<|lf K T te)(hn:v9[n]?=U none:=by rfl)(h1:AG [a] X.env=[(Am,eval a X.env)]:=by rfl)(hs:∀x,Bz (.Call (.Name "range" p1) [a] [] p2) X.env x=pure x:=by intro _;rfl)(hsw:swapsWith (.ListComp elt [#[tg,.Call (.Name "range" p1) [a] [] p2,ifs,0]] scope pos) (U<|.Name x₀ pos₀) spos.line X.env=pure Af:=by rfl)(hf₀:X.fn x₀=Af\/X.env.scope.names.lookup x₀=U .local:=by first|exact .inl rfl|exact .inr rfl|assumption):PS X (.Assign [.Name x₀ pos₀] (.ListComp elt [#[tg,.Call (.Name "range" p1) [a] [] p2,ifs,0]] scope pos) spos) (Rx K T<|bN (Alh v9 n ta tt te) i₀):=(XW hN hi₀ hx₀ hcalm (VY hg0 hm ha h1) hkind hcell hfr hnames caps hg ht he hs hsw hf₀).imp λE J H⟨F,b,S,i,R,c,q,k⟩=>AiW hn #[F,b,S,_,R,c,q,λd f e v p g w h=>k.nx _ f e _ p g ((c.px p).set w) h]
variable{l:Expr}{g:DG}{tb:DS}{body:Me}
def Anf(F:LL)(xs:LO)(g:DG)(tb:DS)(D:pM)(loc:Lc)(S:N9):Prop:=∃I:Nat->Lc->N9->Prop,I 0 loc S /\
 (∀i x loc S,xs[i]?=U x->I i loc S->g (.t [.f<|.int (i:Nat),x]) loc S λloc S=>tb F #[I<|i+1,D.rt,D.nx,I<|i+1] loc S)/\∀loc S,I xs.length loc S->D.nx loc S
def Anf.mk{xs:LO}{D:pM}{loc:Lc}{S:N9}(I:Nat->Lc->N9->Prop)(h0:I 0 loc S)(hs:∀i x loc S,xs[i]?=U x->I i loc S->g (.t [.f<|.int (i:Nat),x]) loc S λloc S=>tb F #[I<|i+1,D.rt,D.nx,I<|i+1] loc S)(hd:∀loc S,I xs.length loc S->D.nx loc S):Anf F xs g tb D loc S:=#[I,h0,hs,hd]
abbrev Alb(t:DA)(g:DG)(tb:DS):DS:=λF D loc S=>t F loc S λds S1=>∃xs,ds=[.l xs]/\Anf F xs g tb D loc S1
def AjX[UR X]{N4:Hp}[Ol X K N4]{elts:L1}{x1}{tpos:CQ}(hg0:Gl X "enumerate")(hm:X.mg "enumerate"=none)(ha:PA X [l] (iB K T ta))(hg:PG X (.Tuple elts x1 tpos) (tT K T g))(hb:QB X body (Rx K T tb))(h1:AG [l] X.env=[(Am,eval l X.env)]:=by rfl)(hs:∀x,Bz (.Call (.Name "enumerate" p1) [l] [] p2) X.env x=pure x:=by intro _;rfl):PS X (.For (.Tuple elts x1 tpos) (.Call (.Name "enumerate" p1) [l] [] p2) body [] pos) (Rx K T<|Alb ta g tb):=(Qr (Ago hg0 hm ha h1) hg hb hs).imp λE J H⟨F,h,S,D',R,N,q,k⟩=>#[F,h,S,_,R,N,q,λds D P vs p u9 ws⟨V,e,I,h0,B,y0⟩=>by
  subst e;let(v,rfl,w):=Rj ws;let(a,rfl,us,h1,u,ls):=nH u9 (.inl Y) w;have j0:=k.px p;let Pv:=λi J H=>∃h S,Rp K T F H S []/\Lo K F S H h J/\I i h S/\Px F D P F S H
  have hP:∀i h S J H,Rp K T F H S []->Lo K F S H h J->I i h S->Px F D P F S H->Pv i J H:=λi h S J H a b c d=>#[h,S,a,b,c,d]
  refine#[a,us,Y,h1,Acv Pv #[h,D,u9,N.px p,h0,.refl] (λi J H _⟨_,_,s,_,_,r⟩=>ls.keep u (.inl Y) (.inl Y) s r) ?_ ?_]
  ·rintro i x t aa C W⟨j,z,s,m,A,r⟩M;have O:i<V.length:=by rw[AJ u];exact(Ah.mp W).1
   let(y,Q,Z):=rX u<|Al O;rw[W]at Q;cases Q;have L:=s.Adf (ds:=[.f<|.int<|i,V[i]]) M<|.cons .f<|.cons (VD.px r Z) .nil;have G:Px F z C F z _:=Px.Qo ((Ob.refl C).upd (o:=.tup [.int<|i,x]) M).n;exact lM Pv hP j0 L.nil (m.px G) (r.trans G) L.hd<|B i _ j z (Al O) A
  ·rintro aa C⟨j,z,s,m,A,r⟩;rw[<-AJ u]at A;exact j0.nx _ _ _ _ r s m<|y0 _ _ A]
end
def Yx:Mp->LL->Lc->N9->(List (D×D)->N9->Prop)->Prop
 |[],_,_,S,Q=>Q [] S
 |(tk,tv)::r,F,loc,S,Q=>tk F loc S λd S1=>tv F loc S1 λe S2=>Yx r F loc S2 λps S3=>Q ((d,e)::ps) S3
section
variable{X:Cx}{K:Ab}{T:TN}
def VP(K:Ab)(F:LL)(S:N9)(H:Hp)(p:D×D)(q:V×V):Prop:=VD K F S H p.1 q.1/\VD K F S H p.2 q.2
def qX:∀{ts:Mp}{J:St}{H:Hp}{Q:My->Hp->Prop}{F:LL}{loc:Lc}{S:N9}{Q':List (D×D)->N9->Prop},Rp K T F H S []->Lo K F S H loc J->Yx ts F loc S Q' ->
  (∀ps S1 H1 vs,Px F S H F S1 H1->Rp K T F H1 S1 []->Paired (VP K F S1 H1) ps vs->Q' ps S1->Q vs H1)->oU (ts.map λp=>(lf K T p.1,lf K T p.2)) J H Q
 |[],J,H,Q,F,loc,S,Q',R,lo,h,k=>k [] S H [] .refl R .nil h
 | (tk,tv)::r,J,H,Q,F,loc,S,Q',R,lo,h,k=>by
   refine#[F,loc,S,_,R,lo,h,λd S1 H1 x b m f o=>#[F,loc,S1,_,m,lo.px b,o,λe u v y c i q l=>?_]];refine qX i (lo.px<|b.trans c) l λps j t vs a g n s=>?_
   exact k _ j t _ ((b.trans c).trans a) g (.cons #[f.px<|c.trans a,q.px a] n) s
abbrev Ak9(ts:Mp):DE:=λF loc S Q=>∀p,S p=none->p∉F->Yx ts F loc (NY S p (.own 0,.d [])) λps S2=>S2 p=U (.own 0,.d [])/\∃(ks:LY)(r:Rl),ps=ks.map (λkv=>(.f<|kV kv.1,kv.2))/\ks.length<=15/\Q (.f<|.ref p) (NY S2 p (r,.d<|ks.foldl (λacc kv=>putD acc kv.1 kv.2) []))
def rS{F:LL}{S:N9}{H:Hp}:∀{ks:LY}{vs:My},Paired (VP K F S H) (ks.map λkv=>(.f<|kV kv.1,kv.2)) vs->∃v5:LP,vs=v5.map (λkv=>(kV kv.1,kv.2))/\Paired (KD<|VD K F S H) ks v5
 |[],vs,h=>by cases h;exact#[[],Y,.nil]
 | kv::ks,vs,h=>by
   cases h with
   |@cons _ q _ qs h1 h2=>let(v5,rfl,b):=rS h2;let(c,a):=q;have e:c=kV kv.1:=Ou.mp h1.1;exact#[(kv.1,a)::v5,by rw[e];rfl,.cons #[Y,h1.2] b]
def Ac9{F:LL}{S:N9}{H:Hp}:∀{ks acc:LY}{v5 kacc:LP},Paired (KD<|VD K F S H) ks v5->Paired (KD<|VD K F S H) acc kacc->Paired (KD<|VD K F S H) (ks.foldl (λacc kv=>putD acc kv.1 kv.2) acc) (T3 kacc v5):=by
 intro ks acc v5 kacc h;induction h generalizing acc kacc with
 |nil=>intro g;exact g
 |@cons x y xs ys h1 h2 ih=>intro g;refine ih ?_;show Paired _ _ (putK kacc y.1 y.2);rw[h1.1];exact nC g h1.2
def uN{keys:Mu}{values:L1}{pos:CQ}{ts:Mp}(h:Ahk X pos keys values (ts.map λp=>(lf K T p.1,lf K T p.2)))(hall:keys.all (·.isSome)=Af)(hl:keys.length=values.length)(h0:keys≠[])(h15:keys.length<=15):PE X (.Dict keys values pos) (lf K T<|Ak9 ts):=(Agf h hall hl h0 h15).imp λJ H Q⟨F,E,S,M,R,C,q,k⟩=>λp a=>by
  have q:=q p (R.free a) λm=>R.fd p m a
  have l:Ob H (upd H p<|.dK []):=(Ob.refl H).upd a;have A:=R.own (o:=.d []) l a (.own 0) #[[],.inl N1,.nil];have n:Px F S H F (NY S p (.own 0,.d [])) _:=Px.own l a;refine qX A (C.px n) q λI L N j0 w g B⟨j,x,r,e,c,D⟩=>?_
  subst e;let(b,rfl,s):=rS B;let(G,z,y):=g.dk j λm=>R.fd p m a
  cases y;have m:=Ac9 s .nil;refine#[z,b,Y,by rw[<-AJ s];exact c,?_];have v:=Px.set (r':=r) (o':=.d<|x.foldl (λi t=>putD i t.1 t.2) []) (u:=.dK<|T3 [] b) g j;exact k _ _ _ _ ((n.trans w).trans v) (g.set j #[_,.inl N1,Paired.imp' (λ_ _=>KD.imp λ_ _=>VD.px v) m]) .f D
def nQ{pos:CQ}:Ahk X pos [] [] (([]:Mp).map λp=>(lf K T p.1,lf K T p.2)):=Ags
def PJ{pos:CQ}{k v:Expr}{ks:Mu}{vs:L1}{tk tv:DE}{ts:Mp}(hk:PE X k (lf K T tk))(hv:PE X v (lf K T tv))(hr:Ahk X pos ks vs (ts.map λp=>(lf K T p.1,lf K T p.2))):Ahk X pos (U k::ks) (v::vs) (((tk,tv)::ts).map λp=>(lf K T p.1,lf K T p.2)):=AdR hk hv hr
end
def Apf:V->LM->Hp->VK->Prop:=λx vs H Q=>∃(a b:Ae)(v5 more:LP),x=.ref a/\vs=[.ref b]/\a≠b/\H a=U (.dK v5)/\Rd H b (.dK more)/\v5.length+more.length<=sizeLine/\Q .OH (upd H a<|.dK<|T3 v5 more)
def Aa4{X:Cx}:Ae0 X "dict.update" Apf:=by intro o s J H x G v M Q I A z h;let(a,b,e,c,rfl,rfl,i,r,t,K,q):=h;cases A;let(u,rfl,D):=vals1 z;cases D;let(j0,k,l,f,p):=jO I.Oj r;let(E,g,m,d,j):=QW I.Oj t;have N:e.length=l.length:=AJ f;have O:c.length=m.length:=AJ d;refine Ea PySem.F.slot_dict_update p.typeIs PySem.F.entry_dict_update (PySem.F.args_dict_update_2 _ _) (meets_dict_update (OG X.prog X.w) a b i g) #[l,m,p,j,Nr,λy n L B=>?_];have C:∃q,y.get? a=U q:=let#[q,_,_,hq,_]:=n;#[q,hq];have P:=SN c e;exact#[.OH,_,TR (t':=s.toks) I (by rw[r];exact Bk) B C<|Yy Nr k (KV.merge d f) n,Y,q]
section
variable{X:Cx}{K:Ab}{T:TN}
def Al1(ks js:LY):LY:=js.foldl (λacc kv=>putD acc kv.1 kv.2) ks
def Ao0:DM:=λd ds F S Q=>∃a r ks e js,d=.f (.ref a)/\ds=[e]/\S a=U (r,.d ks)/\a∉F/\Ra S e (.d js)/\e≠.f (.ref a)/\ks.length+js.length<=100000/\Q (.f .OH) (NY S a (r,.d<|Al1 ks js))
def AcK{R:D->V->Prop}{js:LY}{jvs:LP}(h:Paired (KD R) js jvs):∀{ks:LY}{v5:LP},Paired (KD R) ks v5->Paired (KD R) (Al1 ks js) (T3 v5 jvs):=by
 induction h with
 |nil=>intro ks v5 h;exact h
 |@cons p q _ _ h1 _ ih=>intro ks v5 h;let(k,v):=q;let(e,w):=h1;subst e;exact ih (nC h w)
def Ac7:Aib X K T "dict.update" Ao0:=#[_,Aa4,λF S H Q O d x M L R w y⟨a,r,j0,e,P,E,C,i,B,g,n,N,h⟩k=>by
 subst E C;cases Ou.mp w;let(v,rfl,j):=Rj y;let(b,rfl,m,D,p):=(R.one j).is (OK g j);let(l,u,o):=R.dk i B;have t:a≠b:=λz=>by
  subst z;rcases g with g|⟨c,G,g,_⟩
  ·subst g;let(I,q,A,s,_):=tR.mp j;cases A;rw[s]at i;cases i
  ·subst g;cases Ou.mp j;exact n Y
 exact#[a,b,l,m,Y,Y,t,u,D.rd,by rw[<-AJ o,<-AJ p,Bf];omega,k _ _ _ _ (Px.set R i) (R.RO i<|AcK p o) .f h]]
abbrev AnX(t:DS):DS:=λF D loc S=>∃M:Lc->N9->Prop,t F #[M,D.rt,D.bk,D.ct] loc S/\∀loc' S',M loc' S'->D.nx loc' S'
def sR{st:Bi}{t:DS}(h:PS X st (Rx K T t)):PS X st (Rx K T<|AnX t):=h.imp λE J H⟨F,d,S,b,R,l,⟨M,q,m⟩,k⟩=>
 #[F,d,S,#[M,b.rt,b.bk,b.ct],R,l,q,λa g f e p i c j=>k.nx a g f e p i c<|m _ _ j,k.rt,k.bk,k.ct]
end
section
variable{X:Cx}{K:Ab}{T:TN}{t:DE}{g:DG}{tb:DS}{pos:CQ}{l tg:Expr}{body:Me}
def AnE(F:LL)(xs:LO)(P:Ae->Prop)(g:DG)(tb:DS)(D:pM)(loc:Lc)(S:N9):Prop:=∀a,P a->∃I:Nat->Lc->N9->Prop,I 0 loc S /\
 (∀i x loc S',xs[i]?=U x->I i loc S'->(S a=none->S' a=none)->g x loc S' λloc S=>tb (a::F) #[I<|i+1,D.rt,λ_ _=>False,I<|i+1] loc S)/\∀loc S,I xs.length loc S->D.nx loc S
def Aoz(g:DG)(tb:DS)(F:LL)(D:pM)(loc:Lc):QD:=λd S=>∃ks,d=.d ks/\(∀b∈F,S b≠none)/\AnE F (Anp ks) (λa=>S a=none) g tb D loc S
abbrev Aiq(t:DE)(g:DG)(tb:DS):DS:=λF D loc S=>t F loc S (Aoz g tb F D loc)
def zB{N4:Hp}[hK:Ol X K N4][UR X](hl:PE X l (lf K T t))(hg:PG X tg (tT K T g))(hb:QB X body (Rx K T tb))(hs:∀x,Bz l X.env x=pure x:=by intro _;rfl):PS X (.For tg l body [] pos) (Rx K T<|Aiq t g tb):=by
 refine(yU<|Qr (yR hl) hg hb hs).imp λE J H⟨F,A,S,D',R,lo,q,k⟩=>#[Y,#[F,A,S,_,R,lo,q,λd j0 H1 v p R1 w h=>?_]]
 let(ks,rfl,hF,L):=h;let(a,r,rfl,nS,u9,h2):=tR.mp w;have V:=λm=>hF a m nS
 have u9:=u9.elim id λz=>(V z.1).elim
 let(I,h0,aa,hd):=L a nS;refine#[a,r,Y,u9,λN nf=>?_];have p0:Px F j0 H1 _ j0 (upd H1 a<|.Ry N _):=Px.walk u9;have R2:Rp K T _ (upd H1 a<|.Ry N _) j0 []:=R1.walk u9;have af:=(lo.px p).px p0;generalize hH2:upd H1 a _=H2 at *;have z2:H2 a=U (.Ry N<|.dK r):=by rw[<-hH2];exact N1
 have ad:=Paired.imp' (λ_ _=>KD.imp λ_ _=>VD.px p0) h2;have M:∀{j:N9}{B:Hp},Px (a::F) j0 H2 (a::F) j B->B a=U _:=λc=>c.z a (.head _) (.head _) _ _ z2
 have C:∀{j:N9}{B:Hp},Px _ j0 H2 _ j B->Rp K T _ B j []->Rp K T F _ j []/\Pe _ j B F j _/\Px F S H F j _:=λ{j B}c O=>
  #[O.rest<|M c,Pe.rest<|M c,#[((p.toPe.trans p0.toPe).trans c.toPe).trans (Pe.rest<|M c),λb m m' o u e=>by
   have nb:b≠a:=λz=>V<|z▸m
   rw[NX nb];exact c.z b (.tail _ m) (.tail _ m) o u (by rw[<-hH2,NX nb];exact p.z b m m o u e)]]
 let Pv:=λi J H=>∃A S,Rp K T (a::F) H S []/\Lo K (a::F) S H A J/\I i A S/\Px (a::F) j0 H2 (a::F) S H
 refine qE Pv #[A,j0,R2,af,h0,.refl] (λi J H _⟨_,_,_,_,_,c⟩=>M c) ?_ ?_
 ·rintro i kv ag B ae⟨s,j,O,G,hI,c⟩;let((k0,d0),ab,e1,wd):=AhK ad ae;refine#[a::F,s,j,.f _,_,O,G,.f,aa i _ s j (by rw[Ag,ab,e1];rfl) hI (λn=>?_),λW S5 H5 ai p5 R5 ac q5=>#[a::F,W,S5,_,R5,ac,q5,λy Z H6 ah P y0 D Q=>#[y,Z,y0,D,Q,(c.trans p5).trans P],λd6 Z H6 v6 P y0 w6 Q=>?_,λ_ _ _ _ _ _ _ h=>h.elim,λy Z H6 ah P y0 D Q=>#[y,Z,y0,D,Q,(c.trans p5).trans P]]]
  ·exact(c.d a r n<|.inr #[.head _,N,z2]).1
  ·have pp:=(c.trans p5).trans P;let(R7,p7,p8):=C pp y0;exact#[a,N,r,M pp,nf,k.rt _ _ _ _ p8 R7 (w6.pe p7) Q]
 ·rintro ag B⟨s,j,O,G,hI,c⟩;let(R7,p7,p8):=C c O;rw[<-AJ h2,<-Ac]at hI;exact#[a,N,r,M c,nf,k.nx _ _ _ _ p8 R7 (Paired.imp' (λ_ _ q d e=>let⟨v,z,w⟩:=q d e;#[v,z,w.pe p7]) G)<|hd _ _ hI]
end
def Ahj(K:Ab)(T:TN)(n:Nat):Sp:=λvs H Q _=>∃(a:Ae)(ns:LS),vs=[.ref a]/\PX K H a (ns.map V.int)/\ns.length<=n/\(∀x∈T,Tab x.1 x.2.1 x.2.2 H)/\∀H',Q (.bl Af) H'
section
variable{M:Md}{K:Ab}{T:TN}{k n:Nat}{N:LK}{x:Ay}{st:Bi}{sp:DP}{t:DS}
def Aoi(p n:Nat)(d:∃X:BM,K.In X/\X.Ns AK M.mg)(a:Pu K x st)(kt:∀φ H,Rm k N x (NW st) φ->QB (cN M K N x (NW st) φ H) (Oa st) (Rx K T t))(rd:∀F ds S Q,sp F ds S Q->t F (AaI Q) (YS ds n) S)(S:O3 N (N.take p) (NW st):=by walk_at"s")(b:∀(kV doc pm:Ai)(an:LZ)(cdv ct:Ai)(us:LQ),us.length=(N.take p).length->Cf (Bs x x (OE st) (Oa st) (NW st) .none kV doc pm an cdv ct) #[us,[]]=pure ((N.take p).zip us):=by walk_at"b")(len:∀F ds S Q,sp F ds S Q->ds.length=(N.take p).length:=by walk_at"l")(hn:N.length=n:=by rfl):wY M.P M.w K M.mg M.base (k+1) x (N.take p) (cn K T sp):=Aqz p n d a kt (xJ rd) S b (lS len) hn
def Agu{S:N9}{H:Hp}(ns:LS):Paired (VD K [] S H) (ns.map λz=>.f<|.int z) (ns.map V.int):=by
 induction ns with
 |nil=>exact .nil
 |cons a r b=>exact .cons .f b
def wY.AoW{ps:LK}(u9:wY M.P M.w K M.mg M.base k x ps (cn K T sp))(h:∀ns:LS,ns.length<=n->∀Q:QD,(∀S',Q (.f<|.bl Af) S')->sp [] [.l<|ns.map λz=>.f<|.int z] (λ_=>none) Q):wY M.P M.w K M.mg M.base k x ps (Ahj K T n):=by let(f,g,F,r):=u9;refine#[f,g,F.imp ?_,r];rintro o H Q E⟨a,ns,rfl,m,j,b,c⟩;refine#[[],λ_=>none,_,λd _=>d=.f _,#[nofun,nofun,b,nofun],.cons (AbM.mpr #[a,_,Y,m.imp (λq=>#[Y,q]) id,Agu ns]) .nil,h ns j _ λ_=>rfl,λd p i v _ _ w e=>?_];subst e;rw[Ou.mp w];exact c i
end
def Als(k:Int)(B:Ak):Bool:=decide (B.kind="write")&&(decide (B.key=k)&&decide (B.Pf="done"))
def SM(w:QJ)(k:Int):List (Ay×Int):=(w.Ms.filter<|Als k).map λB=>(B.Pb,Yw B.RY B.Pb)
def AjU(w:QJ)(T:PY)(z:Ay):QJ:=yI {w with Ms:=w.Ms++[#["read",z,T.key,T.r,[],SM w T.key,[],"open"]]} "query" (w.Ms.length+1) T []
def pR(w:QJ)(T:PY)(L:Lt):QJ:=if L.Pn∈T.sh.map (·.1)/\L.Pn∉w.away then Zt w "told" L.ask L.Pn L.key (P6 T.sh L.Pn)else w
inductive AkM(w:QJ)(L:Lt):QJ->Prop where
 |st (T:PY):L.OQ="put"\/L.OQ="hint"->T∈w.Ts->L.key=T.key->AkM w L (Xo (Pm w L.num) T L)
 |qu (T:PY):L.OQ="query"->T∈w.Ts->L.key=T.key->AkM w L (pR (Pm w L.num) T L)
 |an (n:Nat) (B:Ak):L.OQ="ack"\/L.OQ="told"->L.ask=U ((n:Int)+1)->w.Ms[n]?=U B->AkM w L (Ab5 (Pm w L.num) n B L)
def Akz(hm:Bool)(Ts:L9)(k:Int)(z:Ay):Prop:=∃T∈Ts,k=T.key/\(hm=Af->z∈T.sh.map (·.1))
structure AbW(qs:LK)(s:Nat)(Ts:L9)(B:Ak):Prop where
 kd:B.kind="write"\/B.kind="read"
 hl:B.N3.length<=s
 op:B.Pf="open"->(B.N3.length:Int)<B.QF
 ky:∃T∈Ts,B.key=T.key
 as:B.Pb∈qs
 wr:B.kind="write"->(look B.RY B.Pb).isSome=Af/\B.ahead=[]
 al:B.ahead.length<=s
structure WB(hm:Bool)(qs:LK)(s:Nat)(w:QJ):Prop extends jE qs w where
 lt:∀L∈w.Ls,((L.OQ="put"\/L.OQ="hint"\/L.OQ="query")/\Akz hm w.Ts L.key L.Pn)\/L.OQ="ack"\/L.OQ="told"
 la:∀L∈w.Ls,L.OQ≠"hint"->∃(n:Nat)(B:Ak),L.ask=U ((n:Int)+1)/\w.Ms[n]?=U B/\((B.kind="write"/\(L.OQ="put"\/L.OQ="ack"))\/(B.kind="read"/\(L.OQ="query"\/L.OQ="told")))
 ak:∀L∈w.Ls,L.OQ="ack"->L.Xk=[]
 mw:∀B∈w.Ms,AbW qs s w.Ts B
 hi:∀e∈w.hints,Akz hm w.Ts e.1.2.2 e.1.2.1
 tw:∀T∈w.Ts,1<=T.r/\1<=T.w
 l1:w.Ls.length<=70*s
 l2:w.Ms.length<=s
 l3:w.QL.length<=s
 l4:w.hints.length<=s
 s9:s<=1100
section
variable{hm:Bool}{qs:LK}{s:Nat}{w w':QJ}{T:PY}{L:Lt}{z v:Ay}{Ts Ts':L9}{B:Ak}
def Akz.sk{k:Int}(e:Ts'.map RB=Ts.map RB)(h:Akz hm Ts k z):Akz hm Ts' k z:=by let(c,g,f,d):=h;let(b,i,a):=eQ e.symm g;exact#[b,i,f.trans (congrArg Iv a).symm,λq=>by rw[show b.sh.map _=c.sh.map _ from congrArg GY a];exact d q]
def AbW.sk(e:Ts'.map RB=Ts.map RB)(h:AbW qs s Ts B):AbW qs s Ts' B:=
 {h with
  ky:=by
   let(g,c,b):=h.ky;let(f,d,a):=eQ e.symm c;exact#[f,d,b.trans (congrArg Iv a).symm]}
def AbW.up(h:AbW qs s Ts B):AbW qs (s+1) Ts B:={h with hl:=Gh h.hl,al:=Gh h.al}
def U5{E F:O7}{n:Ay}(nd:(F.map (·.1)).Nodup)(h:(look E n).isSome=Af):(look (Ow E F) n).isSome=Af:=by
 rw[kI nd];cases e:look E n with
 |none=>rw[e]at h;cases h
 |some x=>cases look F n<;>rfl
def AbW.Aoh{E:O7}(h:AbW qs s Ts B)(nE:OJ qs E):AbW qs (s+1) Ts (Po B z E).1:=by
 unfold Po;split
 ·exact h.up
 ·have hl:(B.N3++[z]).length<=s+1:=by rw[AN];exact CS h.hl
  split
  ·rename_i q;exact{h.up with hl:=hl,op:=λ_=>by rw[AN];exact q,wr:=λq=>#[U5 nE.1 (h.wr q).1,(h.wr q).2]}
  ·exact{h.up with hl:=hl,op:=λq=>absurd (show("done":Ay)="open" from q) Np,wr:=λq=>#[U5 nE.1 (h.wr q).1,(h.wr q).2]}
def WB.up(ok:WB hm qs s w)(h:s<1100):WB hm qs (s+1) w:=
 {ok with
  mw:=λB a=>(ok.mw B a).up
  l1:=by have:=ok.l1;omega
  l2:=by have:=ok.l2;omega
  l3:=by have:=ok.l3;omega
  l4:=by have:=ok.l4;omega
  s9:=h}
def WB.ApS(ok:WB hm qs s w)(n:Int):WB hm qs s (Pm w n):=
 {ok with
  tojE:=ok.tojE.AmX n
  lt:=λL a=>ok.lt L (Bp.mp a).1
  la:=λL a=>ok.la L (Bp.mp a).1
  ak:=λL a=>ok.ak L (Bp.mp a).1
  l1:=AL (BK ..) ok.l1}
structure ApE(hm:Bool)(qs:LK)(Ts:L9)(Ms:Mx)(L:Lt):Prop where
 sl:OJ qs L.Xk
 lt:((L.OQ="put"\/L.OQ="hint"\/L.OQ="query")/\Akz hm Ts L.key L.Pn)\/L.OQ="ack"\/L.OQ="told"
 la:L.OQ≠"hint"->∃(n:Nat)(B:Ak),L.ask=U ((n:Int)+1)/\Ms[n]?=U B/\((B.kind="write"/\(L.OQ="put"\/L.OQ="ack"))\/(B.kind="read"/\(L.OQ="query"\/L.OQ="told")))
 ak:L.OQ="ack"->L.Xk=[]
def WB.snd(ok:WB hm qs s w){Ls':Mq}{sent':Int}(UQ:pO sent' (w.Ls++Ls'))(h:∀L∈Ls',ApE hm qs w.Ts w.Ms L)(hl:(w.Ls++Ls').length<=70*s):WB hm qs s {w with O6:=sent',Ls:=w.Ls++Ls'}:=
 {ok with
  UQ:=UQ
  sl:=λL a=>(AY.mp a).elim (ok.sl L) λq=>(h L q).sl
  lt:=λL a=>(AY.mp a).elim (ok.lt L) λq=>(h L q).lt
  la:=λL a=>(AY.mp a).elim (ok.la L) λq=>(h L q).la
  ak:=λL a=>(AY.mp a).elim (ok.ak L) λq=>(h L q).ak
  l1:=hl}
def WB.AmG(ok:WB hm qs s w){OQ:Ay}{ask:LW}{Pn:Ay}{key:Int}{E:O7}(h:ApE hm qs w.Ts w.Ms #[w.O6+1,OQ,ask,Pn,key,E])(hl:w.Ls.length+1<=70*s):WB hm qs s (Zt w OQ ask Pn key E):=ok.snd (ok.UQ.snoc OQ ask Pn key E) (λL a=>by cases An.mp a;exact h) (by rw[AN];exact hl)
def WB.ask(ok:WB hm qs s w){B:Ak}(hB:AbW qs (s+1) w.Ts B)(gB:OJ qs B.RY){l:L6}(hl:l.length<=s+1)(hs:∀e∈l,OJ qs e.2)(h:s<1100):WB hm qs (s+1) {w with QL:=l,Ms:=w.Ms++[B]}:=
 {ok.up h with
  sm:=λC a=>by
   rcases AY.mp a with a|a
   ·exact ok.sm C a
   ·cases An.mp a;exact gB
  se:=hs
  la:=λL f hl=>by
   let(n,C,c,b,d):=ok.la L f hl;exact#[n,C,c,by rw[Ct (Ah.mp b).1];exact b,d]
  mw:=λC a=>by
   rcases AY.mp a with a|a
   ·exact(ok.mw C a).up
   ·cases An.mp a;exact hB
  l2:=by rw[AN];exact CS ok.l2
  l3:=hl}
def WB.nI(ok:WB hm qs s w){OQ:Ay}{E:O7}{m:Nat}{B:Ak}(hm':w.Ms[m]?=U B)(hT:T∈w.Ts)(gE:OJ qs E)(hl:(OQ="put"/\B.kind="write")\/(OQ="query"/\B.kind="read"))(h5:w.Ls.length+5<=70*s):WB hm qs s (yI w OQ (m+1) T E):=by
 have q:=kJ ok.UQ OQ (m+1) T.key E (T.sh.map (·.1));refine ok.snd q (λL g=>?_) ?_
 ·obtain ⟨a,h,c,d,b⟩:=VS g;have f:L.OQ≠"ack":=by rw[a];rcases hl with⟨e,_⟩|⟨e,_⟩<;>rw[e]<;>decide +kernel
  refine#[by rw[d];exact gE,.inl #[?_,T,hT,c,λ_=>b],λ_=>#[m,B,h,hm',?_],λz=>(f z).elim]
  ·rw[a];rcases hl with⟨e,_⟩|⟨e,_⟩
   ·exact .inl e
   ·exact .inr<|.inr e
  ·rw[a];rcases hl with⟨e,k⟩|⟨e,k⟩
   ·exact .inl #[k,.inl e]
   ·exact .inr #[k,.inl e]
 ·rw[AN,YU,Ac];have i:=ok.tok.bU T hT;omega
def AeI(E:O7)(z v:Ay):look (Xi E z v) z=U (Yw E z+1,U v):=by unfold Xi;rw[dA,Az Y]
def WB.ApA(ok:WB hm qs s w)(hT:T∈w.Ts)(hz:z∈qs)(h:s<1100):WB hm qs (s+1) (Ahc w T z v):=by
 have a:OJ qs (Xi (OF _ z T.key) z v):=(ok.tojE.Ac3 z _).ApZ hz;have c:=AeI (OF w.QL z T.key) z v;unfold Ahc;generalize Xi _ z v=E at *;have d:=ok.ask (B:=#["write",z,T.key,T.w,E,[],[],"open"]) #[.inl Y,Bo _,λ_=>by have:=(ok.tw T hT).2;show(0)<T.w;omega,#[T,hT,Y],hz,λ_=>#[by rw[c];rfl,Y],Bo _] a (l:=P2 (λe=>Sx e.1) _ ((z,T.key),E)) (AL (Tj ..)<|CS ok.l3) (λe b=>by
  rcases Vb b with rfl|b
  ·exact a
  ·exact ok.se e b) h
 exact d.nI (by rw[BC<|Ap _,Dg];rfl) hT a (.inl #[Y,Y]) (by show w.Ls.length+5<=_;have:=ok.l1;omega)
def Aak(w:QJ)(k:Int):(SM w k).length<=w.Ms.length:=by unfold SM;rw[Ac];exact BK ..
def WB.Apg(ok:WB hm qs s w)(hT:T∈w.Ts)(hz:z∈qs)(h:s<1100):WB hm qs (s+1) (AjU w T z):=by have a:=ok.ask (B:=#["read",z,T.key,T.r,[],SM w T.key,[],"open"]) #[.inr Y,Bo _,λ_=>by have:=(ok.tw T hT).1;show(0)<T.r;omega,#[T,hT,Y],hz,λq=>absurd (show("read":Ay)="write" from q) Np,by have:=Aak w T.key;have:=ok.l2;show(SM w _).length<=_;omega] OJ.nil (Gh ok.l3) ok.se h;exact a.nI (by rw[BC<|Ap _,Dg];rfl) hT OJ.nil (.inr #[Y,Y]) (by show w.Ls.length+5<=_;have:=ok.l1;omega)
def WB.lay(ok:WB hm qs s w)(hT:T∈w.Ts){E:O7}(gE:OJ qs E):WB hm qs s {w with Ts:=P4 w.Ts (QG T z E)}:=by
 have sk:=oN (T':=QG T z E) ok.tok hT YQ;exact {ok with
  tok:=ok.tok.sk sk
  st:=λT' a e b=>by
   rcases V3 a with rfl|⟨a,_⟩
   ·unfold QG at b;split at b
    ·rcases Vb b with rfl|b
     ·exact(ok.tojE.AbH hT _).join gE
     ·exact ok.st T hT e b
    ·exact ok.st T hT e b
   ·exact ok.st T' a e b
  lt:=λM d=>(ok.lt M d).imp (λ⟨f,c⟩=>#[f,c.sk sk]) id
  mw:=λB g=>(ok.mw B g).sk sk
  hi:=λe b=>(ok.hi e b).sk sk
  tw:=λT' a=>by
   rcases V3 a with rfl|⟨a,_⟩
   ·unfold QG;split
    ·exact ok.tw T hT
    ·exact ok.tw T hT
   ·exact ok.tw T' a}
def zU(ok:WB hm qs s w)(h:s<1100)(n:Int):(Pm w n).Ls.length+1<=70*(s+1):=by have a:=(ok.ApS n).l1;omega
def WB.AnR(ok:WB hm qs s w)(hL:L∈w.Ls)(b:AkM w L w')(h:s<1100):WB hm qs (s+1) w':=by
 have c:=ok.sl L hL;have o:=(ok.ApS L.num).up h;cases b with
 |st T hlab hT eK=>
   unfold Xo;split
   ·rename_i x;split
    ·unfold AlY;split
     ·exact {o with
       nh:=AgC o.nh _
       sh:=λe a=>by
        rcases Vb a with rfl|a
        ·exact(ok.tojE.Aoj _).join c
        ·exact ok.sh e a
       hi:=λe a=>by
        rcases Vb a with rfl|a
        ·exact#[T,hT,eK,λ_=>x]
        ·exact ok.hi e a
       l4:=AL (Tj ..) (CS ok.l4)}
     ·exact o
    ·have u:=o.lay (z:=L.Pn) hT c;split
     ·rename_i l;let(n,B,g,j,i):=ok.la L hL (by rw[l];decide +kernel);refine u.AmG #[OJ.nil,.inr<|.inl Y,λ_=>#[n,B,g,j,.inl #[?_,.inr Y]],λ_=>rfl]<|zU ok h _;rcases i with⟨k,_⟩|⟨_,k⟩
      ·exact k
      ·rw[l]at k;exact absurd k Np
     ·exact u
   ·exact o
 |qu T hlab hT eK=>
   unfold pR;split
   ·let(n,B,g,j,i):=ok.la L hL (by rw[hlab];decide +kernel);refine o.AmG #[ok.tojE.AbH hT _,.inr<|.inr Y,λ_=>#[n,B,g,j,.inr #[?_,.inr Y]],λq=>absurd (show("told":Ay)="ack" from q) Np]<|zU ok h _;rcases i with⟨_,k⟩|⟨k,_⟩
    ·rw[hlab]at k;exact absurd k Np
    ·exact k
   ·exact o
 |an n B hlab hA hB=>
   have t:=Av hB;have A:=(Ah.mp hB).1;have r:=qO (z:=L.Pn) (ok.sm B t) c;exact {o with
    sm:=λC d=>by
     rcases EJ d with d|rfl
     ·exact ok.sm C d
     ·exact r
    se:=λe a=>by
     have a:e∈(if(Po B L.Pn _).2=Af/\B.kind="read" then P2 (λe=>Sx e.1) _ ((B.Pb,B.key),Ow _ (Po B _ _).1.RY)else w.QL):=a;split at a
     ·rcases Vb a with rfl|a
      ·exact(ok.tojE.Ac3 _ _).join r
      ·exact ok.se e a
     ·exact ok.se e a
    la:=λM y v=>by
     let(k,C,m,f,p):=o.la M y v;have f:w.Ms[k]?=U C:=f;by_cases e:n=k
     ·subst e;rw[hB]at f;cases f;exact#[n,_,m,Bd A,by rw[YL];exact p]
     ·exact#[k,C,m,by show(w.Ms.set n _)[k]?=_;rw[BB e];exact f,p]
    mw:=λC d=>by
     rcases EJ d with d|rfl
     ·exact o.mw C d
     ·exact(ok.mw B t).Aoh c
    l2:=by show(w.Ms.set n _).length<=_;rw[Cs];exact o.l2
    l3:=by
     show(if(Po B L.Pn _).2=Af/\B.kind="read" then P2 (λe=>Sx e.1) _ _ else w.QL).length<=_;split
     ·exact AL (Tj ..)<|CS ok.l3
     ·exact o.l3}
def WB.Aqk(ok:WB hm qs s w)(hL:L∈w.Ls):(∃T,(L.OQ="put"\/L.OQ="hint")/\T∈w.Ts/\L.key=T.key)\/(∃T,L.OQ="query"/\T∈w.Ts/\L.key=T.key)\/∃(n:Nat)(B:Ak),(L.OQ="ack"\/L.OQ="told")/\L.ask=U ((n:Int)+1)/\w.Ms[n]?=U B:=by
 rcases ok.lt L hL with⟨a|a|a,T,b,c,_⟩|a
 ·exact .inl #[T,.inl a,b,c]
 ·exact .inl #[T,.inr a,b,c]
 ·exact .inr<|.inl #[T,a,b,c]
 ·let(n,B,d,e,_):=ok.la L hL (by rcases a with h|h<;>rw[h]<;>decide +kernel);exact .inr (.inr #[n,B,a,d,e])
end
inductive LU where|top|rows|asks|Qa|Um|Al4|QE|counts|ask (n:Nat)
structure Are where
 O6:Int
 Ls:Mq
 Ms:Mx
 QL:L6
 OZ:L6
 Zj:List Anc
 away:LK
 Hs:QI
 mY:Mh
 cnt:MA
def PL(l:LK):LO:=l.map λz=>.f (.str z)
def UU(T:PY):Int×Int×Int×Int:=(T.key,T.c,T.r,T.w)
def eP{α:Type}{f:PY->α}{Ts:L9}{T T':PY}(tok:US Ts)(hT:T∈Ts)(ek:T'.key=T.key)(e:f T'=f T):(P4 Ts T').map f=Ts.map f:=by
 unfold P4;rw[As];refine A4 λx a=>?_
 show f (if(Cb _:Key)=.inl _ then T' else x)=f x;split
 ·rename_i z;injection z with z;rw[e,sX tok hT a<|by rw[<-ek,z]]
 ·rfl
def cX{T:PY}{z:Ay}{E:O7}:UU (QG T z E)=UU T:=by unfold QG;split<;>rfl
section
local macro_rules | `(tactic| walk_at "w") => `(tactic| (intro x h; cases x <;> first | rfl | exact (h rfl).elim))
def SJ{Ts:L9}{T:PY}(tok:US Ts)(hT:T∈Ts):O0 ((Ts.map RB).map λe=>((.inl e.1:Key),D.l<|PL e.2)) (.inl T.key)=U (.l (PL (T.sh.map (·.1)))):=by rw[As];show O0 (Ts.map λT=>((.inl T.key:Key),D.l _)) _=_;rw[Qb];have:=T9 (w:=#[[],Ts,[],[],0,[],[],[]]) tok hT;unfold Pt at this;rw[show(Ts.find? λx=>decide _)=Ts.find? λx=>decide _ from congrArg (λf=>Ts.find? f) (funext λx=>D3.mpr #[λe=>by injection e,λe=>by rw[e]]),this];rfl
end
section
variable{S:N9}{a b:Ae}{v x:Rl×O}{r r':Rl}{o o':O}
def iF(h:S a=U v)(n:S b=none):NY S b x a=U v:=(N0 λz=>by rw[z,n]at h;cases h).trans h
def AqT(h:S a=U (r,o))(g:S b=U (r',o'))(n:r≠r'):NY S b x a=U (r,o):=(N0<|T8 h g n).trans h
end
def Ag9{κ:Type}[DecidableEq κ]{ks:List (κ×D)}{k:κ}(h:k∉ks.map (·.1)):O0 ks k=none:=by unfold O0;rw[BX.mpr λx a q=>h<|AE.mpr #[x,a,Bv q]];rfl
section
variable{Ts:L9}{T:PY}
local macro_rules | `(tactic| walk_at "w") => `(tactic| (intro x h; cases x <;> first | rfl | exact (h rfl).elim))
def Ajr{f:PY->Key×D}(e:∀T,(f T).1=.inl T.key)(h:k∉Ts.map (·.key)):O0 (Ts.map f) (.inl k)=none:=Ag9 λq=>by
  rw[As]at q;let(u9,b,a):=AE.mp q;have:=(e u9).symm.trans a;injection this with this;exact h (AE.mpr #[u9,b,this])
end
class Tl(R:DS)(u:outParam DS):Prop where
 go:∀F E l S,u F E l S->R F E l S
def tl{R u:DS}[h:Tl R u](q:u F E l S):R F E l S:=h.go _ _ _ _ q
def zg{t u:DS}(h:∀R,Tl R u->gA t R F E l S):gA t u F E l S:=h u ⟨λ_ _ _ _ h=>h⟩
section
instance {X:Cx} {E:Ai->Ax->Prop} {M:Md} [h:P0 X M]:P0 (X.Wf E) M:=#[h.p,h.w,h.g,h.b]
instance {X:Cx} {E:Ai->Ax->Prop} {K:Ab} {N4:Hp} [h:Ol X K N4]:Ol (X.Wf E) K N4:=#[h.k,h.h]
instance {X:Cx} {q4:LN} {M:Md} [h:P0 X M]:P0 (X.pinned q4) M:=#[h.p,h.w,h.g,h.b]
instance {X:Cx} {q4:LN} {K:Ab} {N4:Hp} [h:Ol X K N4]:Ol (X.pinned q4) K N4:=#[h.k,h.h]
end
def bX(M:Md)(K:Ab)(N:LK)(q:Ay)(sc:Scope)(φ:Fm)(H:Hp):Cx:=UK (AeX M.P M.w) M.P M.w K M.mg M.base N q sc φ.f φ.cd φ.A φ.o φ.s H φ.E
instance {K:Ab}:Ol (bX M K N q sc φ H) K H:=#[Y,Y]
instance {K:Ab}:P0 (bX M K N q sc φ H) M:=#[Y,Y,Y,Y]
abbrev XD:=Ai->Lc->N9->Prop
abbrev Ana:=LL->Lc->N9->QD->XD->Prop
abbrev AbX:=LL->pM->XD->Lc->N9->Prop
abbrev AkO:=LL->LO->N9->QD->(Ai->N9->Prop)->Prop
section
variable(K:Ab)(T:TN)
def Ak0(F:LL)(S:N9)(H:Hp)(X':XD)(Ef:XF):Prop:=∀cls dx loc S1 H1 J,Px F S H F S1 H1->Rp K T F H1 S1 []->Lo K F S1 H1 loc J->X' cls loc S1->Ef cls dx J H1
def ApR(Ef:XF)(t:Ana):TE:=λJ H Q=>∃F loc S Q' X',Rp K T F H S []/\Lo K F S H loc J/\t F loc S Q' X'/\Nx K F S H T Q' Q/\Ak0 K T F S H X' Ef
def XN(Ef:XF)(t:AbX):TS:=λE J H=>∃F loc S D' X',Rp K T F H S []/\Lo K F S H loc J/\t F D' X' loc S/\Ah9 K T F S H D' E/\Ak0 K T F S H X' Ef
def Ank(p:AkO):Sp:=λvs H Q E=>∃F S ds Q' E',Rp K T F H S []/\Zh K F S H ds vs/\p F ds S Q' E'/\Nx K F S H T Q' Q/\∀cls dx S1 H1,Px F S H F S1 H1->Rp K T F H1 S1 []->E' cls S1->E cls dx H1
end
def Anz(M:Md)(K:Ab)(k:Nat)(C:Ae)(m:Ay)(sp:Sp):Prop:=∃ps,wZ M.P M.w K M.mg M.base k C m ps sp
def ApJ(C:Ae)(f:Ay):Sp:=λvs H Q _=>∃x v,vs=[.ref x,v]/\H x=U (Xm x C none)/\∀d,H d=none->d≠x->Q .OH (upd (upd H d<|.xd [(f,v)]) x<|Xm x C<|U d)
def Anb(M:Md)(K:Ab)(k:Nat)(C:Ae)(f:Ay):Prop:=∃ps,AeZ M.P M.w K M.mg M.base k C ps (ApJ C f)
section
variable{X:Cx}{M:Md}{K:Ab}{T:TN}{N4:Hp}{Ef:XF}{t:DE}{tA:DT}{ta:DA}{s s':AbX}{tx:Ana}{ts:DS}{p:AkO}{pos v7:CQ}{e o c:Expr}{es:L1}{st:Bi}{rest a b:Me}{C:Ae}{m x f:Ay}{k n:Nat}{F:LL}{S S1:N9}{H H1:Hp}{X':XD}
def Ak0.px(p:Px F S H F S1 H1)(h:Ak0 K T F S H X' Ef):Ak0 K T F S1 H1 X' Ef:=λa e b c d J q=>h a e b c d J (p.trans q)
abbrev ApG(t:DS):AbX:=λF D _ loc S=>t F D loc S
def ApB(h:PS X st (Rx K T ts)):PS X st (XN K T Ef<|ApG ts):=h.imp λE J H⟨F,a,S,b,d,R,c,q,k,x⟩=>#[F,a,S,b,R,c,q,k]
def AeM(h:QB X a (Rx K T ts)):QB X a (XN K T Ef<|ApG ts):=h.imp λE J H⟨F,b,S,c,e,R,d,q,k,x⟩=>#[F,b,S,c,R,d,q,k]
def Ze(h:PS X st (XN K T Ef s)):QB X [st] (XN K T Ef s):=O8 h
abbrev An8(t u:AbX):AbX:=λF D X' loc S=>t F #[λloc S=>u F D X' loc S,D.rt,D.bk,D.ct] X' loc S
def Aaf(h1:PS X st (XN K T Ef s))(h2:QB X rest (XN K T Ef s')):QB X (st::rest) (XN K T Ef<|An8 s s'):=(OS h1 h2).imp λE J H⟨F,c,S,h,d,R,i,q,k,x⟩=>
 #[F,c,S,_,d,R,i,q,#[λa e l j p f b g=>#[F,a,e,h,d,f,b,g,k.px p,x.px p],k.rt,k.bk,k.ct],x]
abbrev AnY(c:DT)(t u:AbX):AbX:=λF D X' loc S=>c F loc S λb S1=>Q3 b (t F D X' loc S1) (u F D X' loc S1)
def Am4(hc:PT X c (WZ K T tA))(ha:QB X a (XN K T Ef s))(hb:QB X b (XN K T Ef s')):PS X (.If c a b pos) (XN K T Ef<|AnY tA s s'):=(AdX hc ha hb).imp λE J H⟨F,d,S,j,i,R,e,q,k,x⟩=>
 #[F,d,S,_,R,e,q,λb f l p g h=>by
  cases b with
  |true=>exact#[F,d,f,j,i,g,e.px p,h,k.px p,x.px p]
  |false=>exact#[F,d,f,j,i,g,e.px p,h,k.px p,x.px p]]
abbrev Ain(t:Ana):AbX:=λF D X' loc S=>t F loc S (λ_ S1=>D.nx loc S1) X'
def pG(he:PE X e (ApR K T Ef tx))(hs:swapsWith e none pos.line X.env=pure Am:=by rfl):PS X (.Expr e pos) (XN K T Ef<|Ain tx):=(XU he hs).imp λE J H⟨F,a,S,j,i,R,b,q,k,x⟩=>
 #[F,a,S,_,i,R,b,q,λd f c v p g w h=>k.nx a f c J p g (b.px p) h,x]
abbrev Air(C:Ae)(m:Ay)(p:AkO)(t:DE)(ta:DA):Ana:=λF loc S Q X'=>t F loc S λd S1=>kC (AkP S1 d C m) (ta F loc S1 λds S2=>p F (d::ds) S2 Q λcls S3=>X' cls loc S3)
def pH{pl:Ir Bool}[hM:P0 X M][hK:Ol X K N4](hex:X.ex=[])(u9:Anz M K k C m (Ank K T p))(hr:Oo n X.A)(he:PE (X.exc Ef) o (lf K T t))(ha:PA (X.exc Ef) (e::es) (iB K T ta))(hst:AG (e::es) X.env=(Am,eval e X.env)::AG es X.env:=by rfl)(hpl:(BP pos<|AG es X.env).any (·.1)=Am:=by rfl)(ht:eval (.Call (.Attribute o m v7) (e::es) [] pos) X.env=(do
   let ov <-eval o X.env
   standAt v7.atName
   let(f,first) <-holding [ov] (getMethod ov m pl)
   Ex pos f first (BP pos<|AG (e::es) X.env) (Df pos<|Cp [] X.env)):=by rfl)(hn:k<=n:=by decide):
  PE (X.exc Ef) (.Call (.Attribute o m v7) (e::es) [] pos) (ApR K T Ef<|Air C m p t ta):=by
 let(B,u9):=u9;have y:wZ X.prog X.w X.K X.mg X.base k C m B (Ank K T p):=by rw[hM.p,hM.w,hM.g,hM.b,hK.k];exact u9
 exact (AdL hex y (hr.mono hn) he ha hst hpl ht).imp λJ H Q⟨F,a,S,O,Z,R,j,q,k,x⟩=>
  #[F,a,S,_,R,j,q,λd V H1 v h r w⟨⟨fs,N,L⟩,D⟩=>Aqe (r.one w) (OK N w) L #[F,a,V,_,r,j.px h,D,λI j0 H2 vs c z G y0=>
   #[F,j0,d::I,O,_,z,.cons (w.px c) G,y0,k.px<|h.trans c,λi W P u l s E=>x i W a P u J ((h.trans c).trans l) s (j.px<|(h.trans c).trans l) E]]]
abbrev Aiu(C:Ae)(t:DA):AbX:=λF _ X' loc S=>t F loc S λds S1=>one ds λ_=>X' (.ref C) loc S1
def x_raise{np v8:CQ}[hM:P0 X M][hK:Ol X K N4](u9:Anb M K k C f)(hr:Oo n X.A)(hex:X.ex=[])(hc:X.calm=Af)(hm:M.mg x=U (.ref C))(ha:PA (X.exc Ef) (e::es) (iB K T ta))(hg:Gl X x:=by rfl)(hdb:(x==("__debug__":Ay))=Am:=by decide)(h1:BP v8 (AG (e::es) X.env)=(Am,eval e X.env)::BP v8 (AG es X.env):=by rfl)(hpl:(BP v8<|AG es X.env).any (·.1)=Am:=by rfl)(hn:k+1<=n:=by decide):PS (X.exc Ef) (.Raise (U<|.Call (.Name x np) (e::es) [] v8) none pos) (XN K T Ef<|Aiu C ta):=by
 let(B,u9):=u9;have u:AeZ X.prog X.w X.K X.mg X.base k C B (ApJ C f):=by rw[hM.p,hM.w,hM.g,hM.b,hK.k];exact u9
 exact (Abn u (hr.mono hn) hex hc (by rw[hM.g];exact hm) hg ha hdb h1 hpl).imp λE J H⟨F,l,S,O,j0,R,t,q,k,x⟩=>
  #[F,l,S,_,R,t,q,λN P c L r I D i=>by
   let(d,rfl,i):=Ri i;let(v,rfl,w):=Rj D;refine#[by show 1<=9;decide,λy G=>#[y,v,Y,N1,λh m a=>#[Y,U h,upd c h<|.xd [(f,v)],?_,?_,?_]]]
   ·funext z
    unfold upd;by_cases o:z=y
    ·simp only[o,if_true]
    ·simp only[o,if_false]
   ·rw[NX<|AF a];exact G
   ·have j:c h=none:=by rw[NX a]at m;exact m
    have s:Ob c (upd c h<|.xd [(f,v)]):=(Ob.refl c).upd j;exact x _ _ _ _ _ _ (r.trans<|Px.Qo s.n) (I.same s) (t.px<|r.trans<|Px.Qo s.n) i]
abbrev An9(C:Ae)(t:AbX)(ts:DS):DS:=λF D loc S=>t F D (λcls loc S1=>cls=.ref C/\ts F D loc S1) loc S
def Ah3{ce:Expr}{b₀:Bi}{SG body:Me}{hpos:CQ}[hK:Ol X K N4](hE:Jf K (.ref C) (.ref C)=U Af)(hex:X.ex=[])(hstk:X.stack=X.env::X.outer)(hfrm:X.env.frame=U X.env.locals)(hc:AbZ X ce (.ref C))(hb:∀(Ef:XF)(q4:LN),QB ((X.pinned q4).exc Ef) body<|XN K T Ef s)(hs:∀(q4:LN)(x:Ae)(ox:Cy),QB ((X.pinned q4).SG x ox) (b₀::SG)<|Rx K T ts):PS X (.Try body [.ExceptHandler (U ce) none (b₀::SG) hpos] [] [] pos) (Rx K T<|An9 C s ts):=(AjH hex hstk hfrm hb λq4=>AjA K hK.k hc (λx ox _ _ _ _ _=>hs q4 x ox) Agn).imp λE J H⟨F,b,S,d,R,j,q,k⟩=>
  #[F,b,S,d,_,R,j,q,k,λe n a f m l p g c⟨i,h⟩x o=>#[Af,by rw[i];exact hE,by exact#[F,a,f,d,g,c,h,k.px p]]]
end
section
variable{M:Md}{K:Ab}{T:TN}{k:Nat}{N:LK}{q m f:Ay}{st:Bi}{C:Ae}
def AiF{sp:AkO}{t:AbX}(p n:Nat)(a:∃f,OI K C m q st f)(c:Xj K C)(kt:∀φ H Ef,Rm k N q (NW st) φ->QB ((bX M K N q (NW st) φ H).exc Ef) (Oa st) (XN K T Ef t))(rd:∀F ds S Q E,sp F ds S Q E->t F (AaI Q) (λcls _ S=>E cls S) (YS ds n) S)(S:O3 N (N.take p) (NW st):=by walk_at"s")(b:∀(kV doc pm:Ai)(an:LZ)(cdv ct:Ai)(us:LQ),us.length=(N.take p).length->Cf (Bs m q (OE st) (Oa st) (NW st) .none kV doc pm an cdv ct) #[us,[]]=pure ((N.take p).zip us):=by walk_at"b")(len:∀F ds S Q E,sp F ds S Q E->ds.length=(N.take p).length:=by walk_at"lx")(hn:N.length=n:=by rfl):Anz M K (k+1) C m (Ank K T sp):=by let(f,a):=a;refine#[_,(a.mk b).Alz a.me c S (λv H Q E⟨F,S,ds,e,i,R,g,d,k⟩=>(AJ g).symm.trans (len F ds S e i d)) λw A o s H v Q E y h=>#[_,kt #[f,w,A,o,s,E] H _ #[y,S.nd],?_]];let(F,S,ds,e,i,R,g,d,k,x):=h;rw[Tz hn];exact#[F,_,S,_,_,R,Ai3 g,rd F ds S e i d,#[λl u r J B j D q=>k _ _ _ _ B j .f q,k,λ_ _ _ _ _ _ _ h=>h,λ_ _ _ _ _ _ _ h=>h],λcls z l u r J p j D q=>x cls z u r p j q]
def Aoe(a:∃f,OI K C "__init__" q st f/\Ae3 K C f)(xn:Aaj K C)(xf:BU K (.ref C) f=U none)(kt:∀φ H,Rm k N q (NW st) φ->QB (cN M K N q (NW st) φ H) (Oa st) (ApX K (wL 0) (wL 1) f))(S:O3 N (N.take 2) (NW st):=by walk_at"s")(b:∀(kV doc pm:Ai)(an:LZ)(cdv ct:Ai)(us:LQ),us.length=(N.take 2).length->Cf (Bs "__init__" q (OE st) (Oa st) (NW st) .none kV doc pm an cdv ct) #[us,[]]=pure ((N.take 2).zip us):=by walk_at"b")(hn:N.length=2:=by rfl):Anb M K (k+1) C f:=by let(g,a,O):=a;refine#[_,(a.mk b).Aog O S (λl H Q E⟨x,v,e,_⟩=>by rw[e,Bm,hn];rfl) λj A o s H l Q E m h=>#[_,kt #[g,j,A,o,s,E] H #[m,S.nd],?_]];let(x,v,rfl,n,k):=h;exact#[x,C,Y,n,xn,xf,λd i c=>k d i c]
end
section
variable{X:Cx}
def AgI:LM->Hp->VK->Prop:=λxs H Q=>∃(p:Ae)(v5:LP)(ns:LS),xs=[.ref p]/\Rd H p (.dK v5)/\v5.map (·.1)=ns.map Cb/\0<ns.length/\∀M,M∈ns->Q (.int M) H
def uI(hc:X.calm=Af):QA X (.builtin "min") AgI:=by
 intro D s J H xs us Q I r h;let(p,f,d,rfl,N,j,Z,k):=h;let(u,rfl,W):=vals1 r;cases W;let(z,j0,B,m,S):=QW I.Oj N;have P:=AJ m;have O:f.length=d.length:=by have:=congrArg Dt j;simpa using this
 let(T,a):=S.dictAt;have G:∀i v,(∃k x,B[i]?=U (k,x)/\(OG X.prog X.w).is k v=Af)->i<d.length/\∃t,v=.int (d.getD i 0) t:=λi v⟨g,w,E,n⟩=>by
  have R:i<f.length:=by rw[P];exact(Ah.mp E).1
  let(L,y0,M,u9,C,_):=m.get R;rw[E]at C;obtain⟨rfl,rfl⟩:g=L/\w=M:=by simpa using C
  have F:=Al (show i<d.length by omega);have:=congrArg (λl=>l[i]?) j;rw[Ag,Ag,u9,F]at this;have:g=Cb d[i]:=by simpa using this
  subst this;refine#[Nr,?_];rw[BD,F];exact XI n
 refine call_min_walk<|J0 j0 a ?_;refine#[_,_,_,_,_,_,_,Y,Walks.dictKeys (A:=X.A.in1) (I.ok.hd hc) _ p (A9 a.lt_size) B T,#[#[_,AR _ Y,Y,Y],a.push _],λc y=>?_,Nr,CmpOf.ints_lt (λi=>d.getD i 0) (λi v q=>(G i v q).2),λv h' tk V n=>?_]
 ·rw[GV];rcases AB.mp y with rfl|y
  ·exact C9 _
  ·rw[An.mp y];exact EW a.lt_size
 ·obtain ⟨K,t,rfl⟩:=G _ _ V;refine#[.int _,H,I.kept (λb o e=>n b o ?_<|Aj _ e),#[t,Y],k _ ?_]
  ·rw[An];exact A9<|AO e
  ·rw[BD,Al K];exact Dy _
end
section
variable{X:Cx}{K:Ab}{T:TN}
def Amn:DN:=λds F S Q=>one ds λd=>∃(ks:LY)(ns:LS),Ra S d (.d ks)/\ks.map (·.1)=ns.map Cb/\0<ns.length/\∀M:Int,M∈ns->Q (.f<|.int M) S
def Ae9(hc:X.calm=Af):RD X K T (.builtin "min") Amn:=#[_,uI hc,λF S H Q o q p R m h k=>by
 let(d,rfl,r,j,n,e,l,c):=Ri h;let(v,rfl,w):=Rj m;let(a,rfl,b,i,f):=(R.one w).is (OK n w);exact#[a,b,j,Y,i.rd,(Sv f).trans e,l,λM g=>k.flat R<|c M g]]
def Amp:DN:=λds F S Q=>one ds λd=>∃(ks:LY)(ns:LS),Ra S d (.d ks)/\ks.map (·.1)=ns.map Cb/\ns.length<64/\∀ms:LS,ms.Perm ns->ms.Pairwise (·<=·)->aw F (Afw ms) Q S
def uF(hc:X.calm=Af):RD X K T (.builtin "sorted") Amp:=#[_,gK hc,λF S H Q u y x R q h k=>by
 let(d,rfl,z,m,s,e,l,g):=Ri h;let(v,rfl,w):=Rj q;let(a,rfl,c,j,i):=(R.one w).is (OK s w);exact#[a,c,m,Y,j.rd,(Sv i).trans e,l,λb p f n t=>R.aw (o:=Afw b) t Y (λr=>#[_,N1,pF b]) (g b f n) k]]
def AjK:LM->Hp->VK->Prop:=λxs H Q=>∃a v5,xs=[V.ref a]/\Rd H a (.dK v5)/\Q (.int v5.length) H
def Aat:QA X (.builtin "len") AjK:=by intro b s J H j i Q I r h;let(a,c,rfl,d,q):=h;let(u,rfl,e):=vals1 r;cases e;exact Ahs I d λt g f=>#[.int _,H,f,#[t,Y],q]
def Aml:DN:=λds F S Q=>one ds λd=>∃ks,Ra S d (.d ks)/\Q (.f<|.int ks.length) S
def Ab8:RD X K T (.builtin "len") Aml:=#[_,Aat,λF S H Q j m l R g h k=>by
 let(d,rfl,n,i,c):=Ri h;let(v,rfl,w):=Rj g;let(a,rfl,b,f,e):=(R.one w).is (OK i w);exact#[a,b,Y,f.rd,by rw[<-AJ e];exact k.flat R c]]
def Ahr(neg:Bool):D2:=λd e _ S Q=>∃Hs:QI,Ra S d (.d<|XH Hs)/\Ra S e (.d<|XH Hs)/\(Hs.map (·.1)).Nodup/\Q (.f<|.bl<|!neg) S
def AfO{neg:Bool}:Aah K T (AjO K neg) (Ahr neg):=λF S H Q v d e x y R c f⟨g,i,t,l,h⟩k=>by
 let(a,rfl,o,p,m):=(R.one c).is (OK i c);let(b,rfl,s,q,u):=(R.one f).is (OK t f);let(n,r,j):=AmE l;refine#[cR g,cR g,?_,?_,n,r,?_]
 ·exact#[a,o,Y,p.rd,uX m]
 ·exact#[b,s,Y,q.rd,uX u]
 ·rw[j];have e:(if neg=Af then !true else Af)=!neg:=by cases neg<;>rfl
  rw[e];exact k.flat R h
def Adn{n:Nat}{N4:Hp}[Ol X K N4](hr:Oo n X.A):Yq X K T (Bh .NotEq) (Ahr Af):=#[_,Adr hr.units,AfO]
def Alj:D2:=λd e _ S Q=>∃xs ys:LK,Ra S d (oR xs)/\Ra S e (oR ys)/\Q (.f<|.bl<|!decide (xs=ys)) S
def xS:∀xs ys:LK,DV.eqs (xs.map λz=>.fl<|.str z) (ys.map λz=>.fl<|.str z)=decide (xs=ys)
 |[],[]=>rfl
 |[],_::_=>by simp[DV.eqs]
 |_::_,[]=>by simp[DV.eqs]
 | x::xs,y::ys=>by
   rw[Au,Au,DV.eqs,DV.eq,xS xs ys];show((x==y)&&_)=_;by_cases h:x=y
   ·subst h;simp
   ·simp[h]
def fits_str:∀xs ys:LK,DV.fits (xs.map λz=>.fl<|.str z) (ys.map λz=>.fl<|.str z)=Af/\DV.Rb (xs.map λz=>.fl<|.str z)<=0
 |[],[]=>#[by simp[DV.fits],by rw[B6,DV.Rb];exact Ap _]
 |[],_::_=>#[by simp[DV.fits],by rw[B6,DV.Rb];exact Ap _]
 | x::xs,[]=>#[by simp[DV.fits],by
   have:=(fits_str xs []).2;rw[Au,DV.Rb,DV.dep];exact F0.mpr #[Ap _,this]]
 | x::xs,y::ys=>by
   let(a,b):=fits_str xs ys;rw[Au,Au,DV.fits,DV.fit,DV.Rb,DV.dep,a];exact#[Y,F0.mpr #[Ap _,b]]
def AiX:Aah K T (AgL K Af) Alj:=λF S H Q u d e x y R g i⟨f,c,j,s,h⟩k=>by
 let(a,rfl,p,r,m):=(R.one g).is (OK j g);let(b,rfl,o,q,l):=(R.one i).is (OK s i);let(n,v):=fits_str f c;refine#[.lst<|f.map λz=>.fl<|.str z,.lst<|c.map λz=>.fl<|.str z,?_,?_,?_,nofun,?_,?_]
 ·have:=V1 (t:=f.map V.str) (by rw[Ck];exact Bj.mpr λ_ _=>rfl) (by rw[As];exact m);rw[As]at this;exact#[a,p,Y,r,this]
 ·have:=V1 (t:=c.map V.str) (by rw[Ck];exact Bj.mpr λ_ _=>rfl) (by rw[As];exact l);rw[As]at this;exact#[b,o,Y,q,this]
 ·exact n
 ·rw[DV.dep];omega
 ·rw[DV.eq,xS];exact k.flat R h
def Amb{n:Nat}{N4:Hp}[Ol X K N4](hr:Oo n X.A):Yq X K T (Bh .NotEq) Alj:=#[_,vO hr.units,AiX]
end
section
variable{prog:Bn}{w:Bw}{κ:Type}[DecidableEq κ]{knd:HeapKind prog w κ}{A:BS}{E:Ai->Ax->Prop}{s:Ax}{d a:Ae}{k:κ}{xs:List (κ×Ae×Ai)}
def oX{Q:Option Kt->Ax->Prop}(hu:knd.room A)(hkey:knd.is s.heap k a)(hm:s.heap.DictOfH knd d xs)(ht:¬ ∃(j:Nat)(p:Ae×Ai),xs[j]?=U (k,p))(hQ:∀t,Q none {s with toks:=t}):AZ (A7 prog w) A (DR d<|.ref a) Q E s:=by
 let(o,m,l,f,n,c,g,b,i):=hm;unfold DR
 try with_reducible refine BH ?_
 refine Ad<|knd.pyHash hu hkey ?_;refine Ad<|JE hu hkey f c g b i ?_ ?_
 ·intro e;exact wpAny_pure<|hQ _
 ·intro j p h;exact absurd #[j,p,h] ht
def rF(r:Ai)(hy:(d==CY)=Am):
  MeetsIn prog w (Dx.«dict.pop» #[[.ref d,.ref a,r],[]]) (λA R s=>knd.room A.in1/\knd.is s.heap k a/\s.heap.DictOfH knd d xs/\xs.length<=sizeLine /\
   (∀(j:Nat)(p:Ae×Ai),xs[j]?=U (k,p)->∀h',h'.DictOfH knd d (xs.filter λx=>decide<|x.1≠k)->De d s.heap h'->R (.ok<|.ret p.2) {s with heap:=h',toks:=s.toks+knd.draws k}) /\
   ((¬ ∃(j:Nat)(p:Ae×Ai),xs[j]?=U (k,p))->∀t,R (.ok<|.ret r) {s with toks:=t})):=
 .of_wp λA R s⟨m,b,c,C,h,n⟩=>by
  refine Ad ?_;refine Ad<|wpAny_notOrdered_dict c.typeIs ?_;refine wpAny_pure ?_;let(o,z,D,u,E,q,v,B,F):=id c;refine Ad<|J8 u q ?_;refine Ad<|wpAny_pure ?_;cases y:z.isEmpty with
  |true=>
    have no:¬ ∃(j:Nat)(p:Ae×Ai),xs[j]?=U (k,p):=λ⟨j,p,g⟩=>by
     have e:=KA v;have:=(Ah.mp g).1;rw[Array.isEmpty_iff_size_eq_zero]at y;omega
    refine Ad<|HQ ?_;refine Ad<|wpAny_pure ?_;refine Ad<|Ik hy ?_;exact Ad<|HQ<|wpAny_pure #[r,Y,n no _]
  |false=>
    by_cases l:∃(j:Nat)(p:Ae×Ai),xs[j]?=U (k,p)
    ·refine Ad (oV m b c l C λj p g h' f i=>?_);exact Ad<|Ff<|wpAny_pure #[_,Y,h j p g h' f i]
    ·refine Ad (oX m b c l λt=>?_);refine Ad<|Ik hy ?_;exact Ad (HQ<|wpAny_pure #[r,Y,n l _])
end
def KT.none(r:KT H v5 xs)(k:Ma)(h:PV v5 k=none):¬ ∃(j:Nat)(p:Ae×Ai),xs[j]?=U (k,p):=by
 induction r with
 |nil=>rintro⟨j,p,a⟩;simp at a
 |@cons q x _ _ h1 _ ih=>
   rintro⟨j,p,a⟩;by_cases e:q.1=k
   ·rw[TK e]at h;cases h
   ·rw[Si e]at h;cases j with
    |zero=>injection a with a;exact e (by rw[h1.1,a])
    |succ j=>exact ih h #[j,p,by exact a]
section
variable{X:Cx}{q4:LN}{J:St}{H:Hp}{s:Ax}{A:BS}{E:Ai->Ax->Prop}
def Afk{r:Ai}(hu:A.units+1<CU)(I:Inv X q4 J H s)(e:H a=U (.dT v5))(eb:H b=U (.tup<|k.map kV))(h:∀v,PV v5 k=U v->∀w' s',Inv X q4 J (upd H a<|.dT<|Tc v5 k) s'->RelV v w'->Q w' s')(h0:PV v5 k=none->∀s',Inv X q4 J H s'->Q r s'):AZ (A7 X.prog X.w) A (call (.builtin "dict.pop") [.ref a,.ref b,r]) Q E s:=by
 let(z,i,L,d,g):=Aht I.Oj e;have u:=let#[_,_,_,_,_,_,_,_,q]:=g;q;refine Ea DY g.typeIs G6 (GW _ _ _) (rF r i)
  #[Dm hu,WW I.Oj eb,g,by rw[<-AJ d];exact z,λj p n j0 f G=>?_,λno t=>?_]
 ·cases l:PV v5 k with
  |none=>exact absurd #[j,p,n]<|KT.none d k l
  |some v=>refine h v l _ _ ?_<|KT.at d u l j p n;let(q,D,x,m,y,F,B,_,C):=f;refine TR I (by rw[e];exact Bk) G #[q,m] #[AL (BK ..) z,i,_,(KT.filter d k).keeps λc K o=>?_,q,D,x,m,y,F,B,C];rw[NX<|AhT o e (λz=>nomatch z)];exact o
 ·cases l:PV v5 k with
  |none=>exact h0 l _<|I.tok _
  |some v=>exact absurd (KT.there d k l) no
end
section
variable{X:Cx}{o e f:Expr}{v7 v8:CQ}{td ty tx:TE}
def Ag2(td ty tx:TE):TE:=λJ H Q=>td J H λx H1=>∃a,x=.ref a/\AkA H1 a/\ty J H1 λy H2=>tx J H2 λz H3=>∃v5 k b,H3 a=U (.dT v5)/\y=.ref b/\H3 b=U (.tup<|k.map kV) /\
 (∀v,PV v5 k=U v->Q v (upd H3 a<|.dT<|Tc v5 k))/\(PV v5 k=none->Q z H3)
def Abj(hu:X.A.units+1<CU)(ho:PE X o td)(he:PE X e ty)(hf:PE X f tx)(m:M2 X o "pop" v7 e f v8):PE X (.Call (.Attribute o "pop" v7) [e,f] [] v8) (Ag2 td ty tx):=by
 intro c s J H Q I h;refine GG m.base m.bU m.line EO DY Hj<|O2 (ho c s J H _ I h) λu L⟨x,j0,j,M,a,p,d,C⟩=>?_
 subst p;obtain rfl:u=Bu a:=M;let(K,n,_):=uY j d;refine#[K,n,?_];rw[m.trees];refine CI Y (Dp (Dc (O2 (he c L J j0 _ j C) λW B⟨y,P,E,N,T⟩=>
  Dc (O2 (hf c B J P _ E T) λy0 V⟨z,t,w,O,q,k,b,S,R,F,D,G⟩=>EI ?_))))
 subst R;cases((N));exact Afk hu w S F (λv l u9 r g i=>#[v,_,g,i,D v l]) λl r g=>#[z,t,g,O,G l]
variable{K:Ab}{T:TN}{t u t3:DE}{n:Nat}
def AhJ(d e z:D)(Q:QD)(S:N9):Prop:=∃a r km k,d=.f (.ref a)/\S a=U (r,.m km)/\e=wM k/\(∀x,O0 km k=U x->Q x (NY S a (r,.m<|Yz km k)))/\(O0 km k=none->Q z S)
abbrev Ait(t u v:DE):DE:=λF loc S Q=>t F loc S λd S1=>kC (Ane S1 d) (u F loc S1 λe S2=>v F loc S2 λz S3=>AhJ d e z Q S3)
def Acn(hr:Oo n X.A)(ho:PE X o (lf K T t))(he:PE X e (lf K T u))(hf:PE X f (lf K T t3))(m:M2 X o "pop" v7 e f v8:=by exact#[Y,Y,Y,Y]):PE X (.Call (.Attribute o "pop" v7) [e,f] [] v8) (lf K T<|Ait t u t3):=(Abj (jT hr) ho he hf m).imp λJ H Q⟨F,g,S,Q',R,C,q,k⟩=>
 #[F,g,S,_,R,C,q,λd S1 H1 x l L I⟨V,Z⟩=>by
  let(b,rfl,E):=AcD L I V;refine#[b,Y,E,#[F,g,S1,_,L,C.px l,Z,λe S2 H2 y w y0 w2 q2=>#[F,g,S2,_,y0,C.px<|l.trans w,q2,λz S3 H3 zv s i u9⟨a,r,km,D,ed,G,ee,h1,W⟩=>?_]]];subst ed ee;cases Ou.mp I;let(h,g1,B):=i.st _ r _ G;let(c,rfl,hc):=(i.one<|w2.px s).key (.head _);refine#[h,D,c,g1,Y,hc,λv p=>?_,λp=>?_]
  ·rcases YN B with⟨_,O⟩|⟨M,P,N,j,wv⟩
   ·rw[p]at O;cases O
   ·rw[p]at j;cases j;have j0:=Px.set (r':=r) (o':=.m<|Yz km D) (u:=.dT<|Tc h D) i G;exact k _ _ _ _ (((l.trans w).trans s).trans j0) (i.setM G<|yB B) (wv.px j0)<|h1 M N
  ·rcases YN B with⟨n1,_⟩|⟨M,P,N,j,_⟩
   ·exact k _ _ _ _ ((l.trans w).trans s) i u9<|W n1
   ·rw[p]at j;cases j]
end
def Afu{K:Ab}{F:LL}{S:N9}{H:Hp}{Hs:QI}(fs:∀b∈F,S b≠none)(w:VD K F S H (QU Hs) v):∃p kp,v=.ref p/\H p=U (.dK kp)/\xB K H Hs kp:=by
 obtain⟨p,kp,rfl,n,a|⟨z,_⟩,c⟩:=tR.mp w
 ·exact#[p,kp,Y,a,uX c]
 ·exact absurd n (fs p z)
def TQ(B:Ak):Ak:=if B.Pf="open" then{B with Pf:="broken" }else B
def Uk(Hs:QI)(T:PY):LK:=OT Hs (T.key%110) T.c.toNat
def R8(Hs:QI)(T:PY):PY:={T with sh:=OM T.sh (Uk Hs T)}
def bM(Hs:QI)(T:PY):Bool:=Aax T.sh (Uk Hs T)
def O9(Hs:QI)(Ts:L9)(B:Ak):Ak:=if(Ts.any λT=>decide (T.key=B.key)&&bM Hs T)=Af then TQ B else B
def SU(w:QJ)(Hs:QI):QJ:={w with Hs:=Hs,Ts:=w.Ts.map<|R8 Hs,Ms:=w.Ms.map (O9 Hs w.Ts)}
def XZ(w:QJ)(Hs:QI)(j:Nat):QJ:={w with Hs:=Hs,Ts:=(w.Ts.take j).map (R8 Hs)++w.Ts.drop j,Ms:=w.Ms.map (O9 Hs<|w.Ts.take j)}
def iZ(A:WR->Ae)(k:Int)(q:Ae):WR->Ae
 |.Uq m=>if m=k then q else A (.Uq m)
 |x=>A x
section
variable{C:WC}{i:Nat}{A:WR->Ae}{w:QJ}{S:N9}{T:PY}{B:Ak}{Hs:QI}{q:Ae}{n:Nat}
def bJ:(TQ B).key=B.key/\(TQ B).kind=B.kind/\(TQ B).Pb=B.Pb/\(TQ B).RY=B.RY/\(TQ B).N3=B.N3/\(TQ B).QF=B.QF/\(TQ B).ahead=B.ahead:=by unfold TQ;split<;>exact#[Y,Y,Y,Y,Y,Y,Y]
def Ak4:TQ (TQ B)=TQ B:=by
 unfold TQ;split
 ·rw[Aq (show¬ ("broken":Ay)="open" by decide +kernel)]
 ·rfl
def vY{Ts:L9}:(O9 Hs Ts B).key=B.key:=by
 unfold O9;split
 ·exact bJ.1
 ·rfl
def Aec:O9 Hs [] B=B:=Aq AI
def yY{Ts:L9}:O9 Hs (Ts++[T]) B=if(decide (T.key=B.key)&&bM Hs T)=Af then TQ (O9 Hs Ts B)else O9 Hs Ts B:=by
 unfold O9;rw[List.any_append];cases(Ts.any λT=>decide (T.key=B.key)&&bM Hs T)with
 |true=>rw[Ki,Az Y,Ak4];split<;>rfl
 |false=>rw[C3,List.any_nil,JT];rfl
def Abv(h:w.Hs=Hs):XZ w Hs 0=w:=by subst h;unfold XZ;rw[EA,B6,JA,JH];have:w.Ms.map (O9 w.Hs [])=w.Ms:=(A4 λB _=>Aec).trans (Eg _);rw[this]
def sG(w:QJ):XZ w Hs w.Ts.length=SU w Hs:=by unfold XZ SU;rw[BI,E8,Br]
def Ox.Aj0(wd:Ox C i A w S)(tok:US w.Ts)(hT:T∈w.Ts)(sh':L4)(hq:S q=none):
  Ox C i (iZ A T.key q) {w with Ts:=P4 w.Ts {T with sh:=sh'}} (NY (NY S q (.wd i<|.Uq T.key,.d<|Uo sh')) (A<|.Oz T.key) (.wd i<|.Oz T.key,bD C.T q {T with sh:=sh'})):=by
 intro x o e;have c:=wd.jB tok hT;have m:Sm C A w (.Oz T.key)=U (bD C.T (A<|.Uq T.key) T):=by show(Pt w T.key).map _=_;rw[T9 tok hT];rfl
 have g:q≠A (.Oz T.key):=λz=>by rw[<-z,hq]at c;cases c
 have a:∀y,Sm C A w y=U o->iZ A T.key q y=A y->y≠.Oz T.key->NY (NY S q (.wd i<|.Uq T.key,.d<|Uo sh')) (A<|.Oz T.key) (.wd i<|.Oz T.key,bD C.T q {T with sh:=sh'}) (iZ A T.key q y)=U (.wd i y,o):=λy b j h=>by
  have z:=wd y o b;rw[j,N0<|wd.ne b m h,N0 λu=>by rw[u,hq]at z;cases z];exact z
 cases x with
 |decl=>exact a .decl (by rw[<-e];exact(congrArg (λl=>U<|O.d l)<|kD w.Ts _ λk=>.f<|.ref<|A<|.Oz k).symm) Y nofun
 |Oz k=>
   have e:(Pt {w with Ts:=P4 w.Ts {T with sh:=sh'}} k).map (bD C.T (if k=T.key then q else A (.Uq k)))=U o:=e;rw[Vw tok hT]at e;by_cases z:k=T.key
   ·subst z;rw[Az Y,Az Y]at e;injection e with e;subst e;exact NZ
   ·rw[Aq z,Aq z]at e;exact a (.Oz k) e Y (λu=>z<|by injection u)
 |Uq k=>
   have e:(Pt {w with Ts:=P4 w.Ts {T with sh:=sh'}} k).map (λT=>O.d<|Uo T.sh)=U o:=e;rw[Vw tok hT]at e;by_cases z:k=T.key
   ·subst z;rw[Az Y]at e;injection e with e;subst e;show NY _ _ _ (if T.key=T.key then q else _)=_;rw[Az Y,N0 g,NZ]
   ·rw[Aq z]at e;exact a (.Uq k) e (Aq z) nofun
 |_=>exact a _ e Y nofun
def Fr.Aj0(wd:Ox C i A w S)(tok:US w.Ts)(hT:T∈w.Ts){y z:Rl×O}(hq:S q=none):Fr i S (NY (NY S q y) (A<|.Oz T.key) z):=λa r o e n=>by
 have b:=wd.jB tok hT;rw[N0 (λu=>by rw[u,b]at e;cases e;exact n _ Y),N0 λu=>by rw[u,hq]at e;cases e];exact e
def Ox.Aq1(wd:Ox C i A w S)(hB:w.Ms[n]?=U B)(z:Ay):Ox C i A {w with Ms:=w.Ms.set n {B with Pf:=z}} (NY S (A<|.ask n) (.wd i<|.ask n,Aal C.A (A<|.N3 n) {B with Pf:=z})):=by
 have a:=(Ah.mp hB).1;refine wd.upd (.ask n) (ov:=Aal C.A (A<|.N3 n) B) (by show w.Ms[n]?.map _=_;rw[hB];rfl) (by show((w.Ms.set n _)[n]?).map _=_;rw[Bd a];rfl) λx h=>?_
 cases x with
 |begun=>show U (O.l<|(Ba (w.Ms.set n _).length).map _)=_;rw[Cs];rfl
 |ask m=>show((w.Ms.set n _)[m]?).map _=(w.Ms[m]?).map _;rw[BB λu=>h (by rw[u])]
 |N3 m=>
   show((w.Ms.set n _)[m]?).map _=(w.Ms[m]?).map _;by_cases u:n=m
   ·subst u;rw[Bd a,hB];rfl
   ·rw[BB u]
 |_=>rfl
def set_same{α:Type}{l:List α}{x:α}(h:l[n]?=U x):l.set n x=l:=by
 apply ET;intro j;by_cases e:n=j
 ·subst e;rw[Bd (Ah.mp h).1,h]
 ·rw[BB e]
def map_set{α:Type}{f:α->α}{l:List α}{j:Nat}{x:α}(h:l[j]?=U x):((l.take j).map f++l.drop j).set j (f x)=(l.take<|j+1).map f++l.drop (j+1):=by
 have a:=(Ah.mp h).1;have e:=(Ah.mp h).2;have d:l.drop j=x::l.drop (j+1):=by rw[EL a,e]
 have b:((l.take j).map f).length=j:=by rw[Ac,Bm];omega
 rw[take_snoc h,AU,CF,d,List.set_append_right _ _ Nr,b,Dg];rfl
def nJ{α:Type}{f:α->α}{l:List α}{j:Nat}{x:α}(h:l[j]?=U x):((l.take j).map f++l.drop j)[j]?=U x:=by
 have b:=(Ah.mp h).1;have a:((l.take j).map f).length=j:=by rw[Ac,Bm];omega
 rw[BC Nr,a,Dg,Ja];exact h
def Aea(tok:US w.Ts)(ok:Qd Hs)(h5:∀T∈w.Ts,T.c.toNat<=5)(j:Nat):US (XZ w Hs j).Ts:=by
 have a:∀T∈(XZ w Hs j).Ts,(∃u9∈w.Ts,T=R8 Hs u9)\/T∈w.Ts:=λT b=>by
  rcases AY.mp b with h|h
  ·let(u9,d,rfl):=AE.mp h;exact .inl #[u9,List.mem_of_mem_take d,Y]
  ·exact .inr<|List.mem_of_mem_drop h
 refine#[?_,λT b=>?_,λT b=>?_,λT b=>?_]
 ·have:(XZ w Hs j).Ts.map (λT=>(.inl T.key:Key))=w.Ts.map λT=>(.inl T.key):=by
   show((w.Ts.take j).map _++w.Ts.drop j).map _=_;rw[AU,As]
   conv=>rhs;rw[<-B5 j w.Ts,AU]
   rfl
  rw[this];exact tok.nd
 ·rcases a T b with⟨u9,d,rfl⟩|h
  ·exact tok.key u9 d
  ·exact tok.key T h
 ·rcases a T b with⟨u9,d,rfl⟩|h
  ·show(OM _ _).length<=5;rw[X0];have:=UW Hs (u9.key%110) u9.c.toNat;have:=h5 u9 d;unfold Uk;omega
  ·exact tok.bU T h
 ·rcases a T b with⟨u9,d,rfl⟩|h
  ·show((OM _ _).map _).Nodup;rw[QR];exact Xq ok _ _
  ·exact tok.one T h
def AgU{Ts:L9}{T':PY}(tok:US Ts){j:Nat}(h:Ts[j]?=U T)(e:T'.key=T.key):P4 Ts T'=Ts.set j T':=by
 unfold P4;apply ET;intro m;rw[Ag];by_cases z:j=m
 ·subst z;rw[Bd (Ah.mp h).1,h];show U (if(Cb T.key:Key)=.inl T'.key then T' else T)=_;rw[Az<|by rw[e]]
 ·rw[BB z];cases q:Ts[m]? with
  |none=>rfl
  |some u9=>
    show U (if(Cb u9.key:Key)=.inl T'.key then T' else u9)=_;rw[Aq];intro y;have a:j<(Ts.map λT=>(.inl T.key:Key)).length:=by rw[Ac];exact(Ah.mp h).1
    exact z ((Jk a tok.nd).mp (by rw[Ag,Ag,h,q];show U (Cb T.key:Key)=U (.inl u9.key);rw[y,e]))
end
inductive L7 where|top|rows|asks|Qa|Um|QE|counts|ask (n:Nat)
structure M7 where
 O6:Int
 Ls:Mq
 Ms:Mx
 QL:L6
 OZ:L6
 mY:Mh
 cnt:MA
def AaW:L7->Nat
 |.top=>1|.rows=>2|.asks=>3|.Qa=>4|.Um=>5|.QE=>6|.counts=>7|.ask n=>8+n
def AiQ{x y:L7}(n:x≠y):AaW x≠AaW y:=λz=>by
 cases x<;>cases y<;>first|exact n rfl|(simp only[AaW]at z;omega)|(simp only[AaW]at z;exact n<|congrArg _ Nr)
def fY(B:Ak):LY:=[(.inr "read",.f<|.bl<|decide<|B.kind="read"),(.inr "need",.f<|.int B.QF),(.inr "heard",.l<|PL B.N3),(.inr "state",Pa B.RY),(.inr "word",.f<|.str B.Pf),(.inr "asker",.f<|.str B.Pb),(.inr "key",.f<|.int B.key)]
def Afb(e:Int×Int×Int×Int):D:=.t [.f<|.int e.2.1,.f<|.int e.2.2.1,.f<|.int e.2.2.2]
def AbI(B:L7->Ae):LY:=[(.inr "rows",.f<|.ref<|B .rows),(.inr "asks",.f<|.ref<|B .asks),(.inr "shelves",.f<|.ref<|B .Qa),(.inr "minds",.f<|.ref<|B .Um),(.inr "homes",.f<|.ref<|B .QE),(.inr "counts",.f<|.ref<|B .counts)]
def ZS(B:L7->Ae)(M:M7):L7->Option O
 |.top=>U<|.d<|AbI B
 |.rows=>U<|.l (.f (.int M.O6)::M.Ls.map Aee)
 |.asks=>U<|.l<|(Ba M.Ms.length).map λn=>.f<|.ref<|B<|.ask n
 |.Qa=>U<|.m<|M.OZ.map λe=>(Sx e.1,Pa e.2)
 |.Um=>U<|.m<|M.QL.map λe=>(Sx e.1,Pa e.2)
 |.QE=>U<|.d<|M.mY.map λe=>(.inl e.1,.l<|PL e.2)
 |.counts=>U<|.d<|M.cnt.map λe=>(.inl e.1,Afb e)
 |.ask n=>M.Ms[n]?.map λC=>.d (fY C)
def Py(B:L7->Ae)(M:M7)(S:N9):Prop:=∀x o,ZS B M x=U o->S (B x)=U (.own<|AaW x,o)
section
variable{B:L7->Ae}{M M':M7}{S S':N9}{C:WC}{i:Nat}{x y:L7}{o o' ov:O}
def Py.fr(h:Py B M S)(f:Fr i S S'):Py B M S':=λx o e=>f _ _ _ (h x o e) λy z=>by cases z
def Py.ne(h:Py B M S)(e:ZS B M x=U o)(e':ZS B M y=U o')(n:x≠y):B x≠B y:=T8 (h x o e) (h y o' e') λz=>by
 injection z with z;exact AiQ n z
def Py.upd(h:Py B M S)(y:L7)(e0:ZS B M y=U ov)(e1:ZS B M' y=U o)(e:∀x,x≠y->ZS B M' x=ZS B M x):Py B M' (NY S (B y) (.own<|AaW y,o)):=λx b a=>by
 by_cases z:x=y
 ·subst z;rw[e1]at a;cases a;exact NZ
 ·rw[e x z]at a;exact(N0<|h.ne a e0 z).trans (h x b a)
def Py.io(h:Py B M S)(x:L7)(e:ZS B M x=U o:=by rfl):Ra S (.f<|.ref<|B x) o:=.inr #[_,_,Y,h x _ e]
def Py.new{x:Rl×O}(h:Py B M S)(n:S a=none):Py B M (NY S a x):=λy o e=>(N0 λz=>by have:=h y o e;rw[z,n]at this;cases this).trans (h y o e)
def Py.o0{x:Rl×O}(h:Py B M S)(ha:S a=U (.own 0,o)):Py B M (NY S a x):=λy o e=>(N0<|T8 (h y o e) ha (λz=>by injection z with z;cases y<;>simp only[AaW]at z<;>omega)).trans (h y o e)
def Py.AqX{x:Rl×O}(h:Py B M S){n:Nat}(ha:S a=U (.own n,o))(hn:∀x o,ZS B M x=U o->AaW x≠n):Py B M (NY S a x):=λy o e=>(N0<|T8 (h y o e) ha (λz=>by injection z with z;exact hn y o e z)).trans (h y o e)
def Py.AnQ(ur:Py B M S)(y:L7){o:O}(e:ZS B M y=U o):AaW y≠8+M.Ms.length:=λz=>by
 cases y with
 |ask m=>
   have e:M.Ms[m]?.map (λC=>O.d _)=U o:=e;have:m=M.Ms.length:=by simp only[AaW]at z;omega
   rw[this,BQ<|Ap _]at e;cases e
 |_=>simp only[AaW]at z;omega
end
def Apj(M:M7)(OQ:Ay)(ask:LW)(Pn:Ay)(key:Int)(E:O7):M7:={M with O6:=M.O6+1,Ls:=M.Ls++[#[M.O6+1,OQ,ask,Pn,key,E]]}
def Qc(w:QJ)(OZ:L6):M7:=#[w.O6,w.Ls,w.Ms,w.QL,OZ,w.Ts.map RB,w.Ts.map UU]
section
variable{B:L7->Ae}{M:M7}{S:N9}{N:N9->Prop}{F:LL}{Q:QD}
local macro_rules | `(tactic| walk_at "w") => `(tactic| (intro x h; cases x <;> first | rfl | exact (h rfl).elim))
def Ap1{e:Ay×Int}{E:O7}(ur:Py B M S)(hl:M.QL.length<90000)(k:∀S1,Py B {M with QL:=P2 (λe=>Sx e.1) M.QL (e,E)} S1->Uh S S1->(∀a,a≠B .Um->S1 a=S a)->N S1):AeT F (Pa E) (.f<|.ref<|B .Um) (wM<|Sx e) N S:=Anv (ur _ _ Y) (by rw[Ac];omega) (by
  rw[bA];exact k _ (ur.upd _ Y Y<|by walk_at"w") (Uh.set<|ur _ _ Y) λa n=>N0 n)
def Ap2{e:Ay×Int}{E:O7}(ur:Py B M S)(hl:M.OZ.length<90000)(k:∀S1,Py B {M with OZ:=P2 (λe=>Sx e.1) M.OZ (e,E)} S1->Uh S S1->N S1):AeT F (Pa E) (.f<|.ref<|B .Qa) (wM<|Sx e) N S:=Anv (ur _ _ Y) (by rw[Ac];omega) (by
  rw[bA];exact k _ (ur.upd _ Y Y<|by walk_at"w")<|Uh.set<|ur _ _ Y)
def Am6{z:Ay}{n:Int}(ur:Py B M S)(k:Q (Pa<|OF M.QL z n) S):AlP (.f<|.ref<|B .Um) (wM<|Sx (z,n)) (.d []) Q S:=Akv (ur.io _) (by rw[show D.d []=Pa []from Y,pA];exact k)
def Aku{z:Ay}{n:Int}(ur:Py B M S)(k:Q (Pa<|OF M.OZ z n) S):AlP (.f<|.ref<|B .Qa) (wM<|Sx (z,n)) (.d []) Q S:=Akv (ur.io _) (by rw[show D.d []=Pa []from Y,pA];exact k)
def Ara{j:Nat}{m:Int}{L:Lt}(hm:m=1+(j:Int))(ur:Py B M S)(h:M.Ls[j]?=U L)(hl:M.Ls.length<90000)(k:∀S1,Py B {M with Ls:=M.Ls.eraseIdx j} S1->Uh S S1->Q (Aee L) S1):Ac5 (.f<|.ref<|B .rows) [.f<|.int m] F S Q:=by
 subst hm;have a:=(Ah.mp h).1;refine#[_,_,_,_,j+1,Aee L,Y,Y,ur .rows _ Y,Nr,Nr,?_,?_,?_]
 ·have:=Aj7 (i:=j+1) (n:=(D.f (.int M.O6)::M.Ls.map Aee).length) (by rw[AM,Ac];omega);rw[show(1+(j:Int))=((j+1:Nat):Int) by omega];exact this
 ·rw[HB,Ag,h];rfl
 ·refine k _ ?_ (Uh.set<|ur .rows _ Y);refine ur.upd (M':={M with Ls:=M.Ls.eraseIdx j}) .rows Y ?_ (by walk_at"w");show U (O.l (_::(M.Ls.eraseIdx j).map Aee))=_;rw[Aa1,CD]
def AaG(l:L6)(e:Ay×Int):L6:=l.filter λx=>decide (Sx x.1≠Sx e)
def Aq9{e:Ay×Int}(ur:Py B M S)(k:∀d S1,Py B {M with OZ:=AaG M.OZ e} S1->Uh S S1->Q d S1):AhJ (.f<|.ref<|B .Qa) (wM<|Sx e) (.f .OH) Q S:=by
 have c:Yz (M.OZ.map λx=>(Sx x.1,Pa x.2)) _=(AaG _ e).map λx=>(Sx x.1,Pa x.2):=lW _ _
 refine#[_,_,_,Sx e,Y,ur _ _ Y,Y,λx _=>?_,λa=>?_]
 ·rw[c];exact k _ _ (ur.upd _ Y Y<|by walk_at"w")<|Uh.set<|ur _ _ Y
 ·have:AaG _ e=M.OZ:=Ce.mpr λx b=>Ao λz=>by
   rw[Qb,E4,BX]at a;exact a x b<|Ao z
  have q:=k (.f .OH) S;rw[this]at q;exact q ur Uh.refl
def Py.uC(ur:Py B M S){n:Nat}{C:Ak}(h:M.Ms[n]?=U C):S (B<|.ask n)=U (.own<|8+n,.d<|fY C):=ur _ _ (by show M.Ms[n]?.map _=_;rw[h];rfl)
def Py.AgV(ur:Py B M S){n:Nat}{C C':Ak}(h:M.Ms[n]?=U C):Py B {M with Ms:=M.Ms.set n C'} (NY S (B<|.ask n) (.own<|8+n,.d<|fY C')):=by
 have b:=(Ah.mp h).1;refine ur.upd _ (by show M.Ms[n]?.map _=_;rw[h];rfl) (by show((M.Ms.set n C')[n]?).map _=_;rw[Bd b];rfl) λx a=>?_
 cases x with
 |asks=>show U _=_;rw[Cs];rfl
 |ask m=>show((M.Ms.set n C')[m]?).map _=(M.Ms[m]?).map _;rw[BB λz=>a (by rw[z])]
 |_=>rfl
def Ah4(B:L7->Ae)(n:Nat)(a:Ae):L7->Ae
 |.ask m=>if m=n then a else B (.ask m)
 |x=>B x
def Py.AnP(ur:Py B M S){C:Ak}{a:Ae}(ha:S a=U (.own<|8+M.Ms.length,.d<|fY C)):
  Py (Ah4 B M.Ms.length a) {M with Ms:=M.Ms++[C]} (NY S (B .asks) (.own 3,.l<|(Ba M.Ms.length).map (λn=>D.f<|.ref<|B<|.ask n)++[.f<|.ref a])):=by
 intro x o e;have i:=ur .asks _ Y;have k:=T8 ha i (by intro z;injection z with z;simp only[AaW]at z;omega);have b:∀y,ZS B M y=U o->Ah4 B M.Ms.length a y=B y->y≠.asks->NY S _ (.own 3,.l<|(Ba M.Ms.length).map (λn=>D.f<|.ref<|B<|.ask n)++[.f<|.ref a]) (Ah4 B _ a y)=U _:=λy c h p=>by
  rw[h,N0<|ur.ne c (show ZS B M _=U _ from Y) p];exact ur y o c
 cases x with
 |asks=>
   show NY _ _ _ (B _)=_;rw[NZ];refine congrArg (λl=>U (Rl.own 3,O.l l)) ?_ |>.trans (congrArg U (congrArg _ (AS e)));rw[AN,BF,Gx,AU]
   congr 1
   ·refine A4 λm g=>?_
    have:=A9<|Ci.mp g;show _=D.f (.ref (if m=M.Ms.length then a else B _));rw[Aq this]
   ·show[D.f _]=[D.f<|.ref (if M.Ms.length=M.Ms.length then a else _)];rw[Az Y]
 |ask m=>
   have e:((M.Ms++[C])[m]?).map (λC=>O.d _)=U o:=e;by_cases z:m=M.Ms.length
   ·subst z;rw[BC<|Ap _,Dg]at e;injection e with e;subst e;show NY _ _ _ (if M.Ms.length=M.Ms.length then a else _)=_;rw[Az Y,N0 k];exact ha
   ·refine b _ ?_ (Aq z) nofun;rw[<-e];show M.Ms[m]?.map _=((M.Ms++[C])[m]?).map _;by_cases j:m<M.Ms.length
    ·rw[Ct j]
    ·rw[BQ Nr,BQ (by rw[AN,BF];omega)]
 |_=>exact b _ e Y nofun
def Aq7{C:Ak}{a:Ae}(ur:Py B M S)(ha:S a=U (.own<|8+M.Ms.length,.d<|fY C))(hl:M.Ms.length<90000)(k:∀S1,Py (Ah4 B M.Ms.length a) {M with Ms:=M.Ms++[C]} S1->Uh S S1->Q (.f .OH) S1):AlZ (.f<|.ref<|B .asks) [.f<|.ref a] F S Q:=#[_,_,_,_,Y,Y,ur _ _ Y,by rw[Ac,By];omega,k _ (ur.AnP ha)<|Uh.set<|ur _ _ Y]
def Akq{mY:Mh}(nd:(mY.map (·.1)).Nodup){e:Int×LK}(h:e∈mY):O0 (mY.map λe=>((.inl e.1:Key),D.l<|PL e.2)) (.inl e.1)=U (.l<|PL e.2):=by
 rw[Qb];induction mY with
 |nil=>cases h
 |cons x xs ih=>
   rw[Au,Bb]at nd;rcases AB.mp h with rfl|h
   ·rw[Bc,Ao Y];rfl
   ·rw[Bc,Ar λz=>nd.1 (by injection z with z;rw[z];exact AH h)];exact ih nd.2 h
def AeG{Ts:L9}{T:PY}(tok:US Ts)(hT:T∈Ts):O0 ((Ts.map UU).map λe=>((.inl e.1:Key),Afb e)) (.inl T.key)=U (Afb<|UU T):=by rw[As];show O0 (Ts.map λT=>((.inl T.key:Key),Afb _)) _=_;rw[Qb];have:=T9 (w:=#[[],Ts,[],[],0,[],[],[]]) tok hT;unfold Pt at this;rw[show(Ts.find? λx=>decide _)=Ts.find? λx=>decide _ from congrArg (λf=>Ts.find? f) (funext λx=>D3.mpr #[λe=>by injection e,λe=>by rw[e]]),this];rfl
def AkI(mY:Mh)(k:Int)(l:LK):Mh:=P2 (λe=>(.inl e.1:Key)) mY (k,l)
def Ap0{k:Int}{l:LK}(ur:Py B M S)(nF:B .QE∉F)(hl:M.mY.length<90000)(kk:∀S1,Py B {M with mY:=AkI M.mY k l} S1->Uh S S1->N S1):AeT F (.l<|PL l) (.f<|.ref<|B .QE) (.f<|.int k) N S:=pJ (ur _ _ Y) nF (by rw[Ac];omega) (tY (by
  rw[T5 _ (k,l)];exact kk _ (ur.upd _ Y Y<|by walk_at"w")<|Uh.set<|ur _ _ Y))
def Aq8{Ts:L9}{T:PY}(ur:Py B M S)(hM:M.cnt=Ts.map UU)(hk:T.key∉Ts.map (·.key))(hl:Ts.length<90000)(k:∀S1,Py B {M with cnt:=(Ts++[T]).map UU} S1->Uh S S1->N S1):AeT [] (Afb<|UU T) (.f<|.ref<|B .counts) (.f<|.int T.key) N S:=pJ (ur _ _ Y) nofun (by rw[Ac,hM,Ac];omega) (tY (by
  rw[hM,As,rY<|Ajr (λ_=>rfl) hk];refine k _ (ur.upd _ Y ?_<|by walk_at"w")<|Uh.set<|ur _ _ Y;show U _=_;rw[As,AU];rfl))
end
def AlB(M:M7)(n:Nat)(C:Ak)(z:Ay)(E:O7):M7:={M with Ms:=M.Ms.set n (Po C z E).1,QL:=if(Po C z E).2=Af/\C.kind="read" then P2 (λe=>Sx e.1) M.QL ((C.Pb,C.key),Ow (OF M.QL C.Pb C.key) (Po C z E).1.RY)else M.QL}
def AfV(m r a sh mi ho co:Ae):L7->Ae
 |.top=>m|.rows=>r|.asks=>a|.Qa=>sh|.Um=>mi|.QE=>ho|.counts=>co|.ask _=>m
def Ahf{S:N9}{m r a sh mi ho co:Ae}(h1:S m=U (.own 1,.d<|AbI<|AfV m r a sh mi ho co))(h2:S r=U (.own 2,.l [.f<|.int 0]))(h3:S a=U (.own 3,.l []))(h4:S sh=U (.own 4,.m []))(h5:S mi=U (.own 5,.m []))(h7:S ho=U (.own 6,.d []))(h8:S co=U (.own 7,.d [])):Py (AfV m r a sh mi ho co) #[0,[],[],[],[],[],[]] S:=λx o e=>by
 cases x with
 |ask n=>cases e
 |top=>cases e;exact h1
 |rows=>cases e;exact h2
 |asks=>cases e;exact h3
 |Qa=>cases e;exact h4
 |Um=>cases e;exact h5
 |QE=>cases e;exact h7
 |counts=>cases e;exact h8
def Ak1{C:Ak}{l:LK}:putD (fY C) (.inr "heard") (.l<|PL l)=fY {C with N3:=l}:=rfl
def Ak2{C:Ak}{z:Ay}:putD (fY C) (.inr "word") (.f<|.str z)=fY {C with Pf:=z}:=rfl
def zK(l:L4)(D:LK)(z:Ay):P6 (OM l D) z=if z∈D then P6 l z else[]:=by
 unfold OM;induction D with
 |nil=>rfl
 |cons y D ih=>
   unfold P6 at ih ⊢;rw[Au,Bc];by_cases e:y=z
   ·subst e;rw[Ao Y,Az<|.head _];rfl
   ·rw[Ar λq=>e (by injection q)];rw[ih];by_cases h:z∈D
    ·rw[Az h,Az<|.tail _ h]
    ·rw[Aq h,Aq λq=>(AB.mp q).elim (λq=>e q.symm) h]
def Aj2{l:L4}{z:Ay}(h:z∉l.map (·.1)):P6 l z=[]:=by unfold P6;rw[BX.mpr λx a q=>h<|AE.mpr #[x,a,by have:=Bv q;injection this]];rfl
def AfQ(l:L6)(z y:Ay)(k j:Int):OF (AaG l (z,k)) y j=if z=y/\k=j then[]else OF l y j:=by
 unfold OF AaG;rw[List.find?_filter];by_cases h:z=y/\k=j
 ·obtain ⟨rfl,rfl⟩:=h;rw[Az #[Y,Y],BX.mpr (λx _ q=>by
   have q:=Bv q;exact(Bv q.1) (Bv q.2))];rfl
 ·rw[Aq h]
  congr 2
  refine congrArg (λf=>l.find? f) (funext λx=>?_);refine D3.mpr #[λq=>Bv q.2,λq=>#[Ao λu=>h ?_,Ao q]];have:=u.symm.trans q;injection this with a1 a2;injection a2 with a2 _;injection a1 with a1;injection a2 with a2;exact#[a1,a2]
structure W7(qs:LK)(s:Nat)(w:QJ)(OZ:L6):Prop extends WB Am qs s w where
 aw:w.away=[]
 hn:w.hints=[]
 lh:∀L∈w.Ls,L.OQ≠"hint"
 ss:∀T∈w.Ts,∀z,P6 T.sh z=OF OZ z T.key
 l6:OZ.length<=s+20
 dl:∀T∈w.Ts,T.sh.map (·.1)=Uk w.Hs T
 cc:∀T∈w.Ts,T.c=(T.c.toNat:Int)/\T.c.toNat<=5
structure K7(w w':QJ):Prop where
 hs:w'.Hs=w.Hs
 sk:w'.Ts.map RB=w.Ts.map RB
 ct:w'.Ts.map UU=w.Ts.map UU
 ms:w'.Ms.length=w.Ms.length
section
variable{w w':QJ}{T:PY}{L:Lt}{z v:Ay}{qs:LK}{s s':Nat}{OZ she':L6}{Hs:QI}
def K7.refl:K7 w w:=#[Y,Y,Y,Y]
def WB.AqU{hm:Bool}(ok:WB hm qs s w)(h:s<=s')(h9:s'<=1100):WB hm qs s' w:=
 {ok with
  mw:=λB a=>{ok.mw B a with hl:=AL (ok.mw B a).hl h,al:=AL (ok.mw B a).al h}
  l1:=by have:=ok.l1;omega
  l2:=by have:=ok.l2;omega
  l3:=by have:=ok.l3;omega
  l4:=by have:=ok.l4;omega
  s9:=h9}
def W7.le(ok:W7 qs s w OZ)(h:s<=s')(h9:s'<=1100):W7 qs s' w OZ:={ok with toWB:=ok.toWB.AqU h h9,l6:=by have:=ok.l6;omega}
def W7.nI{OQ:Ay}(ok:W7 qs s w OZ)(nl:OQ≠"hint")(e1:w'.Hs=w.Hs)(e2:w'.Ts=w.Ts)(e3:w'.away=w.away)(e4:w'.hints=w.hints)(o:WB Am qs (s+1) w')(h:s<1100)(hl:∀L∈w'.Ls,L∈w.Ls\/L.OQ=OQ):W7 qs (s+1) w' OZ:=
 {toWB:=o
  aw:=by rw[e3];exact ok.aw
  hn:=by rw[e4];exact ok.hn
  lh:=λL a=>(hl L a).elim (ok.lh L) λq=>by rw[q];exact nl
  ss:=by rw[e2];exact ok.ss
  l6:=by have:=ok.l6;omega
  dl:=by rw[e1,e2];exact ok.dl
  cc:=by rw[e2];exact ok.cc}
def W7.ApA(ok:W7 qs s w OZ)(hT:T∈w.Ts)(hz:z∈qs)(h:s<1100):W7 qs (s+1) (Ahc w T z v) OZ:=ok.nI Np Y Y Y Y (ok.toWB.ApA hT hz h) h λL a=>(AY.mp a).imp id λq=>(VS q).1
def W7.Apg(ok:W7 qs s w OZ)(hT:T∈w.Ts)(hz:z∈qs)(h:s<1100):W7 qs (s+1) (AjU w T z) OZ:=ok.nI Np Y Y Y Y (ok.toWB.Apg hT hz h) h λL a=>(AY.mp a).imp id λq=>(VS q).1
def Aho{T T':PY}(h:UU T'=UU T):Uk Hs T'=Uk Hs T:=by have a:T'.key=T.key:=congrArg (·.1) h;have b:T'.c=T.c:=congrArg (·.2.1) h;unfold Uk;rw[a,b]
def Aj4(w:QJ)(OZ:L6)(T:PY)(L:Lt):L6:=if L.OQ="put"/\L.Pn∈T.sh.map (·.1)then P2 (λe=>Sx e.1) OZ ((L.Pn,L.key),Ow (OF OZ L.Pn L.key) L.Xk)else OZ
def W7.Aqj(ok:W7 qs s w OZ)(hL:L∈w.Ls)(hT:T∈w.Ts)(eK:L.key=T.key)(hlab:L.OQ="put")(h:s<1100):W7 qs (s+1) (Xo (Pm w L.num) T L) (Aj4 w OZ T L)/\K7 w (Xo (Pm w L.num) T L):=by
 have o:=ok.toWB.AnR hL (.st T (.inl hlab) hT eK) h;have d:∀M∈(Pm w L.num).Ls,M∈w.Ls:=λM b=>(Bp.mp b).1
 unfold Aj4;by_cases g:L.Pn∈T.sh.map (·.1)
 ·have n:=oN (T':=QG T L.Pn L.Xk) ok.tok hT YQ;have p:(P4 _<|QG T L.Pn L.Xk).map UU=w.Ts.map UU:=eP ok.tok hT TZ cX;have i:Xo (Pm w L.num) T L=Zt {Pm w L.num with Ts:=P4 w.Ts (QG T L.Pn L.Xk)} "ack" L.ask L.Pn L.key []:=by
   unfold Xo;rw[Az g,Aq (show¬ L.Pn∈(Pm w _).away by show¬ L.Pn∈w.away;rw[ok.aw];nofun),Az hlab];rfl
  rw[i]at o ⊢;rw[Az #[hlab,g]];have f:∀T'∈P4 _ (QG T L.Pn L.Xk),∃u9∈w.Ts,UU T'=UU u9/\T'.sh.map _=u9.sh.map _:=λT' a=>by
   rcases V3 a with rfl|⟨a,_⟩
   ·exact#[T,hT,cX,congrArg GY<|YQ]
   ·exact#[T',a,Y,Y]
  refine#[{toWB:=o,aw:=ok.aw,hn:=ok.hn,lh:=λM b=>?_,ss:=λT' a y=>?_,l6:=AL (Tj ..) (by have:=ok.l6;omega),dl:=λT' a=>?_,cc:=λT' a=>?_},Y,n,p,Y]
  ·rcases AY.mp b with b|b
   ·exact ok.lh M<|d M b
   ·cases An.mp b;exact(by decide +kernel:("ack":Ay)≠"hint")
  ·rw[eK,aT];rcases V3 a with rfl|⟨a,l⟩
   ·rw[Aeo g,TZ,ok.ss T hT];by_cases e:L.Pn=y
    ·rw[Az e,Az #[e,Y]]
    ·rw[Aq e,Aq λq=>e q.1];exact ok.ss T hT y
   ·rw[TZ]at l;rw[Aq λq=>l q.2.symm];exact ok.ss T' a y
  ·let(u9,k,j,m):=f T' a;rw[m,ok.dl u9 k];exact(Aho j).symm
  ·let(u9,k,j,m):=f T' a;have:T'.c=u9.c:=congrArg (·.2.1) j;rw[this];exact ok.cc u9 k
 ·have i:Xo (Pm w L.num) T L=Pm w L.num:=by
   unfold Xo;rw[Aq g]
  rw[i]at o ⊢;rw[Aq λq=>g q.2];exact#[ok.nI (OQ:="put") Np Y Y Y Y o h λM b=>.inl<|d M b,Y,Y,Y,Y]
def W7.Aqi(ok:W7 qs s w OZ)(hL:L∈w.Ls)(hT:T∈w.Ts)(eK:L.key=T.key)(hlab:L.OQ="query")(h:s<1100):W7 qs (s+1) (pR (Pm w L.num) T L) OZ/\K7 w (pR (Pm w L.num) T L):=by
 have o:=ok.toWB.AnR hL (.qu T hlab hT eK) h;have b:∀M∈(Pm w L.num).Ls,M∈w.Ls:=λM a=>(Bp.mp a).1
 unfold pR at o ⊢;split at o
 ·rename_i q;rw[Az q];exact#[ok.nI (OQ:="told") Np Y Y Y Y o h λM a=>(AY.mp a).imp (b M) λq=>by cases An.mp q;rfl,Y,Y,Y,Y]
 ·rename_i q;rw[Aq q];exact#[ok.nI (OQ:="told") Np Y Y Y Y o h λM a=>.inl<|b M a,Y,Y,Y,Y]
def W7.TQ(ok:W7 qs s w OZ)(hL:L∈w.Ls){n:Nat}{B:Ak}(hlab:L.OQ="ack"\/L.OQ="told")(hA:L.ask=U ((n:Int)+1))(hB:w.Ms[n]?=U B)(h:s<1100):W7 qs (s+1) (Ab5 (Pm w L.num) n B L) OZ/\K7 w (Ab5 (Pm w L.num) n B L):=by have o:=ok.toWB.AnR hL (.an n B hlab hA hB) h;refine#[ok.nI (OQ:="told") Np Y Y Y Y o h λM a=>.inl (Bp.mp a).1,Y,Y,Y,?_];show(w.Ms.set n _).length=_;rw[Cs]
def Aeb{Ts:L9}{B:Ak}:(O9 Hs Ts B).kind=B.kind/\(O9 Hs Ts B).Pb=B.Pb/\(O9 Hs Ts B).RY=B.RY/\(O9 Hs Ts B).N3=B.N3/\(O9 Hs Ts B).QF=B.QF/\(O9 Hs Ts B).ahead=B.ahead/\((O9 Hs Ts B).Pf="open"->B.Pf="open"):=by
 unfold O9;split
 ·refine#[bJ.2.1,bJ.2.2.1,bJ.2.2.2.1,bJ.2.2.2.2.1,bJ.2.2.2.2.2.1,bJ.2.2.2.2.2.2,λh=>?_];unfold L2.TQ at h;split at h
  ·assumption
  ·exact h
 ·exact#[Y,Y,Y,Y,Y,Y,id]
def W7.Aq0(ok:W7 qs s w OZ)(Oj:Qd Hs)(hsp:∀T∈w.Ts,∀z,P6 (R8 Hs T).sh z=OF she' z T.key)(hll:she'.length<=OZ.length):W7 qs s (SU w Hs) she':=by
 have tok:=Aea ok.tok Oj (λT h=>(ok.cc T h).2) w.Ts.length;rw[sG]at tok;have d:∀T∈(SU w Hs).Ts,∃u9∈w.Ts,T=R8 Hs u9:=λT a=>by
  let(u9,b,rfl):=AE.mp a;exact#[u9,b,Y]
 have p:∀B∈(SU w Hs).Ms,∃C∈w.Ms,B=O9 Hs _ C:=λB f=>by
  let(C,c,rfl):=AE.mp f;exact#[C,c,Y]
 exact {ok with
  tok:=tok
  Oj:=Oj
  st:=λT a e F=>by
   let(u9,b,rfl):=d T a;let(y,_,rfl):=AE.mp F;exact ok.tojE.AbH b y
  sm:=λB f=>by
   let(C,c,rfl):=p B f;rw[Aeb.2.2.1];exact ok.sm C c
  lt:=λM g=>(ok.lt M g).imp (λ⟨u,T,a,e,_⟩=>#[u,R8 Hs T,AH a,e,nofun]) id
  la:=λM g A=>by
   let(n,B,D,v,E):=ok.la M g A;exact#[n,O9 Hs _ B,D,by show(w.Ms.map _)[n]?=_;rw[Ag,v];rfl,by rw[Aeb.1];exact E]
  mw:=λB f=>by
   let(C,c,rfl):=p B f;have q:=ok.mw C c;let(i,m,r,l,x,j,t):=Aeb;refine#[by rw[i];exact q.kd,by rw[l];exact q.hl,λo=>by rw[l,x];exact q.op<|t o,?_,by rw[m];exact q.as,λk=>?_,by rw[j];exact q.al]
   ·let(T,a,e):=q.ky;exact#[R8 Hs T,AH a,by rw[vY];exact e]
   ·rw[i]at k;rw[m,r,j];exact q.wr k
  hi:=by show∀e∈w.hints,_;rw[ok.hn];nofun
  tw:=λT a=>by
   let(u9,b,rfl):=d T a;exact ok.tw u9 b
  l2:=by show(w.Ms.map _).length<=_;rw[Ac];exact ok.l2
  ss:=λT a z=>by
   let(u9,b,rfl):=d T a;exact hsp u9 b z
  l6:=AL hll ok.l6
  dl:=λT a=>by
   let(u9,b,rfl):=d T a;show(OM _ _).map _=_;rw[QR];rfl
  cc:=λT a=>by
   let(u9,b,rfl):=d T a;exact ok.cc u9 b}
end
def rV:∀{a b:LK},a.Nodup->(∀z∈a,z∈b)->b.length<=a.length->a.Perm b
 | [],b,_,_,h=>by
   cases b with
   |nil=>exact .nil
   |cons _ _=>exact absurd h<|Nat.not_succ_le_zero _
 | x::a,b,nd,s,h=>by
   rw[Bb]at nd;have c:=s x<|.head _;have l:=Cj c;rw[AM]at h;exact(K4.cons x<|rV nd.2 (λz d=>(Ds λe:z=x=>nd.1 (by rw[<-e];exact d)).mpr (s z<|.tail _ d)) Nr).trans (Iy c).symm
def Ail{T:PY}{D xs ys:LK}(n1:(T.sh.map (·.1)).Nodup)(n2:D.Nodup)(p1:xs.Perm (T.sh.map (·.1)))(p2:ys.Perm D)(s1:F9 xs=Af)(s2:F9 ys=Af):(!decide (xs=ys))=Aax T.sh D:=by
 have e:xs=ys↔(T.sh.map (·.1)).Perm D:=#[λh=>p1.symm.trans<|h▸p2,λh=>AbD (eS xs s1) (eS ys s2)<|(p1.trans h).trans p2.symm];unfold Aax Al3
 congr 1
 rw[BN,decide_eq_true_iff,e,Be,Ac,Ac,Ck];constructor
 ·intro h;refine#[Ek.mpr (by have:=h.length_eq;rw[Ac]at this;exact this),Bj.mpr λx b=>B1.mpr #[.inr x.1,AH<|h.mem_iff.mp<|AH b,Ao Y]]
 ·rintro⟨c,d⟩;have c:=Ek.mp c;have a:∀z∈T.sh.map (·.1),z∈D:=λz i=>by
   let(x,b,rfl):=AE.mp i;let(y,f,e):=B1.mp<|Bj.mp d x b;let(u,g,rfl):=AE.mp f;have e:=Bv e;injection e with e;rw[<-e];exact g
  exact rV n1 a (by rw[Ac];omega)
def qD:∀(F A:O7),((A++F).map (·.1)).Nodup->F.foldl (λA f=>Rz A f.1<|Yh (look A f.1) f.2) A=A++F
 |[],A,_=>by rw[Br];rfl
 | f::F,A,nd=>by
   have b:f.1∉A.map (·.1):=λh=>by
    rw[AU,CC]at nd;exact nd.2.2 f.1 h f.1 (by rw[Au];exact .head _) Y
   have e:Rz A f.1 (Yh (look A f.1) f.2)=A++[f]:=by
    have l:look A f.1=none:=by unfold look;rw[BX.mpr λx a q=>b (by rw[<-Bv q];exact AH (f:=(·.1)) a)];rfl
    rw[l];unfold Rz;rw[Aq]
    ·rfl
    ·intro h;let(x,a,q):=B1.mp h;exact b (by rw[<-Bv q];exact AH (f:=(·.1)) a)
   rw[Gz,e,qD F (A++[f]) (by rw[CF];exact nd),CF];rfl
def join_nil{E:O7}(nd:(E.map (·.1)).Nodup):Ow [] E=E:=qD E [] nd
def Aks(n:Int):Ay:=A8 "w"++A8 (toString n)
def AeJ:∀i:Fin 17,(A8 "w").length+(A8<|toString ((i.val:Nat):Int)).length<=10:=Np
def Akt:∀i:Fin 17,(Aks ((i.val:Nat):Int)).length<=10:=Np
def AiD:∀i:Fin 17,(A8 "h").length+(A8<|toString ((i.val:Nat):Int)).length<=10:=Np
def Akj{Hs:QI}(ok:QT Hs)(p:Ay×LS->Bool):QT (Hs.filter p):=#[ok.nd.sublist<|FE _ FJ,λe a=>ok.AbU e (Bp.mp a).1,λe a=>ok.one e (Bp.mp a).1,λe a=>ok.inc e (Bp.mp a).1,λe a=>ok.ne e (Bp.mp a).1,λe a f b=>ok.Afl e (Bp.mp a).1 f (Bp.mp b).1]
section
variable{w:QJ}{T:PY}{z:Ay}{qs:LK}{s:Nat}{OZ:L6}{Hs:QI}{Ts:L9}{E:O7}
def W7.nil(Oj:Qd Hs)(hq:qs.length<=900):W7 qs 0 #[Hs,[],[],[],0,[],[],[]] []:=
 {UQ:=#[.nil,nofun],tok:=#[.nil,nofun,nofun,nofun],Oj:=Oj,nh:=.nil,sl:=nofun,sh:=nofun,st:=nofun,sm:=nofun,se:=nofun,q9:=hq,lt:=nofun,la:=nofun,ak:=nofun,mw:=nofun,hi:=nofun,tw:=nofun,l1:=Ap _,l2:=Ap _,l3:=Ap _,l4:=Ap _,s9:=Nq,aw:=rfl,hn:=rfl,lh:=nofun,ss:=nofun,l6:=Bo _,dl:=nofun,cc:=nofun}
def W7.Aqx(ok:W7 qs 0 #[Hs,Ts,[],[],0,[],[],[]] OZ)(hk:T.key∉Ts.map (·.key))(k0:0<=T.key/\T.key<256)(c:T.c=(T.c.toNat:Int)/\T.c.toNat<=5)(hw:1<=T.r/\1<=T.w)(e:T.sh=OM [] (Uk Hs T))(hn:∀z,OF OZ z T.key=[]):W7 qs 0 #[Hs,Ts++[T],[],[],0,[],[],[]] OZ:=by
 have k:=UW Hs (T.key%110) T.c.toNat;have d:∀{P:PY->Prop},(∀u9∈Ts,P u9)->P T->∀u9∈Ts++[T],P u9:=λl j u9 f=>(AY.mp f).elim (l u9) λq=>by cases An.mp q;exact j
 have h:∀z,P6 T.sh z=[]:=λz=>by rw[e,zK];split<;>rfl
 exact {ok with
  tok:=#[by
   rw[AU,CC];refine#[ok.tok.nd,Nu,λa i b m q=>?_];let(u9,f,rfl):=AE.mp i;cases An.mp m;injection q with q;exact hk (by rw[<-q];exact AH f),d ok.tok.key k0,d ok.tok.bU (by rw[e,X0];unfold Uk;omega),d ok.tok.one (by rw[e,QR];exact Xq ok.Oj _ _)]
  st:=d ok.st λx g=>by
   rw[e]at g;let(y,_,rfl):=AE.mp g;exact OJ.nil
  lt:=nofun
  mw:=nofun
  hi:=nofun
  tw:=d ok.tw hw
  ss:=d ok.ss λz=>by rw[h,hn]
  dl:=d ok.dl (by rw[e,QR])
  cc:=d ok.cc c}
def W7.lay(ok:W7 qs s w OZ)(hT:T∈w.Ts)(hz:z∈T.sh.map (·.1))(gE:OJ qs E)(e0:P6 T.sh z=[])(hl:OZ.length<s+20):W7 qs s {w with Ts:=P4 w.Ts (QG T z E)} (P2 (λe=>Sx e.1) OZ ((z,T.key),E)):=by
 have o:=ok.toWB.lay (z:=z) hT gE;have d:∀b∈P4 _ (QG T z E),∃u9∈w.Ts,UU b=UU u9/\b.sh.map _=u9.sh.map _:=λb a=>by
  rcases V3 a with rfl|⟨a,_⟩
  ·exact#[T,hT,cX,congrArg GY<|YQ]
  ·exact#[b,a,Y,Y]
 exact {ok with
  toWB:=o
  ss:=λb a y=>by
   rw[aT];rcases V3 a with rfl|⟨a,h⟩
   ·rw[Aeo hz,TZ,e0,join_nil gE.1];by_cases e:z=y
    ·rw[Az e,Az #[e,Y]]
    ·rw[Aq e,Aq λq=>e q.1];exact ok.ss T hT y
   ·rw[TZ]at h;rw[Aq λq=>h q.2.symm];exact ok.ss b a y
  l6:=AL (Tj ..) hl
  dl:=λb a=>by
   let(u9,g,f,i):=d b a;rw[i,ok.dl u9 g];exact(Aho f).symm
  cc:=λb a=>by
   let(u9,g,f,i):=d b a;have:b.c=u9.c:=congrArg (·.2.1) f;rw[this];exact ok.cc u9 g}
def Agz(hk:T.key∉Ts.map (·.key)):AkI (Ts.map RB) T.key (T.sh.map (·.1))=(Ts++[T]).map RB:=by
 unfold AkI P2;rw[Aq]
 ·rw[AU];rfl
 ·intro h;let(x,a,q):=B1.mp h;let(u9,b,rfl):=AE.mp a;have q:=Bv q;injection q with q;exact hk (by rw[<-show u9.key=T.key from q];exact AH b)
end
section
variable{X:Cx}{K:Ab}{T:TN}
def Ao8:DN:=λds _ S Q=>∃i j:Int,ds=[.f<|.int i,.f<|.int j]/\Q (.f<|.int (if j>i then j else i)) S
def Aii(hc:X.calm=Af):RD X K T (.builtin "max") Ao8:=#[_,Aau hc,λF S H Q d g f R c⟨i,j,e,h⟩k=>by
 subst e;let(v,u,rfl,a,b):=Ahb c;cases Ou.mp a;cases Ou.mp b;exact#[i,j,Y,k.flat R h]]
end
end L2
namespace K47
open PySem PySem.Spec PyProof.Rows L2
seal L2.PA L2.PE L2.PS L2.QB L2.PT L2.PI L2.PG L2.AbQ
local macro_rules | `(tactic| walk_at "r") => `(tactic| repeat first | refine ⟨_, rfl, ?_⟩ | refine ⟨_, _, rfl, rfl, ?_⟩ | refine And.intro (by first | rfl | decide | omega | (exact ⟨by decide, by decide⟩) | (exact B8 ⟨by decide, by decide⟩) | (exact B8 ⟨by omega, by omega⟩) | (exact Ed ⟨by decide, by decide⟩) | (exact Ed ⟨by omega, by omega⟩) | (exact OV (by decide)) | (exact ⟨by omega, by omega⟩)) ?_)
local macro_rules | `(tactic| walk_at "s") => `(tactic| exact ⟨rfl, rfl, rfl, by decide +kernel, rfl, by decide +kernel, by decide +kernel⟩)
local macro_rules | `(tactic| walk_at "l") => `(tactic| (rintro _ _ _ _ ⟨⟩ <;> (subst_vars; rfl)))
local macro_rules | `(tactic| walk_at "lx") => `(tactic| (rintro _ _ _ _ _ ⟨⟩ <;> (subst_vars; rfl)))
local macro_rules | `(tactic|symm) => `(tactic| try dsimp only [tW, Zn, AgZ, YS, vK, lC])
local macro_rules | `(tactic| walk_at "q") => `(tactic| ((repeat first | refine tl ?_ | dsimp only [tW, Zn, AgZ, YS, vK, lC, Wg]); (try refine zg fun R _ => ?_)))
local macro_rules | `(tactic| walk_at "e") => `(tactic| (repeat first | refine tl ?_ | dsimp only [tW, Zn, AgZ, YS, vK, lC, Wg]))
local macro_rules | `(tactic| walk_at "j") => `(tactic| try dsimp only [lC, YS, vK, gA, pW, dB, pY, lV, oQ, yN, Aio, bN, Aca, Wg, Ab9, pX, Ahp, Afh, jM, AkE, dC, An2])
local macro_rules | `(tactic| walk_at "w") => `(tactic| (intro x h; cases x <;> first | rfl | exact (h rfl).elim))
structure Zs where
 K:Ab
 w:WC
 o:Ae
 d:Ae
 x_NoHouse:Ae
def top(i:Nat):Bi:=PySem.Challenge.pw_threeroofs_k47_other_houses.main.body.getD i (.Pass #[0,0,0,0])
@[elab_as_elim] theorem len0{α:Type}{P:List α->Prop}(us:List α)(e:us.length=0)(h:P []):P us:=by
 cases us with
 |nil=>exact h
 |cons a t=>cases e
@[elab_as_elim] theorem AoY{α:Type}{n:Nat}{P:List α->Prop}(us:List α)(e:us.length=n+1)(h:∀a t,t.length=n->P (a::t)):P us:=by
 cases us with
 |nil=>cases e
 |cons a t=>exact h a t (Nat.succ.inj e)
local macro_rules | `(tactic| walk_at "b") => `(tactic| (intro _ _ _ _ _ _ us hl; (repeat (refine AoY us hl fun _ us hl => ?_)); exact len0 us hl rfl))
abbrev wC:Bi:=top 22
abbrev aI:Bi:=top 23
abbrev kT:Bi:=top 24
abbrev eL:Bi:=top 25
abbrev Aeh:Bi:=top 27
abbrev eM:Bi:=top 26
abbrev AgQ:Bi:=top 12
abbrev wB:Bi:=top 14
abbrev Aei:Bi:=top 13
abbrev Abz:Bi:=top 15
abbrev aC:Bi:=Ov (top 50) 0
abbrev dU:Bi:=Ov (top 50) 1
abbrev sN:Bi:=Ov (top 51) 1
abbrev Vc:Bi:=Ov (top 51) 2
abbrev Y4:Bi:=Ov (top 51) 5
abbrev sO:Bi:=Ov (top 51) 3
abbrev oJ:Bi:=top 64
abbrev Y5:Bi:=Ov (top 65) 6
abbrev Xa:Bi:=Ov (top 65) 7
abbrev iL:Bi:=Ov (top 62) 2
abbrev aD:Bi:=Ov (top 62) 3
abbrev iM:Bi:=Ov (top 62) 4
abbrev sP:Bi:=Ov (top 62) 5
abbrev aG:Bi:=Ov (top 65) 12
abbrev iR:Bi:=Ov (top 65) 27
abbrev nU:Bi:=Ov (top 36) 0
abbrev nW:Bi:=Ov (top 37) 3
abbrev W9:Bi:=Ov (top 37) 1
abbrev iJ:Bi:=Ov (top 37) 4
abbrev wA:Bi:=Ov (top 36) 4
abbrev Abx:Bi:=top 28
abbrev Aby:Bi:=top 29
abbrev sS:Bi:=top 54
abbrev wI:Bi:=top 55
abbrev kR:Bi:=top 56
abbrev oK:Bi:=top 57
abbrev eI:Bi:=top 59
abbrev oF:Bi:=top 60
abbrev RA:Bi:=Ov (top 65) 17
abbrev Wd:Bi:=Ov (top 65) 16
abbrev iQ:Bi:=Ov (top 65) 11
abbrev UP:Bi:=Ov (top 65) 10
abbrev iS:Bi:=Ov (top 65) 8
abbrev sM:Bi:=Ov (top 36) 2
abbrev nV:Bi:=Ov (top 36) 1
abbrev Wb:Bi:=Ov (top 36) 6
abbrev UO:Bi:=Ov (top 36) 7
abbrev Sz:Bi:=Ov (top 37) 2
abbrev nZ:Bi:=Ov (top 65) 9
abbrev eE:Bi:=Ov (top 65) 24
abbrev iO:Bi:=Ov (top 65) 25
abbrev Wc:Bi:=Ov (top 65) 18
abbrev Vd:Bi:=Ov (top 65) 19
abbrev iN:Bi:=Ov (top 65) 15
abbrev iP:Bi:=Ov (top 65) 2
abbrev dZ:Bi:=Ov (top 65) 5
abbrev nX:Bi:=Ov (top 65) 22
abbrev oA:Bi:=top 40
abbrev iX:Bi:=top 41
abbrev dW:Bi:=Ov (top 62) 0
abbrev dX:Bi:=Ov (top 62) 1
abbrev aE:Bi:=Ov (top 65) 1
abbrev iK:Bi:=Ov (top 51) 0
abbrev dR:Bi:=Ov (top 43) 0
abbrev iI:Bi:=Ov (top 37) 0
abbrev dY:Bi:=Ov (top 65) 0
abbrev aB:Bi:=Ov (top 36) 5
abbrev Y2:Bi:=Ov (top 37) 5
abbrev aH:Bi:=Ov (top 65) 28
abbrev sQ:Bi:=Ov (top 65) 29
abbrev Y3:Bi:=Ov (top 3) 0
abbrev nY:Bi:=Ov (top 65) 20
abbrev wD:Bi:=top 67
abbrev sU:Bi:=top 68
abbrev Zp:Bi:=top 69
abbrev oH:Bi:=top 70
abbrev iW:Bi:=top 71
abbrev wG:Bi:=top 72
abbrev wH:Bi:=top 74
abbrev wF:Bi:=top 76
abbrev aJ:Bi:=top 73
abbrev sT:Bi:=top 75
abbrev iU:Bi:=top 77
abbrev sW:Bi:=top 78
abbrev sV:Bi:=top 79
abbrev iV:Bi:=top 80
abbrev Zq:Bi:=top 81
abbrev Zr:Bi:=top 82
abbrev zD:Bi:=top 83
abbrev rB:CQ:=#[225,30,225,74]
abbrev rE:Ay:=(DF "order" (NW oK) 0 0 .none).qual++"<lambda>"
abbrev RV(t:Ae)(H:Hp):Prop:=Tab t rB rE H
abbrev rA:CQ:=#[235,33,235,63]
abbrev rD:Ay:=(DF "dealt" (NW oF) 0 0 .none).qual++"<lambda>"
abbrev UT(t:Ae)(H:Hp):Prop:=Tab t rA rD H
abbrev tz(Z:Zs):TN:=[(Z.o,rB,rE),(Z.d,rA,rD)]
abbrev hF(M:Md)(Z:Zs)(k:Nat)(x:Ay)(p:Zs->DP):Prop:=Hf M Z.K k x (cn Z.K (tz Z)<|p Z)
abbrev hM(M:Md)(Z:Zs)(k:Nat)(C:Ae)(x:Ay)(p:Zs->DP):Prop:=Hm M Z.K k C x (cn Z.K (tz Z)<|p Z)
abbrev AkF(M:Md)(Z:Zs)(k:Nat)(C:Ae)(x:Ay)(p:Zs->AkO):Prop:=Anz M Z.K k C x (Ank Z.K (tz Z)<|p Z)
abbrev hK(M:Md)(Z:Zs)(k:Nat)(x:Ay)(C:Ae)(p:Zs->DP):Prop:=Hk M Z.K k x C (cn Z.K (tz Z)<|p Z)
def upTo(x:V)(m:Int):Bool:=match x with
 |.str z=>decide (1<=z.length)&&decide ((z.length:Int)<=m)
 |_=>Am
def oZ{x:V}{m:Int}(h:∀z,x≠.str z):upTo x m=Am:=by
 cases x with
 |str z=>exact absurd Y<|h z
 |_=>rfl
def Ano:V->Bool
 |.int m=>decide (0<=m)&&decide (m<256)
 |_=>Am
def ge1(c a:Nat):(!decide (([c]:L8)<[a]))=decide (a<=c):=by
 have:(([c])<[a])↔c<a:=by simp[List.cons_lt_cons_iff]
 rw[BN];simp[this]
def AiT{L:Ay}{a:Nat}(c:Nat)(hL:L.cps.toList=[a]):(!decide ((⟨(zTo [c])⟩:Ay).cps.toList<L.cps.toList))=decide (a<=c):=by rw[hL];exact ge1 c a
def AfK{L:Ay}{a:Nat}(c:Nat)(hL:L.cps.toList=[a]):(!decide (L.cps.toList<(⟨(zTo [c])⟩:Ay).cps.toList))=decide (c<=a):=by rw[hL];exact ge1 a c
def AiA:("!":Ay).cps.toList=[33]:=Np
def Akg:("~":Ay).cps.toList=[126]:=Np
def seen(c:Nat):Bool:=decide (33<=c)&&decide (c<=126)
def AhF(z:Ay):Bool:=(decide (1<=z.length)&&decide (z.length<=40))&&z.cps.toList.all seen
def AfB:V->Bool
 |.str z=>AhF z
 |_=>Am
def ApY{K:Ab}{H:Hp}(i:Int):Thing K H (.int i) "int":=#[.int i,Nq]
def Apv{K:Ab}{H:Hp}(i:Ay):Thing K H (.str i) "str":=#[.str i,Nq]
def GoodC(a b c:Int):Prop:=1<=a/\a<=5/\1<=b/\b<=a/\1<=c/\c<=a
def kU{S:N9}{a b:Ae}{x:Rl×O}(h:S b≠none):NY S a x b≠none:=by
 unfold NY;split
 ·nofun
 ·exact h
def Akf(z:Ay):Ay:=(Dk z<|A8 ".").getD 2 z
def fM{z:Ay}(h:gF z=Af)(hl:z.length<=1000):∃a b,Dk z (A8 ".")=[a,b,Akf z]/\aS (Akf z)=Af/\(Akf z).length<=1000:=by
 unfold Akf;have d:=lB z 46;have f:=xF d;have g:=AcW d hl;rw[h,Be]at f
 match e:Dk z ⟨(zTo [46])⟩,f.1 with
 |[a,b,c],_=>
   rw[e]at f g;refine#[a,b,Y,?_,?_]
   ·have:=f.2;simp only[CM,Be]at this;exact this.2.2.1
   ·exact g c Nu
def Am3:∀i:Fin 17,AhF (Aks ((i.val:Nat):Int))=Af:=Np
inductive Zz(Z:Zs)(vs:LM)(H:Hp)(Q:VK)(Xe:XK):Prop
 |mk (x n) (_:vs=[x]) (_:Thing Z.K H x n) (_:Q (.bl<|n == "int") H)
inductive Tv(Z:Zs)(vs:LM)(H:Hp)(Q:VK)(Xe:XK):Prop
 |mk (x n m) (_:vs=[x,.int m]) (_:Thing Z.K H x n) (_:(∀z,x=.str z->z.length<=sizeLine)) (_:Q (.bl<|upTo x m) H)
inductive eW(Z:Zs)(vs:LM)(H:Hp)(Q:VK)(Xe:XK):Prop
 |mk (x n) (_:vs=[x]) (_:Thing Z.K H x n) (_:(∀z,x=.str z->z.length<=1000)) (_:∀H',Ob H H'->Q (.bl<|AfC x) H')
inductive Zw(Z:Zs)(vs:LM)(H:Hp)(Q:VK)(Xe:XK):Prop
 |mk (x n) (_:vs=[x]) (_:Thing Z.K H x n) (_:(∀z,x=.str z->z.length<=1000)) (_:∀H',Ob H H'->Q (.bl<|Afy x) H')
inductive kY(Z:Zs)(vs:LM)(H:Hp)(Q:VK)(Xe:XK):Prop
 |mk (x n) (_:vs=[x]) (_:Thing Z.K H x n) (_:Q (.bl<|Ano x) H)
inductive Zy(Z:Zs)(vs:LM)(H:Hp)(Q:VK)(Xe:XK):Prop
 |mk (x n) (_:vs=[x]) (_:Thing Z.K H x n) (_:(∀z,x=.str z->z.length<=1000)) (_:∀H',Ob H H'->Q (.bl<|AfB x) H')
inductive tF(Z:Zs)(F:LL)(ds:LO)(S:N9)(Q:QD):Prop
 |mk (a b) (_:ds=[RW a,RW b]) (_:Q (RW<|yE a b) S)
inductive Zv(Z:Zs)(F:LL)(ds:LO)(S:N9)(Q:QD):Prop
 |mk (E n) (_:ds=[Pa E,.f<|.str n]) (_:Q (.f<|.int<|Yw E n) S)
inductive kZ(Z:Zs)(F:LL)(ds:LO)(S:N9)(Q:QD):Prop
 |mk (E1 E2) (_:ds=[Pa E1,Pa E2]) (_:F=[]) (_:E1.length<=1000) (_:E2.length<=1000) (_:Q (Pa<|Ow E1 E2) S)
inductive fB(Z:Zs)(F:LL)(ds:LO)(S:N9)(Q:QD):Prop
 |mk (E n v) (_:ds=[Pa E,.f<|.str n,.f<|.str v]) (_:F=[]) (_:E.length<=1000) (_:Q (Pa<|Xi E n v) S)
inductive To(Z:Zs)(F:LL)(ds:LO)(S:N9)(Q:QD):Prop
 |mk (a r n OQ ask Pn key E S') (_:ds=[.f<|.ref a,.f<|.int n,.f<|.str OQ,.f<|oI ask,.f<|.str Pn,.f<|.int key,Pa E]) (_:S=NY S' a (r,.i Z.w.L [])) (_:Q (.f .OH) (NY S' a (r,.i Z.w.L [("number",.f<|.int n),("label",.f<|.str OQ),("ask",.f<|oI ask),("house",.f<|.str Pn),("key",.f<|.int key),("state",Pa E)])))
inductive Ut(Z:Zs)(F:LL)(ds:LO)(S:N9)(Q:QD):Prop
 |mk (L) (_:ds=[tU Z.w.L L]) (_:Q (AkJ L) S)
inductive X2(Z:Zs)(F:LL)(ds:LO)(S:N9)(Q:QD):Prop
 |mk (i A w OQ ask Pn key E) (_:ds=[.f<|.ref<|A .post,.f<|.str OQ,.f<|oI ask,.f<|.str Pn,.f<|.int key,Pa E]) (_:Ox Z.w i A w S) (_:(∀L∈w.Ls,L.num<=w.O6)) (_:w.Ls.length<90000) (_:A .uw∉F) (_:∀S',Ox Z.w i A (Zt w OQ ask Pn key E) S'->Fr i S S'->Q (.f .OH) S')
inductive Uu(Z:Zs)(F:LL)(ds:LO)(S:N9)(Q:QD):Prop
 |mk (i A w) (_:ds=[.f<|.ref<|A .post]) (_:Ox Z.w i A w S) (_:pO w.O6 w.Ls) (_:w.Ls.length<90000) (_:Q (.l<|w.Ls.map AkJ) S)
inductive Wu(Z:Zs)(F:LL)(ds:LO)(S:N9)(Q:QD):Prop
 |mk (n) (_:ds=[.f<|.int n]) (_:Q (.f<|.bl Af) S)
inductive Zx(Z:Zs)(F:LL)(ds:LO)(S:N9)(Q:QD):Prop
 |mk (n) (_:ds=[.f<|.int n]) (_:Q (.f<|.bl<|Ano<|.int n) S)
inductive X7(Z:Zs)(F:LL)(ds:LO)(S:N9)(Q:QD):Prop
 |mk (z) (_:ds=[.f<|.str z]) (_:z.length<=1000) (_:Q (.f<|.bl<|aS z) S)
inductive Ws(Z:Zs)(F:LL)(ds:LO)(S:N9)(Q:QD):Prop
 |mk (z) (_:ds=[.f<|.str z]) (_:z.length<=1000) (_:Q (.f<|.bl<|gF z) S)
inductive Wt(Z:Zs)(F:LL)(ds:LO)(S:N9)(Q:QD):Prop
 |mk (z) (_:ds=[.f<|.str z]) (_:z.length<=1000) (_:Q (.f<|.bl<|AhF z) S)
inductive SD(Z:Zs)(F:LL)(ds:LO)(S:N9)(Q:QD):Prop
 |mk (i A w L) (_:ds=[.f<|.ref<|A .post,.f<|.int L.num]) (_:Ox Z.w i A w S) (_:pO w.O6 w.Ls) (_:L∈w.Ls) (_:Q (tU Z.w.L L) S)
inductive X3(Z:Zs)(F:LL)(ds:LO)(S:N9)(Q:QD):Prop
 |mk (i A w L) (_:ds=[.f<|.ref<|A .post,.f<|.int L.num]) (_:Ox Z.w i A w S) (_:pO w.O6 w.Ls) (_:L∈w.Ls) (_:A .uw∉F) (_:∀S',Ox Z.w i A (Pm w L.num) S'->Fr i S S'->Q (tU Z.w.L L) S')
inductive Ww(Z:Zs)(F:LL)(ds:LO)(S:N9)(Q:QD):Prop
 |mk (z) (_:ds=[.f<|.str z]) (_:aS z=Af) (_:z.length<=1000) (_:Q (.f .OH) S)
def AcF{k:Int}(h:0<=k/\k<256):Ano (.int k)=Af:=by show(decide _&&decide _)=Af;rw[Ao h.1,Ao h.2];rfl
inductive SE(Z:Zs)(F:LL)(ds:LO)(S:N9)(Q:QD):Prop
 |mk (i A w T) (_:ds=[.f<|.ref<|A .top,.f<|.int T.key]) (_:Ox Z.w i A w S) (_:US w.Ts) (_:T∈w.Ts) (_:Q (.f<|.ref<|A<|.Oz T.key) S)
inductive RH(Z:Zs)(F:LL)(ds:LO)(S:N9)(Q:QD):Prop
 |mk (i A w z) (_:ds=[.f<|.ref<|A .top,.f<|.str z]) (_:Ox Z.w i A w S) (_:Qd w.Hs) (_:gF z=Af) (_:z.length<=1000) (_:z∈w.Hs.map (·.1)) (_:Q (.f .OH) S)
inductive Vh(Z:Zs)(F:LL)(ds:LO)(S:N9)(Q:QD):Prop
 |mk (i A w T) (_:ds=[.f<|.ref<|A<|.Oz T.key]) (_:Ox Z.w i A w S) (_:US w.Ts) (_:T∈w.Ts) (_:Q (.l<|T.sh.map λe=>.f<|.str e.1) S)
inductive Tp(Z:Zs)(F:LL)(ds:LO)(S:N9)(Q:QD):Prop
 |mk (i A w T z) (_:ds=[.f<|.ref<|A<|.Oz T.key,.f<|.str z]) (_:Ox Z.w i A w S) (_:US w.Ts) (_:T∈w.Ts) (_:Q (.f (.bl (decide (z∈T.sh.map (·.1))))) S)
inductive Vi(Z:Zs)(F:LL)(ds:LO)(S:N9)(Q:QD):Prop
 |mk (i A w T z) (_:ds=[.f<|.ref<|A<|.Oz T.key,.f<|.str z]) (_:Ox Z.w i A w S) (_:US w.Ts) (_:T∈w.Ts) (_:Q (Pa<|P6 T.sh z) S)
inductive X4(Z:Zs)(F:LL)(ds:LO)(S:N9)(Q:QD):Prop
 |mk (i A w T z E) (_:ds=[.f<|.ref<|A<|.Oz T.key,.f<|.str z,Pa E]) (_:F=[]) (_:Ox Z.w i A w S) (_:US w.Ts) (_:T∈w.Ts) (_:(P6 T.sh z).length<=1000) (_:E.length<=1000) (_:∀S',Ox Z.w i A {w with Ts:=P4 w.Ts (QG T z E)} S'->Fr i S S'->Q (.f .OH) S')
inductive Tr(Z:Zs)(F:LL)(ds:LO)(S:N9)(Q:QD):Prop
 |mk (i A w) (_:ds=[.f<|.ref<|A .top]) (_:Ox Z.w i A w S) (_:pO w.O6 w.Ls) (_:w.Ls.length<90000) (_:Q (.l<|w.Ls.map AkJ) S)
inductive Vn(Z:Zs)(F:LL)(ds:LO)(S:N9)(Q:QD):Prop
 |mk (i A w T z) (_:ds=[.f<|.ref<|A .top,.f<|.str z,.f<|.int T.key]) (_:Ox Z.w i A w S) (_:Qd w.Hs) (_:gF z=Af) (_:z.length<=1000) (_:z∈w.Hs.map (·.1)) (_:US w.Ts) (_:T∈w.Ts) (_:Q (Pa<|P6 T.sh z) S)
inductive Wl(Z:Zs)(F:LL)(ds:LO)(S:N9)(Q:QD):Prop
 |mk (a r r2 kind Pb key en E ah S') (_:ds=[.f<|.ref a,.f<|.str kind,.f<|.str Pb,.f<|.int key,.f<|.int en,Pa E,.l<|ah.map Aid]) (_:S=NY S' a (r,.i Z.w.A [])) (_:∀h,a≠h->S' h=none->h∉F->Q (.f .OH) (NY (NY S' h (r2,.d<|RO [])) a (r,Aal Z.w.A h #[kind,Pb,key,en,E,ah,[],"open"])))
inductive Wn(Z:Zs)(F:LL)(ds:LO)(S:N9)(Q:QD):Prop
 |mk (i A w a h B S0) (_:ds=[.f<|.ref<|A .asks,.f<|.ref a]) (_:S=NY (NY S0 h (.wd i<|.N3 w.Ms.length,.d<|RO B.N3)) a (.wd i<|.ask w.Ms.length,Aal Z.w.A h B)) (_:Ox Z.w i A w S0) (_:S0 a=none) (_:S0 h=none) (_:a≠h) (_:w.Ms.length<90000) (_:∀S',Ox Z.w i (iY A w.Ms.length a h) {w with Ms:=w.Ms++[B]} S'->Fr i S0 S'->Q (.f<|.int<|w.Ms.length+1) S')
inductive RG(Z:Zs)(F:LL)(ds:LO)(S:N9)(Q:QD):Prop
 |mk (i A w z k en E) (_:ds=[.f<|.ref<|A .asks,.f<|.str z,.f<|.int k,.f<|.int en,Pa E]) (_:Ox Z.w i A w S) (_:w.Ms.length<90000) (_:∀a h S',Ox Z.w i (iY A w.Ms.length a h) {w with Ms:=w.Ms++[#["write",z,k,en,E,[],[],"open"]]} S'->Fr i S S'->Q (.f<|.int<|w.Ms.length+1) S')
inductive Vf(Z:Zs)(F:LL)(ds:LO)(S:N9)(Q:QD):Prop
 |mk (i A w n) (_:ds=[.f<|.ref<|A .asks,.f<|.int<|(n:Nat)+1]) (_:Ox Z.w i A w S) (_:n<w.Ms.length) (_:Q (.f<|.ref<|A<|.ask n) S)
inductive Zu(Z:Zs)(F:LL)(ds:LO)(S:N9)(Q:QD):Prop
 |mk (i A w n B z E) (_:ds=[.f<|.ref<|A<|.ask n,.f<|.str z,Pa E]) (_:F=[]) (_:Ox Z.w i A w S) (_:w.Ms[n]?=U B) (_:B.N3.length<90000) (_:B.RY.length<=1000) (_:E.length<=1000) (_:∀S',Ox Z.w i A {w with Ms:=w.Ms.set n (Po B z E).1} S'->Fr i S S'->Q (.f<|.bl (Po B z E).2) S')
inductive eY(Z:Zs)(vs:LM)(H:Hp)(Q:VK)(Xe:XK):Prop
 |mk (z w r) (_:vs=[.str z]) (_:z.length<=1000) (_:z.cps.toList=w++46::r) (_:46∉w) (_:∀y H',y.cps.toList=w->Ob H H'->Q (.str y) H')
inductive eZ(Z:Zs)(vs:LM)(H:Hp)(Q:VK)(Xe:XK):Prop
 |mk (z w r) (_:vs=[.str z]) (_:z.length<=1000) (_:z.cps.toList=w++46::r) (_:46∉r) (_:∀y H',y.cps.toList=w->Ob H H'->Q (.str y) H')
inductive X6(Z:Zs)(F:LL)(ds:LO)(S:N9)(Q:QD):Prop
 |mk (k) (_:ds=[.f<|.int k]) (_:Q (.f<|.int<|k%110) S)
inductive ZF(Z:Zs)(vs:LM)(H:Hp)(Q:VK)(Xe:XK):Prop
 |mk (d t) (_:vs=[.int d,.int t]) (_:-(2 ^ 64)<t) (_:t<2 ^ 64) (_:Q (.int<|pl d t) H)
inductive eU(Z:Zs)(vs:LM)(H:Hp)(Q:VK)(Xe:XK):Prop
 |mk (d t ps) (_:vs=[.int d,.ref t]) (_:RE Z.K H t (ps.map V.int)) (_:ps≠[]) (_:ps.length<=1000) (_:(∀x∈ps,0<=x/\x<11)) (_:∀H',Ob H H'->Q (.int<|uD d ps) H')
inductive tG(Z:Zs)(vs:LM)(H:Hp)(Q:VK)(Xe:XK):Prop
 |mk (p v5 Hs d) (_:vs=[.ref p,.int d]) (_:H p=U (.dK v5)) (_:xB Z.K H Hs v5) (_:Qd Hs) (_:0<=d) (_:d<110) (_:RV Z.o H) (_:∀l H1,RV Z.o H1->Pl H H1->(∀b ps,b≠Z.o->H b=U (.So ps)->H1 b=U (.So ps))->H l=none->H1 l=U (.lst<|(YY Hs d).map V.str)->Q (.ref l) H1)
inductive kW(Z:Zs)(vs:LM)(H:Hp)(Q:VK)(Xe:XK):Prop
 |mk (z q zs) (_:vs=[.str z,.ref q]) (_:Good z) (_:(∀o∈zs,Good o)) (_:zs.length<=100) (_:PX Z.K H q (zs.map V.str)) (_:∀p H',H p=none->H' p=U (.tup [.int ((Aig z zs:Nat):Int),.int ((Ak5 z zs:Nat):Int)])->Ob H H'->Q (.ref p) H')
inductive tE(Z:Zs)(vs:LM)(H:Hp)(Q:VK)(Xe:XK):Prop
 |mk (p:Ae) (v5:LP) (Hs:QI) (d:Int) (m:Nat) (_:vs=[.ref p,.int d,.int m]) (_:H p=U (.dK v5)) (_:xB Z.K H Hs v5) (_:Qd Hs) (_:0<=d) (_:d<110) (_:RV Z.o H) (_:UT Z.d H) (_:∀l H1,RV Z.o H1->UT Z.d H1->Pl H H1->H l=none->H1 l=U (.lst<|(OT Hs d m).map V.str)->Q (.ref l) H1)
inductive eV(Z:Zs)(F:LL)(ds:LO)(S:N9)(Q:QD):Prop
 |mk (Hs d m) (_:ds=[QU Hs,.f<|.int d,.f<|.int ((m:Nat):Int)]) (_:(∀b∈F,S b≠none)) (_:Qd Hs) (_:0<=d) (_:d<110) (_:Q (.l<|(OT Hs d m).map λz=>.f<|.str z) S)
inductive PM(Z:Zs)(F:LL)(ds:LO)(S:N9)(Q:QD):Prop
 |mk  (_:False) (_:ds=[.f .OH,.f .OH,.f .OH])
inductive Ru(Z:Zs)(F:LL)(ds:LO)(S:N9)(Q:QD):Prop
 |mk (i A w T L qs) (_:ds=[.f<|.ref<|A .top,tU Z.w.L L]) (_:F=[]) (_:Ox Z.w i A w S) (_:w.away=[]) (_:jE qs w) (_:T∈w.Ts) (_:L.key=T.key) (_:OJ qs L.Xk) (_:w.hints.length<90000) (_:w.Ls.length<90000) (_:∀S',Ox Z.w i A (Xo w T L) S'->Fr i S S'->Q (.f .OH) S')
inductive Vm(Z:Zs)(F:LL)(ds:LO)(S:N9)(Q:QD):Prop
 |mk (i A w T z) (_:ds=[.f<|.ref<|A .top,.f<|.str z,.f<|.int T.key]) (_:Ox Z.w i A w S) (_:US w.Ts) (_:T∈w.Ts) (_:aS z=Af) (_:z.length<=1000) (_:Q (Pa<|OF w.QL z T.key) S)
inductive QZ(Z:Zs)(F:LL)(ds:LO)(S:N9)(Q:QD):Prop
 |mk (i A w T OQ n E) (_:ds=[.f<|.ref<|A .top,.f<|.str OQ,.f<|.int n,.f<|.ref<|A<|.Oz T.key,Pa E]) (_:F=[]) (_:Ox Z.w i A w S) (_:US w.Ts) (_:T∈w.Ts) (_:pO w.O6 w.Ls) (_:w.Ls.length<80000) (_:∀S',Ox Z.w i A (yI w OQ n T E) S'->Fr i S S'->Q (.f .OH) S')
inductive Vo(Z:Zs)(F:LL)(ds:LO)(S:N9)(Q:QD):Prop
 |mk (i A w T z v qs) (_:ds=[.f<|.ref<|A .top,.f<|.str z,.f<|.int T.key,.f<|.str v]) (_:F=[]) (_:Ox Z.w i A w S) (_:jE qs w) (_:T∈w.Ts) (_:aS z=Af) (_:z.length<=1000) (_:AhF v=Af) (_:v.length<=1000) (_:w.Ls.length<80000) (_:w.Ms.length<80000) (_:w.QL.length<80000) (_:∀A' S',A' .top=A .top->Ox Z.w i A' (Ahc w T z v) S'->Fr i S S'->Q (.f<|.int<|w.Ms.length+1) S')
inductive X1(Z:Zs)(F:LL)(ds:LO)(S:N9)(Q:QD):Prop
 |mk (i A w n B) (_:ds=[.f<|.ref<|A<|.ask n]) (_:Ox Z.w i A w S) (_:w.Ms[n]?=U B) (_:Q (Pa B.RY) S)
inductive Wm(Z:Zs)(F:LL)(ds:LO)(S:N9)(Q:QD):Prop
 |mk (i A w n B) (_:ds=[.f<|.ref<|A<|.ask n]) (_:Ox Z.w i A w S) (_:w.Ms[n]?=U B) (_:Q (.f<|.str B.Pf) S)
inductive Rr(Z:Zs)(F:LL)(ds:LO)(S:N9)(Q:QD):Prop
 |mk (i A w n B k) (_:ds=[.f<|.ref<|A<|.ask n,.f<|.int k]) (_:Ox Z.w i A w S) (_:w.Ms[n]?=U B) (_:Q (.f<|.bl<|Als k B) S)
inductive QY(Z:Zs)(F:LL)(ds:LO)(S:N9)(Q:QD):Prop
 |mk (i A w n B) (_:ds=[.f<|.ref<|A<|.ask n]) (_:Ox Z.w i A w S) (_:w.Ms[n]?=U B) (_:Q (Aid (B.Pb,Yw B.RY B.Pb)) S)
def Am7{Ms:Mx}(A:WR->Ae):(Ba Ms.length).map (λn=>D.f<|.ref<|A<|.ask n)=Ms.zipIdx.map λp=>D.f (.ref<|A<|.ask p.2):=by
 have:Ms.zipIdx.map (·.2)=Ba Ms.length:=by rw[List.zipIdx_map_snd,List.range_eq_range']
 rw[<-this,As];rfl
def Am8(Ms:Mx)(b:Ak->Bool)(f:Ak->D):(Ms.zipIdx.filter λp=>b p.1).map (λp=>f p.1)=(Ms.filter b).map f:=by
 have:Ms.zipIdx.map _=Ms:=List.zipIdx_map_fst ..
 conv=>rhs;rw[<-this]
 rw[Fp,As];rfl
inductive Sb(Z:Zs)(F:LL)(ds:LO)(S:N9)(Q:QD):Prop
 |mk (i A w z k en) (_:ds=[.f<|.ref<|A .asks,.f<|.str z,.f<|.int k,.f<|.int en]) (_:Ox Z.w i A w S) (_:w.Ms.length<90000) (_:∀a h S',Ox Z.w i (iY A w.Ms.length a h) {w with Ms:=w.Ms++[#["read",z,k,en,[],SM w k,[],"open"]]} S'->Fr i S S'->Q (.f<|.int<|w.Ms.length+1) S')
inductive Wq(Z:Zs)(F:LL)(ds:LO)(S:N9)(Q:QD):Prop
 |mk (i A w T z qs) (_:ds=[.f<|.ref<|A .top,.f<|.str z,.f<|.int T.key]) (_:F=[]) (_:Ox Z.w i A w S) (_:jE qs w) (_:T∈w.Ts) (_:aS z=Af) (_:z.length<=1000) (_:w.Ls.length<80000) (_:w.Ms.length<80000) (_:∀A' S',A' .top=A .top->Ox Z.w i A' (AjU w T z) S'->Fr i S S'->Q (.f<|.int<|w.Ms.length+1) S')
inductive UA(Z:Zs)(F:LL)(ds:LO)(S:N9)(Q:QD):Prop
 |mk (i A w n B) (_:ds=[.f<|.ref<|A .top,.f<|.int<|(n:Nat)+1]) (_:Ox Z.w i A w S) (_:w.Ms[n]?=U B) (_:Q (.f<|.str B.Pf) S)
inductive Vk(Z:Zs)(F:LL)(ds:LO)(S:N9)(Q:QD):Prop
 |mk (i A w n B) (_:ds=[.f<|.ref<|A .top,.f<|.int<|(n:Nat)+1]) (_:Ox Z.w i A w S) (_:w.Ms[n]?=U B) (_:Q (Pa B.RY) S)
inductive Rt(Z:Zs)(F:LL)(ds:LO)(S:N9)(Q:QD):Prop
 |mk (i A w T L) (_:ds=[.f<|.ref<|A .top,tU Z.w.L L]) (_:F=[]) (_:Ox Z.w i A w S) (_:US w.Ts) (_:T∈w.Ts) (_:L.key=T.key) (_:pO w.O6 w.Ls) (_:w.Ls.length<90000) (_:∀S',Ox Z.w i A (pR w T L) S'->Fr i S S'->Q (.f .OH) S')
inductive Q5(Z:Zs)(F:LL)(ds:LO)(S:N9)(Q:QD):Prop
 |mk (i A w L n B qs) (_:ds=[.f<|.ref<|A .top,tU Z.w.L L]) (_:F=[]) (_:Ox Z.w i A w S) (_:jE qs w) (_:L.ask=U ((n:Nat)+1)) (_:w.Ms[n]?=U B) (_:OJ qs L.Xk) (_:B.N3.length<80000) (_:w.QL.length<80000) (_:(∃T∈w.Ts,B.key=T.key)) (_:aS B.Pb=Af) (_:B.Pb.length<=1000) (_:∀S',Ox Z.w i A (Ab5 w n B L) S'->Fr i S S'->Q (.f .OH) S')
inductive Vj(Z:Zs)(F:LL)(ds:LO)(S:N9)(Q:QD):Prop
 |mk (i A w L hm qs s) (_:ds=[.f<|.ref<|A .top,.f<|.int L.num]) (_:F=[]) (_:Ox Z.w i A w S) (_:w.away=[]) (_:WB hm qs s w) (_:(∀z∈qs,aS z=Af/\z.length<=1000)) (_:L∈w.Ls) (_:∀w' S',AkM w L w'->Ox Z.w i A w' S'->Fr i S S'->Q (.f .OH) S')
inductive Vl(Z:Zs)(F:LL)(ds:LO)(S:N9)(Q:QD):Prop
 |mk (i A w T) (_:ds=[.f<|.ref<|A .top,.f<|.int T.key]) (_:Ox Z.w i A w S) (_:US w.Ts) (_:T∈w.Ts) (_:Q (.l<|T.sh.map λe=>.f<|.str e.1) S)
inductive Uz(Z:Zs)(F:LL)(ds:LO)(S:N9)(Q:QD):Prop
 |mk (i A w) (_:ds=[.f<|.ref<|A .top]) (_:Ox Z.w i A w S) (_:Q (QU w.Hs) S)
inductive Wo(Z:Zs)(F:LL)(ds:LO)(S:N9)(Q:QD):Prop
 |mk (i A w) (_:ds=[.f<|.ref<|A .top]) (_:Ox Z.w i A w S) (_:w.away.length<64) (_:∀ms,ms.Perm w.away->F9 ms=Af->Q (.l<|ms.map λz=>.f<|.str z) S)
inductive Wr(Z:Zs)(F:LL)(ds:LO)(S:N9)(Q:QD):Prop
 |mk (a b c) (_:ds=[.f<|.int a,.f<|.int b,.f<|.int c]) (_:GoodC a b c) (_:Q (.f<|.bl Af) S)
inductive Vu(Z:Zs)(F:LL)(ds:LO)(S:N9)(Q:QD):Prop
 |mk (a b c) (_:ds=[.f<|.int a,.f<|.int b,.f<|.int c]) (_:GoodC a b c) (_:Q (.f .OH) S)
inductive Uv(Z:Zs)(F:LL)(ds:LO)(S:N9)(Q:QD):Prop
 |mk (a r r2 k c rr ww S') (_:ds=[.f<|.ref a,.f<|.int k,.f<|.int c,.f<|.int rr,.f<|.int ww]) (_:S=NY S' a (r,.i Z.w.T [])) (_:∀s,a≠s->S' s=none->s∉F->Q (.f .OH) (NY (NY S' s (r2,.d<|Uo [])) a (r,bD Z.w.T s #[k,c,rr,ww,[]])))
inductive Uw(Z:Zs)(F:LL)(ds:LO)(S:N9)(Q:QD):Prop
 |mk (t s r r2 r3 T Hs m) (_:ds=[.f<|.ref t,QU Hs]) (_:(∀b∈F,S b≠none)) (_:S t=U (r,bD Z.w.T s T)) (_:S s=U (r2,.d<|Uo T.sh)) (_:T.sh.length<=5) (_:T.c=((m:Nat):Int)) (_:m<=5) (_:Qd Hs) (_:∀q,S q=none->Q (.f<|.bl<|Aax T.sh<|OT Hs (T.key%110) m) (NY (NY S q (r3,.d<|Uo<|OM T.sh<|OT Hs (T.key%110) m)) t (r,bD Z.w.T q {T with sh:=OM T.sh (OT Hs (T.key%110) m)})))
inductive Tq(Z:Zs)(F:LL)(ds:LO)(S:N9)(Q:QD):Prop
 |mk (i A w k c rr ww m) (_:ds=[.f<|.ref<|A .top,.f<|.int k,.f<|.int c,.f<|.int rr,.f<|.int ww]) (_:F=[]) (_:Ox Z.w i A w S) (_:Qd w.Hs) (_:0<=k) (_:k<256) (_:k∉w.Ts.map (·.key)) (_:GoodC c rr ww) (_:c=((m:Nat):Int)) (_:w.Ts.length<80000) (_:∀A' S',A' .top=A .top->Ox Z.w i A' {w with Ts:=w.Ts++[#[k,c,rr,ww,OM []<|OT w.Hs (k%110) m]]} S'->Fr i S S'->Q (.f .OH) S')
inductive Vg(Z:Zs)(F:LL)(ds:LO)(S:N9)(Q:QD):Prop
 |mk (a r r2 S') (_:ds=[.f<|.ref a]) (_:S=NY S' a (r,.i Z.w.P [])) (_:∀s,a≠s->S' s=none->s∉F->Q (.f .OH) (NY (NY S' s (r2,.d [])) a (r,.i Z.w.P [("sent",.f<|.int 0),("under_way",.f<|.ref s)])))
inductive Ur(Z:Zs)(F:LL)(ds:LO)(S:N9)(Q:QD):Prop
 |mk (a r r2 S') (_:ds=[.f<|.ref a]) (_:S=NY S' a (r,.i Z.w.H [])) (_:∀s,a≠s->S' s=none->s∉F->Q (.f .OH) (NY (NY S' s (r2,.m [])) a (r,.i Z.w.H [("kept",.f<|.ref s)])))
inductive Ve(Z:Zs)(F:LL)(ds:LO)(S:N9)(Q:QD):Prop
 |mk (a r r2 S') (_:ds=[.f<|.ref a]) (_:S=NY S' a (r,.i Z.w.S [])) (_:∀s,a≠s->S' s=none->s∉F->Q (.f .OH) (NY (NY S' s (r2,.l [])) a (r,.i Z.w.S [("begun",.f<|.ref s)])))
inductive Ux(Z:Zs)(F:LL)(ds:LO)(S:N9)(Q:QD):Prop
 |mk (a i Hs S') (_:ds=[.f<|.ref a,QU Hs]) (_:S=NY S' a (.wd i .top,.i Z.w.W [])) (_:S' a=none) (_:∀A S1,A .top=a->Ox Z.w i A #[Hs,[],[],[],0,[],[],[]] S1->Fr i S' S1->Q (.f .OH) S1)
inductive Tn(Z:Zs)(F:LL)(ds:LO)(S:N9)(Q:QD):Prop
 |mk (i A w n B) (_:ds=[.f<|.ref<|A<|.ask n]) (_:Ox Z.w i A w S) (_:w.Ms[n]?=U B) (_:∀S',Ox Z.w i A {w with Ms:=w.Ms.set n (TQ B)} S'->Fr i S S'->Q (.f .OH) S')
inductive SA(Z:Zs)(F:LL)(ds:LO)(S:N9)(Q:QD):Prop
 |mk (i A w k) (_:ds=[.f<|.ref<|A .asks,.f<|.int k]) (_:Ox Z.w i A w S) (_:∀S',Ox Z.w i A {w with Ms:=w.Ms.map λB=>if B.key=k then TQ B else B} S'->Fr i S S'->Q (.f .OH) S')
inductive Tt(Z:Zs)(F:LL)(ds:LO)(S:N9)(Q:QD):Prop
 |mk (i:Nat) (A:WR->Ae) (w:QJ) (Hs:QI) (d:D) (_:ds=[.f<|.ref<|A .top,d]) (_:Ra S d (.d<|XH Hs)) (_:F=[]) (_:Ox Z.w i A w S) (_:US w.Ts) (_:Qd Hs) (_:(∀T∈w.Ts,T.c=(T.c.toNat:Int)/\T.c.toNat<=5)) (_:∀A' S',A' .top=A .top->Ox Z.w i A' (SU w Hs) S'->Fr i S S'->Q (.f .OH) S')
inductive X5(Z:Zs)(F:LL)(ds:LO)(S:N9)(Q:QD):Prop
 |mk (i A w T z E) (_:ds=[.f<|.ref<|A .top,.f<|.str z,.f<|.int T.key,Pa E]) (_:F=[]) (_:Ox Z.w i A w S) (_:Qd w.Hs) (_:gF z=Af) (_:z.length<=1000) (_:z∈w.Hs.map (·.1)) (_:US w.Ts) (_:T∈w.Ts) (_:(P6 T.sh z).length<=1000) (_:E.length<=1000) (_:∀S',Ox Z.w i A {w with Ts:=P4 w.Ts (QG T z E)} S'->Fr i S S'->Q (.f .OH) S')
inductive Q6(Z:Zs)(F:LL)(ds:LO)(S:N9)(Q:QD)(Xe:Ai->N9->Prop):Prop
 |mk (i A w z) (_:ds=[.f<|.ref<|A .top,.f<|.str z]) (_:Ox Z.w i A w S) (_:gF z=Af) (_:z.length<=1000) (_:z∈w.Hs.map (·.1)) (_:Q (.f .OH) S)
 |no (i A w z) (_:ds=[.f<|.ref<|A .top,.f<|.str z]) (_:Ox Z.w i A w S) (_:z.length<=1000) (_:z∉w.Hs.map (·.1)) (_:Xe (.ref Z.x_NoHouse) S)
inductive Tu(Z:Zs)(F:LL)(ds:LO)(S:N9)(Q:QD)(Xe:Ai->N9->Prop):Prop
 |mk (i A w T z) (_:ds=[.f<|.ref<|A .top,.f<|.str z,.f<|.int T.key]) (_:Ox Z.w i A w S) (_:gF z=Af) (_:z.length<=1000) (_:z∈w.Hs.map (·.1)) (_:US w.Ts) (_:T∈w.Ts) (_:Q (Pa<|P6 T.sh z) S)
 |no (i A w z k) (_:ds=[.f<|.ref<|A .top,.f<|.str z,k]) (_:Ox Z.w i A w S) (_:z.length<=1000) (_:z∉w.Hs.map (·.1)) (_:Xe (.ref Z.x_NoHouse) S)
inductive Uy(Z:Zs)(F:LL)(ds:LO)(S:N9)(Q:QD)(Xe:Ai->N9->Prop):Prop
 |mk (i A w z) (_:ds=[.f<|.ref<|A .top,.f<|.str z]) (_:Ox Z.w i A w S) (_:z.length<=1000) (_:z∉w.Hs.map (·.1)) (_:Xe (.ref Z.x_NoHouse) S)
inductive ZA(Z:Zs)(F:LL)(ds:LO)(S:N9)(Q:QD):Prop
 |mk (ns k) (_:ds=[.l<|(ns:LS).map λz=>.f<|.int z,.f<|.int k]) (_:0<=k) (_:∀c:Int,Q (.f<|.int c) S)
inductive X9(Z:Zs)(F:LL)(ds:LO)(S:N9)(Q:QD):Prop
 |mk (c k) (_:ds=[.f<|.int c,.f<|.int k]) (_:∀n:Nat,Q (.f<|.int n) S)
inductive Yc(Z:Zs)(vs:LM)(H:Hp)(Q:VK)(Xe:XK):Prop
 |mk (c) (_:vs=[.int c]) (_:∀l H'(zs:LK),H' l=U (.lst<|zs.map V.str)->zs.length=9->(∀z∈zs,gF z=Af/\z.length<=26/\Good z)->zs.Nodup->H l=none->Ob H H'->Q (.ref l) H')
inductive Vq(Z:Zs)(F:LL)(ds:LO)(S:N9)(Q:QD):Prop
 |mk (c) (_:ds=[.f<|.int c]) (_:∀zs:LK,zs.length=9->(∀z∈zs,gF z=Af/\z.length<=26/\Good z)->zs.Nodup->Q (.l<|zs.map λz=>.f<|.str z) S)
inductive Wv(Z:Zs)(F:LL)(ds:LO)(S:N9)(Q:QD):Prop
 |mk (c zs) (_:ds=[.l<|(zs:LK).map λz=>.f<|.str z,.f<|.int c]) (_:F=[]) (_:zs.length=9) (_:∀Hs,QT Hs->(∀e∈Hs,e.1∈zs)->Q (QU Hs) S)
inductive Vt(Z:Zs)(F:LL)(ds:LO)(S:N9)(Q:QD):Prop
 |mk (E n v) (_:ds=[Pa E,.f<|.str n,.f<|.str v]) (_:F=[]) (_:E.length<=1000) (_:(E.map (·.1)).Nodup) (_:Q (Pa<|Xi E n v) S)
inductive ZD(Z:Zs)(F:LL)(ds:LO)(S:N9)(Q:QD):Prop
 |mk (E1 E2) (_:ds=[Pa E1,Pa E2]) (_:F=[]) (_:E1.length<=1000) (_:E2.length<=1000) (_:(E1.map (·.1)).Nodup) (_:(E2.map (·.1)).Nodup) (_:Q (Pa<|Ow E1 E2) S)
inductive ZE(Z:Zs)(F:LL)(ds:LO)(S:N9)(Q:QD):Prop
 |mk (B M OQ ask Pn key E) (_:ds=[.f<|.ref<|B .top,.f<|.str OQ,.f<|oI ask,.f<|.str Pn,.f<|.int key,Pa E]) (_:Py B M S) (_:M.Ls.length<90000) (_:∀S',Py B (Apj M OQ ask Pn key E) S'->Uh S S'->Q (.f .OH) S')
inductive ZC(Z:Zs)(F:LL)(ds:LO)(S:N9)(Q:QD):Prop
 |mk (B:L7->Ae) (M:M7) (n:Nat) (C:Ak) (z:Ay) (E:O7) (qs:LK) (_:ds=[.f<|.ref<|B .top,.f<|.ref<|B<|.ask n,.f<|.str z,Pa E]) (_:F=[]) (_:Py B M S) (_:M.Ms[n]?=U C) (_:(C.kind="write"\/C.kind="read")) (_:(C.kind="write"->E=[])) (_:(C.Pf="open"->(C.N3.length:Int)<C.QF)) (_:OJ qs C.RY) (_:OJ qs E) (_:(∀z k,OJ qs<|OF M.QL z k)) (_:qs.length<=900) (_:C.N3.length<2000) (_:M.QL.length<80000) (_:∀S',Py B (AlB M n C z E) S'->Uh S S'->Q (.f .OH) S')
inductive Tw(Z:Zs)(F:LL)(ds:LO)(S:N9)(Q:QD):Prop
 |mk (c:Int) (qs:LK) (_:ds=[.f<|.int c,.l<|PL qs]) (_:F=[]) (_:qs.length=5) (_:∀Es:List O7,Es.length=7->(∀E∈Es,OJ qs E)->∀m x,S m=none->Q (.l<|Es.map Pa) (NY S m x))
inductive X8(Z:Zs)(F:LL)(ds:LO)(S:N9)(Q:QD):Prop
 |mk (i:Nat) (A:WR->Ae) (w:QJ) (T:PY) (y:Ay) (wr:Bool) (qs:LK) (s:Nat) (B:L7->Ae) (OZ:L6) (_:ds=[.f<|.ref<|A .top,.f<|.ref<|B .top,.f<|.str y,.f<|.int T.key,.f<|.bl wr]) (_:F=[]) (_:Ox Z.w i A w S) (_:Py B (Qc w OZ) S) (_:W7 qs s w OZ) (_:s<1100) (_:w.Ms.length<10) (_:T∈w.Ts) (_:y∈qs) (_:aS y=Af) (_:y.length<=1000) (_:∀A' B' w' S',A' .top=A .top->B' .top=B .top->Ox Z.w i A' w' S'->Py B' (Qc w' OZ) S'->W7 qs (s+1) w' OZ->w'.Hs=w.Hs->w'.Ts=w.Ts->w'.Ms.length=w.Ms.length+1->Q (.f<|.bl Af) S')
inductive Vp(Z:Zs)(F:LL)(ds:LO)(S:N9)(Q:QD):Prop
 |mk (i:Nat) (A:WR->Ae) (w:QJ) (n:Int) (qs:LK) (s:Nat) (B:L7->Ae) (OZ:L6) (_:ds=[.f<|.ref<|A .top,.f<|.ref<|B .top,.f<|.int n]) (_:F=[]) (_:Ox Z.w i A w S) (_:Py B (Qc w OZ) S) (_:W7 qs s w OZ) (_:s<1100) (_:(∀z∈qs,aS z=Af/\z.length<=1000)) (_:∀w' she' S',Ox Z.w i A w' S'->Py B (Qc w' she') S'->W7 qs (s+1) w' she'->K7 w w'->Q (.f .OH) S')
inductive Yd(Z:Zs)(F:LL)(ds:LO)(S:N9)(Q:QD):Prop
 |mk (c:Int) (zs:LK) (Hs:QI) (_:ds=[.l<|zs.map λz=>.f<|.str z,.f<|.int c,QU Hs]) (_:F=[]) (_:zs.length=9) (_:QT Hs) (_:Hs.length<64) (_:(∀e∈Hs,e.1∈zs)) (_:∀Hs',QT Hs'->(∀e∈Hs',e.1∈zs)->Q (QU Hs') S)
inductive Yb(Z:Zs)(F:LL)(ds:LO)(S:N9)(Q:QD):Prop
 |mk (i:Nat) (A:WR->Ae) (w:QJ) (qs:LK) (s:Nat) (B:L7->Ae) (OZ:L6) (Hs:QI) (_:ds=[.f<|.ref<|A .top,.f<|.ref<|B .top,QU Hs]) (_:F=[]) (_:Ox Z.w i A w S) (_:Py B (Qc w OZ) S) (_:W7 qs s w OZ) (_:Qd Hs) (_:∀A' she' S',A' .top=A .top->Ox Z.w i A' (SU w Hs) S'->Py B (Qc (SU w Hs) she') S'->W7 qs s (SU w Hs) she'->Q (.f<|.bl Af) S')
inductive Vr(Z:Zs)(F:LL)(ds:LO)(S:N9)(Q:QD):Prop
 |mk (i:Nat) (A:WR->Ae) (w:QJ) (T:PY) (Hb:QI) (_:ds=[.f<|.ref<|A .top,QU w.Hs,QU Hb,.f<|.int T.key]) (_:F=[]) (_:Ox Z.w i A w S) (_:US w.Ts) (_:T∈w.Ts) (_:w.away=[]) (_:(∀z∈Hb.map (·.1),gF z=Af/\z.length<=1000)) (_:Q (.f<|.bl Af) S)
inductive Ye(Z:Zs)(F:LL)(ds:LO)(S:N9)(Q:QD):Prop
 |mk (i:Nat) (A:WR->Ae) (w:QJ) (qs:LK) (s:Nat) (B:L7->Ae) (OZ:L6) (_:ds=[.f<|.ref<|A .top,.f<|.ref<|B .top,QU w.Hs]) (_:F=[]) (_:Ox Z.w i A w S) (_:Py B (Qc w OZ) S) (_:W7 qs s w OZ) (_:(∀z∈w.Hs.map (·.1),gF z=Af/\z.length<=1000)) (_:Q (.f<|.bl Af) S)
inductive Yg(Z:Zs)(F:LL)(ds:LO)(S:N9)(Q:QD):Prop
 |mk (ns:LS) (zs:LK) (Hs:QI) (B:L7->Ae) (_:ds=[.l<|ns.map λz=>.f<|.int z,.l<|zs.map λz=>.f<|.str z,QU Hs,.f<|.ref<|B .top]) (_:F=[]) (_:zs.length=9) (_:(∀z∈zs,gF z=Af/\z.length<=26/\Good z)) (_:QT Hs) (_:(∀e∈Hs,e.1∈zs)) (_:Py B #[0,[],[],[],[],[],[]] S) (_:∀qs A w OZ s B' S',B' .top=B .top->Ox Z.w 0 A w S'->Py B' (Qc w OZ) S'->W7 qs s w OZ->s<=50->w.Hs=Hs->w.Ts≠[]->(∀z∈qs,aS z=Af/\z.length<=1000)->Q (.f<|.ref<|A .top) S')
inductive Aj6(Z:Zs)(F:LL)(ds:LO)(S:N9)(Q:QD):Prop
 |mk (ns) (_:ds=[.l<|(ns:LS).map λz=>.f<|.int z]) (_:F=[]) (_:∀S',Q (.f<|.bl Af) S')
structure Fz(Z:Zs):Prop where
 cl_Ask:Xj Z.K Z.w.A
 cl_Asks:Xj Z.K Z.w.S
 cl_Hints:Xj Z.K Z.w.H
 cl_Letter:Xj Z.K Z.w.L
 cl_Post:Xj Z.K Z.w.P
 cl_Thing:Xj Z.K Z.w.T
 cl_World:Xj Z.K Z.w.W
 fT:Ahg Z.K Z.w.T ["key","copies","reads","writes","shelves"]
 fL:Ahg Z.K Z.w.L ["number","label","ask","house","key","state"]
 fP:Ahg Z.K Z.w.P ["sent","under_way"]
 fA:Ahg Z.K Z.w.A ["kind","asker","key","enough","gathered","ahead","heard","stage"]
 fS:Ahg Z.K Z.w.S ["begun"]
 fH:Ahg Z.K Z.w.H ["kept"]
 fW:Ahg Z.K Z.w.W ["there","declared","absent","left","post","asks","learnt"]
 ne_t:Z.o≠Z.d
 a_is_whole:Pu Z.K "is_whole" wC
 a_is_text_up_to:Pu Z.K "is_text_up_to" aI
 a_is_word:Pu Z.K "is_word" kT
 a_is_house:Pu Z.K "is_house" eL
 a_is_key:Pu Z.K "is_key" Aeh
 a_is_value:Pu Z.K "is_value" eM
 a_later:Pu Z.K "later" AgQ
 a_count_of:Pu Z.K "count_of" wB
 a_joined:Pu Z.K "joined" Aei
 a_written:Pu Z.K "written" Abz
 a_Letter___init:∃f,OI Z.K Z.w.L "__init__" "Letter.__init__" aC f
 m_Letter:B7 Z.K Z.w.L=Af/\BA Z.K (.ref Z.w.L)=Af
 a_Letter_shown:∃f,OI Z.K Z.w.L "shown" "Letter.shown" dU f
 a_Post_send:∃f,OI Z.K Z.w.P "send" "Post.send" sN f
 a_Post_letters:∃f,OI Z.K Z.w.P "letters" "Post.letters" Vc f
 a_Post_letter_of:∃f,OI Z.K Z.w.P "letter_of" "Post.letter_of" Y4 f
 a_Post_take:∃f,OI Z.K Z.w.P "take" "Post.take" sO f
 a_need_asker:Pu Z.K "need_asker" oJ
 a_World_thing_of:∃f,OI Z.K Z.w.W "thing_of" "World.thing_of" Y5 f
 a_World_need_house:∃f,OI Z.K Z.w.W "need_house" "World.need_house" Xa f
 a_Thing_homes:∃f,OI Z.K Z.w.T "homes" "Thing.homes" iL f
 a_Thing_is_home:∃f,OI Z.K Z.w.T "is_home" "Thing.is_home" aD f
 a_Thing_shelf:∃f,OI Z.K Z.w.T "shelf" "Thing.shelf" iM f
 a_Thing_lay:∃f,OI Z.K Z.w.T "lay" "Thing.lay" sP f
 a_World_letters:∃f,OI Z.K Z.w.W "letters" "World.letters" aG f
 a_World_shelf:∃f,OI Z.K Z.w.W "shelf" "World.shelf" iR f
 a_Ask___init:∃f,OI Z.K Z.w.A "__init__" "Ask.__init__" nU f
 m_Ask:B7 Z.K Z.w.A=Af/\BA Z.K (.ref Z.w.A)=Af
 a_Asks_begin:∃f,OI Z.K Z.w.S "begin" "Asks.begin" nW f
 a_Asks_begin_write:∃f,OI Z.K Z.w.S "begin_write" "Asks.begin_write" W9 f
 a_Asks_ask_of:∃f,OI Z.K Z.w.S "ask_of" "Asks.ask_of" iJ f
 a_Ask_hear:∃f,OI Z.K Z.w.A "hear" "Ask.hear" wA f
 a_roof_of:Pu Z.K "roof_of" Abx
 a_room_of:Pu Z.K "room_of" Aby
 a_drawer_of:Pu Z.K "drawer_of" sS
 a_place_of:Pu Z.K "place_of" wI
 a_best_of:Pu Z.K "best_of" kR
 a_order:∃c,jD Z.K "order" oK c/\FX Z.K c Z.o=Af
 a_beside:Pu Z.K "beside" eI
 a_dealt:∃c,jD Z.K "dealt" oF c/\FX Z.K c Z.d=Af
 a_World_leave_with_neighbour:∃f,OI Z.K Z.w.W "leave_with_neighbour" "World.leave_with_neighbour" RA f
 a_World_bring_state:∃f,OI Z.K Z.w.W "bring_state" "World.bring_state" Wd f
 a_World_known:∃f,OI Z.K Z.w.W "known" "World.known" iQ f
 a_World_send_to_homes:∃f,OI Z.K Z.w.W "send_to_homes" "World.send_to_homes" UP f
 a_World_write:∃f,OI Z.K Z.w.W "write" "World.write" iS f
 a_Ask_found:∃f,OI Z.K Z.w.A "found" "Ask.found" sM f
 a_Ask_status:∃f,OI Z.K Z.w.A "status" "Ask.status" nV f
 a_Ask_is_done_write:∃f,OI Z.K Z.w.A "is_done_write" "Ask.is_done_write" Wb f
 a_Ask_asker_and_count:∃f,OI Z.K Z.w.A "asker_and_count" "Ask.asker_and_count" UO f
 a_Asks_begin_read:∃f,OI Z.K Z.w.S "begin_read" "Asks.begin_read" Sz f
 a_World_read:∃f,OI Z.K Z.w.W "read" "World.read" nZ f
 a_World_status:∃f,OI Z.K Z.w.W "status" "World.status" eE f
 a_World_found:∃f,OI Z.K Z.w.W "found" "World.found" iO f
 a_World_bring_query:∃f,OI Z.K Z.w.W "bring_query" "World.bring_query" Wc f
 a_World_bring_answer:∃f,OI Z.K Z.w.W "bring_answer" "World.bring_answer" Vd f
 a_World_bring:∃f,OI Z.K Z.w.W "bring" "World.bring" iN f
 a_World_homes:∃f,OI Z.K Z.w.W "homes" "World.homes" iP f
 a_World_houses:∃f,OI Z.K Z.w.W "houses" "World.houses" dZ f
 a_World_away:∃f,OI Z.K Z.w.W "away" "World.away" nX f
 a_are_counts:Pu Z.K "are_counts" oA
 a_need_counts:Pu Z.K "need_counts" iX
 a_Thing___init:∃f,OI Z.K Z.w.T "__init__" "Thing.__init__" dW f
 m_Thing:B7 Z.K Z.w.T=Af/\BA Z.K (.ref Z.w.T)=Af
 a_Thing_settle:∃f,OI Z.K Z.w.T "settle" "Thing.settle" dX f
 a_World_declare:∃f,OI Z.K Z.w.W "declare" "World.declare" aE f
 a_Post___init:∃f,OI Z.K Z.w.P "__init__" "Post.__init__" iK f
 m_Post:B7 Z.K Z.w.P=Af/\BA Z.K (.ref Z.w.P)=Af
 a_Hints___init:∃f,OI Z.K Z.w.H "__init__" "Hints.__init__" dR f
 m_Hints:B7 Z.K Z.w.H=Af/\BA Z.K (.ref Z.w.H)=Af
 a_Asks___init:∃f,OI Z.K Z.w.S "__init__" "Asks.__init__" iI f
 m_Asks:B7 Z.K Z.w.S=Af/\BA Z.K (.ref Z.w.S)=Af
 a_World___init:∃f,OI Z.K Z.w.W "__init__" "World.__init__" dY f
 m_World:B7 Z.K Z.w.W=Af/\BA Z.K (.ref Z.w.W)=Af
 a_Ask_break_off:∃f,OI Z.K Z.w.A "break_off" "Ask.break_off" aB f
 a_Asks_break_all:∃f,OI Z.K Z.w.S "break_all" "Asks.break_all" Y2 f
 a_World_rehouse:∃f,OI Z.K Z.w.W "rehouse" "World.rehouse" aH f
 a_World_lay:∃f,OI Z.K Z.w.W "lay" "World.lay" sQ f
 a_NoHouse___init:∃f,OI Z.K Z.x_NoHouse "__init__" "NoHouse.__init__" Y3 f/\Ae3 Z.K Z.x_NoHouse f
 xn_NoHouse:Aaj Z.K Z.x_NoHouse
 xf_NoHouse:BU Z.K (.ref Z.x_NoHouse) "house"=U none
 x_NoHouse:Jf Z.K (.ref Z.x_NoHouse) (.ref Z.x_NoHouse)=U Af
 a_World_fall:∃f,OI Z.K Z.w.W "fall" "World.fall" nY f
 a_law_cell:Pu Z.K "_law_cell" wD
 a_law_mixed:Pu Z.K "_law_mixed" sU
 a_law_names:Pu Z.K "_law_names" Zp
 a_law_houses:Pu Z.K "_law_houses" oH
 a_law_written:Pu Z.K "_law_written" iW
 a_law_join:Pu Z.K "_law_join" wG
 a_law_send:Pu Z.K "_law_send" wH
 a_law_hear:Pu Z.K "_law_hear" wF
 a_law_histories:Pu Z.K "_law_histories" aJ
 a_law_begin:Pu Z.K "_law_begin" sT
 a_law_brought:Pu Z.K "_law_brought" iU
 a_law_other:Pu Z.K "_law_other" sW
 a_law_moved:Pu Z.K "_law_moved" sV
 a_law_nowhere:Pu Z.K "_law_nowhere" iV
 a_law_right:Pu Z.K "_law_right" Zq
 a_law_world:Pu Z.K "_law_world" Zr
 a_law:Pu Z.K "law" zD
structure Tx(M:Md)(Z:Zs):Prop extends Fz Z where
 d:∃X:BM,Z.K.In X/\X.Ns AK M.mg
 b_all:M.mg "all"=none
 b_bool:M.mg "bool"=none
 b_dict:M.mg "dict"=none
 b_enumerate:M.mg "enumerate"=none
 b_int:M.mg "int"=none
 b_isinstance:M.mg "isinstance"=none
 b_len:M.mg "len"=none
 b_list:M.mg "list"=none
 b_max:M.mg "max"=none
 b_min:M.mg "min"=none
 b_range:M.mg "range"=none
 b_set:M.mg "set"=none
 b_sorted:M.mg "sorted"=none
 b_str:M.mg "str"=none
 c_ACK:lH M.mg "ACK" (.str "ack")
 c_BROKEN:lH M.mg "BROKEN" (.str "broken")
 c_DONE:lH M.mg "DONE" (.str "done")
 c_DRAWERS:lH M.mg "DRAWERS" (.int 110)
 c_HINT:lH M.mg "HINT" (.str "hint")
 c_KEYS:lH M.mg "KEYS" (.int 256)
 c_MOST_COPIES:lH M.mg "MOST_COPIES" (.int 5)
 c_OPEN:lH M.mg "OPEN" (.str "open")
 c_PLOTS:lH M.mg "PLOTS" (.int 11)
 c_PUT:lH M.mg "PUT" (.str "put")
 c_QUERY:lH M.mg "QUERY" (.str "query")
 c_READ:lH M.mg "READ" (.str "read")
 c_TOLD:lH M.mg "TOLD" (.str "told")
 c_VALUE_LENGTH:lH M.mg "VALUE_LENGTH" (.int 40)
 c_WORD_LENGTH:lH M.mg "WORD_LENGTH" (.int 8)
 c_WORD_SIGNS:lH M.mg "WORD_SIGNS" (.str "abcdefghijklmnopqrstuvwxyz0123456789")
 c_WRITE:lH M.mg "WRITE" (.str "write")
 g_Ask:M.mg "Ask"=U (.ref Z.w.A)
 g_Asks:M.mg "Asks"=U (.ref Z.w.S)
 g_Hints:M.mg "Hints"=U (.ref Z.w.H)
 g_Letter:M.mg "Letter"=U (.ref Z.w.L)
 g_NoHouse:M.mg "NoHouse"=U (.ref Z.x_NoHouse)
 g_Post:M.mg "Post"=U (.ref Z.w.P)
 g_Thing:M.mg "Thing"=U (.ref Z.w.T)
 g_World:M.mg "World"=U (.ref Z.w.W)
 hK:Z.K.In M.base
 hB:∀P∈([Z.o,Z.d]:LL),M.base.BuiltinsAt M.mg P
structure Gd(n:Nat)(M:Md)(Z:Zs):Prop where
 T:Tx M Z
 Xh:AQ 0 n=Af->Hf M Z.K 1 "is_whole" (Zz Z)
 RC:AQ 1 n=Af->Hf M Z.K 1 "is_text_up_to" (Tv Z)
 Y8:AQ 2 n=Af->Hf M Z.K 2 "is_word" (eW Z)
 fR:AQ 3 n=Af->Hf M Z.K 3 "is_house" (Zw Z)
 tO:AQ 4 n=Af->Hf M Z.K 2 "is_key" (kY Z)
 fU:AQ 5 n=Af->Hf M Z.K 2 "is_value" (Zy Z)
 Aab:AQ 6 n=Af->hF M Z 1 "later" tF
 Xf:AQ 7 n=Af->hF M Z 1 "count_of" Zv
 Yo:AQ 8 n=Af->hF M Z 2 "joined" kZ
 lG:AQ 9 n=Af->hF M Z 2 "written" fB
 UC:AQ 10 n=Af->hK M Z 1 "Letter" Z.w.L To
 Vz:AQ 11 n=Af->hM M Z 1 Z.w.L "shown" Ut
 SI:AQ 12 n=Af->hM M Z 3 Z.w.P "send" X2
 VA:AQ 13 n=Af->hM M Z 2 Z.w.P "letters" Uu
 Qz:AQ 14 n=Af->hF M Z 1 "is_whole" Wu
 Xg:AQ 15 n=Af->hF M Z 2 "is_key" Zx
 ZL:AQ 16 n=Af->hF M Z 2 "is_word" X7
 Uc:AQ 17 n=Af->hF M Z 3 "is_house" Ws
 Yn:AQ 18 n=Af->hF M Z 2 "is_value" Wt
 TJ:AQ 19 n=Af->hM M Z 2 Z.w.P "letter_of" SD
 ZI:AQ 20 n=Af->hM M Z 3 Z.w.P "take" X3
 RQ:AQ 21 n=Af->hF M Z 3 "need_asker" Ww
 ON:AQ 22 n=Af->hM M Z 3 Z.w.W "thing_of" SE
 QP:AQ 23 n=Af->hM M Z 4 Z.w.W "need_house" RH
 SV:AQ 24 n=Af->hM M Z 1 Z.w.T "homes" Vh
 QM:AQ 25 n=Af->hM M Z 1 Z.w.T "is_home" Tp
 Rq:AQ 26 n=Af->hM M Z 1 Z.w.T "shelf" Vi
 VC:AQ 27 n=Af->hM M Z 3 Z.w.T "lay" X4
 UE:AQ 28 n=Af->hM M Z 3 Z.w.W "letters" Tr
 WG:AQ 29 n=Af->hM M Z 5 Z.w.W "shelf" Vn
 Ua:AQ 30 n=Af->hK M Z 1 "Ask" Z.w.A Wl
 Ub:AQ 31 n=Af->hM M Z 1 Z.w.S "begin" Wn
 Sd:AQ 32 n=Af->hM M Z 3 Z.w.S "begin_write" RG
 Rn:AQ 33 n=Af->hM M Z 2 Z.w.S "ask_of" Vf
 fQ:AQ 34 n=Af->hM M Z 3 Z.w.A "hear" Zu
 Y9:AQ 35 n=Af->Hf M Z.K 1 "roof_of" (eY Z)
 Za:AQ 36 n=Af->Hf M Z.K 1 "room_of" (eZ Z)
 ZK:AQ 37 n=Af->hF M Z 1 "drawer_of" X6
 fX:AQ 38 n=Af->Hf M Z.K 1 "place_of" (ZF Z)
 lF:AQ 39 n=Af->Hf M Z.K 2 "best_of" (eU Z)
 Aac:AQ 40 n=Af->Hf M Z.K 4 "order" (tG Z)
 tN:AQ 41 n=Af->Hf M Z.K 2 "beside" (kW Z)
 Aaa:AQ 42 n=Af->Hf M Z.K 5 "dealt" (tE Z)
 V5:AQ 43 n=Af->hF M Z 5 "dealt" eV
 P5:AQ 44 n=Af->hM M Z 1 Z.w.W "leave_with_neighbour" PM
 RK:AQ 45 n=Af->hM M Z 4 Z.w.W "bring_state" Ru
 SW:AQ 46 n=Af->hM M Z 4 Z.w.W "known" Vm
 P7:AQ 47 n=Af->hM M Z 4 Z.w.W "send_to_homes" QZ
 WH:AQ 48 n=Af->hM M Z 5 Z.w.W "write" Vo
 Vx:AQ 49 n=Af->hM M Z 1 Z.w.A "found" X1
 Yj:AQ 50 n=Af->hM M Z 1 Z.w.A "status" Wm
 RI:AQ 51 n=Af->hM M Z 1 Z.w.A "is_done_write" Rr
 Q8:AQ 52 n=Af->hM M Z 2 Z.w.A "asker_and_count" QY
 SH:AQ 53 n=Af->hM M Z 3 Z.w.S "begin_read" Sb
 Yl:AQ 54 n=Af->hM M Z 5 Z.w.W "read" Wq
 VH:AQ 55 n=Af->hM M Z 3 Z.w.W "status" UA
 WD:AQ 56 n=Af->hM M Z 3 Z.w.W "found" Vk
 RJ:AQ 57 n=Af->hM M Z 4 Z.w.W "bring_query" Rt
 Rw:AQ 58 n=Af->hM M Z 5 Z.w.W "bring_answer" Q5
 Wz:AQ 59 n=Af->hM M Z 6 Z.w.W "bring" Vj
 WE:AQ 60 n=Af->hM M Z 4 Z.w.W "homes" Vl
 VG:AQ 61 n=Af->hM M Z 1 Z.w.W "houses" Uz
 Yk:AQ 62 n=Af->hM M Z 1 Z.w.W "away" Wo
 Ym:AQ 63 n=Af->hF M Z 2 "are_counts" Wr
 WK:AQ 64 n=Af->hF M Z 3 "need_counts" Vu
 VB:AQ 65 n=Af->hK M Z 1 "Thing" Z.w.T Uv
 Se:AQ 66 n=Af->hM M Z 6 Z.w.T "settle" Uw
 UD:AQ 67 n=Af->hM M Z 7 Z.w.W "declare" Tq
 Wy:AQ 68 n=Af->hK M Z 1 "Post" Z.w.P Vg
 Vy:AQ 69 n=Af->hK M Z 1 "Hints" Z.w.H Ur
 Wx:AQ 70 n=Af->hK M Z 1 "Asks" Z.w.S Ve
 VE:AQ 71 n=Af->hK M Z 3 "World" Z.w.W Ux
 UB:AQ 72 n=Af->hM M Z 1 Z.w.A "break_off" Tn
 TC:AQ 73 n=Af->hM M Z 2 Z.w.S "break_all" SA
 UG:AQ 74 n=Af->hM M Z 7 Z.w.W "rehouse" Tt
 ZJ:AQ 75 n=Af->hM M Z 5 Z.w.W "lay" X5
 TF:AQ 76 n=Af->Anb M Z.K 1 Z.x_NoHouse "house"
 Qq:AQ 77 n=Af->AkF M Z 4 Z.w.W "need_house" Q6
 UH:AQ 78 n=Af->AkF M Z 5 Z.w.W "shelf" Tu
 VF:AQ 79 n=Af->AkF M Z 5 Z.w.W "fall" Uy
 Pj:AQ 80 n=Af->hF M Z 1 "_law_cell" ZA
 PN:AQ 81 n=Af->hF M Z 1 "_law_mixed" X9
 ZO:AQ 82 n=Af->Hf M Z.K 1 "_law_names" (Yc Z)
 WI:AQ 83 n=Af->hF M Z 1 "_law_names" Vq
 Ud:AQ 84 n=Af->hF M Z 2 "_law_houses" Wv
 SY:AQ 85 n=Af->hF M Z 1 "_law_written" Vt
 Sf:AQ 86 n=Af->hF M Z 1 "_law_join" ZD
 Ue:AQ 87 n=Af->hF M Z 1 "_law_send" ZE
 fV:AQ 88 n=Af->hF M Z 2 "_law_hear" ZC
 UI:AQ 89 n=Af->hF M Z 2 "_law_histories" Tw
 ZM:AQ 90 n=Af->hF M Z 6 "_law_begin" X8
 SX:AQ 91 n=Af->hF M Z 7 "_law_brought" Vp
 ZP:AQ 92 n=Af->hF M Z 3 "_law_other" Yd
 ZN:AQ 93 n=Af->hF M Z 8 "_law_moved" Yb
 WJ:AQ 94 n=Af->hF M Z 6 "_law_nowhere" Vr
 VI:AQ 95 n=Af->hF M Z 6 "_law_right" Ye
 ZQ:AQ 96 n=Af->hF M Z 8 "_law_world" Yg
section
variable{M:Md}{Z:Zs}
def mR(G:Gd 0 M Z):Hf M Z.K 1 "is_whole" (Zz Z):=by
 refine hf (N:=["thing"]) 1 1 G.T.d G.T.a_is_whole (λφ H r=>O8<|QH<|VW (Ph Sr Nt G.T.b_isinstance Boot.b_isinstance<|N7 (P9 0)<|N7 (aX (v:=.ty "int") Nt G.T.b_int Boot.b_int Y) Om)<|W8<|Agk<|Ph Sr Nt G.T.b_isinstance Boot.b_isinstance<|N7 (P9 0)<|N7 (aX (v:=.ty "bool") Nt G.T.b_bool Boot.b_bool Y) Om) (λc H Q E h=>?_);let(x,n,rfl,a,k):=h;refine#[_,Y,x,"int",_,_,Y,a.ty,cV a.mem Nq,_,Y,?_];have b:=a.mem;simp only[AB,CO,F3]at b;rcases b with rfl|rfl|rfl|rfl|rfl|rfl|rfl
 case inr.inr.inl=>exact#[_,Y,x,"bool",_,_,Y,a.ty,cV a.mem Nq,_,Y,k]
 case inr.inl=>exact#[_,Y,x,"bool",_,_,Y,a.ty,cV a.mem Nq,_,Y,k]
 all_goals exact k
def XE(G:Gd 1 M Z):Hf M Z.K 1 "is_text_up_to" (Tv Z):=by
 refine hf (N:=["thing","length"]) 2 2 G.T.d G.T.a_is_text_up_to (λφ H r=>O8<|QH<|VW (Ph Sr Nt G.T.b_isinstance Boot.b_isinstance<|N7 (P9 0)<|N7 (aX (v:=.ty "str") Nt G.T.b_str Boot.b_str Y) Om)<|W8<|Y1 (o0 yP) (o0 yP) (PU) (Ph lN Nt G.T.b_len Boot.b_len<|N7 (P9 0) Om)<|P9 1) (λj H Q E h=>?_);let(x,n,m,rfl,a,i,k):=h;refine#[_,Y,x,"str",_,_,Y,a.ty,cV a.mem Nq,_,Y,?_];have f:=a.mem;by_cases e:n="str"
 ·subst e;let(z,rfl):=a.AhG;refine#[_,Y,z,Y,i z Y,_,_,Y,Y,_,Y,?_];refine vA (λg=>?_) (λg=>?_)
  ·refine#[_,Y,_,_,Y,Y,?_];have c:decide (1<=z.length)=Af:=by simpa using Nr
   simpa[upTo,c]using k
  ·have c:decide (1<=z.length)=Am:=by simpa using Nr
   simpa[upTo,c]using k
 ·have b:=a.Adg e;rw[oZ b]at k;simp only[kinds,AB,CO,F3]at f;rcases f with rfl|rfl|rfl|rfl|rfl|rfl|rfl
  case inr.inr.inr.inl=>exact absurd Y e
  all_goals exact k
def qK(G:Gd 2 M Z):Hf M Z.K 2 "is_word" (eW Z):=by
 refine hf (N:=["thing"]) 1 1 G.T.d G.T.a_is_word (λφ H r=>O8<|QH<|VW (Qf (G.RC Y) r.1<|N7 (P9 0)<|N7 (Va Nt G.T.c_WORD_LENGTH) Om)<|W8<|Ph (bK Y) Nt G.T.b_all Boot.b_all<|N7 (kO Y (AdO<|P9 0) Y Np (Rc (sc0:=NW kT) Y Np) Np (Qj<|PB) (λ_ _ _=>Qx (i:=0) (show(["sign"]:LK).Nodup by decide +kernel) Y<|B8 Y) (λ_ _ _=>VZ) λ_ _ _=>aY Abb (P9 0) (Va Nt G.T.c_WORD_SIGNS) (by first|exact U8 _ _ _|rfl)) Om) (λw H Q E h=>?_);let(x,n,rfl,t,m,k):=h;refine#[_,Y,x,n,_,Y,t,λz e=>Dh<|V4<|m z e,_,Y,?_];by_cases l:∃z,x=.str z
 ·obtain ⟨z,rfl⟩:=l;show if(decide _&&decide _)=Af then _ else _
  refine AlG (λj=>?_) (λj=>?_)
  ·refine #[_,Y,z,Y,λD u=>?_];refine WX yA (by rw[Ac];exact Dh<|V4<|m z Y) u (λ_=>Af) (λv=>match v with|.str y=>.bl (!(Dw "abcdefghijklmnopqrstuvwxyz0123456789" y 0 ("abcdefghijklmnopqrstuvwxyz0123456789":Ay).length 1).isEmpty)|v=>v) ?_ ?_
   ·intro i v A R B b C p s;obtain⟨c,F,rfl⟩:∃c,z.cps.toList[i]?=U c/\v=.str ⟨(zTo [c])⟩:=by
     rw[Ag]at b;cases e:z.cps.toList[i]? with
     |none=>rw[e]at b;cases b
     |some c=>rw[e]at b;exact#[c,Y,(AS b).symm]
    exact#[Wk.set Y,AaR #[_,Y,_,_,Y,Y,p _ Y<|Ob.refl _]]
   ·intro q g o;have e:(FD (λv=>match v with|V.str y=>V.bl (!(Dw "abcdefghijklmnopqrstuvwxyz0123456789" y 0 ("abcdefghijklmnopqrstuvwxyz0123456789":Ay).length 1).isEmpty)|v=>v)<|IB (λ_=>Af)<|FD (λc=>V.str ⟨(zTo [c])⟩) z.cps.toList)=(z.cps.toList.map low).map V.bl:=by
     rw[Ce.mpr (λ_ _=>rfl),As,As];refine A4 λc _=>?_
     show V.bl _=V.bl _;rw[<-AlE]
    rw[e]at g;refine#[D,_,Y,PX.of g,?_];have f:AfC (.str z)=(z.cps.toList.map low).all id:=by
     show aS z=_;unfold aS;have a:(decide (1<=z.length)&&decide (z.length<=8))=Af:=by simp only[Be,Bx]at j ⊢;omega
     rw[a,Ck];rfl
    rw[<-f];exact k q o
  ·have f:AfC (.str z)=Am:=by
    show aS z=_;unfold aS;have a:(decide (1<=z.length)&&decide (z.length<=8))=Am:=by simp only[Ii,F4]at j ⊢;omega
    rw[a,Du]
   rw[f]at k;exact k H<|Ob.refl _
 ·have f:AfC x=Am:=by
   cases x with
   |str z=>exact absurd #[z,Y] l
   |_=>rfl
  rw[f]at k;exact AiG (oZ λz e=>l #[z,e]) (k H<|Ob.refl _)
def mK(G:Gd 3 M Z):Hf M Z.K 3 "is_house" (Zw Z):=by
 refine hf (N:=["thing","words"]) 1 2 G.T.d G.T.a_is_house (λφ H r=>OS (AjG (Ad1<|Agy<|Ph Sr Nt G.T.b_isinstance Boot.b_isinstance<|N7 (P9 0)<|N7 (aX (v:=.ty "str") Nt G.T.b_str Boot.b_str Y) Om) (O8<|QH<|AhZ)<|yV) (OS (Qs r.2 1<|Zo F.plainAttrs_str F.slot_str_split F.type_str_split rJ (P9 0)<|N7 (SQ) Om) (O8<|QH<|VW (aY yO (Ph Qv Nt G.T.b_len Boot.b_len<|N7 (P9 1) Om) (PU)<|YV _)<|W8<|Ph (bK Y) Nt G.T.b_all Boot.b_all<|N7 (kO Y (VX<|P9 1) Y Np (Rc (sc0:=NW eL) Y Np) Np (Qj<|PB) (λ_ _ _=>Qx (i:=0) (show(["word"]:LK).Nodup by decide +kernel) Y<|B8 Y) (λ_ _ _=>VZ) λ_ _ _=>Qf (G.Y8 Y) r.1<|N7 (P9 0) Om) Om))) (λW H Q E h=>?_)
 let(x,n,rfl,o,m,k):=h;refine#[_,Y,x,"str",_,_,Y,o.ty,cV o.mem Nq,_,Y,?_];by_cases s:n="str"
 ·subst s;let(z,rfl):=o.AhG;have m:=m z Y;refine#[_,Y,Y,z,_,Y,Y,Np,Nr,λp t=>?_];rw[uL];have a:=lB z 46;generalize Dk z ⟨(zTo [46])⟩=b at *;have f:=AcW a m;have u:=xF a;have q:b.length<=1001:=by
   have:=fE (c:=46) z.cps.toList;rw[<-a,Ac]at this;exact AL this<|CS m
  refine#[_,Y,p,_,Y,.inl<|PX.of N1,Y,_,Y,?_];rw[Ac];refine Aop (λO=>?_) (λO=>?_)
  ·refine #[_,Y,p,Y,#[_,PX.of N1],λD I=>?_];refine WX (cU<|PX.of N1) (by rw[Ac];exact Dh<|BJ q Nq) I (λ_=>Af) (λv=>match v with|.str y=>.bl (aS y)|v=>v) ?_ ?_
   ·intro i v X R R' j y0 P j0;obtain⟨y,L,rfl⟩:∃y,y∈b/\v=.str y:=by
     rw[Ag]at j;cases e:b[i]? with
     |none=>rw[e]at j;cases j
     |some y=>rw[e]at j;exact#[y,Dl.mpr #[i,e],(AS j).symm]
    refine#[Wk.set Y,AaR #[_,Y,.str y,"str",Y,#[.str y,Nq],(λw e=>by cases e;exact f y L),λu9 A=>P _ Y A]]
   ·intro S l B;have e:(FD (λv=>match v with|V.str y=>V.bl (aS y)|v=>v)<|IB (λ_=>Af)<|b.map V.str)=(b.map aS).map V.bl:=by
     rw[Ce.mpr (λ_ _=>rfl),As,As];rfl
    rw[e]at l;refine#[D,_,Y,PX.of l,?_];have g:Afy (.str z)=(b.map aS).all id:=by show gF z=_;rw[<-u,Ao Nr,Ck];rfl
    rw[<-g];exact k S<|((Ob.refl _).upd t).trans B
  ·have g:Afy (.str z)=Am:=by
    show gF z=_;rw[<-u,Ar Nr,Du]
   rw[g]at k;exact k _<|(Ob.refl _).upd t
 ·have g:Afy x=Am:=by
   cases x with
   |str z=>exact absurd Y<|o.Adg s z
   |_=>rfl
  rw[g]at k;have C:(n == "str"||(n == "bool"&&"str" == "int"))=Am:=by simp[s]
  rw[C];exact k _ (Ob.refl _)
def uU(G:Gd 4 M Z):Hf M Z.K 2 "is_key" (kY Z):=by
 refine hf (N:=["thing"]) 1 1 G.T.d G.T.a_is_key (λφ H r=>O8<|QH<|VW (Qf (G.Xh Y) r.1<|N7 (P9 0) Om)<|W8<|Y1 (o0 yP) (o0 Adp) (PU) (P9 0)<|Va Nt G.T.c_KEYS) (λg H Q E h=>?_);let(x,n,rfl,b,k):=h;refine#[_,Y,x,n,Y,b,_,Y,?_];by_cases c:n="int"
 ·subst c;let(m,rfl):=b.AlF;refine AaR #[_,Y,_,_,Y,Y,_,Y,vA (λa=>?_) λa=>?_]
  ·refine#[_,_,Y,Y,?_];have k:Q (.bl<|decide _&&decide _) H:=k;rw[Ao a]at k;exact k
  ·have k:Q (.bl<|decide _&&decide _) H:=k;rw[Ar a]at k;exact k
 ·have e:(n == "int")=Am:=by simpa using c
  have f:Ano x=Am:=by
   cases x with
   |int m=>exact absurd Y<|b.Ajh c m
   |_=>rfl
  rw[f]at k;exact AiG e k
def mQ(G:Gd 5 M Z):Hf M Z.K 2 "is_value" (Zy Z):=by
 refine hf (N:=["thing"]) 1 1 G.T.d G.T.a_is_value (λφ H r=>O8<|QH<|VW (Qf (G.RC Y) r.1<|N7 (P9 0)<|N7 (Va Nt G.T.c_VALUE_LENGTH) Om)<|W8<|Ph (bK Y) Nt G.T.b_all Boot.b_all<|N7 (kO Y (AdO<|P9 0) Y Np (Rc (sc0:=NW eM) Y Np) Np (Qj<|PB) (λ_ _ _=>Qx (i:=0) (show(["sign"]:LK).Nodup by decide +kernel) Y<|B8 Y) (λ_ _ _=>VZ) λ_ _ _=>Y1 kM kM (SQ) (P9 0)<|SQ) Om) (λC H Q E h=>?_);let(x,n,rfl,w,o,k):=h;refine#[_,Y,x,n,_,Y,w,λz e=>Dh<|V4<|o z e,_,Y,?_];by_cases l:∃z,x=.str z
 ·obtain ⟨z,rfl⟩:=l;show if(decide _&&decide _)=Af then _ else _
  refine AlG (λj=>?_) (λj=>?_)
  ·refine #[_,Y,z,Y,λD t=>?_];refine WX yA (by rw[Ac];exact Dh<|V4<|o z Y) t (λ_=>Af) (λv=>match v with|.str y=>.bl (seen<|y.cps.toList.headD 0)|v=>v) ?_ ?_
   ·intro i v p R I f F A u;obtain⟨c,j0,rfl⟩:∃c,z.cps.toList[i]?=U c/\v=.str ⟨(zTo [c])⟩:=by
     rw[Ag]at f;cases e:z.cps.toList[i]? with
     |none=>rw[e]at f;cases f
     |some c=>rw[e]at f;exact#[c,Y,(AS f).symm]
    have q:=A p Y<|Ob.refl _;refine#[Wk.set Y,AaR #[_,Y,_,_,Y,Y,_,Y,?_]];refine Aoo (AiT c AiA) (λm=>?_) (λm=>?_)
    ·refine #[_,_,Y,Y,?_];have e:(!decide (("~":Ay).cps.toList<(⟨(zTo [c])⟩:Ay).cps.toList))=seen c:=by
      rw[AfK c Akg];unfold seen;rw[Ao m,Bool.true_and]
     rw[e];exact q
    ·have e:seen c=Am:=by
      unfold seen;rw[Ar m,Du]
     have q:R (.bl<|seen c) p:=q;rw[e]at q;exact q
   ·intro B g s;have e:(FD (λv=>match v with|V.str y=>V.bl (seen<|y.cps.toList.headD 0)|v=>v)<|IB (λ_=>Af)<|FD (λc=>V.str ⟨(zTo [c])⟩) z.cps.toList)=(z.cps.toList.map seen).map V.bl:=by
     rw[Ce.mpr (λ_ _=>rfl),As,As];rfl
    rw[e]at g;refine#[D,_,Y,PX.of g,?_];have b:AfB (.str z)=(z.cps.toList.map seen).all id:=by
     show AhF z=_;unfold AhF;have a:(decide (1<=z.length)&&decide (z.length<=40))=Af:=by simp only[Be,Bx]at j ⊢;omega
     rw[a,Ck];rfl
    rw[<-b];exact k B s
  ·have b:AfB (.str z)=Am:=by
    show AhF z=_;unfold AhF;have a:(decide (1<=z.length)&&decide (z.length<=40))=Am:=by simp only[Ii,F4]at j ⊢;omega
    rw[a,Du]
   rw[b]at k;exact k H<|Ob.refl _
 ·have b:AfB x=Am:=by
   cases x with
   |str z=>exact absurd #[z,Y] l
   |_=>rfl
  rw[b]at k;exact AiG (oZ λz e=>l #[z,e]) (k H<|Ob.refl _)
def AaM(G:Gd 6 M Z):hF M Z 1 "later" tF:=by
 refine cP (N:=["one","other"]) 2 2 G.T.d G.T.a_later (λφ H r=>NT (O5 (OL Af3 (Pk PD (ev 0)<|N2)<|Pk PD (ev 1)<|N2) (NV<|Oh<|aP (OL Af2 (Pk PD (ev 0)<|N2)<|Pk PD (ev 1)<|N2) (ev 0)<|ev 1)<|Oe) (NV<|Oh<|aP (OL Adm (Pk PD (ev 1)<|N2)<|Xu) (ev 1)<|ev 0)) ?_
 rintro F f S Q⟨a,b,rfl,c⟩;refine#[_,_,_,Y,Y,Y,_,_,_,Y,Y,Y,Y,?_];by_cases h:a.1=b.1
 ·refine Oi (by rw[Ao<|congrArg _ h];rfl) #[_,_,_,Y,Y,Y,Y,?_];show Q3 _ _ _;cases e:b.2 with
  |none=>exact Ot Nt<|OP (by rw[AhM h e]at c;exact c)
  |some z=>exact Oi Nt<|OP (by rw[AhN h (by rw[e];nofun)]at c;exact c)
 ·refine Ot (by rw[Ar λz=>h (by injection z)];rfl) #[_,_,_,Y,Y,Y,_,_,_,Y,Y,Y,?_];by_cases g:b.1<a.1
  ·exact Ot (Ao g)<|OP (by rw[AcR g]at c;exact c)
  ·exact Oi (Ar g) (OP (by rw[AcS Nr]at c;exact c))
def mJ(G:Gd 7 M Z):hF M Z 1 "count_of" Zv:=by
 refine cP (N:=["state","asker"]) 2 2 G.T.d G.T.a_count_of (λφ H r=>NV<|Oh<|aP (tM r.1 (ev 1)<|ev 0) (Pk PD (N6 r.1 (ev 0)<|ev 1)<|N2)<|N2) ?_;rintro F b S Q⟨E,n,rfl,a⟩;refine tX (.inl Y) ?_;show Q3 _ _ _;rw[RR];unfold Yw at a;cases e:look E n with
 |none=>rw[e]at a;exact Oi Nt<|OP a
 |some x=>rw[e]at a;exact Ot Nt (zG (.inl Y) #[RW x,by rw[RR,e];rfl,#[_,_,_,Y,Y,Y,OP a]])
def uV(G:Gd 8 M Z):hF M Z 2 "joined" kZ:=by
 refine cP (N:=["one","other","state","asker","entry"]) 2 5 G.T.d G.T.a_joined (λφ H r=>NT (Og r.2 2<|OY Qt Nt G.T.b_dict Boot.b_dict<|NS (ev 0) NU) (NT (Aef (ev 1) (xV (n:=2) Y<|Su (OU r.2 3)<|Su (OU r.2 4)<|mF)<|NV<|OW r.1 (ev 2) (ev 3)<|aP (tM r.1 (ev 3)<|ev 2) (Of (G.Aab Y) r.1<|NS (N6 r.1 (ev 2)<|ev 3)<|NS (ev 4) NU)<|ev 4) (NV<|Oh<|ev 2))) ?_
 rintro F C S Q⟨h,c,rfl,rfl,D,E,w⟩;refine#[Rv h,.inl Y,RM (.own 0) λa B _=>?_];refine#[Rv c,Y,.inl #[Y,λb q=>#[λj g o=>∃u v,g=[U _,U _,U _,u,v]/\o=NY S a (.own 0,.d<|Rv<|Ow h<|c.take j),#[none,none,Y,Y],?_,?_]]]
 ·rintro j x g o k⟨u,v,rfl,rfl⟩p;rw[Ag,Ag]at k;let(y,t,rfl):=AA.mp k;let(f,s,rfl):=AA.mp t;have l:a∉[b]:=λm=>by
   cases An.mp m;have:=p q;rw[NZ]at this;cases this
  have I:(Ow h<|c.take j).length<=2000:=AL (jW _ _) (by rw[Bm];omega);have z:c.take (j+1)=c.take j++[f]:=by rw[Cr,s];rfl
  have i:∀x,x=Yh _ f.2->AeT [b] (RW x) _ (.f<|.str f.1) (λA=>∃u v,[U<|Pa h,U<|Pa c,U<|.f<|.ref a,U<|.f<|.str f.1,U<|RW f.2]=[U _,U _,U _,u,v]/\A=NY S a (.own 0,.d<|Rv<|Ow h<|c.take _)) (NY S a (.own 0,.d<|Rv<|Ow h<|c.take j)):=λx k=>by
   refine pJ NZ l (by rw[Ac];omega) ?_;refine#[_,_,Y,?_];rw[Sa,V0,z,join_snoc,k]
  refine#[_,Y,Y,?_];refine tX (.inr #[a,_,Y,NZ]) ?_;show Q3 _ _ _;rw[RR];cases e:look _ f.1 with
  |none=>exact Oi Nt<|i f.2 (by rw[e];rfl)
  |some x=>exact Ot Nt<|zG (.inr #[a,_,Y,NZ]) #[RW x,by rw[RR,e];rfl,.mk x f.2 Y<|i _ (by rw[e];rfl)]
 ·rintro g o⟨u,v,rfl,rfl⟩;rw[Ac,Ac,BI];exact gM NZ (by rw[RX B];exact w)
def qN(G:Gd 9 M Z):hF M Z 2 "written" fB:=by
 refine cP (N:=["state","asker","value","made","name","entry"]) 3 6 G.T.d G.T.a_written (λφ H r=>NT (Og r.2 3<|OA) (NT (Aef (ev 0) (xV (n:=2) Y<|Su (OU r.2 4)<|Su (OU r.2 5)<|mF)<|NV<|OW r.1 (ev 3) (ev 4)<|P1<|NS (Pk PD (ev 5)<|N2)<|NS (Xu) NU) (NT (OW r.1 (ev 3) (ev 1)<|P1<|NS (Oy P8 (Of (G.Xf Y) r.1<|NS (ev 0)<|NS (ev 1) NU)<|N2)<|NS (ev 2) NU) (NV<|Oh<|ev 3)))) ?_
 rintro F B S Q⟨E,n,v,rfl,rfl,z,k⟩;refine RM (.own 0) λa p _=>?_
 refine#[Rv E,Y,.inl #[Y,λb s=>#[λj c e=>∃x y,c=[U _,U _,U _,U _,x,y]/\e=NY S a (.own 0,.d<|Rv<|dJ<|E.take j),#[none,none,Y,Y],?_,?_]]]
 ·rintro j x c e i⟨u,w,rfl,rfl⟩h;rw[Ag,Ag]at i;let(y,q,rfl):=AA.mp i;let(f,l,rfl):=AA.mp q;have g:a∉[b]:=λm=>by
   cases An.mp m;have:=h s;rw[NZ]at this;cases this
  have A:(dJ<|E.take j).length<=1000:=AL (aW _) (by rw[Bm];omega);have o:E.take (j+1)=E.take j++[f]:=by rw[Cr,l];rfl
  refine#[_,Y,Y,#[_,_,_,Y,Y,Y,Y,?_]];refine pJ NZ g (by rw[Ac];omega) ?_;refine#[_,_,Y,?_];rw[Sa,show D.t [.f _,.f .OH]=RW (f.2.1,none)from Y,V0,o,rR]
 ·rintro c e⟨u,w,rfl,rfl⟩;rw[Ac,Ac,BI];refine .mk E n Y #[Y,?_];refine pJ NZ nofun (by rw[Ac];have:=aW E;omega)<|PZ ?_;rw[Sa,show D.t [.f _,.f<|.str v]=RW (Yw E n+1,U v)from Y,V0];exact gM NZ (by rw[RX p];exact k)
def Xx(G:Gd 10 M Z):hK M Z 1 "Letter" Z.w.L To:=by
 refine AiE (N:=["self","number","label","ask","house","key","state"]) 7 7 G.T.a_Letter___init G.T.m_Letter G.T.g_Letter (λφ H r=>NT (O1 (ev 0)<|ev 1) (NT (O1 (ev 0)<|ev 2) (NT (O1 (ev 0)<|ev 3) (NT (O1 (ev 0)<|ev 4) (NT (O1 (ev 0)<|ev 5) (NV<|O1 (ev 0)<|OY Qt Nt G.T.b_dict Boot.b_dict<|NS (ev 6) NU)))))) ?_
 rintro F g S Q⟨a,r,n,h,d,f,b,E,e,rfl,rfl,c⟩;refine pK G.T.fL ?_;refine pK G.T.fL ?_;refine pK G.T.fL ?_;refine pK G.T.fL ?_;refine pK G.T.fL ?_;refine#[_,.inl Y,Pw ?_];exact pK G.T.fL c
def YD(G:Gd 11 M Z):hM M Z 1 Z.w.L "shown" Ut:=by refine Ta (N:=["self"]) 1 1 G.T.a_Letter_shown G.T.cl_Letter (λφ H r=>NV<|Oh<|P1<|NS (N5<|ev 0)<|NS (N5<|ev 0)<|NS (N5<|ev 0)<|NS (N5<|ev 0)<|NS (N5<|ev 0) NU) ?_;rintro F b S Q⟨L,rfl,a⟩;exact Zf Y (Zf Y<|Zf Y<|Zf Y<|Zf Y #[Y,OP a])
def gO(G:Gd 12 M Z):hM M Z 3 Z.w.P "send" X2:=by
 refine Ta (N:=["self","label","ask","house","key","state"]) 6 6 G.T.a_Post_send G.T.cl_Post (λφ H r=>NT (O1 (ev 0)<|Oy P8 (N5<|ev 0)<|N2) (NV<|OW r.1 (N5<|ev 0) (N5<|ev 0)<|Aco (G.UC Y) G.T.cl_Letter r.1<|NS (N5<|ev 0)<|NS (ev 1)<|NS (ev 2)<|NS (ev 3)<|NS (ev 4)<|NS (ev 5) NU)) ?_
 rintro F n S Q⟨i,A,w,o,j,l,c,E,rfl,b,h,f,hF,d⟩;refine Sj b _ ?_;refine Ap4 b _ {w with O6:=w.O6+1} λg a e=>?_
 refine Sj a _ ?_;refine#[.own 0,λx k m=>?_];refine .mk x _ _ _ _ _ _ _ g Y Y #[Y,gM NZ ?_];rw[RX k];refine Sj a _<|Sj a _ ?_;refine#[_,_,Y,.inl #[_,a .uw _ Y,hF,by rw[Ac];exact Bl f Nq,?_]];refine d _ (a.upd .uw Y ?_<|by walk_at"w")<|e.trans<|Fr.set<|a .uw _ Y;exact Ag7 _ λM hM=>Int.lt_add_one_of_le (h M hM)
def YE(G:Gd 13 M Z):hM M Z 2 Z.w.P "letters" Uu:=by refine Ta (N:=["self"]) 1 1 G.T.a_Post_letters G.T.cl_Post (λφ H r=>NV<|Oh<|Ahu (v9:=[none,U 0]) Y (O4 (uE Y) Nt G.T.b_sorted Boot.b_sorted<|NS (N5<|ev 0) NU) Y Np (Rc (sc0:=NW Vc) Y Np) Np (Qj<|Qh Y (B8 Y) Y<|PB) (λ_ _ _=>Qx (i:=0) (show(["number","self"]:LK).Nodup by decide +kernel) Y<|B8 Y) (λ_ _ _=>wO) (λ_ _ _=>QK (G.Vz Y) r.1<|N6 r.1 (N5<|ev 1)<|ev 0)) ?_;rintro F o S Q⟨i,A,w,rfl,b,e,n,g⟩;refine Sj b _ ?_;refine#[_,w.Ls.map _,bG b .uw,by rw[As,As];rfl,e.up,Pw ?_];refine#[_,.inl Y,.inl Y,λp c m=>?_];refine Akx _ (λL=>.f _) AkJ c (λd=>.inl Y) Nr (λL h d j k=>?_)<|OP g;have a:=b.zR (x:=(.own 0,.l d)) c;refine Sj a _ (zG (bG a .uw) #[_,pE e.nd h,Arb Y,.mk L Y k])
def cK(G:Gd 14 M Z):hF M Z 1 "is_whole" Wu:=by
 refine(G.Xh Y).imp λd H Q E⟨F,S,e,c,R,b,h,k⟩=>?_
 let(n,rfl,a):=h;let(v,rfl,w):=Rj b;cases Ou.mp w;exact .mk _ "int" rfl (ApY _) (k.flat R a)
def mO(G:Gd 15 M Z):hF M Z 2 "is_key" Zx:=by
 refine(G.tO Y).imp λd H Q E⟨F,S,e,c,R,b,h,k⟩=>?_
 let(n,rfl,a):=h;let(v,rfl,w):=Rj b;cases Ou.mp w;exact .mk _ "int" rfl (ApY _) (k.flat R a)
def gU(G:Gd 16 M Z):hF M Z 2 "is_word" X7:=by
 refine(G.Y8 Y).imp λg H Q E⟨F,S,i,d,R,b,h,k⟩=>?_
 let(z,rfl,c,a):=h;let(v,rfl,w):=Rj b;cases Ou.mp w;exact .mk _ "str" rfl (Apv _) (λy e=>by injection e with e;rw[<-e];exact c) λj s=>k _ _ _ _ (Px.Qo s.n) (R.same s) .f a
def cH(G:Gd 17 M Z):hF M Z 3 "is_house" Ws:=by
 refine(G.fR Y).imp λg H Q E⟨F,S,i,d,R,b,h,k⟩=>?_
 let(z,rfl,c,a):=h;let(v,rfl,w):=Rj b;cases Ou.mp w;exact .mk _ "str" rfl (Apv _) (λy e=>by injection e with e;rw[<-e];exact c) λj s=>k _ _ _ _ (Px.Qo s.n) (R.same s) .f a
def cJ(G:Gd 18 M Z):hF M Z 2 "is_value" Wt:=by
 refine(G.fU Y).imp λg H Q E⟨F,S,i,d,R,b,h,k⟩=>?_
 let(z,rfl,c,a):=h;let(v,rfl,w):=Rj b;cases Ou.mp w;exact .mk _ "str" rfl (Apv _) (λy e=>by injection e with e;rw[<-e];exact c) λj s=>k _ _ _ _ (Px.Qo s.n) (R.same s) .f a
def WU(G:Gd 19 M Z):hM M Z 2 Z.w.P "letter_of" SD:=by
 refine Ta (N:=["self","number"]) 2 2 G.T.a_Post_letter_of G.T.cl_Post (λφ H r=>NT (O5 (PW.nR<|w_or (Q7<|Pp<|Of (G.Qz Y) r.1<|NS (ev 1) NU)<|TL<|TB r.1 (ev 1)<|N5<|ev 0) (NV<|RN)<|Oe) (NV<|Oh<|N6 r.1 (N5<|ev 0)<|ev 1)) ?_
 rintro F e S Q⟨i,A,w,L,rfl,a,b,c,d⟩;refine .mk _ Y ?_;refine Sj a _ ?_;refine tX (bG a .uw) ?_;refine Oi (by rw[pE b.nd c];rfl) ?_;exact Sj a _ (zG (bG a .uw) #[_,pE b.nd c,OP d])
def gP(G:Gd 20 M Z):hM M Z 3 Z.w.P "take" X3:=by
 refine Ta (N:=["self","number","letter"]) 2 3 G.T.a_Post_take G.T.cl_Post (λφ H r=>NT (Og r.2 2<|Od (G.TJ Y) r.1 (ev 0)<|NS (ev 1) NU) (NT (Oq<|xQ (N5<|ev 0)<|ev 1) (NV<|Oh<|ev 2))) ?_
 rintro F f S Q⟨i,A,w,L,rfl,a,b,c,e,d⟩;refine#[RS a _,.mk i A w L Y a b c ?_];symm;refine Sj a _ ?_;refine#[.inl #[_,bG a .uw],?_];refine Ap3 (a .uw _ Y) e ?_;refine#[_,pE b.nd c,?_];rw[Aiy];exact OP (d _ (a.AoZ _)<|Fr.set<|a .uw _ Y)
def cO(G:Gd 21 M Z):hF M Z 3 "need_asker" Ww:=by refine cP (N:=["asker"]) 1 1 G.T.d G.T.a_need_asker (λφ H r=>NV<|O5 (Q7<|Pp<|Of (G.ZL Y) r.1<|NS (ev 0) NU) (NV<|RN)<|Oe) ?_;rintro F e S Q⟨z,rfl,a,c,b⟩;refine .mk z Y c ?_;exact Oi (by rw[a];rfl) b
def WV(G:Gd 22 M Z):hM M Z 3 Z.w.W "thing_of" SE:=by
 refine Ta (N:=["self","key"]) 2 2 G.T.a_World_thing_of G.T.cl_World (λφ H r=>NT (O5 (PW.nR<|w_or (Q7<|Pp<|Of (G.Xg Y) r.1<|NS (ev 1) NU)<|TL<|TB r.1 (ev 1)<|N5<|ev 0) (NV<|RN)<|Oe) (NV<|Oh<|N6 r.1 (N5<|ev 0)<|ev 1)) ?_
 rintro F e S Q⟨i,A,w,T,rfl,b,a,c,d⟩;refine .mk _ Y ?_;refine Oi (by rw[AcF<|a.key T c];rfl) ?_;refine Sj b _ ?_;refine tX (bG b _) ?_;refine Oi (by rw[VJ a c];rfl) ?_;exact Sj b _ (zG (bG b .decl) #[_,VJ a c,OP d])
def UZ(G:Gd 23 M Z):hM M Z 4 Z.w.W "need_house" RH:=by refine Ta (N:=["self","house"]) 2 2 G.T.a_World_need_house G.T.cl_World (λφ H r=>NV<|O5 (PW.nR<|w_or (Q7<|Pp<|Of (G.Uc Y) r.1<|NS (ev 1) NU)<|TL<|TB r.1 (ev 1)<|N5<|ev 0) (NV<|RN)<|Oe) ?_;rintro F g S Q⟨i,A,w,z,rfl,d,f,a,e,b,c⟩;refine .mk z Y e ?_;refine Oi (by rw[a];rfl) ?_;refine Sj d _ ?_;refine tX (.inl Y) ?_;exact Oi (by rw[Ug,Ao b];rfl) c
def ZW(G:Gd 24 M Z):hM M Z 1 Z.w.T "homes" Vh:=by refine Ta (N:=["self"]) 1 1 G.T.a_Thing_homes G.T.cl_Thing (λφ H r=>NV<|Oh<|OY (Ae8 Y) Nt G.T.b_list Boot.b_list<|NS (N5<|ev 0) NU) ?_;rintro F e S Q⟨i,A,w,T,rfl,c,a,b,d⟩;refine zF (c.jB a b) Y #[_,.inr #[_,_,Y,c.Uq a b],Pw<|OP ?_];rw[AgX];exact d
def Xy(G:Gd 25 M Z):hM M Z 1 Z.w.T "is_home" Tp:=by refine Ta (N:=["self","house"]) 2 2 G.T.a_Thing_is_home G.T.cl_Thing (λφ H r=>NV<|Oh<|Acm r.1 (ev 1)<|N5<|ev 0) ?_;rintro F e S Q⟨i,A,w,T,z,rfl,c,a,b,d⟩;refine zF (c.jB a b) Y<|tX (.inr #[_,_,Y,c.Uq a b])<|OP ?_;rw[AeF];exact d
def ZX(G:Gd 26 M Z):hM M Z 1 Z.w.T "shelf" Vi:=by refine Ta (N:=["self","house"]) 2 2 G.T.a_Thing_shelf G.T.cl_Thing (λφ H r=>NV<|Oh<|OY Qt Nt G.T.b_dict Boot.b_dict<|NS (Rk r.1 (N5<|ev 0) (ev 1)<|OA) NU) ?_;rintro F e S Q⟨i,A,w,T,z,rfl,c,a,b,d⟩;refine zF (c.jB a b) Y #[.inl #[_,.inr #[_,_,Y,c.Uq a b]],Pw<|Anu (.inr #[_,_,Y,c.Uq a b])<|PZ ?_];rw[show bW _=Pa []from Y,pC];exact#[_,.inl Y,Pw<|OP d]
def gQ(G:Gd 27 M Z):hM M Z 3 Z.w.T "lay" X4:=by
 refine Ta (N:=["self","house","state"]) 3 3 G.T.a_Thing_lay G.T.cl_Thing (λφ H r=>NV<|O5 (Pp<|Od (G.QM Y) r.1 (ev 0)<|NS (ev 1) NU) (NV<|OW r.1 (N5<|ev 0) (ev 1)<|Of (G.Yo Y) r.1<|NS (N6 r.1 (N5<|ev 0)<|ev 1)<|NS (ev 2) NU)<|Oe) ?_;rintro F g S Q⟨i,A,w,T,z,E,rfl,rfl,c,a,b,e,f,d⟩;refine#[zC (c.jB a b) Y,.mk i A w T z Y c a b ?_];by_cases m:z∈T.sh.map (·.1)
 ·refine Ot (Ao m) ?_;refine zF (c.jB a b) Y<|zG (.inr #[_,_,Y,c.Uq a b]) #[_,Aha m,.mk _ E Y Y e f ?_];refine zF (c.jB a b) Y<|pJ (c.Uq a b) nofun (by unfold Uo;rw[Ac];have:=a.bU T b;omega)<|PZ ?_;rw[Ad4];refine d _ ?_<|Fr.set<|c.Uq a b;unfold QG;rw[Az m];exact c.Apk a b _
 ·refine Oi (Ar m) (d S ?_ Fr.refl);unfold QG;rw[Aq m,AbB a b];exact c
def XA(G:Gd 28 M Z):hM M Z 3 Z.w.W "letters" Tr:=by refine Ta (N:=["self"]) 1 1 G.T.a_World_letters G.T.cl_World (λφ H r=>NV<|Oh<|QK (G.VA Y) r.1<|N5<|ev 0) ?_;rintro F e S Q⟨i,A,w,rfl,a,c,d,b⟩;exact Sj a _ #[RS a _,.mk i A w Y a c d<|OP b]
def Z2(G:Gd 29 M Z):hM M Z 5 Z.w.W "shelf" Vn:=by
 refine Ta (N:=["self","house","key"]) 3 3 G.T.a_World_shelf G.T.cl_World (λφ H r=>NT (Oq<|Od (G.QP Y) r.1 (ev 0)<|NS (ev 1) NU) (NV<|Oh<|Od (G.Rq Y) r.1 (Od (G.ON Y) r.1 (ev 0)<|NS (ev 2) NU)<|NS (ev 1) NU)) ?_
 rintro F j S Q⟨i,A,w,T,z,rfl,b,g,d,h,e,a,c,f⟩;refine#[RS b _,.mk i A w z Y b g d h e ?_];exact#[RS b _,.mk i A w T Y b a c #[zC (b.jB a c) Y,.mk i A w T z Y b a c<|OP f]]
def bZ(G:Gd 30 M Z):hK M Z 1 "Ask" Z.w.A Wl:=by
 refine AiE (N:=["self","kind","asker","key","enough","state","ahead"]) 7 7 G.T.a_Ask___init G.T.m_Ask G.T.g_Ask (λφ H r=>NT (O1 (ev 0)<|ev 1) (NT (O1 (ev 0)<|ev 2) (NT (O1 (ev 0)<|ev 3) (NT (O1 (ev 0)<|ev 4) (NT (O1 (ev 0)<|OY Qt Nt G.T.b_dict Boot.b_dict<|NS (ev 5) NU) (NT (O1 (ev 0)<|OY Aaq Nt G.T.b_list Boot.b_list<|NS (ev 6) NU) (NT (O1 (ev 0)<|OA) (NV<|O1 (ev 0)<|QQ Nt G.T.c_OPEN)))))))) ?_
 rintro F m S Q⟨a,r,f,d,o,e,k,E,l,j,rfl,rfl,g⟩;refine pK G.T.fA<|pK G.T.fA<|pK G.T.fA<|pK G.T.fA ?_;refine#[_,.inl Y,Pw<|pK G.T.fA ?_];refine#[_,.inl<|.inl Y,Pw<|pK G.T.fA ?_];dsimp only[gA,jM,AkE];refine RM f λh c i=>?_
 have b:a≠h:=λz=>by rw[<-z,NZ]at c;cases c
 rw[N0<|AF b]at c;refine zS ((N0 b).trans NZ) (.inr<|G.T.fA.n _ Np) Y ?_;rw[RP b];exact pK G.T.fA (g h b c i)
def cC(G:Gd 31 M Z):hM M Z 1 Z.w.S "begin" Wn:=by
 refine Ta (N:=["self","ask"]) 2 2 G.T.a_Asks_begin G.T.cl_Asks (λφ H r=>NT (Oq<|uM F.plainAttrs_list F.slot_list_append F.type_list_append XQ (N5<|ev 0)<|NS (ev 1) NU) (NV<|Oh<|O4 Qu Nt G.T.b_len Boot.b_len<|NS (N5<|ev 0) NU)) ?_
 rintro F m S Q⟨i,A,w,a,h,B,l,rfl,rfl,g,e,f,n,k,j⟩;have b:=(g.zR (x:=(.wd i<|.N3 w.Ms.length,.d<|RO B.N3)) f).zR (x:=(.wd i<|.ask w.Ms.length,Aal Z.w.A h B)) ((N0 n).trans e);refine Sj b _ ?_;refine#[.inl #[Y,_,bG b _],#[_,_,_,_,Y,Y,b _ _ Y,by rw[Ac,By];omega,?_]];have c:=g.Aje B a h e f n;refine Sj c .asks ?_;refine#[_,.inl<|bG c _,OP ?_];rw[Ac,By,AN];refine j _ c ?_;exact((Fr.new f).trans (Fr.new<|(N0 n).trans e)).trans (Fr.set<|b _ _ Y)
def UY(G:Gd 32 M Z):hM M Z 3 Z.w.S "begin_write" RG:=by
 refine Ta (N:=["self","asker","key","enough","state"]) 5 5 G.T.a_Asks_begin_write G.T.cl_Asks (λφ H r=>NV<|Oh<|Od (G.Ub Y) r.1 (ev 0)<|NS (Aco (G.Ua Y) G.T.cl_Ask r.1<|NS (QQ Nt G.T.c_WRITE)<|NS (ev 1)<|NS (ev 2)<|NS (ev 3)<|NS (ev 4)<|NS (Wh<|NU) NU) NU) ?_;rintro F p S Q⟨i,A,w,z,k,n,E,rfl,c,g,f⟩;refine#[RS c _,?_];refine#[Y,Pw ?_];refine#[.wd i<|.ask w.Ms.length,λa j q=>?_];refine .mk a _ (.wd i<|.N3 w.Ms.length) "write" z k n E [] S Y Y λh d l o=>#[Y,OP ?_]
 exact .mk i A w a h _ S Y Y c j l d g λe b m=>OP (f a h e b m)
def ZU(G:Gd 33 M Z):hM M Z 2 Z.w.S "ask_of" Vf:=by
 refine Ta (N:=["self","number"]) 2 2 G.T.a_Asks_ask_of G.T.cl_Asks (λφ H r=>NT (O5 (PW.nR<|w_or (Q7<|Pp<|Of (G.Qz Y) r.1<|NS (ev 1) NU)<|w_or (OL Aa8 (ev 1)<|N2)<|TL<|OL Af2 (ev 1)<|O4 Qu Nt G.T.b_len Boot.b_len<|NS (N5<|ev 0) NU) (NV<|RN)<|Oe) (NV<|Oh<|Pk PR (N5<|ev 0)<|Oy Ado (ev 1)<|N2)) ?_
 rintro F d S Q⟨i,A,w,n,rfl,a,c,b⟩;refine .mk _ Y ?_;refine Sj a _ ?_;refine#[_,.inl<|bG a _,?_];refine Oi (Ar (by rw[Ac,By];omega)) ?_;refine Sj a _ ?_;refine#[_,_,_,bG a _,Y,?_,OP b];rw[show((n):Int)+1-1=n by omega];exact Pz (by rw[Ag,CH c];rfl)
def mG(G:Gd 34 M Z):hM M Z 3 Z.w.A "hear" Zu:=by
 refine Ta (N:=["self","house","state"]) 3 3 G.T.a_Ask_hear G.T.cl_Ask (λφ H r=>NT (O5 (PW.nR<|w_or (OL Af3 (N5<|ev 0)<|QQ Nt G.T.c_OPEN)<|TL<|tM r.1 (ev 1)<|N5<|ev 0) (NV<|Oh<|TU)<|Oe) (NT (OW r.1 (N5<|ev 0) (ev 1)<|TU) (NT (O1 (ev 0)<|Of (G.Yo Y) r.1<|NS (N5<|ev 0)<|NS (ev 2) NU) (NT (O5 (OL Aa8 (O4 Aih Nt G.T.b_len Boot.b_len<|NS (N5<|ev 0) NU)<|N5<|ev 0) (NV<|Oh<|TU)<|Oe) (NT (O1 (ev 0)<|QQ Nt G.T.c_DONE) (NV<|Oh<|TU)))))) ?_
 rintro F y S Q⟨i,A,w,n,B,z,E,rfl,rfl,g,f,x,u,v,a⟩;have m:=g.Xn f;have p:=g.Aok f;have s:=g.Aqh f;have b:({w with Ms:=w.Ms.set n B})=w:=by
  have:w.Ms.set n B=w.Ms:=by
   apply ET;intro j;by_cases e:n=j
   ·subst e;rw[Bd (Ah.mp f).1,f]
   ·rw[BB e]
  rw[this]
 unfold Po at a;refine zF m Y #[Y,?_];by_cases k:B.Pf="open"
 ·refine Oi (by rw[Ao<|congrArg _ k];rfl) ?_;refine zF m Y<|tX (.inr #[_,_,Y,p])<|PZ ?_;rw[pB];by_cases h:z∈B.N3
  ·rw[Az<|.inr h]at a;exact Ot (Ao h)<|OP<|a S (by rw[b];exact g) Fr.refl
  ·refine Oi (Ar h) ?_;rw[Aq λq=>q.elim (λq=>q k) h]at a;refine zF m Y<|pJ p nofun (by rw[zH];omega)<|PZ ?_;rw[AgE _ _ h];have c:NY S _ (.wd i<|.N3 n,.d<|RO<|B.N3++[z]) _=_:=(N0 s).trans m;refine zF c Y<|.mk _ E Y Y u v ?_;refine zS c (.inl Y) Y ?_;refine zF NZ Y ?_;refine#[_,_,_,Y,(N0<|AF s).trans NZ,nofun,?_];refine zF NZ Y ?_;rw[zH,AN];have t:∀o,Fr i S (NY _ _ (.wd i<|.ask n,o)):=λo=>(Fr.set p).trans (Fr.set c)
   by_cases l:((B.N3.length)+1)<B.QF
   ·rw[Az l]at a;exact Ot (Ao<|by exact l)<|OP<|a _ (g.Ak3 f)<|t _
   ·rw[Aq l]at a;refine Oi (Ar<|by exact l) ?_;refine zS NZ (.inl Y) Y ?_;rw[Sa];exact OP<|a _ (g.Ak3 f)<|t _
 ·rw[Az<|.inl k]at a;exact Ot (by rw[Ar λq=>k (by injection q)];rfl) (OP<|a S (by rw[b];exact g) Fr.refl)
def qL(G:Gd 35 M Z):Hf M Z.K 1 "roof_of" (eY Z):=by refine hf (N:=["house"]) 1 1 G.T.d G.T.a_roof_of (λφ H r=>O8<|QH<|dM vC (Zo F.plainAttrs_str F.slot_str_partition F.type_str_partition nK (P9 0)<|N7 (SQ) Om)<|PU) (λe H Q E h=>?_);let(z,f,r,rfl,g,c,b,k):=h;refine#[_,Y,Y,z,_,Y,Y,Np,Nr,λp a=>?_];exact#[p,_,_,_,Y,Y,RE.of N1,Y,k _ _ (by exact Adu c b)<|(Ob.refl _).upd a]
def qM(G:Gd 36 M Z):Hf M Z.K 1 "room_of" (eZ Z):=by refine hf (N:=["house"]) 1 1 G.T.d G.T.a_room_of (λφ H r=>O8<|QH<|dM vC (Zo F.plainAttrs_str F.slot_str_rpartition F.type_str_rpartition iE (P9 0)<|N7 (SQ) Om)<|PU) (λe H Q E h=>?_);let(z,f,r,rfl,g,c,b,k):=h;refine#[_,Y,Y,z,_,Y,Y,Np,Nr,λp a=>?_];exact#[p,_,_,_,Y,Y,RE.of N1,Y,k _ _ (by exact Abw c b)<|(Ob.refl _).upd a]
def gT(G:Gd 37 M Z):hF M Z 1 "drawer_of" X6:=by refine cP (N:=["key"]) 1 1 G.T.d G.T.a_drawer_of (λφ H r=>NV<|Oh<|Oy PF (ev 0)<|QQ Nt G.T.c_DRAWERS) ?_;rintro F b S Q⟨k,rfl,a⟩;exact#[(by decide:(0:Int)<110),OP a]
def mX(G:Gd 38 M Z):Hf M Z.K 1 "place_of" (ZF Z):=by refine hf (N:=["drawer","plot"]) 2 2 G.T.d G.T.a_place_of (λφ H r=>O8<|QH<|PH (oC T4) (PH (o0 YX) (PH (oC Adq) (PH (o0 YX) (PU)<|PH (oC VU) (P9 0)<|Va Nt G.T.c_PLOTS)<|P9 1)<|PH (oC T4) (P9 0)<|Va Nt G.T.c_PLOTS)<|Va Nt G.T.c_PLOTS) (λc H Q E h=>?_);let(d,t,rfl,a,b,k):=h;walk_at"r";exact k
def qI(G:Gd 39 M Z):Hf M Z.K 2 "best_of" (eU Z):=by
 refine hf (N:=["drawer","plots"]) 2 2 G.T.d G.T.a_best_of (λφ H r=>O8<|QH<|Ph (Aaw Y) Nt G.T.b_min Boot.b_min<|N7 (kO (v9:=[none,U 0]) Y (AjB<|P9 1) Y Np (Rc (sc0:=NW kR) Y Np) Np (Qj<|Qh Y (B8 Y) Y<|PB) (λ_ _ _=>Qx (i:=0) (show(["plot","drawer"]:LK).Nodup by decide +kernel) Y<|B8 Y) (λ_ _ _=>VZ) λ_ _ _=>Qf (G.fX Y) r.1<|N7 (P9 1)<|N7 (P9 0) Om) Om) (λy H Q E h=>?_);let(d,t,b,rfl,e,c,z,s,k):=h;refine#[_,Y,t,Y,#[_,e],λD w=>?_];refine WX (AfD e) (by rw[Ac,Bf];omega) w (λ_=>Af) (λv=>match v with|.int i=>.int (pl d i)|v=>v) ?_ ?_
 ·intro i x g R A q f m p;let(u,o,rfl):=Afx q;have:=s u<|Av o;exact#[Wk.set Y,AaR #[_,Y,_,Y,d,u,Y,Nr,Nr,m _ Y<|Ob.refl _]]
 intro g a f;have l:((b.map V.int).filter λ_=>Af).map (λv=>match v with|.int i=>.int (pl d i)|v=>v)=(b.map<|pl d).map V.int:=by rw[Ce.mpr (λ_ _=>rfl),As,As];rfl
 rw[l]at a;refine#[D,b.map _,Y,PX.of a,?_,λM n j=>?_]
 ·rw[Ac];exact C5.mpr c
 ·rw[Aif n j];exact k _ f
def AaN(G:Gd 40 M Z):Hf M Z.K 4 "order" (tG Z):=by
 let(c,a,hc):=G.T.a_order;let(X,hX,hG):=G.T.d;have hC:=Ft G.T.hK hc;have hB:=G.T.hB Z.o Nu;refine ApI (N:=["houses","drawer"]) 2 (jD.mk (ps:=["houses","drawer"]) hX hG a<|by walk_at"b") (λf A o s H vs Q E r h=>?_);let(p,D,z,d,rfl,hp,y0,w,d0,d1,tb,k):=h;refine#[_,O8<|QH<|AdI (v9:=[U 1,U 0]) Y hC hB Y (λu fd L I h3=>by cases fd;cases L;cases I;rfl) Y Y Y Np Y (Rc (sc0:=NW oK) Y Np) (Qh Y (B8 Y) Y<|Qh Y (B8 Y) Y<|PB) (AmC r.1) Nt G.T.b_sorted Y (P9 0) (λq c' s H=>have y:=r.1.AoV _;Qf (G.lF Y) y (N7 (P9 1)<|N7 (Qg y (P9 2)<|P9 0) Om)),?_];let(O,S,hT):=tb;refine#[_,Y,p,D,z.map _,Y,.inl hp,y0.keys,(by rw[Ac];have:=w.bU;omega),O,S,hT,λH2 g u9=>#[z.map λe=>uD d e.2,by rw[Ac,Ac],?_,?_]]
 ·intro i n m B v W R C hR;have j:=(u9.n S (by let(q,j0,_):=g;exact#[q,j0])).trans C.n;rw[Ag]at B v;cases P:z[i]? with
  |none=>rw[P]at B;cases B
  |some e=>rw[P]at B v;cases B;cases v;have v:=Av P;let(t,L,I):=y0.val w.nd v;exact#[_,Y,_,Y,_,Y,p,.ref t,Y,(by rw[<-L];exact bH.k (k:=.inr e.1)<|j.dk hp),d,t,e.2,Y,j.Ael I,w.ne e v,(by have:=w.len e v;omega),w.Aon e v,λH' s'=>hR _ s']
 ·intro ms l W pm pw C hl;have j:=(u9.n S (by let(q,j0,_):=g;exact#[q,j0])).trans C.n;have e1:(ms.map λx=>V.str x.2)=(YY z d).map V.str:=by
   rw[<-Abh w d0 d1 pm pw,As];rfl
  rw[e1];have F:=(Ob.refl W).upd (o:=.lst<|(YY z d).map V.str) hl;exact k l _ (Tab.same F<|Tab.same C g) (j.trans F.n) (λb ps hb e=>F _ _<|C _ _<|u9 _ _ hb e) (j.free hl) N1
def uT(G:Gd 41 M Z):Hf M Z.K 2 "beside" (kW Z):=by
 refine hf (N:=["house","others","under_roof","in_room"]) 2 4 G.T.d G.T.a_beside (λφ H r=>OS (XW (i₀:=2) r.2 Y (B8 Y) (v9:=[none,U 0]) Y (VX<|P9 1) Y Np (Rc (sc0:=NW eI) Y Np) Np (Qj<|Qh Y (B8 Y) Y<|PB) (λ_ _ _=>Qx (i:=0) (show(["other","house"]:LK).Nodup by decide +kernel) Y<|B8 Y) (λ_ _ _=>nT<|XX yO (Qf (G.Y9 Y) r.1<|N7 (P9 0) Om) (Qf (G.Y9 Y) r.1<|N7 (P9 1) Om)<|YV _) λ_ _ _=>P9 0)
   (OS (XW (i₀:=3) r.2 Y (B8 Y) (v9:=[none,U 0]) Y (VX<|P9 2) Y Np (Rc (sc0:=NW eI) Y Np) Np (Qj<|Qh Y (B8 Y) Y<|PB) (λ_ _ _=>Qx (i:=0) (show(["other","house"]:LK).Nodup by decide +kernel) Y<|B8 Y) (λ_ _ _=>nT<|XX yO (Qf (G.Za Y) r.1<|N7 (P9 0) Om) (Qf (G.Za Y) r.1<|N7 (P9 1) Om)<|YV _) λ_ _ _=>P9 0)
   (O8<|QH<|AdJ<|N7 (Ph Qv Nt G.T.b_len Boot.b_len<|N7 (P9 2) Om)<|N7 (Ph Qv Nt G.T.b_len Boot.b_len<|N7 (P9 3) Om) Om))) (λvs H Q E h=>?_)
 let(z,q,A,rfl,hz,hm,lm,u9,k):=h;let(lz,za,zb,zc,C,ha,hb,X):=hz;have n:z.cps.toList=(za++46::zb)++46::zc:=by rw[C];simp
 have rz:=sI C ha;have mz:=sJ n X;refine#[_,Y,q,Y,#[_,u9],λD hD=>?_];refine WX (cU u9) (by rw[Ac,Bf];omega) hD (λv=>match v with|.str o=>decide (Q4 o=Q4 z)|_=>Am) id ?_ ?_
 ·intro i x H1 R R' g j0 m a;let(o,I,rfl):=bC g;let(O,oa,W,S,y,e,L,j):=hm o<|Av I;refine#[Wk.set Y,_,Y,o,_,_,Y,O,y,e,λy1 H2 w f=>?_];refine#[_,Y,z,_,_,Y,lz,C,ha,λy2 H3 t u=>?_];refine#[Y,_,Y,?_];dsimp only at m a;rw[sI y e,rz]at m a;refine AlH (λh=>#[_,Y,m _ (Ao ?_)<|f.trans u]) (λh=>a _ (Ar λq=>h ?_)<|f.trans u)
  ·rw[<-w,<-t,h]
  ·exact oS (by rw[w,t,q])
 intro H1 b j0;rw[Eg]at b;have eF:(A.map V.str).filter (λv=>match v with|.str o=>decide (Q4 o=Q4 z)|_=>Am)=(A.filter λo=>decide<|Q4 o=Q4 z).map V.str:=by rw[Fp];rfl
 rw[eF]at b;generalize hms:A.filter (λo=>decide<|Q4 o=Q4 z)=c at *;have B:∀o∈c,Good o:=λo h=>by rw[<-hms]at h;exact hm o (Bp.mp h).1
 have aa:c.length<=100:=by rw[<-hms];exact AL (BK _ _) lm
 refine#[_,Y,D,Y,#[_,PX.of b],λD2 F=>?_];refine WX (cU<|PX.of b) (by rw[Ac,Bf];omega) F (λv=>match v with|.str o=>decide (Sy o=Sy z)|_=>Am) id ?_ ?_
 ·intro i x H2 R R' g f m a;let(o,I,rfl):=bC g;let(O,oa,W,S,y,e,L,j):=B o<|Av I;have s:o.cps.toList=(oa++46::W)++46::S:=by rw[y];simp
  refine#[Wk.set Y,_,Y,o,_,_,Y,O,s,j,λy1 H3 w u=>?_];refine#[_,Y,z,_,_,Y,lz,n,X,λy2 H4 t P=>?_];refine#[Y,_,Y,?_];dsimp only at m a;rw[sJ s j,mz]at m a;refine AlH (λh=>#[_,Y,m _ (Ao ?_)<|u.trans P]) (λh=>a _ (Ar λq=>h ?_)<|u.trans P)
  ·rw[<-w,<-t,h]
  ·exact oS (by rw[w,t,q])
 intro H2 l f;rw[Eg]at l;have eG:(c.map V.str).filter (λv=>match v with|.str o=>decide (Sy o=Sy z)|_=>Am)=(c.filter λo=>decide<|Sy o=Sy z).map V.str:=by rw[Fp];rfl
 rw[eG]at l;refine#[_,Y,D,_,Y,.inl<|PX.of<|f _ _ b,_,Y,D2,_,Y,.inl<|PX.of l,(by show 2<=sizeLine;decide),λp y0=>?_];refine k p _ ((j0.trans f).free y0) ?_<|(j0.trans f).upd y0;rw[N1,Ac,Ac,<-hms];unfold Aig Ak5;have eC:(λo=>decide (Sy o=Sy z)&&decide (Q4 o=Q4 z))=λo=>decide (Q4 o=Q4 z)&&decide (Sy o=Sy z):=by
  funext o
  rw[Bool.and_comm]
 rw[GA,GA,List.filter_filter,eC]
def AaL(G:Gd 42 M Z):Hf M Z.K 5 "dealt" (tE Z):=by
 let(c,a,hc):=G.T.a_dealt;let(X,hX,hG):=G.T.d;have hC:=Ft G.T.hK hc;have hB:=G.T.hB Z.d Nu;refine ApI (N:=["houses","drawer","many","waiting","taken","house"]) 6 (jD.mk (ps:=["houses","drawer","many"]) hX hG a<|by walk_at"b") (λf A o s H vs Q E r h=>?_);let(p,aj,Hs,d,m,rfl,hp,hk,P,d0,d1,tb,td,k):=h;refine #[_,OS (Qs r.2 3<|Qf (G.Aac Y) r.1<|N7 (P9 0)<|N7 (P9 1) Om)
   (OS (Qs r.2 4<|vR<|Om)
   (OS (Qw (PW.pt<|AgF (XX (o0 Adp) (Ph Qv Nt G.T.b_len Boot.b_len<|N7 (P9 4) Om) (P9 2)<|YV _)<|yX<|XX (o0 AhY) (Ph Qv Nt G.T.b_len Boot.b_len<|N7 (P9 3) Om) (PU)<|YV _) (OS (Qs r.2 5<|Agj (v9:=[U 4]) Y hC hB Y (λu fd h1 h2 h3=>by cases fd;cases h1;cases h2;rfl) Y Y Y Np Y (Rc (sc0:=NW oF) Y Np) (Qh Y (B8 Y) Y<|PB) (AmB r.1) (Am0 r.1) Nt G.T.b_min Y (P9 3) (λq c' s H=>have af:=r.1.AoU _;Qf (G.tN Y) af (N7 (P9 0)<|N7 (P9 1) Om)))
   (OS (XU<|Zo F.plainAttrs_list F.slot_list_remove F.type_list_remove vI (P9 3)<|N7 (P9 5) Om)
   (O8<|XU<|Zo F.plainAttrs_list F.slot_list_append F.type_list_append VT (P9 4)<|N7 (P9 5) Om))))
   (O8<|QH<|P9 4))),?_]
 have T:=G.T;refine#[_,Y,_,Y,p,aj,Hs,d,Y,hp,hk,P,d0,d1,tb,λW H1 an s1 ag W0 hW=>?_];have ak:UT Z.d H1:=by let(ps,h1,h2):=td;exact#[ps,ag _ _ (AF T.ne_t) h1,h2.n s1]
 refine#[Nq,λA hA=>?_];have y0:A≠W:=λz=>by rw[z,hW]at hA;cases hA
 have A0:=s1.free hA;have s2:=s1.upd (o:=.lst []) hA;have u2:=(Ob.refl H1).upd (o:=.lst []) hA;have W2:=u2 _ _ hW;have A2:(upd H1 A _) A=U (.lst<|([]).map V.str):=N1;have ac:=Tab.same u2 an;have aa:=Tab.same u2 ak;refine#[λq J v=>∃(w e:LK)(u:Mn),J=[U _,U _,U _,U _,U _,u]/\v W=U (.lst<|w.map _)/\v A=U (.lst<|e.map _)/\e.length<=m/\TV (m-e.length) w e=OT Hs d m/\w.Nodup/\w.length<=30/\e.length+w.length<=30/\(∀z∈w,Good z)/\(∀z∈e,Good z)/\RV Z.o v/\UT Z.d v/\Pl H v/\q=w.length,
  #[_,YY Hs d,[],none,Y,W2,A2,Bo _,Y,Af9 P d,by rw[XS];exact P.bU,by rw[XS];have:=P.bU;simpa using this,λz l=>Abe P l,Nu,ac,aa,s2,Y],?_]
 rintro q J v⟨w,e,u,rfl,W3,S,lt,O,nd,lw,ao,gw,gt,D,j0,s3,rfl⟩;refine#[_,Y,A,_,Y,.inl<|PX.of S,_,Y,_,_,Y,Y,?_];rw[Ac];refine#[_,Y,vA (λh1=>?_) λh1=>?_]
 rotate_left
 ·have e0:m-e.length=0:=Nr;rw[e0]at O;exact#[_,Y,k A v D j0 s3 A0 (by rw[<-O];exact S)]
 refine#[_,Y,W,_,Y,.inl<|PX.of W3,_,_,Y,Y,?_];rw[Ac];refine#[_,Y,vA (λh2=>?_) λh2=>?_]
 rotate_left
 ·have e0:w=[]:=Cm.mp Nr;rw[e0,RZ]at O;exact#[_,Y,k A v D j0 s3 A0 (by rw[<-O];exact S)]
 refine#[_,λap H' h=>h,?_];let(ab,I,ad):=j0;refine#[_,Y,W,w.map _,Y,PX.of W3,by rw[Ac];omega,ab,I,ad,λH4 C sb=>#[λi=>((Aig (w.getD i "") e):Int),λi=>((Ak5 (w.getD i "") e):Int),?_,?_]]
 ·intro i x hi B R s5 hR;let(z,l,rfl):=bC hi;have g:=(sb.n I (by let(q,hq,_):=C;exact#[q,hq])).trans s5.n;have ez:w.getD i ""=z:=by rw[BD,l];rfl
  dsimp only at hR;rw[ez]at hR;exact#[_,Y,_,Y,z,A,e,Y,gw z<|Av l,gt,Nr,PX.of<|g.lst S,λp5 H6 _ e6 s6=>hR H6 p5 s6 e6]
 intro i x B hi u9 s5;let(z,l,rfl):=bC hi;have g:=(sb.n I (by let(q,hq,_):=C;exact#[q,hq])).trans s5.n;have am:XT e w=z:=Ajt l λj y L=>by
  have hj:=(Ah.mp L).1;have ey:w.getD j ""=y:=by rw[BD,L];rfl
  have ez:w.getD i ""=z:=by rw[BD,l];rfl
  have b:=u9 j (by rw[Ac];exact hj);dsimp only at b;rw[ey,ez]at b;unfold T2;omega
 have W5:=g.lst W3;have A5:=g.lst S;have ae:RV Z.o B:=by let(ps,g1,g2):=D;exact#[ps,s5 _ _<|sb _ _ T.ne_t g1,g2.n g]
 have ai:=Tab.same s5 C;refine#[_,Y,Akk<|PX.of W5,_,Y,W,w,z,i,Y,Y,W5,l,λj hj q=>absurd (Al2 nd q l) Nr,?_];rw[qB nd l];have A6:(upd B W<|.lst<|(w.erase z).map V.str) A=U (.lst<|e.map V.str):=by rw[NX y0];exact A5
 have W6:(upd B W<|.lst<|(w.erase z).map V.str) W=U _:=N1;have ah:RV Z.o (upd B W<|.lst<|(w.erase z).map V.str):=ae.Ag6 W5;have al:UT Z.d (upd B W<|.lst<|(w.erase z).map V.str):=ai.Ag6 W5;have s6:Pl H (upd B W<|.lst<|(w.erase z).map V.str):=(s3.trans g).Am1 W0;have t:=Av l;have le:=Cj t;refine#[_,Y,Akk<|PX.of A6,_,Y,A,_,_,Y,Y,A6,by rw[Ac,Bf];omega,(w.erase z).length,Nr,w.erase z,e++[z],U _,Y,?_,?_,?_,?_,nd.erase _,Nr,?_,λy L=>gw y<|Ih L,?_,ah.Ag6 A6,al.Ag6 A6,s6.Am1 A0,Y]
 ·rw[NX<|AF y0];exact W6
 ·rw[N1,AU];rfl
 ·rw[AN,BF];omega
 ·rw[<-O,AN,BF];have hw:w≠[]:=λq=>by rw[q]at t;cases t
  rw[show m-e.length=(m-(e.length+1))+1 by omega,Rf hw,am]
 ·rw[AN,BF];omega
 ·intro y L;rcases AY.mp L with h|h
  ·exact gt y h
  ·rw[An.mp h];exact gw z t
def qJ(G:Gd 43 M Z):hF M Z 5 "dealt" eV:=by
 refine(G.Aaa Y).imp λB H Q E⟨F,S,D,K,R,j,h,k⟩=>?_
 let(g,d,m,rfl,w,t,q,i,y):=h;let(C,j0,A,rfl,a,z,e):=Apz j;cases Ou.mp z;cases Ou.mp e;let(p,b,rfl,o,c):=Afu w a;refine .mk p b g d m Y o c t q i (R.tb _<|.head _) (R.tb _<|.tail _<|.head _) λl I n r s f u=>?_
 have v:=R.Qo s λx m=>by
  rcases AB.mp m with rfl|m
  ·exact n
  ·cases An.mp m;exact r
 exact k _ _ _ _ (Px.Qo s) v (Aad (R.free f) u) y
def Rg(G:Gd 44 M Z):hM M Z 1 Z.w.W "leave_with_neighbour" PM:=by refine Ta (N:=["self","letter","thing","keeper"]) 3 4 G.T.a_World_leave_with_neighbour G.T.cl_World (λφ H r=>tH) ?_;rintro F a S Q h;exact h.1.elim
def UN(G:Gd 45 M Z):hM M Z 4 Z.w.W "bring_state" Ru:=by
 refine Ta (N:=["self","letter","thing"]) 2 3 G.T.a_World_bring_state G.T.cl_World (λφ H r=>NT (Og r.2 2<|N6 r.1 (N5<|ev 0)<|N5<|ev 1) (NT (O5 (Q7<|Pp<|Od (G.QM Y) r.1 (ev 2)<|NS (N5<|ev 1) NU) (NV<|oM)<|Oe) (NT (O5 (tM r.1 (N5<|ev 1)<|N5<|ev 0) (NT (Oq<|Od (G.P5 Y) r.1 (ev 0)<|NS (ev 1)<|NS (ev 2) NU) (NV<|oM))<|Oe) (NT (Oq<|Od (G.VC Y) r.1 (ev 2)<|NS (N5<|ev 1)<|NS (N5<|ev 1) NU) (NV<|O5 (OL U9 (N5<|ev 1)<|QQ Nt G.T.c_PUT) (NV<|Oq<|Od (G.SI Y) r.1 (N5<|ev 0)<|NS (QQ Nt G.T.c_ACK)<|NS (N5<|ev 1)<|NS (N5<|ev 1)<|NS (N5<|ev 1)<|NS (OA) NU)<|Oe))))) ?_
 rintro F u S Q⟨i,A,w,T,L,v,rfl,rfl,c,m,d,e,n,o,x,j,b⟩;refine Sj c _ ?_;refine Zf Y ?_;refine zG (bG c _) #[_,by rw[n];exact VJ d.tok e,?_];refine#[zC (c.jB d.tok e) Y,?_];refine Zf Y<|.mk i A w T _ Y c d.tok e ?_;unfold Xo at b;by_cases g:L.Pn∈T.sh.map (·.1)
 ·rw[Az g]at b;refine Oi (by rw[Ao g];rfl) ?_;refine Zf Y ?_;refine Sj c _ ?_;refine tX (bG c _)<|PZ ?_;rw[pB];by_cases f:L.Pn∈w.away
  ·rw[m]at f;cases f
  ·rw[Aq f]at b;refine Oi (Ar f) ?_;refine#[zC (c.jB d.tok e) Y,?_];refine Zf Y<|Zf Y ?_;refine .mk i A w T _ _ Y Y c d.tok e (d.Apw e _) (d.rK o) λt a l=>?_
   symm;refine Zf Y ?_;refine#[Y,?_];by_cases h:L.OQ="put"
   ·rw[Az h]at b;refine Ot (by rw[Ao<|congrArg _ h]) ?_;refine Sj a _ ?_;refine#[RS a _,?_];refine Zf Y<|Zf Y<|Zf Y<|Pw ?_;exact .mk i A _ "ack" _ _ _ [] Y a d.UQ.le j nofun λp k s=>b p k<|l.trans s
   ·rw[Aq h]at b;exact Oi (by rw[Ar λq=>h (by injection q)])<|b t a l
 ·rw[Aq g]at b;exact Ot (by rw[Ar g];rfl) (b S c Fr.refl)
def Z1(G:Gd 46 M Z):hM M Z 4 Z.w.W "known" Vm:=by
 refine Ta (N:=["self","asker","key"]) 3 3 G.T.a_World_known G.T.cl_World (λφ H r=>NT (Oq<|Of (G.RQ Y) r.1<|NS (ev 1) NU) (NT (Oq<|Od (G.ON Y) r.1 (ev 0)<|NS (ev 2) NU) (NV<|Oh<|OY Qt Nt G.T.b_dict Boot.b_dict<|NS (Rk r.1 (N5<|ev 0) (P1<|NS (ev 1)<|NS (ev 2) NU)<|OA) NU))) ?_
 rintro F g S Q⟨i,A,w,T,z,rfl,a,b,e,c,f,d⟩;refine .mk z Y c f ?_;refine#[RS a _,.mk i A w T Y a b e ?_];symm;refine Sj a _ ?_;refine#[.inr #[_,bG a _],?_];refine#[Y,Pw ?_];refine Akv (kk:=Sx (z,T.key)) (bG a _) ?_;rw[show bW _=Pa []from Y,pA];exact#[_,.inl Y,Pw<|OP d]
def Te(G:Gd 47 M Z):hM M Z 4 Z.w.W "send_to_homes" QZ:=by
 refine Ta (N:=["self","label","number","thing","state","house"]) 5 6 G.T.a_World_send_to_homes G.T.cl_World (λφ H r=>NV<|Y6 (QK (G.SV Y) r.1<|ev 3) (OU r.2 5)<|NV<|Oq<|Od (G.SI Y) r.1 (N5<|ev 0)<|NS (ev 1)<|NS (ev 2)<|NS (ev 5)<|NS (N5<|ev 3)<|NS (ev 4) NU) ?_;rintro F y S Q⟨i,A,w,T,l,n,E,rfl,rfl,k,b,f,s,v,q⟩;refine#[zC (k.jB b f) Y,.mk i A w T Y k b f ?_];refine#[_,.inl Y,.inl Y,Lp.mk (λj c d=>∃u,c=[U _,U _,U _,U _,U _,u]/\Ox Z.w i A (QO w l n T.key E ((T.sh.map (·.1)).take j)) d/\Fr i S d) #[none,Y,by rw[EA,W4];exact k,Fr.refl] (λ_ _ _ _=>.inl Y) ?_ ?_]
 ·rintro j x c d m⟨u,rfl,a,h⟩;rw[Ag]at m;let(e,t,rfl):=AA.mp m;refine Sj a _ ?_;refine#[RS a _,?_];refine zF (a.jB b f) Y ?_;have z:=b.bU T f;refine .mk i A _ l (U n) e.1 _ E Y a (kJ s _ _ _ _ _).le (by rw[dE,Bm,Ac];omega) nofun λo g p=>#[_,Y,?_,h.trans p]
  rw[Cr,Ag,t];show Ox _ i A (QO w l n _ E<|_++[e.1]) o;rw[U6];exact g
 ·rintro c d⟨u,rfl,a,h⟩;rw[Ac,<-Ac,BI]at a;exact q d a h
def Z3(G:Gd 48 M Z):hM M Z 5 Z.w.W "write" Vo:=by
 refine Ta (N:=["self","asker","key","value","thing","state","number"]) 4 7 G.T.a_World_write G.T.cl_World (λφ H r=>NT (Oq<|Of (G.RQ Y) r.1<|NS (ev 1) NU) (NT (Og r.2 4<|Od (G.ON Y) r.1 (ev 0)<|NS (ev 2) NU) (NT (O5 (Q7<|Pp<|Of (G.Yn Y) r.1<|NS (ev 3) NU) (NV<|RN)<|Oe) (NT (Og r.2 5<|Of (G.lG Y) r.1<|NS (Od (G.SW Y) r.1 (ev 0)<|NS (ev 1)<|NS (ev 2) NU)<|NS (ev 1)<|NS (ev 3) NU) (NT (OW r.1 (N5<|ev 0) (P1<|NS (ev 1)<|NS (ev 2) NU)<|ev 5) (NT (Og r.2 6<|Od (G.Sd Y) r.1 (N5<|ev 0)<|NS (ev 1)<|NS (ev 2)<|NS (N5<|ev 4)<|NS (ev 5) NU) (NT (Oq<|Od (G.P7 Y) r.1 (ev 0)<|NS (QQ Nt G.T.c_PUT)<|NS (ev 6)<|NS (ev 4)<|NS (ev 5) NU) (NV<|Oh<|ev 6)))))))) ?_
 rintro F x S Q⟨i,A,w,T,z,v,B,rfl,rfl,c,d,g,m,l,s,j,n,hM,u,p⟩;refine .mk z Y m l ?_;refine#[RS c _,.mk i A w T Y c d.tok g ?_];refine .mk v Y j ?_;refine Oi (by rw[s];rfl) ?_;refine#[RS c _,.mk i A w T z Y c d.tok g m l ?_];refine .mk _ z v Y Y (d.Ai1 z _) ?_;refine Sj c _ ?_;refine#[Y,?_];refine Anv (kk:=Sx (z,T.key)) (c _ _ Y) (by rw[Ac];omega) ?_;rw[bA];have b:=c.AlW<|P2 (λe=>Sx e.1) w.QL ((z,T.key),Xi (OF w.QL z T.key) z v);dsimp only[gA,bN,pX,Aio,lV,oQ,yN];refine Sj b _ ?_;refine#[RS b _,?_];refine zF (b.jB d.tok g) Y ?_;refine .mk i A _ z _ T.w _ Y b (Gg hM Nq) λa h y f o=>?_
 refine#[RS f .top,?_];refine .mk i (iY A _ a h) _ T "put" _ _ Y Y f d.tok g d.UQ n λq k t=>?_
 exact OP (p (iY A _ a h) q Y k<|((Fr.set<|c _ _ Y).trans o).trans t)
def gN(G:Gd 49 M Z):hM M Z 1 Z.w.A "found" X1:=by refine Ta (N:=["self"]) 1 1 G.T.a_Ask_found G.T.cl_Ask (λφ H r=>NV<|Oh<|OY Qt Nt G.T.b_dict Boot.b_dict<|NS (N5<|ev 0) NU) ?_;rintro F d S Q⟨i,A,w,n,B,rfl,c,b,a⟩;exact zF (c.Xn b) Y #[_,.inl Y,Pw<|OP a]
def cA(G:Gd 50 M Z):hM M Z 1 Z.w.A "status" Wm:=by refine Ta (N:=["self"]) 1 1 G.T.a_Ask_status G.T.cl_Ask (λφ H r=>NV<|Oh<|N5<|ev 0) ?_;rintro F d S Q⟨i,A,w,n,B,rfl,c,b,a⟩;exact zF (c.Xn b) Y (OP a)
def UL(G:Gd 51 M Z):hM M Z 1 Z.w.A "is_done_write" Rr:=by
 refine Ta (N:=["self","key"]) 2 2 G.T.a_Ask_is_done_write G.T.cl_Ask (λφ H r=>NV<|Oh<|xP (bQ U9 (N5<|ev 0)<|QQ Nt G.T.c_WRITE)<|xP (bQ U9 (N5<|ev 0)<|ev 1)<|Ahv<|bQ U9 (N5<|ev 0)<|QQ Nt G.T.c_DONE) ?_;rintro F h S Q⟨i,A,w,n,B,k,rfl,g,f,a⟩;have d:=g.Xn f;unfold Als at a;refine zF d Y #[Y,?_];by_cases c:B.kind="write"
 ·rw[Ao c]at a;refine(show Q3 _ _ _ from Ot (Ao<|congrArg _ c) ?_);refine zF d Y #[Y,?_];by_cases b:B.key=k
  ·rw[Ao b]at a;refine(show Q3 _ _ _ from Ot (Ao<|congrArg _ b) ?_);refine zF d Y #[Y,OP ?_];have e:decide (V.str B.Pf=V.str "done")=decide _:=D3.mpr #[λe=>by injection e,λe=>by rw[e]];rw[e];exact a
  ·rw[Ar b]at a;exact((Oi (Ar λe=>b<|by injection e)<|OP a))
 ·rw[Ar c]at a;exact((Oi (Ar λe=>c<|by injection e)<|OP a))
def Td(G:Gd 52 M Z):hM M Z 2 Z.w.A "asker_and_count" QY:=by refine Ta (N:=["self"]) 1 1 G.T.a_Ask_asker_and_count G.T.cl_Ask (λφ H r=>NV<|Oh<|P1<|NS (N5<|ev 0)<|NS (Of (G.Xf Y) r.1<|NS (N5<|ev 0)<|NS (N5<|ev 0) NU) NU) ?_;rintro F e S Q⟨i,A,w,n,B,rfl,d,c,b⟩;have a:=d.Xn c;refine zF a Y ?_;refine zF a Y (zF a Y<|.mk _ _ Y #[Y,OP b])
def Wa(G:Gd 53 M Z):hM M Z 3 Z.w.S "begin_read" Sb:=by
 refine Ta (N:=["self","asker","key","enough","ahead"]) 4 5 G.T.a_Asks_begin_read G.T.cl_Asks (λφ H r=>NT (AgR (i₀:=4) r.2 Y (B8 Y) (v9:=[none,U 2]) Y (N5<|ev 0) Y Np (Rc (sc0:=NW Sz) Y Np) Np (Qj<|Qh Y (B8 Y) Y<|PB) (λ_ _ _=>Qx (i:=0) (show(["ask","key"]:LK).Nodup by decide +kernel) Y<|B8 Y) (λ_ _ _=>Aki<|Pp<|Od (G.RI Y) r.1 (ev 0)<|NS (ev 1) NU) λ_ _ _=>QK (G.Q8 Y) r.1<|ev 0)
   (NV<|Oh<|Od (G.Ub Y) r.1 (ev 0)<|NS (Aco (G.Ua Y) G.T.cl_Ask r.1<|NS (QQ Nt G.T.c_READ)<|NS (ev 1)<|NS (ev 2)<|NS (ev 3)<|NS (OA)<|NS (ev 4) NU) NU)) ?_
 rintro F L S Q⟨i,A,w,z,k,C,rfl,c,t,E⟩;refine Sj c _ ?_;refine#[_,bG c _,.inr ?_,λp e q=>?_]
 ·rw[Ck];exact Bj.mpr λ_ _=>rfl
 refine Ap5 _ (λp=>.f _) (λp=>Aid (p.1.Pb,Yw p.1.RY p.1.Pb)) (λp=>Als k p.1) (λg=>bG (c.zR e) _) (by rw[List.length_zipIdx];omega) (λu n g K j=>?_) (λu n _ g O j=>?_) (gM NZ ?_)<|Am7 A
 ·have d:=Gy.mp n;have b:=c.zR (x:=(.own 0,.l g)) e;exact#[zC (b.Xn d) Y,.mk i A w u.2 u.1 k Y b d j]
 ·have d:=Gy.mp n;have b:=c.zR (x:=(.own 0,.l g)) e;exact#[zC (b.Xn d) Y,.mk i A w u.2 u.1 Y b d j]
 rw[RX e,Am8 _ _ λB=>Aid (B.Pb,Yw _ _)];have j0:((w.Ms.filter<|Als k).map λB=>Aid (B.Pb,Yw B.RY B.Pb))=(SM w k).map Aid:=by unfold SM;rw[As];rfl
 rw[j0];refine#[RS c _,?_];refine Pw ?_;refine#[.wd i<|.ask w.Ms.length,λa I q=>?_];refine .mk a _ (.wd i<|.N3 w.Ms.length) "read" z k C [] _ S Y Y λh s v o=>#[Y,OP ?_]
 exact .mk i A w a h _ S Y Y c I v s t λD m y=>OP (E a h D m y)
def cF(G:Gd 54 M Z):hM M Z 5 Z.w.W "read" Wq:=by
 refine Ta (N:=["self","asker","key","thing","number"]) 3 5 G.T.a_World_read G.T.cl_World (λφ H r=>NT (Oq<|Of (G.RQ Y) r.1<|NS (ev 1) NU) (NT (Og r.2 3<|Od (G.ON Y) r.1 (ev 0)<|NS (ev 2) NU) (NT (Og r.2 4<|Od (G.SH Y) r.1 (N5<|ev 0)<|NS (ev 1)<|NS (ev 2)<|NS (N5<|ev 3) NU) (NT (Oq<|Od (G.P7 Y) r.1 (ev 0)<|NS (QQ Nt G.T.c_QUERY)<|NS (ev 4)<|NS (ev 3)<|NS (OA) NU) (NV<|Oh<|ev 4))))) ?_
 rintro F s S Q⟨i,A,w,T,z,q,rfl,rfl,b,d,f,g,o,m,hM,k⟩;refine .mk z Y g o ?_;refine#[RS b _,.mk i A w T Y b d.tok f ?_];symm;refine Sj b _ ?_;refine#[RS b _,?_];refine zF (b.jB d.tok f) Y ?_;refine .mk i A _ z _ T.r Y b (Gg hM Nq) λa h p c j=>?_
 refine#[RS c .top,?_];refine Pw ?_;refine .mk i (iY A _ a h) _ T "query" _ [] Y Y c d.tok f d.UQ m λl e n=>?_
 exact OP (k (iY A _ a h) l Y e<|j.trans n)
def YK(G:Gd 55 M Z):hM M Z 3 Z.w.W "status" UA:=by refine Ta (N:=["self","number"]) 2 2 G.T.a_World_status G.T.cl_World (λφ H r=>NV<|Oh<|QK (G.Yj Y) r.1<|Od (G.Rn Y) r.1 (N5<|ev 0)<|NS (ev 1) NU) ?_;rintro F e S Q⟨i,A,w,n,B,rfl,a,b,c⟩;have d:=(Ah.mp b).1;exact Sj a _ #[RS a _,.mk i A w n Y a d #[zC (a.Xn b) Y,.mk i A w n B Y a b<|OP c]]
def ZZ(G:Gd 56 M Z):hM M Z 3 Z.w.W "found" Vk:=by refine Ta (N:=["self","number"]) 2 2 G.T.a_World_found G.T.cl_World (λφ H r=>NV<|Oh<|QK (G.Vx Y) r.1<|Od (G.Rn Y) r.1 (N5<|ev 0)<|NS (ev 1) NU) ?_;rintro F e S Q⟨i,A,w,n,B,rfl,a,b,c⟩;have d:=(Ah.mp b).1;exact Sj a _ #[RS a _,.mk i A w n Y a d #[zC (a.Xn b) Y,.mk i A w n B Y a b<|OP c]]
def UM(G:Gd 57 M Z):hM M Z 4 Z.w.W "bring_query" Rt:=by
 refine Ta (N:=["self","letter","thing"]) 2 3 G.T.a_World_bring_query G.T.cl_World (λφ H r=>NT (Og r.2 2<|N6 r.1 (N5<|ev 0)<|N5<|ev 1) (NV<|O5 (PW.nR<|w_and (Pp<|Od (G.QM Y) r.1 (ev 2)<|NS (N5<|ev 1) NU)<|Zd<|TB r.1 (N5<|ev 1)<|N5<|ev 0) (NV<|Oq<|Od (G.SI Y) r.1 (N5<|ev 0)<|NS (QQ Nt G.T.c_TOLD)<|NS (N5<|ev 1)<|NS (N5<|ev 1)<|NS (N5<|ev 1)<|NS (Od (G.Rq Y) r.1 (ev 2)<|NS (N5<|ev 1) NU) NU)<|Oe)) ?_
 rintro F k S Q⟨i,A,w,T,L,rfl,rfl,a,b,d,j,g,h,c⟩;refine Sj a _ ?_;refine Zf Y ?_;refine zG (bG a _) #[_,by rw[j];exact VJ b d,?_];refine#[zC (a.jB b d) Y,?_];refine Zf Y<|.mk i A w T _ Y a b d ?_;unfold pR at c;by_cases f:L.Pn∈T.sh.map (·.1)
 ·refine ((Ot (Ao f) ?_));refine Zf Y ?_;refine Sj a _ ?_;refine tX (bG a _)<|PZ ?_;rw[pB];by_cases e:L.Pn∈w.away
  ·rw[Aq λq=>q.2 e]at c;exact((Oi (by rw[Ao e];rfl)<|c S a Fr.refl))
  ·rw[Az #[f,e]]at c;refine((Ot (by rw[Ar e];rfl) ?_));refine Sj a _ ?_;refine#[RS a _,?_];refine Zf Y<|Zf Y<|Zf Y ?_;refine#[zC (a.jB b d) Y,?_];refine Zf Y<|.mk i A w T _ Y a b d ?_;exact .mk i A w "told" _ _ _ _ Y a g.le h nofun c
 ·rw[Aq λq=>f q.1]at c;exact((Oi (Ar f)<|c S a Fr.refl))
def TX(G:Gd 58 M Z):hM M Z 5 Z.w.W "bring_answer" Q5:=by
 refine Ta (N:=["self","letter","ask"]) 2 3 G.T.a_World_bring_answer G.T.cl_World (λφ H r=>NT (Og r.2 2<|Od (G.Rn Y) r.1 (N5<|ev 0)<|NS (N5<|ev 1) NU) (NV<|O5 (PW.nR<|w_and (Pp<|Od (G.fQ Y) r.1 (ev 2)<|NS (N5<|ev 1)<|NS (N5<|ev 1) NU)<|Zd<|OL U9 (N5<|ev 2)<|QQ Nt G.T.c_READ) (NV<|OW r.1 (N5<|ev 0) (P1<|NS (N5<|ev 2)<|NS (N5<|ev 2) NU)<|Of (G.Yo Y) r.1<|NS (Od (G.SW Y) r.1 (ev 0)<|NS (N5<|ev 2)<|NS (N5<|ev 2) NU)<|NS (QK (G.Vx Y) r.1<|ev 2) NU)<|Oe)) ?_
 rintro F C S Q⟨i,A,w,L,n,B,y,rfl,rfl,g,c,s,f,m,D,z,⟨T,u,k⟩,x,v,b⟩;have o:=(Ah.mp f).1;refine Sj g _ ?_;refine#[RS g _,?_];refine Zf Y ?_;rw[s];refine .mk i A w n Y g o ?_;refine#[zC (g.Xn f) Y,?_];refine Zf Y<|Zf Y ?_;refine .mk i A w n B _ _ Y Y g f Nr (c.rK<|c.sm B<|Av f) (c.rK m) λp a j=>?_
 have e:({w with Ms:=w.Ms.set n (Po B L.Pn L.Xk).1}).Ms[n]?=U _:=Bd o;have t:OJ y (Po B L.Pn _).1.RY:=qO (c.sm B<|Av f) m;have d:=a.Xn e;unfold Ab5 at b;cases l:(Po B _ _).2 with
 |false=>rw[l]at b;exact b p a j
 |true=>
   rw[l]at b;refine zF d Y ?_;refine#[Y,?_];by_cases h:B.kind="read"
   ·rw[Az #[Y,h]]at b;refine(show Q3 _ _ _ from Ot (Ao<|congrArg _<|YL.trans h) ?_);refine#[RS a _,?_];refine zF d Y<|zF d Y ?_;rw[VM.1,VM.2.1,k];refine .mk i A _ T _ Y a c.tok u x v ?_;refine#[zC d Y,?_];refine .mk i A _ n _ Y a e ?_;refine .mk _ _ Y Y (c.Ai1 _ _) (c.rK t) ?_;refine Sj a _ ?_;refine zF d Y<|zF d Y ?_;refine#[Y,?_];rw[VM.1,VM.2.1,k];refine Anv (kk:=Sx (B.Pb,T.key)) (a _ _ Y) (by rw[Ac];show w.QL.length<_;omega) ?_;rw[bA];rw[k]at b;exact b _ (a.AlW _)<|j.trans<|Fr.set<|a _ _ Y
   ·rw[Aq λq=>h q.2]at b;exact((Oi (Ar λq=>h (by injection q with q;rw[YL]at q;exact q))<|b p a j))
def ZY(G:Gd 59 M Z):hM M Z 6 Z.w.W "bring" Vj:=by
 refine Ta (N:=["self","number","letter"]) 2 3 G.T.a_World_bring G.T.cl_World (λφ H r=>NT (Og r.2 2<|Od (G.ZI Y) r.1 (N5<|ev 0)<|NS (ev 1) NU) (NV<|O5 (OL Ti (N5<|ev 2)<|P1<|NS (QQ Nt G.T.c_PUT)<|NS (QQ Nt G.T.c_HINT) NU) (NV<|Oq<|Od (G.RK Y) r.1 (ev 0)<|NS (ev 2) NU)<|NV<|O5 (OL U9 (N5<|ev 2)<|QQ Nt G.T.c_QUERY) (NV<|Oq<|Od (G.RJ Y) r.1 (ev 0)<|NS (ev 2) NU)<|NV<|Oq<|Od (G.Rw Y) r.1 (ev 0)<|NS (ev 2) NU)) ?_
 rintro F D S Q⟨i,A,w,L,K,x,s,rfl,rfl,t,z,d,v,o,p⟩;have C:=d.s9;have O:=d.l1;have E:=d.l3;have I:=d.l4;refine Sj t _ ?_;refine#[RS t _,.mk i A w L Y t d.UQ o nofun λP b m=>?_];have e:=d.tojE.AmX L.num;have h:=d.sl L o;have y:(Pm w L.num).Ls.length<90000:=BJ (BK ..) Nr;refine Zf Y ?_;refine#[Y,?_];refine#[_,_,Y,.inr Y,Y,Y,?_];rcases d.Aqk o with⟨T,a,f,g⟩|⟨T,a,f,g⟩|⟨n,B,a,u,q⟩
 ·refine Ot ?_ ?_
  ·rcases a with a|a<;>rw[a]<;>decide +kernel
  ·exact#[RS b _,.mk i A _ T L x Y Y b z e f g h (by show w.hints.length<_;omega) y λj c k=>p _ j (.st T a f g) c<|m.trans k]
 ·refine Oi (by rw[a];decide +kernel) ?_;refine Zf Y ?_;refine#[Y,?_];refine Ot (by rw[a];decide +kernel) ?_;exact#[RS b _,.mk i A _ T L Y Y b d.tok f g e.UQ y λj c k=>p _ j (.qu T a f g) c<|m.trans k]
 ·refine Oi (by rcases a with a|a<;>rw[a]<;>decide +kernel) ?_;refine Zf Y ?_;refine#[Y,?_];refine Oi (by rcases a with a|a<;>rw[a]<;>decide +kernel) ?_;have l:=d.mw B<|Av q;have j0:=l.hl;exact#[RS b _,.mk i A _ L n B x Y Y b e u q h Nr (by show w.QL.length<_;omega) l.ky (v _ l.as).1 (v _ l.as).2 λj c k=>p _ j (.an n B a u q) c<|m.trans k]
def Z0(G:Gd 60 M Z):hM M Z 4 Z.w.W "homes" Vl:=by refine Ta (N:=["self","key"]) 2 2 G.T.a_World_homes G.T.cl_World (λφ H r=>NV<|Oh<|QK (G.SV Y) r.1<|Od (G.ON Y) r.1 (ev 0)<|NS (ev 1) NU) ?_;rintro F e S Q⟨i,A,w,T,rfl,b,a,c,d⟩;exact#[RS b _,.mk i A w T Y b a c #[zC (b.jB a c) Y,.mk i A w T Y b a c<|OP d]]
def YJ(G:Gd 61 M Z):hM M Z 1 Z.w.W "houses" Uz:=by refine Ta (N:=["self"]) 1 1 G.T.a_World_houses G.T.cl_World (λφ H r=>NV<|Oh<|OY Qt Nt G.T.b_dict Boot.b_dict<|NS (N5<|ev 0) NU) ?_;rintro F c S Q⟨i,A,w,rfl,b,a⟩;exact Sj b _ #[_,.inl Y,Pw<|OP a]
def cE(G:Gd 62 M Z):hM M Z 1 Z.w.W "away" Wo:=by refine Ta (N:=["self"]) 1 1 G.T.a_World_away G.T.cl_World (λφ H r=>NV<|Oh<|O4 (jJ Y) Nt G.T.b_sorted Boot.b_sorted<|NS (N5<|ev 0) NU) ?_;rintro F g S Q⟨i,A,w,rfl,a,e,d⟩;refine Sj a _ ?_;exact#[_,w.away,bG a _,by unfold RO;rw[As];rfl,e,λb c f=>Pw<|OP<|d b c f]
def cG(G:Gd 63 M Z):hF M Z 2 "are_counts" Wr:=by
 refine cP (N:=["copies","reads","writes"]) 3 3 G.T.d G.T.a_are_counts (λφ H r=>NT (O5 (Q7<|PW.nR<|w_and (Pp<|Of (G.Qz Y) r.1<|NS (ev 0) NU)<|w_and (Pp<|Of (G.Qz Y) r.1<|NS (ev 1) NU)<|Zd<|Pp<|Of (G.Qz Y) r.1<|NS (ev 2) NU) (NV<|Oh<|TU)<|Oe) (NV<|Oh<|xP (lX Aa7 Aa7 (N2) (ev 0)<|QQ Nt G.T.c_MOST_COPIES)<|xP (lX Aa7 Aa7 (N2) (ev 1)<|ev 0)<|Ahv<|lX Aa7 Aa7 (N2) (ev 2)<|ev 0)) ?_
 rintro F m S Q⟨a,b,c,rfl,⟨j,h,l,i,k,g⟩,e⟩;refine .mk _ Y ?_;refine .mk _ Y ?_;refine .mk _ Y ?_;refine Ot (Ao j) ?_;refine(show Q3 _ _ _ from Ot (Ao h) ?_);refine Ot (Ao l) ?_;refine(show Q3 _ _ _ from Ot (Ao i) ?_);refine Ot (Ao k) ?_;show fz Q (.f<|.bl _) S;rw[Ao g];exact OP e
def Z8(G:Gd 64 M Z):hF M Z 3 "need_counts" Vu:=by refine cP (N:=["copies","reads","writes"]) 3 3 G.T.d G.T.a_need_counts (λφ H r=>NV<|O5 (Q7<|Pp<|Of (G.Ym Y) r.1<|NS (ev 0)<|NS (ev 1)<|NS (ev 2) NU) (NV<|RN)<|Oe) ?_;rintro F f S Q⟨a,b,c,rfl,g,e⟩;exact .mk a b c Y g e
def YF(G:Gd 65 M Z):hK M Z 1 "Thing" Z.w.T Uv:=by
 refine AiE (N:=["self","key","copies","reads","writes"]) 5 5 G.T.a_Thing___init G.T.m_Thing G.T.g_Thing (λφ H r=>NT (O1 (ev 0)<|ev 1) (NT (O1 (ev 0)<|ev 2) (NT (O1 (ev 0)<|ev 3) (NT (O1 (ev 0)<|ev 4) (NV<|O1 (ev 0)<|OA))))) ?_
 rintro F l S Q⟨a,r,e,k,c,m,j,i,rfl,rfl,f⟩;refine pK G.T.fT<|pK G.T.fT<|pK G.T.fT<|pK G.T.fT ?_;dsimp only[gA,jM,AkE];refine RM e λh d g=>?_
 let(b,d):=Pg d;refine zS ((N0<|AF b).trans NZ) (.inr<|G.T.fT.n _ Np) Y ?_;rw[RP<|AF b];exact f h (AF b) d g
def YG(G:Gd 66 M Z):hM M Z 6 Z.w.T "settle" Uw:=by
 refine Ta (N:=["self","houses","before","house"]) 2 4 G.T.a_Thing_settle G.T.cl_Thing (λφ H r=>NT (Og r.2 2<|N5<|ev 0) (NT (O1 (ev 0)<|OA) (NT (Y6 (Of (G.V5 Y) r.1<|NS (ev 1)<|NS (Of (G.ZK Y) r.1<|NS (N5<|ev 0) NU)<|NS (N5<|ev 0) NU) (OU r.2 3)<|NV<|OW r.1 (N5<|ev 0) (ev 3)<|Rk r.1 (ev 2) (ev 3)<|OA) (NV<|Oh<|Afo r.1 G.T.b_set (ev 2)<|AdB<|pv 0)))) ?_
 rintro F ds S Q⟨t,s,l,y0,p,T,v,m,rfl,P,n,E,W,u9,m5,L,kQ⟩;symm;have j0:t≠s:=λz=>by rw[z,E]at n;cases n
 refine zF n Y ?_;symm;dsimp only[gA,jM,AkE];refine RM p λq k _=>?_
 have g:q≠t:=λz=>by rw[z,n]at k;cases k
 have B:q≠s:=λz=>by rw[z,E]at k;cases k
 have C:NY S q (p,.d []) t=_:=(N0<|AF g).trans n;refine zS C (.inl Y) Y ?_;refine zF NZ Y ?_;refine .mk T.key Y ?_;refine zF NZ Y ?_;refine .mk v (T.key%110) m (by rw[u9]) (λb V=>kU<|kU<|P b V) L (BY _ Nq) (Ca _ Nq) ?_;have X:=Xq L (T.key%110) m;have dl:=UW v (T.key%110) m;generalize OT v (T.key%110) m=D at *;have A:D.length<=5:=Nr;have sw:∀(y:Rl×O),NY (NY (NY S q (p,.d [])) t (l,bD Z.w.T q T)) q y=NY (NY S q y) t (l,bD Z.w.T q T):=λy=>by
  funext b
  unfold NY;by_cases a:b=q
  ·rw[Az a,Aq (by rw[a];exact g),Az a]
  ·rw[Aq a];by_cases c:b=t
   ·rw[Az c,Az c]
   ·rw[Aq c,Aq c,Aq a,Aq a]
 have h:∀y,NY (NY S q y) t (l,bD Z.w.T q T) s=U (y0,.d<|Uo T.sh):=λy=>(N0<|AF j0).trans ((N0<|AF B).trans E)
 have o:∀y,NY (NY S q y) t (l,bD Z.w.T q T) q=U y:=λy=>(N0 g).trans NZ
 refine#[_,.inl Y,.inl Y,Lp.mk (λj i I=>∃u,i=[U<|.f<|.ref t,U<|QU v,U<|.f<|.ref s,u]/\I=NY (NY S q (p,.d<|Uo<|OM T.sh<|D.take j)) t (l,bD Z.w.T q T)) #[none,Y,Y] (λ_ _ _ _=>.inl Y) ?_ ?_]
 ·rintro j x i I R⟨u,rfl,rfl⟩;rw[Ag]at R;let(z,K,rfl):=AA.mp R;symm;refine#[.inl #[_,.inr #[_,_,Y,h _]],Pw ?_];refine Anu (.inr #[_,_,Y,h _])<|PZ ?_;rw[show bW (.d [])=Pa []from Y,pC];refine zF NZ Y ?_;refine pJ (o _) (λhm=>P q hm k) (by unfold Uo;rw[Ac,X0,Bm];omega)<|PZ ?_;refine#[_,Y,?_];rw[Ad4,XY<|Afv (by rw[QR];exact XR X K),take_snoc K,AbC]
  funext b
  unfold NY;by_cases a:b=q
  ·rw[Az a,Aq (by rw[a];exact g),Az a]
  ·rw[Aq a];by_cases c:b=t
   ·rw[Az c,Az c]
   ·rw[Aq c,Aq c,Aq a,Aq a]
 ·rintro i I⟨u,rfl,rfl⟩;rw[Ac,BI];refine#[_,_,_,_,_,_,.inr #[_,_,Y,h _],by unfold Uo;rw[Ac];exact W,Y,.inr #[_,_,Y,NZ],Y,.inr #[_,_,Y,o _],by unfold Uo;rw[Ac,X0];exact A,OP ?_];have e:Al3 ((Uo T.sh).map (·.1)) ((Uo<|OM T.sh D).map (·.1))=Aax T.sh D:=by
   unfold Aax Uo OM;rw[As,As,As];rfl
  rw[e];exact kQ q k
def Xz(G:Gd 67 M Z):hM M Z 7 Z.w.W "declare" Tq:=by
 refine Ta (N:=["self","key","copies","reads","writes","thing"]) 5 6 G.T.a_World_declare G.T.cl_World (λφ H r=>NT (O5 (Q7<|Pp<|Of (G.Xg Y) r.1<|NS (ev 1) NU) (NV<|RN)<|Oe) (NT (O5 (tM r.1 (ev 1)<|N5<|ev 0) (NV<|RN)<|Oe) (NT (Oq<|Of (G.WK Y) r.1<|NS (ev 2)<|NS (ev 3)<|NS (ev 4) NU) (NT (Og r.2 5<|Aco (G.VB Y) G.T.cl_Thing r.1<|NS (ev 1)<|NS (ev 2)<|NS (ev 3)<|NS (ev 4) NU) (NT (Oq<|Od (G.Se Y) r.1 (ev 5)<|NS (N5<|ev 0) NU) (NV<|OW r.1 (N5<|ev 0) (ev 1)<|ev 5)))))) ?_
 rintro F R S Q⟨i,A,w,k,c,n,l,m,rfl,rfl,p,K,j0,C,u,y,E,u9,P⟩;refine .mk k Y ?_;refine Oi (by rw[AcF #[j0,C]];rfl) ?_;walk_at"j";refine Sj p _ ?_;refine tX (bG p _)<|tY ?_;have v:O0 (w.Ts.map λT=>((.inl T.key:Key),D.f<|.ref<|A<|.Oz T.key)) (.inl k)=none:=by rw[Qb];rw[BX.mpr λx O z=>u (by have:=Bv z;injection this with this;rw[<-this];exact AH O)];rfl
 rw[v];refine .mk c n l Y y ?_;refine#[.wd i<|.Oz k,λt I _=>?_];refine .mk t _ (.own 0) k c n l S Y Y λs j B _=>#[Y,OP ?_]
 have L:m<=5:=by have:=y.2.1;omega
 have e:=p.zR (x:=(.own 0,.d<|Uo [])) B;have a:NY S s (.own 0,.d<|Uo []) t=none:=(N0 j).trans I;have o:=e.zR (x:=(.wd i<|.Oz k,bD Z.w.T s #[k,c,n,l,[]])) a;refine#[zC NZ Y,?_];refine Sj o _ ?_;refine .mk t s _ _ (.wd i<|.Uq k) _ _ m Y nofun NZ ((N0<|AF j).trans NZ) (Bo _) E L K λq h=>?_
 let(b,h):=Pg h;rw[RP<|AF b];have g:=(e.zR (x:=(.wd i<|.Uq k,.d<|Uo<|OM []<|OT w.Hs (k%110) m)) h).zR (x:=(.wd i<|.Oz k,bD Z.w.T q #[k,c,n,l,OM []<|OT w.Hs (k%110) m])) ((N0<|AF b).trans a);refine Sj g _ ?_;refine pJ (g _ _ Y) nofun (by rw[Ac];omega)<|tY ?_;rw[rY v];refine P (zE A k t q) _ Y (e.newThing _ t q a h (AF b) u) ?_;exact(((Fr.new B).trans (Fr.new h)).trans (Fr.new<|(N0<|AF b).trans a)).trans (Fr.set<|g _ _ Y)
def ZV(G:Gd 68 M Z):hK M Z 1 "Post" Z.w.P Vg:=by
 refine AiE (N:=["self"]) 1 1 G.T.a_Post___init G.T.m_Post G.T.g_Post (λφ H r=>NT (O1 (ev 0)<|N2) (NV<|O1 (ev 0)<|OA)) ?_
 rintro F i S Q⟨a,r,e,g,rfl,rfl,d⟩;refine pK G.T.fP ?_;dsimp only[gA,jM,AkE];refine RM e λh c f=>?_
 let(b,c):=Pg c;refine zS ((N0<|AF b).trans NZ) (.inr<|G.T.fP.n _ Np) Y ?_;rw[RP<|AF b];exact d h (AF b) c f
def YC(G:Gd 69 M Z):hK M Z 1 "Hints" Z.w.H Ur:=by
 refine AiE (N:=["self"]) 1 1 G.T.a_Hints___init G.T.m_Hints G.T.g_Hints (λφ H r=>NV<|O1 (ev 0)<|aO) ?_;rintro F i S Q⟨a,r,e,g,rfl,rfl,d⟩;refine RM e λh c f=>?_
 let(b,c):=Pg c;refine zS ((N0<|AF b).trans NZ) (.inr<|G.T.fH.n _ Np) Y ?_;rw[RP<|AF b];exact d h (AF b) c f
def ZT(G:Gd 70 M Z):hK M Z 1 "Asks" Z.w.S Ve:=by refine AiE (N:=["self"]) 1 1 G.T.a_Asks___init G.T.m_Asks G.T.g_Asks (λφ H r=>NV<|O1 (ev 0)<|Wh<|NU) ?_;rintro F i S Q⟨a,r,e,g,rfl,rfl,d⟩;symm;refine#[Y,RM e λh c f=>?_];let(b,c):=Pg c;refine zS ((N0<|AF b).trans NZ) (.inr<|G.T.fS.n _ Np) Y ?_;rw[RP<|AF b];exact d h (AF b) c f
def YH(G:Gd 71 M Z):hK M Z 3 "World" Z.w.W Ux:=by
 refine AiE (N:=["self","houses"]) 2 2 G.T.a_World___init G.T.m_World G.T.g_World (λφ H r=>NT (O1 (ev 0)<|OY Qt Nt G.T.b_dict Boot.b_dict<|NS (ev 1) NU) (NT (O1 (ev 0)<|OA) (NT (O1 (ev 0)<|OA) (NT (O1 (ev 0)<|Acp (G.Vy Y) G.T.cl_Hints r.1) (NT (O1 (ev 0)<|Acp (G.Wy Y) G.T.cl_Post r.1) (NT (O1 (ev 0)<|Acp (G.Wx Y) G.T.cl_Asks r.1) (NV<|O1 (ev 0)<|aO))))))) ?_
 rintro F ds S Q⟨a,i,Hs,S',rfl,rfl,ha,kQ⟩;refine#[_,.inl Y,Pw<|pK G.T.fW ?_];walk_at"j";refine RM (.wd i .decl) λd u _=>?_
 let(z,u):=Pg u;refine zS ((N0<|AF z).trans NZ) (.inr<|G.T.fW.n _ Np) Y ?_;rw[RP<|AF z];refine RM (.wd i .Ab2) λb t _=>?_
 let(v,t):=Pg t;let(b2,t):=Pg t;refine zS ((N0<|AF v).trans NZ) (.inr<|G.T.fW.n _ Np) Y ?_;rw[RP<|AF v];refine#[.wd i .left,λl o _=>?_];let(O,o):=Pg o;let(l2,o):=Pg o;let(l3,o):=Pg o;refine .mk l _ (.wd i .kept) _ Y Y λlk j0 j _=>#[Y,OP ?_]
 let(q,j):=Pg j;let(D,j):=Pg j;let(B,j):=Pg j;refine zS ((N0<|AF O).trans ((N0<|AF q).trans NZ)) (.inr<|G.T.fW.n _ Np) Y ?_;rw[eO (AF q)<|AF O];refine#[.wd i .post,λp k _=>?_];let(C,k):=Pg k;let(p2,k):=Pg k;let(R,k):=Pg k;let(V,k):=Pg k;let(u9,k):=Pg k;refine .mk p _ (.wd i .uw) _ Y Y λpu K c _=>#[Y,OP ?_]
 let(m,c):=Pg c;let(P,c):=Pg c;let(x,c):=Pg c;let(y,c):=Pg c;let(A,c):=Pg c;refine zS ((N0<|AF C).trans ((N0<|AF m).trans NZ)) (.inr<|G.T.fW.n _ Np) Y ?_;rw[eO (AF m)<|AF C];refine#[.wd i .asks,λs h _=>?_];let(I,h):=Pg h;let(s2,h):=Pg h;let(s3,h):=Pg h;let(s4,h):=Pg h;let(s5,h):=Pg h;let(X,h):=Pg h;let(s7,h):=Pg h;refine .mk s _ (.wd i .begun) _ Y Y λg g0 f _=>#[Y,OP ?_]
 let(E,f):=Pg f;let(g2,f):=Pg f;let(g3,f):=Pg f;let(g4,f):=Pg f;let(g5,f):=Pg f;let(y0,f):=Pg f;let(g7,f):=Pg f;refine zS ((N0<|AF I).trans ((N0<|AF E).trans NZ)) (.inr<|G.T.fW.n _ Np) Y ?_;rw[eO (AF E)<|AF I];refine RM (.wd i .Ai5) λn e _=>?_
 let(L,e):=Pg e;let(n2,e):=Pg e;let(n3,e):=Pg e;let(n4,e):=Pg e;let(n5,e):=Pg e;let(n6,e):=Pg e;let(n7,e):=Pg e;let(n8,e):=Pg e;let(n9,e):=Pg e;refine zS ((N0<|AF L).trans NZ) (.inr<|G.T.fW.n _ Np) Y ?_;rw[RP<|AF L];let(wd,fr):=Ox.init (by
  simp only[Bb,AB,CO,F3,not_or,FC,and_true,not_false_eq_true];exact#[#[AF z,AF v,AF q,AF O,AF m,AF C,AF E,AF I,AF L],#[AF b2,AF B,AF l3,AF A,AF u9,AF g7,AF s7,AF n9],#[AF D,AF l2,AF y,AF V,AF y0,AF X,AF n8],#[AF j0,AF x,AF R,AF g5,AF s5,AF n7],#[AF P,AF p2,AF g4,AF s4,AF n6],#[AF K,AF g3,AF s3,AF n5],#[AF g2,AF s2,AF n4],#[AF g0,AF n3],AF n2]) (by
  simp only[Ei];exact#[ha,u,t,j,o,c,k,f,h,e,nofun]) Y
 exact kQ _ _ Y wd fr
def Xw(G:Gd 72 M Z):hM M Z 1 Z.w.A "break_off" Tn:=by
 refine Ta (N:=["self"]) 1 1 G.T.a_Ask_break_off G.T.cl_Ask (λφ H r=>NV<|O5 (OL U9 (N5<|ev 0)<|QQ Nt G.T.c_OPEN) (NV<|O1 (ev 0)<|QQ Nt G.T.c_BROKEN)<|Oe) ?_;rintro F f S Q⟨i,A,w,n,B,rfl,d,c,a⟩;have e:=d.Xn c;refine zF e Y #[Y,?_];unfold TQ at a;by_cases b:B.Pf="open"
 ·rw[Az b]at a;refine Ot (Ao<|congrArg _ b) ?_;refine zS e (.inl Y) Y ?_;exact a _ (d.Aq1 c "broken")<|Fr.set e
 ·rw[Aq b,set_same c]at a;refine Oi (Ar λz=>b<|by injection z) ?_;exact a S d Fr.refl
def WQ(G:Gd 73 M Z):hM M Z 2 Z.w.S "break_all" SA:=by
 refine Ta (N:=["self","key","ask"]) 2 3 G.T.a_Asks_break_all G.T.cl_Asks (λφ H r=>NV<|Y6 (N5<|ev 0) (OU r.2 2)<|NV<|O5 (OL U9 (N5<|ev 2)<|ev 1) (NV<|Oq<|QK (G.UB Y) r.1<|ev 2)<|Oe) ?_;rintro F E S Q⟨i,A,w,k,rfl,o,C⟩;refine Sj o _ ?_;refine#[_,bG o _,.inr (by rw[Ck];exact Bj.mpr λ_ _=>rfl),Lp.mk (λj b c=>∃u,b=[U _,U _,u]/\Ox Z.w i A {w with Ms:=(w.Ms.take j).map (λB=>if B.key=k then TQ B else B)++w.Ms.drop j} c/\Fr i S c) #[none,Y,o,Fr.refl] ?_ ?_ ?_]
 ·rintro j b c⟨u,rfl,a,e⟩;have q:=bG a .begun;rw[show((w.Ms.take j).map (λB:Ak=>if B.key=k then TQ B else B)++w.Ms.drop j).length=w.Ms.length by rw[AN,Ac,Bm,E5];omega]at q;exact q
 ·rintro j x b c v⟨u,rfl,a,e⟩;rw[Ag]at v;let(m,h,rfl):=AA.mp v;have s:j<w.Ms.length:=by
   have:=(Ah.mp h).1;rw[By]at this;exact this
  rw[CH s]at h;cases h;have n:=Al s;generalize w.Ms[j]=B at *;have d:({w with Ms:=(w.Ms.take j).map (λB:Ak=>if B.key=k then TQ B else B)++w.Ms.drop j}).Ms[j]?=U B:=nJ n;have p:=map_set (f:=λB:Ak=>if B.key=k then TQ B else B) n;have t:=a.Xn d;refine zF t Y #[Y,?_];by_cases g:B.key=k
  ·refine Ot (Ao<|congrArg _ g) ?_;refine#[zC t Y,.mk i A _ j B Y a d λD l y=>#[_,Y,?_,e.trans y]];rw[<-p,Az g];exact l
  ·refine Oi (Ar λz=>g<|by injection z) #[_,Y,?_,e];rw[<-p,Aq g,set_same<|nJ n];exact a
 ·rintro b c⟨u,rfl,a,e⟩;rw[Ac,By,BI,E8,Br]at a;exact C c a e
def XB(G:Gd 74 M Z):hM M Z 7 Z.w.W "rehouse" Tt:=by
 refine Ta (N:=["self","houses","key"]) 2 3 G.T.a_World_rehouse G.T.cl_World (λφ H r=>NT (O1 (ev 0)<|OY Qt Nt G.T.b_dict Boot.b_dict<|NS (ev 1) NU) (NV<|eJ (N5<|ev 0) (OU r.2 2)<|NV<|O5 (Pp<|Od (G.Se Y) r.1 (N6 r.1 (N5<|ev 0)<|ev 2)<|NS (N5<|ev 0) NU) (NV<|Oq<|Od (G.TC Y) r.1 (N5<|ev 0)<|NS (ev 2) NU)<|Oe)) ?_
 rintro F ds S Q⟨i,A,w,Hs,d,rfl,hi,rfl,wd,I,ok,y0,kQ⟩;symm;refine#[_,hi,Pw ?_];refine Ap4 wd .top {w with Hs:=Hs} (λS1 p f1=>?_) (e:=by walk_at"w");have p:Ox Z.w i A (XZ {w with Hs:=Hs} Hs 0) S1:=by rw[Abv Y];exact p
 symm;refine Sj p .top ?_;have ek:∀j,(XZ {w with Hs:=Hs} Hs j).Ts.map (λT=>((.inl T.key:Key),D.f<|.ref<|A<|.Oz T.key))=w.Ts.map λT=>(.inl T.key,.f<|.ref<|A<|.Oz T.key):=λj=>by
  show((w.Ts.take j).map (R8 Hs)++w.Ts.drop j).map _=_;rw[AU,As]
  conv=>rhs;rw[<-B5 j w.Ts,AU]
  rfl
 refine#[_,Y,.inr #[A .decl,_,Y,p .decl _ Y,?_]];rintro a rfl;refine#[λj C v=>∃u m,C=[U<|.f<|.ref<|A .top,U d,u]/\m .top=A .top/\m .decl=A .decl/\(∀k,m (.Oz k)=A (.Oz k))/\Ox Z.w i m (XZ {w with Hs:=Hs} Hs j) v/\Fr i S v,#[_,A,Y,Y,Y,λ_=>rfl,p,f1],?_,?_]
 ·rintro j x C v hx ⟨u,m,rfl,u9,L,V,g,O⟩ _;rw[ek,Ag,Ag]at hx;let(e4,R,rfl):=AA.mp hx;let(T,j0,rfl):=AA.mp R;have P:=Av j0;have l:=Aea (w:={w with Hs:=Hs}) I ok (λT h=>(y0 T h).2) j;have E:(XZ {w with Hs:=Hs} Hs j).Ts[j]?=U T:=nJ j0;have o:=Av E;have ht:=g.jB l o;have hs:=g.Uq l o;symm;rw[<-u9];refine Sj g .top ?_;refine zG (bG g .decl)<|tY #[_,VJ l o,?_];refine#[zC ht Y,?_];refine Sj g .top ?_;refine .mk _ _ _ _ (.wd i<|.Uq T.key) T Hs T.c.toNat Y (λb hb=>?_) ht hs (I.bU T P) (y0 T P).1 (y0 T P).2 ok λq hq=>?_
  ·cases An.mp hb;rw[<-L,g .decl _ Y];nofun
  have n:Ox Z.w i (iZ m T.key q) {XZ {w with Hs:=Hs} Hs j with Ts:=P4 (XZ {w with Hs:=Hs} Hs j).Ts (R8 Hs T)} (NY (NY v q (.wd i<|.Uq T.key,.d<|Uo<|OM T.sh<|Uk Hs T)) (m<|.Oz T.key) (.wd i<|.Oz T.key,bD Z.w.T q<|R8 Hs T)):=g.Aj0 l o (OM T.sh<|Uk Hs T) hq;have f2:=Fr.Aj0 g l o (y:=(.wd i<|.Uq T.key,.d<|Uo<|OM T.sh<|Uk Hs T)) (z:=(.wd i<|.Oz T.key,bD Z.w.T q<|R8 Hs T)) hq;have e5:P4 (XZ {w with Hs:=Hs} Hs j).Ts (R8 Hs T)=(w.Ts.take<|j+1).map (R8 Hs)++w.Ts.drop (j+1):=by rw[AgU (T':=R8 Hs T) l E Y];exact map_set (f:=R8 Hs) j0
  rw[e5]at n;have e6:∀y,iZ m T.key q (.Oz y)=m (.Oz y):=λ_=>rfl
  have nx:∀B:Ak,O9 Hs (w.Ts.take<|j+1) B=if(O9 Hs (w.Ts.take j) B).key=T.key/\bM Hs T=Af then TQ (O9 Hs (w.Ts.take j) B)else O9 Hs (w.Ts.take j) B:=λB=>by
   rw[take_snoc j0,yY,vY];by_cases K:T.key=B.key
   ·cases z2:bM Hs T with
    |true=>rw[Ao K,JV,Az Y,Az #[K.symm,Y]]
    |false=>rw[D0,Aq AI,Aq λq=>AI q.2]
   ·rw[Ar K,Du,Aq AI,Aq λq=>K q.1.symm]
  by_cases t:bM Hs T=Af
  ·refine (show Q3 (bM Hs T) _ _ from Ot t ?_);change Aca _ _ _ _ (NY (NY v q (.wd i<|.Uq T.key,.d<|Uo<|OM T.sh<|Uk Hs T)) (m<|.Oz T.key) (.wd i<|.Oz T.key,bD Z.w.T q<|R8 Hs T));generalize NY (NY v q (.wd i<|.Uq T.key,.d<|Uo<|OM T.sh<|Uk Hs T)) (m<|.Oz T.key) (.wd i<|.Oz T.key,bD Z.w.T q<|R8 Hs T)=S2 at *;have e7:iZ m T.key q .top=m .top:=rfl;have e8:iZ m T.key q .decl=m .decl:=rfl;generalize iZ m T.key q=X at *;rw[<-e7];refine Sj n .top ?_;refine#[RS n .asks,.mk i X _ T.key Y n λS3 s f3=>#[_,X,Y,Y,e8.trans L,λk=>(e6 k).trans (V k),?_,(O.trans f2).trans f3]];have:(w.Ms.map<|O9 Hs<|w.Ts.take j).map (λB=>if B.key=T.key then TQ B else B)=w.Ms.map (O9 Hs<|w.Ts.take<|j+1):=by
    rw[As];refine A4 λB _=>?_
    rw[nx B];show(if _ then _ else _)=_;by_cases z:(O9 Hs (w.Ts.take j) B).key=T.key
    ·rw[Az z,Az #[z,t]]
    ·rw[Aq z,Aq λq=>z q.1]
   have s:Ox Z.w i X {w with Hs:=Hs,Ts:=(w.Ts.take<|j+1).map (R8 Hs)++w.Ts.drop (j+1),Ms:=(w.Ms.map<|O9 Hs<|w.Ts.take j).map (λB=>if B.key=T.key then TQ B else B)} S3:=s;rw[this]at s;exact s
  ·refine(show Q3 (bM Hs T) _ _ from Oi (EU.mpr t) #[_,iZ m T.key q,Y,Y,L,λk=>V k,?_,O.trans f2]);have:w.Ms.map (O9 Hs<|w.Ts.take j)=w.Ms.map (O9 Hs<|w.Ts.take<|j+1):=A4 λB _=>by rw[nx B,Aq λq=>t q.2]
   have n:Ox Z.w i (iZ m T.key q) {w with Hs:=Hs,Ts:=(w.Ts.take<|j+1).map (R8 Hs)++w.Ts.drop (j+1),Ms:=w.Ms.map (O9 Hs<|w.Ts.take j)} _:=n;rw[this]at n;exact n
 ·rintro C v⟨u,m,rfl,u9,L,V,g,O⟩;rw[ek,Ac,Ac]at g;have:=sG (Hs:=Hs) {w with Hs:=Hs};rw[this]at g;exact kQ m v u9 g O
def gR(G:Gd 75 M Z):hM M Z 5 Z.w.W "lay" X5:=by
 refine Ta (N:=["self","house","key","state"]) 4 4 G.T.a_World_lay G.T.cl_World (λφ H r=>NT (Oq<|Od (G.QP Y) r.1 (ev 0)<|NS (ev 1) NU) (NV<|Oq<|Od (G.VC Y) r.1 (Od (G.ON Y) r.1 (ev 0)<|NS (ev 2) NU)<|NS (ev 1)<|NS (ev 3) NU)) ?_
 rintro F l S Q⟨i,A,w,T,z,E,rfl,rfl,b,g,d,k,e,a,c,h,j,f⟩;refine#[RS b _,.mk i A w z Y b g d k e ?_];refine#[RS b _,.mk i A w T Y b a c ?_];exact#[zC (b.jB a c) Y,.mk i A w T z E Y Y b a c h j f]
def WT(G:Gd 76 M Z):Anb M Z.K 1 Z.x_NoHouse "house":=by exact Aoe (N:=["self","house"]) G.T.a_NoHouse___init G.T.xn_NoHouse G.T.xf_NoHouse (λφ H r=>O8<|Amg (pv 0) (pv 1) Y)
def TY(G:Gd 77 M Z):AkF M Z 4 Z.w.W "need_house" Q6:=by
 refine AiF (N:=["self","house"]) 2 2 G.T.a_World_need_house G.T.cl_World (λφ H k r=>Ze<|Am4 (PW.nR<|w_or (Q7<|Pp<|Of (G.Uc Y) r.1<|NS (ev 1) NU)<|TL<|TB r.1 (ev 1)<|N5<|ev 0) (Ze<|x_raise (G.TF Y) r.1 Y Y G.T.g_NoHouse<|NS (ev 1) NU)<|AeM Oe) ?_;rintro F l S Q j h;rcases h with⟨i,A,w,z,rfl,c,b,d,a,g⟩|⟨i,A,w,z,rfl,c,d,a,e⟩
 ·refine .mk z Y d ?_;refine Oi (by rw[b];rfl) ?_;refine Sj c _ ?_;refine tX (.inl Y) ?_;exact Oi (by rw[Ug,Ao a];rfl) g
 ·refine .mk z Y d ?_;by_cases f:gF z=Af
  ·refine Oi (by rw[f];rfl) ?_;refine Sj c _ ?_;refine tX (.inl Y) ?_;exact Ot (by rw[Ug,Ar a];rfl) e
  ·exact Ot (by rw[EU.mpr f];rfl) e
def XC(G:Gd 78 M Z):AkF M Z 5 Z.w.W "shelf" Tu:=by
 refine AiF (N:=["self","house","key"]) 3 3 G.T.a_World_shelf G.T.cl_World (λφ H m r=>Aaf (pG<|pH Y (G.Qq Y) r.1 (ev 0)<|NS (ev 1) NU) (Ze<|ApB<|Oh<|Od (G.Rq Y) r.1 (Od (G.ON Y) r.1 (ev 0)<|NS (ev 2) NU)<|NS (ev 1) NU)) ?_
 rintro F n S Q l h;rcases h with⟨i,A,w,T,z,rfl,a,e,f,c,b,d,g⟩|⟨i,A,w,z,k,rfl,a,f,c,j⟩;symm
 ·refine#[RS a .top,.mk i A w z Y a e f c ?_];symm;refine#[RS a .top,.mk i A w T Y a b d ?_];exact#[zC (a.jB b d) Y,.mk i A w T z Y a b d<|OP g]
 ·exact#[RS a .top,.no i A w z Y a f c j]
def YI(G:Gd 79 M Z):AkF M Z 5 Z.w.W "fall" Uy:=by
 refine AiF (N:=["self","house"]) 2 2 G.T.a_World_fall G.T.cl_World (λφ H g r=>Aaf (pG<|pH Y (G.Qq Y) r.1 (ev 0)<|NS (ev 1) NU) (AeM tH)) ?_
 rintro F f S Q e⟨i,A,w,z,rfl,a,d,b,c⟩;exact#[RS a _,.no i A w z Y a d b c]
def mS(G:Gd 80 M Z):hF M Z 1 "_law_cell" ZA:=by
 refine cP (N:=["_law_script","_law_k"]) 2 2 G.T.d G.T.a_law_cell (λφ H r=>NT (O5 (OL Aa8 (ev 1)<|O4 Qu Nt G.T.b_len Boot.b_len<|NS (ev 0) NU) (NV<|Oh<|Pk PR (ev 0)<|ev 1)<|Oe) (NV<|Oh<|Oy P8 (Oy rP (N2)<|ev 1)<|N2)) ?_
 rintro F g S Q⟨b,k,rfl,c,q⟩;refine#[_,.inl<|.inl Y,?_];by_cases a:k<((b.map λz:Int=>D.f<|.int z).length)
 ·refine((Ot (Ao a) ?_));let(j,rfl):=B9 c;have e:j<b.length:=by rw[Ac]at a;omega
  exact#[_,_,.f _,.inl Y,Y,Pz (by rw[Ag,Al e];rfl),OP<|q _]
 ·refine((Oi (Ar a) ?_));exact#[.inl #[Nq,Nq],OP<|q _]
def gW(G:Gd 81 M Z):hF M Z 1 "_law_mixed" X9:=by
 refine cP (N:=["_law_cell_here","_law_k","_law_number"]) 2 3 G.T.d G.T.a_law_mixed (λφ H r=>NT (Og r.2 2<|Oy PF (Oy P8 (ev 0)<|Oy rP (N2)<|ev 1)<|N2) (NT (Og r.2 2<|Oy PF (Oy P8 (Oy rP (ev 2)<|N2)<|ev 1)<|N2) (NV<|Oh<|Oy PF (Oy rP (ev 2)<|Oy P8 (ev 2)<|N2)<|N2))) ?_
 rintro F b S Q⟨c,k,rfl,q⟩;refine#[.inl #[Nq,Nq],OV Nq,?_];refine#[.inr #[Nq,Nq],OV Nq,?_];refine#[.inl #[Nr,Nr],OV Nq,?_];let(n,a):=B9<|BY _ (show(2147483629)≠0 by decide);have:=q n;rw[<-a]at this;exact OP this
def gY(G:Gd 82 M Z):Hf M Z.K 1 "_law_names" (Yc Z):=by
 refine hf (N:=["_law_cell_here","_law_signs","_law_size","_law_word","_law_names_here","_law_k","_law_roof","_law_room","_law_own"]) 1 9 G.T.d G.T.a_law_names (λφ H r=>OS (Qs r.2 1<|SQ) (OS (Qs r.2 2<|PH (oC T4) (P9 0)<|PU) (OS (Qs r.2 3<|Zo F.plainAttrs_str F.slot_str_join F.type_str_join AfW (SQ)<|N7 (kO (Nc:=["_law_k","_law_signs","_law_cell_here"]) (v9:=[none,U 1,U 0]) Y (VY Nt G.T.b_range<|N7 (P9 2) Om) Y Np (Rc (sc0:=NW Zp) Y Np) Np (Qj<|Qh Y (B8 Y) Y<|Qh Y (B8 Y) Y<|PB) (λ_ _ _=>Qx (i:=0) (show(["_law_k","_law_signs","_law_cell_here"]:LK).Nodup by decide +kernel) Y<|B8 Y) (λ_ _ _=>VZ) λ_ _ _=>dM nB (P9 1)<|PH (oC T4) (PH (oC VU) (P9 2)<|PH (o0 YX) (P9 0)<|PU)<|PU) Om)
   (OS (Qs r.2 4<|vR<|Om) (OS (Qr (VY Nt G.T.b_range<|N7 (PU) Om) (Qn r.2 5) (OS (Qs r.2 6<|PH Ql (P9 3)<|dM nB (P9 1)<|PH (oC T4) (PH (o0 YX) (PH (oC VU) (P9 0)<|PU)<|PH (oC T4) (P9 5)<|PU)<|PU) (OS (Qs r.2 7<|PH Ql (P9 3)<|dM nB (P9 1)<|PH (oC T4) (PH (oC VU) (P9 5)<|PU)<|PU) (OS (Qs r.2 8<|PH Ql (P9 3)<|dM nB (P9 1)<|PH (oC T4) (PH (o0 YX) (PH (oC VU) (P9 0)<|PU)<|P9 5)<|PU) (O8<|XU<|Zo F.plainAttrs_list F.slot_list_append F.type_list_append VT (P9 4)<|N7 (PH Ql (PH Ql (PH Ql (PH Ql (P9 6)<|SQ)<|P9 7)<|SQ)<|P9 8) Om))))) (O8<|QH<|P9 4)))))) (λvs H Q E h=>?_)
 let(c,rfl,k):=h;have c0:=BY c (show(8:Int)≠0 by decide);have c1:=Ca c (show(0:Int)<8 by decide);refine#[_,Y,_,_,Y,Y,OV Nq,Y,_,Y,c%8,Y,Nr,Nr,λD hD=>?_];obtain⟨m,hm⟩:∃m:Nat,c%8=(m:Int):=B9 Nr;rw[hm,Int.toNat_natCast];have m7:m<=7:=Nr;refine AiS (n:=m) (by rw[Bf];omega) hD (λi=>.str<|sg<|c / (((i:Nat):Int)+1)) ?_ ?_
 ·intro i u9 R R' y0 W hR;rw[C2];exact#[Wk.set Y,AaR #[_,Y,_,Y,_,Y,_,_,Y,Y,_,_,Y,Y,#[Nr,Nr],_,_,Y,Y,OV Nq,WS,_,_,Y,Y,Np,zI _,hR _<|Ob.refl _]]
 intro u9 p W;have eD:((Ba m).map λi=>V.str<|sg<|c / (((i:Nat):Int)+1))=((Ba m).map λi=>sg<|c / (((i:Nat):Int)+1)).map V.str:=by rw[As];rfl
 rw[eD]at p;refine#[A8 "",D,_,Y,Y,PX.of p,AaT Nr (λ_=>rfl),?_];have f:(Fb (A8 "")<|(Ba m).map λi=>sg<|c / (((i:Nat):Int)+1)).length=m:=AcH λ_=>rfl
 have S:dH (Fb (A8 "")<|(Ba m).map λi=>sg<|c / (((i:Nat):Int)+1)).cps.toList:=AfF λa ha=>by
  let(i,_,rfl):=AE.mp ha;exact zJ _
 generalize Fb (A8 "") ((Ba m).map λi=>sg<|c / (((i:Nat):Int)+1))=B at *;refine#[by show 0<=sizeLine;decide,λL hL=>?_];have L0:H L=none:=W.free hL;have s2:=W.upd (o:=.lst []) hL;have X:(upd u9 L<|.lst []) L=U (.lst<|([]:LK).map V.str):=N1;generalize upd u9 L (.lst [])=H2 at *;have v:(A8 ".").length=1:=by rw[uL];rfl
 obtain⟨N,j0⟩:∃N:Nat->Ay,N=λi=>(B++sg (c / 8+((i:Nat):Int)%3))++A8 "."++(B++sg (((i:Nat):Int) / 3%2))++A8 "."++(B++sg (c / 8+((i:Nat):Int))):=#[_,Y]
 refine#[9,Y,Nq,Nq,jQ (n:=9) (λi J l=>∃O I t q,J=[U<|.int c,U<|.str WS,U<|.int<|c%8,U<|.str B,U<|.ref L,O,I,t,q]/\l L=U (.lst<|((Ba i).map N).map V.str)/\Ob H l) #[none,none,none,none,Y,X,s2] ?_ ?_]
 ·rintro i J l y0⟨O,I,t,q,rfl,s,s3⟩;rw[C2];have l1:∀x,(sg x).length=1:=λ_=>rfl
  refine#[_,Y,_,Y,_,Y,_,_,Y,Y,#[Nq,Nq],_,Y,_,_,Y,Y,OV Nq,_,_,Y,Y,_,_,Y,Y,OV Nq,WS,_,_,Y,Y,Np,zI _,_,_,Y,Y,by show B.length+1<=_;rw[f,Bf];omega,?_];refine Ao5 (σ':=[U<|.int c,U<|.str WS,U<|.int<|c%8,U<|.str B,U<|.ref L,U<|.int (i:Nat),U<|.str<|B++sg (c / 8+((i:Nat):Int)%3),t,q]) Y ?_;have e6:(((i:Nat):Int) / 3%2)%36=((i:Nat):Int) / 3%2:=Nr;have a6:fZ WS.cps.toList (((i:Nat):Int) / 3%2)=U (WS.cps.toList.getD ((((i:Nat):Int) / 3%2)%36).toNat 0):=by have:=zI<|((i:Nat):Int) / 3%2;rw[e6]at this ⊢;exact this
  refine#[_,Y,_,Y,_,Y,_,_,Y,Y,#[Nq,Nq],_,_,Y,Y,OV Nq,WS,_,_,Y,Y,Np,a6,_,_,Y,Y,by show B.length+1<=_;rw[f,Bf];omega,?_];refine Ao5 (σ':=[U<|.int c,U<|.str WS,U<|.int<|c%8,U<|.str B,U<|.ref L,U<|.int (i:Nat),U<|.str<|B++sg (c / 8+((i:Nat):Int)%3),U<|.str<|B++sg (((i:Nat):Int) / 3%2),q]) Y ?_;refine#[_,Y,_,Y,_,Y,_,_,Y,Y,#[Nq,Nq],_,Y,_,_,Y,Y,_,_,Y,Y,OV Nq,WS,_,_,Y,Y,Np,zI _,_,_,Y,Y,by show B.length+1<=_;rw[f,Bf];omega,?_];refine Ao5 (σ':=[U<|.int c,U<|.str WS,U<|.int<|c%8,U<|.str B,U<|.ref L,U<|.int (i:Nat),U<|.str<|B++sg (c / 8+((i:Nat):Int)%3),U<|.str<|B++sg (((i:Nat):Int) / 3%2),U<|.str<|B++sg (c / 8+((i:Nat):Int))]) Y ?_;have u:(B++sg (c / 8+((i:Nat):Int)%3)).length=m+1:=by rw[PQ,f];rfl
  have C:(B++sg (((i:Nat):Int) / 3%2)).length=m+1:=by rw[PQ,f];rfl
  have g3:(B++sg (c / 8+((i:Nat):Int))).length=m+1:=by rw[PQ,f];rfl
  have aa:N i=(B++sg (c / 8+((i:Nat):Int)%3))++A8 "."++(B++sg (((i:Nat):Int) / 3%2))++A8 "."++(B++sg (c / 8+((i:Nat):Int))):=by rw[j0]
  generalize B++sg (c / 8+((i:Nat):Int)%3)=W1 at *;generalize B++sg (((i:Nat):Int) / 3%2)=W2 at *;generalize B++sg (c / 8+((i:Nat):Int))=W3 at *;refine#[_,Y,Akk<|PX.of s,_,Y,_,_,Y,Y,by rw[u,v,Bf];omega,_,Y,_,_,Y,Y,by rw[PQ,u,C,v,Bf];omega,_,_,Y,Y,by rw[PQ,PQ,u,C,v,Bf];omega,_,Y,_,_,Y,Y,by rw[PQ,PQ,PQ,u,C,g3,v,Bf];omega,?_];refine#[L,_,_,Y,Y,s,by rw[Ac,Ac,By,Bf];omega,_,_,_,_,Y,?_,s3.Apy L0];rw[N1,Gx,AU,AU,Au,B6,Au,B6,aa]
 ·rintro J l ⟨O,I,t,q,rfl,s,s3⟩;refine#[_,Y,k L l _ s (by rw[Ac,By]) (λz hz=>?_) ?_ L0 s3]
  ·obtain ⟨i,_,rfl⟩:=AE.mp hz;rw[j0];have o1:=zJ<|c / 8+((i:Nat):Int)%3;have o2:=zJ<|((i:Nat):Int) / 3%2;have o3:=zJ<|c / 8+((i:Nat):Int);have e1:(sg<|c / 8+((i:Nat):Int)%3).length=1:=rfl;have b:(sg<|((i:Nat):Int) / 3%2).length=1:=rfl;have e3:(sg<|c / 8+((i:Nat):Int)).length=1:=rfl;dsimp only;generalize sg (c / 8+((i:Nat):Int)%3)=S1 at *;generalize sg (((i:Nat):Int) / 3%2)=P at *;generalize sg (c / 8+((i:Nat):Int))=S3 at *;have A:(B++S1++A8 "."++(B++P)++A8 "."++(B++S3)).cps.toList=(B++S1).cps.toList++46::((B++P).cps.toList++46::(B++S3).cps.toList):=by
    rw[QV,QV,QV,QV,Afn];simp
   have w:U1 (B++S1).cps.toList=Af:=mZ (vN S o1) (by rw[VQ,PQ,e1];omega) (by rw[VQ,PQ,e1];omega);have w2:U1 (B++P).cps.toList=Af:=mZ (vN S o2) (by rw[VQ,PQ,b];omega) (by rw[VQ,PQ,b];omega);have y:U1 (B++S3).cps.toList=Af:=mZ (vN S o3) (by rw[VQ,PQ,e3];omega) (by rw[VQ,PQ,e3];omega);have hl:=AfA A w w2 y;exact#[Afz A w w2 y,hl,Nr,_,_,_,A,VN w,VN w2,VN y]
  ·rw[EC,CB];refine List.pairwise_lt_range.imp_of_mem λ{i j}y0 hj ab e=>?_
   have ad:=Ci.mp y0;have ac:=Ci.mp hj;rw[j0]at e;have b:=congrArg (λz:Ay=>z.cps.toList.getLast?) e;dsimp only at b;rw[QV,QV B,QV _<|B++sg (c / 8+((j:Nat):Int)),QV B<|sg<|c / 8+((j:Nat):Int)]at b;have g:∀x,(sg x).cps.toList=[WS.cps.toList.getD (x%36).toNat 0]:=λ_=>rfl
   rw[g,g]at b;simp only[<-CF,List.getLast?_concat,Ho]at b;have e5:sg (c / 8+((i:Nat):Int))=sg (c / 8+((j:Nat):Int)):=by unfold sg;rw[b]
   have:=Aj1 e5;omega
def Z5(G:Gd 83 M Z):hF M Z 1 "_law_names" Vq:=by
 refine(G.ZO Y).imp λo H Q E⟨F,S,p,m,R,i,h,k⟩=>?_
 let(c,rfl,b):=h;let(v,rfl,w):=Rj i;cases Ou.mp w;exact .mk _ Y λl q g d e j a f s=>k _ _ _ _ (Px.Qo s.n) (R.same s) (Aad (R.free f) d) (b g e j a)
def cM(G:Gd 84 M Z):hF M Z 2 "_law_houses" Wv:=by
 refine cP (N:=["_law_names_here","_law_cell_here","_law_many","_law_houses_here","_law_plot","_law_at"]) 2 6 G.T.d G.T.a_law_houses (λφ H r=>NT (Og r.2 2<|Oy P8 (N2)<|Oy PF (ev 1)<|N2) (NT (Og r.2 3<|OA) (NT (V2 Nt G.T.b_range (NS (N2) NU) (OU r.2 4) (NT (Og r.2 5<|Oy PF (Of (G.PN Y) r.1<|NS (ev 1)<|NS (ev 4) NU)<|Oy P8 (ev 2)<|N2) (NV<|O5 (OL Aa8 (ev 5)<|ev 2) (NV<|OW r.1 (ev 3) (Pk PR (ev 0)<|ev 5)<|Oy Ajl (Rk r.1 (ev 3) (Pk PR (ev 0)<|ev 5)<|P1<|NU)<|P1<|NS (ev 4) NU)<|Oe))) (NV<|Oh<|ev 3)))) ?_
 rintro F R S Q⟨c,s,rfl,rfl,u9,O⟩;refine#[OV Nq,?_];symm;refine RM (.own 0) λa P _=>?_
 refine#[11,Y,Nq,Nq,AbP.mk (λi l y=>∃u v b,l=[U _,U _,U _,U _,u,v]/\y=NY S a (.own 0,.d<|XH b)/\QT b/\(∀e∈b,∀x∈e.2,x<(i))/\(∀e∈b,e.1∈s)) #[none,none,[],Y,Y,QT.nil,nofun,nofun] ?_ ?_]
 ·rintro i l y B ⟨u,v,b,rfl,rfl,o,g,q⟩;refine .mk c _ Y λn=>?_
  refine#[Nr,?_];have j0:=BY (n) (show(1+c%8+1)≠0 by omega);symm;generalize(n)%(1+c%8+1)=m at *;by_cases E:m<1+c%8
  ·refine ((Ot (Ao E) ?_));let(j,rfl):=B9 j0;have I:j<s.length:=Nr;have C:=Al I;generalize s[j]=z at *;have p:fZ (s.map λz=>D.f<|.str z) _=U _:=Pz (by rw[Ag,C];rfl);let(k,K,w):=AeE b z;have V:k.length<=11:=by
    rcases w with h|rfl
    ·exact o.len _ h
    ·exact Bo _
   refine#[.inl #[_,.inr #[_,_,Y,NZ]],?_];refine#[_,_,_,.inl Y,Y,p,Y,?_];refine Anu (.inr #[_,_,Y,NZ])<|PZ ?_;rw[K];refine#[Y,?_];refine#[_,_,Y,Y,?_,?_]
   ·rw[Ac];exact Nat.ble_eq.mpr (by show k.length+1<=1000;omega)
   refine#[_,_,_,.inl Y,Y,p,?_];refine pJ NZ nofun (by rw[Ac];have:=o.bU;omega)<|PZ ?_;refine#[_,_,iH b z _,Y,?_,o.push B g w,Ad3 g w,λe A=>?_]
   ·rw[Sa,show(D.t _)=.t ((k++[(i:Int)]).map λn=>.f _) by rw[C2,AU];rfl,AgD]
   ·rcases QX A with⟨h,_⟩|rfl
    ·exact q e h
    ·exact Av C
  ·refine((Oi (Ar E) ?_));exact#[_,_,b,Y,Y,o,λe A x L=>by have:=g e A x L;omega,q]
 ·rintro l y⟨u,v,b,rfl,rfl,o,g,q⟩;exact gM NZ (by rw[RX P];exact O b o q)
def Z7(G:Gd 85 M Z):hF M Z 1 "_law_written" Vt:=by
 refine cP (N:=["_law_state","_law_asker","_law_value","_law_found","_law_name"]) 3 5 G.T.d G.T.a_law_written (λφ H r=>NT (Og r.2 3<|OA) (NT (eJ (ev 0) (OU r.2 4)<|NV<|OW r.1 (ev 3) (ev 4)<|P1<|NS (Pk PD (N6 r.1 (ev 0)<|ev 4)<|N2)<|NS (Xu) NU) (NT (OW r.1 (ev 3) (ev 1)<|P1<|NS (Oy P8 (Pk PD (Rk r.1 (ev 0) (ev 1)<|P1<|NS (N2)<|NS (N8) NU)<|N2)<|N2)<|NS (ev 2) NU) (NV<|Oh<|ev 3)))) ?_
 rintro F j0 S Q⟨E,n,v,rfl,rfl,C,p,q⟩;symm;refine RM (.own 0) λa z _=>?_
 refine#[Rv E,Y,.inl #[Y,λb B=>#[λj c e=>∃x,c=[U<|Pa E,U<|.f<|.str n,U<|.f<|.str v,U<|.f<|.ref a,x]/\e=NY S a (.own 0,.d<|Rv<|dJ<|E.take j),#[none,Y,Y],?_,?_]]]
 ·rintro j x c e o⟨u,rfl,rfl⟩i;rw[Ag,Ag]at o;let(y,A,rfl):=AA.mp o;let(f,l,rfl):=AA.mp A;have h:a∉[b]:=λm=>by
   cases An.mp m;have:=i B;rw[NZ]at this;cases this
  have I:(dJ<|E.take j).length<=1000:=AL (aW _) (by rw[Bm];omega);have s:E.take (j+1)=E.take j++[f]:=by rw[Cr,l];rfl
  refine zG (.inl Y)<|PZ #[RW f.2,by rw[RR,XO p<|Av l];rfl,?_];refine#[_,_,_,Y,Y,Y,Y,?_];refine pJ NZ h (by rw[Ac];omega) ?_;refine#[_,Y,?_];rw[Sa,show D.t [.f _,.f .OH]=RW (f.2.1,none)from Y,V0,s,rR]
 ·rintro c e⟨u,rfl,rfl⟩;rw[Ac,Ac,BI];refine#[.inl #[_,.inl Y],Y,?_];refine Anu (.inl Y)<|PZ ?_;have k:AeT [] (RW (Yw E n+1,U v)) (.f<|.ref a) (.f<|.str n) (λw=>fz Q (.f<|.ref a) w) (NY S a (.own 0,.d<|Rv<|dJ E)):=by
   refine pJ NZ nofun (by rw[Ac];have:=aW E;omega)<|PZ ?_;rw[Sa,V0];exact gM NZ (by rw[RX z];exact q)
  have g:∃y,(O0 (Rv E)<|.inr n).getD (.t [.f<|.int 0,.f<|.str<|A8 ""])=.t [.f<|.int<|Yw E n,y]:=by
   rw[RR];unfold Yw;cases look E n with
   |none=>exact#[_,Y]
   |some x=>exact#[_,Y]
  let(y,g):=g;exact#[_,_,_,g,Y,Y,Y,k]
def mV(G:Gd 86 M Z):hF M Z 1 "_law_join" ZD:=by
 refine cP (N:=["_law_one","_law_other_here","_law_found","_law_asker","_law_count","_law_value"]) 2 6 G.T.d G.T.a_law_join (λφ H r=>NT (Og r.2 2<|OY Qt Nt G.T.b_dict Boot.b_dict<|NS (ev 0) NU) (NT (eJ (ev 1) (OU r.2 3) (NT (AmD (N6 r.1 (ev 1)<|ev 3)<|xV (n:=2) Y<|Su (OU r.2 4)<|Su (OU r.2 5)<|mF) (NV<|O5 (PW.nR<|w_or (TB r.1 (ev 3)<|ev 2)<|TL<|OL Af2 (ev 4)<|Pk PD (N6 r.1 (ev 2)<|ev 3)<|N2) (NV<|OW r.1 (ev 2) (ev 3)<|P1<|NS (ev 4)<|NS (ev 5) NU)<|NV<|O5 (PW.nR<|w_and (OL U9 (ev 4)<|Pk PD (N6 r.1 (ev 2)<|ev 3)<|N2)<|Zd<|OL Adm (ev 5)<|Xu) (NV<|OW r.1 (ev 2) (ev 3)<|P1<|NS (ev 4)<|NS (Xu) NU)<|Oe))) (NV<|Oh<|ev 2))) ?_
 rintro F u9 S Q⟨h,c,rfl,rfl,W,X,s,j0,L⟩;symm;refine#[Rv h,.inl Y,RM (.own 0) λa P _=>?_];refine#[Rv c,Y,.inl #[Y,λb I=>#[λj l A=>∃u v x,l=[U<|Pa h,U<|Pa c,U<|.f<|.ref a,u,v,x]/\A=NY S a (.own 0,.d<|Rv<|Ow h<|c.take j),#[none,none,none,Y,Y],?_,?_]]]
 ·rintro j x l A q ⟨u,v,x,rfl,rfl⟩ B;rw[Ag,Ag]at q;let(y,K,rfl):=AA.mp q;let(f,C,rfl):=AA.mp K;have t:a∉[b]:=λm=>by
   cases An.mp m;have:=B I;rw[NZ]at this;cases this
  have y0:(Ow h<|c.take j).length<=2000:=AL (jW _ _) (by rw[Bm];omega);have E:c.take (j+1)=c.take j++[f]:=by rw[Cr,C];rfl
  refine zG (.inl Y)<|PZ #[RW f.2,by show O0 (Rv c) (.inr f.1)=_;rw[RR,XO j0<|Av C];rfl,?_];refine#[_,Y,Y,?_];symm;have k:∀x,x=Yh (look (Ow h<|c.take j) f.1) f.2->AeT [b] (RW x) (.f<|.ref a) (.f<|.str f.1) (λO=>∃u v x,[U<|Pa h,U<|Pa c,U<|.f<|.ref a,U<|.f<|.str f.1,U<|.f<|.int f.2.1,U<|.f<|iG f.2.2]=[U<|Pa h,U<|Pa c,U<|.f<|.ref a,u,v,x]/\O=NY S a (.own 0,.d<|Rv<|Ow h<|c.take<|j+1)) (NY S a (.own 0,.d<|Rv<|Ow h<|c.take j)):=λx q=>by
   refine pJ NZ t (by rw[Ac];omega) ?_;refine#[_,_,_,Y,?_];rw[Sa,V0,E,join_snoc,q]
  refine tX (.inr #[a,_,Y,NZ]) ?_;show Q3 (!(O0 (Rv<|Ow h<|c.take j)<|.inr f.1).isSome) _ _;rw[RR];have D:∀x,look (Ow h<|c.take j) f.1=U x->O0 (Rv<|Ow h<|c.take j) (.inr f.1)=U (RW x):=λx e=>by rw[RR,e];rfl
  have i:∀x,look (Ow h<|c.take j) f.1=U x->yE x f.2=x->∃u v y,[U<|Pa h,U<|Pa c,U<|.f<|.ref a,U<|.f<|.str f.1,U<|.f<|.int f.2.1,U<|.f<|iG f.2.2]=[U<|Pa h,U<|Pa c,U<|.f<|.ref a,u,v,y]/\NY S a (.own 0,.d<|Rv<|Ow h<|c.take j)=NY S a (.own 0,.d<|Rv<|Ow h<|c.take<|j+1):=λx e g=>by
   refine#[_,_,_,Y,?_];rw[E,join_snoc,e];show _=NY S a (.own 0,.d<|Rv<|Rz _ _<|yE x f.2);rw[g,AgA (yJ s) e]
  cases e:look (Ow h<|c.take j) f.1 with
  |none=>exact Ot Nt #[Y,k f.2 (by rw[e];rfl)]
  |some x=>
    refine Oi Nt ?_;refine zG (.inr #[a,_,Y,NZ])<|PZ #[RW x,D x e,?_];refine#[_,_,_,Y,Y,Y,?_];by_cases w:x.1<f.2.1
    ·exact Ot (Ao w) #[Y,k f.2 (by rw[e];exact(AcS w).symm)]
    ·refine Oi (Ar w) ?_;refine zG (.inr #[a,_,Y,NZ])<|PZ #[RW x,D x e,?_];refine#[_,_,_,Y,Y,Y,Y,?_];by_cases p:f.2.1=x.1
     ·refine Ot (Ao<|congrArg V.int p) ?_;refine#[Y,?_];rw[Aa5];refine(show Q3 f.2.2.isNone _ _ from ?_);by_cases o:f.2.2=none
      ·refine Ot (by rw[o];rfl) #[Y,?_];have g:(f.2.1,none)=Yh (look (Ow h<|c.take j) f.1) f.2:=by rw[e];show _=yE x f.2;rw[AhM p.symm o,<-o]
       exact k (f.2.1,none) g
      ·refine Oi ?_ (i x e<|AhN p.symm o);cases R:f.2.2 with
       |none=>exact(o R).elim
       |some y=>rfl
     ·refine Oi (Ar λz=>p<|by injection z) ?_;exact i x e<|AcR Nr
 ·rintro l A⟨u,v,x,rfl,rfl⟩;rw[Ac,Ac,BI];exact gM NZ (by rw[RX P];exact L)
def mW(G:Gd 87 M Z):hF M Z 1 "_law_send" ZE:=by
 refine cP (N:=["_law_model","_law_label","_law_ask","_law_house","_law_key","_law_state","_law_rows"]) 6 7 G.T.d G.T.a_law_send (λφ H r=>NT (Og r.2 6<|N6 r.1 (ev 0)<|N8) (NT (Aej (ev 6) (N2)<|Oy P8 (Pk PR (ev 6)<|N2)<|N2) (NV<|Oq<|uM F.plainAttrs_list F.slot_list_append F.type_list_append XQ (ev 6)<|NS (P1<|NS (Pk PR (ev 6)<|N2)<|NS (ev 1)<|NS (ev 2)<|NS (ev 3)<|NS (ev 4)<|NS (ev 5) NU) NU))) ?_
 rintro F i S Q⟨B,M,j,f,h,c,E,rfl,b,g,e⟩;refine zG (b.io _)<|PZ #[_,Y,?_];refine#[_,_,_,b.io _,Y,xG,?_];refine#[_,_,_,_,0,Y,Y,b _ _ Y,vB<|Nat.succ_pos _,?_];have a:=b.upd (M':={M with O6:=M.O6+1}) _ Y Y (by walk_at"w");refine#[.inl #[Y,_,a.io _],?_];refine#[_,_,_,a.io _,Y,xG,?_];refine#[Y,?_];refine#[_,_,_,_,Y,Y,a _ _ Y,by show(_::M.Ls.map Aee).length<_;rw[AM,Ac];omega,?_];refine e _ (a.upd _ Y ?_<|by walk_at"w")<|(Uh.set<|b _ _ Y).trans (Uh.set<|a _ _ Y);show U (O.l (_::(M.Ls++[_]).map Aee))=_;rw[AU];rfl
def mU(G:Gd 88 M Z):hF M Z 2 "_law_hear" ZC:=by
 refine cP (N:=["_law_model","_law_ask","_law_house","_law_state","_law_mind"]) 4 5 G.T.d G.T.a_law_hear (λφ H r=>NT (O5 (PW.nR<|w_or (OL Af3 (N6 r.1 (ev 1)<|N8)<|N8)<|TL<|OL Ti (ev 2)<|N6 r.1 (ev 1)<|N8) (NV<|oM)<|Oe) (NT (OW r.1 (ev 1) (N8)<|Oy Al8 (N6 r.1 (ev 1)<|N8)<|Wh<|NS (ev 2) NU) (NT (sR<|O5 (Pp<|N6 r.1 (ev 1)<|N8) (NV<|OW r.1 (ev 1) (N8)<|Of (G.Sf Y) r.1<|NS (N6 r.1 (ev 1)<|N8)<|NS (ev 3) NU)<|Oe) (NV (O5 (OL U9 (O4 Qu Nt G.T.b_len Boot.b_len<|NS (N6 r.1 (ev 1)<|N8) NU)<|N6 r.1 (ev 1)<|N8) (NT (OW r.1 (ev 1) (N8)<|N8) (NV (sR (O5 (Pp<|N6 r.1 (ev 1)<|N8) (NT (Og r.2 4<|P1<|NS (N6 r.1 (ev 1)<|N8)<|NS (N6 r.1 (ev 1)<|N8) NU) (NV<|OW r.1 (N6 r.1 (ev 0)<|N8) (ev 4)<|Of (G.Sf Y) r.1<|NS (Rk r.1 (N6 r.1 (ev 0)<|N8) (ev 4)<|OA)<|NS (N6 r.1 (ev 1)<|N8) NU))<|Oe))))<|Oe))))) ?_
 rintro F ds S Q⟨B,M,n,C,z,E,qs,rfl,rfl,P,x,kd,kw,op,K,R,gl,q9,hh,aa,c⟩;symm;have D:=P.uC x;have W:=(Ah.mp x).1;have k:∀{E},OJ qs E->E.length<=1000:=λh=>AL h.len Nr
 unfold AlB at c;refine zG (.inr #[_,_,Y,D])<|PZ #[_,Y,Y,?_];by_cases A:C.Pf="open"
 ·refine (show Q3 _ _ _ from Oi (by rw[Ao<|congrArg V.str A];rfl) ?_);refine zG (.inr #[_,_,Y,D])<|PZ #[_,Y,?_];refine Akw C.N3 (.inl Y) Y ?_;rw[Aq AI];by_cases j0:z∈C.N3
  ·rw[xW<|.inr j0,Aen x,Aq λq=>AI q.1]at c;exact Ot (Ao j0)<|c S P Uh.refl
  ·refine Oi (Ar j0) ?_;rw[AcA A j0]at c;symm;refine zG (F:=[]) (.inr #[_,_,Y,D])<|PZ #[_,Y,?_];refine#[Y,Pw ?_];refine#[_,_,.inl Y,.inl Y,by unfold PL;rw[Ac];show C.N3.length+1<_;omega,Pw ?_];refine pJ D nofun (by show 7<_;decide)<|PZ ?_;have e1:putD (fY C) (.inr<|A8 "heard") (.l<|PL C.N3++[.f<|.str z])=fY {C with N3:=C.N3++[z]}:=by
    have q:PL (C.N3++[z])=PL C.N3++[.f<|.str z]:=by unfold PL;rw[AU];rfl
    rw[<-q];exact Ak1
   dsimp only;rw[e1];have v:=P.AgV (C':={C with N3:=C.N3++[z]}) x;have f1:Uh S (NY S (B<|.ask n) (.own<|8+n,.d<|fY {C with N3:=C.N3++[z]})):=Uh.set D;generalize NY S (B<|.ask n) (.own<|8+n,.d<|fY {C with N3:=C.N3++[z]})=S1 at *;have I:({M with Ms:=M.Ms.set n {C with N3:=C.N3++[z]}}:M7).Ms[n]?=U {C with N3:=C.N3++[z]}:=Bd W;have i:=v.uC I;symm;refine#[λo w=>o=[U<|.f<|.ref<|B .top,U<|.f<|.ref<|B<|.ask n,U<|.f<|.str z,U<|Pa E,none]/\Py B {M with Ms:=M.Ms.set n {C with N3:=C.N3++[z],RY:=Ow C.RY E}} w/\Uh S w,?_,?_]
   ·refine zG (.inr #[_,_,Y,i]) (PZ #[_,Y,?_]);rcases kd with u|u
    ·have s:decide (C.kind="read")=Am:=by rw[u];decide +kernel
     refine(show Q3 (decide<|C.kind="read") _ _ from Oi s #[Y,?_,f1]);rw[kw u];exact v
    ·have s:decide (C.kind="read")=Af:=by rw[u];decide +kernel
     refine(show Q3 (decide<|C.kind="read") _ _ from Ot s ?_);refine zG (.inr #[_,_,Y,i])<|PZ #[_,Y,?_];refine .mk C.RY E Y Y (k K) (k R) K.1 R.1 ?_;refine pJ i nofun (by show 7<_;decide)<|PZ #[Y,?_,f1.trans<|Uh.set i];have b:=v.AgV (C':={C with N3:=C.N3++[z],RY:=Ow C.RY E}) I;rw[show({M with Ms:=(M.Ms.set n _).set n _}:M7)={M with Ms:=M.Ms.set n _} by rw[HJ]]at b;exact b
   ·rintro o w ⟨rfl,b,f2⟩;have y:({M with Ms:=M.Ms.set n {C with N3:=C.N3++[z],RY:=Ow C.RY E}}).Ms[n]?=U _:=Bd W;have m:=b.uC y;symm;refine zG (.inr #[_,_,Y,m])<|PZ #[_,Y,?_];refine#[_,.inl<|.inl Y,?_];refine zG (.inr #[_,_,Y,m])<|PZ #[_,Y,Y,?_];have t:((PL<|C.N3++[z]).length:Int)=(C.N3.length)+1:=by unfold PL;rw[Ac,AN];rfl
    have o1:=op A;by_cases u:((C.N3.length)+1)<C.QF
    ·rw[Az u]at c;refine((Oi (Ar λq=>?_)<|c w b f2));injection q with q;have:(C.N3.length)+1=C.QF:=t.symm.trans q;omega
    ·rw[Aq u]at c;refine(show Q3 _ _ _ from Ot (Ao<|congrArg _<|t.trans (by show _=C.QF;omega)) ?_);refine pJ m nofun (by show 7<_;decide)<|PZ ?_;have a:=b.AgV (C':={C with N3:=C.N3++[z],RY:=Ow C.RY E,Pf:="done" }) y;have f3:Uh S (NY w _ (.own<|8+n,.d<|fY {C with N3:=C.N3++[z],RY:=Ow C.RY E,Pf:="done" })):=f2.trans<|Uh.set m;rw[show({M with Ms:=(M.Ms.set n _).set n _}:M7)={M with Ms:=M.Ms.set n _} by rw[HJ]]at a;rw[Ak2];generalize NY w _ _=S3 at *;have u9:({M with Ms:=M.Ms.set n {C with N3:=C.N3++[z],RY:=Ow C.RY E,Pf:="done" }}).Ms[n]?=U _:=Bd W;have j:=a.uC u9;have tl:∀g,Py B {M with Ms:=M.Ms.set n _,QL:=if C.kind="read" then P2 (λe=>Sx e.1) _ _ else M.QL} g->Uh S g->Q _ g:=λg O X=>c g (by
      by_cases q:C.kind="read"
      ·rw[Az q]at O;rw[Az #[Y,q]];exact O
      ·rw[Aq q]at O;rw[Aq λp=>q p.2];exact O) X
     refine#[λo g=>Q _ g,?_,λo g h=>h];refine zG (.inr #[_,_,Y,j])<|PZ #[_,Y,?_];rcases kd with s|s
     ·have L:decide (C.kind="read")=Am:=by rw[s];decide +kernel
      refine(show Q3 _ _ _ from Oi L (tl S3 ?_ f3));rw[Aq<|of_decide_eq_false L];exact a
     ·have L:decide (C.kind="read")=Af:=by rw[s];decide +kernel
      refine(show Q3 _ _ _ from Ot L ?_);refine zG (.inr #[_,_,Y,j])<|PZ #[_,Y,?_];refine zG (.inr #[_,_,Y,j])<|PZ #[_,Y,Y,?_];symm;refine zG (a.io _)<|PZ #[_,Y,?_];refine#[.inr #[_,a.io _],Pw ?_];refine Am6 a ?_;refine zG (.inr #[_,_,Y,j])<|PZ #[_,Y,?_];refine .mk _ _ Y Y (k<|gl _ _) (k<|K.join R) (gl _ _).1 (K.join R).1 ?_;refine zG (a.io _)<|PZ #[_,Y,?_];refine Ap1 (e:=(C.Pb,C.key)) a (by show M.QL.length<_;omega) λg y0 X _=>tl g ?_<|f3.trans X
      rw[Az s];exact y0
 ·rw[xW<|.inl A,Aen x]at c;exact((Ot (by rw[Ar λq=>A (by injection q)];rfl)<|c S P Uh.refl))
def XG(G:Gd 89 M Z):hF M Z 2 "_law_histories" Tw:=by
 refine cP (N:=["_law_cell_here","_law_askers","_law_minds","_law_states","_law_k","_law_number","_law_at","_law_base"]) 2 8 G.T.d G.T.a_law_histories (λφ H r=>NT (Og r.2 2<|Wh<|NS (OA)<|NS (OA)<|NS (OA) NU) (NT (Og r.2 3<|Wh<|NS (OA) NU) (NT (V2 Nt G.T.b_range (NS (N2) NU) (OU r.2 4) (NT (Og r.2 5<|Of (G.PN Y) r.1<|NS (ev 0)<|NS (ev 4) NU) (NT (Og r.2 6<|Oy PF (ev 5)<|N2) (NT (Og r.2 7<|Pk PR (ev 2)<|ev 6) (NT (sR<|O5 (OL U9 (Oy PF (Oy SO (ev 5)<|N2)<|N2)<|N2) (NV<|Og r.2 7<|Of (G.Sf Y) r.1<|NS (ev 7)<|NS (Pk PR (ev 2)<|Oy PF (Oy SO (ev 5)<|N2)<|N2) NU)<|Oe) (NT (Aej (ev 2) (ev 6)<|Of (G.SY Y) r.1<|NS (ev 7)<|NS (Pk PR (ev 1)<|ev 6)<|NS (Oy YW (N8)<|OY Yt Nt G.T.b_str Boot.b_str<|NS (ev 4) NU) NU) (NV<|Oq<|uM F.plainAttrs_list F.slot_list_append F.type_list_append XQ (ev 3)<|NS (Pk PR (ev 2)<|ev 6) NU))))))) (NV<|Oh<|ev 3)))) ?_
 rintro F ds S Q⟨c,s,rfl,rfl,q5,kQ⟩;symm;refine Pw ?_;refine Pw ?_;refine Pw ?_;refine#[Y,RM (.own 0) λm hm _=>?_];symm;refine Pw ?_;refine#[Y,RM (.own 0) λt L _=>?_];symm;have p:m≠t:=λz=>by rw[<-z,NZ]at L;cases L
 have aa:S t=none:=(Pg L).2;have x:∀{E},OJ s E->E.length<=1000:=λh=>AL h.len Nr
 refine#[6,Y,Nq,Nq,AbP.mk (n:=6) (λj k S'=>∃X R y0 u9 g o,k=[U<|.f<|.int c,U<|.l<|PL s,U<|.f<|.ref m,U<|.f<|.ref t,X,R,y0,u9]/\S'=NY (NY S m (.own 0,.l<|g.map Pa)) t (.own 0,.l<|o.map Pa)/\g.length=3/\o.length=j+1/\(∀E∈g,OJ s E)/\∀E∈o,OJ s E) #[none,none,none,none,[[],[],[]],[[]],Y,Y,Y,Y,?_,?_] ?_ ?_]
 ·intro E i;rcases AB.mp i with rfl|i
  ·exact OJ.nil
  rcases AB.mp i with rfl|i
  ·exact OJ.nil
  ·cases An.mp i;exact OJ.nil
 ·intro E i;cases An.mp i;exact OJ.nil
 ·rintro j k S' hj ⟨X,R,y0,u9,g,o,rfl,rfl,A,O,j0,i⟩;symm;have xe:g≠[]:=λe=>by rw[e]at A;cases A
  have w:NY (NY S m (.own 0,.l<|g.map Pa)) t (.own 0,.l<|o.map Pa) m=U (.own 0,.l<|g.map Pa):=(N0 p).trans NZ;refine .mk c _ Y λn=>?_
  symm;refine#[OV Nq,?_];symm;let(a,E,D,u,_):=Ys xe (n:Int);rw[A]at D;have I:=j0 E<|Av u;have a3:=(Ah.mp u).1;refine#[_,_,Pa E,.inr #[_,_,Y,w],Y,by rw[show(n:Int)%3=_ from D];exact Pz (by rw[Ag,u];rfl),?_];symm;obtain⟨q,hq⟩:∃q,s[a]?=U q:=#[s[a]'(Nr),Al _];refine#[λk S2=>∃C,k=[U<|.f<|.int c,U<|.l<|PL s,U<|.f<|.ref m,U<|.f<|.ref t,U<|.f<|.int<|0+(j:Int),U<|.f<|.int (n:Int),U<|.f<|.int<|(n:Int)%3,U<|Pa C]/\S2=NY (NY S m (.own 0,.l<|g.map Pa)) t (.own 0,.l<|o.map Pa)/\OJ s C,?_,?_]
  ·refine #[#[Nq,Nq],OV Nq,Y,?_];by_cases h1:(n:Int) / 3%2=1
   ·refine(show Q3 _ _ _ from Ot (Ao<|congrArg V.int h1) ?_);refine#[#[Nq,Nq],OV Nq,?_];let(b,G,eb,hG,_):=Ys xe<|(n:Int) / 6;rw[A]at eb;have oG:=j0 G<|Av hG;refine#[_,_,Pa G,.inr #[_,_,Y,w],Y,by rw[show(n:Int) / 6%3=_ from eb];exact Pz (by rw[Ag,hG];rfl),?_];refine .mk E G Y Y (x I) (x oG) I.1 oG.1 ?_;exact#[_,Y,Y,I.join oG]
   ·refine(show Q3 _ _ _ from Oi (Ar λz=>h1<|by injection z) #[_,Y,Y,I])
  ·rintro k S2⟨C,rfl,rfl,y⟩;symm;refine#[_,_,.f<|.str q,.inl Y,Y,by rw[show(n:Int)%3=_ from D];exact Pz (by unfold PL;rw[Ag,hq];rfl),?_];rw[C2];refine#[_,Y,Ac1 (n:=j) Nr,?_];refine#[?_,?_]
   ·have:=AiD #[j,Nr];exact AL this (by rw[Bf];decide)
   refine .mk C q _ Y Y (x y) y.1 ?_;have oW:=y.ApZ (v:=A8 "h"++A8 (toString (j:Int)))<|Av hq;generalize Xi C q (A8 "h"++A8 (toString (j:Int)))=W at *;refine#[_,_,_,_,a,Y,Y,w,by rw[show(n:Int)%3=_ from D];exact vB (by rw[Ac];exact a3),?_];have P:∀E∈g.set a W,OJ s E:=λE i=>by
    rcases EJ i with i|rfl
    ·exact j0 E i
    ·exact oW
   have e1:NY (NY (NY S m (.own 0,.l<|g.map Pa)) t (.own 0,.l<|o.map Pa)) m (.own 0,.l<|(g.map Pa).set a (Pa W))=NY (NY S m (.own 0,.l<|(g.set a W).map Pa)) t (.own 0,.l<|o.map Pa):=by rw[AgT p.symm,Sa,List.map_set]
   symm;rw[e1];have B:NY (NY S m (.own 0,.l<|(g.set a W).map Pa)) t (.own 0,.l<|o.map Pa) m=U (.own 0,.l<|(g.set a W).map Pa):=(N0 p).trans NZ;refine#[.inl #[Y,_,.inr #[_,_,Y,NZ]],?_];refine#[_,_,Pa W,.inr #[_,_,Y,B],Y,by rw[show(n:Int)%3=_ from D];exact Pz (by rw[Ag,Bd a3];rfl),?_];refine#[_,_,_,_,Y,Y,NZ,by rw[Ac];omega,?_];refine#[_,_,_,_,g.set a W,o++[W],Y,?_,by rw[Cs];exact A,by rw[AN,O];rfl,P,λE K=>?_]
   ·rw[Sa,AU];rfl
   ·rcases AY.mp K with h|h
    ·exact i E h
    ·cases An.mp h;exact oW
 ·rintro k S'⟨X,R,y0,u9,g,o,rfl,rfl,A,O,j0,i⟩;refine gM NZ ?_;rw[RX (by rw[N0 p.symm];exact aa)];exact kQ o O i m _ hm
def gV(G:Gd 90 M Z):hF M Z 6 "_law_begin" X8:=by
 refine cP (N:=["_law_world_here","_law_model","_law_asker","_law_key","_law_writes","_law_asks","_law_ask","_law_counts","_law_row","_law_label","_law_house"]) 5 11 G.T.d G.T.a_law_begin (λφ H r=>NT (Og r.2 5<|N6 r.1 (ev 1)<|N8) (NT (Og r.2 6<|Oy P8 (O4 Qu Nt G.T.b_len Boot.b_len<|NS (ev 5) NU)<|N2) (NT (Og r.2 7<|N6 r.1 (N6 r.1 (ev 1)<|N8)<|ev 3) (NT (Og r.2 8<|uN (PJ (N8) (Alv<|ev 4)<|PJ (N8) (Pk PD (ev 7)<|N2)<|PJ (N8) (Wh<|NU)<|PJ (N8) (OA)<|PJ (N8) (N8)<|nQ) Y Y (Gj _ _) Nq) (NT (Oq<|uM F.plainAttrs_dict F.slot_dict_update F.type_dict_update Ac7 (ev 8)<|NS (uN (PJ (N8) (ev 2)<|PJ (N8) (ev 3)<|nQ) Y Y (Gj _ _) Nq) NU) (NT (Og r.2 9<|N8) (NT (sR (O5 (Pp<|ev 4) (NT (OW r.1 (ev 8) (N8)<|Pk PD (ev 7)<|N2) (NT (OW r.1 (ev 8) (N8)<|Of (G.SY Y) r.1<|NS (Rk r.1 (N6 r.1 (ev 1)<|N8) (P1<|NS (ev 2)<|NS (ev 3) NU)<|OA)<|NS (ev 2)<|NS (Oy YW (N8)<|OY Yt Nt G.T.b_str Boot.b_str<|NS (ev 6) NU) NU) (NT (OW r.1 (N6 r.1 (ev 1)<|N8) (P1<|NS (ev 2)<|NS (ev 3) NU)<|N6 r.1 (ev 8)<|N8) (NV<|Og r.2 9<|N8))))<|Oe)) (NT (Oq<|uM F.plainAttrs_list F.slot_list_append F.type_list_append XQ (ev 5)<|NS (ev 8) NU) (NT (Y6 (N6 r.1 (N6 r.1 (ev 1)<|N8)<|ev 3) (OU r.2 10)<|NV<|Oq<|Of (G.Ue Y) r.1<|NS (ev 1)<|NS (ev 9)<|NS (ev 6)<|NS (ev 10)<|NS (ev 3)<|NS (N6 r.1 (ev 8)<|N8) NU) (NT (sR<|O5 (Pp<|ev 4) (NV<|Oh<|bQ U9 (Od (G.WH Y) r.1 (ev 0)<|NS (ev 2)<|NS (ev 3)<|NS (Oy YW (N8)<|OY Yt Nt G.T.b_str Boot.b_str<|NS (ev 6) NU) NU)<|ev 6)<|Oe) (NV<|Oh<|bQ U9 (Od (G.Yl Y) r.1 (ev 0)<|NS (ev 2)<|NS (ev 3) NU)<|ev 6))))))))))) ?_
 rintro F ds S Q⟨i,A,w,T,y,c,qs,s,B,OZ,rfl,rfl,wd,ur,v,hs,an,L,my,y0,aa,kQ⟩;walk_at"q";have l1:=v.l1;have l3:=v.l3;refine zG (ur.io .top)<|PZ #[_,Y,?_];walk_at"q";refine#[_,.inl<|ur.io .asks,?_];rw[Ac,By];walk_at"q";have ao:(Qc w OZ).Ms.length=w.Ms.length:=rfl;refine zG (ur.io .top)<|PZ #[_,Y,?_];refine zG (ur.io .counts)<|tY #[_,AeG v.tok L,?_];walk_at"q"
 refineλa j0 _=>?_
 dsimp only[Yx];refine#[_,_,_,Y,Y,Y,?_];refine#[Y,Pw ?_];refine Pw ?_;refine#[NZ,[(.inr "read",.f<|.bl<|!c),(.inr "need",.f<|.int T.r),(.inr "heard",.l []),(.inr "state",.d []),(.inr "word",.f<|.str "open")],.own<|8+w.Ms.length,Y,by show 5<=15;decide,?_];rw[Sa];walk_at"q";have ae:=ur.new (x:=(.own<|8+w.Ms.length,.d [(.inr "read",.f<|.bl<|!c),(.inr "need",.f<|.int T.r),(.inr "heard",.l []),(.inr "state",.d []),(.inr "word",.f<|.str "open")])) j0;have ad:=wd.zR (x:=(.own<|8+w.Ms.length,.d [(.inr "read",.f<|.bl<|!c),(.inr "need",.f<|.int T.r),(.inr "heard",.l []),(.inr "state",.d []),(.inr "word",.f<|.str "open")])) j0;have V:NY S a (.own<|8+w.Ms.length,.d [(.inr "read",.f<|.bl<|!c),(.inr "need",.f<|.int T.r),(.inr "heard",.l []),(.inr "state",.d []),(.inr "word",.f<|.str "open")]) a=U (.own<|8+w.Ms.length,.d [(.inr "read",.f<|.bl<|!c),(.inr "need",.f<|.int T.r),(.inr "heard",.l []),(.inr "state",.d []),(.inr "word",.f<|.str "open")]):=NZ;change gA _ _ _ _ _ (NY S a (.own<|8+w.Ms.length,.d [(.inr "read",.f<|.bl<|!c),(.inr "need",.f<|.int T.r),(.inr "heard",.l []),(.inr "state",.d []),(.inr "word",.f<|.str "open")]));generalize NY S a (.own<|8+w.Ms.length,.d [(.inr "read",.f<|.bl<|!c),(.inr "need",.f<|.int T.r),(.inr "heard",.l []),(.inr "state",.d []),(.inr "word",.f<|.str "open")])=S1 at *;have R:∀{S:N9}{M:M7},M.Ms.length=w.Ms.length->Py B M S->∀{o:O}{x:Rl×O},S a=U (.own<|8+w.Ms.length,o)->Py B M (NY S a x):=λ{S M}e u{o}{x}h=>u.AqX h λx o q=>by rw[<-e];exact u.AnQ x q
 refine#[.inr<|.inr #[Y,a,_,_,Y,V,nofun],?_]
 refineλp2 D _=>?_
 dsimp only[Yx];have I:a≠p2:=λz=>by rw[z,D]at V;cases V
 refine#[NZ,[(.inr "asker",.f<|.str y),(.inr "key",.f<|.int T.key)],.own 0,Y,by show 2<=15;decide,?_];rw[Sa];refine#[a,_,_,_,_,Y,Y,(N0 I).trans V,nofun,.inr #[_,_,Y,NZ],λz=>I (by injection z with z;injection z with z;exact z.symm),by show 5+2<=_;decide,?_];have ab:=ad.zR (x:=(.own 0,.d [(.inr "asker",.f<|.str y),(.inr "key",.f<|.int T.key)])) D;have ac:=ae.new (x:=(.own 0,.d [(.inr "asker",.f<|.str y),(.inr "key",.f<|.int T.key)])) D;have h2:=(N0 (S:=S1) (x:=(.own 0,.d [(.inr "asker",.f<|.str y),(.inr "key",.f<|.int T.key)])) I).trans V;have af:=ab.o0 (x:=(.own<|8+w.Ms.length,.d [(.inr "read",.f<|.bl<|!c),(.inr "need",.f<|.int T.r),(.inr "heard",.l []),(.inr "state",.d []),(.inr "word",.f<|.str "open"),(.inr "asker",.f<|.str y),(.inr "key",.f<|.int T.key)])) h2;have ah:=R Y ac h2 (x:=(.own<|8+w.Ms.length,.d [(.inr "read",.f<|.bl<|!c),(.inr "need",.f<|.int T.r),(.inr "heard",.l []),(.inr "state",.d []),(.inr "word",.f<|.str "open"),(.inr "asker",.f<|.str y),(.inr "key",.f<|.int T.key)]));walk_at"q";change gA _ _ _ _ _ (NY (NY S1 p2 (.own 0,.d [(.inr "asker",.f<|.str y),(.inr "key",.f<|.int T.key)])) a (.own<|8+w.Ms.length,.d [(.inr "read",.f<|.bl<|!c),(.inr "need",.f<|.int T.r),(.inr "heard",.l []),(.inr "state",.d []),(.inr "word",.f<|.str "open"),(.inr "asker",.f<|.str y),(.inr "key",.f<|.int T.key)]));have h3:NY (NY S1 p2 (.own 0,.d [(.inr "asker",.f<|.str y),(.inr "key",.f<|.int T.key)])) a (.own<|8+w.Ms.length,.d [(.inr "read",.f<|.bl<|!c),(.inr "need",.f<|.int T.r),(.inr "heard",.l []),(.inr "state",.d []),(.inr "word",.f<|.str "open"),(.inr "asker",.f<|.str y),(.inr "key",.f<|.int T.key)]) a=U (.own<|8+w.Ms.length,.d [(.inr "read",.f<|.bl<|!c),(.inr "need",.f<|.int T.r),(.inr "heard",.l []),(.inr "state",.d []),(.inr "word",.f<|.str "open"),(.inr "asker",.f<|.str y),(.inr "key",.f<|.int T.key)]):=NZ;generalize NY (NY S1 p2 (.own 0,.d [(.inr "asker",.f<|.str y),(.inr "key",.f<|.int T.key)])) a (.own<|8+w.Ms.length,.d [(.inr "read",.f<|.bl<|!c),(.inr "need",.f<|.int T.r),(.inr "heard",.l []),(.inr "state",.d []),(.inr "word",.f<|.str "open"),(.inr "asker",.f<|.str y),(.inr "key",.f<|.int T.key)])=S3 at *;clear h2 ac ab ae ad V D I j0;walk_at"q";have ai:=v.tojE.Ac3 y T.key;have vl:=Akt #[w.Ms.length+1,Nr];have vo:=Am3 #[w.Ms.length+1,Nr];dsimp only[gA,bN,dC];walk_at"q";refine#[λg u9=>∃P C l,g=[U<|.f<|.ref<|A .top,U<|.f<|.ref<|B .top,U<|.f<|.str y,U<|.f<|.int T.key,U<|.f<|.bl c,U<|.f<|.ref<|B .asks,U<|.f<|.int<|w.Ms.length+1,U<|Afb<|UU T,U<|.f<|.ref a,U<|.f<|.str P,none]/\u9 a=U (.own<|8+w.Ms.length,.d<|fY C)/\Ox Z.w i A w u9/\Py B {Qc w OZ with QL:=l} u9/\((c=Af/\P="put"/\C=#["write",y,T.key,T.w,Xi (OF w.QL y T.key) y<|Aks<|w.Ms.length+1,[],[],"open"]/\l=P2 (λe=>Sx e.1) w.QL ((y,T.key),Xi (OF w.QL y T.key) y<|Aks<|w.Ms.length+1))\/(c=Am/\P="query"/\C=#["read",y,T.key,T.r,[],SM w T.key,[],"open"]/\l=w.QL)),?_,?_]
 ·cases c with
  |true=>
    refine#[_,_,_,Y,Y,Y,?_];refine pJ h3 nofun (by show 7<_;decide)<|PZ ?_;have al:=af.o0 (x:=(.own<|8+w.Ms.length,.d [(.inr "read",.f<|.bl Am),(.inr "need",.f<|.int T.w),(.inr "heard",.l []),(.inr "state",.d []),(.inr "word",.f<|.str "open"),(.inr "asker",.f<|.str y),(.inr "key",.f<|.int T.key)])) h3;have m:=R Y ah h3 (x:=(.own<|8+w.Ms.length,.d [(.inr "read",.f<|.bl Am),(.inr "need",.f<|.int T.w),(.inr "heard",.l []),(.inr "state",.d []),(.inr "word",.f<|.str "open"),(.inr "asker",.f<|.str y),(.inr "key",.f<|.int T.key)]));walk_at"q";change gA _ _ _ _ _ (NY S3 a (.own<|8+w.Ms.length,.d [(.inr "read",.f<|.bl Am),(.inr "need",.f<|.int T.w),(.inr "heard",.l []),(.inr "state",.d []),(.inr "word",.f<|.str "open"),(.inr "asker",.f<|.str y),(.inr "key",.f<|.int T.key)]));have h4:NY S3 a (.own<|8+w.Ms.length,.d [(.inr "read",.f<|.bl Am),(.inr "need",.f<|.int T.w),(.inr "heard",.l []),(.inr "state",.d []),(.inr "word",.f<|.str "open"),(.inr "asker",.f<|.str y),(.inr "key",.f<|.int T.key)]) a=U (.own<|8+w.Ms.length,.d [(.inr "read",.f<|.bl Am),(.inr "need",.f<|.int T.w),(.inr "heard",.l []),(.inr "state",.d []),(.inr "word",.f<|.str "open"),(.inr "asker",.f<|.str y),(.inr "key",.f<|.int T.key)]):=NZ;generalize NY S3 a (.own<|8+w.Ms.length,.d [(.inr "read",.f<|.bl Am),(.inr "need",.f<|.int T.w),(.inr "heard",.l []),(.inr "state",.d []),(.inr "word",.f<|.str "open"),(.inr "asker",.f<|.str y),(.inr "key",.f<|.int T.key)])=W at *;refine zG (m.io .top)<|PZ #[_,Y,?_];refine#[.inr #[_,m.io .Um],Y,Pw ?_];refine Am6 (z:=y) (n:=T.key) m ?_;refine#[_,Y,Ac1 (n:=w.Ms.length+1) Nr,?_];refine#[?_,?_]
    ·have:=AeJ #[w.Ms.length+1,Nr];exact AL this (by rw[Bf];decide)
    refine .mk (OF w.QL y T.key) y (Aks<|w.Ms.length+1) Y Y (v.tojE.Ai1 y T.key) ai.1 ?_;generalize hE:Xi (OF w.QL y T.key) y (Aks<|w.Ms.length+1)=E at *;refine pJ h4 nofun (by show 7<_;decide)<|PZ ?_;have k:=al.o0 (x:=(.own<|8+w.Ms.length,.d<|fY #["write",y,T.key,T.w,E,[],[],"open"])) h4;have b:=R Y m h4 (x:=(.own<|8+w.Ms.length,.d<|fY #["write",y,T.key,T.w,E,[],[],"open"]));walk_at"q";change gA _ _ _ _ _ (NY W a (.own<|8+w.Ms.length,.d<|fY #["write",y,T.key,T.w,E,[],[],"open"]));have h5:NY W a (.own<|8+w.Ms.length,.d<|fY #["write",y,T.key,T.w,E,[],[],"open"]) a=U (.own<|8+w.Ms.length,.d<|fY #["write",y,T.key,T.w,E,[],[],"open"]):=NZ;generalize NY W a (.own<|8+w.Ms.length,.d<|fY #["write",y,T.key,T.w,E,[],[],"open"])=S5 at *;refine zG (.inr #[_,_,Y,h5])<|PZ #[_,Y,?_];refine zG (F:=[]) (b.io .top)<|PZ #[_,Y,?_];refine#[Y,?_];refine Ap1 (e:=(y,T.key)) b (by show w.QL.length<_;omega) λS6 K f7 x7=>?_
    have h6:S6 a=U (.own<|8+w.Ms.length,.d<|fY #["write",y,T.key,T.w,E,[],[],"open"]):=(x7 a<|T8 h5 (b .Um _ Y) (λz=>by injection z with z;simp only[AaW]at z;omega)).trans h5;walk_at"e";exact#[_,_,_,Y,h6,k.fo f7,K,.inl #[Y,Y,Y,Y]]
  |false=>exact#[_,#["read",y,T.key,T.r,[],SM w T.key,[],"open"],_,Y,h3,af,ah,.inr #[Y,Y,Y,Y]]
 ·rintro g u9 ⟨P,C,l,rfl,h5,k,m,hc⟩;walk_at"q";refine#[.inl #[Y,_,m.io .asks],?_];refine Aq7 m h5 (by show w.Ms.length<_;omega) λS3 b f6=>?_
  have aj:=k.fo f6;have eb:Ah4 B w.Ms.length a .top=B .top:=rfl;have b:Py (Ah4 B w.Ms.length a) (Qc {w with QL:=l,Ms:=w.Ms++[C]} OZ) S3:=b;have ak:Ah4 B w.Ms.length a (.ask w.Ms.length)=a:=Az Y;have am:(w.Ms++[C])[w.Ms.length]?=U C:=by rw[BC<|Ap _,Dg];rfl
  generalize Ah4 B w.Ms.length a=X at *;rw[<-eb];walk_at"q";refine zG (b.io .top)<|PZ #[_,Y,?_];refine zG (b.io .QE)<|tY #[_,SJ v.tok L,?_];refine#[_,.inl Y,.inl Y,Lp.mk (λj g u9=>∃u,g=[U<|.f<|.ref<|A .top,U<|.f<|.ref<|X .top,U<|.f<|.str y,U<|.f<|.int T.key,U<|.f<|.bl c,U<|.f<|.ref<|B .asks,U<|.f<|.int<|w.Ms.length+1,U<|Afb<|UU T,U<|.f<|.ref a,U<|.f<|.str P,u]/\Py X (Qc (QO {w with QL:=l,Ms:=w.Ms++[C]} P (w.Ms.length+1) T.key C.RY ((T.sh.map (·.1)).take j)) OZ) u9/\Ox Z.w i A w u9) #[none,Y,?_,aj] (λ_ _ _ _=>.inl Y) ?_ ?_]
  ·rw[EA,W4];exact b
  ·rintro j x g W hx⟨u,rfl,p,t⟩;unfold PL at hx;rw[Ag]at hx;let(e,he,rfl):=AA.mp hx;walk_at"q";have ag:=p.uC (n:=w.Ms.length) (C:=C) am;rw[ak]at ag;refine zG (.inr #[_,_,Y,ag])<|PZ #[_,Y,?_];refine .mk X _ P (U<|w.Ms.length+1) e T.key C.RY Y p ?_ λS5 K f7=>#[_,Y,?_,t.fo f7]
   ·show(QO _ _ _ _ _ _).Ls.length<_;rw[dE,Bm,Ac];have:=v.tok.bU T L;show w.Ls.length+_<_;omega
   ·rw[take_snoc he,U6];exact K
  ·rintro g W ⟨u,rfl,p,t⟩;have el:(PL (T.sh.map (·.1))).length=(T.sh.map (·.1)).length:=Ac ..;rw[el,BI]at p;walk_at"q";rcases hc with⟨rfl,e1,e2,e3⟩|⟨rfl,e1,e2,e3⟩
   ·subst e1 e2 e3;refine#[λ_ _=>False,?_,λ_ _ q=>q.elim];walk_at"e";refine#[RS t .top,?_];refine#[_,Y,Ac1 (n:=w.Ms.length+1) Nr,?_];refine#[?_,?_]
    ·have:=AeJ #[w.Ms.length+1,Nr];exact AL this (by rw[Bf];decide)
    refine .mk i A w T y (Aks<|w.Ms.length+1) qs Y Y t v.tojE L y0 aa vo (AL vl Nq) Nr Nr Nr λA' S5 ea k f5=>?_
    refine#[Y,?_];rw[Ao Y];exact OP<|kQ A' X _ S5 ea eb k (p.fr f5) (v.ApA L my hs) Y Y (by show(w.Ms++[_]).length=_;rw[AN];rfl)
   ·subst e1 e2 e3;refine#[λg S=>g=_/\S=W,#[Y,Y],?_];rintro _ _⟨rfl,rfl⟩;walk_at"e";refine#[RS t .top,?_];refine .mk i A w T y qs Y Y t v.tojE L y0 aa Nr Nr λA' S5 ea k f5=>?_
    refine#[Y,?_];rw[Ao Y];exact OP (kQ A' X _ S5 ea eb k (p.fr f5) (v.Apg L my hs) Y Y (by show(w.Ms++[_]).length=_;rw[AN];rfl))
def Z4(G:Gd 91 M Z):hF M Z 7 "_law_brought" Vp:=by
 refine cP (N:=["_law_world_here","_law_model","_law_number","_law_rows","_law_row","_law_house","_law_key","_law_place","_law_shelves"]) 3 9 G.T.d G.T.a_law_brought (λφ H r=>NT (Og r.2 3<|N6 r.1 (ev 1)<|N8) (NT (O5 (OL Aa8 (O4 Qu Nt G.T.b_len Boot.b_len<|NS (ev 3) NU)<|N2) (NV<|oM)<|Oe) (NT (Og r.2 4<|uM F.plainAttrs_list F.slot_list_pop F.type_list_pop AfS (ev 3)<|NS (Oy P8 (N2)<|Oy PF (ev 2)<|Oy Ado (O4 Qu Nt G.T.b_len Boot.b_len<|NS (ev 3) NU)<|N2) NU) (NT (Oq<|Od (G.Wz Y) r.1 (ev 0)<|NS (Pk PD (ev 4)<|N2) NU) (NT (Og r.2 5<|Pk PD (ev 4)<|N2) (NT (Og r.2 6<|Pk PD (ev 4)<|N2) (NT (Og r.2 7<|P1<|NS (ev 5)<|NS (ev 6) NU) (NT (Og r.2 8<|N6 r.1 (ev 1)<|N8) (NV (O5 (OL Ti (Pk PD (ev 4)<|N2)<|P1<|NS (N8)<|NS (N8) NU) (NV<|Oq<|Of (G.fV Y) r.1<|NS (ev 1)<|NS (Pk PR (N6 r.1 (ev 1)<|N8)<|Oy Ado (Pk PD (ev 4)<|N2)<|N2)<|NS (ev 5)<|NS (Pk PD (ev 4)<|N2) NU) (NV (O5 (PW.nR<|w_and (OL Ti (ev 5)<|N6 r.1 (N6 r.1 (ev 1)<|N8)<|ev 6)<|Zd<|OL U9 (Pk PD (ev 4)<|N2)<|N8) (NT (OW r.1 (ev 8) (ev 7)<|Of (G.Sf Y) r.1<|NS (Rk r.1 (ev 8) (ev 7)<|OA)<|NS (Pk PD (ev 4)<|N2) NU) (NV<|Oq<|Of (G.Ue Y) r.1<|NS (ev 1)<|NS (N8)<|NS (Pk PD (ev 4)<|N2)<|NS (ev 5)<|NS (ev 6)<|NS (OA) NU))<|NV<|O5 (OL Ti (ev 5)<|N6 r.1 (N6 r.1 (ev 1)<|N8)<|ev 6) (NV<|Oq<|Of (G.Ue Y) r.1<|NS (ev 1)<|NS (N8)<|NS (Pk PD (ev 4)<|N2)<|NS (ev 5)<|NS (ev 6)<|NS (OY Qt Nt G.T.b_dict Boot.b_dict<|NS (Rk r.1 (ev 8) (ev 7)<|OA) NU) NU)<|Oe)))))))))))) ?_
 rintro F ds S Q⟨i,A,w,n,W,s,B,k,rfl,rfl,wd,E,c,y0,hq,I⟩;walk_at"q";have l1:=c.l1;have l2:=c.l2;have l3:=c.l3;have l6:=c.l6;refine zG (E.io .top)<|PZ #[_,Y,?_];walk_at"q";refine#[_,.inl<|E.io .rows,?_];have p:(((D.f (.int (Qc w k).O6)::(Qc w k).Ls.map Aee).length:Nat):Int)=w.Ls.length+1:=by rw[AM,Ac];rfl
 by_cases X:w.Ls=[]
 ·refine(show Q3 _ _ _ from Ot (Ao (by rw[p,X];decide)) ?_);exact I w k S wd E (c.le Nr Nr) .refl
 have ac:=C5.mpr X;refine(show Q3 _ _ _ from Oi (Ar (by rw[p];omega)) ?_);walk_at"q";refine#[.inl #[Y,_,E.io .rows],?_];refine#[_,.inl<|E.io .rows,?_];have O:(((D.f (.int (Qc w k).O6)::(Qc w k).Ls.map Aee).length:Nat):Int)-1=w.Ls.length:=by rw[p];omega
 refine#[by show(0:Int)<_-1;rw[O];omega,?_];let(j,L,ej,V,_):=Ys X n;have u:=Av V;have x:=c.sl L u;have ab:1+n%((((D.f (.int (Qc w k).O6)::(Qc w k).Ls.map Aee).length:Nat):Int)-1)=1+(j:Int):=by rw[O,ej]
 refine Ara (M:=Qc w k) (j:=j) ab E V (by show w.Ls.length<_;omega) λS1 y f1=>?_
 have K:=wd.fo f1;have y:Py B (Qc (Pm w L.num) k) S1:=by unfold Qc;rw[wN c.UQ V];exact y
 walk_at"q";refine#[RS K .top,?_];refine#[_,_,_,Y,Y,Y,?_];refine .mk i A w L Am W s Y Y K c.aw c.toWB hq u λw' S2 br g f2=>?_
 have b:=y.fr f2;walk_at"q";refine#[_,_,_,Y,Y,Y,?_];walk_at"q";refine#[_,_,_,Y,Y,Y,?_];walk_at"q";refine#[Y,?_];walk_at"q";refine zG (F:=[]) (b.io .top)<|PZ #[_,Y,?_];walk_at"e";refine#[_,_,_,Y,Y,Y,Y,?_];refine#[_,_,Y,.inr Y,Y,Y,?_];cases br with
 |st T a hT eK=>
   have a:L.OQ="put":=a.elim id λq=>absurd q<|c.lh L u
   let(h,o):=c.Aqj u hT eK a y0;refine Oi (by rw[a];decide +kernel) ?_;refine zG (b.io .top)<|PZ #[_,Y,?_];refine zG (b.io .QE) (tY #[.l (PL (T.sh.map (·.1))),by rw[eK];exact SJ (Ts:=w.Ts) c.tok hT,?_]);refine Akw (T.sh.map (·.1)) (.inl Y) Y ?_;rw[Aq AI];unfold Aj4 at h;by_cases m:L.Pn∈T.sh.map (·.1)
   ·rw[Az #[a,m]]at h;refine Ot (Ao m) ?_;refine#[_,_,_,Y,Y,Y,Y,?_];refine Ot (by rw[a];decide +kernel) ?_;have R:Xo (Pm w L.num) T L=Zt {Pm w L.num with Ts:=P4 w.Ts (QG T L.Pn L.Xk)} "ack" L.ask L.Pn L.key []:=by
     unfold Xo;rw[Az m,Aq (show¬ L.Pn∈(Pm w L.num).away by show¬ L.Pn∈w.away;rw[c.aw];nofun),Az a];rfl
    rw[R]at h o g;have j0:OJ W (OF k L.Pn L.key):=by rw[eK,<-c.ss T hT];exact c.tojE.AbH hT L.Pn
    refine#[.inr #[_,b.io .Qa],Pw ?_];refine Aku (z:=L.Pn) (n:=L.key) b ?_;refine#[_,_,_,Y,Y,Y,?_];refine .mk _ L.Xk Y Y (c.tojE.rK j0) (c.tojE.rK x) j0.1 x.1 ?_;refine Ap2 (e:=(L.Pn,L.key)) b (by show k.length<_;omega) λP t f3=>?_
    have aa:=g.fo f3;have sk:(P4 w.Ts<|QG T L.Pn L.Xk).map RB=w.Ts.map RB:=oN c.tok hT YQ;have ct:(P4 w.Ts<|QG T L.Pn L.Xk).map UU=w.Ts.map UU:=eP c.tok hT TZ cX;have t:Py B (Qc {Pm w L.num with Ts:=P4 w.Ts (QG T L.Pn L.Xk)} (P2 (λe=>Sx e.1) k ((L.Pn,L.key),Ow (OF k L.Pn L.key) L.Xk))) P:=by unfold Qc;show Py B #[_,_,_,_,_,(P4 w.Ts<|QG T L.Pn L.Xk).map RB,(P4 w.Ts<|QG T L.Pn L.Xk).map UU] P;rw[sk,ct];exact t
    walk_at"q";refine#[_,_,_,Y,Y,Y,Pw ?_];refine .mk B _ "ack" L.ask L.Pn L.key [] Y t (by show(w.Ls.filter _).length<_;exact BJ (BK ..) Nr) λS4 v f4=>?_
    exact I _ _ S4 (aa.fo f4) v h o
   ·rw[Aq λq=>m q.2]at h;refine Oi (Ar m) ?_;have R:Xo (Pm w L.num) T L=Pm w L.num:=by
     unfold Xo;rw[Aq m]
    rw[R]at h o g;refine zG (b.io .top)<|PZ #[_,Y,?_];refine zG (b.io .QE) (tY #[.l (PL (T.sh.map (·.1))),by rw[eK];exact SJ (Ts:=w.Ts) c.tok hT,?_]);refine Akw (T.sh.map (·.1)) (.inl Y) Y ?_;rw[Aq AI];exact Oi (Ar m)<|I _ _ S2 g b h o
 |qu T a hT eK=>
   let(h,o):=c.Aqi u hT eK a y0;unfold pR at h o g;refine Oi (by rw[a];decide +kernel) ?_;refine zG (b.io .top)<|PZ #[_,Y,?_];refine zG (b.io .QE) (tY #[.l (PL (T.sh.map (·.1))),by rw[eK];exact SJ (Ts:=w.Ts) c.tok hT,?_]);refine Akw (T.sh.map (·.1)) (.inl Y) Y ?_;rw[Aq AI];by_cases m:L.Pn∈T.sh.map (·.1)
   ·rw[Az #[m,show¬ L.Pn∈w.away by rw[c.aw];nofun]]at h o g;refine Ot (Ao m) ?_;refine#[_,_,_,Y,Y,Y,Y,?_];refine Oi (by rw[a];decide +kernel) ?_;refine zG (b.io .top)<|PZ #[_,Y,?_];refine zG (b.io .QE) (tY #[.l (PL (T.sh.map (·.1))),by rw[eK];exact SJ (Ts:=w.Ts) c.tok hT,?_]);refine Akw (T.sh.map (·.1)) (.inl Y) Y ?_;rw[Aq AI];refine Ot (Ao m) ?_;refine#[_,_,_,Y,Y,Y,?_];refine#[.inr #[_,b.io .Qa],Pw ?_];refine Aku (z:=L.Pn) (n:=L.key) b ?_;refine#[_,.inl Y,Pw ?_];refine .mk B _ "told" L.ask L.Pn L.key (OF k L.Pn L.key) Y b (by show(w.Ls.filter _).length<_;exact BJ (BK ..) Nr) λS4 v f4=>?_
    rw[c.ss T hT,<-eK]at h o g;exact I _ _ S4 (g.fo f4) v h o
   ·rw[Aq λq=>m q.1]at h o g;refine Oi (Ar m) ?_;refine zG (b.io .top)<|PZ #[_,Y,?_];refine zG (b.io .QE) (tY #[.l (PL (T.sh.map (·.1))),by rw[eK];exact SJ (Ts:=w.Ts) c.tok hT,?_]);refine Akw (T.sh.map (·.1)) (.inl Y) Y ?_;rw[Aq AI];exact Oi (Ar m)<|I _ _ S2 g b h o
 |an n C a hA hB=>
   let(h,o):=c.TQ u a hA hB y0;have hn:=(Ah.mp hB).1;have u9:=c.mw C<|Av hB;have hh:=u9.hl;refine Ot (by rcases a with e|e<;>rw[e]<;>decide +kernel) ?_;refine zG (b.io _)<|PZ #[_,Y,?_];refine#[_,_,_,Y,Y,Y,?_];rw[hA];refine#[_,_,.f<|.ref<|B<|.ask n,b.io _,Y,?_,?_]
   ·rw[show((n:Int)+1-1)=n by omega];exact Pz (by rw[Ag,CH (show n<(Qc (Pm w _) k).Ms.length from hn)];rfl)
   refine#[_,_,_,Y,Y,Y,?_];have kw:C.kind="write"->L.Xk=[]:=λhk=>by
    rcases a with e|e
    ·exact c.ak L u e
    ·let(n',B',e1,e2,e3):=c.la L u (by rw[e];decide +kernel);rw[hA]at e1;injection e1 with e1;have:n=n':=Nr;subst this;rw[hB]at e2;cases e2;rcases e3 with⟨_,q⟩|⟨q,_⟩
     ·rw[e]at q;exact absurd q Np
     ·rw[hk]at q;exact absurd q Np
   refine .mk B _ n C _ _ W Y Y b hB u9.kd kw u9.op (c.sm C<|Av hB) x c.tojE.Ac3 c.q9 Nr (by show w.QL.length<_;omega) λP t f3=>?_
   exact I _ _ P (g.fo f3) t h o
def gZ(G:Gd 92 M Z):hF M Z 3 "_law_other" Yd:=by
 refine cP (N:=["_law_names_here","_law_cell_here","_law_houses_here","_law_found"]) 3 4 G.T.d G.T.a_law_other (λφ H r=>NT (O5 (PW.nR<|w_or (OL Af2 (Oy PF (ev 1)<|N2)<|N2)<|TL<|OL Aa8 (O4 Ab8 Nt G.T.b_len Boot.b_len<|NS (ev 2) NU)<|N2) (NV<|Oh<|Of (G.Ud Y) r.1<|NS (ev 0)<|NS (Oy SO (ev 1)<|N2) NU)<|Oe) (NT (Og r.2 3<|OY Qt Nt G.T.b_dict Boot.b_dict<|NS (ev 2) NU) (NT (Oq<|xQ (ev 3)<|Pk PR (O4 (jJ Y) Nt G.T.b_sorted Boot.b_sorted<|NS (ev 2) NU)<|Oy PF (Oy SO (ev 1)<|N2)<|O4 Ab8 Nt G.T.b_len Boot.b_len<|NS (ev 2) NU) (NV<|Oh<|ev 3)))) ?_
 rintro F P S Q⟨c,l,i,rfl,rfl,v,C,E,B,o⟩;symm;refine#[OV Nq,?_];have O:∀Q':QD,(∀h,QT h->(∀e∈h,e.1∈l)->Q' (QU h) S)->True:=λ_ _=>trivial
 clear O;have j:(i.map λe=>((.inr e.1:Key),D.t<|e.2.map λn=>.f<|.int n)).length=i.length:=Ac ..;by_cases q:0<c%4
 ·refine(show Q3 (decide<|0<c%4) _ _ from Ot (Ao q) ?_);refine#[#[Nq,Nq],?_];exact .mk (c / 4) l Y Y v λh a b=>OP<|o h a b
 refine(show Q3 (decide<|0<c%4) _ _ from Oi (Ar q) ?_);refine#[_,.inl Y,?_];rw[j];by_cases k:(i.length:Int)<2
 ·refine(show Q3 (decide<|(i.length:Int)<2) _ _ from Ot (Ao k) ?_);refine#[#[Nq,Nq],?_];exact .mk (c / 4) l Y Y v λh a b=>OP<|o h a b
 refine(show Q3 (decide<|(i.length:Int)<2) _ _ from Oi (Ar k) ?_);symm;refine#[_,.inl Y,RM (.own 0) λa L _=>?_];symm;refine#[.inl #[_,.inr #[_,_,Y,NZ]],?_];refine#[_,i.map (·.1),.inl Y,by rw[As,As];rfl,by rw[Ac];exact E,λp u _=>Pw ?_];refine#[#[Nq,Nq],?_];refine#[_,.inl Y,?_];rw[j];refine#[Nr,?_];have m:p.length=i.length:=by rw[u.length_eq,Ac]
 let(b,y,s,w,_):=Ys (xs:=p) (λe=>by rw[e]at m;cases i with|nil=>simp at k|cons _ _=>cases m)<|c / 4;rw[m]at s;refine#[_,_,.f<|.str y,.inl Y,Y,by rw[s];exact Pz (by rw[Ag,w];rfl),?_];have A:=u.mem_iff.mp<|Av w;have z:=Ug i y;rw[Ao A]at z;let(x,j0):=DD.mp z;refine Ap3 NZ nofun<|PZ #[x,j0,?_];symm;refine gM NZ ?_;rw[Sa,RX L];have I:Yz (i.map λe=>((.inr e.1:Key),D.t<|e.2.map λn=>.f<|.int n)) (.inr y)=(i.filter λe=>decide<|(.inr e.1:Key)≠.inr y).map λe=>(.inr e.1,.t<|e.2.map λn=>.f<|.int n):=lW (g:=λe:Ay×LS=>(.inr e.1:Key)) (c:=λe=>D.t<|e.2.map λn=>.f<|.int n) i _
 show Q (.d<|Yz _ _) S;rw[I];exact o _ (Akj C _) λe K=>B e (Bp.mp K).1
def gX(G:Gd 93 M Z):hF M Z 8 "_law_moved" Yb:=by
 refine cP (N:=["_law_world_here","_law_model","_law_houses_here","_law_handed","_law_key","_law_before","_law_homes","_law_ask","_law_house"]) 3 9 G.T.d G.T.a_law_moved (λφ H r=>NT (Og r.2 3<|OY Qt Nt G.T.b_dict Boot.b_dict<|NS (ev 2) NU) (NT (O5 (PW.nR<|w_or (OL Ajm (Od (G.UG Y) r.1 (ev 0)<|NS (ev 3) NU)<|Xu)<|TL<|OL (Adn r.1) (ev 3)<|ev 2) (NV<|Oh<|TU)<|Oe) (NT (Oq<|Alu F.plainAttrs_dict F.slot_dict_clear F.type_dict_clear Ac6<|ev 3) (NT (eJ (N6 r.1 (ev 1)<|N8) (OU r.2 4) (NT (Og r.2 5<|N6 r.1 (N6 r.1 (ev 1)<|N8)<|ev 4) (NT (Og r.2 6<|Of (G.V5 Y) r.1<|NS (ev 2)<|NS (Oy PF (ev 4)<|N2)<|NS (Pk PD (N6 r.1 (N6 r.1 (ev 1)<|N8)<|ev 4)<|N2) NU) (NT (OW r.1 (N6 r.1 (ev 1)<|N8) (ev 4)<|ev 6) (NT (Y6 (N6 r.1 (ev 1)<|N8) (OU r.2 7)<|NV<|O5 (PW.nR<|w_and (OL (Amb r.1) (O4 jK Nt G.T.b_sorted Boot.b_sorted<|NS (ev 5) NU)<|O4 jK Nt G.T.b_sorted Boot.b_sorted<|NS (ev 6) NU)<|w_and (OL U9 (N6 r.1 (ev 7)<|N8)<|ev 4)<|Zd<|OL U9 (N6 r.1 (ev 7)<|N8)<|N8) (NV<|OW r.1 (ev 7) (N8)<|N8)<|Oe) (NV<|Y6 (ev 5) (OU r.2 8)<|NV<|O5 (OL rQ (ev 8)<|ev 6) (NV<|Oq<|Acn r.1 (N6 r.1 (ev 1)<|N8) (P1<|NS (ev 8)<|NS (ev 4) NU)<|Xu)<|Oe)))))) (NV<|Oh<|TU))))) ?_
 rintro F ds S Q⟨i,A,w,qs,s,B,OZ,g,rfl,rfl,wd,ur,ok,Oj,kQ⟩;walk_at"q";have s9:=ok.s9;have l2:=ok.l2;refine#[_,.inl Y,RM (.own 0) λh hh _=>?_];have P:=wd.zR (x:=(.own 0,.d<|XH g)) hh;have t:=ur.new (x:=(.own 0,.d<|XH g)) hh;have X:NY S h (.own 0,.d<|XH g) h=U (.own 0,.d<|XH g):=NZ;walk_at"q";change gA _ _ _ _ _ (NY S h (.own 0,.d<|XH g));generalize NY S h (Rl.own 0,O.d<|XH g)=S1 at *;walk_at"q";refine#[RS P .top,.mk i A w g (.f<|.ref h) Y (.inr #[_,_,Y,X]) Y P ok.tok Oj ok.cc λA' S2 ea al f2=>?_];have ak:=t.fr f2;have h2:=f2 _ _ _ X (λ_ z=>by cases z);refine#[Y,?_];refine#[g,.inr #[_,_,Y,h2],.inl Y,Oj.nd,?_];refine jY ?_;refine Aay ?_;walk_at"q";refine#[.inr<|.inr #[Y,h,_,_,Y,h2,nofun],Y,h,_,_,Y,h2,nofun,?_];have ag:=al.o0 (x:=(.own 0,.d [])) h2;have aa:=ak.o0 (x:=(.own 0,.d [])) h2;generalize NY S2 h (Rl.own 0,O.d [])=S3 at *;clear ak al t P X h2 f2 hh;walk_at"q";refine zG (aa.io .top)<|PZ #[_,Y,?_];refine#[_,Y,.inr #[B .counts,_,Y,aa .counts _ Y,?_]];rintro a rfl;refine#[λj j0 K=>∃u1 u2 u3 u4 u5 o,j0=[U<|.f<|.ref<|A .top,U<|.f<|.ref<|B .top,U<|QU g,U<|.f<|.ref h,u1,u2,u3,u4,u5]/\Ox Z.w i A' (SU w g) K/\Py B #[w.O6,w.Ls,w.Ms.map<|O9 g<|w.Ts.take j,w.QL,o,(w.Ts.take j).map (λT=>(T.key,Uk g T))++(w.Ts.drop j).map RB,w.Ts.map UU] K/\o.length<=OZ.length/\∀m T,w.Ts[m]?=U T->∀z,OF o z T.key=if m<j then P6 (R8 g T).sh z else P6 T.sh z,#[_,_,_,_,_,OZ,Y,ag,?_,Ap _,λm T y0 z=>by rw[Aq<|Nat.not_lt_zero _];exact(ok.ss T (Av y0) z).symm],?_,?_]
 ·have e:w.Ms.map (O9 g<|w.Ts.take 0)=w.Ms:=by rw[EA];exact(A4 λB _=>Aec).trans (Eg _)
  rw[e,EA,B6,JA,JH];exact aa
 ·clear ag aa;rintro j x j0 K R⟨u1,u2,u3,u4,u5,o,rfl,P,t,ls,sp⟩_;have R:((w.Ts.map UU).map λe=>((.inl e.1:Key),Afb e))[j]?.map (λp=>D.f<|kV p.1)=U x:=by rw[<-Ag];exact R
  let(e1,aj,rfl):=AA.mp R;rw[Ag,Ag]at aj;let(e2,am,rfl):=AA.mp aj;let(T,y0,rfl):=AA.mp am;have mT:=Av y0;have nc:∀{K:N9}{M:M7},Py B M K->∀b∈[B .counts],K b≠none:=λu b hb=>by
   cases An.mp hb;rw[u .counts _ Y];nofun
  have kn:((w.Ts.take j).map (λT=>(T.key,Uk g T))++(w.Ts.drop j).map RB).map (·.1)=w.Ts.map (·.key):=by
   rw[AU,As,As]
   conv=>rhs;rw[<-B5 j w.Ts,AU]
   rfl
  have ad:(w.Ts.map (·.key)).Nodup:=by have:=ok.tok.nd;rw[show(w.Ts.map λT=>(.inl T.key:Key))=(w.Ts.map (·.key)).map Cb by rw[As];rfl]at this;exact(CB.mp this).imp λh e=>h (by rw[e])
  have hl:((w.Ts.take j).map (λT=>(T.key,Uk g T))).length=j:=by have:=(Ah.mp y0).1;rw[Ac,Bm];omega
  have hm:((w.Ts.take j).map (λT=>(T.key,Uk g T))++(w.Ts.drop j).map RB)[j]?=U (RB T):=by rw[BC Nr,hl,Dg,Ag,Ja,Ky,y0];rfl
  walk_at"q";refine zG (t.io .top)<|PZ #[_,Y,?_];refine zG (t.io .QE)<|tY #[_,Akq (by rw[kn];exact ad)<|Av hm,?_];walk_at"q";refine#[OV Nq,?_];refine zG (t.io .top)<|PZ #[_,Y,?_];refine zG (t.io .counts)<|tY #[_,AeG ok.tok mT,?_];refine#[_,_,_,Y,Y,Y,?_];have b1:=BY T.key (show(110:Int)≠0 by decide);have b2:=Ca T.key (show(0:Int)<110 by decide);refine .mk g (T.key%110) T.c.toNat (by show[_,_,D.f<|.int T.c]=_;rw[<-(ok.cc T mT).1];rfl) (nc t) Oj b1 b2 ?_;have nd:=Xq Oj (T.key%110) T.c.toNat;have an:=UW g (T.key%110) T.c.toNat;have c5:=(ok.cc T mT).2;have bU:=ok.tok.bU T mT;walk_at"q";refine zG (t.io .top)<|PZ #[_,Y,?_];refine Ap0 (k:=T.key) (l:=Uk g T) t (λz=>t.ne (x:=.QE) (y:=.counts) Y Y nofun<|An.mp z) (by
   have:=congrArg Dt kn;rw[Ac,Ac]at this;rw[this];have X:=dG (m:=(Ba 256).map λn:Nat=>(n:Int)) ad λk hk=>by
    let(u9,hU,rfl):=AE.mp hk;have:=ok.tok.key u9 hU;exact AE.mpr #[u9.key.toNat,Ci.mpr Nr,Nr]
   rw[Ac,Ac,By]at X;omega) λS4 I f4=>?_
  have W:=P.fo f4;have e3:AkI ((w.Ts.take j).map (λT=>(T.key,Uk g T))++(w.Ts.drop j).map RB) T.key (Uk g T)=(w.Ts.take<|j+1).map (λT=>(T.key,Uk g T))++(w.Ts.drop<|j+1).map RB:=by
   have lt:=(Ah.mp y0).1;have d1:w.Ts.drop j=T::w.Ts.drop (j+1):=by rw[EL lt,(Ah.mp y0).2]
   unfold AkI P2;rw[Az<|B1.mpr #[RB T,Av hm,Ao Y]];have nk:∀x∈w.Ts.take j++w.Ts.drop (j+1),x.key≠T.key:=λx R z=>by
    have af:=ad;rw[<-B5 j w.Ts,d1,AU,Au]at af;rw[CC]at af;rcases AY.mp R with h|h
    ·exact af.2.2 x.key (AH h) T.key (.head _) z
    ·exact(Bb.mp af.2.1).1 (by rw[<-z];exact AH h)
   rw[AU,d1,take_snoc y0,AU,CF]
   congr 1
   ·rw[As];refine A4 λx R=>?_
    show(if(Cb x.key:Key)=.inl T.key then _ else _)=_;rw[Aq λz=>nk x (BO _ R) (by injection z)]
   ·rw[Au,Au];show(if(Cb T.key:Key)=.inl T.key then _ else _)::_=_;rw[Az Y]
    congr 1
    rw[As];refine A4 λx R=>?_
    show(if(Cb x.key:Key)=.inl T.key then _ else _)=_;rw[Aq λz=>nk x (AV _ R) (by injection z)]
  rw[show({O6:=w.O6,Ls:=w.Ls,Ms:=w.Ms.map<|O9 g<|w.Ts.take j,QL:=w.QL,OZ:=o,mY:=(w.Ts.take j).map (λT=>(T.key,Uk g T))++(w.Ts.drop j).map RB,cnt:=w.Ts.map UU}:M7).mY=_ from Y,e3]at I;clear t P e3;generalize ehm:(w.Ts.take<|j+1).map (λT=>(T.key,Uk g T))++(w.Ts.drop<|j+1).map RB=mY at *;walk_at"q";refine zG (I.io .top)<|PZ #[_,Y,?_];have ml:(w.Ms.map<|O9 g<|w.Ts.take j).length=w.Ms.length:=Ac ..;have nx:∀C:Ak,(if(decide (T.key=(O9 g (w.Ts.take j) C).key)&&bM g T)=Af then L2.TQ (O9 g (w.Ts.take j) C)else O9 g (w.Ts.take j) C)=O9 g (w.Ts.take<|j+1) C:=λC=>by
   rw[take_snoc y0,yY,vY]
  refine#[_,I.io .asks,.inr (by rw[Ck];exact Bj.mpr λ_ _=>rfl),Lp.mk (λn j0 K=>∃u4 u5,j0=[U<|.f<|.ref<|A .top,U<|.f<|.ref<|B .top,U<|QU g,U<|.f<|.ref h,U<|.f<|.int T.key,U (.l (PL (T.sh.map (·.1)))),U<|.l<|(Uk g T).map λz=>.f<|.str z,u4,u5]/\Ox Z.w i A' (SU w g) K/\Py B #[w.O6,w.Ls,((w.Ms.map<|O9 g<|w.Ts.take j).take n).map (λC=>if(decide (T.key=C.key)&&bM g T)=Af then L2.TQ C else C)++(w.Ms.map<|O9 g<|w.Ts.take j).drop n,w.QL,o,mY,w.Ts.map UU] K) #[_,_,Y,W,I] ?_ ?_ ?_]
  ·rintro n j0 K⟨u4,u5,rfl,L,v⟩;have q:=v.io .asks;rw[show(((w.Ms.map<|O9 g<|w.Ts.take j).take n).map (λC:Ak=>if(decide (T.key=C.key)&&bM g T)=Af then L2.TQ C else C)++(w.Ms.map<|O9 g<|w.Ts.take j).drop n).length=(w.Ms.map<|O9 g<|w.Ts.take j).length by rw[AN,Ac,Bm,E5];omega]at q;exact q
  ·clear W I;rintro n x j0 K R⟨u4,u5,rfl,L,v⟩;rw[Ag]at R;let(m,ah,rfl):=AA.mp R;have lt:n<(w.Ms.map<|O9 g<|w.Ts.take j).length:=by
    have:=(Ah.mp ah).1;rw[By]at this;exact this
   rw[CH lt]at ah;cases ah;have hC:=Al lt;generalize(w.Ms.map<|O9 g<|w.Ts.take j)[n]=C at *;have ae:=nJ (f:=λC:Ak=>if(decide (T.key=C.key)&&bM g T)=Af then L2.TQ C else C) hC;have ms:=map_set (f:=λC:Ak=>if(decide (T.key=C.key)&&bM g T)=Af then L2.TQ C else C) hC;have hA:=v.uC ae;have no:(decide (T.key=C.key)&&bM g T)=Am\/C.Pf≠"open"->Py B #[w.O6,w.Ls,((w.Ms.map<|O9 g<|w.Ts.take j).take (n+1)).map (λC=>if(decide (T.key=C.key)&&bM g T)=Af then L2.TQ C else C)++(w.Ms.map<|O9 g<|w.Ts.take j).drop (n+1),w.QL,o,mY,w.Ts.map UU] K:=λq=>by
    have e:(if(decide (T.key=C.key)&&bM g T)=Af then L2.TQ C else C)=C:=by
     rcases q with q|q
     ·rw[Aq (by rw[q];exact AI)]
     ·unfold L2.TQ;rw[Aq q];split<;>rfl
    rw[<-ms];show Py B #[_,_,(_++_:Mx).set n (if(decide (T.key=C.key)&&bM g T)=Af then L2.TQ C else C),_,_,_,_] K;rw[e,set_same ae];exact v
   walk_at"q";refine#[T.sh.map (·.1),.inl Y,by rw[Ac];omega,λxs p1 s1=>Pw ?_];refine#[Uk g T,.inl Y,by unfold Uk;omega,λys p2 s2=>Pw ?_];refine#[xs,ys,.inl Y,.inl Y,?_];rw[Ail (T:=T) (D:=Uk g T) (ok.tok.one T mT) nd p1 p2 s1 s2];by_cases X:bM g T=Af
   ·refine (show Q3 (bM g T) _ _ from Ot X ?_);refine zG (.inr #[_,_,Y,hA])<|PZ #[_,Y,Y,?_];by_cases h2:C.key=T.key
    ·refine (show Q3 _ _ _ from Ot (Ao<|congrArg V.int h2) ?_);refine zG (.inr #[_,_,Y,hA])<|PZ #[_,Y,Y,?_];by_cases h3:C.Pf="open"
     ·refine (show Q3 _ _ _ from Ot (Ao<|congrArg V.str h3) ?_);refine pJ hA (λz=>v.ne (x:=.ask n) (y:=.counts) (by show(_:Mx)[n]?.map _=_;rw[ae];rfl) Y nofun<|An.mp z) (by show 7<_;decide)<|PZ #[_,_,Y,L.fo<|Uh.set hA,?_];have ai:=v.AgV (C':={C with Pf:="broken" }) ae;have e:(if(decide (T.key=C.key)&&bM g T)=Af then L2.TQ C else C)={C with Pf:="broken" }:=by
       rw[Ao h2.symm,X,JV,Az Y];unfold L2.TQ;rw[Az h3]
      rw[<-ms];show Py B #[_,_,(_++_:Mx).set n (if(decide (T.key=C.key)&&bM g T)=Af then L2.TQ C else C),_,_,_,_] _;rw[e];exact ai
     ·refine(show Q3 _ _ _ from Oi (Ar λz=>h3<|by injection z) ?_);exact#[_,_,Y,L,no<|.inr h3]
    ·refine(show Q3 _ _ _ from Oi (Ar λz=>h2<|by injection z) ?_);exact#[_,_,Y,L,no<|.inl (by rw[Ar (λz=>h2 z.symm),Du])]
   ·refine(show Q3 (bM g T) _ _ from Oi (EU.mpr X) ?_);exact#[_,_,Y,L,no<|.inl (by rw[EU.mpr X,D0])]
  ·clear W I;rintro j0 K⟨u4,u5,rfl,W,I⟩;rw[Ac,By,BI,E8,Br,As]at I;have e5:w.Ms.map ((λC:Ak=>if(decide (T.key=C.key)&&bM g T)=Af then L2.TQ C else C)∘O9 g (w.Ts.take j))=w.Ms.map (O9 g<|w.Ts.take<|j+1):=A4 λC _=>nx C
   rw[e5]at I;walk_at"q";refine#[_,.inl Y,.inl Y,Lp.mk (λn j0 K=>∃u5 E,j0=[U<|.f<|.ref<|A .top,U<|.f<|.ref<|B .top,U<|QU g,U<|.f<|.ref h,U<|.f<|.int T.key,U (.l (PL (T.sh.map (·.1)))),U<|.l<|(Uk g T).map λz=>.f<|.str z,u4,u5]/\Ox Z.w i A' (SU w g) K/\Py B #[w.O6,w.Ls,w.Ms.map<|O9 g<|w.Ts.take<|j+1,w.QL,E,mY,w.Ts.map UU] K/\E.length<=OZ.length/\∀y k,OF E y k=if k=T.key/\y∈(T.sh.map (·.1)).take n/\y∉Uk g T then[]else OF o y k) #[_,o,Y,W,I,ls,λy k=>by rw[Aq λq=>by cases q.2.1]] (λ_ _ _ _=>.inl Y) ?_ ?_]
   ·clear W I;rintro n x j0 K R⟨u5,E,rfl,L,v,ac,ab⟩;unfold PL at R;rw[Ag]at R;let(y,hy,rfl):=AA.mp R;have te:=take_snoc hy;walk_at"q";refine Akw (Uk g T) (.inl Y) Y ?_;rw[Az Y];by_cases X:y∈Uk g T
    ·refine Oi (by rw[Ao X];rfl) #[_,E,Y,L,v,ac,λz k=>?_];rw[ab];by_cases q:k=T.key/\z∈(T.sh.map (·.1)).take n/\z∉Uk g T
     ·rw[Az q,Az #[q.1,by rw[te];exact BO _ q.2.1,q.2.2]]
     ·rw[Aq q,Aq];rintro⟨q1,q2,q3⟩;rw[te]at q2;rcases AY.mp q2 with q2|q2
      ·exact q #[q1,q2,q3]
      ·rw[An.mp q2]at q3;exact q3 X
    ·refine Ot (by rw[Ar X];rfl) ?_;refine zG (v.io .top)<|PZ #[_,Y,?_];refine#[.inr #[_,v.io .Qa],Y,?_];refine Aq9 (e:=(y,T.key)) v λd S5 ai f5=>#[_,_,Y,L.fo f5,ai,AL (BK ..) ac,λz k=>?_]
     show OF (AaG E (y,T.key)) z k=_;rw[AfQ,ab];by_cases q:y=z/\T.key=k
     ·rw[Az q,Az #[q.2.symm,by rw[te,<-q.1];exact AV _<|An.mpr Y,by rw[<-q.1];exact X]]
     ·rw[Aq q];by_cases q':k=T.key/\z∈(T.sh.map (·.1)).take n/\z∉Uk g T
      ·rw[Az q',Az #[q'.1,by rw[te];exact BO _ q'.2.1,q'.2.2]]
      ·rw[Aq q',Aq];rintro⟨q1,q2,q3⟩;rw[te]at q2;rcases AY.mp q2 with q2|q2
       ·exact q' #[q1,q2,q3]
       ·exact q #[(An.mp q2).symm,q1.symm]
   ·clear W I;rintro j0 K⟨u5,E,rfl,L,v,ac,ab⟩;rw[show(PL (T.sh.map (·.1))).length=(T.sh.map (·.1)).length from Ac ..,BI]at ab;refine#[_,_,_,_,_,E,Y,L,by first|exact v|(rw[ehm];exact v),ac,λm u9 hU z=>?_];rw[ab];by_cases em:m=j
    ·subst em;rw[y0]at hU;cases hU;rw[Az<|C9 _,sp m T y0 z,Aq<|CN _];show _=P6 (OM T.sh<|Uk g T) z;rw[zK];by_cases z1:z∈Uk g T
     ·rw[Aq (λq=>q.2.2 z1),Az z1]
     ·rw[Aq z1];by_cases z2:z∈T.sh.map (·.1)
      ·rw[Az #[Y,z2,z1]]
      ·rw[Aq λq=>z2 q.2.1];exact Aj2 z2
    ·have nk:u9.key≠T.key:=λe=>em (by
      have lm:m<(w.Ts.map (·.key)).length:=by rw[Ac];exact(Ah.mp hU).1
      exact(Jk lm ad).mp (by rw[Ag,Ag,hU,y0];show U u9.key=U T.key;rw[e]))
     rw[Aq (λq=>nk q.1),sp m u9 hU z];by_cases lt:m<j
     ·rw[Az lt,Az Nr]
     ·rw[Aq lt,Aq Nr]
 ·clear ag aa;rintro j0 K⟨u1,u2,u3,u4,u5,o,rfl,P,t,ls,sp⟩;have el:(Anp<|(Qc w OZ).cnt.map λe=>((.inl e.1:Key),Afb e)).length=w.Ts.length:=by
   unfold Anp;rw[Ac,Ac];exact Ac ..
  rw[el]at t sp;have t:Py B (Qc (SU w g) o) K:=by
   have u:=t;rw[BI,E8,B6,Br]at u;have a1:(SU w g).Ts.map RB=w.Ts.map λT=>(T.key,Uk g T):=by
    show(w.Ts.map<|R8 g).map RB=_;rw[As];refine A4 λT _=>?_
    show(T.key,(OM T.sh<|Uk g T).map (·.1))=_;rw[QR]
   have a2:(SU w g).Ts.map UU=w.Ts.map UU:=by show(w.Ts.map<|R8 g).map UU=_;rw[As];rfl
   unfold Qc;rw[a1,a2];exact u
  have sp:∀T∈w.Ts,∀z,P6 (R8 g T).sh z=OF o z T.key:=λT y0 z=>by
   let(m,hm):=Eh y0;have q:=sp m T hm z;rw[Az (Ah.mp hm).1]at q;exact q.symm
  walk_at"e";exact OP (kQ A' o K ea P t<|ok.Aq0 Oj sp ls)
def Z6(G:Gd 94 M Z):hF M Z 6 "_law_nowhere" Vr:=by
 refine cP (N:=["_law_world_here","_law_houses_here","_law_before","_law_key","_law_house","_law_refused"]) 4 6 G.T.d G.T.a_law_nowhere (λφ H r=>NT (zB (ev 2) (OU r.2 4) (NT (Og r.2 5<|Acm r.1 (ev 4)<|ev 1) (NT (Ah3 G.T.x_NoHouse Y Y Y (yK Nt G.T.g_NoHouse) (λy a=>Ze<|pG<|pH Y (G.UH Y) r.1 (ev 0)<|NS (ev 4)<|NS (ev 3) NU) λa x B=>NV<|Og r.2 5<|TU) (NT (O5 (Q7<|Pp<|ev 5) (NV<|Oh<|TU)<|Oe) (NT (Og r.2 5<|Acm r.1 (ev 4)<|ev 1) (NT (Ah3 G.T.x_NoHouse Y Y Y (yK Nt G.T.g_NoHouse) (λy a=>Ze<|Am4 (Q7<|Pp<|ev 5) (Ze<|pG<|pH Y (G.VF Y) r.1 (ev 0)<|NS (ev 4) NU)<|AeM Oe) λa x B=>NV<|Og r.2 5<|TU) (NV<|O5 (Q7<|Pp<|ev 5) (NV<|Oh<|TU)<|Oe))))))) (NV<|Oh<|bQ (Al9 r.1) (QK (G.Yk Y) r.1<|ev 0)<|Wh<|NU)) ?_
 rintro F j0 S Q⟨i,A,w,T,q,rfl,rfl,c,o,z,p,k,C⟩;symm;refine#[_,Y,nofun,λb I=>?_];refine#[λj h n=>∃u v,h=[U<|.f<|.ref<|A .top,U<|QU w.Hs,U<|QU q,U<|.f<|.int T.key,u,v]/\n=S,#[none,none,Y,Y],?_,?_]
 ·rintro j x h n t⟨u,v,rfl,rfl⟩_;rw[Ag,Ag]at t;let(K,m,rfl):=AA.mp t;let(e,D,rfl):=AA.mp m;have l:e.1∈q.map (·.1):=AH<|Av D;symm;refine tX (.inl Y)<|PZ ?_;rw[Aq AI,Ug];by_cases g:e.1∈w.Hs.map (·.1)
  ·rw[Ao g];symm;refine#[RS c .top,.mk i A w T e.1 Y c (k _ l).1 (k _ l).2 g o z ?_]
   try dsimp only[Wg,gA,pW,uK,Ais,AaB,dB,pY,lV,yN,oQ,dC,bN,lC]
   refine tX (.inl Y)<|PZ ?_;rw[Aq AI,Ug,Ao g]
   try dsimp only[Wg,gA,pW,uK,Ais,AaB,dB,pY,lV,yN,oQ,dC,bN,lC]
   exact#[_,_,Y,Y]
  ·rw[Ar g];symm;refine#[RS c .top,.no i A w e.1 _ Y c (k _ l).2 g #[Y,?_]]
   try dsimp only[Wg,gA,pW,uK,Ais,AaB,dB,pY,lV,yN,oQ,dC,bN,lC]
   refine tX (.inl Y)<|PZ ?_;rw[Aq AI,Ug,Ar g]
   try dsimp only[Wg,gA,pW,uK,Ais,AaB,dB,pY,lV,yN,oQ,dC,bN,lC]
   refine#[RS c .top,.mk i A w e.1 Y c (k _ l).2 g #[Y,?_]]
   try dsimp only[Wg,gA,pW,uK,Ais,AaB,dB,pY,lV,yN,oQ,dC,bN,lC]
   exact#[_,_,Y,Y]
 ·rintro h n⟨u,v,rfl,rfl⟩;symm;refine#[RS c .top,.mk i A w Y c (by rw[p];decide) λE s _=>?_];rw[p]at s;cases s.eq_nil;refine#[Y,Pw ?_];refine#[_,.inl Y,.inl Y,?_];rw[Aq AI];exact OP C
def hJ(G:Gd 95 M Z):hF M Z 6 "_law_right" Ye:=by
 refine cP (N:=["_law_world_here","_law_model","_law_houses_here","_law_k","_law_ask","_law_key","_law_house"]) 3 7 G.T.d G.T.a_law_right (λφ H r=>NT (O5 (PW.nR<|w_or (OL (Amc r.1) (QK (G.UE Y) r.1<|ev 0)<|Ahu (Nc:=["_law_row"]) (v9:=[none]) Y (xR AiR (N6 r.1 (ev 1)<|N8) (AeL<|N2) AeK) Y Np (Rc (sc0:=NW Zq) Y Np) Np (Qj<|PB) (λ_ _ _=>Qx (i:=0) (show(["_law_row"]:LK).Nodup by decide +kernel) Y<|B8 Y) (λ_ _ _=>wO) (λ_ _ _=>xR AlU (ev 0) AeK<|AeL<|N2))<|TL<|OL (Adn r.1) (QK (G.VG Y) r.1<|ev 0)<|ev 2) (NV<|Oh<|TU)<|Oe)
   (NT (V2 Nt G.T.b_range (NS (O4 Qu Nt G.T.b_len Boot.b_len<|NS (N6 r.1 (ev 1)<|N8) NU) NU) (OU r.2 3) (NT (Og r.2 4<|Pk PR (N6 r.1 (ev 1)<|N8)<|ev 3) (NV<|O5 (PW.nR<|w_or (OL Af3 (Od (G.VH Y) r.1 (ev 0)<|NS (Oy P8 (ev 3)<|N2) NU)<|N6 r.1 (ev 4)<|N8)<|TL<|OL (AhX r.1) (Od (G.WD Y) r.1 (ev 0)<|NS (Oy P8 (ev 3)<|N2) NU)<|N6 r.1 (ev 4)<|N8) (NV<|Oh<|TU)<|Oe))) (NT (eJ (N6 r.1 (ev 1)<|N8) (OU r.2 5) (NT (O5 (OL (Ama r.1) (Od (G.WE Y) r.1 (ev 0)<|NS (ev 5) NU)<|N6 r.1 (N6 r.1 (ev 1)<|N8)<|ev 5) (NV<|Oh<|TU)<|Oe) (NV<|zB (ev 2) (OU r.2 6)<|NV<|O5 (OL (AhX r.1) (Od (G.WG Y) r.1 (ev 0)<|NS (ev 6)<|NS (ev 5) NU)<|Rk r.1 (N6 r.1 (ev 1)<|N8) (P1<|NS (ev 6)<|NS (ev 5) NU)<|OA) (NV<|Oh<|TU)<|Oe))) (NV<|Oh<|TU)))) ?_
 rintro F ds S Q⟨i,A,w,qs,s,B,OZ,rfl,rfl,o,g,m,y0,kQ⟩;walk_at"q";have s9:=m.s9;have l1:=m.l1;have l2:=m.l2;refine#[RS o .top,.mk i A w Y o m.UQ Nr ?_];refine zG (g.io .top)<|PZ #[_,Y,?_];refine#[_,g.io .rows,Pw ?_];rw[Afg];refine#[_,.inl Y,.inl Y,λq2 u9 _=>?_];refine Akx w.Ls Aee AkJ u9 (λys=>.inl Y) Nr (λL hL ys Q' k=>?_) ?_
 ·refine#[_,Y,(show¬ (HT.Sn 6 0 none=0/\HT.Sn 6 6 (U 5)=6) by decide),?_];exact k
 refine#[w.Ls.map Ant,by rw[<-yZ];exact .inl Y,by rw[<-yZ];exact .inl Y,λt ht=>?_,?_]
 ·let(L,_,rfl):=AE.mp ht;exact AjW L
 refine jY ?_;refine Aay ?_
 try dsimp only[Wg,gA,pW,uK,Ais,dB,pY,lV,yN,oQ,dC]
 refine#[RS o .top,.mk i A w Y o ?_];refine#[w.Hs,.inl Y,.inl Y,m.Oj.nd,?_];refine jY ?_;refine Aay ?_;walk_at"q";refine zG (g.io .top)<|PZ #[_,Y,?_];refine#[_,.inl<|g.io .asks,?_];rw[Ac,By];refine#[_,Y,Nr,by show((w.Ms.length:Nat):Int)<_;omega,AbP.mk (n:=w.Ms.length) (λj c K=>∃u v,c=[U<|.f<|.ref<|A .top,U<|.f<|.ref<|B .top,U<|QU w.Hs,u,v,none,none]/\K=S) #[none,none,Y,Y] ?_ ?_]
 ·rintro j c K hj⟨u,v,rfl,rfl⟩;have I:=Al hj;generalize w.Ms[j]=C at *;have gC:=m.sm C<|Av I;have X:=g.uC (n:=j) (C:=C) I;walk_at"q";refine zG (g.io .top)<|PZ #[_,Y,?_];refine#[_,_,.f<|.ref<|B<|.ask j,g.io .asks,Y,by rw[C2];exact Pz (by rw[Ag,CH (show j<(Qc w OZ).Ms.length from hj)];rfl),?_];walk_at"e";refine#[RS o .top,.mk i A w j C (by dsimp only;rw[C2]) o I ?_];refine zG (.inr #[_,_,Y,X])<|PZ #[_,Y,Y,?_];refine(show Q3 (!decide (V.str C.Pf=V.str C.Pf)) _ _ from Oi (by rw[Ao Y];rfl) ?_);refine#[RS o .top,.mk i A w j C (by dsimp only;rw[C2]) o I ?_];refine zG (.inr #[_,_,Y,X])<|PZ #[_,Y,?_];refine#[C.RY,Y,Y,gC.1,?_];refine jY ?_;refine Aay ?_;exact#[_,_,Y,Y]
 rintro c K⟨u,v,rfl,rfl⟩;walk_at"q";refine zG (g.io .top)<|PZ #[_,Y,?_];refine#[_,Y,.inr #[B .QE,_,Y,g .QE _ Y,?_]];rintro a rfl;refine#[λj c j0=>∃k h,c=[U<|.f<|.ref<|A .top,U<|.f<|.ref<|B .top,U<|QU w.Hs,u,v,k,h]/\j0=K,#[_,_,Y,Y],?_,?_]
 ·rintro j x c j0 E⟨k,h,rfl,rfl⟩_;rw[Ag,Ag]at E;let(e1,q,rfl):=AA.mp E;let(e2,p,rfl):=AA.mp q;have p:(w.Ts.map RB)[j]?=U e2:=p;rw[Ag]at p;let(T,hT,rfl):=AA.mp p;have y:=Av hT;walk_at"q";refine#[RS o .top,.mk i A w T Y o m.tok y ?_];refine zG (g.io .top)<|PZ #[_,Y,?_];refine zG (g.io .QE)<|tY #[_,SJ m.tok y,?_];refine#[(T.sh.map (·.1)).map V.str,.inl (by show D.l _=D.l _;simp only[As];rfl),.inl (by show D.l _=D.l _;unfold PL;simp only[As];rfl),by rw[Ck];exact Bj.mpr λ_ _=>rfl,?_];refine jY ?_;refine Aay ?_;walk_at"e";refine#[_,Y,λb W=>?_,λb W=>?_]
  ·cases An.mp W;rw[g .QE _ Y];nofun
  refine#[λj c P=>∃h,c=[U<|.f<|.ref<|A .top,U<|.f<|.ref<|B .top,U<|QU w.Hs,u,v,U<|.f<|.int T.key,h]/\P=j0,#[_,Y,Y],?_,?_]
  ·rintro j x c P E⟨h,rfl,rfl⟩_;rw[Ag,Ag]at E;let(e1,q,rfl):=AA.mp E;let(e,he,rfl):=AA.mp q;have R:e.1∈w.Hs.map (·.1):=AH<|Av he;have O:=m.tojE.AbH y e.1;walk_at"e";refine#[RS o .top,?_];refine .mk i A w T e.1 Y o m.Oj (y0 _ R).1 (y0 _ R).2 R m.tok y ?_;refine zG (g.io .top)<|PZ #[_,Y,?_];refine#[.inr #[_,g.io .Qa],Y,Pw ?_];refine Aku (z:=e.1) (n:=T.key) g ?_;refine#[P6 T.sh e.1,Y,by rw[m.ss T y];rfl,O.1,?_];refine jY ?_;refine Aay ?_;exact#[_,Y,Y]
  ·rintro c P⟨h,rfl,rfl⟩;exact#[_,_,Y,Y]
 ·rintro c j0⟨k,h,rfl,rfl⟩;walk_at"e";exact OP kQ
def hZ(G:Gd 96 M Z):hF M Z 8 "_law_world" Yg:=by
 refine cP (N:=["_law_script","_law_names_here","_law_houses_here","_law_model","_law_world_here","_law_first","_law_askers","_law_states","_law_at","_law_number","_law_key","_law_copies","_law_counts","_law_k","_law_house","_law_state","_law_keys","_law_j"]) 4 18 G.T.d G.T.a_law_world (λφ H r=>NT (Og r.2 4<|Aco (G.VE Y) G.T.cl_World r.1<|NS (ev 2) NU) (NT (Og r.2 5<|Oy PF (Of (G.Pj Y) r.1<|NS (ev 0)<|NS (N2) NU)<|N2) (NT (Aek (i₀:=6) r.2 Y (B8 Y) (Nc:=["_law_k","_law_names_here"]) (v9:=[none,U 1]) Y Nt G.T.b_range (NS (N2) NU) Y Np (Rc (sc0:=NW Zr) Y Np) Np (Qj<|Qh Y (B8 Y) Y<|PB) (λ_ _ _=>Qx (i:=0) (show(["_law_k","_law_names_here"]:LK).Nodup by decide +kernel) Y<|B8 Y) (λ_ _ _=>wO) λ_ _ _=>Pk PR (uM F.plainAttrs_str F.slot_str_split F.type_str_split m_split (Pk PR (ev 1)<|ev 0)<|NS (N8) NU)<|N2)
   (NT (Og r.2 7<|Of (G.UI Y) r.1<|NS (Of (G.Pj Y) r.1<|NS (ev 0)<|NS (N2) NU)<|NS (ev 6) NU) (NT (V2 Nt G.T.b_range (NS (N2) NU) (OU r.2 8) (NT (Og r.2 9<|Of (G.PN Y) r.1<|NS (Of (G.Pj Y) r.1<|NS (ev 0)<|NS (N2) NU)<|NS (ev 8) NU) (NT (Og r.2 10<|Oy PF (Oy P8 (Oy P8 (ev 5)<|ev 8)<|Oy rP (ev 8)<|Oy PF (ev 9)<|N2)<|N2) (NT (Og r.2 11<|Oy P8 (N2)<|Oy PF (ev 9)<|N2) (NT (Og r.2 12<|P1<|NS (ev 11)<|NS (Oy P8 (N2)<|Oy PF (Oy SO (ev 9)<|N2)<|ev 11)<|NS (Oy P8 (N2)<|Oy PF (Oy SO (ev 9)<|N2)<|ev 11) NU) (NT (Oq<|Od (G.UD Y) r.1 (ev 4)<|NS (ev 10)<|NS (Pk PD (ev 12)<|N2)<|NS (Pk PD (ev 12)<|N2)<|NS (Pk PD (ev 12)<|N2) NU) (NT (OW r.1 (N6 r.1 (ev 3)<|N8) (ev 10)<|ev 12) (NT (OW r.1 (N6 r.1 (ev 3)<|N8) (ev 10)<|Of (G.V5 Y) r.1<|NS (ev 2)<|NS (Oy PF (ev 10)<|N2)<|NS (ev 11) NU) (NV (AjX Nt G.T.b_enumerate (NS (N6 r.1 (N6 r.1 (ev 3)<|N8)<|ev 10) NU) (xV (n:=2) Y<|Su (OU r.2 13)<|Su (OU r.2 14)<|mF) (NT (Og r.2 15<|Pk PR (ev 7)<|Oy PF (Of (G.PN Y) r.1<|NS (ev 9)<|NS (ev 13) NU)<|N2) (NT (Oq<|Od (G.ZJ Y) r.1 (ev 4)<|NS (ev 14)<|NS (ev 10)<|NS (ev 15) NU) (NV<|OW r.1 (N6 r.1 (ev 3)<|N8) (P1<|NS (ev 14)<|NS (ev 10) NU)<|ev 15))))))))))))) (NT (Og r.2 16<|O4 (uF Y) Nt G.T.b_sorted Boot.b_sorted<|NS (N6 r.1 (ev 3)<|N8) NU) (NT (V2 Nt G.T.b_range (NS (N2) NU) (OU r.2 13) (NT (Og r.2 9<|Of (G.PN Y) r.1<|NS (Of (G.Pj Y) r.1<|NS (ev 0)<|NS (N2) NU)<|NS (ev 13) NU) (NT (O5 (Q7<|Pp<|Of (G.ZM Y) r.1<|NS (ev 4)<|NS (ev 3)<|NS (Pk PR (ev 6)<|Oy P8 (N2)<|Oy PF (ev 9)<|N2)<|NS (Pk PR (ev 16)<|Oy PF (Oy SO (ev 9)<|N2)<|N2)<|NS (bQ U9 (Oy PF (Oy SO (ev 9)<|N2)<|N2)<|N2) NU) (NV<|Oh<|Xu)<|Oe) (NV<|V2 Nt G.T.b_range (NS (Oy PF (Oy SO (ev 9)<|N2)<|N2) NU) (OU r.2 17)<|NV<|Oq<|Of (G.SX Y) r.1<|NS (ev 4)<|NS (ev 3)<|NS (Oy P8 (Oy SO (ev 9)<|N2)<|ev 17) NU)))) (NV<|Oh<|ev 4)))))))) ?_
 rintro F ds S Q⟨ns,zs,g,B,rfl,rfl,z9,hz,bj,Zj,s,kQ⟩;walk_at"q";refine#[.wd 0 .top,λa0 az _=>?_];refine .mk a0 0 g S Y Y az λA0 S1 bc ab f1=>#[Y,OP ?_]
 subst bc;have s:=s.fr f1;clear f1 az;walk_at"q";have Oj:Qd g:=bj.Pn λe he=>(hz e.1<|Zj e he).2.2
 refine .mk ns 2 Y Nq λc2=>?_
 refine#[OV Nq,?_];walk_at"q";have f0:=BY c2 (show(256:Int)≠0 by decide);have bn:=Ca c2 (show(0:Int)<256 by decide);generalize c2%256=V at *;have zi:∀i:Nat,i<5->∃z,zs[i]?=U z/\z∈zs:=λi hi=>#[zs[i]'(Nr),Al Nr,Dy _]
 refine#[5,Y,Nq,Nq,λp hp nF=>?_];refine Akx (Ba 5) (λi=>.f<|.int<|0+(i:Int)) (λi=>.f<|.str<|Akf<|zs.getD i "") hp (λ_=>Bk) Nq (λi hi ys Q' k=>?_) ?_
 ·let(z,ez,mz):=zi i (Ci.mp hi);have gz:zs.getD i ""=z:=by rw[BD,ez];rfl
  rw[gz]at k;let(x,y,es,_):=fM (hz z mz).1 (AL (hz z mz).2.1 Nq);refine#[_,_,.f<|.str z,.inl Y,Y,by rw[C2];exact Pz (by rw[Ag,ez];rfl),?_];refine#[.inr<|.inl #[Y,z,Y],?_];refine#[z,_,Y,Y,Np,AL (hz z mz).2.1 Nq,Pw ?_];rw[es];exact#[_,_,_,.inl Y,Y,Y,k]
 walk_at"q";obtain⟨O,a8,q5,af⟩:∃O:LK,((Ba 5).map λi=>D.f<|.str<|Akf<|zs.getD i "")=PL O/\O.length=5/\∀z∈O,aS z=Af/\z.length<=1000:=by refine#[(Ba 5).map λi=>Akf<|zs.getD i "",by unfold PL;rw[As];rfl,Y,λz hm=>?_];let(i,hi,rfl):=AE.mp hm;let(y,ey,my):=zi i<|Ci.mp hi;rw[BD,ey];let(_,_,_,h1,h2):=fM (hz y my).1 (AL (hz y my).2.1 Nq);exact#[h1,h2]
 rw[a8];refine .mk ns 3 Y Nq λc3=>?_
 refine .mk c3 O Y Y q5 λEs e7 hE m x hm=>?_
 have ab:=ab.zR (x:=x) hm;have s:=s.new (x:=x) hm;generalize NY S1 m x=S2 at *;clear hm;walk_at"q";have hh:∀z∈g.map (·.1),gF z=Af/\z.length<=1000:=λz X=>by
  let(e,he,rfl):=AE.mp X;exact#[(hz e.1<|Zj e he).1,AL (hz e.1<|Zj e he).2.1 Nq]
 refine#[2,Y,Nq,Nq,AbP.mk (n:=2) (λj o L=>∃u1 u2 u3 u4 u5 u6 u7 u8 A Ts OZ,o=[U<|.l<|ns.map λz=>.f<|.int z,U<|.l<|zs.map λz=>.f<|.str z,U<|QU g,U<|.f<|.ref<|B .top,U<|.f<|.ref<|A0 .top,U<|.f<|.int V,U<|.l<|PL O,U<|.l<|Es.map Pa,u1,u2,u3,u4,u5,u6,u7,u8,none,none]/\A .top=A0 .top/\Ox Z.w 0 A #[g,Ts,[],[],0,[],[],[]] L/\Py B (Qc #[g,Ts,[],[],0,[],[],[]] OZ) L/\W7 O 0 #[g,Ts,[],[],0,[],[],[]] OZ/\Ts.length=j/\OZ.length<=5*j/\(j=1->Ts.map (·.key)=[V])/\∀z k,k∉Ts.map (·.key)->OF OZ z k=[]) #[none,none,none,none,none,none,none,none,A0,[],[],Y,Y,ab,s,W7.nil Oj Nr,Y,Ap _,nofun,λ_ _ _=>rfl] ?_ ?_]
 ·clear ab s;rintro j o L hj⟨u1,u2,u3,u4,u5,u6,u7,u8,A,Ts,OZ,rfl,ea,j0,s,C,tl,sl,t1,sn⟩;walk_at"q";refine .mk ns 4 Y Nq λc5=>?_
  rw[C2];refine .mk c5 _ Y λu9=>?_
  walk_at"q";refine#[OV Nq,.inl #[Nr,Nr],?_];refine#[OV Nq,?_];walk_at"q";refine#[OV Nq,?_];obtain⟨c,em⟩:∃c:Nat,(1+(u9:Int)%5)=(c:Int):=#[1+u9%5,Nr];have m1:1<=c/\c<=5:=Nr;have g0:=BY (V+(j:Int)+(j:Int)*((u9:Int)%255)) (show(256:Int)≠0 by decide);have g1:=Ca (V+(j:Int)+(j:Int)*((u9:Int)%255)) (show(0:Int)<256 by decide);have k0:j=0->(V+(j:Int)+(j:Int)*((u9:Int)%255))%256=V:=λe=>by subst e;rw[show(((0:Nat):Int))=0 from Y,Int.zero_mul];omega
  have k1:j=1->(V+(j:Int)+(j:Int)*((u9:Int)%255))%256≠V:=λe=>by subst e;rw[show(((1:Nat):Int))=1 from Y,Int.one_mul];omega
  generalize(V+(j:Int)+(j:Int)*((u9:Int)%255))%256=k at *;have nk:k∉Ts.map (·.key):=λh=>by
   cases j with
   |zero=>rw[Cm.mp tl]at h;cases h
   |succ j=>have:j=0:=Nr;subst this;rw[t1 Y]at h;exact k1 Y<|An.mp h
  dsimp only[Ahq,AkH];rw[em];walk_at"q";refine#[#[Nq,Nq],?_];refine#[Nr,?_];refine#[#[Nq,Nq],?_];refine#[Nr,?_];refine#[Y,?_];dsimp only;have a1:=BY ((u9:Int) / 5) (show((c:Nat):Int)≠0 by omega);have a2:=Ca ((u9:Int) / 5) (show(0:Int)<((c:Nat):Int) by omega);have a3:=BY ((u9:Int) / 25) (show((c:Nat):Int)≠0 by omega);have a4:=Ca ((u9:Int) / 25) (show(0:Int)<((c:Nat):Int) by omega);generalize(u9:Int) / 5%((c:Nat):Int)=x1 at *;generalize(u9:Int) / 25%((c:Nat):Int)=W at *;have gc:GoodC ((c:Nat):Int) (1+x1) (1+W):=by unfold GoodC;omega
  walk_at"q";refine#[by rw[<-ea];exact RS j0 .top,?_];refine#[_,_,_,Y,Y,Y,?_];refine#[_,_,_,Y,Y,Y,?_];refine#[_,_,_,Y,Y,Y,?_];refine .mk 0 A _ k _ _ _ c (by rw[ea]) Y j0 Oj g0 g1 nk gc Y (by show Ts.length<_;omega) λA1 S3 e1 au f1=>?_
  have ao:=s.fr f1;have ah:=C.Aqx (T:=#[k,((c:Nat):Int),1+x1,1+W,OM []<|OT g (k%110) c]) nk #[g0,g1] #[Y,m1.2] #[by show 1<=1+x1;omega,by show 1<=1+W;omega] Y (λz=>sn z k nk);have e1:=e1.trans ea;clear j0 s f1 ea;walk_at"q";refine zG (F:=[]) (ao.io .top)<|PZ #[_,Y,?_];refine Aq8 (T:=#[k,((c:Nat):Int),1+x1,1+W,OM []<|OT g (k%110) c]) (Ts:=Ts) ao Y nk Nr λS4 ai f2=>?_
  have ay:=au.fo f2;clear au ao f2;walk_at"q";refine#[OV Nq,?_];have b1:=BY k (show(110:Int)≠0 by decide);have b2:=Ca k (show(0:Int)<110 by decide);refine .mk g (k%110) c Y nofun Oj b1 b2 ?_;refine zG (F:=[]) (ai.io .top)<|PZ #[_,Y,?_];rw[show((OT g (k%110) c).map λz=>D.f<|.str z)=PL ((OM []<|OT g (k%110) c).map (·.1)) by rw[QR];rfl];refine Ap0 (k:=k) ai nofun (by show(Ts.map RB).length<_;rw[Ac];omega) λS5 y0 f3=>?_
  have P:=ay.fo f3;clear ay ai f3;have aa:Py B (Qc #[g,Ts++[#[k,((c:Nat):Int),1+x1,1+W,OM []<|OT g (k%110) c]],[],[],0,[],[],[]] OZ) S5:=by have u:=y0;rw[show AkI (Qc #[g,Ts,[],[],0,[],[],[]] OZ).mY k ((OM []<|OT g (k%110) c).map (·.1))=(Ts++[(#[k,((c:Nat):Int),1+x1,1+W,OM []<|OT g (k%110) c]:PY)]).map RB from Agz (T:=#[k,((c:Nat):Int),1+x1,1+W,OM []<|OT g (k%110) c]) nk]at u;exact u
  clear y0;have a9:∀z k',k'∉(Ts++[(#[k,((c:Nat):Int),1+x1,1+W,OM []<|OT g (k%110) c]:PY)]).map (·.key)->OF OZ z k'=[]:=λz k' h=>sn z k' λq=>h (by rw[AU];exact BO _ q)
  have be:∀z,OF OZ z k=[]:=λz=>sn z k nk
  have bm:(Ts++[(#[k,((c:Nat):Int),1+x1,1+W,OM []<|OT g (k%110) c]:PY)]).length=j+1:=by rw[AN,tl];rfl
  have t2:j+1=1->(Ts++[(#[k,((c:Nat):Int),1+x1,1+W,OM []<|OT g (k%110) c]:PY)]).map (·.key)=[V]:=λe=>by
   have e:j=0:=Nr;rw[Cm.mp<|tl.trans e];show[k]=[V];rw[k0 e]
  have mT:∃T∈Ts++[(#[k,((c:Nat):Int),1+x1,1+W,OM []<|OT g (k%110) c]:PY)],T.key=k/\T.sh.map (·.1)=OT g (k%110) c:=#[_,AV _<|An.mpr Y,Y,QR _ _];clear C sn t1 tl nk k0 k1;generalize Ts++[(#[k,((c:Nat):Int),1+x1,1+W,OM []<|OT g (k%110) c]:PY)]=Us at *;walk_at"q";let(T1,an,rfl,aq):=mT;refine zG (F:=[]) (aa.io .top)<|PZ #[_,Y,?_];refine zG (F:=[]) (aa.io .QE)<|tY #[_,SJ ah.tok an,?_];rw[aq];have bb:=Xq Oj (T1.key%110) c;have bl:=UW g (T1.key%110) c;refine#[_,Y,Anf.mk (λn o L=>∃u6 u7 u8 R v,o=[U<|.l<|ns.map λz=>.f<|.int z,U<|.l<|zs.map λz=>.f<|.str z,U<|QU g,U<|.f<|.ref<|B .top,U<|.f<|.ref<|A0 .top,U<|.f<|.int V,U<|.l<|PL O,U<|.l<|Es.map Pa,U<|.f<|.int (j:Int),U<|.f<|.int ((u9:Nat):Int),U<|.f<|.int T1.key,U<|.f<|.int ((c:Nat):Int),U<|.t [.f<|.int ((c:Nat):Int),.f<|.int<|1+x1,.f<|.int<|1+W],u6,u7,u8,none,none]/\Ox Z.w 0 A1 #[g,R,[],[],0,[],[],[]] L/\Py B (Qc #[g,R,[],[],0,[],[],[]] v) L/\W7 O 0 #[g,R,[],[],0,[],[],[]] v/\R.map RB=Us.map RB/\v.length<=5*j+n/\(∀z k,k∉Us.map (·.key)->OF v z k=[])/\∀z,z∉(OT g (T1.key%110) c).take n->OF v z T1.key=[]) #[_,_,_,Us,OZ,Y,P,aa,ah,Y,sl,a9,λz _=>be z] ?_ ?_]
  ·clear P aa ah;rintro n x o L hx⟨u6,u7,u8,R,v,rfl,j0,s,C,sk,a5,aj,al⟩;rw[show PL (OT g (T1.key%110) c)=(OT g (T1.key%110) c).map λz=>.f (.str z)from Y,Ag]at hx;let(z,X,rfl):=AA.mp hx;have mz:=Av X;have ln:=(Ah.mp X).1;refine#[_,Y,Y,?_];walk_at"q";refine .mk _ _ Y λn1=>?_
   refine#[OV Nq,?_];let(a,E,ea,ax,_):=Ys (xs:=Es) (λe=>by rw[e]at e7;cases e7) (n1:Int);rw[e7]at ea;have oE:=hE E<|Av ax;refine#[_,_,Pa E,.inl Y,Y,by rw[show(n1:Int)%7=_ from ea];exact Pz (by rw[Ag,ax];rfl),?_];walk_at"q";obtain⟨T,hT,eT⟩:∃T∈R,RB T=RB T1:=AE.mp (by rw[sk];exact AH an);have eK:T.key=T1.key:=congrArg (·.1) eT;have eD:T.sh.map (·.1)=OT g (T1.key%110) c:=(congrArg (·.2) eT).trans aq;have mH:=Acg mz;have e0:P6 T.sh z=[]:=by rw[C.ss T hT,eK];exact al z<|XR bb X
   refine#[by rw[<-e1];exact RS j0 .top,.mk 0 A1 _ T z E (by rw[e1,eK]) Y j0 Oj (hh z mH).1 (hh z mH).2 mH C.tok hT (by rw[e0];exact Bo _) (AL oE.len Nr) λS6 bg f6=>?_];have ar:=s.fr f6;have bi:=C.lay hT (by rw[eD];exact mz) oE e0 Nr;walk_at"q";refine zG (F:=[]) (ar.io .top)<|PZ #[_,Y,?_];refine#[Y,?_];refine Ap2 (e:=(z,T1.key)) ar (by show v.length<_;omega) λS7 a6 f7=>?_
   have av:(P4 R<|QG T z E).map RB=R.map RB:=oN C.tok hT YQ;have a7:(P4 R<|QG T z E).map UU=R.map UU:=eP C.tok hT TZ cX;refine#[_,_,_,P4 R<|QG T z E,_,Y,bg.fo f7,?_,bi,av.trans sk,AL (Tj ..) Nr,λy k hk=>?_,λy hy=>?_]
   ·unfold Qc;dsimp only;rw[av,a7,eK];exact a6
   ·rw[aT,eK,Aq λq=>hk (by rw[<-q.2];exact AH an)];exact aj y k hk
   ·rw[take_snoc X]at hy;rw[aT,eK,Aq λq=>hy (by rw[<-q.1];exact AV _<|An.mpr Y)];exact al y λq=>hy<|BO _ q
  ·clear P aa;rintro o L⟨u6,u7,u8,R,v,rfl,j0,s,C,sk,a5,aj,al⟩;have ek:R.map (·.key)=Us.map (·.key):=by
    have:=congrArg (FD (·.1)) sk;rw[As,As]at this;exact this
   have el:R.length=Us.length:=by have:=congrArg Dt ek;rw[Ac,Ac]at this;exact this
   refine#[_,_,_,_,_,_,_,_,A1,R,v,Y,e1,j0,s,C,Nr,?_,λe=>by rw[ek];exact t2 e,by rw[ek];exact aj];rw[show(PL<|OT g (T1.key%110) c).length=_ from Ac ..]at a5;omega
 clear ab s;rintro o L⟨u1,u2,u3,u4,u5,u6,u7,u8,A,Ts,OZ,rfl,ea,j0,s,C,tl,sl,t1,sn⟩;walk_at"q";refine zG (F:=[]) (s.io .top)<|PZ #[_,Y,?_];refine#[_,Ts.map (·.key),s.io .QE,by show((Ts.map RB).map _).map _=_;rw[As,As,As];rfl,by rw[Ac];omega,λks kp _=>Pw ?_];have kl:ks.length=2:=by rw[kp.length_eq,Ac];exact tl
 have tn:Ts≠[]:=λe=>by rw[e]at tl;cases tl
 walk_at"q";refine#[6,Y,Nq,Nq,AbP.mk (n:=6) (λj o L=>∃v1 v2 v3 A2 B2 w I,o=[U<|.l<|ns.map λz=>.f<|.int z,U<|.l<|zs.map λz=>.f<|.str z,U<|QU g,U<|.f<|.ref<|B .top,U<|.f<|.ref<|A0 .top,U<|.f<|.int V,U<|.l<|PL O,U<|.l<|Es.map Pa,u1,v1,u3,u4,u5,v2,u7,u8,U<|.l<|ks.map λk=>.f<|.int k,v3]/\A2 .top=A0 .top/\B2 .top=B .top/\Ox Z.w 0 A2 w L/\Py B2 (Qc w I) L/\W7 O (7*j) w I/\w.Hs=g/\w.Ts.map (·.key)=Ts.map (·.key)/\w.Ms.length=j) #[_,_,_,A,B,_,OZ,Y,ea,Y,j0,s,C,Y,Y,Y] ?_ ?_]
 ·clear j0 s C;rintro j o L hj⟨v1,v2,v3,A2,B2,w,I,rfl,ad,ac,j0,s,C,eH,eT,mj⟩;walk_at"q";refine .mk ns 5 Y Nq λc5=>?_
  rw[C2];refine .mk c5 _ Y λn=>?_
  walk_at"q";refine#[OV Nq,?_];obtain⟨a,ha,ba⟩:∃a,a<5/\3+(n:Int)%2=((a:Nat):Int):=#[3+n%2,Nr,Nr];obtain⟨y,hy⟩:∃y,O[a]?=U y:=#[O[a]'(Nr),Al _];have my:=Av hy;refine#[_,_,.f<|.str y,.inl Y,Y,by rw[show 3+(n:Int)%2=_ from ba];exact Pz (by unfold PL;rw[Ag,hy];rfl),?_];refine#[#[Nq,Nq],OV Nq,?_];let(b,k,eb,hk,_):=Ys (xs:=ks) (λe=>by rw[e]at kl;cases kl)<|(n:Int) / 2;rw[kl]at eb;refine#[_,_,.f<|.int k,.inl Y,Y,by rw[show(n:Int) / 2%2=_ from eb];exact Pz (by rw[Ag,hk];rfl),?_];obtain⟨T,hT,rfl⟩:∃T∈w.Ts,T.key=k:=AE.mp (by rw[eT];exact kp.mem_iff.mp<|Av hk);refine#[#[Nq,Nq],OV Nq,Y,?_];refine .mk 0 A2 w T y _ O (7*j) B2 I (by rw[ad,ac]) Y j0 s C Nr Nr hT my (af y my).1 (af y my).2 λA3 B3 w3 S3 e3 ae P y0 ag ak bd m3=>?_
  clear j0 s C;have e3:=e3.trans ad;have ae:=ae.trans ac;have ak:=ak.trans eH;rw[<-bd]at eT;walk_at"q";refine#[#[Nq,Nq],OV Nq,?_];obtain⟨N,eN,hN⟩:∃N:Nat,(n:Int) / 8%7=(N:Int)/\N<=6:=#[n / 8%7,Nr,Nr];refine#[_,Y,Nr,Nr,?_];rw[eN];refine AbP.mk (n:=N) (λi o L=>∃v3 w4 K,o=[U<|.l<|ns.map λz=>.f<|.int z,U<|.l<|zs.map λz=>.f<|.str z,U<|QU g,U<|.f<|.ref<|B .top,U<|.f<|.ref<|A0 .top,U<|.f<|.int V,U<|.l<|PL O,U<|.l<|Es.map Pa,u1,U<|.f<|.int ((n:Nat):Int),u3,u4,u5,U<|.f<|.int ((j:Nat):Int),u7,u8,U<|.l<|ks.map λk=>.f<|.int k,v3]/\Ox Z.w 0 A3 w4 L/\Py B3 (Qc w4 K) L/\W7 O (7*j+1+i) w4 K/\w4.Hs=g/\w4.Ts.map (·.key)=Ts.map (·.key)/\w4.Ms.length=j+1) #[_,w3,I,Y,P,y0,ag,ak,eT,Nr] ?_ ?_
  ·clear P y0 ag;rintro i o L hi⟨v3,w4,K,rfl,j0,s,C,ap,am,m4⟩;walk_at"q";refine#[#[Nq,Nq],?_];refine .mk 0 A3 w4 _ O (7*j+1+i) B3 K (by rw[e3,ae]) Y j0 s C Nr af λw5 aw S5 bh bk bf k5=>?_
   refine#[_,w5,aw,Y,bh,bk,bf,k5.hs.trans ap,?_,k5.ms.trans m4];have:=congrArg (FD (·.1)) k5.sk;rw[As,As]at this;exact this.trans am
  ·clear P y0 ag;rintro o L⟨v3,w4,K,rfl,j0,s,C,ap,am,m4⟩;exact#[_,_,_,A3,B3,w4,K,Y,e3,ae,j0,s,C.le Nr Nr,ap,am,m4]
 clear j0 s C;rintro o L⟨v1,v2,v3,A2,B2,w,I,rfl,ad,ac,j0,s,C,eH,eT,mj⟩;walk_at"q";rw[<-ad];exact OP (kQ O A2 w I _ B2 L ac j0 s C Nq eH (λe=>by rw[e]at eT;exact tn<|IP.mp eT.symm) af)
abbrev sl(Z:Zs):Sp:=Ahj Z.K (tz Z) 63
def Aft(G:Gd 97 M Z):wY M.P M.w Z.K M.mg M.base 9 "law" ["_law_script"] (sl Z):=by
 refine wY.AoW (sp:=Aj6 Z) ?_ (λi hl Q kQ=>by first|exact .mk i Y Y kQ|exact .mk i Y Y hl kQ);refine Aoi (N:=["_law_script","_law_names_here","_law_houses_here","_law_model","_law_world_here","_law_changes","_law_k","_law_before"]) 1 8 G.T.d G.T.a_law (λφ H r=>NT (Og r.2 1<|Of (G.WI Y) r.1<|NS (Of (G.Pj Y) r.1<|NS (ev 0)<|NS (N2) NU) NU) (NT (Og r.2 2<|Of (G.Ud Y) r.1<|NS (ev 1)<|NS (Of (G.Pj Y) r.1<|NS (ev 0)<|NS (N2) NU) NU) (NT (Og r.2 3<|uN (PJ (N8) (Wh<|NS (N2) NU)<|PJ (N8) (Wh<|NU)<|PJ (N8) aO<|PJ (N8) aO<|PJ (N8) (OA)<|PJ (N8) (OA)<|nQ) Y Y (Gj _ _) Nq) (NT (Og r.2 4<|Of (G.ZQ Y) r.1<|NS (ev 0)<|NS (ev 1)<|NS (ev 2)<|NS (ev 3) NU) (NT (O5 (OL Adm (ev 4)<|Xu) (NV<|Oh<|TU)<|Oe) (NT (Og r.2 5<|Wh<|NS (Oy P8 (N2)<|Oy PF (Of (G.Pj Y) r.1<|NS (ev 0)<|NS (N2) NU)<|N2)<|NS (Oy P8 (N2)<|Oy PF (Of (G.Pj Y) r.1<|NS (ev 0)<|NS (N2) NU)<|N2) NU) (NT (AgP Nt G.T.b_range (NS (N2)<|NS (O4 (Aii Y) Nt G.T.b_max Boot.b_max<|NS (Oy P8 (Pk PR (ev 5)<|N2)<|N2)<|NS (O4 (Aij Y) Nt G.T.b_min Boot.b_min<|NS (O4 Qu Nt G.T.b_len Boot.b_len<|NS (ev 0) NU)<|NS (N2) NU) NU) NU) (OU r.2 6) (NT (Oq<|Of (G.SX Y) r.1<|NS (ev 4)<|NS (ev 3)<|NS (Of (G.PN Y) r.1<|NS (Of (G.Pj Y) r.1<|NS (ev 0)<|NS (ev 6) NU)<|NS (ev 6) NU) NU) (NV (O5 (OL Ti (ev 6)<|ev 5) (NT (Og r.2 7<|ev 2) (NT (Og r.2 2<|Of (G.ZP Y) r.1<|NS (ev 1)<|NS (Of (G.PN Y) r.1<|NS (Of (G.Pj Y) r.1<|NS (ev 0)<|NS (N2) NU)<|NS (ev 6) NU)<|NS (ev 2) NU) (NT (O5 (PW.nR<|w_or (Q7<|Pp<|Of (G.ZN Y) r.1<|NS (ev 4)<|NS (ev 3)<|NS (ev 2) NU)<|TL<|Q7<|Pp<|Of (G.VI Y) r.1<|NS (ev 4)<|NS (ev 3)<|NS (ev 2) NU) (NV<|Oh<|TU)<|Oe) (NV<|O5 (Q7<|Pp<|Of (G.WJ Y) r.1<|NS (ev 4)<|NS (ev 2)<|NS (ev 7)<|NS (O4 (Ae9 Y) Nt G.T.b_min Boot.b_min<|NS (N6 r.1 (ev 3)<|N8) NU) NU) (NV<|Oh<|TU)<|Oe))))<|Oe)))) (NV<|Oh<|Of (G.VI Y) r.1<|NS (ev 4)<|NS (ev 3)<|NS (ev 2) NU)))))))) ?_
 rintro F ds S Q⟨i,rfl,rfl,kQ⟩;walk_at"q";refine .mk i 0 Y Nq λc0=>?_
 refine .mk c0 Y λzs z9 hz nd=>?_
 walk_at"q";refine .mk i 1 Y Nq λc1=>?_
 refine .mk c1 zs Y Y z9 λHs c D=>?_
 walk_at"q"
 refineλm hm _=>?_
 dsimp only[Yx];have g:NY S m (.own 0,.d []) m=U (.own 0,.d []):=NZ;generalize NY S m (Rl.own 0,O.d [])=S3 at *;refine#[Y,RM (.own 2) λr hr _=>?_];have g:=iF (x:=(.own 2,.l [.f<|.int 0])) g hr;have p:NY S3 r (.own 2,.l [.f<|.int 0]) r=U (.own 2,.l [.f<|.int 0]):=NZ;generalize NY S3 r (Rl.own 2,O.l [.f<|.int 0])=S4 at *;refine#[Y,RM (.own 3) λs hs _=>?_];have g:=iF (x:=(.own 3,.l [])) g hs;have p:=iF (x:=(.own 3,.l [])) p hs;have E:NY S4 s (.own 3,.l []) s=U (.own 3,.l []):=NZ;generalize NY S4 s (Rl.own 3,O.l [])=S5 at *;refine RM (.own 4) λy af _=>?_
 have g:=iF (x:=(.own 4,.m [])) g af;have p:=iF (x:=(.own 4,.m [])) p af;have E:=iF (x:=(.own 4,.m [])) E af;have h1:NY S5 y (.own 4,.m []) y=U (.own 4,.m []):=NZ;generalize NY S5 y (Rl.own 4,O.m [])=S6 at *;refine RM (.own 5) λv u9 _=>?_
 have g:=iF (x:=(.own 5,.m [])) g u9;have p:=iF (x:=(.own 5,.m [])) p u9;have E:=iF (x:=(.own 5,.m [])) E u9;have h1:=iF (x:=(.own 5,.m [])) h1 u9;have i1:NY S6 v (.own 5,.m []) v=U (.own 5,.m []):=NZ;generalize NY S6 v (Rl.own 5,O.m [])=S7 at *;refine RM (.own 6) λu q _=>?_
 have g:=iF (x:=(.own 6,.d [])) g q;have p:=iF (x:=(.own 6,.d [])) p q;have E:=iF (x:=(.own 6,.d [])) E q;have h1:=iF (x:=(.own 6,.d [])) h1 q;have i1:=iF (x:=(.own 6,.d [])) i1 q;have o1:NY S7 u (.own 6,.d []) u=U (.own 6,.d []):=NZ;generalize NY S7 u (Rl.own 6,O.d [])=S8 at *;refine RM (.own 7) λI k _=>?_
 have g:=iF (x:=(.own 7,.d [])) g k;have p:=iF (x:=(.own 7,.d [])) p k;have E:=iF (x:=(.own 7,.d [])) E k;have h1:=iF (x:=(.own 7,.d [])) h1 k;have i1:=iF (x:=(.own 7,.d [])) i1 k;have o1:=iF (x:=(.own 7,.d [])) o1 k;have ak:NY S8 I (.own 7,.d []) I=U (.own 7,.d []):=NZ;generalize NY S8 I (Rl.own 7,O.d [])=S9 at *;refine#[g,AbI<|AfV m r s y v u I,.own 1,Y,by show 6<=15;decide,?_];walk_at"q";change gA _ _ _ _ _ (NY S9 m (.own 1,.d<|AbI<|AfV m r s y v u I));have kp:∀{a:Ae}{n:Nat}{o:O}{x:Rl×O},S9 a=U (.own n,o)->n≠0->NY S9 m x a=U (.own n,o):=λh n=>AqT h g (λz=>n<|by injection z)
 have C:Py (AfV m r s y v u I) #[0,[],[],[],[],[],[]] (NY S9 m (.own 1,.d<|AbI<|AfV m r s y v u I)):=Ahf NZ (kp p Nq) (kp E Nq) (kp h1 Nq) (kp i1 Nq) (kp o1 Nq)<|kp ak Nq;generalize NY S9 m (Rl.own 1,O.d<|AbI<|AfV m r s y v u I)=av at *;clear kp g p E h1 i1 o1 ak;have eB:AfV m r s y v u I .top=m:=rfl;generalize AfV m r s y v u I=B at *;subst eB;refine .mk i zs Hs B Y Y z9 hz c D C λqs A w OZ s0 B0 au eb wd C X ax eH tn ap=>?_
 walk_at"q";refine#[Y,?_];walk_at"q";refine .mk i 6 Y Nq λc6=>?_
 refine#[OV Nq,?_];refine .mk i 7 Y Nq λc7=>?_
 refine#[OV Nq,?_];refine#[Y,Pw ?_];walk_at"q";refine#[_,_,_,.inl Y,Y,Y,?_];refine#[_,.inl<|.inl Y,?_];refine#[_,_,Y,?_];refine#[_,_,Y,?_];rw[Ac];have q7:=BY c7 (show(30:Int)≠0 by decide);have q8:=Ca c7 (show(0:Int)<30 by decide);dsimp only[Ahq,AkH];generalize c7%30=d7 at *;generalize hL:(if(60:Int)<(i.length:Nat)then 60 else((i.length:Nat):Int))=L at *;have ao:0<=L/\L<=60:=by rw[<-hL];split<;>omega
 generalize hM:(if L>14+d7+1 then L else 14+d7+1)=M at *;have aq:0<=M/\M<=60:=by rw[<-hM];split<;>omega
 refine#[8,_,Y,#[Nq,Nq,Nr,Nr],?_];have ar:(M-8).toNat<=52:=Nr;generalize(M-8).toNat=N at *;clear hL hM ao aq q7 q8;have ae:∀{G:QI},(∀e∈G,e.1∈zs)->∀z∈G.map (·.1),gF z=Af/\z.length<=1000:=λh z an=>by
  let(e,he,rfl):=AE.mp an;exact#[(hz e.1<|h e he).1,AL (hz e.1<|h e he).2.1 Nq]
 refine AbP.mk (λj ad S2=>∃u1 u2 A2 w OZ G,ad=[U<|.l<|i.map λz=>.f<|.int z,U<|.l<|zs.map λz=>.f<|.str z,U<|QU G,U<|.f<|.ref<|B .top,U<|.f<|.ref<|A .top,U<|.l [.f<|.int<|8+c6%5,.f<|.int<|14+d7],u1,u2]/\A2 .top=A .top/\Ox Z.w 0 A2 w S2/\Py B0 (Qc w OZ) S2/\W7 qs (s0+j) w OZ/\w.Hs=G/\QT G/\(∀e∈G,e.1∈zs)/\w.Ts≠[]) #[none,none,A,w,OZ,Hs,Y,Y,wd,C,X,eH,c,D,tn] ?_ ?_
 ·clear wd C X eH c D tn;rintro j ad S2 hj⟨u1,u2,A2,w,OZ,G,rfl,ea,wd,C,X,rfl,c,D,tn⟩;walk_at"q";refine .mk i (8+(j:Int)) Y Nr λc8=>?_
  refine .mk c8 _ Y λn=>?_
  refine .mk 0 A2 w _ qs (s0+j) B0 OZ (by rw[ea,eb]) Y wd C X Nr ap λW y0 S3 ai am ah k1=>?_
  have aj:W.Ts≠[]:=λe=>by
   have:=congrArg Dt k1.sk;rw[e,Ac,Ac]at this;exact tn<|Cm.mp this.symm
  clear wd C X;walk_at"q";refine#[_,_,Y,.inl<|.inl Y,Y,Y,?_];rw[Aq AI];generalize AhC _ _=b;cases b with
  |false=>exact#[_,_,A2,W,y0,w.Hs,Y,ea,ai,am,ah,k1.hs,c,D,aj]
  |true=>
    walk_at"q";refine .mk i 6 Y Nq λc9=>?_
    refine .mk c9 _ Y λn2=>?_
    refine .mk _ zs w.Hs Y Y z9 c (by have:=c.bU;omega) D λj0 aa t=>?_
    have al:Qd j0:=aa.Pn λe he=>(hz e.1<|t e he).2.2
    walk_at"q";refine .mk 0 A2 W qs (s0+j+1) B0 y0 j0 (by rw[ea,eb]) Y ai am ah al λA3 ab S4 e3 ac V R=>?_
    have e3:=e3.trans ea;have ag:(SU W j0).Ts≠[]:=λe=>aj<|IP.mp e
    walk_at"q";refine .mk 0 A3 (SU W j0) qs (s0+j+1) B0 ab (by rw[e3,eb];rfl) Y ac V R (ae t) ?_;walk_at"q";refine zG (F:=[]) (by rw[<-eb];exact V.io .top)<|PZ #[_,Y,?_];refine#[_,(SU W j0).Ts.map (·.key),V.io .counts,by show(((SU W j0).Ts.map UU).map _).map _=_;rw[As,As,As];rfl,by rw[Ac];exact C5.mpr ag,λx hx=>?_];let(T,hT,rfl):=AE.mp hx;refine .mk 0 A3 (SU W j0) T w.Hs (by rw[e3];rfl) Y ac R.tok hT R.aw (ae D) ?_;walk_at"q";exact#[_,_,A3,SU W j0,ab,j0,Y,e3,ac,V,R,Y,aa,t,ag]
 clear wd C X eH c D tn;rintro ad S2⟨u1,u2,A2,w,OZ,G,rfl,ea,wd,C,X,rfl,c,D,tn⟩;walk_at"q";exact .mk 0 A2 w qs _ B0 OZ (by rw[ea,eb]) Y wd C X (ae D) (OP<|kQ S2)
end
def st{M:Md}{Z:Zs}{n j:Nat}{P:Prop}(G:Gd n M Z)(o:AQ j n=Af->P)(h:Gd j M Z->P)(e:AQ j (n+1)=Af):P:=by
 by_cases q:AQ j n=Af
 ·exact o q
 ·rw[Nat.blt_eq]at e q;obtain rfl:n=j:=Nr;exact h G
def good{M:Md}{Z:Zs}(T:Tx M Z)(n:Nat):Gd n M Z:=by
 induction n with
 |zero=>
   constructor
   ·exact T
   all_goals nofun
 |succ n G=>exact#[T,st G G.Xh mR,st G G.RC XE,st G G.Y8 qK,st G G.fR mK,st G G.tO uU,st G G.fU mQ,st G G.Aab AaM,st G G.Xf mJ,st G G.Yo uV,st G G.lG qN,st G G.UC Xx,st G G.Vz YD,st G G.SI gO,st G G.VA YE,st G G.Qz cK,st G G.Xg mO,st G G.ZL gU,st G G.Uc cH,st G G.Yn cJ,st G G.TJ WU,st G G.ZI gP,st G G.RQ cO,st G G.ON WV,st G G.QP UZ,st G G.SV ZW,st G G.QM Xy,st G G.Rq ZX,st G G.VC gQ,st G G.UE XA,st G G.WG Z2,st G G.Ua bZ,st G G.Ub cC,st G G.Sd UY,st G G.Rn ZU,st G G.fQ mG,st G G.Y9 qL,st G G.Za qM,st G G.ZK gT,st G G.fX mX,st G G.lF qI,st G G.Aac AaN,st G G.tN uT,st G G.Aaa AaL,st G G.V5 qJ,st G G.P5 Rg,st G G.RK UN,st G G.SW Z1,st G G.P7 Te,st G G.WH Z3,st G G.Vx gN,st G G.Yj cA,st G G.RI UL,st G G.Q8 Td,st G G.SH Wa,st G G.Yl cF,st G G.VH YK,st G G.WD ZZ,st G G.RJ UM,st G G.Rw TX,st G G.Wz ZY,st G G.WE Z0,st G G.VG YJ,st G G.Yk cE,st G G.Ym cG,st G G.WK Z8,st G G.VB YF,st G G.Se YG,st G G.UD Xz,st G G.Wy ZV,st G G.Vy YC,st G G.Wx ZT,st G G.VE YH,st G G.UB Xw,st G G.TC WQ,st G G.UG XB,st G G.ZJ gR,st G G.TF WT,st G G.Qq TY,st G G.UH XC,st G G.VF YI,st G G.Pj mS,st G G.PN gW,st G G.ZO gY,st G G.WI Z5,st G G.Ud cM,st G G.SY Z7,st G G.Sf mV,st G G.Ue mW,st G G.fV mU,st G G.UI XG,st G G.ZM gV,st G G.SX Z4,st G G.ZP gZ,st G G.ZN gX,st G G.WJ Z6,st G G.VI hJ,st G G.ZQ hZ]
structure Fx(Z:Zs):Prop extends Fz Z where
 b_all:AX Z.K AK "all"=U none
 b_bool:AX Z.K AK "bool"=U none
 b_dict:AX Z.K AK "dict"=U none
 b_enumerate:AX Z.K AK "enumerate"=U none
 b_int:AX Z.K AK "int"=U none
 b_isinstance:AX Z.K AK "isinstance"=U none
 b_len:AX Z.K AK "len"=U none
 b_list:AX Z.K AK "list"=U none
 b_max:AX Z.K AK "max"=U none
 b_min:AX Z.K AK "min"=U none
 b_range:AX Z.K AK "range"=U none
 b_set:AX Z.K AK "set"=U none
 b_sorted:AX Z.K AK "sorted"=U none
 b_str:AX Z.K AK "str"=U none
 c_ACK:∃t,AX Z.K AK "ACK"=U (U<|.str "ack" t)
 c_BROKEN:∃t,AX Z.K AK "BROKEN"=U (U<|.str "broken" t)
 c_DONE:∃t,AX Z.K AK "DONE"=U (U<|.str "done" t)
 c_DRAWERS:∃t,AX Z.K AK "DRAWERS"=U (U<|.int 110 t)
 c_HINT:∃t,AX Z.K AK "HINT"=U (U<|.str "hint" t)
 c_KEYS:∃t,AX Z.K AK "KEYS"=U (U<|.int 256 t)
 c_MOST_COPIES:∃t,AX Z.K AK "MOST_COPIES"=U (U<|.int 5 t)
 c_OPEN:∃t,AX Z.K AK "OPEN"=U (U<|.str "open" t)
 c_PLOTS:∃t,AX Z.K AK "PLOTS"=U (U<|.int 11 t)
 c_PUT:∃t,AX Z.K AK "PUT"=U (U<|.str "put" t)
 c_QUERY:∃t,AX Z.K AK "QUERY"=U (U<|.str "query" t)
 c_READ:∃t,AX Z.K AK "READ"=U (U<|.str "read" t)
 c_TOLD:∃t,AX Z.K AK "TOLD"=U (U<|.str "told" t)
 c_VALUE_LENGTH:∃t,AX Z.K AK "VALUE_LENGTH"=U (U<|.int 40 t)
 c_WORD_LENGTH:∃t,AX Z.K AK "WORD_LENGTH"=U (U<|.int 8 t)
 c_WORD_SIGNS:∃t,AX Z.K AK "WORD_SIGNS"=U (U<|.str "abcdefghijklmnopqrstuvwxyz0123456789" t)
 c_WRITE:∃t,AX Z.K AK "WRITE"=U (U<|.str "write" t)
 g_Ask:AX Z.K AK "Ask"=U (U<|.ref Z.w.A)
 g_Asks:AX Z.K AK "Asks"=U (U<|.ref Z.w.S)
 g_Hints:AX Z.K AK "Hints"=U (U<|.ref Z.w.H)
 g_Letter:AX Z.K AK "Letter"=U (U<|.ref Z.w.L)
 g_NoHouse:AX Z.K AK "NoHouse"=U (U<|.ref Z.x_NoHouse)
 g_Post:AX Z.K AK "Post"=U (U<|.ref Z.w.P)
 g_Thing:AX Z.K AK "Thing"=U (U<|.ref Z.w.T)
 g_World:AX Z.K AK "World"=U (U<|.ref Z.w.W)
def all{l:EV}{w:Bw}{K:Ab}{h:BM}{mg:Ay->LX}{fa:Ae}{c_World c_Thing c_Post c_Letter c_Asks c_Ask c_Hints t_order t_dealt c_NoHouse:Ae}(X:K.In h)(G:h.Ns AK mg)(hfa:mg "law"=U (.ref fa))(F:Fx (#[K,#[c_World,c_Thing,c_Post,c_Letter,c_Asks,c_Ask,c_Hints],t_order,t_dealt,c_NoHouse]:Zs)):∃fd:Cz,(∀(s:Ax)(v:Ai),HF s fd #[[v],[]] [("_law_script",v)])/\∀base:BM,K.In base->base.Ns AK mg->(∀P∈([t_order,t_dealt]:LL),base.BuiltinsAt mg P)->Sl l.prog w K mg base pL 9 fa fd ["_law_script"] (sl (#[K,#[c_World,c_Thing,c_Post,c_Letter,c_Asks,c_Ask,c_Hints],t_order,t_dealt,c_NoHouse]:Zs)):=by
 let(f,j,c,r,q,k,b,i,d,n,o,g,p,t):=F.a_law;have e:=hfa.symm.trans<|Bg X G c;cases e;refine#[Bs "law" "law" (OE zD) (Oa zD) (NW zD) .none k b i d j n,λs v=>.of_eq Y,λbase m _ a=>?_];have T:Tx #[l.prog,w,mg,base] (#[K,#[c_World,c_Thing,c_Post,c_Letter,c_Asks,c_Ask,c_Hints],t_order,t_dealt,c_NoHouse]:Zs):=#[F.toFz,#[h,X,G],BE X G F.b_all,BE X G F.b_bool,BE X G F.b_dict,BE X G F.b_enumerate,BE X G F.b_int,BE X G F.b_isinstance,BE X G F.b_len,BE X G F.b_list,BE X G F.b_max,BE X G F.b_min,BE X G F.b_range,BE X G F.b_set,BE X G F.b_sorted,BE X G F.b_str,(F.c_ACK).elim λ_ z=>#[_,Bg X G z,#[_,Y]],(F.c_BROKEN).elim λ_ z=>#[_,Bg X G z,#[_,Y]],(F.c_DONE).elim λ_ z=>#[_,Bg X G z,#[_,Y]],(F.c_DRAWERS).elim λ_ z=>#[_,Bg X G z,#[_,Y]],(F.c_HINT).elim λ_ z=>#[_,Bg X G z,#[_,Y]],(F.c_KEYS).elim λ_ z=>#[_,Bg X G z,#[_,Y]],(F.c_MOST_COPIES).elim λ_ z=>#[_,Bg X G z,#[_,Y]],(F.c_OPEN).elim λ_ z=>#[_,Bg X G z,#[_,Y]],(F.c_PLOTS).elim λ_ z=>#[_,Bg X G z,#[_,Y]],(F.c_PUT).elim λ_ z=>#[_,Bg X G z,#[_,Y]],(F.c_QUERY).elim λ_ z=>#[_,Bg X G z,#[_,Y]],(F.c_READ).elim λ_ z=>#[_,Bg X G z,#[_,Y]],(F.c_TOLD).elim λ_ z=>#[_,Bg X G z,#[_,Y]],(F.c_VALUE_LENGTH).elim λ_ z=>#[_,Bg X G z,#[_,Y]],(F.c_WORD_LENGTH).elim λ_ z=>#[_,Bg X G z,#[_,Y]],(F.c_WORD_SIGNS).elim λ_ z=>#[_,Bg X G z,#[_,Y]],(F.c_WRITE).elim λ_ z=>#[_,Bg X G z,#[_,Y]],Bg X G F.g_Ask,Bg X G F.g_Asks,Bg X G F.g_Hints,Bg X G F.g_Letter,Bg X G F.g_NoHouse,Bg X G F.g_Post,Bg X G F.g_Thing,Bg X G F.g_World,m,a];exact(Aft<|good T 97).fn (Bg X G c) g
def walk{c_World c_Thing c_Post c_Letter c_Asks c_Ask c_Hints t_order t_dealt c_NoHouse:Ae}{l:EV}{q:Bn}{loose:LK}{XP:(Ay->LX)->BM->Prop}{YP:Bw->BM->Prop}{d:DefRec}{K:Gp->Ab}(hn:l.most=U 63)(hdf:d.params.defaults=[])(hY:∀(w:Bw)(h:BM),YP w h->(K w.params).In h)(hT:∀(w:Bw)(h:BM),YP w h->lI [t_order,t_dealt] h)(hKt:∀(w:Bw),∀P∈([t_order,t_dealt]:LL),(K w.params).lookup P=none)(F:∀(w:Bw)(mg:Ay->LX)(fa:Ae)(h:BM),(K w.params).In h->h.Ns AK mg->mg d.name=U (.ref fa) ->
   ∃fd:Cz,(∀(s:Ax)(u:Ai),HF s fd #[[u],[]] [("_law_script",u)])/\∀base:BM,(K w.params).In base->base.Ns AK mg->(∀P∈([t_order,t_dealt]:LL),base.BuiltinsAt mg P)->Sl l.prog w (K w.params) mg base pL 9 fa fd ["_law_script"] (sl (#[K w.params,#[c_World,c_Thing,c_Post,c_Letter,c_Asks,c_Ask,c_Hints],t_order,t_dealt,c_NoHouse]:Zs))):
  Jo q loose XP YP l.row.toRowW d [] (λf vs=>IH f vs):=
 L2.AeH (n:=63) (k:=9) (x:="_law_script") (ts:=[t_order,t_dealt]) (CX:=λ_=>pL) (sp:=λw=>sl (#[K w.params,#[c_World,c_Thing,c_Post,c_Letter,c_Asks,c_Ask,c_Hints],t_order,t_dealt,c_NoHouse]:Zs)) hn Nq hdf #[Y,Nq,Nq] hY hT hKt F (λ_ _ a c b hT e=>#[a,c,Y,e,b,Ei.mpr #[Tab.one<|hT t_order Nu,Ei.mpr #[Tab.one<|hT t_dealt Nu,λ_ h=>nomatch h]],λ_=>rfl]) λ_ _ _ _ _ z=>z
end K47
end
open PySem PySem.W PyProof.Rows
local macro_rules | `(tactic| o_head $H) => `(tactic| refine holds_open (q := K47.q0) (loose := []) (Xt := K47.x0) (XP := XL K47.q0 []) (Yf := Hook.obs $H) (Ya := Hook.val $H) (YP := Hook.says $H) (N := 14028) ?hl (Hook.of $H) (Hook.keeps $H) (fun s e => xl_of s (Bool.and_eq_true_iff.mp e).1) XL.keeps (by rfl) (by rfl) (by rfl) (fun s e => recFacts_of (Bool.and_eq_true_iff.mp e).2) (by rfl) (by first | assumption | decide +kernel) (by decide +kernel) ⟨rfl, rfl, rfl, rfl, rfl, by decide +kernel⟩ ?hw ?hc)
set_option maxRecDepth 100000 in
theorem PySem.Challenge.cw_threeroofs_k47_other_houses_holds : PySem.Challenge.rw_threeroofs_k47_other_houses.Holds := by
 w_on;refine holds_law K47.wl fun said=>?_
 o_head (kmHook K47.m0.heap_1 K47.Anj (fun P=>by kernel_rfl) [531,543])
 case hw=>w_witness2
 case hl=>exact L2.Top.AcV 198 7064 (by kernel_rfl) (by kernel_rfl) (fun _=>by kernel_rfl) (by kernel_rfl) K47.g1 K47.g2 K47.g3 K47.g4 K47.h1 K47.h2 K47.h3 K47.h4
 k_fill
 refine' K47.walk (t_order:=531) (t_dealt:=543) (l:=PySem.Challenge.rw_threeroofs_k47_other_houses) rfl rfl (fun w h Y=>PySem.W.km_in_of Y) (fun w h Y=>L2.AbG Y [(535,531),(547,543)] (List.forall_mem_cons.mpr ⟨by kernel_rfl,List.forall_mem_cons.mpr ⟨by kernel_rfl,fun _ h=>nomatch h⟩⟩) (by decide)) (fun w=>List.forall_mem_cons.mpr ⟨by kernel_rfl,List.forall_mem_cons.mpr ⟨by kernel_rfl,fun _ h=>nomatch h⟩⟩) ?F
 case F =>
  intro w mg fa h KX G hmg
  refine' K47.all (t_order:=531) (t_dealt:=543) KX G hmg ⟨⟨?cl_Ask,?cl_Asks,?cl_Hints,?cl_Letter,?cl_Post,?cl_Thing,?cl_World,?fT,?fL,?fP,?fA,?fS,?fH,?fW,?ne_t,?a_is_whole,?a_is_text_up_to,?a_is_word,?a_is_house,?a_is_key,?a_is_value,?a_later,?a_count_of,?a_joined,?a_written,?a_Letter___init,?m_Letter,?a_Letter_shown,?a_Post_send,?a_Post_letters,?a_Post_letter_of,?a_Post_take,?a_need_asker,?a_World_thing_of,?a_World_need_house,?a_Thing_homes,?a_Thing_is_home,?a_Thing_shelf,?a_Thing_lay,?a_World_letters,?a_World_shelf,?a_Ask___init,?m_Ask,?a_Asks_begin,?a_Asks_begin_write,?a_Asks_ask_of,?a_Ask_hear,?a_roof_of,?a_room_of,?a_drawer_of,?a_place_of,?a_best_of,?a_order,?a_beside,?a_dealt,?a_World_leave_with_neighbour,?a_World_bring_state,?a_World_known,?a_World_send_to_homes,?a_World_write,?a_Ask_found,?a_Ask_status,?a_Ask_is_done_write,?a_Ask_asker_and_count,?a_Asks_begin_read,?a_World_read,?a_World_status,?a_World_found,?a_World_bring_query,?a_World_bring_answer,?a_World_bring,?a_World_homes,?a_World_houses,?a_World_away,?a_are_counts,?a_need_counts,?a_Thing___init,?m_Thing,?a_Thing_settle,?a_World_declare,?a_Post___init,?m_Post,?a_Hints___init,?m_Hints,?a_Asks___init,?m_Asks,?a_World___init,?m_World,?a_Ask_break_off,?a_Asks_break_all,?a_World_rehouse,?a_World_lay,?a_NoHouse___init,?xn_NoHouse,?xf_NoHouse,?x_NoHouse,?a_World_fall,?a_law_cell,?a_law_mixed,?a_law_names,?a_law_houses,?a_law_written,?a_law_join,?a_law_send,?a_law_hear,?a_law_histories,?a_law_begin,?a_law_brought,?a_law_other,?a_law_moved,?a_law_nowhere,?a_law_right,?a_law_world,?a_law⟩,?b_all,?b_bool,?b_dict,?b_enumerate,?b_int,?b_isinstance,?b_len,?b_list,?b_max,?b_min,?b_range,?b_set,?b_sorted,?b_str,?c_ACK,?c_BROKEN,?c_DONE,?c_DRAWERS,?c_HINT,?c_KEYS,?c_MOST_COPIES,?c_OPEN,?c_PLOTS,?c_PUT,?c_QUERY,?c_READ,?c_TOLD,?c_VALUE_LENGTH,?c_WORD_LENGTH,?c_WORD_SIGNS,?c_WRITE,?g_Ask,?g_Asks,?g_Hints,?g_Letter,?g_NoHouse,?g_Post,?g_Thing,?g_World⟩
  case b_all | b_bool | b_dict | b_enumerate | b_int | b_isinstance | b_len | b_list | b_max | b_min | b_range | b_set | b_sorted | b_str | g_Ask | g_Asks | g_Hints | g_Letter | g_NoHouse | g_Post | g_Thing | g_World=>dsimp only;k_is
  case c_ACK | c_BROKEN | c_DONE | c_DRAWERS | c_HINT | c_KEYS | c_MOST_COPIES | c_OPEN | c_PLOTS | c_PUT | c_QUERY | c_READ | c_TOLD | c_VALUE_LENGTH | c_WORD_LENGTH | c_WORD_SIGNS | c_WRITE=>dsimp only;exact ⟨_,by k_is⟩
  case cl_Ask | cl_Asks | cl_Hints | cl_Letter | cl_Post | cl_Thing | cl_World=>dsimp only;exact ⟨by k_is,by k_is,by k_is,by k_is⟩
  case fT=>dsimp only;(refine ⟨⟨by k_is,by k_is,by k_is,by k_is⟩,?_⟩;simp only [List.forall_mem_cons];refine ⟨?_,?_,?_,?_,?_,fun _ h=>nomatch h⟩<;>(unfold L2.Qe;k_is))
  case fL=>dsimp only;(refine ⟨⟨by k_is,by k_is,by k_is,by k_is⟩,?_⟩;simp only [List.forall_mem_cons];refine ⟨?_,?_,?_,?_,?_,?_,fun _ h=>nomatch h⟩<;>(unfold L2.Qe;k_is))
  case fP=>dsimp only;(refine ⟨⟨by k_is,by k_is,by k_is,by k_is⟩,?_⟩;simp only [List.forall_mem_cons];refine ⟨?_,?_,fun _ h=>nomatch h⟩<;>(unfold L2.Qe;k_is))
  case fA=>dsimp only;(refine ⟨⟨by k_is,by k_is,by k_is,by k_is⟩,?_⟩;simp only [List.forall_mem_cons];refine ⟨?_,?_,?_,?_,?_,?_,?_,?_,fun _ h=>nomatch h⟩<;>(unfold L2.Qe;k_is))
  case fS | fH=>dsimp only;(refine ⟨⟨by k_is,by k_is,by k_is,by k_is⟩,?_⟩;simp only [List.forall_mem_cons];refine ⟨?_,fun _ h=>nomatch h⟩<;>(unfold L2.Qe;k_is))
  case fW=>dsimp only;(refine ⟨⟨by k_is,by k_is,by k_is,by k_is⟩,?_⟩;simp only [List.forall_mem_cons];refine ⟨?_,?_,?_,?_,?_,?_,?_,fun _ h=>nomatch h⟩<;>(unfold L2.Qe;k_is))
  case ne_t=>dsimp only;decide
  case a_is_whole | a_is_text_up_to | a_is_word | a_is_house | a_is_key | a_is_value | a_later | a_count_of | a_joined | a_written | a_need_asker | a_roof_of | a_room_of | a_drawer_of | a_place_of | a_best_of | a_beside | a_are_counts | a_need_counts | a_law_cell | a_law_mixed | a_law_names | a_law_houses | a_law_written | a_law_join | a_law_send | a_law_hear | a_law_histories | a_law_begin | a_law_brought | a_law_other | a_law_moved | a_law_nowhere | a_law_right | a_law_world=>dsimp only;exact ⟨_,_,by k_is,_,_,_,_,_,_,_,_,by k_is,by k_is,by k_is⟩
  case a_Letter___init | a_Letter_shown | a_Post_send | a_Post_letters | a_Post_letter_of | a_Post_take | a_World_thing_of | a_World_need_house | a_Thing_homes | a_Thing_is_home | a_Thing_shelf | a_Thing_lay | a_World_letters | a_World_shelf | a_Ask___init | a_Asks_begin | a_Asks_begin_write | a_Asks_ask_of | a_Ask_hear | a_World_leave_with_neighbour | a_World_bring_state | a_World_known | a_World_send_to_homes | a_World_write | a_Ask_found | a_Ask_status | a_Ask_is_done_write | a_Ask_asker_and_count | a_Asks_begin_read | a_World_read | a_World_status | a_World_found | a_World_bring_query | a_World_bring_answer | a_World_bring | a_World_homes | a_World_houses | a_World_away | a_Thing___init | a_Thing_settle | a_World_declare | a_Post___init | a_Hints___init | a_Asks___init | a_World___init | a_Ask_break_off | a_Asks_break_all | a_World_rehouse | a_World_lay | a_World_fall=>dsimp only;exact ⟨_,_,by k_is,by k_is,_,_,_,_,_,_,_,_,by k_is,by k_is,by k_is⟩
  case m_Letter | m_Ask | m_Thing | m_Post | m_Hints | m_Asks | m_World=>dsimp only;exact ⟨by k_is,by k_is⟩
  case a_NoHouse___init=>dsimp only;exact ⟨_,⟨_,by k_is,by k_is,_,_,_,_,_,_,_,_,by k_is,by k_is,by k_is⟩,⟨⟨_,_,_,_,_,_,_,_,_,_,_,_,_,_,_,_,by k_is,by kernel_rfl,by k_is,by kernel_rfl⟩,by k_is⟩⟩
  case xn_NoHouse=>dsimp only;exact ⟨⟨_,[_,_],by k_is,rfl,rfl⟩,by k_is,by k_is⟩
  case xf_NoHouse=>dsimp only;k_is
  case x_NoHouse=>dsimp only;kts_exm
  case a_order | a_dealt=>dsimp only;exact ⟨_,⟨_,by k_is,_,_,_,_,_,_,_,_,by k_is,by k_is,by k_is⟩,by kernel_rfl⟩
  case a_law=>dsimp only;exact ⟨_,_,by k_is,_,_,_,_,_,_,_,_,by k_is,by k_is,by k_is⟩
