import PyProof.Rows.All
import Wide.All
import OpenK.AllK
import PySem.Challenge.RW_threeroofs_k46_hints
set_option Elab.async false
set_option linter.all false
set_option maxRecDepth 100000
set_option maxHeartbeats 0
set_option bootstrap.genMatcherCode false
noncomputable section
open Option renaming some->U,none->Ah,map_eq_some_iff->AF,isSome_map->C7,isSome_iff_exists->Et,map_eq_none_iff->Hg,filter_some->Ij,getD_none->IM,map_some->IX
open PySem.W renaming Frag->Ab,nsIn->A4,mg_of->Bj,fnOf->Bu,keepIn->By,mg_none_of->BE,makesIn->BY,kia_one->B5,findIn->Cb,emptyDict->Cc,instObj->CH,kla_obj->Dt,codeIn->DC,boot_heap->D4,kdu_collect->Ed,plainGet->Ew,kdl_dict->Ex,OpenLaw->EC,envX->EF,lookIn->EY,CodeHd->EZ,plainGet_of->Fb,codeHd_of_K->Fc,callWith_K->Fp,methodObj->Fy,isFn->FA,hasDictIn->FC,codeHdIn->FN,SharedT->FY,takerIn->F5,kitOne->Gh,cellsFrom_some->GY,methodCall_KW->G6,kla_codeExpr->Ho,kla_callFunE->Hq,callWith_K0->Hx,tabObj->HN,boot_drawn->HP,plainOver->Ig,kitx_list->Ih,kitx_dict->Ii,handedIn->IA,boot_toks->IJ,WalkO->Jf,next->Jn,through->JZ,stepOk->KJ
open List renaming length_map->Ac,getElem?_eq_getElem->Ae,getElem?_map->Aj,size_toArray->Aq,mem_singleton->As,getElem?_eq_some_iff->Av,map_cons->Az,mem_cons->AB,mem_cons_of_mem->AD,mem_of_getElem?->AH,length_cons->AI,length_append->AM,map_map->AO,mem_map->AR,mem_cons_self->AX,mem_append_right->AY,find?_cons->A7,mem_map_of_mem->A8,range->Ba,nodup_cons->Bc,mem_append->Bd,length_singleton->Bh,map_append->Bi,mem_filter->Bl,map_congr_left->Bp,getD_eq_getElem?_getD->Bs,length_take->Bt,getElem?_eq_none->Bx,take_length->BA,length_filter_le->BB,all_eq_true->BL,take_add_one->BP,mem_of_find?_eq_some->BS,getElem?_set_self->BU,length_pos_iff->BV,filter_eq_self->BW,length_range->BX,any_eq_true->B0,mem_range->B6,append_nil->B7,lookup_cons->B8,mem_iff_getElem?->Cj,find?_eq_none->Ck,length_erase_of_mem->Cm,getElem?_set_ne->Cn,all_cons->Ct,not_mem_nil->Cv,getElem_mem->Cy,filter_append->CF,length_set->CM,length_nil->CN,any_cons->CQ,eraseIdx_eq_take_drop_succ->CT,filter_cons_of_pos->CV,eraseIdx_cons_succ->CW,take_append_drop->C9,pairwise_map->Df,getElem?_append_right->Dj,filter_cons->Dm,all_map->Dn,getElem?_append_left->Dr,filter_sublist->Du,filterMap_cons->Dv,lookup->DD,length_eq_zero_iff->DF,filter_cons_of_neg->DH,nodup_append->DR,map_nil->DU,ext_getElem?->DW,eraseIdxIfInBounds_toArray->D5,mem_erase_of_ne->Ef,forall_mem_cons->Eg,getElem?_range->Eh,replicate->En,nodup_iff_pairwise_ne->Eo,getElem?_eq_none_iff->Eu,length->Ez,filter_congr->EA,append_assoc->EB,getElem_inj->EJ,getElem?_cons_succ->EK,take_of_length_le->EW,find?->EX,of_mem_zip->E5,find?_some->E6,nodup_nil->Fi,mem_append_left->Fj,map_id->Fl,getElem?_of_mem->Fn,Pairwise->FE,mem_filterMap->FH,getElem?_take->FI,mem_range'_1->FZ,map->F0,find?_isSome->F3,cons_append->Gf,range'->Gp,filter_nil->Gu,filter_map->Gv,countP_eq_length_filter->Gw,mem_or_eq_of_mem_set->G2,getElem?_take_of_lt->Hh,pairwise_mergeSort->Hv,toArray->HE,range_succ_eq_map->HF,length_pos_of_mem->HG,find?_cons_of_neg->HH,pairwise_append->Ik,not_lt->Il,filter->Io,mergeSort_perm->ID,filter_filter->IP,take_sublist->IY,reverse_cons->IZ,getElem?_inj->I0,foldl_append->Ja,find?_append->Jb,prefix_refl->Jh,mem_flatMap->Ji,length_drop->Jj,range_succ->Js,foldl_cons->Jt,take_zero->JB,take_nil->JL,map_take->JM,map_drop->JN,drop_nil->JO,any_map->Kc
open PySem renaming wpAny_bind->Ad,Addr->Ag,Value->Ai,Shared->Au,wpAny_pure->Aw,Str->AA,mainGlobals->AJ,starEach->AL,wpAny->AW,model->A9,sizeLine_eq->Bb,compareOp->Be,Stmt->Bm,Program->Bn,World->Bw,foldedSetIterable->BC,bootBuiltins->BD,wpAny_holding->BG,Heap->BO,Around->BQ,wpAny_mono->B1,backTo->Ca,cLine->Cd,bindArgs->Ce,wpAny_truthy_bool->Cg,binaryOp->Ci,attributeBase->Co,keywordEach->Cp,sysModules->Cs,FuncData->CA,wpAny_call_entry->CI,wpAny_Call_Name_kw->CJ,recursionLimit->CK,Obj->CL,Pos->CU,wpAny_newList->CY,assignEach->CZ,Builtin->C3,wpAny_typeNameOfWhole_keyiter->C8,tupleKind_room_in1->Dc,call_meetsIn->Dd,OsState->De,wpAny_passesOwn->Dg,mem_of_lookup->Dp,valueAt->Ds,backToKw->Dw,wpAny_typeNameOf_keyiter->DI,NameKind->DJ,call_meets->DZ,wpAny_tryCatch->Ea,wpAny_dictEntries->Eb,sliceBounds->Ek,typeIs_str->EE,wpAny_newObj_type->ER,wpAny_letGo->ES,wpAny_Call_method->ET,codeAny->EU,Keyword->EV,wpAny_callSpecial?_slot->E8,callWith->E9,builtinsNs->Fo,wpAny_execs_nil->Fu,letOwnedTupleGo->Fv,wpAny_newFunctionEnv->FK,Within->FL,tupleKind->FW,getItem->FX,wpAny_setEntries_of->F4,wpAny_standAt->Gb,plainId_quiet->Ge,Params->Gi,wpAny_pyIter_list->Gz,concat_meets->GA,codeAny_mono->GB,callerA->GC,treeTable->GV,seqIndex?->GW,noFill_tuple_add->GX,IsPart->GZ,DictEntry->G1,subscripted->G4,richCompare->G5,wpAny_updateSeq->Hj,wpAny_dictEpoch->Hl,codeAny_builtin->Hn,Env->Hu,wpAny_richCompare_same_room->Hw,BindsTo->HB,wpAny_seqItems->HI,wpAny_newTuple->HJ,wpAny_call->HK,defaultsOf->HL,atKey->HM,PlainAttrs->HR,evalArgs_none->Ie,wpAny_attempt->Iu,swapsWithSole->Iv,swappedStores->Iw,seq_tuple_add->Iy,call->Iz,wpAny_Call_method0_late->IG,bindL->IH,bindC->II,Sem->IK,PassesOwn->IL,seqIndex_neg->IS,wpAny_notOrdered_dict->Jc,wpAny_isTrue_Compare1->Jd,wpAny_isOneOf_keyiter->Je,wpAny_pyIter_keyiter->Jk,wpAny_field->Jl,seqIndex_of->Jm,wpAny_load->JC,wpAny_Name->JD,pyNext->JE,pyIter->JF,closureFor->JG,wpAny_setState_of->JS,wpAny_setEpoch_of->JT,wpAny_pyIter_slot->JU,wpAny_pyIter_enum->JV,wpAny_assign_Name->JW,slot_list_getitem->JX,setItem->JY,wpAny_forIn_list->Kd,wpAny_execs_cons->Ke,wpAny_eqBool_str->Kf,wpAny_eqBool_int->Kg,wpAny_Dict_empty->Kh,lastMarks->Ki,cellsFrom->Kj,Arguments->Km,size_of_entries->Ks,Fin->Ku,wpAny_setField->Kz,wpAny_fieldsOf->KA,wpAny_Compare1->KC,typeOf->KG,entryFor_alias->KH,denote->KI,Tok->KL,Thread->KN,SetTable->KO,GenState->KP,intBits_le_64->KZ,fenceModules?->K0,call_list_seq->K1,bltViewBooted->K2
open Bool renaming true->Af,false->An,false_ne_true->AQ,and_eq_true->Bf,eq_iff_iff->BM,false_eq_true->C4,false_and->DX,and_false->DY,true_and->ED,or_eq_true->Gy,and_true->Hi,and_eq_false_iff->Ia,and_eq_true_iff->Iq,not_true->JP,false_or->JQ
open PySem.Heap renaming get?_push_of_some->Am,get?_push_size->AN,lt_size->AU,SameBut->CP,get?_none_of_le->Di,get?_update_self->D6,get?_update_other->Hz,size_push->Jw
open Nat renaming le_refl->Ao,le_trans->AS,blt->AV,ne_of_lt->Bg,lt_of_lt_of_le->Bo,zero_le->Bv,lt_of_le_of_lt->BI,succ_le_succ->CC,lt_irrefl->CS,le_of_lt->C6,lt_succ_self->Dq,ble->D1,zero_add->Em,min_self->E3,lt_trans->E4,le_of_ble_eq_true->Ff,le_succ->Ft,lt_succ_of_lt->F7,le_of_eq->F8,le_of_not_lt->Gm,le_add_right->Gn,ne_of_gt->HY,lt_of_succ_lt_succ->HZ,le_succ_of_le->Jg,min_le_right->Jq,le_max_right->Jr,not_lt_zero->Jz,le_max_left->JA,zero_sub->Kn,sub_self->Ko,max_le->KY
open Ne renaming symm->Ax
open PySem.Paired renaming length->AE,snoc->JH
open Option.some renaming inj->AK,injEq->He
open Array renaming length_toList->AZ,getElem?_toList->B4,size_map->GL,perm_iff_toList_perm->GN,getElem?_eq_getElem->GU,toList_append->Ir,append_assoc->IF,size_zip->Ju,toList->JR,getD->Kr,map->Kx
open PySem.Str renaming ofString->A1,join->EL
open True renaming intro->Bk
open PySem.Value renaming ref->Bz,none->Cz,str->Ei,type->El,int->F6,bool->GF,isStrOf->Jv,isInt->J7,float->J8
open PySem.Heap.SameBut renaming update->BF
open PySem.Obj renaming mapSeq->BH,data_mapDictKeys->IB,data_mapFields->IT
open Int renaming emod_lt_of_pos->BJ,emod_nonneg->BN,eq_ofNat_of_zero_le->BZ,zero_add->F9,toNat_natCast->Ga,le_refl->Gx,le_of_lt->Kq
open Or renaming inl->BK,inr->Ee
open PySem.SeqAt renaming EqAt->BR,RcNeAt->EM,RcAt->FD
open PySem.NameKind renaming free->B3,cell->Dk
open PySem.Calls renaming callWith_builtin->Cf,spliced_cons->CB,evalArgs_plain->Dh,spliced_nil->DK,call_function_entry->Es,Name_function_global->GH
open PySem.SetTable renaming fresh->Cq
open Sum renaming inr->Cr,inl->C5
open PySem.F renaming slot_dict_pop->Cu,plain_min_loop->C0,plainAttrs_dict->Dx,args_tuple_add_2->Er,entry_tuple_add->Ey,slot_tuple_add->EG,entry_min_loop->EH,entry_dict_pop->EI,type_dict_pop->EN,slot_dict_get->EO,args_dict_pop_3->GQ,args_dict_pop_2->GR,args_dict_get_3->GS,entry_dict_get->G0
open False renaming elim->CD
open PyProof.Rows renaming IntsAre->CG,listUpdate_at->C1,callWith_type1->C2,slot_tuple_getitem->Dy,arrOf->Dz,get?_update_seq->DL,envOfC->D0,wpS_bind->Fe,AllBare->Fs,entry_list_sort->Fw,slot_list_sort->FP,seqEpoch_at->FQ,failedOf->FR,SortedTo->FT,IntKeys->Gs,sortedS->GI,plain_sorted->GJ,entry_sorted->GK,kind_sorted->Hd,K->HD,wpS_pure->HS,sortedHeap_old->HU,size_push'->HV,args_list_sort->HW,IsTup->HX,sortedHeap_at->IC,subscriptTail_builtinR->IU,listItems_at->IV,args_sorted1->IW,sortedHeap->JI,Subscript_->JK,pairsOf->Ka,StrsAre->Kb,list_sort_plain->Kv,wpS_mono->KS,slicePart_none->KU,SortSt->KW,subscriptTail->K5
open PySem.Txt renaming split->CO,join->Ep,rpartition->Fq,partition->Hr
open PySem.Builtin.Str renaming occurrences->Dl
open List.Sublist renaming map->DB,nodup->D9
open Prod renaming ext->DQ,snd->Jx,fst->Jy
open Prod.mk renaming inj->D7
open PySem.SeqAt.RcNeAt renaming lists_lengths->D8,tuples->GG,lists->GP
open PySem.Builtin.Slice renaming slicePlaces->Ec,sliceAdjust->FG
open PySem.SeqAt.RcAt renaming lists_lengths->Ej,tuples->Ht,lists->Hy
open PySem.Builtin.Frozenset renaming unchanged->E7,subsetOf->Fd,quietEq->Fh,sizeOf->Jo
open PySem.SeqAt.EqAt renaming same->FF,str_int->G8,of_refs->G9,int_str->Ha,int_int->Hb
open Array.Perm renaming refl->FJ
open PySem.Builtin renaming bitAnd->Gj
open PySem.Builtin.Dict renaming showsAll->Gk,takeOut->Gr
open List.Perm renaming eq_of_pairwise->Gq,refl->IE
open PySem.Walks renaming list->GD
open PySem.W.Fast renaming tw5923862056798008813->GO
open PySem.StrLaws renaming strSub_toList->G7,At->HQ
open PySem.Around renaming under->Hc,frames_deeper->HC
open PySem.Code renaming isFrame->HA,frames->Kl
open ForInStep renaming yield->Ip
open LawfulMonad renaming pure_bind->IQ
open PySem.W.WShape renaming has->J0
open PySem.CmpOp renaming NotIn->J9,In->KR
open PySem.Data renaming fields->Kk,cell->KQ,seq->K4
open LawfulBEq renaming eq_of_beq->Kp
open PySem.W.WData renaming int->Kt
open PyProof.Rows.IsTup renaming new->Kw
open SizeOf renaming sizeOf->Ky
open PySem.Flow renaming ret->K3
open List renaming toArray->zTo
section
open PySem PySem.Spec PyProof.Rows PySem.W
abbrev Lv:=List Ag
abbrev Lw:=List AA
abbrev Ly:=List (Ag×CL)
abbrev LB:=List Ai
abbrev LC:=List (Option Nat)
abbrev LD:=List Int
abbrev LG:=Option Int
abbrev LH:=Option Ai
abbrev LJ:=List Expr
abbrev LO:=Option Ag
abbrev LP:=List Nat
abbrev LS:=Array Ai
abbrev LU:=List Hu
abbrev LW:=List (AA×Ag)
abbrev LY:=List Bm
abbrev L1:=List (Ag×CU×AA)
abbrev L4:=Array Nat
abbrev L5:=List (AA×Ai)
abbrev L7:=List (List Nat)
abbrev Ma:=List (AA×DJ)
abbrev Mc:=Option AA
abbrev Me:=List (Option Expr)
abbrev Mf:=List EV
abbrev Mj:=Array (Option Ai)
abbrev Mn:=Option Expr
abbrev Mp:=List (Int×AA)
abbrev Mu:=Option DJ
theorem M4{p:Prop}(h:p:=by decide +kernel):p:=h
theorem M5{p:Prop}(h:p:=by decide):p:=h
theorem M6{p:Prop}(h:p:=by omega):p:=h
theorem M7{p:Prop}(h:p:=by rfl):p:=h
theorem M8{p:Prop}(h:p:=by simp):p:=h
theorem Y{α:Sort _}{a:α}:a=a:=rfl
end
abbrev Ap:=@decide_eq_true
abbrev Ar:=@decide_eq_false
abbrev Ay:=@if_neg
abbrev AG:=@if_pos
abbrev Br:=@decide_eq_true_eq
abbrev B2:=@of_decide_eq_true
abbrev B9:=@beq_eq_false_iff_ne
abbrev D3:=@decide_eq_decide
abbrev Fg:=@beq_iff_eq
abbrev FU:=@or_false
abbrev FV:=@decide_eq_false_iff_not
abbrev Gg:=@beq_false_of_ne
abbrev G3:=@ne_true_of_eq_false
abbrev Ib:=@bne_self_eq_false
theorem zE1{α:Sort _}{P:α→Prop}{G:Prop}(h:∃x,P x)(f:∀x,P x→G):G:=h.elim f
theorem zE2{α:Sort _}{β:Sort _}{P:α→β→Prop}{G:Prop}(h:∃x y,P x y)(f:∀x y,P x y→G):G:=h.elim λ_ h=>zE1 h (f _)
theorem zE3{α:Sort _}{β:Sort _}{γ:Sort _}{P:α→β→γ→Prop}{G:Prop}(h:∃x y z,P x y z)(f:∀x y z,P x y z→G):G:=h.elim λ_ h=>zE2 h (f _)
theorem zE4{α:Sort _}{β:Sort _}{γ:Sort _}{δ:Sort _}{P:α→β→γ→δ→Prop}{G:Prop}(h:∃x y z u,P x y z u)(f:∀x y z u,P x y z u→G):G:=h.elim λ_ h=>zE3 h (f _)
theorem zE5{α:Sort _}{β:Sort _}{γ:Sort _}{δ:Sort _}{ε:Sort _}{P:α→β→γ→δ→ε→Prop}{G:Prop}(h:∃x y z u v,P x y z u v)(f:∀x y z u v,P x y z u v→G):G:=h.elim λ_ h=>zE4 h (f _)
theorem zI2{α:Sort _}{β:Sort _}{P:α→β→Prop}(x:α)(y:β)(h:P x y):∃x y,P x y:=⟨x,y,h⟩
theorem zI3{α:Sort _}{β:Sort _}{γ:Sort _}{P:α→β→γ→Prop}(x:α)(y:β)(z:γ)(h:P x y z):∃x y z,P x y z:=⟨x,y,z,h⟩
theorem zI4{α:Sort _}{β:Sort _}{γ:Sort _}{δ:Sort _}{P:α→β→γ→δ→Prop}(x:α)(y:β)(z:γ)(u:δ)(h:P x y z u):∃x y z u,P x y z u:=⟨x,y,z,u,h⟩
theorem zI5{α:Sort _}{β:Sort _}{γ:Sort _}{δ:Sort _}{ε:Sort _}{P:α→β→γ→δ→ε→Prop}(x:α)(y:β)(z:γ)(u:δ)(v:ε)(h:P x y z u v):∃x y z u v,P x y z u v:=⟨x,y,z,u,v,h⟩
theorem zA1{a b G:Prop}(h:a∧b)(f:a→b→G):G:=f h.1 h.2
theorem zA2{a b c G:Prop}(h:a∧b∧c)(f:a→b→c→G):G:=zA1 h.2 (f h.1)
theorem zA3{a b c d G:Prop}(h:a∧b∧c∧d)(f:a→b→c→d→G):G:=zA2 h.2 (f h.1)
theorem zA4{a b c d e G:Prop}(h:a∧b∧c∧d∧e)(f:a→b→c→d→e→G):G:=zA3 h.2 (f h.1)
theorem zA5{a b c d e i G:Prop}(h:a∧b∧c∧d∧e∧i)(f:a→b→c→d→e→i→G):G:=zA4 h.2 (f h.1)
theorem zA6{a b c d e i j G:Prop}(h:a∧b∧c∧d∧e∧i∧j)(f:a→b→c→d→e→i→j→G):G:=zA5 h.2 (f h.1)
theorem zA7{a b c d e i j k G:Prop}(h:a∧b∧c∧d∧e∧i∧j∧k)(f:a→b→c→d→e→i→j→k→G):G:=zA6 h.2 (f h.1)
section
open Lean Parser.Tactic
def zno{α}:MacroM α:=Macro.throwUnsupported
def zip1 (t:Syntax):Bool:=t.isOfKind ``Parser.Term.anonymousCtor
def zct (t:Syntax):Nat:=((t.replaceM (m:=StateM Nat) λs=>do
 if s.isOfKind ``Parser.Term.byTactic then return some s
 if s.isOfKind ``Parser.Term.syntheticHole then modify (·+1)
 pure none).run 0).2
def zid (t:Syntax):Array Name:=((t.replaceM (m:=StateM (Array Name)) λs=>do
 if s.isIdent then modify (·.push s.getId.getRoot)
 pure none).run #[]).2
def zcv:Nat→Syntax→MacroM (TSyntax ``rcasesPatLo)
 |0,_=>zno
 |d+1,t=>do
  if zip1 t then `(rcasesPatLo|⟨$(←(t[1].getSepArgs).mapM (zcv d)),*⟩)
  else if let `(($a,$b,*)):=t then `(rcasesPatLo|⟨$(←([a.raw].toArray++b.getElems.map (·.raw)).mapM (zcv d)),*⟩)
  else if t.isIdent then `(rcasesPatLo|$(⟨t⟩):ident)
  else if t.isOfKind ``Parser.Term.hole then `(rcasesPatLo|_)
  else zno
def zcb (bs:Array (TSyntax ``Parser.Term.funBinder)):MacroM (Array (TSyntax ``Parser.Term.funBinder)×TSyntax `tactic):=do
 if !(bs.any λt=>zip1 t.raw) then zno
 let mut nb:=#[]
 let mut ts:=#[]
 for t in bs do
  if zip1 t.raw then
   let h←Macro.withFreshMacroScope `(hh)
   nb:=nb.push ⟨h.raw⟩
   ts:=ts.push (←`(tactic|obtain ⟨$(←(t.raw[1].getSepArgs).mapM (zcv 9)),*⟩:=$h))
  else nb:=nb.push t
 return (nb,←`(tactic|($[$ts:tactic];*)))
def zgo:Nat→Syntax→StateT (Array (TSyntax `tactic)) MacroM Syntax
 |0,s=>pure s
 |d+1,s=>s.replaceM λs=>do
  if s.isOfKind ``Parser.Term.byTactic then return some s
  match s with
  |`(fun $bs* => $b)=>
   let v:=(bs.filter λt=>zip1 t.raw).foldl (λa t=>a++zid t.raw) #[]
   if v.size>0&&zct b=1&&!(zid b).any v.contains then
    let (nb,q)←(zcb bs:MacroM _)
    modify (·.push q)
    let c←zgo d b
    return some (←`(fun $nb* => $(⟨c⟩))).raw
   else pure none
  |_=>pure none
end
namespace L2.Top
open PySem PySem.W PyProof.Rows
def WV(tb:String->Option C3)(p:Bn)(w:Bw)(n₀:Nat)(ann:LH):Nat->FY->KN->Option FY
 |0,_,_=>Ah
 | n+1,s,t=>match JZ t with
   |true=>U s
   | false=>match KJ n₀ ann t with
     |false=>Ah
     | true=>match stepT (KI tb) p w s t with
       |some (s',t')=>WV tb p w n₀ ann n s' t'
       |none=>Ah
def bI{tb:String->Option C3}{p:Bn}{w:Bw}{n₀:Nat}{ann:LH}:∀{n:Nat}{s s':FY}{t:KN},WV tb p w n₀ ann n s t=U s'->topRun tb p w n₀ ann n s.abs t=U s'.abs
 |0,_,_,_,h=>by cases h
 | n+1,s,s',t,h=>by
   unfold WV at h
   unfold topRun
   cases c:JZ t with
   |true=>rw[c]at h;cases h;rfl
   | false =>
     rw[c]at h
     cases b:KJ n₀ ann t with
     |false=>rw[b]at h;cases h
     | true =>
       rw[b]at h
       cases a:stepT (KI tb) p w s t with
       |none=>rw[a]at h;cases h
       |some r=>obtain⟨d,e⟩:=r;rw[a]at h;rw[stepT_spec a];exact bI h
def Zj(p:Bn)(w:Bw)(n₀:Nat)(ann:LH):Nat->FY->KN->Option FY
 |0,_,_=>Ah
 | n+1,s,t=>match JZ t with
   |true=>U s
   | false=>match Fast.tw6613529449190102663 n₀ ann t with
     |false=>Ah
     | true=>match Fast.tw10156331382660048174 (Fast.tw11892475500146522536 Fast.tw14364793385576792824) p w s t with
       |some (s',t')=>Zj p w n₀ ann n s' t'
       |none=>Ah
def bH{p:Bn}{w:Bw}{n₀:Nat}{ann:LH}:∀{n:Nat}{s:FY}{t:KN},Zj p w n₀ ann n s t=WV GV p w n₀ ann n s t
 |0,_,_=>rfl
 | n+1,s,t=>by
   unfold Zj WV
   rw[<-show@KJ=_ from Fast.te6613529449190102663,<-show@stepT=_ from Fast.te10156331382660048174,<-show@KI=_ from Fast.te11892475500146522536,<-show GV=_ from Fast.te14364793385576792824]
   cases JZ t with
   |true=>rfl
   | false =>
     cases KJ n₀ ann t with
     |false=>rfl
     | true =>
       cases stepT (KI GV) p w s t with
       |none=>rfl
       |some r=>exact bH
def treeOf(l:List CL):BT:=(l.foldl (λ(x:BT×Nat)o=>(x.1.ins x.2 o,x.2+1)) (.nil,0)).1
def AfN(P:Gi)(os:De):FY:=⟨treeOf (D4 P).objs.toList,11,(D4 P).life,#[],HP,IJ,os⟩
def wL(P:Gi)(os:De):(AfN P os).abs=⟨D4 P,#[],HP,IJ,os⟩:=by kernel_rfl
def wM(P:Gi):((D4 P).isNs AJ&&(#[]:Array KP).size==0,(D4 P).objs.size,(D4 P).nsMap AJ "__annotations__")=(Af,11,U (.ref 6)):=by kernel_rfl
def qD(p:Bn)(M:Nat)(w:Bw)(os:De):Option FY:=Zj p w 11 (U (.ref 6)) M (AfN w.params os) (topStub p)
def uN(p:Bn)(P:Gi)(s:Au):Bool :=
 staticsOk (GO p.main.body) (D4 P) s.heap&&namesBound p s.heap&&gensDone s&&laidKept (D4 P) s.heap
abbrev sees(p q:Bn)(loose:Lw)(Xt:Au->Bool)(s:Au):=Fast.tw4187177175401517315 q loose (GO p.main.body) Xt Af s
def Ael{p q:Bn}{loose:Lw}{Xt:Au->Bool}{α:Type}{Yf:Au->α}{Ya:Bw->α}{N:Nat}(M:Nat)(e:opening p=plainProg p.main.scope.names)(hN:D1 600 N=Af)(f:∀s,K0 p s=U s)(le:D1 M N=Af)(g1:∀(w:Bw)(os:De),(qD p M w os).map (λst=>(uN p w.params st.abs,(sees p q loose Xt st.abs).1,(sees p q loose Xt st.abs).2.1,(sees p q loose Xt st.abs).2.2.2.2.1))=U (Af,expectedOf q,K2,pinGoodD (drecsOf q)))(g2:∀(w:Bw)(os:De),(qD p M w os).map (λst=>((sees p q loose Xt st.abs).2.2.1,(sees p q loose Xt st.abs).2.2.2.1))=U (Af,Af))(g3:∀(w:Bw)(os:De),(qD p M w os).map (λst=>(sees p q loose Xt st.abs).2.2.2.2.2.1)=U (plainGoodE q (looseW q loose)))(g4:∀(w:Bw)(os:De),(qD p M w os).map (λst=>((sees p q loose Xt st.abs).2.2.2.2.2.2.1,(sees p q loose Xt st.abs).2.2.2.2.2.2.2.1,(sees p q loose Xt st.abs).2.2.2.2.2.2.2.2))=U (plainGoodD q loose,wideGood q,clsGoodW q loose))(hy:∀(w:Bw)(os:De),(qD p M w os).map (λst=>Yf st.abs)=U (Ya w)):LeftO p q loose Xt Yf Ya N Af:=λw=>by
 obtain⟨⟨c,m,d,k,os⟩,h,n⟩:=AF.mp (boot_open e hN f w)
 obtain⟨rfl,rfl,rfl,rfl⟩:c=D4 _/\m=#[]/\d=HP/\k=IJ:=by simpa using n
 obtain⟨l,g,o⟩:_/\_/\_:=by simpa only[Prod.mk.injEq]using wM w.params
 obtain⟨st,r,y⟩:=AF.mp (hy w os)
 have g1:=g1 w os
 have g2:=g2 w os
 have g3:=g3 w os
 have g4:=g4 w os
 rw[r]at g1 g2 g3 g4
 have g1:=AK g1
 have g2:=AK g2
 have g3:=AK g3
 have g4:=AK g4
 unfold qD at r
 rw[bH]at r
 have r:=bI r
 rw[wL]at r
 have r:=topRun_mono (N-M) _ _ _ _ r
 rw[show M+(N-M)=N by have:=Ff le;omega]at r
 unfold uN at g1
 unfold sees at g1 g2 g3 g4
 rw[<-(Fast.te4187177175401517315),<-(Fast.te5923862056798008813)]at g1 g2 g3 g4
 have i:=(D7 g1).1
 have g1:=D7 (D7 g1).2
 have a:=D7 g1.2
 have g2:=D7 g2
 have g4:=D7 g4
 have b:=D7 g4.2
 have j:openSeen q loose _ Xt Af _=openGood q loose :=
  DQ g1.1 (DQ a.1 (DQ g2.1 (DQ g2.2 (DQ a.2 (DQ g3 (DQ g4.1 (DQ b.1 b.2)))))))
 have t:topFrom GV p w N ⟨D4 w.params,#[],HP,IJ,os⟩=U st.abs:=by
  unfold topFrom
  rw[l,g,o,r]
  show(match staticsOk _ _ _&&namesBound p _&&gensDone _&&laidKept _ _ with|true=>_|false=>_)=_
  rw[i]
 unfold openEnds
 rw[h]
 show(topFrom GV p w N _).map _=_
 rw[t]
 exact congrArg U (DQ j y)
def tk{α:Type}:Nat->List α->List α
 |0,_=>[]
 |_+1,[]=>[]
 |n+1,x::xs=>x::tk n xs
def Ac5{α:Type}:∀(n:Nat)(xs:List α),tk n xs=xs.take n
 |0,_=>rfl
 |_+1,[]=>rfl
 |n+1,x::xs=>by rw[tk,Ac5 n xs];rfl
def dp{α:Type}:Nat->List α->List α
 |0,xs=>xs
 |_+1,[]=>[]
 |n+1,_::xs=>dp n xs
def uC{α:Type}:∀(n:Nat)(xs:List α),dp n xs=xs.drop n
 |0,_=>rfl
 |_+1,[]=>rfl
 |n+1,x::xs=>by rw[dp,uC n xs];rfl
abbrev AdC(p:Bn)(M:Nat)(l:Lv)(w:Bw)(os:De):Option (List (Option CL)):=(qD p M w os).map λst=>l.map st.abs.heap.get?
def Abk{p q:Bn}{loose:Lw}{Xt:Au->Bool}{K:Gi->Ab}{as:Lv}{e0:∀P,as=(K P).map (·.1)}{ts:Lv}{N:Nat}(n M:Nat)(e:opening p=plainProg p.main.scope.names)(hN:D1 600 N=Af)(f:∀s,K0 p s=U s)(le:D1 M N=Af)(g1:∀(w:Bw)(os:De),(qD p M w os).map (λst=>(uN p w.params st.abs,(sees p q loose Xt st.abs).1,(sees p q loose Xt st.abs).2.1,(sees p q loose Xt st.abs).2.2.2.2.1))=U (Af,expectedOf q,K2,pinGoodD (drecsOf q)))(g2:∀(w:Bw)(os:De),(qD p M w os).map (λst=>((sees p q loose Xt st.abs).2.2.1,(sees p q loose Xt st.abs).2.2.2.1))=U (Af,Af))(g3:∀(w:Bw)(os:De),(qD p M w os).map (λst=>(sees p q loose Xt st.abs).2.2.2.2.2.1)=U (plainGoodE q (looseW q loose)))(g4:∀(w:Bw)(os:De),(qD p M w os).map (λst=>((sees p q loose Xt st.abs).2.2.2.2.2.2.1,(sees p q loose Xt st.abs).2.2.2.2.2.2.2.1,(sees p q loose Xt st.abs).2.2.2.2.2.2.2.2))=U (plainGoodD q loose,wideGood q,clsGoodW q loose))(h1:∀(w:Bw)(os:De),AdC p M (as.take n) w os=U (tk n ((K w.params).map λp=>U p.2)))(h2:∀(w:Bw)(os:De),AdC p M ((as.drop n).take n) w os=U (tk n (dp n ((K w.params).map λp=>U p.2))))(h3:∀(w:Bw)(os:De),AdC p M ((as.drop n).drop n) w os=U (dp n (dp n ((K w.params).map λp=>U p.2))))(h4:∀(w:Bw)(os:De),AdC p M ts w os=U (ts.map λ_=>U (HN #[]))):LeftO p q loose Xt (Hook.obs (kmHook K as e0 ts)) (Hook.val (kmHook K as e0 ts)) N Af :=
 Ael M e hN f le g1 g2 g3 g4 λw os=>by
  have h1:=h1 w os
  have h2:=h2 w os
  have h3:=h3 w os
  have h4:=h4 w os
  unfold AdC at h1 h2 h3 h4
  rw[Ac5]at h1
  rw[Ac5,uC]at h2
  rw[uC,uC]at h3
  cases r:qD p M w os with
  |none=>rw[r]at h1;cases h1
  | some st =>
    rw[r]at h1 h2 h3 h4
    have h1:(as.take n).map _=((K _).map λp=>U p.2).take n:=AK h1
    have h2:((as.drop n).take n).map _=(((K _).map λp=>U p.2).drop n).take n:=AK h2
    have h3:((as.drop n).drop n).map _=(((K _).map λp=>U p.2).drop n).drop n:=AK h3
    have h4:=AK h4
    have q:as.map st.abs.heap.get?=(K w.params).map λp=>U p.2:=by
     rw[<-C9 n as,Bi,<-C9 n (as.drop n),Bi,h1,h2,h3,C9,C9]
    exact congrArg U (DQ q h4)
end L2.Top
section
open PySem PySem.W PyProof.Rows
abbrev K46.q0:PySem.Program:=PySem.W.view PySem.Challenge.pw_threeroofs_k46_hints [0,2,3,4,5,6,7,8,9,10,12,13,14,15,17,18,19,20,21,22,23,24,25,26,27,28,29,31,32,33,34,35,36,38,39,40,42,44,45,46,47,48,49,50,52,53,54,55,56,58,59,61,63,64,66,67,68,69,70,71,72,73,74,75,76,77,78,79]
abbrev K46.x0:PySem.Shared->Bool:=fun s=>xlAt K46.q0 [] s&&recOk (RowW.records (OpenRow.toRowW (OpenLaw.row PySem.Challenge.rw_threeroofs_k46_hints))) s
theorem K46.wl:OpenLaw.wellSaid PySem.Challenge.rw_threeroofs_k46_hints=true:=by kernel_rfl
local macro_rules | `(tactic| o_head $H) => `(tactic| exact False.elim ‹False›)
theorem K46.m0:False->PySem.Challenge.rw_threeroofs_k46_hints.Holds:=by
 intro hh
 w_on;refine holds_law K46.wl fun said=>?_
 k_head
abbrev K46.Ale:List Addr:=[2,3,15,17,18,20,21,22,29,30,31,32,35,42,44,45,47,48,49,50,51,54,61,63,64,66,67,68,69,70,73,80,82,83,85,86,87,88,89,92,99,101,102,104,105,106,107,108,111,118,120,121,123,124,125,126,127,130,137,139,140,142,143,144,145,146,149,156,157,158,161,168,169,170,173,175,176,178,179,180,182,183,185,186,187,189,190,192,193,194,196,197,199,200,201,203,204,206,207,208,210,211,213,214,215,218,219,220,223,224,225,228,229,230,232,233,235,236,237,239,240,242,243,244,246,247,249,250,258,260,261,263,264,265,267,268,270,271,272,274,275,277,278,279,281,282,284,285,286,288,289,291,292,293,295,296,298,299,300,302,303,305,306,307,309,310,312,313,314,315,316,317,318,328,330,331,333,334,335,337,338,340,341,342,345,346,347,349,350,352,353,354,356,357,359,360,361,363,364,366,367,368,369,370,371,372,375,377,378,380,381,382,384,385,387,388,396,398,399,401,402,403,405,406,408,409,410,413,414,415,418,419,420,421,422,423,424,434,436,437,439,440,441,443,444,446,447,448,449,450,451,452,462,464,465,467,468,469,471,472,474,475,476,479,480,481,483,484,486,487,488,490,491,493,494,495,497,498,500,501,502,503,504,505,506,509,511,512,514,515,516,518,519,521,522,523,526,527,528,530,531,533,534,535,538,539,540,542,543,545,546,554,556,557,559,560,561,563,564,566,567,568,570,571,573,574,575,577,578,580,581,582,584,585,587,588,589,591,592,594,595,596,598,599,601,602,603,604,605,606,607,610,612,613,615,616,624,626,627,629,630,631,633,634,636,637,638,640,641,643,644,645,647,648,650,651,652,654,655,657,658,659,661,662,664,665,666,668,669,671,672,673,675,676,678,679,680,682,683,685,686,687,689,690,692,693,694,696,697,699,700,701,703,704,706,707,708,710,711,713,714,715,717,718,720,721,722,724,725,727,728,729,731,732,734,735,736,738,739,741,742,743,745,746,748,749,750,752,753,755,756,757,759,760,762,763,764,766,767,769,770,771,773,774,776,777,778,780,781,783,784,785,787,788,790,791,792,794,795,797,798,799,801,802,804,805,806,808,809,811,812,813,815,816,818,819,820,822,823,825,826,827,829,830,832,833,834,835,836,837,838,841,843,844,846,847,848,850,851,853,854,855,858,859,860,862,863,865,866,867,869,870,872,873,874,876,877,879,880,881,883,884,886,887,888,890,891,893,894,895,897,898,900,901,902,904,905,907,908,909,912,913,914,916,917,919,920,921,924,925,926,929,930]
theorem K46.h1:∀ (w:World) (os:OsState),L2.Top.AdC PySem.Challenge.pw_threeroofs_k46_hints 6939 (K46.Ale.take 191) w os=some (L2.Top.tk 191 ((K46.m0.heap_1 w.params).map fun p=>some p.2)):=by
 intro w os
 kernel_rfl
theorem K46.h2:∀ (w:World) (os:OsState),L2.Top.AdC PySem.Challenge.pw_threeroofs_k46_hints 6939 ((K46.Ale.drop 191).take 191) w os=some (L2.Top.tk 191 (L2.Top.dp 191 ((K46.m0.heap_1 w.params).map fun p=>some p.2))):=by
 intro w os
 kernel_rfl
theorem K46.h3:∀ (w:World) (os:OsState),L2.Top.AdC PySem.Challenge.pw_threeroofs_k46_hints 6939 ((K46.Ale.drop 191).drop 191) w os=some (L2.Top.dp 191 (L2.Top.dp 191 ((K46.m0.heap_1 w.params).map fun p=>some p.2))):=by
 intro w os
 kernel_rfl
theorem K46.h4:∀ (w:World) (os:OsState),L2.Top.AdC PySem.Challenge.pw_threeroofs_k46_hints 6939 ([529,541]) w os=some (List.map (fun _=>some (tabObj #[])) ([529,541]:List Addr)):=by
 intro w os
 kernel_rfl
theorem K46.g1:∀ (w:World) (os:OsState),(L2.Top.qD PySem.Challenge.pw_threeroofs_k46_hints 6939 w os).map (fun st=>(L2.Top.uN PySem.Challenge.pw_threeroofs_k46_hints w.params st.abs,(L2.Top.sees PySem.Challenge.pw_threeroofs_k46_hints K46.q0 [] K46.x0 st.abs).1,(L2.Top.sees PySem.Challenge.pw_threeroofs_k46_hints K46.q0 [] K46.x0 st.abs).2.1,(L2.Top.sees PySem.Challenge.pw_threeroofs_k46_hints K46.q0 [] K46.x0 st.abs).2.2.2.2.1))=some (true,expectedOf K46.q0,bltViewBooted,pinGoodD (drecsOf K46.q0)):=by
 intro w os
 kernel_rfl
theorem K46.g2:∀ (w:World) (os:OsState),(L2.Top.qD PySem.Challenge.pw_threeroofs_k46_hints 6939 w os).map (fun st=>((L2.Top.sees PySem.Challenge.pw_threeroofs_k46_hints K46.q0 [] K46.x0 st.abs).2.2.1,(L2.Top.sees PySem.Challenge.pw_threeroofs_k46_hints K46.q0 [] K46.x0 st.abs).2.2.2.1))=some (true,true):=by
 intro w os
 kernel_rfl
theorem K46.g3:∀ (w:World) (os:OsState),(L2.Top.qD PySem.Challenge.pw_threeroofs_k46_hints 6939 w os).map (fun st=>((L2.Top.sees PySem.Challenge.pw_threeroofs_k46_hints K46.q0 [] K46.x0 st.abs).2.2.2.2.2.1))=some (plainGoodE K46.q0 (looseW K46.q0 [])):=by
 intro w os
 kernel_rfl
theorem K46.g4:∀ (w:World) (os:OsState),(L2.Top.qD PySem.Challenge.pw_threeroofs_k46_hints 6939 w os).map (fun st=>((L2.Top.sees PySem.Challenge.pw_threeroofs_k46_hints K46.q0 [] K46.x0 st.abs).2.2.2.2.2.2.1,(L2.Top.sees PySem.Challenge.pw_threeroofs_k46_hints K46.q0 [] K46.x0 st.abs).2.2.2.2.2.2.2.1,(L2.Top.sees PySem.Challenge.pw_threeroofs_k46_hints K46.q0 [] K46.x0 st.abs).2.2.2.2.2.2.2.2))=some (plainGoodD K46.q0 [],wideGood K46.q0,clsGoodW K46.q0 []):=by
 intro w os
 kernel_rfl
end
section
open Lean Parser.Tactic in
local macro_rules
|`(tactic|obtain ⟨$ps,*⟩:=$t)=>do
 let ps:=ps.getElems
 let n:=ps.size
 if n<2 then zno
 let r0←`(tactic|rcases $t:term with (⟨$ps,*⟩))
 if !t.raw.isIdent then return ←`(tactic|first|(have hh:=$t;obtain ⟨$ps,*⟩:=hh)|$r0:tactic)
 let mut r:=r0
 for (f,m) in [("zA",7),("zE",5)] do
  for k in [1:n] do
   if k≤m then
    let c:=mkIdent (.mkSimple s!"{f}{k}")
    let b:=ps.extract k n
    let g:TSyntax ``rcasesPatLo→MacroM (TSyntax `rintroPat):=λp=>do match p with
     |`(rcasesPatLo|⟨$q,*⟩)=>`(rintroPat|⟨$q,*⟩)
     |_=>`(rintroPat|$(←`(rcasesPat|($p))):rcasesPat)
    let a←(ps.extract 0 k).mapM g
    let s←if b.size==1 then `(tactic|rintro $(a.push (←g b[0]!))*) else `(tactic|(rintro $a* hh;obtain ⟨$b,*⟩:=hh))
    r←`(tactic|first|(refine $c $t ?_;(try clear $(⟨t.raw⟩):ident);$s:tactic)|$r:tactic)
 return r
|`(tactic|rcases $t:term with ⟨$ps,*⟩)=>`(tactic|obtain ⟨$ps,*⟩:=$t)
|`(tactic|rintro $ps*)=>do
 let ts←ps.mapM λp=>do
  match p with
  |`(rintroPat|⟨$q,*⟩)=>if q.getElems.size<2 then pure none else return some (←`(rcasesPat|⟨$q,*⟩))
  |_=>pure none
 if ts.all Option.isNone then zno
 let o←(ps.zip ts).mapM λ(p,q)=>match q with
  |none=>`(tactic|rintro $p)
  |some q=>`(tactic|(intro hh;obtain $q:rcasesPat:=hh))
 `(tactic|($[$o:tactic];*))
|`(tactic|refine #[$xs,*])=>do
 let xs:=xs.getElems
 let n:=xs.size
 if n<3 then zno
 let mut r←`(tactic|refine (⟨$xs,*⟩))
 for k in [2:min n 6] do
  let b:=xs.extract k n
  let l←if b.size==1 then pure b[0]! else `(⟨$b,*⟩)
  r←`(tactic|first|refine $(mkIdent (.mkSimple s!"zI{k}")) $(xs.extract 0 k)* $l|$r:tactic)
 return r
|`(tactic|exact #[$xs,*])=>if xs.getElems.size<3 then zno else `(tactic|refine #[$xs,*])
|`(#[$xs,*])=>if xs.getElems.size=0 then zno else `(⟨$xs,*⟩)
|`(tactic|let $p:term:=$t)=>do
 let `(($a,$b,*)):=p|zno
 `(tactic|obtain ⟨$(←([a.raw].toArray++b.getElems.map (·.raw)).mapM (zcv 9)),*⟩:=$t)
|`(fun $bs* => $b)=>do
 if zct b>0 then zno
 let (nb,s)←zcb bs
 `(fun $nb* => by $s:tactic;exact $b)
|`(tactic|refine $t)=>do
 if zct t≠1 then zno
 let (r,o)←(zgo 9 t).run #[]
 if o.size=0 then zno
 `(tactic|(refine $(⟨r⟩);($[$o:tactic];*)))
|`(nofun)=>`(by first|(intro h;cases h;done)|(intros;contradiction)|(intro _ h;cases h;done)|(intro _ _ h;cases h;done)|(intro _ _ _ h;cases h;done)|(intro h;contradiction))

namespace L2
open PySem PySem.Spec PyProof.Rows
abbrev Key:=Sum Int AA
abbrev LM:=List Key
abbrev LQ:=List (List Key)
abbrev LX:=List (List Key×Ag×Ai)
abbrev Mo:=List (Key×Ai)
def fR:Key->Ai->Bool
 |.inl k,v=>J7 k v
 |.inr x,v=>Jv x v
def AmE(w:Bw):Key->Int
 |.inl k=>hashInt k
 |.inr x=>hashStr w x
def OP:∀{k:Key}{v:Ai},fR k v=Af->(∃i t,k=C5 i/\v=F6 i t)\/(∃x t,k=Cr x/\v=Ei x t)
 | .inl i,v,h=>by
   let(t,e):=Ai.isInt_shape (k:=i) (v:=v) h;exact .inl #[i,t,Y,e]
 | .inr x,v,h=>by
   let(t,e):=Ai.isStrOf_shape (x:=x) (v:=v) h;exact .inr #[x,t,Y,e]
def xQ(i:Int)(t:KL):fR (.inl i) (.int i t)=Af:=by simp[fR,J7]
def xR(x:AA)(t:KL):fR (.inr x) (.str x t)=Af:=by simp[fR,Jv]
def Aa7(a b:Int):decide ((C5 a:Key)=C5 b)=(a==b):=by
 by_cases e:a=b
 ·subst e;simp
 ·have h:¬ (C5 a:Key)=C5 b:=λq=>e (C5.inj q)
  rw[Ar h];exact(B9.mpr e).symm
def Aa8(a b:AA):decide ((Cr a:Key)=Cr b)=decide (a=b):=by
 by_cases e:a=b
 ·simp
 ·have h:¬ (Cr a:Key)=Cr b:=λq=>e (Cr.inj q)
  rw[Ar h,Ar e]
def Aha(a:Int)(b:AA):decide ((C5 a:Key)=Cr b)=An:=Ar (λq=>nomatch q)
def Ahc(a:AA)(b:Int):decide ((Cr a:Key)=C5 b)=An:=Ar (λq=>nomatch q)
def Oj(prog:Bn)(w:Bw):PySem.KeyKind prog w Key where
 is:=fR
 hash:=AmE w
 inj:=λv a b ha hb=>by
  rcases OP ha with⟨i,t,rfl,rfl⟩|⟨x,t,rfl,rfl⟩
  ·rcases OP hb with⟨j,u,rfl,e⟩|⟨y,u,rfl,e⟩
   ·injection e with e1 _;rw[e1]
   ·exact nomatch e
  ·rcases OP hb with⟨j,u,rfl,e⟩|⟨y,u,rfl,e⟩
   ·exact nomatch e
   ·injection e with e1 _;rw[e1]
 byValue:=λk v h=>by
  rcases OP h with⟨i,t,rfl,rfl⟩|⟨x,t,rfl,rfl⟩<;>rfl
 pyHash:=λhv h=>by
  rcases OP hv with⟨i,t,rfl,rfl⟩|⟨x,t,rfl,rfl⟩
  ·exact wpAny_pyHash_int h
  ·exact wpAny_pyHash_str h
 eqBool:=λhu hv h=>by
  rcases OP hu with⟨i,t,rfl,rfl⟩|⟨x,t,rfl,rfl⟩
  ·rcases OP hv with⟨j,u,rfl,rfl⟩|⟨y,u,rfl,rfl⟩
   ·rw[Aa7]at h;exact Kg h
   ·rw[Aha]at h;exact Ha i t y u _ _ _ _ h
  ·rcases OP hv with⟨j,u,rfl,rfl⟩|⟨y,u,rfl,rfl⟩
   ·rw[Ahc]at h;exact G8 x t j u _ _ _ _ h
   ·rw[Aa8]at h;exact Kf h
 «strs»:=λk x t v h=>by
  rcases OP h with⟨i,u,rfl,e⟩|⟨y,u,rfl,e⟩
  ·exact nomatch e
  ·injection e with e1 _;subst e1;cases v<;>rfl
def nX(prog:Bn)(w:Bw)(i:Int)(t:KL):(Oj prog w).is (.inl i) (.int i t)=Af:=xQ i t
def nY(prog:Bn)(w:Bw)(x:AA)(t:KL):(Oj prog w).is (.inr x) (.str x t)=Af:=xR x t
inductive V where
 |Of|bl (b:Bool)|int (i:Int)|str (x:AA)|Aaf (b:Array UInt8)|AgW (b:UInt64)|ref (a:Ag)|ty (n:String)
 deriving DecidableEq
abbrev Lx:=List V
abbrev LA:=List (Key×V)
abbrev LN:=List (AA×V)
abbrev L6:=List (List Key×V)
abbrev L9:=Option V
abbrev Mi:=List (V×V)
abbrev Mm:=List (Option V)
abbrev Mt:=List (List V)
def RelV:V->Ai->Prop
 |.Of,u=>u=Cz
 |.bl b,u=>u=GF b
 |.int i,u=>∃t,u=F6 i t
 |.str x,u=>∃t,u=Ei x t
 |.Aaf b,u=>∃t,u=Ai.bytes b t
 |.AgW b,u=>∃t,u=J8 b t
 |.ref a,u=>u=Bz a
 |.ty n,u=>u=El n
abbrev Vals:Lx->LB->Prop:=Paired RelV
def Vals.length(r:Vals xs us):xs.length=us.length:=AE r
def Vals.get:∀{xs:Lx}{us:LB}{i:Nat}{x:V},Vals xs us->xs[i]?=U x->∃u,us[i]?=U u/\RelV x u
 |_,_,_,_,.nil,e=>by simp at e
 |_,_,0,_,.cons r _,e=>by simp at e;subst e;exact#[_,Y,r]
 | _,_,i+1,x,.cons _ t,e=>by
   let(u,a,b):=Vals.get (i:=i) (x:=x) t (by simpa using e);exact#[u,by simpa using a,b]
def Vals.set(r:RelV x u):∀{xs:Lx}{us:LB}(i:Nat),Vals xs us->Vals (xs.set i x) (us.set i u)
 |_,_,_,.nil=>.nil
 |_,_,0,.cons _ t=>.cons r t
 |_,_,i+1,.cons q t=>.cons q (Vals.set r i t)
def Vals.append{xs ys:Lx}{us ws:LB}(h:Vals xs us)(s:Vals ys ws):Vals (xs++ys) (us++ws):=by
 induction h with
 |nil=>exact s
 |cons r t a=>exact .cons r a
def Vals.take:∀{xs:Lx}{us:LB}(n:Nat),Vals xs us->Vals (xs.take n) (us.take n)
 |_,_,0,_=>.nil
 |_,_,_+1,.nil=>.nil
 |_,_,n+1,.cons r t=>.cons r (Vals.take n t)
def Vals.drop:∀{xs:Lx}{us:LB}(n:Nat),Vals xs us->Vals (xs.drop n) (us.drop n)
 |_,_,0,r=>r
 |_,_,_+1,.nil=>.nil
 |_,_,n+1,.cons _ t=>Vals.drop n t
def SK:L9->LH->Prop
 |some v,U u=>RelV v u
 |none,Ah=>True
 |_,_=>False
def KV{κ:Type}:List (κ×V)->List (κ×Ai)->Prop:=Paired λ(p:κ×V)(q:κ×Ai)=>p.1=q.1/\RelV p.2 q.2
def kV:Key->V
 |.inl i=>.int i
 |.inr x=>.str x
inductive HO where
 |lst (xs:Lx)
 |tup (xs:Lx)
 |dK (kvs:LA)|dT (kvs:L6)
 |set (S:Int->Bool) (n:Nat)
 |ins (C dx:Ag) (fs:LN)
 |own (x:Ag)
 |xd (fs:LN)
 |met (f x:Ag)
 |Adv (lo hi:Int)
 |Rg (o:CL) (u:HO)
 |RQ (ps:LS)
 |ext (φ:BO->Prop)
abbrev Hp:=Ag->Option HO
def upd(H:Hp)(a:Ag)(o:HO):Hp:=λb=>if b=a then U o else H b
def NQ:upd H a o a=U o:=by unfold upd;rw[AG Y]
def NN(h:b≠a):upd H a o b=H b:=by unfold upd;rw[Ay h]
def Agg{H:Hp}(h:H a=U o)(h':H b=U u)(d:o≠u):a≠b:=by intro e;subst e;rw[h]at h';exact d (AK h')
def NZ{H:Hp}(h:H a=U o)(h':H b=Ah):a≠b:=by intro e;subst e;rw[h]at h';cases h'
section
variable(P:Bn)(w:Bw)
def Oy(H:Hp)(h:BO)(a:Ag):HO->Prop
 |.lst xs=>xs.length<=sizeLine/\∃(its:LB)(n:Nat),Vals xs its/\h.get? a=U {cls:=.type "list",data:=.seq its.toArray n}
 |.tup xs=>xs.length<=sizeLine/\∃its:LB,Vals xs its/\HX h a its.toArray
 |.dK kvs=>kvs.length<=sizeLine/\(a==Cs)=An/\∃vs,KV kvs vs/\h.DictOf (Oj P w) a vs
 | .dT kvs=>kvs.length<=sizeLine/\(a==Cs)=An/\∃xs:LX,
   Paired (λ(p:LM×V)(q:LM×Ag×Ai)=>p.1=q.1/\H q.2.1=U (.tup<|p.1.map kV)/\RelV p.2 q.2.2) kvs xs /\
   ∃o es ep,h.get? a=U o/\o.ExactDict/\o.data=.dict es ep/\es.toList=xs.map (entryOfKey<|FW<|Oj P w)/\(xs.map (·.1)).Nodup
 |.set S n=>h.SetOf (intKind P w) a S n
 | .ins C dx fs=>H dx=U (.own a)/\fs.length<=1000/\dx≠a/\h.get? a=U (CH C dx) /\
   ∃mA,h.Ns1 dx mA/\(∀f,SK (fs.lookup f)<|mA f)/\FL mA (fs.map (·.1))
 |.own _=>∃o,h.get? a=U o
 |.xd fs=>∃mA,h.Ns1 a mA/\∀f,SK (fs.lookup f)<|mA f
 |.Adv lo hi=>∃t u v,h.get? a=U {cls:=.type "range",data:=.fields (zTo [.int lo t,.int hi u,.int 1 v])}
 |.Rg o u=>h.get? a=U o/\Oy H h a u
 |.RQ ps=>h.get? a=U {cls:=.none,data:=.fields ps}
 |.met f x=>h.get? a=U (Fy (.ref f)<|.ref x)
 |.ext φ=>φ h/\(∃o,h.get? a=U o)/\∀h1 h2:BO,φ h1->(∀o,h1.get? a=U o->h2.get? a=U o)->φ h2
def VZ(H:Hp)(h:BO):Prop:=∀a o,H a=U o->Oy P w H h a o
end
section
variable{P:Bn}{w:Bw}{H H':Hp}{h h':BO}{a:Ag}{o:HO}
def Oy.lt(x:Oy P w H h a o):a<h.objs.size:=by
 cases o with
 |lst c=>let(_,_,_,_,e):=x;exact AU e
 |tup c=>let(_,_,_,p):=x;exact p.lt
 |dK b=>let(_,_,_,_,o,_,_,e,_):=x;exact AU e
 |dT b=>let(_,_,_,_,o,_,_,e,_):=x;exact AU e
 |set S n=>let(o,_,_,_,e,_):=x;exact AU e
 |ins C i fs=>let(_,_,_,e,_):=x;exact AU e
 |own y=>let(_,e):=x;exact AU e
 |xd fs=>let(_,(_,_,_,e,_),_):=x;exact AU e
 |Adv j l=>let(_,_,_,e):=x;exact AU e
 |Rg g u=>let(e,_):=x;exact AU e
 |RQ d=>exact AU<|(x)
 |met f y=>exact AU<|(x)
 |ext φ=>let(_,(_,e),_):=x;exact AU e
def Paired.Ahs{α β:Type}{F G:α->β->Prop}{l₁:List α}{l₂:List β}(h:Paired F l₁ l₂)(f:∀a b,F a b->G a b):Paired G l₁ l₂:=by
 induction h with
 |nil=>exact .nil
 |cons r t c=>exact .cons (f _ _ r) c
def Paired.imp'(f:∀a b,F a b->G a b)(r:Paired F l₁ l₂):Paired G l₁ l₂:=Paired.Ahs r f
def Oy.bA(x:Oy P w H h a o)(k:∀b u,(b=a\/H b=U (.own a))->h.get? b=U u->h'.get? b=U u)(ho:∀b,H b=U (.own a)->H' b=U (.own a))(ht:∀b xs,H b=U (.tup xs)->H' b=U (.tup xs)):Oy P w H' h' a o:=by
 induction o with
 |lst xs=>let(z,l,n,r,e):=x;exact#[z,l,n,r,k _ _ (.inl Y) e]
 |tup xs=>let(z,l,r,g,e,c):=x;exact#[z,l,r,g,k _ _ (.inl Y) e,c]
 |dK m=>let(z,y,D,r,g,j,i,e,c):=x;exact#[z,y,D,r,g,j,i,k _ _ (.inl Y) e,c]
 |dT m=>let(z,y,xs,r,g,j,i,e,c):=x;exact#[z,y,xs,Paired.Ahs r λp q z=>#[z.1,ht _ _ z.2.1,z.2.2],g,j,i,k _ _ (.inl Y) e,c]
 |set S n=>let(g,j,i,t,e,c):=x;exact#[g,j,i,t,k _ _ (.inl Y) e,c]
 |ins C dx fs=>let(d,z,F,e,A,(s,j,i,G,c),r):=x;exact#[ho _ d,z,F,k _ _ (.inl Y) e,A,#[s,j,i,k _ _ (.inr d) G,c],r]
 |own y=>let(g,e):=x;exact#[g,k _ _ (.inl Y) e]
 |xd fs=>let(A,(s,j,i,e,c),r):=x;exact#[A,#[s,j,i,k _ _ (.inl Y) e,c],r]
 |Adv j0 I=>let(t,u,v,e):=x;exact#[t,u,v,k _ _ (.inl Y) e]
 |Rg g u E=>let(e,q):=x;exact#[k _ _ (.inl Y) e,E q]
 |RQ ps=>have e:h.get? a=U {cls:=.none,data:=.fields ps}:=x;show h'.get? a=U {cls:=.none,data:=.fields ps};exact k a _ (.inl Y) e
 |met f y=>have e:h.get? a=U (Fy (.ref f)<|.ref y):=x;show h'.get? a=U (Fy (.ref f)<|.ref y);exact k a _ (.inl Y) e
 |ext φ=>let(p,(o,e),B):=x;exact#[B _ _ p λo q=>k _ _ (.inl Y) q,#[o,k _ _ (.inl Y) e],B]
def VZ.lt(x:VZ P w H h)(e:H a=U o):a<h.objs.size:=(x a o e).lt
def VZ.fresh(x:VZ P w H h)(e:h.objs.size<=a):H a=Ah:=by
 cases q:H a with
 |none=>rfl
 |some u=>exact absurd (Bo (x.lt q) e) (CS _)
def VZ.kept(x:VZ P w H h)(k:∀b u,h.get? b=U u->h'.get? b=U u):VZ P w H h':=λa o e=>
 (x a o e).bA (λb u _ q=>k b u q) (λ_ q=>q) λ_ _ q=>q
def VZ.laid(x:VZ P w H h)(k:∀b u,h.get? b=U u->h'.get? b=U u)(hp:h.objs.size<=a)(new:Oy P w (upd H a o) h' a o):VZ P w (upd H a o) h':=λb u e=>by
 have d:=x.fresh hp;by_cases f:b=a
 ·subst f;rw[NQ]at e;cases e;exact new
 ·rw[NN f]at e;exact(x b u e).bA (λc v _ q=>k c v q) (λc q=>by rw[NN<|NZ q d];exact q) λc g q=>by rw[NN<|NZ q d];exact q
end
def Rd(H:Hp)(a:Ag)(u:HO):Prop:=H a=U u\/∃o,H a=U (.Rg o u)
def Rd.ok(r:Rd H a u)(x:VZ P w H h):Oy P w H h a u:=by
 rcases r with r|⟨o,r⟩
 ·exact x a u r
 ·let(_,q):=x a _ r;exact q
def Ai4:Option HO->Prop
 |some (.lst _)=>True
 |some (.dK _)=>True
 |some (.dT _)=>True
 |some (.set _ _)=>True
 |some (.ins _ _ _)=>True
 |some (.ext _)=>True
 |_=>False
section
variable{P:Bn}{w:Bw}{H:Hp}{h h':BO}{x e:Ag}{o':HO}
def VZ.write(ok:VZ P w H h)(mu:Ai4 (H x))(he:e=x\/H e=U (.own x))(k:∀b u,b≠e->h.get? b=U u->h'.get? b=U u)(heo:∃u,h'.get? e=U u)(new:Oy P w (upd H x o') h' x o'):VZ P w (upd H x o') h':=λb u q=>by
 have d:∀c y,H c=U (.own y)->c≠x:=λc y r z=>by subst z;rw[r]at mu;exact mu
 have f:∀c g,H c=U (.tup g)->c≠x:=λc g r z=>by subst z;rw[r]at mu;exact mu
 by_cases i:b=x
 ·subst i;rw[NQ]at q;cases q;exact new
 ·rw[NN i]at q;by_cases a:b=e
  ·have l:H b=U (.own x):=by
    rcases he with z|z
    ·exact absurd (a.trans z) i
    ·rw[a];exact z
   rw[q]at l;cases l;let(v,m):=heo;exact#[v,by rw[a];exact m]
  ·refine (ok b u q).bA (λc v j r=>k c v ?_ r) (λc r=>by rw[NN<|d c b r];exact r) λc g r=>by rw[NN<|f c g r];exact r
   rcases j with rfl|j
   ·exact a
   ·rintro rfl;rcases he with z|z
    ·exact d c b j z
    ·rw[j]at z;cases z;exact i Y
end
structure Un(fs ex:Lv)(H H':Hp)(h h':BO):Prop where
 keep:∀b o,h.get? b=U o->H b=Ah->b∉fs->b∉ex->h'.get? b=U o
 slot:∀b o,h.get? b=U o->H b=Ah->b∈fs->b∉ex->∃sl,h'.get? b=U {o with slots:=sl}
 free:∀b o,h.get? b=U o->H b=Ah->b∉ex->H' b=Ah
 there:∀b o,h.get? b=U o->b∉ex->∃o',h'.get? b=U o'
 Ul:∀b xs,H b=U (.tup xs)->H' b=U (.tup xs)
 VE:∀b o u,H b=U (.Rg o u)->H' b=U (.Rg o u)
 WU:∀b ps,H b=U (.RQ ps)->∃more,H' b=U (.RQ<|ps++more)
section
variable{fs ex:Lv}{H H1:Hp}{h h1 h':BO}{a x e:Ag}{o:HO}
def Un.any(u:Un fs ex H H1 h h1)(q:h.get? b=U ob)(n:H b=Ah)(hx:b∉ex):∃sl,h1.get? b=U {ob with slots:=sl}:=by
 by_cases a:b∈fs
 ·exact u.slot b ob q n a hx
 ·exact#[ob.slots,u.keep b ob q n a hx]
def Un.kept(k:∀b u,h.get? b=U u->h'.get? b=U u):Un fs ex H H h h':=#[λb a q _ _ _=>k b a q,λb a q _ _ _=>#[a.slots,k b a q],λ_ _ _ n _=>n,λb a q _=>#[a,k b a q],λ_ _ q=>q,λ_ _ _ q=>q,λ_ c q=>#[#[],by rw[q];simp]]
def Un.refl:Un fs ex H H h h:=Un.kept λ_ _ q=>q
def Un.laid(k:∀b u,h.get? b=U u->h'.get? b=U u)(hp:h.objs.size<=a)(hn:H a=Ah):Un fs ex H (upd H a o) h h' where
 keep:=λb u q _ _ _=>k b u q
 slot:=λb u q _ _ _=>#[u.slots,k b u q]
 free:=λb u q n _=>by rw[NN<|Bg<|Bo (AU q) hp];exact n
 there:=λb u q _=>#[u,k b u q]
 Ul:=λb c q=>by rw[NN<|NZ q hn];exact q
 VE:=λb u c q=>by rw[NN<|NZ q hn];exact q
 WU:=λb d q=>#[#[],by rw[NN<|NZ q hn,q];simp]
def Un.write(mu:Ai4 (H x))(he:e=x\/H e=U (.own x))(k:∀b u,b≠e->h.get? b=U u->h'.get? b=U u)(heo:∃u,h'.get? e=U u):Un fs ex H (upd H x o) h h':=by
 have f:∀b,H b=Ah->b≠x:=λb n z=>by subst z;rw[n]at mu;exact mu
 have d:∀b,H b=Ah->b≠e:=λb n z=>by
  subst z;rcases he with r|r
  ·exact f b n r
  ·rw[n]at r;cases r
 have c:∀b u,H b=U u->¬ Ai4 (U u)->b≠x:=λb u q g z=>by subst z;rw[q]at mu;exact g mu
 refine#[λb u q n _ _=>k b u (d b n) q,λb u q n _ _=>#[u.slots,k b u (d b n) q],λb u q n _=>by rw[NN<|f b n];exact n,λb u q _=>?_,
  λb i q=>by rw[NN<|c b _ q λz=>z];exact q,λb u i q=>by rw[NN<|c b _ q λz=>z];exact q,λb j q=>#[#[],by rw[NN<|c b _ q λz=>z,q];simp]]
 by_cases a:b=e
 ·subst a;exact heo
 ·exact#[u,k b u a q]
end
def AnH(h:BO)(H:Hp):Lv:=(Ba h.objs.size).filter λa=>(H a).isSome
def rA(h:BO)(H:Hp):BO:=PySem.W.hideAll h (AnH h H)
def xH(h:BO)(H:Hp):(rA h H).objs.size=h.objs.size:=PySem.W.hideAll_size _ _
def ZN(e:h.get? b=U o)(n:H b=Ah):(rA h H).get? b=U o:=PySem.W.hideAll_get _ e λa=>by
  have q:=(Bl.mp a).2;rw[n]at q;simp at q
def AeE(e:(rA h H).get? b=U o):h.get? b=U o/\H b=Ah:=by
 have a:=PySem.W.of_hideAll _ e;refine#[a,?_];cases q:H b with
 |none=>rfl
 |some x=>have c:b∈AnH h H:=Bl.mpr #[B6.mpr<|AU a,by simp[q]];have z:(rA h H).get? b=Ah:=PySem.W.hideAll_none _ c;rw[z]at e;cases e
def AdB(g h:BO)(L:Ag):Ly:=(Ba h.objs.size).filterMap λa=>if a=L\/(g.get? a).isSome=Af then Ah else(h.get? a).map λo=>(a,o)
def rest(g h:BO)(L d:Ag):Ly:=(AdB g h L).filter λp=>decide (p.1≠d)
structure Mod(K:Ab)(mg:AA->LH)(base:BO):Prop where
 Aj2:K.In base
 glob:base.Ns AJ mg
 blt:∃mb,base.Ns Fo mb/\∀x:AA,x≠"__name__"->mb x=BD x
 nolimit:base.NoLimit
structure Cx where
 prog:Bn
 w:Bw
 K:Ab
 mg:AA->LH
 base:BO
 A:BQ
 N:Lw
 Qo:Au
 NR:Hp
 env:Hu
 outer:LU
 stack:LU
 ex:Lv
 fn:AA->Bool
 calm:Bool
 pn:Ly
 xe:Ai->Au->Prop
class N3(X:Cx)(K:outParam Ab)(H:outParam Hp):Prop where
 k:X.K=K
 h:X.NR=H
instance (priority:=low) {X:Cx}:N3 X X.K X.NR:=#[Y,Y]
def Aag(l:LU):Lv:=l.filterMap (·.frame)
abbrev Cx.fs(X:Cx):Lv:=Aag X.outer
def Ai7(sc:Scope)(x:AA):Prop:=sc.names.lookup x=U .local\/sc.names.lookup x=U .cell\/sc.names.lookup x=U .free
def Loc(sc:Scope)(x:AA):Prop:=sc.names.lookup x=U .local\/sc.names.lookup x=U .cell
def Look(env:Hu)(h:BO)(m:AA->LH)(x:AA)(u:Ai):Prop:=(env.kindOf x=U .local/\m x=U u)\/((env.kindOf x=U .cell\/env.kindOf x=U .free)/\∃c,env.cells.lookup x=U c/\h.IsCell c (U u))
structure Cx.Ok(X:Cx):Prop where
 mod:Mod X.K X.mg X.base
 kind:X.env.scope.kind=.function
 glob:X.env.globals=AJ
 blt:X.env.builtins=Fo
 above:X.Qo.heap.objs.size<=X.env.locals
 inj:∀x y c,X.env.cells.lookup x=U c->X.env.cells.lookup y=U c->x=y
 has:∀x,(X.env.kindOf x=U .cell\/X.env.kindOf x=U .free)->∃c,X.env.cells.lookup x=U c
 Ajd:∀x c,X.fn x=Af->X.env.cells.lookup x=U c->X.Qo.heap.objs.size<=c
 hd:X.calm=Af->X.A.handled=Ah
 frames:X.A.frames=U X.stack
 Alr:X.stack=X.outer\/(X.stack=X.env::X.outer/\X.env.frame=U X.env.locals)
 Al1:∀b∈X.ex,b≠X.env.locals/\∀x c,X.env.cells.lookup x=U c->c≠b
 bs:∀b o,X.base.get? b=U o->X.Qo.heap.get? b=U o/\X.NR b=Ah
 Aat:X.base.objs.size<=X.Qo.heap.objs.size
 AbG:∀b o,X.base.get? b=U o->b∉X.ex
 AaO:∀b∈X.ex,b∉X.fs
 Xl:X.Qo.heap.FunFrames X.base X.outer
 AfZ:∀b∈X.fs,X.NR b=Ah
structure Inv(X:Cx)(pins:Ly)(J:Mm)(H:Hp)(s:Au):Prop where
 ok:X.Ok
 os:s.os=X.Qo.os
 bare:Fs s.gens
 base:Un X.fs X.ex X.NR H X.Qo.heap s.heap
 loc:∃m,s.heap.Ns X.env.locals m/\∀(i:Nat)(x:AA)(v:V),X.N[i]?=U x->J[i]?=U (U v)->Ai7 X.env.scope x->∃u,RelV v u/\Look X.env s.heap m x u
 cell:∀x c,X.env.cells.lookup x=U c->∃v,s.heap.IsCell c v
 free:H X.env.locals=Ah
 QL:∀x c,X.env.cells.lookup x=U c->H c=Ah
 pin:∀p∈X.pn++pins,s.heap.get? p.1=U p.2/\H p.1=Ah/\p.1≠X.env.locals/\p.1∉X.fs/\∀v,p.2.data≠.cell v
 N5:VZ X.prog X.w H s.heap
 len:J.length=X.N.length
section
variable{X:Cx}{pins:Ly}{J:Mm}{H H':Hp}{s:Au}{h':BO}
def Cx.Ok.AmL(ok:X.Ok)(e:X.base.get? b=U o):b∉X.fs:=λa=>by
 have:=(ok.Xl.mem a).1;rw[e]at this;cases this
def Inv.bs(I:Inv X pins J H s):∀b o,X.base.get? b=U o->s.heap.get? b=U o/\H b=Ah:=λb o e=>
 #[I.base.keep b o (I.ok.bs b o e).1 (I.ok.bs b o e).2 (I.ok.AmL e) (I.ok.AbG b o e),I.base.free b o (I.ok.bs b o e).1 (I.ok.bs b o e).2 (I.ok.AbG b o e)]
def Inv.bk(I:Inv X pins J H s):∀b o,X.base.get? b=U o->s.heap.get? b=U o:=λb o e=>(I.bs b o e).1
def Inv.mod(I:Inv X pins J H s):Mod X.K X.mg X.base:=I.ok.mod
def Inv.X2(I:Inv X pins J H s):X.K.In s.heap:=I.ok.mod.Aj2.keeps I.bk
def Inv.lt(I:Inv X pins J H s):X.env.locals<s.heap.objs.size:=let#[_,hn,_]:=I.loc;hn.lt
def Inv.sz(I:Inv X pins J H s):X.Qo.heap.objs.size<=s.heap.objs.size:=AS I.ok.above (C6 I.lt)
def Inv.AmM(I:Inv X pins J H s)(h:s.heap.objs.size<=a):a∉X.fs:=λc=>by
 let(_,o,b,_):=I.ok.Xl.mem c;exact absurd (Bo (AU b)<|AS I.sz h) (CS _)
def Inv.AgG(I:Inv X pins J H s):∀x c,X.env.cells.lookup x=U c->c≠X.env.locals:=λx c e z=>by
 let(v,o,f,d):=I.cell x c e;let(m,(i,h,g,b,a,_),_):=I.loc;rw[z,b]at f;cases f;rw[a]at d;cases d
def Inv.Xl(I:Inv X pins J H s):s.heap.FunFrames X.base X.outer:=by
 have all:∀(l:LU),(∀b∈Aag l,b∈X.fs)->X.Qo.heap.FunFrames X.base l->s.heap.FunFrames X.base l:=by
  intro l;induction l with
  |nil=>intro _ _;trivial
  |cons env r ih=>
    intro f j;let(h,(L,o,a,n,i,g),m):=j;have d:=f L (by unfold Aag;rw[Dv,a];exact AX);let(p,e):=I.base.slot L o i (I.ok.AfZ L d) d λz=>I.ok.AaO L z d
    exact#[h,#[L,_,a,n,e,g],ih (λb c=>f b (by unfold Aag;rw[Dv,a];exact AD _ c)) m]
 exact all _ (λ_ c=>c) I.ok.Xl
def Inv.stack(I:Inv X pins J H s):s.heap.FunFrames X.base X.stack:=by
 rcases I.ok.Alr with e|⟨e,a⟩
 ·rw[e];exact I.Xl
 ·rw[e];let(m,b,_):=I.loc;refine .cons (by rw[I.ok.kind];decide) a b ?_ I.Xl;exact Di (AS I.ok.Aat I.ok.above)
def Inv.tE(I:Inv X pins J H s):∀b∈Aag X.stack,b∈X.env.locals::X.fs:=λb a=>by
 rcases I.ok.Alr with e|⟨e,c⟩
 ·rw[e]at a;exact AD _ a
 ·rw[e]at a;unfold Aag at a;rw[Dv,c]at a;exact a
def Inv.lA(I:Inv X pins J H s):∀b∈Aag X.stack,H b=Ah:=λb a=>by
 rcases AB.mp (I.tE b a)with e|a
 ·rw[e];exact I.free
 ·let(_,o,c,_):=I.ok.Xl.mem a;exact I.base.free b o c (I.ok.AfZ b a) λz=>I.ok.AaO b z a
def Inv.step{g':Array KP}{t':Nat}{d':Drawn}{ch:Lv}(I:Inv X pins J H s)(hch:∀b∈ch,(b∈X.ex\/X.Qo.heap.objs.size<=b)/\b≠X.env.locals/\(∀x c,X.env.cells.lookup x=U c->c≠b)/\∀p∈X.pn++pins,p.1≠b)(keep:∀b o,b≠X.env.locals->b∉X.fs->b∉ch->s.heap.get? b=U o->H b=Ah->h'.get? b=U o)(slot:∀b o,b≠X.env.locals->b∈X.fs->b∉ch->s.heap.get? b=U o->H b=Ah->∃sl,h'.get? b=U {o with slots:=sl})(free:∀b o,b∉ch->s.heap.get? b=U o->H b=Ah->H' b=Ah)(there:∀b o,b∉ch->s.heap.get? b=U o->∃o',h'.get? b=U o')(Ul:∀b xs,H b=U (.tup xs)->H' b=U (.tup xs))(VE:∀b o u,H b=U (.Rg o u)->H' b=U (.Rg o u))(WU:∀b ps,H b=U (.RQ ps)->∃more,H' b=U (.RQ<|ps++more))(ns:∀m,s.heap.Ns X.env.locals m->h'.Ns X.env.locals m)(N5:VZ X.prog X.w H' h')(hg:Fs g'):Inv X pins J H' {s with heap:=h',gens:=g',drawn:=d',toks:=t'}:=by
 have B:∀b o,X.Qo.heap.get? b=U o->b≠X.env.locals:=λb o e=>Bg<|Bo (AU e) I.ok.above
 have j:∀b o,X.Qo.heap.get? b=U o->b∉X.ex->b∉ch:=λb o e a y=>by
  rcases(hch b y).1 with z|z
  ·exact a z
  ·exact absurd (Bo (AU e) z)<|CS _
 have f:∀x c,X.env.cells.lookup x=U c->∀v,s.heap.IsCell c v->h'.IsCell c v:=λx c e v⟨o,A,D⟩=>by
  have g:c∉ch:=λz=>(hch c z).2.2.1 x c e Y
  by_cases j0:c∈X.fs
  ·let(sl,q):=slot c o (I.AgG x c e) j0 g A (I.QL x c e);exact#[_,q,D]
  ·exact#[o,keep c o (I.AgG x c e) j0 g A<|I.QL x c e,D]
 refine#[I.ok,I.os,hg,#[λb o e n y a=>?_,λb o e n y a=>?_,λb o e n a=>?_,λb o e a=>?_,λb xs e=>Ul b xs<|I.base.Ul b xs e,λb o xs e=>VE b o xs<|I.base.VE b o xs e,λb ps e=>?_],?_,λx c e=>?_,?_,λx c e=>?_,λp G=>?_,N5,I.len]
 ·exact keep b o (B b o e) y (j b o e a) (I.base.keep b o e n y a)<|I.base.free b o e n a
 ·let(sl,h):=I.base.slot b o e n y a;let(E,C):=slot b _ (B b o e) y (j b o e a) h<|I.base.free b o e n a;exact#[E,C]
 ·let(o',h):=I.base.there b o e a;exact free b o' (j b o e a) h<|I.base.free b o e n a
 ·let(o',h):=I.base.there b o e a;exact there b o' (j b o e a) h
 ·let(N,h):=I.base.WU b ps e;let(L,C):=WU b _ h;exact#[N++L,by rw[C,IF]]
 ·let(m,O,M):=I.loc;refine#[m,ns m O,λi x v h C P=>?_];let(u,r,l):=M i x v h C P;refine#[u,r,?_];rcases l with l|⟨k,c,e,z⟩
  ·exact .inl l
  ·exact .inr #[k,c,e,f x c e _ z]
 ·let(v,z):=I.cell x c e;exact#[v,f x c e v z]
 ·let(m,(o,_,_,A,_),_):=I.loc;exact free _ o (λz=>(hch _ z).2.1 Y) A I.free
 ·let(v,o,A,D):=I.cell x c e;exact free c o (λz=>(hch c z).2.2.1 x c e Y) A<|I.QL x c e
 ·let(e,n,F,K,d):=I.pin p G;have g:p.1∉ch:=λz=>(hch p.1 z).2.2.2 p G Y
  exact#[keep p.1 p.2 F K g e n,free p.1 p.2 g e n,F,K,d]
def Inv.un{t':Nat}(I:Inv X pins J H s)(u:Un X.fs [] H H' s.heap h')(N5:VZ X.prog X.w H' h'):Inv X pins J H' {s with heap:=h',toks:=t'}:=by
 let(m,(o,q,l,g,r),_):=id I.loc;let(p,j):=u.any g I.free M8;exact I.step (g':=s.gens) (d':=s.drawn) (ch:=[]) (λ_ z=>nomatch z) (λb o _ d _ e n=>u.keep b o e n d M8) (λb o _ d _ e n=>u.slot b o e n d M8) (λb o _ e n=>u.free b o e n M8) (λb o _ e=>u.there b o e M8) u.Ul u.VE u.WU (λx h=>by
  let(v,f,c,a,i):=h;rw[g]at a;cases a;exact#[_,f,c,j,i]) N5 I.bare
def Inv.call{g':Array KP}{t':Nat}{d':Drawn}{ch:Lv}(I:Inv X pins J H s)(u:Un (Aag X.stack) ch H H' s.heap h')(N5:VZ X.prog X.w H' h')(hg:Fs g')(hch:∀b∈ch,(b∈X.ex\/X.Qo.heap.objs.size<=b)/\b≠X.env.locals/\(∀x c,X.env.cells.lookup x=U c->c≠b)/\∀p∈X.pn++pins,p.1≠b):Inv X pins J H' {s with heap:=h',gens:=g',drawn:=d',toks:=t'}:=by
 let(m,(o,A,v,i,r),_):=id I.loc;let(y,g):=u.any i I.free λz=>(hch _ z).2.1 Y
 exact I.step (ch:=ch) hch (λb o g q a e n=>u.keep b o e n (λz=>(AB.mp<|I.tE b z).elim g q) a) (λb o _ _ a e n=>u.any e n a) (λb o a e n=>u.free b o e n a) (λb o a e=>u.there b o e a) u.Ul u.VE u.WU (λC j=>by
  let(B,h,f,d,l):=j;rw[i]at d;cases d;exact#[_,h,f,g,l]) N5 hg
def Inv.turned{t':Nat}(I:Inv X pins J H s)(k:∀b o,b≠it->s.heap.get? b=U o->h'.get? b=U o)(hn:H it=Ah)(hL:it≠X.env.locals)(h1:it∈X.ex\/X.Qo.heap.objs.size<=it)(h2:∀x c,X.env.cells.lookup x=U c->c≠it)(h3:∀p∈X.pn++pins,p.1≠it):Inv X pins J H {s with heap:=h',toks:=t'}:=by
 have d:∀b u,H b=U u->b≠it:=λb u e z=>by rw[z,hn]at e;cases e
 refine I.step (g':=s.gens) (d':=s.drawn) (ch:=[it]) (λb j=>?_) (λb o _ _ a e _=>k b o (λz=>a<|by simp[z]) e) (λb o _ _ a e _=>#[o.slots,k b o (λz=>a<|by simp[z]) e]) (λ_ _ _ _ n=>n)
  (λb o a e=>#[o,k b o (λz=>a<|by simp[z]) e]) (λ_ _ e=>e) (λ_ _ _ e=>e) (λb l e=>#[#[],by rw[e];simp]) (λm f=>?_) (λb u e=>?_) I.bare
 ·have e:b=it:=by simpa using j
  subst e;exact#[h1,hL,h2,h3]
 ·let(o,i,g,h,r):=f;exact#[o,i,g,k _ o (Ax hL) h,r]
 ·refine(I.N5 b u e).bA (λc v a q=>k c v ?_ q) (λ_ q=>q) λ_ _ q=>q
  rcases a with z|z
  ·rw[z];exact d b u e
  ·exact d c _ z
def Inv.tok(I:Inv X pins J H s)(t:Nat):Inv X pins J H {s with toks:=t}:=I.un Un.refl I.N5
def Inv.kept(I:Inv X pins J H s)(k:∀b u,s.heap.get? b=U u->h'.get? b=U u):Inv X pins J H {s with heap:=h',toks:=t'}:=I.un (Un.kept k) (I.N5.kept k)
def Inv.laid(I:Inv X pins J H s)(k:∀b u,s.heap.get? b=U u->h'.get? b=U u)(hp:s.heap.objs.size<=a)(new:Oy X.prog X.w (upd H a o) h' a o):Inv X pins J (upd H a o) {s with heap:=h',toks:=t'}:=I.un (Un.laid k hp<|I.N5.fresh hp) (I.N5.laid k hp new)
def Inv.write(I:Inv X pins J H s)(mu:Ai4 (H x))(he:e=x\/H e=U (.own x))(k:∀b u,b≠e->s.heap.get? b=U u->h'.get? b=U u)(heo:∃u,h'.get? e=U u)(new:Oy X.prog X.w (upd H x o) h' x o):Inv X pins J (upd H x o) {s with heap:=h',toks:=t'}:=I.un (Un.write mu he k heo) (I.N5.write mu he k heo new)
def Inv.weak(I:Inv X pins J H s)(hl:σ'.length=J.length)(w:∀(i:Nat)v,σ'[i]?=U (U v)->J[i]?=U (U v)):Inv X pins σ' H s:=#[I.ok,I.os,I.bare,I.base,let#[m,hn,hl']:=I.loc;#[m,hn,λi x v c b a=>hl' i x v c (w i v b) a],I.cell,I.free,I.QL,I.pin,I.N5,hl.trans I.len]
def Inv.uY(I:Inv X pins J H s)(h:∀p∈pins',s.heap.get? p.1=U p.2/\H p.1=Ah/\p.1≠X.env.locals/\p.1∉X.fs/\∀v,p.2.data≠.cell v):Inv X pins' J H s:=#[I.ok,I.os,I.bare,I.base,I.loc,I.cell,I.free,I.QL,λp a=>(Bd.mp a).elim (λz=>I.pin p<|Fj _ z) (h p),I.N5,I.len]
def oA{N:Lw}(hN:N.Nodup){i j:Nat}{x:AA}(a:N[i]?=U x)(b:N[j]?=U x):i=j:=by let(e,d):=Av.mp a;let(f,c):=Av.mp b;exact(EJ hN).mp (d.trans c.symm)
def gQ{M:Model}{A:BQ}{E:Ai->Au->Prop}{i:Nat}{x:AA}{v:V}{u:Ai}{Q:Unit->Au->Prop}(I:Inv X pins J H s)(hN:X.N.Nodup)(hi:X.N[i]?=U x)(hx:Loc X.env.scope x)(r:RelV v u)(h:∀s',Inv X pins (J.set i<|U v) H s'->(∃a,CP a s.heap s'.heap/\(a=X.env.locals\/X.env.cells.lookup x=U a))->Q () s')(hf:X.fn x=Af\/X.env.scope.names.lookup x=U .local:=by first|exact .inl rfl|exact .inr rfl|assumption):AW M A (storeName X.env x u) Q E s:=by
 let(m,hn,hl):=id I.loc;have u3:(X.env.scope.kind==.class||(X.env.scope.kind==.module&&X.env.locals != X.env.globals))=An:=by rw[I.ok.kind];rfl
 have T:i<J.length:=by rw[I.len];exact(Av.mp hi).1
 have AgG:=I.AgG;have g:∀{a:Ag}{L:BO},(∃o,s.heap.get? a=U o/\H a=Ah)->CP a s.heap L->VZ X.prog X.w H L:=λ{a L}ha f b ob e=>by
  let(_,_,C):=ha;refine(I.N5 b ob e).bA (λc W B q=>(f.2 c ?_).trans q) (λ_ q=>q) λ_ _ q=>q
  rintro rfl;rcases B with rfl|B
  ·rw[C]at e;cases e
  ·rw[C]at B;cases B
 rcases hx with F|F
 ·refine wpAny_storeName_local F hn (λL aa f=>?_) u3;let(oL,_,_,ab,_):=id hn;refine h _ #[I.ok,I.os,I.bare,#[λb o e n G hx=>?_,λb o e n G hx=>?_,I.base.free,λb o e hx=>?_,I.base.Ul,I.base.VE,I.base.WU],#[_,aa,λj y v' l D e3=>?_],λy c e=>?_,I.free,I.QL,λp hp=>?_,g #[oL,ab,I.free] f,by simpa using I.len] #[_,f,.inl Y]
  ·exact(f.2 b<|Bg<|Bo (AU e) I.ok.above).trans (I.base.keep b o e n G hx)
  ·let(sl,l):=I.base.slot b o e n G hx;exact#[sl,(f.2 b<|Bg<|Bo (AU e) I.ok.above).trans l]
  ·let(o',l):=I.base.there b o e hx;exact#[o',(f.2 b<|Bg<|Bo (AU e) I.ok.above).trans l]
  ·by_cases j0:j=i
   ·subst j0;rw[hi]at l;cases l;rw[BU T]at D;cases D;exact#[u,r,.inl #[F,M8]]
   ·rw[Cn<|Ax j0]at D;let(u',r',q):=hl j y v' l D e3;refine#[u',r',?_];rcases q with⟨k,e⟩|⟨k,c,e,z⟩
    ·refine .inl #[k,?_];have:y≠x:=λe=>j0<|oA hN l<|e▸hi
     simp[this,e]
    ·exact .inr #[k,c,e,z.sameBut f<|AgG y c e]
  ·let(W,z):=I.cell y c e;exact#[W,z.sameBut f<|AgG y c e]
  ·let(e,n,Z,nf,d):=I.pin p hp;exact#[(f.2 p.1 Z).trans e,n,Z,nf,d]
 ·have K:X.fn x=Af:=by
   rcases hf with z|z
   ·exact z
   ·rw[z]at F;cases F
  let(c,B):=I.ok.has x<|.inl F;let(W,z):=I.cell x c B;refine wpAny_storeName_cell I.ok.kind F B z (λL S f=>?_);let(oc,O,P):=id z;refine h {s with heap:=L} #[I.ok,I.os,I.bare,#[λb o e n G hx=>?_,λb o e n G hx=>?_,I.base.free,λb o e hx=>?_,I.base.Ul,I.base.VE,I.base.WU],#[m,hn.sameBut f<|Ax<|AgG x c B,λj y v' l D e3=>?_],λy y0 e=>?_,I.free,I.QL,λp hp=>?_,g #[oc,O,I.QL x c B] f,by simpa using I.len] #[c,f,.inr B]
  ·exact(f.2 b<|Bg<|Bo (AU e)<|I.ok.Ajd x c K B).trans (I.base.keep b o e n G hx)
  ·let(sl,l):=I.base.slot b o e n G hx;exact#[sl,(f.2 b<|Bg<|Bo (AU e)<|I.ok.Ajd x c K B).trans l]
  ·let(o',l):=I.base.there b o e hx;exact#[o',(f.2 b<|Bg<|Bo (AU e)<|I.ok.Ajd x c K B).trans l]
  ·by_cases j0:j=i
   ·subst j0;rw[hi]at l;cases l;rw[BU T]at D;cases D;exact#[u,r,.inr #[.inl F,c,B,S]]
   ·rw[Cn<|Ax j0]at D;let(u',r',q):=hl j y v' l D e3;refine#[u',r',?_];rcases q with q|⟨k,y0,e,z'⟩
    ·exact .inl q
    ·refine .inr #[k,y0,e,z'.sameBut f ?_];rintro rfl;exact j0<|oA hN l<|I.ok.inj _ _ _ e B▸hi
  ·by_cases R:y0=c
   ·subst R;exact#[_,S]
   ·let(w2,z2):=I.cell y y0 e;exact#[w2,z2.sameBut f R]
  ·let(e,n,Z,nf,d):=I.pin p hp;refine#[(f.2 p.1 ?_).trans e,n,Z,nf,d];intro q;rw[q,O]at e;have q':oc=p.2:=AK e;exact d W (by rw[<-q'];exact P)
def pR(I:Inv X pins J H s)(hN:X.N.Nodup)(hi:X.N[i]?=U x)(hx:Loc X.env.scope x)(r:RelV v u)(h:∀s',Inv X pins (J.set i<|U v) H s'->Q () s')(hf:X.fn x=Af\/X.env.scope.names.lookup x=U .local:=by first|exact .inl rfl|exact .inr rfl|assumption):AW M A (storeName X.env x u) Q E s:=gQ I hN hi hx r (λs' a _=>h s' a) hf
def Inv.AfO(I:Inv X pins J H s)(ho:s'.os=s.os)(u:Un (Aag X.stack) ch H H' s.heap s'.heap)(N5:VZ X.prog X.w H' s'.heap)(hg:Fs s'.gens)(hch:∀b∈ch,(b∈X.ex\/X.Qo.heap.objs.size<=b)/\b≠X.env.locals/\(∀x c,X.env.cells.lookup x=U c->c≠b)/\∀p∈X.pn++pins,p.1≠b):Inv X pins J H' s':=by let(d,g',d',t',a):=s';have e:a=s.os:=ho;subst e;exact I.call (g':=g') (t':=t') (d':=d') u N5 hg hch
end
abbrev XK:=Ai->LO->Hp->Prop
abbrev St:=Mm
abbrev VK:=V->Hp->Prop
abbrev TE:=St->Hp->VK->Prop
abbrev Mr:=List (TE×TE)
abbrev TT:=St->Hp->(Bool->Hp->Prop)->Prop
abbrev TA:=St->Hp->(Lx->Hp->Prop)->Prop
structure Ends where
 nx:St->Hp->Prop
 rt:VK
 bk:St->Hp->Prop:=λ_ _=>False
 ct:St->Hp->Prop:=λ_ _=>False
abbrev TS:=Ends->St->Hp->Prop
def EP(X:Cx)(pins:Ly)(J:St)(Q:VK)(u:Ai)(s':Au):Prop:=∃v H',Inv X pins J H' s'/\RelV v u/\Q v H'
def TP(X:Cx)(pins:Ly)(J:St)(Q:Bool->Hp->Prop)(b:Bool)(s':Au):Prop:=∃H',Inv X pins J H' s'/\Q b H'
def AP(X:Cx)(pins:Ly)(J:St)(Q:Lx->Hp->Prop)(us:LB)(s':Au):Prop:=∃vs H',Inv X pins J H' s'/\Vals vs us/\Q vs H'
def SP(X:Cx)(pins:Ly)(D:Ends)(f:Flow)(s':Au):Prop:=
 match f with
 |.next=>∃σ' H',Inv X pins σ' H' s'/\D.nx σ' H'
 |.brk=>∃σ' H',Inv X pins σ' H' s'/\D.bk σ' H'
 |.cont=>∃σ' H',Inv X pins σ' H' s'/\D.ct σ' H'
 |.ret u=>∃v σ' H',Inv X pins σ' H' s'/\RelV v u/\D.rt v H'
def PE(X:Cx)(e:Expr)(t:TE):Prop:=∀(pins:Ly)(s:Au)(J:St)(H:Hp)(Q:VK),Inv X pins J H s->t J H Q->AW (A9 X.prog X.w) X.A (eval e X.env) (EP X pins J Q) X.xe s
def PT(X:Cx)(e:Expr)(t:TT):Prop:=∀(pins:Ly)(s:Au)(J:St)(H:Hp)(Q:Bool->Hp->Prop),Inv X pins J H s->t J H Q->AW (A9 X.prog X.w) X.A (isTrue e X.env<|eval e X.env) (TP X pins J Q) X.xe s
def PW(X:Cx)(e:Expr)(t:TT):Prop:=∀(whole:IK Ai)(pins:Ly)(s:Au)(J:St)(H:Hp)(Q:Bool->Hp->Prop),Inv X pins J H s->t J H Q->AW (A9 X.prog X.w) X.A (isTrue e X.env whole) (TP X pins J Q) X.xe s
def PW.pt{t:TT}(h:PW X e t):PT X e t:=h _
def PA(X:Cx)(es:LJ)(t:TA):Prop:=∀(pos:CU)(pins:Ly)(s:Au)(J:St)(H:Hp)(Q:Lx->Hp->Prop),Inv X pins J H s->t J H Q->AW (A9 X.prog X.w) X.A (spliced<|Ca pos<|AL es X.env) (AP X pins J Q) X.xe s
def PS(X:Cx)(st:Bm)(t:TS):Prop:=∀(pins:Ly)(s:Au)(J:St)(H:Hp)(D:Ends),Inv X pins J H s->t D J H->AW (A9 X.prog X.w) X.A (exec st X.env) (SP X pins D) X.xe s
def Q6(X:Cx)(st:LY)(t:TS):Prop:=∀(pins:Ly)(s:Au)(J:St)(H:Hp)(D:Ends),Inv X pins J H s->t D J H->AW (A9 X.prog X.w) X.A (execs st X.env) (SP X pins D) X.xe s
def OG{t:IK α}(h:AW M A t Q E s)(hQ:∀a s,Q a s->Q' a s):AW M A t Q' E s:=B1 h hQ λ_ _ x=>x
section
variable{X:Cx}
abbrev Ahw:St->Nat->L9
 |[],_=>Ah
 |a::_,0=>a
 |_::t,n+1=>Ahw t n
abbrev Aio:St->Nat->V->St
 |[],_,_=>[]
 |_::t,0,v=>U v::t
 |a::t,n+1,v=>a::Aio t n v
def oJ{v:V}:∀{J:St}{i:Nat},Ahw J i=U v->J[i]?=U (U v)
 |_::_,0,h=>congrArg U h
 |_::t,_+1,h=>oJ (J:=t) h
def aZ{v:V}:∀{J:St}{i:Nat},Aio J i v=J.set i (U v)
 |[],_=>rfl
 |_::_,0=>rfl
 |_::t,_+1=>congrArg _ (aZ (J:=t))
abbrev QT(c:Bool)(A B:Prop):Prop:=match c with
 |true=>A
 |false=>B
abbrev vQ(o:L9)(Q:VK)(H:Hp):Prop:=match o with
 |some v=>Q v H
 |none=>False
abbrev nK(Q:Bool->Hp->Prop):VK:=λx H=>match x with
 |.bl c=>Q c H
 |_=>False
def VU(h:nK Q x H):∃c,x=.bl c/\Q c H:=by
 cases x with
 |bl c=>exact#[c,Y,h]
 |_=>exact h.elim
abbrev Ac2(i:Nat):TE:=λJ H Q=>vQ (Ahw J i) Q H
def Aiz(h:Ac2 i J H Q):∃v,J[i]?=U (U v)/\Q v H:=by
 change vQ _ Q H at h;cases e:Ahw J i with
 |none=>rw[e]at h;exact h.elim
 |some v=>rw[e]at h;exact#[v,oJ e,h]
abbrev tC(v:V):TE:=λ_ H Q=>Q v H
def rY(hN:X.N[i]?=U x)(hv:Ai7 X.env.scope x)(hd:(x==("__debug__":AA))=An:=by decide)(hcd:(x==("__classdict__":AA))=An:=by decide):PE X (.Name x pos) (Ac2 i):=by
 intro f s J H Q I h;let(v,e,h):=Aiz h;let(m,o,n):=I.loc;let(u,r,l):=n i x v hN e hv;have d:EP X f J Q u s:=#[v,H,I,r,h];rcases l with⟨b,j⟩|⟨b,c,g,a⟩
 ·exact JD (wpAny_loadName_local I.ok.kind b o j d) hd
 ·rcases b with b|b
  ·exact JD (wpAny_loadName_cell I.ok.kind b g a d) hd
  ·exact JD (wpAny_loadName_free I.ok.kind b g a d hcd) hd
def Pn{i j pos}:PE X (.Constant (.int i) j pos) (tC<|.int i):=λ_ _ _ H _ I h=>wpAny_Constant_int #[.int i,H,I.tok _,#[_,Y],h]
def Agm{b j pos}:PE X (.Constant (.bool b) j pos) (tC<|.bl b):=λ_ _ _ H _ I h=>Constant_bool #[.bl b,H,I,Y,h]
def AhO{j pos}:PE X (.Constant .none j pos) (tC .Of):=λ_ _ _ H _ I h=>Constant_none #[.Of,H,I,Y,h]
def RX{x j pos}:PE X (.Constant (.str x) j pos) (tC<|.str x):=λ_ _ _ H _ I h=>Calls.Constant_str #[.str x,H,I.tok _,#[_,Y],h]
def Gl(X:Cx)(x:AA):Prop:=X.env.kindOf x=U .globalImplicit
def Y9(I:Inv X pins J H s)(hg:Gl X x)(hm:X.mg x=U u)(h:Q u s)(hd:(x==("__debug__":AA))=An:=by decide):AW (A9 X.prog X.w) X.A (eval (.Name x pos) X.env) Q E s:=GH I.ok.kind hg (Calls.loadGlobal_global (by rw[I.ok.glob];exact I.mod.glob.keeps I.bk) hm h) hd
def TL(I:Inv X pins J H s)(hg:Gl X x)(hm:X.mg x=Ah)(hv:BD x=U u)(h:Q u s)(hn:x≠"__name__":=by decide)(hd:(x==("__debug__":AA))=An:=by decide):AW (A9 X.prog X.w) X.A (eval (.Name x pos) X.env) Q E s:=by let(c,a,b):=I.mod.blt;exact GH I.ok.kind hg (Calls.loadGlobal_builtin (by rw[I.ok.glob];exact I.mod.glob.keeps I.bk) hm (by rw[I.ok.blt];exact a.keeps I.bk) ((b x hn).trans hv) h) hd
def AeQ(hg:Gl X x)(hm:X.mg x=U u)(r:RelV v u)(hd:(x==("__debug__":AA))=An:=by decide):PE X (.Name x pos) (tC v):=λ_ _ _ H _ I h=>Y9 I hg hm #[v,H,I,r,h] hd
def Wx(hg:Gl X x)(hm:X.mg x=Ah)(hv:BD x=U u)(r:RelV v u)(hn:x≠"__name__":=by decide)(hd:(x==("__debug__":AA))=An:=by decide):PE X (.Name x pos) (tC v):=λ_ _ _ H _ I h=>TL I hg hm hv #[v,H,I,r,h] hn hd
variable{a b:Expr}{ta tb:TE}{pos:CU}
def PC(X:Cx)(op:CmpOp)(a b:Expr)(t:TE):Prop:=∀(pins:Ly)(s:Au)(J:St)(H:Hp)(Q:VK),Inv X pins J H s->t J H Q ->
  AW (A9 X.prog X.w) X.A (eval a X.env) (λv s₁=>AW (A9 X.prog X.w) X.A (eval b X.env) (λu s₂=>AW (A9 X.prog X.w) X.A (Be op v u) (EP X pins J Q) X.xe s₂) X.xe s₁) X.xe s
def TR(b:Expr)(h:op≠.In)(h2:op≠.NotIn):behindInMarks op b=An:=by
 have c:(op==KR)=An:=by cases op<;>first|rfl|exact absurd Y h
 have a:(op==J9)=An:=by cases op<;>first|rfl|exact absurd Y h2
 cases b<;>simp[behindInMarks,c,a]
abbrev tB(t:TE):TT:=λJ H Q=>t J H (nK Q)
def AhN{t:TE}(h:PC X op a b t)(h1:behindInMarks op b=An:=by first|exact TR _ M5 M5|rfl):PE X (.Compare a [op] [b] pos) t:=λc s J H Q I d=>KC (h c s J H Q I d) h1
def Acu{t:TE}(h:PC X op a b t)(h1:behindInMarks op b=An:=by first|exact TR _ M5 M5|rfl):PT X (.Compare a [op] [b] pos) (tB t):=by intro e s J H Q I f;refine Jd (OG (h e s J H _ I f) λv p h1=>OG h1 λu o i=>OG i λc n⟨x,g,m,j,l⟩=>?_) h1;let(d,rfl,q):=VU l;cases j;exact Cg #[g,m,q]
def Acw{t:TE}(h:PE X e t)(he:∀whole,isTrue e X.env whole=(do let v <-whole;standAt e.pos;holding [v] (truthy v)):=by intro _;rfl):PT X e (tB t):=by intro a s J H Q I b;refine isTrue_plain (OG (h a s J H _ I b) λv j⟨x,c,i,f,g⟩=>?_)<|he _;let(d,rfl,q):=VU g;cases f;exact Cg #[c,i,q]
variable{tA tB':TT}{rest:LJ}
abbrev Amb(u:TT)(J:St)(Q:Bool->Hp->Prop):Bool->Hp->Prop:=λc H=>QT c (u J H Q) (Q An H)
abbrev AkK(t u:TT):TT:=λJ H Q=>t J H (Amb u J Q)
abbrev Aoq(u:TT)(J:St)(Q:Bool->Hp->Prop):Bool->Hp->Prop:=λc H=>QT c (Q Af H) (u J H Q)
abbrev AoA(t u:TT):TT:=λJ H Q=>t J H (Aoq u J Q)
abbrev Ams(Q:Bool->Hp->Prop):Bool->Hp->Prop:=λc H=>Q (!c) H
abbrev Am3(t:TT):TT:=λJ H Q=>t J H (Ams Q)
def vF(ha:PT X a tA):PW X (.BoolOp .And [a] pos) tA:=by
 intro f b s J H Q I h;refine isTrue_and<|OG (ha b s J H Q I h) λc d e=>?_
 cases c with
 |true=>exact isTrue_and_nil e
 |false=>exact e
def Ah1(ha:PT X a tA):PW X (.BoolOp .Or [a] pos) tA:=by
 intro f b s J H Q I h;refine isTrue_or<|OG (ha b s J H Q I h) λc d e=>?_
 cases c with
 |false=>exact isTrue_or_nil e
 |true=>exact e
def AcB(ha:PT X a tA)(hb:PW X (.BoolOp .And (b::rest) pos) tB'):PW X (.BoolOp .And (a::b::rest) pos) (AkK tA tB'):=by
 intro i d s J H Q I h;refine isTrue_and<|OG (ha d s J H _ I h) λc j⟨e,g,f⟩=>?_
 cases c with
 |true=>exact hb i d j J e Q g f
 |false=>exact#[e,g,f]
def Akp(ha:PT X a tA)(hb:PW X (.BoolOp .Or (b::rest) pos) tB'):PW X (.BoolOp .Or (a::b::rest) pos) (AoA tA tB'):=by
 intro i d s J H Q I h;refine isTrue_or<|OG (ha d s J H _ I h) λc j⟨e,g,f⟩=>?_
 cases c with
 |true=>exact#[e,g,f]
 |false=>exact hb i d j J e Q g f
def Acv(ha:PT X a tA):PT X (.UnaryOp .Not a pos) (Am3 tA):=by intro b s J H Q I h;exact isTrue_not (ha b s J H (λc d=>Q (!c) d) I h)
abbrev AjP(tb:TE)(J:St)(Q:VK):Bool->Hp->Prop:=λc H=>QT c (tb J H Q) (Q (.bl An) H)
abbrev Ags(ta tb:TE):TE:=λJ H Q=>ta J H (nK<|AjP tb J Q)
abbrev AjW(Q:VK):Bool->Hp->Prop:=λc H=>Q (.bl<|!c) H
abbrev Agu(ta:TE):TE:=λJ H Q=>ta J H (nK<|AjW Q)
def VQ{op}{t:TE}(h:PE X a t):PE X (.BoolOp op [a] pos) t:=λb s J H Q I c=>BoolOp_one (h b s J H Q I c)
def AbZ(ha:PE X a ta)(hb:PE X (.BoolOp .And (b::rest) pos) tb):PE X (.BoolOp .And (a::b::rest) pos) (Ags ta tb):=by
 intro d s J H Q I h;refine BoolOp_and<|OG (ha d s J H _ I h) λv j⟨x,f,g,i,e⟩=>?_
 let(c,rfl,e):=VU e;cases i;refine Cg ?_;cases c with
 |true=>exact hb d j J f Q g e
 |false=>exact#[.bl An,f,g,Y,e]
def AhP(ha:PE X a ta):PE X (.UnaryOp .Not a pos) (Agu ta):=by
 intro b s J H Q I h;refine UnaryOp_<|OG (ha b s J H _ I h) λv i⟨x,e,g,f,d⟩=>?_
 let(c,rfl,d):=VU d;cases f;exact not_of (Cg #[.bl<|!c,e,g,Y,d])
abbrev Aok(ta tb:TE)(J:St)(Q:VK):Bool->Hp->Prop:=λc H=>QT c (ta J H Q) (tb J H Q)
abbrev Aoy(t:TT)(ta tb:TE):TE:=λJ H Q=>t J H (Aok ta tb J Q)
def Ab7(hc:PT X c tA)(ha:PE X a ta)(hb:PE X b tb):PE X (.IfExp c a b pos) (Aoy tA ta tb):=by
 intro e s J H Q I h;refine wpAny_IfExp<|OG (hc e s J H _ I h) λd i⟨f,j,g⟩=>?_
 cases d with
 |true=>exact ha e i J f Q j g
 |false=>exact hb e i J f Q j g
end
def Pb(K:Ab)(H:Hp)(a:Ag)(xs:Lx):Prop:=Rd H a (.lst xs) \/
  ∃(o:CL)(its:LS)(n:Nat),K.lookup a=U o/\o.cls=.type "list"/\o.dict=Ah/\o.data=.seq its n/\its.size<=sizeLine/\Vals xs its.toList
def P5(K:Ab)(H:Hp)(a:Ag)(xs:Lx):Prop:=Rd H a (.tup xs) \/
  ∃(o:CL)(its:LS)(n:Nat),K.lookup a=U o/\o.cls=.type "tuple"/\o.data=.seq its n/\its.size<=sizeLine/\Vals xs its.toList
def AlJ:Ai->L9
 |.none=>U .Of
 |.bool b=>U<|.bl b
 |.int i _=>U<|.int i
 |.str x _=>U<|.str x
 |.bytes b _=>U<|.Aaf b
 |.float b _=>U<|.AgW b
 |.ref a=>U<|.ref a
 |.type n=>U<|.ty n
 |_=>Ah
def RelV.abs(r:RelV x u):AlJ u=U x:=by
 cases x with
 |Of=>cases r;rfl
 |bl _=>cases r;rfl
 |int _=>let(t,rfl):=r;rfl
 |str _=>let(t,rfl):=r;rfl
 |Aaf _=>let(t,rfl):=r;rfl
 |AgW _=>let(t,rfl):=r;rfl
 |ref _=>cases r;rfl
 |ty _=>cases r;rfl
def RelV.inj(r:RelV x u)(q:RelV y u):x=y:=AK (r.abs.symm.trans q.abs)
def Vals.inj{xs ys:Lx}{us:LB}(h:Vals xs us)(h':Vals ys us):xs=ys:=by
 induction h generalizing ys with
 |nil=>cases h';rfl
 |cons r t ih=>
   cases h' with
   |cons b a=>rw[r.inj b,ih a]
section
variable{X:Cx}{pins:Ly}{J:St}{H:Hp}{s:Au}{a:Ag}{xs ys:Lx}
def Pb.of{K:Ab}(h:H a=U (.lst xs)):Pb K H a xs:=.inl (.inl h)
def P5.of{K:Ab}(h:H a=U (.tup xs)):P5 K H a xs:=.inl (.inl h)
def Inv.list(I:Inv X pins J H s)(h:Pb X.K H a xs):∃its:LB,Vals xs its/\PlainL s.heap a its.toArray/\xs.length<=sizeLine:=by
 rcases h with h|⟨o,its,n,c,f,b,d,g,r⟩
 ·let(z,its,n,r,e):=h.ok I.N5;exact#[its,r,#[_,n,e,Y,Y,Y],z]
 ·refine#[its.toList,r,#[o,n,I.X2 a o c,f,b,by simpa using d],?_];have e:=r.length;simp only[AZ]at e;omega
def Inv.tuple(I:Inv X pins J H s)(h:P5 X.K H a xs):∃its:LB,Vals xs its/\HX s.heap a its.toArray/\xs.length<=sizeLine:=by
 rcases h with h|⟨o,its,n,d,c,b,f,r⟩
 ·let(z,its,r,p):=h.ok I.N5;exact#[its,r,p,z]
 ·refine#[its.toList,r,#[o,I.X2 a o d,c,n,by simpa using b],?_];have e:=r.length;simp only[AZ]at e;omega
def Inv.ZU(I:Inv X pins J H s)(h:Pb X.K H a xs)(h':Pb X.K H a ys):xs=ys:=by
 let(c,r,(o,n,e,_,_,d),_):=I.list h;let(b,i,(l,j,g,_,_,f),_):=I.list h';rw[e]at g;cases g;rw[d]at f;injection f with d1 _;have:c=b:=by simpa using congrArg JR d1
 subst this;exact r.inj i
def Inv.gT(I:Inv X pins J H s)(h:P5 X.K H a xs)(h':P5 X.K H a ys):xs=ys:=by
 let(c,r,(o,e,_,n,d),_):=I.tuple h;let(b,i,(l,g,_,j,f),_):=I.tuple h';rw[e]at g;cases g;rw[d]at f;injection f with d1 _;have:c=b:=by simpa using congrArg JR d1
 subst this;exact r.inj i
end
abbrev Cx.eI(X:Cx)(E:Ai->Au->Prop):Cx:={X with xe:=E}
abbrev Cx.AbK(X:Cx):Cx:=X.eI λ_ _=>False
def Cx.Ok.eI{X:Cx}(ok:X.Ok)(E:Ai->Au->Prop):(X.eI E).Ok:=#[ok.mod,ok.kind,ok.glob,ok.blt,ok.above,ok.inj,ok.has,ok.Ajd,ok.hd,ok.frames,ok.Alr,ok.Al1,ok.bs,ok.Aat,ok.AbG,ok.AaO,ok.Xl,ok.AfZ]
def Cx.Ok.Uy{X:Cx}{E:Ai->Au->Prop}(ok:(X.eI E).Ok):X.Ok:=#[ok.mod,ok.kind,ok.glob,ok.blt,ok.above,ok.inj,ok.has,ok.Ajd,ok.hd,ok.frames,ok.Alr,ok.Al1,ok.bs,ok.Aat,ok.AbG,ok.AaO,ok.Xl,ok.AfZ]
section
variable{X:Cx}{pins:Ly}{J:St}{H:Hp}{s:Au}{E:Ai->Au->Prop}
def Inv.eI(I:Inv X pins J H s)(E:Ai->Au->Prop):Inv (X.eI E) pins J H s:=#[I.ok.eI E,I.os,I.bare,I.base,I.loc,I.cell,I.free,I.QL,I.pin,I.N5,I.len]
def Inv.Uy(I:Inv (X.eI E) pins J H s):Inv X pins J H s:=#[I.ok.Uy,I.os,I.bare,I.base,I.loc,I.cell,I.free,I.QL,I.pin,I.N5,I.len]
def SP.Uy(h:SP (X.eI E) pins D f s'):SP X pins D f s':=by
 cases f with
 |next=>let(a,b,I,q):=h;exact#[a,b,I.Uy,q]
 |brk=>let(a,b,I,q):=h;exact#[a,b,I.Uy,q]
 |cont=>let(a,b,I,q):=h;exact#[a,b,I.Uy,q]
 |ret u=>let(v,a,b,I,r,q):=h;exact#[v,a,b,I.Uy,r,q]
def Q6.AbK{st:LY}{t:TS}(h:Q6 X.AbK st t):Q6 X st t:=λa s J H D I b=>
 B1 (h a s J H D (I.eI _) b) (λ_ _ q=>q.Uy) λ_ _ z=>CD z
end
section
variable{X:Cx}{st:Bm}{rest:LY}{t u:TS}{e:Expr}{te:TE}{pos:CU}
abbrev AkT:TS:=λD J H=>D.nx J H
abbrev AlX(u:TS)(D:Ends):Ends:=#[u D,D.rt,D.bk,D.ct]
abbrev Am5(t u:TS):TS:=λD J H=>t (AlX u D) J H
def vB:Q6 X [] AkT:=λ_ _ J H _ I h=>Fu #[J,H,I,h]
def OA(h1:PS X st t)(h2:Q6 X rest u):Q6 X (st::rest) (Am5 t u):=by
 intro a s J H D I h;refine Ke<|OG (h1 a s J H _ I h) λf d q=>?_
 cases f with
 |next=>let(e,c,b,q):=q;exact h2 a d e c D b q
 |ret v=>exact q
 |brk=>exact q
 |cont=>exact q
def OV(h1:PS X st t):Q6 X [st] t:=by
 intro a s J H D I h;refine Ke<|OG (h1 a s J H D I h) λf b q=>?_
 cases f with
 |next=>exact Fu q
 |ret v=>exact q
 |brk=>exact q
 |cont=>exact q
def Inv.quiet(I:Inv X pins J H s):interactive X.env=An:=by simp[interactive,I.ok.kind]
abbrev AjU(D:Ends)(J:St):VK:=λ_ H=>D.nx J H
abbrev AkN(te:TE):TS:=λD J H=>te J H (AjU D J)
def Zf(he:PE X e te)(hs:swapsWith e Ah pos.line X.env=pure An:=by rfl):PS X (.Expr e pos) (AkN te):=by intro a s J H D I h;exact wpAny_Expr_any (OG (he a s J H _ I h) λv g⟨x,b,d,f,c⟩=>#[J,b,d,c]) I.quiet hs
abbrev Am4(te:TE):TS:=λD J H=>te J H D.rt
def PV(he:PE X e te):PS X (.Return (U e) pos) (Am4 te):=by intro a s J H D I h;exact wpAny_Return_some (OG (he a s J H _ I h) λv g⟨x,b,f,c,d⟩=>#[x,J,b,f,c,d])
abbrev AkV:TS:=λD _ H=>D.rt .Of H
def Ae8:PS X (.Return Ah pos) AkV:=λ_ _ J H _ I h=>wpAny_Return_none #[.Of,J,H,I,Y,h]
abbrev Amn(t u:TS)(D:Ends)(J:St):Bool->Hp->Prop:=λb H=>QT b (t D J H) (u D J H)
abbrev AkQ(c:TT)(t u:TS):TS:=λD J H=>c J H (Amn t u D J)
def Ago(hc:PT X c tc)(ha:Q6 X a t)(hb:Q6 X b u):PS X (.If c a b pos) (AkQ tc t u):=by
 intro e s J H D I h;refine wpAny_If<|OG (hc e s J H _ I h) λd i⟨f,j,g⟩=>?_
 cases d with
 |true=>exact ha e i J f D j g
 |false=>exact hb e i J f D j g
end
abbrev TG:=V->St->Hp->(St->Hp->Prop)->Prop
abbrev Adp:=Lx->St->Hp->(St->Hp->Prop)->Prop
def PG(X:Cx)(target:Expr)(t:TG):Prop:=∀(pins:Ly)(s:Au)(J:St)(H:Hp)(v:V)(u:Ai)(Q:St->Hp->Prop),Inv X pins J H s->RelV v u->t v J H Q ->
  AW (A9 X.prog X.w) X.A (assign target X.env u) (λ_ s'=>∃σ' H',Inv X pins σ' H' s'/\Q σ' H') X.xe s
def Aae(X:Cx)(ts:LJ)(t:Adp):Prop:=∀(pins:Ly)(s:Au)(J:St)(H:Hp)(vs:Lx)(us:LB)(Q:St->Hp->Prop),Inv X pins J H s->Vals vs us->t vs J H Q ->
  AW (A9 X.prog X.w) X.A (assignInOrder ((CZ ts X.env).map (·.2)) us) (λ_ s'=>∃σ' H',Inv X pins σ' H' s'/\Q σ' H') X.xe s
abbrev Aak:=V->V->V->Hp->(Hp->Prop)->Prop
def Ai6(X:Cx)(t:Aak):Prop:=∀(pins:Ly)(s:Au)(J:St)(H:Hp)(o i v:V)(ov iv u:Ai)(Q:Hp->Prop),Inv X pins J H s->RelV o ov->RelV i iv->RelV v u->t o i v H Q ->
  AW (A9 X.prog X.w) X.A (JY ov iv u) (λ_ s'=>∃H',Inv X pins J H' s'/\Q H') X.xe s
section
variable{X:Cx}{pos:CU}
abbrev U4(i:Nat):TG:=λv J H Q=>Q (Aio J i v) H
def O2(hN:X.N.Nodup)(hi:X.N[i]?=U x)(hx:Loc X.env.scope x)(hf:X.fn x=Af\/X.env.scope.names.lookup x=U .local:=by first|exact .inl rfl|exact .inr rfl|assumption):PG X (.Name x pos) (U4 i):=by intro a s J H v u Q I r h;exact JW (pR I hN hi hx r (λc b=>#[_,H,b,aZ▸h]) hf)
abbrev AjD:Adp:=λvs J H Q=>match vs with
 |[]=>Q J H
 |_::_=>False
def Ad0(h:AjD vs J H Q):vs=[]/\Q J H:=by
 cases vs with
 |nil=>exact#[Y,h]
 |cons _ _=>exact h.elim
abbrev kG(u:Adp)(r:Lx)(Q:St->Hp->Prop):St->Hp->Prop:=λJ H=>u r J H Q
abbrev Af0(t:TG)(u:Adp):Adp:=λvs J H Q=>match vs with
 |v::r=>t v J H<|kG u r Q
 |[]=>False
def AaS{t:TG}{u:Adp}(h:Af0 t u vs J H Q):∃v r,vs=v::r/\t v J H (kG u r Q):=by
 cases vs with
 |nil=>exact h.elim
 |cons v r=>exact#[v,r,Y,h]
def AeW:Aae X [] AjD:=by intro a s J H c b Q I r h;let(e,h):=Ad0 h;exact assignInOrder_nil #[J,H,I,h]
def Acg{t:TG}(h1:PG X e t)(h2:Aae X es u)(hs:(CZ (e::es) X.env).map (·.2)=assign e X.env::(CZ es X.env).map (·.2):=by rfl):Aae X (e::es) (Af0 t u):=by
 intro a s J H l j Q I r h;let(v,m,d,h):=AaS h;subst d;cases r with
 |cons r rr=>
   rw[hs];refine assignInOrder_cons<|OG (h1 a s J H _ _ _ I r h) λ_ g⟨b,c,i,f⟩=>?_
   exact h2 a g b c _ _ Q i rr f
def Al3(K:Ab)(n:Nat)(t:Adp):TG:=λv J H Q=>∃a xs,v=.ref a/\P5 K H a xs/\xs.length=n/\t xs J H Q
def AhS{k:Nat}{t:Adp}(hc:X.calm=Af)(h:Aae X es t)(hn:(CZ es X.env).length=n:=by rfl)(hst:(CZ es X.env).findIdx? (·.1)=Ah:=by rfl){K₀:Ab}{NR:Hp}[hK:N3 X K₀ NR]:PG X (.Tuple es k pos) (Al3 K₀ n t):=by
 let(rfl,rfl):=hK;intro c s J H v u Q I r d;let(a,p,j,i,l,d):=d;subst j;cases r;let(m,f,q,y):=I.tuple i;refine assign_Tuple_tuple (I.ok.hd hc) q (by simp[hn,<-l,f.length]) hst λg x=>?_
 have w:Inv X c J H {s with heap:=g}:=I.kept λb o e=>x b o (Bg<|AU e) e
 exact h c _ J H p _ Q w (by simpa using f) d
abbrev Aog(Q:St->Hp->Prop)(J:St):Hp->Prop:=λH=>Q J H
abbrev Aof(t:Aak)(v:V)(J:St)(Q:St->Hp->Prop)(o:V):VK:=λi H=>t o i v H (Aog Q J)
abbrev Aoe(ti:TE)(t:Aak)(v:V)(J:St)(Q:St->Hp->Prop):VK:=λo H=>ti J H (Aof t v J Q o)
abbrev Al2(to ti:TE)(t:Aak):TG:=λv J H Q=>to J H (Aoe ti t v J Q)
def AhR{t:Aak}(ho:PE X o to)(hi:PE X i ti)(hs:Ai6 X t)(ha:∀v,assign (.Subscript o i pos) X.env v=(do
   let ov <-holding [v] (eval o X.env);let iv <-holding [v,ov] (eval i X.env)
   standAt pos
   holding [v,ov,iv] (JY ov iv v)
   release [v,ov,iv] []):=by intro _;rfl):PG X (.Subscript o i pos) (Al2 to ti t):=by
 intro a s J H v u Q I r h;refine Ad<|BG<|OG (ho a s J H _ I h) λov m⟨x,e,p,j,l⟩=>?_
 refine Ad<|BG<|OG (hi a m J e _ p l) λiv f⟨y,d,g,b,q⟩=>?_
 refine Ad<|Gb<|Ad<|BG<|OG (hs a f J d x y v ov iv u _ g j b r q) λ_ z⟨w,c,n⟩=>?_
 exact wpAny_release #[J,w,c,n]
abbrev Amc(g:TG)(D:Ends)(J:St):VK:=λx H=>g x J H D.nx
abbrev Afw(te:TE)(g:TG):TS:=λD J H=>te J H (Amc g D J)
def Acq{tg:Expr}(he:PE X e te)(hg:PG X tg g)(hs:Iv [tg] e pos.line X.env=pure An:=by rfl)(hw:Iw [tg] e X.env=pure Ah:=by rfl)(h1:(CZ [tg] X.env).map (·.2)=[assign tg X.env]:=by rfl):PS X (.Assign [tg] e pos) (Afw te g):=by intro a s J H D I h;refine wpAny_Assign_stores (OG (he a s J H _ I h) λv f⟨x,b,i,c,d⟩=>?_) hs hw;rw[h1];exact OG (hg a f J b x v _ i c d) λ_ j q=>q
def Acr(hN:X.N.Nodup)(hi:X.N[i]?=U x)(hx:Loc X.env.scope x)(he:PE X e te)(hs:swapsWith e (U<|.Name x pos') pos.line X.env=pure An:=by rfl)(hf:X.fn x=Af\/X.env.scope.names.lookup x=U .local:=by first|exact .inl rfl|exact .inr rfl|assumption):PS X (.Assign [.Name x pos'] e pos) (Afw te<|U4 i):=by
 intro a s J H D I h;refine wpAny_Assign_Name (OG (he a s J H _ I h) λv l⟨y,b,f,c,d⟩=>?_) hs;exact pR f hN hi hx c (λj g=>#[_,b,g,aZ▸d]) hf
end
section
variable{X:Cx}{pos:CU}
def Ac3(c:TT)(tb:TS):TS:=λD J H=>∃W:Nat->St->Hp->Prop,(∃m,W m J H)/\∀m J H,W m J H ->
 c J H λb H1=>if b=Af then∃N:St->Hp->Prop,(∀σ' H',N σ' H'->∃m',m'<m/\W m' σ' H')/\tb {D with nx:=N,ct:=N,bk:=D.nx} J H1 else D.nx J H1
def Acs(hp:IL (A9 X.prog X.w) X.A X.env X.xe)(hc:PT X c tc)(hb:Q6 X body tb):PS X (.While c body [] pos) (Ac3 tc tb):=by
 intro a s J H D I h;let(W,(G,j0),g):=h;refine wpAny_While<|codeAny_whileLoop (λn B=>∃σ' H',Inv X a σ' H' B/\W n σ' H') ?_ G #[J,H,I,j0];rintro n K⟨j,x,E,C⟩;refine Dg hp<|OG (hc a K j x _ E<|g n j x C) λb F⟨y,u,l⟩=>?_
 cases b with
 |true=>
   let(N,z,l):=l;refine Dg hp<|OG (hb a F j y _ u l) λf L i=>?_
   cases f with
   |next=>let(d,e,p,o):=i;let(q,r,m):=z d e o;exact#[q,r,d,e,p,m]
   |cont=>let(d,e,p,o):=i;let(q,r,m):=z d e o;exact#[q,r,d,e,p,m]
   |brk=>exact i
   |ret v=>exact i
 |false=>exact Fu #[j,y,u,l]
end
structure It where
 go:Nat->Hp->Prop
 Aai:Nat->Hp->V->Hp->Prop
 stop:Nat->Hp->Prop
def Qv(X:Cx)(pins:Ly)(H:Hp)(b:Ag):Prop:=H b=Ah/\b≠X.env.locals/\b∉X.fs/\(b∈X.ex\/X.Qo.heap.objs.size<=b)/\(∀x c,X.env.cells.lookup x=U c->c≠b)/\∀p∈X.pn++pins,p.1≠b
def Inv.UT(I:Inv X pins J H s)(hb:s.heap.objs.size<=b)(hn:H' b=Ah):Qv X pins H' b:=by
 refine#[hn,HY<|Bo I.lt hb,I.AmM hb,.inr<|AS I.sz hb,λx c e z=>?_,λp a z=>?_]
 ·let(v,q):=I.cell x c e;exact absurd (Bo q.lt (by rw[z];exact hb))<|CS _
 ·exact absurd (Bo (AU (I.pin p a).1) (by rw[z];exact hb)) (CS _)
structure Turn(P:Bn)(w:Bw)(K:Ab)(tg:Expr)(j0:It)(fp:Lv)(it:Ag)(tn:Nat->BO->Prop):Prop where
 mem:it∈fp
 obj:∀i h,tn i h->∀b∈fp,∃o,h.get? b=U o/\∀v,o.data≠.cell v
 keep:∀i h h',tn i h->(∀b∈fp,∀o,h.get? b=U o->h'.get? b=U o)->tn i h'
 item:∀(X:Cx),X.prog=P->X.w=w->X.K=K->X.calm=Af->∀(i:Nat)(pins:Ly)(s:Au)(J:St)(H:Hp)(E:Ai->Au->Prop),Inv X pins J H s->(∀b∈fp,Qv X pins H b)->tn i s.heap->j0.go i H ->
  AW (A9 P w) X.A (JE<|.ref it) (λr s1=>∃u,r=U u /\
   AW (A9 P w) X.A (Fv tg (.ref it) u) (λ_ s2=>∃x H',Inv X pins J H' s2/\RelV x u/\j0.Aai i H x H'/\tn (i+1) s2.heap/\∀b∈fp,H' b=Ah) E s1) E s
 done:∀(X:Cx),X.prog=P->X.w=w->X.K=K->X.calm=Af->∀(i:Nat)(pins:Ly)(s:Au)(J:St)(H:Hp)(E:Ai->Au->Prop),Inv X pins J H s->(∀b∈fp,Qv X pins H b)->tn i s.heap->j0.stop i H ->
  AW (A9 P w) X.A (JE<|.ref it) (λr s1=>r=Ah/\Inv X pins J H s1) E s
 self:∀(A:BQ)(i:Nat)(s:Au)(Q:Ai->Au->Prop)(E:Ai->Au->Prop),tn i s.heap->Q (.ref it) s->AW (A9 P w) A (JF<|.ref it) Q E s
abbrev TI:=St->Hp->(It->Hp->Prop)->Prop
def AlE(X:Cx)(pins:Ly)(J:St)(tg:Expr)(R:It->Hp->Prop)(itv:Ai)(s2:Au):Prop:=∃(it:Ag)(fp:Lv)(tn:Nat->BO->Prop)(j0:It)(H':Hp),itv=.ref it/\Inv X pins J H' s2/\Turn X.prog X.w X.K tg j0 fp it tn/\tn 0 s2.heap/\(∀b∈fp,Qv X pins H' b)/\R j0 H'
def PI(X:Cx)(tg iter:Expr)(wi:TI):Prop:=∀(pins:Ly)(s:Au)(J:St)(H:Hp)(R:It->Hp->Prop),Inv X pins J H s->wi J H R ->
  AW (A9 X.prog X.w) X.A (eval iter X.env) (λv s1=>AW (A9 X.prog X.w) X.A (JF v) (AlE X pins J tg R) X.xe s1) X.xe s
def mU{tg:Expr}(ho:s.heap.get? it=U o)(hc:o.cls=.type n)(hd:o.data=.fields vs)(hn:["enumerate","zip","dict_itemiterator","dict_reverseitemiterator","odict_iterator","itertools.zip_longest","itertools.pairwise"].contains n=An)(hQ:Q () s):AW M A (Fv tg (.ref it) u) Q E s:=by
 unfold Fv;cases tg<;>first
  |exact Aw hQ
  | (cases u<;>first
    |exact Aw hQ
    | (refine Ad (JC ho ?_)
       rw[hc,hd];show AW M A (if(["enumerate","zip","dict_itemiterator","dict_reverseitemiterator","odict_iterator","itertools.zip_longest","itertools.pairwise"].contains n&&vs[0]?==U (rawInt _))=Af then _ else _) Q E s;rw[Ay (by intro h;rw[hn,DX]at h;cases h)];exact Aw hQ))
def AiL(K:Ab)(a:Ag):It:=#[λi H=>∃xs x,Pb K H a xs/\xs[i]?=U x,λi H x H'=>H'=H/\∀xs,Pb K H a xs->xs[i]?=U x,λi H=>∃xs,Pb K H a xs/\xs.length<=i]
def Alw(K:Ab)(a:Ag):It:=#[λi H=>∃xs x,P5 K H a xs/\xs[i]?=U x,λi H x H'=>H'=H/\∀xs,P5 K H a xs->xs[i]?=U x,λi H=>∃xs,P5 K H a xs/\xs.length<=i]
def Aad(lo:Int)(n:Nat):It:=#[λi _=>i<n,λi H x H'=>H'=H/\x=.int (lo+i),λi _=>n<=i]
def zZ{K:Ab}{tg:Expr}(a it:Ag):Turn P w K tg (AiL K a) [it] it (λi h=>h.IsListIter it a i) where
 mem:=M8
 obj:=λi h f b j=>by
  have e:b=it:=by simpa using j
  subst e;let(o,e,c,d):=f;exact#[o,e,λv z=>by rw[d]at z;cases z]
 keep:=λi h m f k=>f.at λo e=>k it M8 o e
 item:=by
  intro X M F C O i g s J H E I q f r;subst M F C;let(u3,x,n,j0):=r;let(B,D,p,S):=I.list n;let(u,W,Z):=D.get j0;let(y,A,y0,N,L,G):=q it M8;refine wpAny_pyNext_list_item f p.isList (x:=u) (by simpa using W) λm l sb=>?_
  have Q:Inv X g J H {s with heap:=m}:=I.turned (t':=s.toks) (λb o j e=>(sb.2 b j).trans e) y A N L G;let(o,e,c,d):=id l;exact#[u,Y,mU (s:={s with heap:=m}) e c d M5 #[x,H,Q,Z,#[Y,λys T=>by rw[I.ZU T n];exact j0],l,λb j=>(q b j).1]]
 done:=by intro X M F C O i g s J H E I q f r;subst M F C;let(u3,n,j0):=r;let(B,D,p,S):=I.list n;let(y,A,y0,N,L,G):=q it M8;have hl:=D.length;exact wpAny_pyNext_list_end (I.ok.hd O) f p.isList (by simp;omega) λm R=>#[Y,I.turned (t':=s.toks) (λb o j e=>R b o j e) y A N L G]
 self:=λ_ _ _ _ _ f h=>wpAny_pyIter_listiter f h
def tI{K:Ab}{tg:Expr}(a it:Ag):Turn P w K tg (Alw K a) [it] it (λi h=>h.IsTupleIter it a i) where
 mem:=M8
 obj:=λi h f b j=>by
  have e:b=it:=by simpa using j
  subst e;let(o,e,c,d):=f;exact#[o,e,λv z=>by rw[d]at z;cases z]
 keep:=λi h n f k=>f.at λo e=>k it M8 o e
 item:=by
  intro X M F C O i g s J H E I r f y;subst M F C;let(u3,x,q,j0):=y;let(l,D,p,S):=I.tuple q;let(u,W,Z):=D.get j0;let(A,B,y0,N,L,G):=r it M8;refine wpAny_pyNext_tuple_item f (show s.heap.IsTuple a l.toArray from p) (x:=u) (by simpa using W) λn m sb=>?_
  have Q:Inv X g J H {s with heap:=n}:=I.turned (t':=s.toks) (λb o j e=>(sb.2 b j).trans e) A B N L G;let(o,e,c,d):=id m;exact#[u,Y,mU (s:={s with heap:=n}) e c d M5 #[x,H,Q,Z,#[Y,λys T=>by rw[I.gT T q];exact j0],m,λb j=>(r b j).1]]
 done:=by intro X M F C O i g s J H E I r f y;subst M F C;let(u3,q,j0):=y;let(l,D,p,S):=I.tuple q;let(A,B,y0,N,L,G):=r it M8;have hl:=D.length;exact wpAny_pyNext_tuple_end (I.ok.hd O) f (show s.heap.IsTuple a l.toArray from p) (by simp;omega) λn R=>#[Y,I.turned (t':=s.toks) (λb o j e=>R b o j e) A B N L G]
 self:=λ_ _ _ _ _ f h=>wpAny_pyIter_tupleiter f h
def tH{K:Ab}{tg:Expr}(it:Ag)(lo:Int)(n:Nat):Turn P w K tg (Aad lo n) [it] it (λi h=>IsRangeIter h it (lo+(i:Nat)*1) ((n:Int)-(i:Nat)) 1) where
 mem:=M8
 obj:=λi h a b d=>by
  have e:b=it:=by simpa using d
  subst e;exact#[_,a,λv z=>by
   have D:Kk _=KQ v:=z;cases D]
 keep:=λi h g a k=>k it M8 _ a
 item:=by
  intro X y r q B i c s J H E I j a l;subst y r q;let(m,p,L,A,x,u):=j it M8;have W:=Walks.range (prog:=X.prog) (w:=X.w) (I.ok.hd B) it lo 1 n;refine W.item i s _ _ l a λv g C M f G=>?_
  let(t,rfl):=M;have F:Inv X c J H {s with heap:=g,toks:=C}:=I.turned (λb o d e=>G b o (by simpa using d) e) m p A x u;refine#[_,Y,mU (s:={s with heap:=g,toks:=C}) (n:="range_iterator") f Y Y M5 #[.int<|lo+i,H,F,#[t,?_],#[Y,Y],f,λb d=>(j b d).1]];rw[Int.mul_one]
 done:=by intro X y r q B i c s J H E I j a l;subst y r q;let(m,p,L,A,x,u):=j it M8;exact wpAny_pyNext_range_end (I.ok.hd B) a (by have:n<=i:=l;omega) λg j0=>#[Y,I.turned (t':=s.toks) (λb o d e=>j0 b o d e) m p A x u]
 self:=λ_ _ _ _ _ a h=>wpAny_pyIter_rangeiter a h
section
variable{X:Cx}{tg:Expr}
def Aoh(K:Ab)(R:It->Hp->Prop):VK:=λx H1=>∃a,x=.ref a/\(∃xs,Pb K H1 a xs)/\R (AiL K a) H1
abbrev Af1(K:Ab)(tl:TE):TI:=λJ H R=>tl J H (Aoh K R)
def Aoj(K:Ab)(R:It->Hp->Prop):VK:=λx H1=>∃a,x=.ref a/\(∃xs,P5 K H1 a xs)/\R (Alw K a) H1
abbrev Al7(K:Ab)(tl:TE):TI:=λJ H R=>tl J H (Aoj K R)
def UL(hl:PE X l tl){K₀:Ab}{NR:Hp}[hK:N3 X K₀ NR]:PI X tg l (Af1 K₀ tl):=by
 let(rfl,rfl):=hK;intro c s J H R I h;refine OG (hl c s J H _ I h) λv f⟨x,i,d,m,n⟩=>?_
 let(a,e,(u,g),q):=n;subst e;cases m;let(j,w,p,y):=d.list g;refine Gz p.isList ?_;refine#[f.heap.objs.size,[f.heap.objs.size],_,_,i,Y,d.kept λb o e=>Am _ e,zZ a _,#[_,AN _ Y,Y,Y],λb r=>?_,q];have e:b=f.heap.objs.size:=by simpa using r
 subst e;exact d.UT (Ao _) (d.N5.fresh<|Ao _)
def AhT(hl:PE X l tl){K₀:Ab}{NR:Hp}[hK:N3 X K₀ NR]:PI X tg l (Al7 K₀ tl):=by
 let(rfl,rfl):=hK;intro c s J H R I h;refine OG (hl c s J H _ I h) λv d⟨x,i,f,m,n⟩=>?_
 let(a,e,(u,g),q):=n;subst e;cases m;let(j,w,p,y):=f.tuple g;refine wpAny_pyIter_tuple (show d.heap.IsTuple a _ from p) ?_;refine#[d.heap.objs.size,[d.heap.objs.size],_,_,i,Y,f.kept λb o e=>Am _ e,tI a _,#[_,AN _ Y,Y,Y],λb r=>?_,q];have e:b=d.heap.objs.size:=by simpa using r
 subst e;exact f.UT (Ao _) (f.N5.fresh<|Ao _)
def oW{lo:Int}{t:KL}(I:Inv X pins J H s)(h1:-(2 ^ 62)<=lo)(h2:lo<2 ^ 62)(h3:-(2 ^ 62)<=hi)(h4:hi<2 ^ 62)(q:R (Aad lo (hi-lo).toNat) H):AW (A9 X.prog X.w) X.A (JF<|.ref s.heap.objs.size) (AlE X pins J tg R) E {s with heap:=s.heap.push {cls:=.type "range",data:=.fields (zTo [.int lo t,.int hi u,.int 1 v])},toks:=tk}:=by
 refine wpAny_pyIter_range (IsRange.new ..) (small_one h1 h2 h3 h4) ?_;have a:Inv X pins J H {s with heap:=s.heap.push {cls:=.type "range",data:=.fields (zTo [.int lo t,.int hi u,.int 1 v])},toks:=tk}:=I.kept λb o e=>Am _ e
 refine#[(s.heap.push {cls:=.type "range",data:=.fields (zTo [.int lo t,.int hi u,.int 1 v])}).objs.size,[(s.heap.push {cls:=.type "range",data:=.fields (zTo [.int lo t,.int hi u,.int 1 v])}).objs.size],_,_,H,Y,
  a.kept (t':=tk) λb o e=>Am _ e,tH _ lo (hi-lo).toNat,?_,λb d=>?_,q]
 ·have f:lo+((0:Nat):Int)*1=lo:=M8;have c:(((hi-lo).toNat:Nat):Int)-((0:Nat):Int)=C3.Range.rangeSize lo hi 1:=by rw[rangeSize_one];split<;>omega
  show IsRangeIter _ _ (lo+((0:Nat):Int)*1) ((((hi-lo).toNat:Nat):Int)-((0:Nat):Int)) 1;rw[f,c];exact AN _ Y
 ·have e:b=(s.heap.push {cls:=.type "range",data:=.fields (zTo [.int lo t,.int hi u,.int 1 v])}).objs.size:=by simpa using d
  subst e;exact a.UT (Ao _) (a.N5.fresh<|Ao _)
def Aoi(R:It->Hp->Prop):Lx->Hp->Prop:=λvs H1=>∃j:Int,vs=[.int j]/\-(2 ^ 62)<=j/\j<2 ^ 62/\R (Aad 0 j.toNat) H1
abbrev Af2(ta:TA):TI:=λJ H R=>ta J H (Aoi R)
def Amm(R:It->Hp->Prop):Lx->Hp->Prop:=λvs H1=>∃i j:Int,vs=[.int i,.int j]/\(-(2 ^ 62)<=i/\i<2 ^ 62/\-(2 ^ 62)<=j/\j<2 ^ 62)/\R (Aad i (j-i).toNat) H1
abbrev AjI(ta:TA):TI:=λJ H R=>ta J H (Amm R)
def UM(hg:Gl X "range")(hm:X.mg "range"=Ah)(ha:PA X [a] ta)(hs:AL [a] X.env=[(An,eval a X.env)]:=by rfl):PI X tg (.Call (.Name "range" p) [a] [] pos) (Af2 ta):=by
 intro b s J H R I h;refine Call_<|TL I hg hm boot_range<|C2 (OG (ha pos b s J H _ I h) λi n⟨l,m,f,d,c⟩=>?_) hs Y;let(j,e,c,g,q):=c;subst e;cases d with
 |cons r rr=>cases rr;let(t,rfl):=r;exact call_range_1 (oW f M6 M6 c g<|by simpa using q)
def yS(hg:Gl X "range")(hm:X.mg "range"=Ah)(ha:PA X [a,b] ta)(hs:AL [a,b] X.env=[(An,eval a X.env),(An,eval b X.env)]:=by rfl)(hs2:AL [b] X.env=[(An,eval b X.env)]:=by rfl):
  PI X tg (.Call (.Name "range" p) [a,b] [] pos) (AjI ta):=by
 intro c s J H R I h;refine Call_<|TL I hg hm boot_range<|C2 (OG (ha pos c s J H _ I h) λo x⟨u,v,m,g,d⟩=>?_) (by rw[hs,hs2]) (by rw[hs2];rfl);let(i,j,e,(d,n,l,f),q):=d;subst e;cases g with
 |cons r rr=>
   cases rr with
   |cons r' rr=>cases rr;let(t,rfl):=r;let(w,rfl):=r';exact call_range_2 (oW m d n l f q)
abbrev Aay(N:St->Hp->Prop)(D:Ends):Ends:=#[N,D.rt,D.nx,N]
def kFor(g:TG)(tb:TS)(D:Ends)(J:St):It->Hp->Prop:=λj0 H1=>∃W:Nat->Nat->St->Hp->Prop,(∃m,W 0 m J H1)/\∀i m J H,W i m J H ->
 (j0.stop i H/\D.nx J H)\/(j0.go i H/\∃N:St->Hp->Prop,(∀σ' H',N σ' H'->∃m',m'<m/\W (i+1) m' σ' H')/\∀x H',j0.Aai i H x H'->g x J H' (tb<|Aay N D))
abbrev AkP(wi:TI)(g:TG)(tb:TS):TS:=λD J H=>wi J H (kFor g tb D J)
def RY(fp:Lv)(h:BO):Ly:=fp.filterMap λb=>(h.get? b).map λo=>(b,o)
def O4(hb:b∈fp)(e:h.get? b=U o):(b,o)∈RY fp h:=FH.mpr #[b,hb,by rw[e];rfl]
def yI(hp:p∈RY fp h):p.1∈fp/\h.get? p.1=U p.2:=by
 let(b,c,e):=FH.mp hp;cases q:h.get? b with
 |none=>rw[q]at e;cases e
 |some o=>rw[q]at e;have a:=AK e;subst a;exact#[c,q]
def Inv.pinned(I:Inv X pins J H s)(hf:∀b∈fp,Qv X pins H b)(ho:∀b∈fp,∃o,s.heap.get? b=U o/\∀v,o.data≠.cell v):Inv X (pins++RY fp s.heap) J H s:=I.uY λp g=>(Bd.mp g).elim (λz=>I.pin p<|AY _ z) λz=>by
  let(c,e):=yI z;let(i,h,f,_):=hf p.1 c;let(o,a,d):=ho p.1 c;rw[e]at a;cases a;exact#[e,i,h,f,d]
def Inv.Rz{pl:Ly}(I:Inv X (pins++pl) J H s):Inv X pins J H s:=I.uY λp a=>I.pin p (AY _<|Fj _ a)
def AhZ(hp:IL (A9 X.prog X.w) X.A X.env X.xe)(hc:X.calm=Af)(hi:PI X tg iter wi)(hg:PG X tg g)(hb:Q6 X body tb)(hs:∀x,BC iter X.env x=pure x:=by intro _;rfl):PS X (.For tg iter body [] pos) (AkP wi g tb):=by
 intro a s J H D I h;refine wpAny_For (OG (hi a s J H _ I h) λv s1 h1=>OG h1 λaa s2 h2=>?_) hs;let(it,L,tn,j0,H2,e,I2,T,O,f2,W,(m0,w0),K):=h2;subst e;have q:∀{H':Hp},(∀b∈L,H' b=Ah)->∀b∈L,Qv X a H' b:=λhn b hb=>#[hn b hb,(f2 b hb).2]
 refine codeAny_forLoop_any (λn S=>∃i σ' H',Inv X a σ' H' S/\tn i S.heap/\(∀b∈L,H' b=Ah)/\W i n σ' H') ?_ m0 #[0,J,H2,I2,O,λb hb=>(f2 b hb).1,w0];rintro n s3⟨i,C,M,y0,F,B,w3⟩;rcases K i n C M w3 with⟨E,qn⟩|⟨go,N,hN,step⟩
 ·refine Dg hp (OG (T.done X Y Y Y hc i a s3 C M _ y0 (q B) F E) λr s4⟨P,I4⟩=>?_);subst P;exact Fu #[C,M,I4,qn]
 ·refine Dg hp (OG (T.item X Y Y Y hc i a s3 C M _ y0 (q B) F go) λr s4⟨u,P,h4⟩=>?_);subst P;refine Dg hp<|OG h4 λ_ s5⟨x,u3,I5,r5,y5,z,Q⟩=>?_
  have R:=I5.pinned (q Q)<|T.obj _ _ z;refine Dg hp<|OG (hg _ s5 C u3 x u _ R r5<|step x u3 y5) λ_ s6⟨ab,H6,I6,q6⟩=>?_
  refine Dg hp<|OG (hb _ s6 ab H6 _ I6 q6) λf Z y=>?_
  have c:∀{l:St}{j:Hp},Inv X _ l j Z->N l j->∃m,m<n/\∃i σ' H',Inv X a σ' H' Z/\tn i _/\(∀b∈L,H' b=Ah)/\W i m σ' H':=λ{l j}p G=>by
   let(m',hm,w7):=hN l j G;refine#[m',hm,i+1,l,j,p.Rz,T.keep _ _ _ z λb hb o e=>(p.pin _<|AY _<|AY _<|O4 hb e).1,λb hb=>?_,w7];let(o,e,d):=T.obj _ _ z b hb;exact(p.pin _<|AY _<|AY _<|O4 hb e).2.1
  cases f with
  |next=>let(l,j,p,G):=y;exact c p G
  |cont=>let(l,j,p,G):=y;exact c p G
  |brk=>let(l,j,p,y):=y;exact#[l,j,p.Rz,y]
  |ret v=>let(x7,l,j,p,r7,y):=y;exact#[x7,l,j,p.Rz,r7,y]
end
def AaR{K:Ab}{g:TG}{tb:TS}{D:Ends}{J:St}{H:Hp}(Pv:Nat->St->Hp->Prop)(h0:Pv 0 J H)(hl:∀i J H,i<=xs.length->Pv i J H->Pb K H a xs)(hs:∀i x J H,xs[i]?=U x->Pv i J H->g x J H λσ2 H2=>tb {D with nx:=Pv<|i+1,ct:=Pv<|i+1,bk:=D.nx} σ2 H2)(hd:∀J H,Pv xs.length J H->D.nx J H):∃W:Nat->Nat->St->Hp->Prop,(∃m,W 0 m J H)/\∀i m J H,W i m J H ->
   ((AiL K a).stop i H/\D.nx J H)\/((AiL K a).go i H/\∃N:St->Hp->Prop,(∀σ' H',N σ' H'->∃m',m'<m/\W (i+1) m' σ' H')/\∀x H',(AiL K a).Aai i H x H'->g x J H' λσ2 H2=>tb {D with nx:=N,ct:=N,bk:=D.nx} σ2 H2):=by
 refine#[λi m J H=>m=xs.length-i/\i<=xs.length/\Pv i J H,#[xs.length,M8,Bv _,h0],?_];rintro i m J H⟨rfl,c,p⟩;have q:=hl i J H c p;by_cases b:i<xs.length
 ·refine .inr #[#[xs,xs[i],q,by simp[b]],Pv<|i+1,λσ' H' d=>#[xs.length-(i+1),M6,Y,b,d],λx H' y=>?_];let(e,y):=y;subst e;exact hs i x J _ (y xs q) p
 ·have e:i=xs.length:=M6;subst e;exact .inl #[#[xs,q,Ao _],hd J H p]
def eY{lo:Int}{n:Nat}{g:TG}{tb:TS}{D:Ends}{J:St}{H:Hp}(Pv:Nat->St->Hp->Prop)(h0:Pv 0 J H)(hs:∀i J H,i<n->Pv i J H->g (.int<|lo+i) J H λσ2 H2=>tb {D with nx:=Pv<|i+1,ct:=Pv<|i+1,bk:=D.nx} σ2 H2)(hd:∀J H,Pv n J H->D.nx J H):∃W:Nat->Nat->St->Hp->Prop,(∃m,W 0 m J H)/\∀i m J H,W i m J H ->
   ((Aad lo n).stop i H/\D.nx J H)\/((Aad lo n).go i H/\∃N:St->Hp->Prop,(∀σ' H',N σ' H'->∃m',m'<m/\W (i+1) m' σ' H')/\∀x H',(Aad lo n).Aai i H x H'->g x J H' λσ2 H2=>tb {D with nx:=N,ct:=N,bk:=D.nx} σ2 H2):=by
 refine#[λi m J H=>m=n-i/\i<=n/\Pv i J H,#[n,M8,Bv _,h0],?_];rintro i m J H⟨rfl,c,p⟩;by_cases a:i<n
 ·refine .inr #[a,Pv _,λσ' H' b=>#[n-(i+1),M6,Y,a,b],λx H' y=>?_];let(e,y):=y;subst e y;exact hs i J _ a p
 ·have e:i=n:=M6;subst e;exact .inl #[Ao _,hd J H p]
abbrev R2:=V->V->Hp->VK->Prop
def RU(X:Cx)(f:Ai->Ai->IK Ai)(r:R2):Prop:=∀(pins:Ly)(s:Au)(J:St)(H:Hp)(x y:V)(v u:Ai)(Q:VK),Inv X pins J H s->RelV x v->RelV y u->r x y H Q ->
  AW (A9 X.prog X.w) X.A (f v u) (EP X pins J Q) X.xe s
def P7(X:Cx)(f:Ai)(r:Lx->Hp->VK->Prop):Prop:=∀(pins:Ly)(s:Au)(J:St)(H:Hp)(xs:Lx)(us:LB)(Q:VK),Inv X pins J H s->Vals xs us->r xs H Q ->
  AW (A9 X.prog X.w) X.A (call f us) (EP X pins J Q) X.xe s
abbrev Aop(r:R2)(x:V)(Q:VK):VK:=λy H=>r x y H Q
abbrev Aoo(r:R2)(tb:TE)(J:St)(Q:VK):VK:=λx H=>tb J H (Aop r x Q)
abbrev AiV(r:R2)(ta tb:TE):TE:=λJ H Q=>ta J H (Aoo r tb J Q)
abbrev mI(x y:V)(F:Int->Int->Prop):Prop:=match x,y with
 |.int i,.int j=>F i j
 |_,_=>False
def uO(h:mI x y F):∃i j,x=.int i/\y=.int j/\F i j:=by
 cases x with
 |int i=>
   cases y with
   |int j=>exact#[i,j,Y,Y,h]
   |_=>exact h.elim
 |_=>exact h.elim
abbrev AnD(x:V)(F:Int->Prop):Prop:=match x with
 |.int i=>F i
 |_=>False
def Ahq(h:AnD x F):∃i,x=.int i/\F i:=by
 cases x with
 |int i=>exact#[i,Y,h]
 |_=>exact h.elim
def kC(C P:Prop):Prop:=C/\P
abbrev rI(C:Int->Int->Prop)(g:Int->Int->V):R2:=λx y H Q=>mI x y λi j=>kC (C i j) (Q (g i j) H)
abbrev Adu(g:Int->Int->V):R2:=λx y H Q=>mI x y λi j=>Q (g i j) H
section
variable{X:Cx}{a b:Expr}{ta tb:TE}{pos:CU}
def AgA(ha:PE X a ta)(hb:PE X b tb){H:Hp}{R:V->V->Hp->Prop}(I:Inv X pins J H s)(h:ta J H λx H1=>tb J H1 λy H2=>R x y H2){Q:Ai->Au->Prop}{f:Ai->Ai->IK Ai}(hf:∀v u s2 x y H2,Inv X pins J H2 s2->RelV x v->RelV y u->R x y H2->AW (A9 X.prog X.w) X.A (f v u) Q X.xe s2):AW (A9 X.prog X.w) X.A (eval a X.env) (λv s₁=>AW (A9 X.prog X.w) X.A (eval b X.env) (λu s₂=>AW (A9 X.prog X.w) X.A (f v u) Q X.xe s₂) X.xe s₁) X.xe s:=by
 refine OG (ha pins s J H _ I h) λv i⟨x,H1,g,d,e⟩=>?_
 refine OG (hb pins i J H1 _ g e) λu s2⟨y,H2,j,c,l⟩=>?_
 exact hf v u s2 x y H2 j d c l
def O8{r:R2}(ho:RU X (Ci op) r)(ha:PE X a ta)(hb:PE X b tb):PE X (.BinOp a op b pos) (AiV r ta tb):=by intro c s J H Q I h;exact wpAny_BinOp (AgA ha hb I h λv u e x y d f g i q=>ho c e J d x y v u Q f g i q)
def AmO{f:Ai->Ai->IK Ai}{C:Int->Int->Prop}{g:Int->Int->Int}(rule:∀(i j:Int)(t u:KL)(s:Au)(Q:Ai->Au->Prop)(E:Ai->Au->Prop),C i j->Q (.int (g i j) s.toks) {s with toks:=s.toks+1}->AW (A9 X.prog X.w) X.A (f (.int i t)<|.int j u) Q E s):RU X f (rI C λi j=>.int<|g i j):=by
 intro a s J H x y v u Q I c d h;let(i,j,rfl,rfl,e,q):=uO h;let(t,rfl):=c;let(b,rfl):=d;exact rule i j t b s _ _ e #[.int _,H,I.tok _,#[_,Y],q]
def Akm{f:Ai->Ai->IK Ai}{g:Int->Int->Int}(rule:∀(i j:Int)(t u:KL)(s:Au)(Q:Ai->Au->Prop)(E:Ai->Au->Prop),Q (.int (g i j) s.toks) {s with toks:=s.toks+1}->AW (A9 X.prog X.w) X.A (f (.int i t)<|.int j u) Q E s):RU X f (Adu λi j=>.int<|g i j):=by
 intro a s J H x y v u Q I d c h;let(i,j,rfl,rfl,q):=uO h;let(t,rfl):=d;let(b,rfl):=c;exact rule i j t b s _ _ #[.int _,H,I.tok _,#[_,Y],q]
def AhC{f:Ai->Ai->IK Ai}{g:Int->Int->Bool}(rule:∀(i j:Int)(t u:KL)(s:Au)(Q:Ai->Au->Prop)(E:Ai->Au->Prop),Q (.bool<|g i j) s->AW (A9 X.prog X.w) X.A (f (.int i t)<|.int j u) Q E s):RU X f (Adu λi j=>.bl<|g i j):=by
 intro a s J H x y v u Q I d c h;let(i,j,rfl,rfl,q):=uO h;let(t,rfl):=d;let(b,rfl):=c;exact rule i j t b s _ _ #[.bl _,H,I,Y,q]
def AiY(i j:Int):Prop:=0<j/\j<1073741824
def Adx(i j:Int):Prop:=(-(2 ^ 64)<i/\i<2 ^ 64)\/(-(2 ^ 64)<j/\j<2 ^ 64)
def Adx.ok(h:Adx i j):IntMulOk i j:=by
 rcases h with⟨a,b⟩|⟨a,b⟩
 ·exact .of_left<|KZ a b
 ·exact .of_right (KZ a b)
def XE:RU X (Ci .Add) (Adu λi j=>.int<|i+j):=Akm λ_ _ _ _ _ _ _ q=>add_int q
def AhJ:RU X (Ci .Sub) (Adu λi j=>.int<|i-j):=Akm λ_ _ _ _ _ _ _ q=>sub_int q
def AbU:RU X (Ci .Mult) (rI Adx λi j=>.int<|i*j):=AmO λ_ _ _ _ _ _ _ a q=>mul_int q a.ok
def UJ:RU X (Ci .FloorDiv) (rI AiY λi j=>.int<|i / j):=AmO λi j _ _ _ _ _ a q=>by
 have b:(0:Int)<j:=a.1;have c:j<1073741824:=a.2;exact floordiv_int M6 (by rw[Int.fdiv_eq_ediv_of_nonneg i M6];exact q) (.inl<|PyProof.noPylong_small M6)
def SR:RU X (Ci .Mod) (rI (λ_ j=>0<j) λi j=>.int<|i%j):=AmO λi j _ _ _ _ _ a q=>by
 have b:(0:Int)<j:=a;exact mod_int' M6 (by rw[Int.fmod_eq_emod_of_nonneg i M6];exact q)
end
def Afr:V->V->Bool
 |.Of,.Of=>Af|.Of,.int _=>Af|.int _,.Of=>Af|.Of,.bl _=>Af|.bl _,.Of=>Af|.Of,.str _=>Af|.str _,.Of=>Af
 |.int _,.int _=>Af|.bl _,.bl _=>Af|.str _,.str _=>Af|.Aaf _,.Aaf _=>Af
 |.int _,.str _=>Af|.str _,.int _=>Af|.bl _,.str _=>Af|.str _,.bl _=>Af
 |_,_=>An
def Aou:R2:=λx y H Q=>kC (Afr x y=Af) (Q (.bl<|decide<|x=y) H)
def Aov:R2:=λx y H Q=>kC (Afr x y=Af) (Q (.bl<|!decide (x=y)) H)
def tZ:decide (V.int i=V.int j)=(i==j):=by rw[BM];simp
def AaE:decide (V.bl i=V.bl j)=(i==j):=by rw[BM];simp
def uB:decide (V.str i=V.str j)=(i==j):=by rw[BM];simp
def tY:decide (V.Aaf i=V.Aaf j)=(i.toList==j.toList):=by rw[BM];cases i;cases j;simp
section
variable{X:Cx}{a b c:Expr}{ta tb tc:TE}{pos:CU}
def Oe{k:Bool}(I:Inv X pins J H s)(q:Q (.bl k) H)(e:k=k'):EP X pins J Q (.bool k') s:=by subst e;exact#[.bl k,H,I,Y,q]
def uU:RU X (Be .Eq) Aou:=by
 intro e s J H x y v u Q I d a h;let(c,q):=h;cases x with
 |Of=>
   cases d;cases y with
   |Of=>cases a;exact PySem.EqNone.eq_none_none<|Oe I q M8
   |bl j=>cases a;exact PySem.EqNone.eq_none_bool<|Oe I q M8
   |int j=>let(b,rfl):=a;exact PySem.EqNone.eq_none_int<|Oe I q M8
   |str j=>let(b,rfl):=a;exact PySem.EqNone.eq_none_str<|Oe I q M8
   |_=>exact absurd ((c)) AQ
 |bl i=>
   cases d;cases y with
   |Of=>cases a;exact PySem.EqNone.eq_bool_none<|Oe I q M8
   |bl j=>cases a;exact eq_bool<|Oe I q AaE
   |str j=>let(b,rfl):=a;exact PySem.EqMixed.eq_bool_str<|Oe I q M8
   |_=>exact absurd ((c)) AQ
 |int i=>
   let(t,rfl):=d;cases y with
   |Of=>cases a;exact PySem.EqNone.eq_int_none<|Oe I q M8
   |int j=>let(b,rfl):=a;exact eq_int<|Oe I q tZ
   |str j=>let(b,rfl):=a;exact PySem.EqMixed.eq_int_str<|Oe I q M8
   |_=>exact absurd ((c)) AQ
 |str i=>
   let(t,rfl):=d;cases y with
   |Of=>cases a;exact PySem.EqNone.eq_str_none<|Oe I q M8
   |bl j=>cases a;exact PySem.EqMixed.eq_str_bool<|Oe I q M8
   |int j=>let(b,rfl):=a;exact PySem.EqMixed.eq_str_int<|Oe I q M8
   |str j=>let(b,rfl):=a;exact eq_str<|Oe I q uB
   |_=>exact absurd ((c)) AQ
 |Aaf i=>
   let(t,rfl):=d;cases y with
   |Aaf j=>let(b,rfl):=a;exact PySem.W.eq_bytes<|Oe I q tY
   |_=>exact absurd ((c)) AQ
 |_=>cases y<;>exact absurd ((c)) AQ
def Akn:RU X (Be .NotEq) Aov:=by
 intro e s J H x y v u Q I d a h;let(c,q):=h;cases x with
 |Of=>
   cases d;cases y with
   |Of=>cases a;exact PySem.EqNone.ne_none_none<|Oe I q M8
   |bl j=>cases a;exact PySem.EqNone.ne_none_bool<|Oe I q M8
   |int j=>let(b,rfl):=a;exact PySem.EqNone.ne_none_int<|Oe I q M8
   |str j=>let(b,rfl):=a;exact PySem.EqNone.ne_none_str<|Oe I q M8
   |_=>exact absurd ((c)) AQ
 |bl i=>
   cases d;cases y with
   |Of=>cases a;exact PySem.EqNone.ne_bool_none<|Oe I q M8
   |bl j=>cases a;exact ne_bool<|Oe I q<|congrArg not AaE
   |str j=>let(b,rfl):=a;exact PySem.EqMixed.ne_bool_str<|Oe I q M8
   |_=>exact absurd ((c)) AQ
 |int i=>
   let(t,rfl):=d;cases y with
   |Of=>cases a;exact PySem.EqNone.ne_int_none<|Oe I q M8
   |int j=>let(b,rfl):=a;exact ne_int<|Oe I q<|congrArg not tZ
   |str j=>let(b,rfl):=a;exact PySem.EqMixed.ne_int_str<|Oe I q M8
   |_=>exact absurd ((c)) AQ
 |str i=>
   let(t,rfl):=d;cases y with
   |Of=>cases a;exact PySem.EqNone.ne_str_none<|Oe I q M8
   |bl j=>cases a;exact PySem.EqMixed.ne_str_bool<|Oe I q M8
   |int j=>let(b,rfl):=a;exact PySem.EqMixed.ne_str_int<|Oe I q M8
   |str j=>let(b,rfl):=a;exact ne_str<|Oe I q<|congrArg not uB
   |_=>exact absurd ((c)) AQ
 |Aaf i=>
   let(t,rfl):=d;cases y with
   |Aaf j=>let(b,rfl):=a;exact PySem.W.ne_bytes<|Oe I q<|congrArg not tY
   |_=>exact absurd ((c)) AQ
 |_=>cases y<;>exact absurd ((c)) AQ
def AbT:RU X (Be .Lt) (Adu λi j=>.bl<|decide<|i<j):=AhC λ_ _ _ _ _ _ _ q=>lt_int q
def uV:RU X (Be .LtE) (Adu λi j=>.bl<|decide<|i<=j):=AhC λ_ _ _ _ _ _ _ q=>le_int q
def Agl:RU X (Be .Gt) (Adu λi j=>.bl<|decide<|j<i):=AhC λ_ _ _ _ _ _ _ q=>gt_int q
def yK:RU X (Be .In) (λx y H Q=>∃i j,x=.str i/\y=.str j/\Q (.bl<|!(Dl j i 0 j.length 1).isEmpty) H):=by intro a s J H x y v u Q I c b h;let(i,j,rfl,rfl,q):=h;let(t,rfl):=c;let(d,rfl):=b;exact in_str (Oe I q Y)
def AhF:RU X (Be .Is) (λx y H Q=>y=.Of/\Q (.bl<|decide<|x=.Of) H):=by
 intro a s J H x y v u Q I b c h;let(rfl,q):=h;cases c;refine is_none_gen<|Oe I q ?_;cases x<;>first
  |(cases b;rfl)
  |(let(t,rfl):=b;rfl)
def AeI:RU X (Be .IsNot) (λx y H Q=>y=.Of/\Q (.bl<|!decide (x=.Of)) H):=by
 intro a s J H x y v u Q I c b h;let(rfl,q):=h;cases b;refine isnot_none_gen<|Oe I q ?_;cases x<;>first
  |(rfl)
  |(let(t,rfl):=c;rfl)
def XC(b:Expr)(h:op≠.In:=by decide)(h2:op≠.NotIn:=by decide):behindInMarks op b=An:=by
 have c:(op==KR)=An:=by cases op<;>first|rfl|exact absurd Y h
 have a:(op==J9)=An:=by cases op<;>first|rfl|exact absurd Y h2
 cases b<;>simp[behindInMarks,c,a]
def Zc(ho:RU X (Be op) r)(ha:PE X a ta)(hb:PE X b tb)(hm:behindInMarks op b=An):PE X (.Compare a [op] [b] pos) (AiV r ta tb):=by intro c s J H Q I h;exact KC (AgA ha hb I h λv u e x y d f g i q=>ho c e J d x y v u Q f g i q) hm
abbrev AkW(t:TE):TT:=λJ H Q=>t J H (nK Q)
def vC(ho:RU X (Be op) r)(ha:PE X a ta)(hb:PE X b tb)(hm:behindInMarks op b=An):PT X (.Compare a [op] [b] pos) (AkW<|AiV r ta tb):=by
 intro d s J H Q I h;refine Jd (OG (ha d s J H _ I h) λv q⟨x,l,w,o,p⟩=>OG (hb d q J l _ w p) λu m⟨y,i,n,f,A⟩=>
  OG (ho d m J i x y v u _ n o f A) λc C⟨z,B,g,j,e⟩=>?_) hm
 let(k,rfl,e):=VU e;cases j;exact Cg #[B,g,e]
abbrev Amh(r':R2)(y:V)(Q:VK):VK:=λw H=>r' y w H Q
abbrev Amg(r':R2)(tc:TE)(y:V)(J:St)(Q:VK):Bool->Hp->Prop:=λk H=>QT k (tc J H<|Amh r' y Q) (Q (.bl An) H)
abbrev Amf(r r':R2)(tc:TE)(x:V)(J:St)(Q:VK):VK:=λy H=>r x y H (nK<|Amg r' tc y J Q)
abbrev Ame(r r':R2)(tb tc:TE)(J:St)(Q:VK):VK:=λx H=>tb J H (Amf r r' tc x J Q)
abbrev Ac0(r r':R2)(ta tb tc:TE):TE:=λJ H Q=>ta J H (Ame r r' tb tc J Q)
def oR(ho:RU X (Be op) r)(ho':RU X (Be op') r')(ha:PE X a ta)(hb:PE X b tb)(hc:PE X c tc)(hm:Ki [op,op'] [b,c]=An:=by with_unfolding_all rfl):PE X (.Compare a [op,op'] [b,c] pos) (Ac0 r r' ta tb tc):=by
 intro e s J H Q I h;refine Compare_chain (OG (ha e s J H _ I h) λv j0⟨x,G,w,o,D⟩=>chain_link (OG (hb e j0 J G _ w D) λu C⟨y,K,E,j,M⟩=>
  OG (ho e C J K x y v u _ E o j M) λd L⟨z,g,i,l,f⟩=>?_)) hm
 let(k,rfl,f):=VU f;cases l;refine Cg ?_;cases k with
 |false=>exact ite_ff #[.bl An,g,i,Y,f]
 |true=>exact ite_tt (chain_last<|OG (hc e L J g _ i f) λn m⟨q,B,p,A,F⟩=>ho' e m J B y q u n Q p j A F)
def Xz:(sizeLine:Nat)<2 ^ 63:=M5
def PF:RU X (Ci .Add) (λx y H Q=>∃i j,x=.str i/\y=.str j/\i.length+j.length<=sizeLine/\Q (.str<|i++j) H):=by intro a s J H x y v u Q I c d h;let(i,j,rfl,rfl,e,q):=h;let(t,rfl):=c;let(b,rfl):=d;exact add_str (λb f=>#[.str _,H,I.tok _,#[_,Y],q]) e
def vals1(r:Vals [x] us):∃u,us=[u]/\RelV x u:=by
 cases r with
 |cons b a=>cases a;exact#[_,Y,b]
def vals2(r:Vals [x,y] us):∃u w',us=[u,w']/\RelV x u/\RelV y w':=by
 cases r with
 |cons r1 r2=>
   cases r2 with
   |cons b a=>cases a;exact#[_,_,Y,r1,b]
def Ah3:Lx->Hp->VK->Prop:=λxs H Q=>∃i j,xs=[.int i,.int j]/\Q (.int (if j<i then j else i)) H
def wU(hc:X.calm=Af):P7 X (.builtin "min") Ah3:=by
 intro b s J H l e Q I r h;let(i,j,rfl,q):=h;let(u,f,rfl,(t,rfl),(g,rfl)):=vals2 r;refine min_two_ints (I.ok.hd hc) λc d k=>#[_,H,I.kept k,?_,q]
 by_cases a:j<i
 ·rw[AG a,AG a];exact#[_,Y]
 ·rw[Ay a,Ay a];exact#[_,Y]
def zB:Lx->Hp->VK->Prop:=λxs H Q=>∃i,xs=[.int i]/\i.natAbs.log2<1920/\Q (.str<|toString i) H
def iH:P7 X (.type "str") zB:=by intro a s J H c d Q I r h;let(i,rfl,b,q):=h;let(u,rfl,t,rfl):=vals1 r;exact PySem.P.str_of_int b #[.str _,H,I.tok _,#[_,Y],q]
end
structure qJ(h:BO)(x dx C:Ag)(mA:AA->LH):Prop where
 obj:h.get? x=U (CH C dx)
 ns:h.Ns1 dx mA
 ne:dx≠x
def xW{h:BO}{mA:AA->LH}(n:h.Ns1 dx mA):∃od,h.get? dx=U od/\∀name,EY name od=U (mA name):=by
 let(o,c,m,i,d,g,_,f):=n;refine#[o,i,λname=>?_];have e:=f name;unfold nsFind findBy at e;rw[<-Array.find?_toList]at e;unfold EY;rw[d];dsimp only;split
 ·rename_i y q;rw[q]at e;exact congrArg U e
 ·rename_i q;rw[q]at e;have a:c.toList.any (·.refKey)=An:=by
   rw[List.any_eq_false];intro y l;let(z,t,b):=g y<|Array.mem_toList_iff.mp l;simp[G1.refKey,b]
  have j:¬ c.toList.any (·.refKey)=Af:=by rw[a];exact AQ
  rw[Ay j];exact congrArg U e
def qJ.look(I:qJ h x dx C mA):∃od,PySem.W.InstAt h x (CH C dx) C (U od)/\∀name,EY name od=U (mA name):=let⟨od,ho,hl⟩:=xW I.ns
 #[od,#[I.obj,Y,Y,ho],hl]
section
variable{prog:Bn}{w:Bw}{A:BQ}{E:Ai->Au->Prop}{s:Au}{K:Ab}{x dx C f:Ag}{mA:AA->LH}{name:AA}{v:Ai}
def get_map(X:K.In s.heap)(I:qJ s.heap x dx C mA)(hg:Ew K C name=Af)(hh:FC K C=Af)(ha:Cb K (.ref C) name=U Ah)(hv:mA name=U v)(hv':IA v=Af)(h:Q v {s with toks:=s.toks+1}):AW (A9 prog w) A (getAttr (.ref x) name expr) Q E s:=by
 let(b,j0,a):=I.look;exact PySem.W.get_value X j0 (Fb hg).1 (PySem.W.findObj_own hh ha Y<|by rw[a,hv]) hv' h
def AaT{pl:IK Bool}(X:K.In s.heap)(I:qJ s.heap x dx C mA)(hg:Ew K C name=Af)(hf:Cb K (.ref C) name=U (U<|.ref f))(ht:FA K (.ref f)=Af)(hv:mA name=Ah)(h:Q (.ref f,[.ref x]) s):AW (A9 prog w) A (getMethod (.ref x) name pl) Q E s:=by
 let(a,j0,b):=I.look;exact PySem.W.method_fn X j0 (Fb hg).1 (Fb hg).2 hf (Fg.mp ht) (by show(EY name a).map _=U An;rw[b,hv];rfl) h
def Afs(X:K.In s.heap)(I:qJ s.heap x dx C mA)(hs:Cb K (.ref C) "__setattr__"=U (U<|.builtin "object.__setattr__"))(hp:Ig K C=Af)(ht:F5 K C name=U Ah)(hh:FC K C=Af)(hw:FL mA ns)(hsz:ns.length<=sizeLine)(h:∀h',qJ h' x dx C (λy=>if y=name then U v else mA y)->CP dx s.heap h'->Q () {s with heap:=h',toks:=s.toks+2}):AW (A9 prog w) A (setAttr (.ref x) name v) Q E s:=by
 let(p,j0,q):=I.look;refine PySem.W.set_plain X j0 hs<|PySem.W.osa_open X j0 hp ht λb=>?_
 let(o,j,e):=PySem.W.any_some hh;have m:=I.obj;refine Ad<|Aw<|Ad<|Ad<|wpAny_loadPart m<|Ad<|PySem.W.Looks.here (PySem.W.looks_clsIn X j) ?_;rw[e];refine Aw<|Ad<|Aw<|Ad ?_;refine wpAny_nsSet1 I.ns λh' a c=>?_
 let(n,l,i,d,f,g):=a.count<|FL.cons name v hw;refine Ad<|wpAny_lookBehind d (by rw[f];exact pastItsLine_dict<|AS g (by rw[AI];omega)) ?_;exact Aw (h _ #[(c.2 _<|Ax I.ne).trans I.obj,a,I.ne] c)
def Aby(X:K.In s.heap)(hm:BY K C=Af)(hi:Cb K (.ref C) "__init__"=U (U<|.ref f))(hf:PySem.W.typeIn K (.ref f)=U (.type "function"))(h:EU (A9 prog w) (A.under<|.builtin "type.__call__" #[.ref C::vs,kw]) (.call (.ref f) #[.ref (s.heap.objs.size+1)::vs,kw]) (PySem.W.InitBack (s.heap.objs.size+1) R)
   {s with heap:=(s.heap.push Cc).push (CH C s.heap.objs.size)}):
  EU (A9 prog w) A (.call (.ref C) #[vs,kw]) R s:=by
 let(c,g,d,t,b):=s;exact PySem.W.make_core (PySem.W.makes_of X hm) (PySem.W.looks_findIn X hi) (λa=>PySem.W.bind_fn X a hf) (.inl Y) h
end
def RZ(f:AA)(v:V):LN->LN
 |[]=>[(f,v)]
 |(g,x)::r=>if g=f then(g,v)::r else(g,x)::RZ f v r
def X4(f g:AA)(v:V):∀fs:LN,(RZ f v fs).lookup g=if g=f then U v else fs.lookup g
 | []=>by
   show DD g [(f,v)]=_;by_cases h:g=f
   ·have a:(g==f)=Af:=Fg.mpr h;simp only[DD,a,AG h]
   ·have a:(g==f)=An:=B9.mpr h;simp only[DD,a,Ay h]
 | (k,x)::r=>by
   have c:=X4 f g v r;rw[show RZ f v ((k,x)::r)=(if k=f then(k,v)::r else(k,x)::RZ f v r)from Y];by_cases b:k=f
   ·rw[AG b];by_cases h:g=k
    ·have a:(g==k)=Af:=Fg.mpr h;simp only[DD,a,AG<|h.trans b]
    ·have a:(g==k)=An:=B9.mpr h;simp only[DD,a,Ay λe:g=f=>h<|e.trans b.symm]
   ·rw[Ay b];by_cases h:g=k
    ·have a:(g==k)=Af:=Fg.mpr h;simp only[DD,a,Ay λe:g=f=>b<|h.symm.trans e]
    ·have a:(g==k)=An:=B9.mpr h;simp only[DD,a];exact c
def Xx(f:AA)(v:V):∀fs:LN,f∈(RZ f v fs).map (·.1)/\∀g,g∈fs.map (·.1)->g∈(RZ f v fs).map (·.1)
 |[]=>#[by simp[RZ],λg h=>by simp at h]
 | (k,x)::r=>by
   let(b,c):=Xx f v r;rw[show RZ f v ((k,x)::r)=(if k=f then(k,v)::r else(k,x)::RZ f v r)from Y];by_cases a:k=f
   ·rw[AG a];subst a;exact#[M8,λg h=>by simpa using h]
   ·rw[Ay a];refine#[?_,λg h=>?_]
    ·rw[Az];exact AD _ b
    ·rw[Az]at h ⊢;rcases AB.mp h with e|e
     ·exact AB.mpr<|.inl e
     ·exact AD _ (c g e)
def X3(f:AA)(v:V):∀fs:LN,(RZ f v fs).length<=fs.length+1
 |[]=>by simp[RZ]
 | (k,x)::r=>by
   have b:=X3 f v r;rw[show RZ f v ((k,x)::r)=(if k=f then(k,v)::r else(k,x)::RZ f v r)from Y];by_cases a:k=f
   ·rw[AG a,AI,AI];omega
   ·rw[Ay a,AI,AI];omega
def SK.some_of(r:SK (U v) o):∃u,o=U u/\RelV v u:=by
 cases o with
 |none=>exact((r)).elim
 |some u=>exact#[u,Y,r]
def SK.none_of(r:SK Ah o):o=Ah:=by
 cases o with
 |none=>rfl
 |some u=>exact((r)).elim
def xD(r:RelV v u):IA u=Af:=by
 cases v with
 |Of=>cases((r));rfl
 |bl b=>cases((r));rfl
 |int i=>let(t,e):=((r));cases e;rfl
 |str x=>let(t,e):=((r));cases e;rfl
 |Aaf b=>let(t,e):=((r));cases e;rfl
 |AgW b=>let(t,e):=((r));cases e;rfl
 |ref a=>cases((r));rfl
 |ty n=>cases((r));rfl
section
variable{P:Bn}{w:Bw}{H:Hp}{h:BO}{a C dx:Ag}{fs:LN}
def Y7(N5:VZ P w H h)(e:H a=U (.ins C dx fs)):∃mA,qJ h a dx C mA/\(∀f,SK (fs.lookup f)<|mA f)/\FL mA (fs.map (·.1))/\fs.length<=1000/\H dx=U (.own a):=by let(d,z,c,b,mA,n,r,q):=(show Oy P w H h a _ from N5 a _ e);exact#[mA,#[b,n,c],r,q,z,d]
end
structure Xf(K:Ab)(C:Ag):Prop where
 pg:Ew K C AA.empty=Af
 hd:FC K C=Af
 po:Ig K C=Af
 sa:Cb K (.ref C) "__setattr__"=U (U<|.builtin "object.__setattr__")
def Xf.get{K:Ab}(c:Xf K C)(f:AA):Ew K C f=Af:=c.pg
def Pz(K:Ab)(C:Ag)(f:AA):Prop:=Cb K (.ref C) f=U Ah
def Pz.AkX{K:Ab}(n:Pz K C f):F5 K C f=U Ah:=by unfold F5;rw[show Cb K _ f=U Ah from n];rfl
structure Meth(K:Ab)(C:Ag)(m:AA)(f:Ag):Prop where
 at_:Cb K (.ref C) m=U (U<|.ref f)
 fn:FA K (.ref f)=Af
 kp:By K (.ref f)=Af
section
variable{X:Cx}{pins:Ly}{J:St}{H:Hp}{s:Au}{a C dx:Ag}{fs:LN}{f:AA}{v:V}{A:BQ}{E:Ai->Au->Prop}
def qW(I:Inv X pins J H s)(e:H a=U (.ins C dx fs))(c:Xf X.K C)(n:Pz X.K C f)(l:fs.lookup f=U v)(h:∀u s',Inv X pins J H s'->RelV v u->Q u s'):AW (A9 X.prog X.w) A (getAttr (.ref a) f b) Q E s:=by let(i,O,r,_,_,_):=Y7 I.N5 e;let(u,g,d):=SK.some_of (by rw[<-l];exact r f);exact get_map I.X2 O (c.get f) c.hd n g (xD d) (h u _ (I.tok _) d)
def Zy{pl:IK Bool}(I:Inv X pins J H s)(e:H a=U (.ins C dx fs))(c:Xf X.K C)(k:Meth X.K C m g)(l:fs.lookup m=Ah)(h:Q (.ref g,[.ref a]) s):AW (A9 X.prog X.w) A (getMethod (.ref a) m pl) Q E s:=by let(d,O,r,_,_,_):=Y7 I.N5 e;have b:=SK.none_of (by rw[<-l];exact r m);exact AaT I.X2 O (c.get m) k.at_ k.fn b h
def sW(I:Inv X pins J H s)(e:H a=U (.ins C dx fs))(c:Xf X.K C)(n:Pz X.K C f)(hl:fs.length<1000)(ry:RelV y u)(h:∀s',Inv X pins J (upd H a<|.ins C dx<|RZ f y fs) s'->Q () s'):AW (A9 X.prog X.w) A (setAttr (.ref a) f u) Q E s:=by
 let(D,O,r,i,_,j):=Y7 I.N5 e;have p:(fs.map (·.1)).length<=sizeLine:=by rw[Ac,Bb];omega
 refine Afs I.X2 O c.sa c.po n.AkX c.hd i p λm d v=>h _ ?_
 have l:∃o,m.get? dx=U o:=let#[o,_,_,e',_]:=d.ns;#[o,e'];refine I.write (by rw[e];exact Bk) (.inr j) (λb q x z=>(v.2 b x).trans z) l ?_;refine#[by rw[NN O.ne];exact j,?_,O.ne,d.obj,_,d.ns,λg=>?_,λg B=>?_]
 ·have:=X3 f y fs;omega
 ·rw[X4];by_cases q:g=f
  ·rw[AG q,AG q];exact ry
  ·rw[Ay q,Ay q];exact r g
 ·by_cases q:g=f
  ·rw[q];exact(Xx f y fs).1
  ·refine(Xx f y fs).2 g (i g λz=>B ?_);show(if g=f then U u else D g)=Ah;rw[Ay q];exact z
def Inv.made(I:Inv X pins J H s):Inv X pins J (upd (upd H s.heap.objs.size<|.own<|s.heap.objs.size+1) (s.heap.objs.size+1)<|.ins C s.heap.objs.size [])
  {s with heap:=(s.heap.push Cc).push (CH C s.heap.objs.size)}:=by
 have c:(s.heap.push Cc).get? s.heap.objs.size=U Cc:=AN s.heap Y;have j:((s.heap.push Cc).push (CH C s.heap.objs.size)).get? (s.heap.objs.size+1)=U (CH C s.heap.objs.size):=by have:=AN (s.heap.push Cc) (o:=CH C s.heap.objs.size) Y;rwa[Jw]at this
 have f:(s.heap.push Cc).Ns s.heap.objs.size (λ_=>Ah):=#[Cc,#[],_,c,Y,(λe g=>absurd g M8),λ_=>rfl];have i:=I.laid (a:=s.heap.objs.size) (o:=.own<|s.heap.objs.size+1) (h':=s.heap.push Cc) (t':=s.toks) (λb u q=>Am _ q) (Ao _) #[_,c];refine i.laid (a:=s.heap.objs.size+1) (o:=.ins C s.heap.objs.size []) (t':=s.toks) (λb u q=>Am _ q) (F8<|Jw _ _) ?_;have d:s.heap.objs.size≠s.heap.objs.size+1:=Bg<|Dq _;refine#[by rw[NN d,NQ],Bv _,d,j,λ_=>Ah,(BO.Ns1.of_empty f).at λo q=>Am _ q,λ_=>Bk,λy h=>absurd Y h]
def AdE(hb:Co e f env (eval e env)=eval e env)(h:AW (A9 prog w) A (eval e env) (λo s₁=>AW (A9 prog w) A (getAttr o f Af) Q E s₁) E s):AW (A9 prog w) A (eval (.Attribute e f pos) env) Q E s:=Attribute_any_ h (by rw[arm_eval_Attribute,hb])
end
def AjV(K:Ab)(f:AA)(Q:VK):VK:=λx H1=>∃a C dx fs v,x=.ref a/\H1 a=U (.ins C dx fs)/\Xf K C/\Pz K C f/\fs.lookup f=U v/\Q v H1
abbrev AkO(K:Ab)(ta:TE)(f:AA):TE:=λJ H Q=>ta J H (AjV K f Q)
def Amy(K:Ab)(f:AA)(y:V)(D:Ends)(J:St):VK:=λx H2=>∃a C dx fs,x=.ref a/\H2 a=U (.ins C dx fs)/\Xf K C/\Pz K C f/\fs.length<1000/\D.nx J (upd H2 a<|.ins C dx<|RZ f y fs)
abbrev AmC(K:Ab)(ta:TE)(f:AA)(D:Ends)(J:St):VK:=λy H=>ta J H (Amy K f y D J)
abbrev AmX(K:Ab)(ta tv:TE)(f:AA):TS:=λD J H=>tv J H (AmC K ta f D J)
section
variable{X:Cx}{o e value:Expr}{f:AA}{pos pos':CU}{ta tv:TE}
def Ab6(he:PE X e ta)(hb:Co e f X.env (eval e X.env)=eval e X.env:=by rfl){K₀:Ab}{NR:Hp}[hK:N3 X K₀ NR]:PE X (.Attribute e f pos) (AkO K₀ ta f):=by
 let(rfl,rfl):=hK;intro b s J H Q I h;refine AdE hb<|OG (he b s J H _ I h) λu w⟨x,g,p,o,a,C,y,fs,v,d,m,c,n,l,q⟩=>?_
 subst d;obtain rfl:u=Bz a:=o;exact qW p m c n l λz r i j=>#[v,g,i,j,q]
def AhY(ha:PE X o ta)(hv:PE X value tv)(hs:swapsWith value (U<|.Attribute o f pos') pos.line X.env=pure An){K₀:Ab}{NR:Hp}[hK:N3 X K₀ NR]:PS X (.Assign [.Attribute o f pos'] value pos) (AmX K₀ ta tv f):=by let(rfl,rfl):=hK;intro b s J H D I h;refine plainObj_wpAny_Assign_Attribute (OG (hv b s J H _ I h) λu m⟨y,g,w,v,q⟩=>OG (ha b m J g _ w q) λr E⟨x,A,i,p,a,C,F,fs,d,j,c,n,l,z⟩=>?_) hs;subst d;obtain rfl:r=Bz a:=p;exact sW i j c n l v λB e=>#[J,_,e,z]
end
section
variable{X:Cx}{pins:Ly}{J:St}{H:Hp}{s:Au}{A:BQ}{E:Ai->Au->Prop}{Q:Ai->Au->Prop}{c:Ai}{b:Bool}
inductive V5(K:Ab)(H:Hp):V->Ai->Prop where
 |Of:V5 K H .Of (.type "NoneType")
 |bl (x:Bool):V5 K H (.bl x) (.type "bool")
 |int (i:Int):V5 K H (.int i) (.type "int")
 |str (x:AA):V5 K H (.str x) (.type "str")
 |AgW (x:UInt64):V5 K H (.AgW x) (.type "float")
 |lst {a:Ag} {xs:Lx} (e:H a=U (.lst xs)):V5 K H (.ref a) (.type "list")
 |Rg {a:Ag} {o:CL} {xs:Lx} (e:H a=U (.Rg o<|.lst xs)):V5 K H (.ref a) (.type "list")
 |tup {a:Ag} {xs:Lx} (e:H a=U (.tup xs)):V5 K H (.ref a) (.type "tuple")
 |dK {a:Ag} {kvs:LA} (e:H a=U (.dK kvs)):V5 K H (.ref a) (.type "dict")
 |dT {a:Ag} {kvs:L6} (e:H a=U (.dT kvs)):V5 K H (.ref a) (.type "dict")
 | ins {a C dx:Ag} {fs:LN} (e:H a=U (.ins C dx fs)) (cl:Xf K C) (ha:Cb K (.ref C) "__class__"=U (U<|.builtin "object.__class__"))
   (hn:PySem.W.specialIn K (.builtin "object.__class__") "__get__"=U (U<|.builtin "getset_descriptor.__get__")) (htk:PySem.W.takesIn K (.builtin "object.__class__")=U Af)
   (hm:PySem.W.mroIn K C (.type "object")=U Af):V5 K H (.ref a) (.ref C)
def xK{t:Ai}(I:Inv X pins J H s)(rx:RelV x u)(ty:V5 X.K H x t)(e:Gh X.K t c=U b)(h:∀tk,Q (.bool b) {s with toks:=tk}):
  AW (A9 X.prog X.w) A (call (.builtin "isinstance") [u,c]) Q E s:=by
 cases ty with
 |Of=>cases(show u=Cz from rx);exact B5 PySem.W.kitx_none I.X2 Bk e (λz=>nomatch z) h
 |bl y=>cases(show u=GF y from rx);exact B5 PySem.W.kitx_bool I.X2 Bk e (λz=>nomatch z) h
 |int i=>let(t,q):=(show∃t,u=F6 i t from rx);cases q;exact B5 PySem.W.kitx_int I.X2 Bk e (λz=>nomatch z) h
 |str y=>let(t,q):=(show∃t,u=Ei y t from rx);cases q;exact B5 PySem.W.kitx_str I.X2 Bk e (λz=>nomatch z) h
 |AgW y=>let(t,q):=(show∃t,u=J8 y t from rx);cases q;exact B5 PySem.W.kitx_float I.X2 Bk e (λz=>nomatch z) h
 |@lst a f ea=>cases(show u=Bz a from rx);let(_,_,n,_,d):=(show Oy X.prog X.w H s.heap a (.lst f)from I.N5 a _ ea);exact B5 Ih I.X2 #[_,d,Y] e (λz=>nomatch z) h
 |@Rg a ob f ea=>cases(show u=Bz a from rx);let(_,_,_,n,_,d):=(show Oy X.prog X.w H s.heap a (.Rg ob<|.lst f)from I.N5 a _ ea);exact B5 Ih I.X2 #[_,d,Y] e (λz=>nomatch z) h
 |@tup a f ea=>cases(show u=Bz a from rx);let(_,_,_,p):=(show Oy X.prog X.w H s.heap a (.tup f)from I.N5 a _ ea);let(o,d,g,_):=p;exact B5 PySem.W.kitx_tuple I.X2 #[o,d,g] e (λz=>nomatch z) h
 |@dK a kvs ea=>cases(show u=Bz a from rx);let(_,_,m,_,p):=(show Oy X.prog X.w H s.heap a (.dK kvs)from I.N5 a _ ea);let(o,l,j,d,g,_):=p;exact B5 Ii I.X2 #[o,d,g.1] e (λz=>nomatch z) h
 |@dT a kvs ea=>cases(show u=Bz a from rx);let(_,_,f,_,o,l,j,d,g,_):=(show Oy X.prog X.w H s.heap a (.dT kvs)from I.N5 a _ ea);exact B5 Ii I.X2 #[o,d,g.1] e (λz=>nomatch z) h
 |@ins a C dx fs ea cl ha hn htk hm=>cases(show u=Bz a from rx);let(v,O,_):=Y7 I.N5 ea;let(r,j0,_):=O.look;exact B5 (PySem.W.kitx_own (cl.get _) cl.hd ha hn htk hm) I.X2 j0 e (λz=>nomatch z) h
end
structure N8(k:Nat)(A:BQ):Prop where
 hd:A.handled=Ah
 dp:A.depth+3*k+5<CK
 un:A.units+16*k+200<Cd
def N8.mono{k:Nat}(r:N8 k A)(h:j<=k):N8 j A:=#[r.hd,by have:=r.dp;omega,by have:=r.un;omega]
def N8.deeper{k:Nat}(r:N8 (k+1) A)(env:Hu):N8 k (A.deeper env):=#[r.hd,by have:=r.dp;show A.depth+1+3*k+5<_;omega,by have:=r.un;show A.units+3+16*k+200<_;omega]
def rO{A:BQ}{kw:L5}:(A.under<|.builtin "type.__call__" #[.ref C::us,kw]).depth=A.depth+1:=by
 first|rfl|simp[Hc,Code.weight,Code.isCreation,Code.isGuard,Code.isCaller,Kl,HA,guardIds]
def rP{A:BQ}{kw:L5}:(A.under<|.builtin "type.__call__" #[.ref C::us,kw]).units=A.units+1:=by
 first|rfl|simp[Hc,Code.cUnits,Kl,HA]
def N8.make{k:Nat}(r:N8 (k+1) A)(C:Ag)(us:LB)(kw:L5):N8 k (A.under<|.builtin "type.__call__" #[.ref C::us,kw]):=#[r.hd,by have:=r.dp;rw[rO];omega,by have:=r.un;rw[rP];omega]
def N8.depth{k:Nat}(r:N8 k A):A.depth<CK:=by have:=r.dp;omega
def N8.units{k:Nat}(r:N8 k A):A.units+64<Cd:=by have:=r.un;omega
abbrev YX:TA:=λ_ H Q=>Q [] H
abbrev Aob(x:V)(Q:Lx->Hp->Prop):Lx->Hp->Prop:=λxs H=>Q (x::xs) H
abbrev Aoa(tr:TA)(J:St)(Q:Lx->Hp->Prop):VK:=λx H=>tr J H (Aob x Q)
abbrev gR(ta:TE)(tr:TA):TA:=λJ H Q=>ta J H (Aoa tr J Q)
section
variable{X:Cx}{e:Expr}{es:LJ}{te:TE}{t:TA}{pos:CU}
def N0:PA X [] YX:=λ_ _ _ _ H Q I h=>DK #[[],H,I,.nil,h]
def NU(ha:PE X e te)(hr:PA X es t)(hs:AL (e::es) X.env=(An,eval e X.env)::AL es X.env:=by rfl):PA X (e::es) (gR te t):=by
 intro b a s J H Q I h;rw[hs];refine CB<|OG (ha a s J H _ I h) λu m⟨x,f,n,i,j⟩=>?_
 exact OG (hr b a m J f _ n j) λp q⟨l,d,g,c,o⟩=>#[x::l,d,g,.cons i c,o]
def AmD(Q:VK):Lx->Hp->Prop:=λxs H=>xs.length<=sizeLine/\∀p,H p=Ah->Q (.ref p) (upd H p<|.tup xs)
abbrev Am6(t:TA):TE:=λJ H Q=>t J H (AmD Q)
def Amo(Q:VK):Lx->Hp->Prop:=λxs H=>xs.length<=sizeLine/\∀p,H p=Ah->Q (.ref p) (upd H p<|.lst xs)
abbrev Am2(t:TA):TE:=λJ H Q=>t J H (Amo Q)
def Ace{x1}(h:PA X es t):PE X (.Tuple es x1 pos) (Am6 t):=by
 intro a s J H Q I g;refine wpAny_Tuple_spliced<|OG (h pos a s J H _ I g) λf l⟨j,i,c,r,z,q⟩=>#[by rw[<-r.length];exact z,?_]
 have d:=c.N5.fresh<|Ao _;refine#[.ref _,upd i _ _,c.laid (λb u e=>Am _ e) (Ao _) ?_,Y,q _ d];exact#[z,f,r,#[_,AN _ Y,Y,_,Y]]
def rX(h:PA X es t):PE X (.List es pos) (Am2 t):=by
 intro a s J H Q I g;refine wpAny_List_spliced<|OG (h pos a s J H _ I g) λf l⟨j,i,c,r,z,q⟩=>#[by rw[<-r.length];exact z,?_]
 have d:=c.N5.fresh<|Ao _;refine#[.ref _,upd i _ _,c.laid (λb u e=>Am _ e) (Ao _) ?_,Y,q _ d];exact#[z,f,0,r,AN _ Y]
end
abbrev Sp:=Lx->Hp->VK->XK->Prop
abbrev AfF:=LU->Hp->Au->XK->Ai->Au->Prop
structure bW(P:Bn)(w:Bw)(K:Ab)(mg:AA->LH)(base:BO)(A:BQ)(outer:LU)(s:Au)(H:Hp):Prop where
 frames:A.frames=U outer
 mod:Mod K mg base
 bs:∀b o,base.get? b=U o->s.heap.get? b=U o/\H b=Ah
 Aat:base.objs.size<=s.heap.objs.size
 Xl:s.heap.FunFrames base outer
 AfZ:∀b∈Aag outer,H b=Ah
 N5:VZ P w H s.heap
 bare:Fs s.gens
def CE(outer:LU)(P:Bn)(w:Bw)(H:Hp)(s:Au)(Q:VK)(u:Ai)(s':Au):Prop:=∃v H',s'.os=s.os/\Fs s'.gens/\Un (Aag outer) [] H H' s.heap s'.heap/\VZ P w H' s'.heap/\RelV v u/\Q v H'
def CR(CX:AfF)(outer:LU)(P:Bn)(w:Bw)(H:Hp)(s:Au)(Q:VK)(E:XK)(r:Result)(s':Au):Prop:=
 match r with
 |.ok (.ret u)=>CE outer P w H s Q u s'
 |.ok _=>False
 |.error e=>CX outer H s E e s'
structure Si(P:Bn)(w:Bw)(K:Ab)(mg:AA->LH)(base:BO)(CX:AfF)(k:Nat)(f:Ag)(fd:CA)(ps:Lw)(sp:Sp):Prop where
 len:∀vs H Q E,sp vs H Q E->vs.length=ps.length
 run:∀(A:BQ)(outer:LU)(s:Au)(H:Hp)(args:Args)(us:LB)(vs:Lx)(Q:VK)(E:XK),N8 k A->bW P w K mg base A outer s H->HB s fd args (ps.zip us)->Vals vs us->sp vs H Q E ->
  EU (A9 P w) A (.call (.ref f) args) (CR CX outer P w H s Q E) s
def Si.imp{K:Ab}{base:BO}{k:Nat}(F:Si P w K mg base CX k f fd ps sp)(h:∀vs H Q E,sp' vs H Q E->sp vs H Q E):Si P w K mg base CX k f fd ps sp':=#[λvs H Q E q=>F.len vs H Q E<|h _ _ _ _ q,λA a s H b c vs Q E g d i e j=>F.run A a s H b c vs Q E g d i e<|h _ _ _ _ j]
def bW.make{K:Ab}{base:BO}(e:bW P w K mg base A outer s H)(C:Ag)(us:LB)(kw:L5):bW P w K mg base (A.under<|.builtin "type.__call__" #[.ref C::us,kw]) outer s H:=#[by first|exact e.frames|(simpa[Hc,Code.envs,HA,pushEnvs]using e.frames),e.mod,e.bs,e.Aat,e.Xl,e.AfZ,e.N5,e.bare]
def bW.in1{K:Ab}{base:BO}(e:bW P w K mg base A outer s H):bW P w K mg base A.in1 outer s H:=#[e.frames,e.mod,e.bs,e.Aat,e.Xl,e.AfZ,e.N5,e.bare]
section
variable{X:Cx}{pins:Ly}{J:St}{H:Hp}{s s':Au}
def Inv.AdW(I:Inv X pins J H s):bW X.prog X.w X.K X.mg X.base X.A X.stack s H:=#[I.ok.frames,I.ok.mod,I.bs,AS I.ok.Aat I.sz,I.stack,I.lA,I.N5,I.bare]
def Inv.after(I:Inv X pins J H s)(h:CE X.stack X.prog X.w H s Q u s'):EP X pins J Q u s':=by let(v,j,f,a,un,e,r,q):=h;let(i,g,d,t,c):=s';obtain rfl:c=s.os:=f;exact#[v,j,I.call (h':=i) (g':=g) (d':=d) (t':=t) (ch:=[]) un e a (λb z=>absurd z M8),r,q]
end
abbrev Aod(sp:Sp)(dvs:Lx)(Q:VK)(E:XK):Lx->Hp->Prop:=λvs H=>sp (vs++dvs) H Q E
abbrev vS(sp:Sp)(dvs:Lx)(E:XK)(t:TA):TE:=λJ H Q=>t J H (Aod sp dvs Q E)
abbrev Anx(sp:Sp)(dvs:Lx)(x:V)(Q:VK)(E:XK):Lx->Hp->Prop:=λvs H=>sp (x::(vs++dvs)) H Q E
def Af7(C:Ag)(m:AA)(sp:Sp)(dvs:Lx)(t:TA)(J:St)(Q:VK)(E:XK):VK:=λx H1=>∃a dx fs,x=.ref a/\H1 a=U (.ins C dx fs)/\fs.lookup m=Ah/\t J H1 (Anx sp dvs x Q E)
abbrev bC(C:Ag)(m:AA)(sp:Sp)(dvs:Lx)(E:XK)(ta:TE)(t:TA):TE:=λJ H Q=>ta J H (Af7 C m sp dvs t J Q E)
abbrev Amr(x:Ag)(Q:VK):VK:=λv H=>v=.Of/\Q (.ref x) H
def Anz(C:Ag)(sp:Sp)(dvs:Lx)(Q:VK)(E:XK):Lx->Hp->Prop:=λvs H1=>∀x dx,H1 x=Ah->H1 dx=Ah->dx≠x->sp (.ref x::(vs++dvs)) (upd (upd H1 dx<|.own x) x<|.ins C dx []) (Amr x Q) E
abbrev pT(C:Ag)(sp:Sp)(dvs:Lx)(E:XK)(t:TA):TE:=λJ H Q=>t J H (Anz C sp dvs Q E)
def Binds(K:Ab)(fd:CA)(ps:Lw)(ds:LB):Prop:=∀(s:Au)(us:LB),K.In s.heap->(us++ds).length=ps.length->HB s fd #[us,[]] (ps.zip<|us++ds)
def Binds.all{K:Ab}(h:∀us:LB,us.length=ps.length->Ce fd #[us,[]]=pure (ps.zip us)):Binds K fd ps []:=λs us _ a=>by
 rw[B7]at a ⊢;exact .of_eq (h us a)
def Passes(CX:AfF)(X:Cx)(E:XK):Prop:=∀(pins:Ly)(J:St)(H:Hp)(s:Au)(e:Ai)(s':Au),Inv X pins J H s->CX X.stack H s E e s'->X.xe e s'
section
variable{X:Cx}{CX:AfF}{k:Nat}{f C:Ag}{fd:CA}{ps:Lw}{sp:Sp}{dvs:Lx}{ds:LB}{E:XK}{x m:AA}{p pos apos:CU}{e o:Expr}{es:LJ}{ta:TE}{t:TA}
def sJ(F:Si X.prog X.w X.K X.mg X.base CX k f fd ps sp)(hr:N8 k X.A)(hb:Binds X.K fd ps ds)(hd:Vals dvs ds)(hx:Passes CX X E)(I:Inv X pins J H s)(r:Vals vs us)(h:sp (vs++dvs) H Q E):AW (A9 X.prog X.w) X.A (call (.ref f) us) (EP X pins J Q) X.xe s:=by
 have b:Vals (vs++dvs) (us++ds):=r.append hd;have c:(us++ds).length=ps.length:=by rw[<-b.length];exact F.len _ _ _ _ h
 refine HK<|GB (F.run X.A X.stack s H #[us,[]] (us++ds) (vs++dvs) Q E hr I.AdW (hb s us I.X2 c) b h) λr d a=>?_
 cases r with
 |error e=>exact hx pins J H s e d I a
 |ok fl=>
   cases fl with
   |ret u=>exact I.after a
   |next=>exact CD a
   |brk=>exact CD a
   |cont=>exact CD a
def AeN(F:Si X.prog X.w X.K X.mg X.base CX k f fd ps sp)(hr:N8 k X.A)(hg:Gl X x)(hm:X.mg x=U (.ref f))(hk:By X.K (.ref f)=Af)(hb:Binds X.K fd ps ds)(hd:Vals dvs ds)(hx:Passes CX X E)(ha:PA X (e::es) t)(hdb:(x==("__debug__":AA))=An:=by decide)(he:AL (e::es) X.env=(An,eval e X.env)::AL es X.env:=by rfl)(hpl:(Ca pos<|AL es X.env).any (·.1)=An:=by rfl):PE X (.Call (.Name x p) (e::es) [] pos) (vS sp dvs E t):=by
 intro a s J H Q I h;refine CJ<|Y9 I hg hm ?_ hdb;refine Fp I.ok.mod.Aj2 hk (OG (ha pos a s J H _ I h) λc i⟨d,g,b,r,q⟩=>#[b.X2,?_]) he hpl;exact sJ F hr hb hd hx b r q
def AeS{pl:IK Bool}(he:PE X o ta)(c:Xf X.K C)(hm:Meth X.K C m f)(F:Si X.prog X.w X.K X.mg X.base CX k f fd ps sp)(hr:N8 k X.A)(hb:Binds X.K fd ps ds)(hd:Vals dvs ds)(hx:Passes CX X E)(ha:PA X (e::es) t)(hst:AL (e::es) X.env=(An,eval e X.env)::AL es X.env:=by rfl)(hpl:(Ca pos<|AL es X.env).any (·.1)=An:=by rfl)(ht:eval (.Call (.Attribute o m apos) (e::es) [] pos) X.env=(do
   let ov <-eval o X.env
   standAt apos.atName
   let(f,first) <-holding [ov] (getMethod ov m pl)
   E9 pos f first (Ca pos<|AL (e::es) X.env) (Dw pos<|Cp [] X.env)):=by rfl):
  PE X (.Call (.Attribute o m apos) (e::es) [] pos) (bC C m sp dvs E ta t):=by
 intro b s J H Q I h;refine G6 (pl:=pl) (OG (he b s J H _ I h) λu p⟨x,j,g,v,a,D,fs,i,n,l,q⟩=>?_) ht;subst i;obtain rfl:u=Bz a:=v;refine Zy g n c hm l ?_;refine Fp (first:=[.ref a]) (h₀:=X.base) I.ok.mod.Aj2 hm.kp (OG (ha pos b p J j _ g q) λus B⟨vs,z,d,r,y⟩=>#[d.X2,?_]) hst hpl;exact sJ (us:=.ref a::us) (vs:=.ref a::vs) F hr hb hd hx d (.cons Y r) y
def Aca{pl:IK Bool}(he:PE X o ta)(c:Xf X.K C)(hm:Meth X.K C m f)(F:Si X.prog X.w X.K X.mg X.base CX k f fd ps sp)(hr:N8 k X.A)(hb:Binds X.K fd ps ds)(hd:Vals dvs ds)(hx:Passes CX X E)(ht:eval (.Call (.Attribute o m apos) [] [] pos) X.env=(do
   let ov <-eval o X.env
   standAt apos.atName
   let(f,first) <-holding [ov] (getMethod ov m pl)
   E9 pos f first (Ca pos<|AL [] X.env) (Dw pos<|Cp [] X.env)):=by rfl):
  PE X (.Call (.Attribute o m apos) [] [] pos) (bC C m sp dvs E ta YX):=by
 intro b s J H Q I h;refine G6 (pl:=pl) (OG (he b s J H _ I h) λu n⟨x,j,d,i,a,p,fs,e,g,l,q⟩=>?_) ht;subst e;obtain rfl:u=Bz a:=i;refine Zy d g c hm l ?_;exact Hx (first:=[.ref a]) d.X2 hm.kp (sJ (us:=[.ref a]) (vs:=[.ref a]) F hr hb hd hx d (.cons Y .nil) q)
structure Mk(K:Ab)(C f:Ag):Prop where
 makes:BY K C=Af
 init:Cb K (.ref C) "__init__"=U (U<|.ref f)
 fn:FA K (.ref f)=Af
 kp:By K (.ref C)=Af
def pA(M:Mk X.K C f)(F:Si X.prog X.w X.K X.mg X.base CX k f fd ps sp)(hr:N8 (k+1) X.A)(hb:Binds X.K fd ps ds)(hd:Vals dvs ds)(hx:Passes CX X E)(I:Inv X pins J H s)(r:Vals vs us)(h:∀x dx,H x=Ah->H dx=Ah->dx≠x->sp (.ref x::(vs++dvs)) (upd (upd H dx<|.own x) x<|.ins C dx []) (λv H2=>v=.Of/\Q (.ref x) H2) E):
  AW (A9 X.prog X.w) X.A (call (.ref C) us) (EP X pins J Q) X.xe s:=by
 have d:=h _ _ (I.N5.fresh<|Ft _) (I.N5.fresh<|Ao _)<|Bg<|Dq _;have b:=Inv.made (C:=C) I;have c:Vals (V.ref (s.heap.objs.size+1)::(vs++dvs)) _:=.cons Y<|r.append hd;have l:(Bz (s.heap.objs.size+1)::us++ds).length=ps.length:=by have e:=c.length;rw[F.len _ _ _ _ d]at e;exact e.symm
 refine HK (Aby I.X2 M.makes M.init (Fg.mp M.fn) (GB (F.run _ _ _ _ _ _ _ _ E (hr.make C us [])
  (b.AdW.make C us []) (hb _ _ b.X2 l) c d) λr i a=>?_))
 cases r with
 |error e=>exact hx pins J _ _ e i b a
 |ok fl=>
   cases fl with
   |ret u=>let(v,m,j,o,g,n):=b.after a;subst g;exact#[o,#[V.ref _,m,j,Y,n]]
   |next=>exact CD a
   |brk=>exact CD a
   |cont=>exact CD a
def AeR(M:Mk X.K C f)(F:Si X.prog X.w X.K X.mg X.base CX k f fd ps sp)(hr:N8 (k+1) X.A)(hg:Gl X x)(hm:X.mg x=U (.ref C))(hb:Binds X.K fd ps ds)(hd:Vals dvs ds)(hx:Passes CX X E)(ha:PA X (e::es) t)(hdb:(x==("__debug__":AA))=An:=by decide)(he:AL (e::es) X.env=(An,eval e X.env)::AL es X.env:=by rfl)(hpl:(Ca pos<|AL es X.env).any (·.1)=An:=by rfl):PE X (.Call (.Name x p) (e::es) [] pos) (pT C sp dvs E t):=by
 intro a s J H Q I h;refine CJ<|Y9 I hg hm ?_ hdb;refine Fp I.ok.mod.Aj2 M.kp (OG (ha pos a s J H _ I h) λc i⟨d,g,b,r,q⟩=>#[b.X2,?_]) he hpl;exact pA M F hr hb hd hx b r q
def Ab9(M:Mk X.K C f)(F:Si X.prog X.w X.K X.mg X.base CX k f fd ps sp)(hr:N8 (k+1) X.A)(hg:Gl X x)(hm:X.mg x=U (.ref C))(hb:Binds X.K fd ps ds)(hd:Vals dvs ds)(hx:Passes CX X E)(hdb:(x==("__debug__":AA))=An:=by decide):PE X (.Call (.Name x p) [] [] pos) (pT C sp dvs E YX):=by intro a s J H Q I h;refine CJ<|Y9 I hg hm ?_ hdb;exact Hx I.X2 M.kp (pA M F hr hb hd hx I .nil h)
end
def PK(X:Cx)(kws:Mf)(t:TA):Prop:=∀(pos:CU)(pins:Ly)(s:Au)(J:St)(H:Hp)(Q:Lx->Hp->Prop),Inv X pins J H s->t J H Q->AW (A9 X.prog X.w) X.A (evalAll ((Dw pos<|Cp kws X.env).map (·.2))) (AP X pins J Q) X.xe s
section
variable{X:Cx}{x:AA}{pos kpos:CU}{e:Expr}{kws:Mf}{te:TE}{t:TA}{nm:Mc}
def Ack:PK X [] YX:=λ_ _ _ _ H Q I h=>wpAny_evalAll_nil #[[],H,I,.nil,h]
def uZ(ha:PE X e te)(hr:PK X kws t):PK X (#[nm,e,kpos]::kws) (gR te t):=by
 intro b a s J H Q I h;refine wpAny_evalAll_cons<|Ad<|OG (ha a s J H _ I h) λu m⟨x,f,n,i,j⟩=>Ad<|Gb<|Aw ?_
 exact OG (hr b a m J f _ n j) λp q⟨l,d,g,c,o⟩=>#[x::l,d,g,.cons i c,o]
end
structure O0(N P:Lw)(sc:Scope):Prop where
 kind:sc.kind=.function
 co:sc.isCoroutine=An
 gen:sc.isGenerator=An
 nd:N.Nodup
 pre:N.take P.length=P
 par:∀x∈P,sc.names.lookup x=U .local\/sc.names.lookup x=U .cell
 Ahu:∀y∈sc.names,y.2≠.free
def eQ{kindOf:AA->Mu}:∀{binds:L5}{m:AA->LH},(∀v,(x,v)∉binds)->IH kindOf binds m x=m x
 |[],_,_=>rfl
 | (n,v)::r,m,h=>by
   unfold IH;rw[eQ λw a=>h w<|AD _ a];split
   ·have:x≠n:=by rintro rfl;exact h v AX
    simp[this]
   ·rfl
def eO{kindOf:AA->Mu}:∀{binds:L5}{m:AA->LH},(∀v,(x,v)∉binds)->II kindOf binds m x=m x
 |[],_,_=>rfl
 | (n,v)::r,m,h=>by
   unfold II;rw[eO λw a=>h w<|AD _ a];split
   ·rfl
   ·have:x≠n:=by rintro rfl;exact h v AX
    simp[this]
def eP{kindOf:AA->Mu}:∀{P:Lw}{vs:LB}{i:Nat}{m:AA->LH},P.Nodup->P[i]?=U x->vs[i]?=U v->kindOf x=U .local ->
  IH kindOf (P.zip vs) m x=U v
 |[],_,_,_,_,h,_,_=>by simp at h
 |_::_,[],_,_,_,_,h,_=>by simp at h
 | p::P,w::vs,0,m,nd,h1,h2,hk=>by
   simp at h1 h2;subst h1;subst h2;show IH kindOf ((p,w)::P.zip vs) m p=_;unfold IH;rw[eQ λv a=>(Bc.mp nd).1 (E5 a).1,AG hk];simp
 | p::P,w::vs,i+1,m,nd,h1,h2,hk=>by
   show IH kindOf ((p,w)::P.zip vs) m x=_;unfold IH;exact eP (i:=i) (Bc.mp nd).2 (by simpa using h1) (by simpa using h2) hk
def eM{kindOf:AA->Mu}:∀{P:Lw}{vs:LB}{i:Nat}{m:AA->LH},P.Nodup->P[i]?=U x->vs[i]?=U v->kindOf x≠U .local ->
  II kindOf (P.zip vs) m x=U v
 |[],_,_,_,_,h,_,_=>by simp at h
 |_::_,[],_,_,_,_,h,_=>by simp at h
 | p::P,w::vs,0,m,nd,h1,h2,hk=>by
   simp at h1 h2;subst h1;subst h2;show II kindOf ((p,w)::P.zip vs) m p=_;unfold II;rw[eO λv a=>(Bc.mp nd).1 (E5 a).1,Ay hk];simp
 | p::P,w::vs,i+1,m,nd,h1,h2,hk=>by
   show II kindOf ((p,w)::P.zip vs) m x=_;unfold II;exact eM (i:=i) (Bc.mp nd).2 (by simpa using h1) (by simpa using h2) hk
def start(N:Lw)(vs:Lx):St:=vs.map U++En (N.length-vs.length) Ah
def Yt(CX:AfF)(P:Bn)(w:Bw)(K:Ab)(mg:AA->LH)(base:BO)(N:Lw)(qual:AA)(scope:Scope)(f:Ag)(cd:Ai)(A:BQ)(outer:LU)(s:Au)(H:Hp)(E:XK):Cx where
 prog:=P
 w:=w
 K:=K
 mg:=mg
 base:=base
 A:=A.deeper (D0 qual scope s.heap.objs.size f cd)
 N:=N
 Qo:=s
 NR:=H
 env:=D0 qual scope s.heap.objs.size f cd
 outer:=outer
 stack:=D0 qual scope s.heap.objs.size f cd::outer
 ex:=[]
 calm:=Af
 fn:=λ_=>Af
 pn:=[]
 xe:=λe s'=>AW (A9 P w) (A.deeper<|D0 qual scope s.heap.objs.size f cd) (leaving (D0 qual scope s.heap.objs.size f cd) e) (λ_ s''=>CX outer H s E e s'') (λe' s''=>CX outer H s E e' s'') s'
def mF{sc:Scope}{n:Nat}(h:sc.names.lookup x=U .cell):∃c,(Kj n sc.names []).lookup x=U c:=by have q:=GY _ n []<|.inl h;exact Et.mp q
def xJ{CX:AfF}{P:Bn}{w:Bw}{K:Ab}{mg:AA->LH}{base:BO}{scope:Scope}{A:BQ}{outer:LU}{s s1:Au}{H:Hp}{E:XK}(S:O0 N ps scope)(hd:A.handled=Ah)(e0:bW P w K mg base A outer s H)(hl:vs.length=ps.length)(r:Vals vs us)(x:InCallC s s.heap.objs.size (IH (D0 qual scope s.heap.objs.size f cd).kindOf (ps.zip us) λ_=>Ah) (Kj (s.heap.objs.size+1) scope.names []) (II (D0 qual scope s.heap.objs.size f cd).kindOf (ps.zip us) λ_=>Ah) s1):
  Inv (Yt CX P w K mg base N qual scope f cd A outer s H E) [] (start N vs) H s1:=by
 have F:ps.length<=N.length:=by have:=congrArg Ez S.pre;rw[Bt]at this;omega
 let(n,I,rfl,B):=x.done;have g:∀b:Ag,b∉(Yt CX P w K mg base N qual scope f cd A outer s H E).ex:=λb z=>absurd (show b∈([])from z) M8
 refine#[#[e0.mod,S.kind,Y,Y,Ao _,λy z c n d=>?_,λy l=>?_,λy c _ h=>?_,λ_=>hd,HC e0.frames,.inr #[Y,Y],λb z=>absurd z<|g b,e0.bs,e0.Aat,λb _ _=>g b,λb z=>absurd z<|g b,e0.Xl,e0.AfZ],
  rfl,e0.bare,Un.kept B,#[_,x.toInCall.ns,λi y v n d j0=>?_],λy c h=>#[_,x.cell y c h],e0.N5.fresh<|Ao _,λy c h=>?_,λp j=>absurd (show p∈([]:List _)from j) M8,e0.N5.kept B,?_]
 ·exact name_of_addr x.apart (Dp n)<|Dp d
 ·rcases l with l|l
  ·exact mF l
  ·exact absurd Y<|S.Ahu _<|Dp l
 ·exact C6<|x.above y c<|Dp h
 ·have o:i<vs.length:=by
   unfold start at d;by_cases o:i<vs.length
   ·exact o
   ·rw[Dj<|by simpa using o]at d;rw[List.getElem?_replicate]at d;split at d<;>cases d
  have D:vs[i]?=U v:=by
   unfold start at d;rw[Dr (by simpa using o),Aj]at d;cases e:vs[i]? with
   |none=>rw[e]at d;cases d
   |some a=>rw[e]at d;cases d;rfl
  let(u,C,G):=r.get D;have j:ps[i]?=U y:=by rw[<-S.pre,Hh M6];exact n
  have m:ps.Nodup:=by rw[<-S.pre];exact S.nd.sublist<|IY _ _
  refine#[u,G,?_];rcases S.par y (AH j)with k|k
  ·exact .inl #[k,eP m j C k]
  ·let(c,e):=mF k;refine .inr #[.inl k,c,e,?_];have q:=x.cell y c e;rw[eM m j C (by show scope.names.lookup y≠_;rw[k];decide)]at q;exact q
 ·exact e0.N5.fresh<|C6<|x.above y c<|Dp h
 ·unfold start;show _=N.length;rw[AM,Ac,List.length_replicate];omega
def AfY{K:Ab}{base:BO}{k:Nat}{kV:Ai}(lk:K.lookup f=U #[oc,od,.func<|Bu name qual params body scope dV kV doc pm an cdv ct,osl])(hcd:DC K cdv qual=Af)(S:O0 N ps scope)(len:∀vs H Q E,sp vs H Q E->vs.length=ps.length)(hbody:∀(A:BQ)(outer:LU)(s:Au)(H:Hp)(vs:Lx)(Q:VK)(E:XK),N8 k (A.deeper<|D0 qual scope s.heap.objs.size f cdv)->sp vs H Q E ->
   ∃t,Q6 (Yt CX P w K mg base N qual scope f cdv A outer s H E) body t/\t {nx:=λ_ H'=>Q .Of H',rt:=Q} (start N vs) H):
  Si P w K mg base CX (k+1) f (Bu name qual params body scope dV kV doc pm an cdv ct) ps sp:=by
 refine#[len,λA outer s H z T vs Q E p d F r h=>?_];have M:=len _ _ _ _ h;have B:K.In s.heap:=d.mod.Aj2.keeps λb o e=>(d.bs b o e).1
 have l:s.heap.NoLimit:=d.mod.nolimit.keeps λb o e=>(d.bs b o e).1
 have a:∀y∈ps.zip T,scope.names.lookup y.1=U .local\/(scope.names.lookup y.1=U .cell/\((Kj (s.heap.objs.size+1) scope.names []).lookup y.1).isSome=Af):=λ⟨n,v⟩O=>by
  rcases S.par n (E5 O).1 with q|q
  ·exact .inl q
  ·exact .inr #[q,GY _ _ _<|.inl q]
 refine codeAny_call_function p.depth (B _ _ lk) Y S.co S.gen Y (PySem.W.codeRec_of B hcd)<|F _ _ _ _ ?_;refine wpAny_newFunctionEnv_cells S.kind a λL u3 C x=>?_
 subst u3;refine#[l.keeps x.toInCall.keep,codeAny_func ?_];let(t,D,G):=hbody A outer s H vs Q E (p.deeper _) h;have I:Inv (Yt CX P w K mg base N qual scope f cdv A outer s H E) [] (start N vs) H C:=xJ S p.hd d M r x;refine B1 (D [] C (start N vs) H _ I G) (λR j c=>?_) λe j c=>c
 have g:∀{i:St}{H':Hp}{v:V}{u:Ai},Inv (Yt CX P w K mg base N qual scope f cdv A outer s H E) [] i H' j->RelV v u->Q v H'->CE outer P w H s Q u j:=
  λ{i H' v u}j0 m q=>#[v,H',j0.os,j0.bare,j0.base,j0.N5,m,q]
 cases R with
 |ret u=>let(v,i,H',j0,m,q):=c;exact g j0 m q
 |next=>let(i,H',j0,q):=c;exact g (v:=V.Of) (u:=Cz) j0 Y q
 |brk=>let(_,_,_,q):=c;exact CD q
 |cont=>let(_,_,_,q):=c;exact CD q
section
variable{X:Cx}{x:AA}{p pos:CU}{e:Expr}{es:LJ}{t:TA}{id T:String}{r:Lx->Hp->VK->Prop}
abbrev Aoc(r:Lx->Hp->VK->Prop)(Q:VK):Lx->Hp->Prop:=λvs H=>r vs H Q
abbrev Am1(r:Lx->Hp->VK->Prop)(t:TA):TE:=λJ H Q=>t J H (Aoc r Q)
def OT(hc:P7 X (.builtin id) r)(hg:Gl X x)(hm:X.mg x=Ah)(hv:BD x=U (.builtin id))(ha:PA X (e::es) t)(hn:x≠"__name__":=by decide)(hdb:(x==("__debug__":AA))=An:=by decide)(he:AL (e::es) X.env=(An,eval e X.env)::AL es X.env:=by rfl)(hpl:(Ca pos<|AL es X.env).any (·.1)=An:=by rfl):PE X (.Call (.Name x p) (e::es) [] pos) (Am1 r t):=by intro a s J H Q I h;refine CJ<|TL I hg hm hv ?_ hn hdb;exact PyProof.Rows.callWith_builtin1 (OG (ha pos a s J H _ I h) λb i⟨c,d,j,f,g⟩=>hc a i J d c b Q j f g) he hpl
def XH(hc:P7 X (.type T) r)(hg:Gl X x)(hm:X.mg x=Ah)(hv:BD x=U (.type T))(ha:PA X (e::es) t)(hn:x≠"__name__":=by decide)(hdb:(x==("__debug__":AA))=An:=by decide)(he:AL (e::es) X.env=(An,eval e X.env)::AL es X.env:=by rfl)(hpl:(Ca pos<|AL es X.env).any (·.1)=An:=by rfl):PE X (.Call (.Name x p) (e::es) [] pos) (Am1 r t):=by intro a s J H Q I h;refine CJ<|TL I hg hm hv ?_ hn hdb;exact C2 (OG (ha pos a s J H _ I h) λb i⟨c,d,j,f,g⟩=>hc a i J d c b Q j f g) he hpl
end
end L2
namespace HT
open PySem PyProof.Rows
def lexLt:LD->LD->Bool
 |[],[]=>An
 |[],_::_=>Af
 |_::_,[]=>An
 |x::xs,y::ys=>if x=y then lexLt xs ys else decide (x<y)
def VM(x y:Int)(xs ys:LD):lexLt (x::xs) (y::ys)=if x=y then lexLt xs ys else decide (x<y):=rfl
def cT:lexLt [] []=An:=rfl
def Abo(y:Int)(ys:LD):lexLt [] (y::ys)=Af:=rfl
def Abn(x:Int)(xs:LD):lexLt (x::xs) []=An:=rfl
def AaM(A:BQ)(s:Au)(a:Int)(t:KL)(c:Int)(u:KL):∃e,BR A s (.int a t) (.int c u) e/\(e=Af↔a=c):=#[(a==c),Hb a t c u,M8]
def AcI(A:BQ)(s:Au)(a:Int)(t:KL)(c:Int)(u:KL)(prog:Bn)(w:Bw)(E:Ai->Au->Prop)(Q:Ai->Au->Prop)(h:Q (.bool<|decide<|a<c) s):AW (A9 prog w) A (G5 .Lt (.int a t)<|.int c u) Q E s:=(PyProof.Rows.lt_int h:AW _ A _ Q E s)
section
open PySem.SeqAt
open PySem.AutoSeq1 (wpAny_loadPart')
open PySem.MeetsSeq PySem.MeetsSeq2 PySem.MeetsSeq3
def eB (l b:Addr) (items items2:Array Value) (n n2:Nat) (dd dd2:Option Addr) (sl sl2:Array (Option Value)) (ns ms:LD) (hi:IntsAre items.toList ns) (hj:IntsAre items2.toList ms):
  Meets (Builtin.«tuple.__lt__» #[[.ref l,.ref b],[]])
   (fun _ R s=>s.heap.get? l=some {cls:=.type "tuple",dict:=dd,data:=.seq items n,slots:=sl}/\s.heap.get? b=some {cls:=.type "tuple",dict:=dd2,data:=.seq items2 n2,slots:=sl2} /\
    R (.ok<|.ret<|.bool<|lexLt ns ms) s):=
 .of_wp fun p w A R s h=>by
  obtain ⟨H,g,d,F,G⟩:=s;obtain ⟨L,K,h⟩:=h;have S:=AutoSeq1.sub_tuple_tuple;have P:items.size=ns.length:=by rw[<-hi.length];simp
  have O:items2.size=ms.length:=by rw[<-hj.length];simp
  wp_walk using wpAny_loadPart' L,wpAny_loadPart' K,wpAny_forIn_list _ (fun rest b E=>b.1=none/\E=#[H,g,d,F,G]/\∃ (C D:List Value) (j i:LD),rest=C.zip D /\
   IntsAre C j/\IntsAre D i/\j.length+items2.size=i.length+items.size/\R (.ok<|.ret<|.bool<|lexLt j i) #[H,g,d,F,G]) _
  case turn=>
   rintro ⟨y,x⟩ rest b E ⟨B,rfl,C,D,j,i,z,v,m,f,r⟩;cases v with
   |nil=>cases z
   |cons a t hvi'=>
     cases m with
     |nil=>cases z
     |cons c u hwi'=>
       injection z with hyx hrest;injection hyx with hy hx;subst hy hx;rw[VM] at r;simp only [List.length_cons] at f;obtain ⟨e,M,o⟩:=AaM _ _ a t c u;refine wpAny_bind<|M p w _ _ ?_;cases e with
       |true=>
         rw[if_pos<|o.mp Y] at r
         wp_walk
         exact #[Y,Y,_,_,_,_,hrest,hvi',hwi',by omega,r]
       |false=>
         rw[if_neg (fun q=>absurd (o.mpr q) Bool.false_ne_true)] at r;have I:=AcI A.in1 #[H,g,d,F,G] a t c u p w
         wp_walk using I
         exact #[_,Y,by simpa using r]
  case fin=>
   rintro ⟨N,Q⟩ E ⟨B,rfl,C,D,j,i,z,v,m,f,r⟩;subst B;have j0:lexLt j i=decide (items.size < items2.size):=by
    cases v with
    |nil=>
      cases m with
      |nil=>exact (decide_eq_false<|by omega).symm
      |cons c u hw=>simp only [List.length_nil,List.length_cons] at f;exact (decide_eq_true<|by omega).symm
    |cons a t j0=>
      cases m with
      |nil=>simp only [List.length_nil,List.length_cons] at f;exact (decide_eq_false<|by omega).symm
      |cons c u hw=>cases z
   rw[j0] at r
   wp_walk
   exact #[_,Y,by simpa [Builtin.Tuple.tupleCompareSizes] using r]
  case h=>exact #[Y,Y,items.toList,items2.toList,ns,ms,Y,hi,hj,by omega,h]
end
section
variable{prog:Bn}{w:Bw}{A:BQ}{E:Ai->Au->Prop}{s:Au}
def rM(hl:HX s.heap l items)(hb:HX s.heap b items2)(hi:CG items.toList ns)(hj:CG items2.toList ms)(hu:A.units<Cd)(h:Q (.bool<|lexLt ns ms) s):AW (A9 prog w) A (Be .Lt (.ref l)<|.ref b) Q E s:=by
 let((q,v,j,p),m,u,n,o):=id hl;let((i,f,d,g),a,e,r,c):=id hb;subst u o e c;exact richCompare_meets_room (op:=.Lt) #[_,m,Y] #[_,a,Y] PySem.F.slot_tuple_lt PySem.F.entry_tuple_lt (PySem.F.args_tuple_lt_2 _ _) (eB l b items items2 n r v f p g ns ms hi hj)
  #[m,a,show GF _≠Ai.notImplemented/\Q _ s from#[(λx=>nomatch x),h]] hu
def AdH{t:Ag}(ht:HX s.heap t vs.toArray)(hb:HX s.heap b ws.toArray)(hv:vs≠[])(h1:ws=[]->Q (.ref t) s)(h2:ws≠[]->Q (.ref s.heap.objs.size) {s with heap:=s.heap.push {cls:=.type "tuple",data:=.seq (vs++ws).toArray}})(hsz:vs.length+ws.length<=sizeLine):AW (A9 prog w) A (Ci .Add (.ref t)<|.ref b) Q E s:=by
 let((cls,r,data,o),i,q,n,l):=id ht;let((m,f,j,g),a,d,p,c):=id hb;simp only at q l d c;subst q l d c;have e:vs.toArray++ws.toArray=(vs++ws).toArray:=M8;by_cases h:ws=[]
 ·exact GA #[_,i,Y] #[_,a,Y] GX Iy EG Ey (Er _ _)
   (tuple_addW1 t b vs.toArray ws.toArray n p r f o g (by simpa using hv)<|by simp[h]) #[i,a,h1 h]
 ·refine GA #[_,i,Y] #[_,a,Y] GX Iy EG Ey (Er _ _)
   (tuple_addW2 t b vs.toArray ws.toArray n p r f o g (by simpa using hv) (by simpa using h) (by rw[Aq,Aq];exact hsz)) #[i,a,?_]
  rw[e];exact h2 h
def Q9(n d:Nat):LG->Nat
 |none=>d
 |some v=>if v<0 then(v+(n:Int)).toNat else min v.toNat n
def AmY(n d:Nat)(hd:d<=n)(o:LG):Q9 n d o<=n:=by
 cases o with
 |none=>exact hd
 |some v=>
   show(if v<0 then(v+(n)).toNat else min _ n)<=n;by_cases a:v<0
   ·rw[AG a];omega
   ·rw[Ay a];exact Jq _ _
def tU(v:Int)(n d:Nat):(if v<0 then max (v+(n:Int)) 0 else min v (n:Int))=((Q9 n d (U v):Nat):Int):=by
 show(if v<0 then max _ 0 else min v _)=(((if v<0 then(v+(n)).toNat else min _ n):Nat):Int);by_cases a:v<0
 ·simp only[AG a];omega
 ·simp only[Ay a];omega
def qK(lo hi:LG)(n:Nat):FG lo hi 1 (n:Int)=(((Q9 n 0 lo:Nat):Int),((Q9 n n hi:Nat):Int)):=by
 refine DQ ?_ ?_
 ·cases lo with
  |none=>rfl
  |some v=>exact tU v n 0
 ·cases hi with
  |none=>rfl
  |some v=>exact tU v n n
def rZ(i j:Nat):Ec (i:Int) (j:Int) 1=j-i:=by unfold Ec;split<;>omega
def aP(p:GZ v o)(h:Q o s):AW (A9 prog w) A (C3.Slice.slicePartIndex v) Q E s:=by
 cases p with
 |none=>exact KU h
 |int i t=>exact slicePart_int h
def XN{lo:LG}{Q:Int×Int×Nat->Au->Prop}(hs:s.heap.IsSliceOf sl vl vu .none)(pl:GZ vl lo)(pu:GZ vu hi)(h:Q (((Q9 n 0 lo:Nat):Int),1,Q9 n n hi-Q9 n 0 lo) s):AW (A9 prog w) A (C3.Slice.sliceApplied (.ref sl)<|pure (n:Int)) Q E s:=by let(d,a,c,b):=id hs;refine Ad<|Ad<|Jl a b Y<|Ad<|Jl a b Y<|Ad<|Jl a b Y<|Aw ?_;refine Ad<|KU ?_;refine Ad<|aP pl<|Ad<|aP pu<|Ad<|Aw ?_;show AW _ _ (match FG lo hi 1 _ with|(lo,hi)=>pure (lo,(1:Int),Ec lo hi 1)) _ _ s;rw[qK lo hi n];show AW _ _ (pure _) _ _ s;rw[rZ];exact Aw h
def Acj(xs:LS)(i k:Nat):((Ba k).filterMap λ(m:Nat)=>xs[((i:Int)+(m:Int)*1).toNat]?).toArray=((xs.toList.drop i).take k).toArray:=by
 have e:(λ(m:Nat)=>xs[((i:Int)+(m)*1).toNat]?)=λm=>xs[i+m]?:=by
  funext m
  have:((i:Int)+(m)*1).toNat=i+m:=M6;rw[this]
 rw[e];have:=pick_run xs i k;rw[List.filterMap_map]at this;have a:((λx=>xs[x]?)∘λx=>i+x)=λm=>xs[i+m]?:=rfl
 rw[a]at this;rw[this]
def Wd{t:Ag}{lo:LG}(ht:HX s.heap t items)(hs:s.heap.IsSliceOf sl vl vu .none)(pl:GZ vl lo)(pu:GZ vu hi)(hw:¬ (Q9 items.size 0 lo=0/\Q9 items.size items.size hi=items.size))(h:Q (.ref s.heap.objs.size) {s with heap:=s.heap.push {cls:=.type "tuple",data:=.seq ((items.toList.drop<|Q9 items.size 0 lo).take (Q9 items.size items.size hi-Q9 items.size 0 lo)).toArray}})(hsz:items.size<=sizeLine):AW (A9 prog w) A (FX (.ref t)<|.ref sl) Q E s:=by
 have a:sizeOk (.seq ((items.toList.drop<|Q9 items.size 0 lo).take (Q9 items.size items.size hi-Q9 items.size 0 lo)).toArray):=by show((items.toList.drop _).take _).toArray.size<=sizeLine;rw[Aq,Bt,Jj,AZ];omega
 let(f,d,e,g):=id hs;have c:s.TypeIs (.ref sl) "slice":=#[f,d,e];unfold FX
 try with_reducible refine BG ?_
 refine Ad<|wpAny_sequenceKey ht.typeIs M5 ?_;refine Ad (E8 ht.typeIs Dy
  (CI Dy ht.typeIs entry_tuple_getitem ?_<|args_tuple_getitem _ _))
 show AW _ _ (C3.Tuple.tupleItemsOf _ >>= _) _ _ s;refine Ad<|tupleItemsOf_ ht ?_;refine Ad<|wpAny_typeOf c ?_;refine Ad<|XN hs pl pu ?_;have b:¬ ((((Q9 items.size 0 lo):Int)==0&&(1:Int)==1&&(Q9 items.size items.size hi-Q9 items.size 0 lo)==items.size)=Af):=by intro q;rw[Bf,Bf]at q;have i:=Kp q.1.1;have j:=Kp q.2;exact hw #[M6,M6]
 show AW _ _ (if(((Q9 _ 0 lo:Nat):Int)==0&&(1)==1&&(Q9 _ _ hi-Q9 _ 0 lo)==items.size)=Af then _ else _) _ _ s;rw[Ay b,Acj]
 first
  |exact Ad<|ER (Aw #[_,Y,Aw h]) a
  |exact Ad _
  |exact Ad _
  |exact Ad _
end
end HT
namespace L2
open PySem PySem.Spec PyProof.Rows
abbrev TO:=St->Hp->(LG->Hp->Prop)->Prop
def PO(X:Cx)(e:Mn)(t:TO):Prop:=∀(pins:Ly)(s:Au)(J:St)(H:Hp)(Q:LG->Hp->Prop),Inv X pins J H s->t J H Q ->
  AW (A9 X.prog X.w) X.A (evalPart e X.env) (λu s'=>∃o H',Inv X pins J H' s'/\GZ u o/\Q o H') X.xe s
abbrev Afx:TO:=λ_ H Q=>Q Ah H
abbrev AjX(Q:LG->Hp->Prop):VK:=λx H=>AnD x λi=>Q (U i) H
abbrev AkU(t:TE):TO:=λJ H Q=>t J H (AjX Q)
def intsAre_of:∀{us:LB},Vals (ns.map V.int) us->CG us ns:=by
 induction ns with
 |nil=>intro us r;cases r;exact .nil
 |cons n ns ih=>
   intro us r;cases r with
   |cons r1 r2=>let(t,e):=r1;subst e;exact .cons n t (ih r2)
section
variable{X:Cx}{e:Expr}{te:TE}{lo hi:Mn}{tl th:TO}{pos p2:CU}
def Ae0:PO X Ah Afx:=by intro a s J H Q I h;exact Aw #[Ah,H,I,.none,h]
def Ae1(h:PE X e te):PO X (U e) (AkU te):=by
 intro a s J H Q I b;refine OG (h a s J H _ I b) λu j⟨x,c,g,d,f⟩=>?_
 let(i,rfl,q):=Ahq f;let(t,rfl):=d;exact#[U i,c,g,.int i t,q]
def Alc(X:Cx)(r:V->LG->LG->Hp->VK->Prop):Prop:=∀(pins:Ly)(s:Au)(J:St)(H:Hp)(x:V)(v vl vu:Ai)(lo hi:LG)(sl:Ag)(Q:VK),Inv X pins J H s->RelV x v->s.heap.IsSliceOf sl vl vu .none->GZ vl lo->GZ vu hi->r x lo hi H Q ->
  ∃T id,typeLookup (.type T) "__getitem__"=pure (U<|.builtin id)/\s.TypeIs v T/\AW (A9 X.prog X.w) X.A (FX v<|.ref sl) (EP X pins J Q) X.xe s
abbrev AmB(r:V->LG->LG->Hp->VK->Prop)(x:V)(l:LG)(Q:VK):LG->Hp->Prop:=λu H=>r x l u H Q
abbrev AmA(r:V->LG->LG->Hp->VK->Prop)(th:TO)(x:V)(J:St)(Q:VK):LG->Hp->Prop:=λl H=>th J H (AmB r x l Q)
abbrev Amz(r:V->LG->LG->Hp->VK->Prop)(tl th:TO)(J:St)(Q:VK):VK:=λx H=>tl J H (AmA r th x J Q)
abbrev AoB(r:V->LG->LG->Hp->VK->Prop)(te:TE)(tl th:TO):TE:=λJ H Q=>te J H (Amz r tl th J Q)
def Acb(hr:Alc X r)(he:PE X e te)(hl:PO X lo tl)(hu:PO X hi th):PE X (.Subscript e (.Slice lo hi Ah p2) pos) (AoB r te tl th):=by
 intro a s J H Q I h;refine JK<|OG (he a s J H _ I h) λv j0⟨x,E,o,i,B⟩=>?_
 refine wpAny_Slice<|OG (hl a j0 J E _ o B) λf y⟨l,K,D,F,L⟩=>OG (hu a y J K _ D L) λd c⟨u,g,p,G,C⟩=>?_
 rw[evalPart_none];refine Aw ?_;have j:Inv X a J g {c with heap:=c.heap.push {cls:=.type "slice",data:=.fields (zTo [f,d,.none])}}:=p.kept (t':=c.toks) λb M q=>Am _ q
 let(T,id,z,m,n):=hr a {c with heap:=c.heap.push {cls:=.type "slice",data:=.fields (zTo [f,d,.none])}} J g x v f d l u c.heap.objs.size Q j i (BO.IsSliceOf.new ..) F G C;show AW (A9 X.prog X.w) X.A (K5 e (.Slice lo hi Ah p2) v<|.ref c.heap.objs.size) (EP X a J Q) X.xe {c with heap:=c.heap.push {cls:=.type "slice",data:=.fields (zTo [f,d,.none])}};exact tail_any (ops:=[.ref c.heap.objs.size,v]) m z n (by with_unfolding_all rfl)
def wW(xs:Lx)(lo hi:LG):Lx:=(xs.drop<|HT.Q9 xs.length 0 lo).take (HT.Q9 xs.length xs.length hi-HT.Q9 xs.length 0 lo)
def XZ(xs:Lx)(lo hi:LG):(wW xs lo hi).length<=xs.length:=by unfold wW;rw[Bt,Jj];omega
def AmW(K:Ab):V->LG->LG->Hp->VK->Prop:=λx lo hi H Q=>∃a xs,x=.ref a/\P5 K H a xs /\
 ¬ (HT.Q9 xs.length 0 lo=0/\HT.Q9 xs.length xs.length hi=xs.length)/\∀p,H p=Ah->Q (.ref p) (upd H p<|.tup<|wW xs lo hi)
def Aik{K₀:Ab}{NR:Hp}[hK:N3 X K₀ NR]:Alc X (AmW K₀):=by
 let(rfl,rfl):=hK;intro g s J H x v B z l u y Q I o p m n h;let(a,e,rfl,w,j,q):=h;cases o;let(d,r,f,i):=I.tuple w;have c:d.toArray.size=e.length:=by exact r.length.symm
 refine#["tuple",_,Dy.lookup,f.typeIs,?_];refine HT.Wd f p m n (by rw[c];exact j) ?_ (by rw[c];exact i);rw[c];refine#[.ref _,_,I.laid (λb A q=>Am _ q) (Ao _) ?_,Y,q _<|I.N5.fresh<|Ao _];exact#[AS (XZ e l u) i,_,(r.drop _).take _,Kw _ _]
def AkB(K:Ab):R2:=λx y H Q=>∃a b xs ys,x=.ref a/\y=.ref b/\P5 K H a xs/\P5 K H b ys/\xs≠[]/\xs.length+ys.length<=sizeLine /\
 (ys=[]->Q (.ref a) H)/\(ys≠[]->∀p,H p=Ah->Q (.ref p) (upd H p<|.tup<|xs++ys))
def Vals.Za(r:Vals xs us):us=[]↔xs=[]:=by
 cases r with
 |nil=>simp
 |cons _ _=>simp
def uT{K₀:Ab}{NR:Hp}[hK:N3 X K₀ NR]:RU X (Ci .Add) (AkB K₀):=by let(rfl,rfl):=hK;intro f s J H x y v u Q I p r h;let(a,b,E,C,rfl,rfl,j,o,B,g,n,A):=h;cases p;cases r;let(l,d,i,_):=I.tuple j;let(e,c,m,_):=I.tuple o;refine HT.AdH i m (λz=>B<|d.Za.mp z) (λz=>#[.ref a,H,I,Y,n<|c.Za.mp z]) (λz=>?_) (by rw[<-d.length,<-c.length];exact g);refine#[.ref _,_,I.laid (λb D q=>Am _ q) (Ao _) ?_,Y,A (λw=>z<|c.Za.mpr w) _<|I.N5.fresh<|Ao _];exact#[by rw[AM];exact g,_,d.append c,Kw _ _]
end
def Aah(n:Nat)(i:Int):Option Nat:=if 0<=i then(if i<n then U i.toNat else Ah)else if -(n:Int)<=i then U (i+n).toNat else Ah
def Y1{α:Type}(xs:List α)(i:Int):Option α:=(Aah xs.length i).bind λj=>xs[j]?
def jO(h:Aah n i=U j):GW i n=U j/\j<n/\-(n:Int)<=i/\i<n:=by
 unfold Aah at h;by_cases b:0<=i
 ·rw[AG b]at h;by_cases a:i<n
  ·rw[AG a]at h;have e:=AK h;exact#[by rw[Jm b a,e],M6,M6,a]
  ·rw[Ay a]at h;cases h
 ·rw[Ay b]at h;by_cases a:-(n)<=i
  ·rw[AG a]at h;have e:=AK h;exact#[by rw[IS M6 a,e],M6,a,M6]
  ·rw[Ay a]at h;cases h
def gZ(h:Y1 xs i=U v):∃j,GW i xs.length=U j/\xs[j]?=U v/\j<xs.length/\-(xs.length:Int)<=i/\i<xs.length:=by
 unfold Y1 at h;cases e:Aah _ i with
 |none=>rw[e]at h;cases h
 |some j=>rw[e]at h;let(a,b,d,c):=jO e;exact#[j,a,h,b,d,c]
def QI{α:Type}{xs:List α}{j:Nat}{v:α}(h:xs[j]?=U v):Y1 xs (j:Int)=U v:=by
 have a:=(Av.mp h).1;have e:Aah xs.length (j)=U j:=by unfold Aah;rw[AG M6,AG M6];simp
 unfold Y1;rw[e];exact h
def tQ(b:Expr):Prop:=∀o i,G4 b An o i=operate [o,i] (FX o i)
def Ai3(X:Cx)(r:R2):Prop:=∀(value slice:Expr)(pins:Ly)(s:Au)(J:St)(H:Hp)(x y:V)(v u:Ai)(Q:VK),Inv X pins J H s->RelV x v->RelV y u->r x y H Q ->
  G4 slice An v u=operate [v,u] (FX v u)->AW (A9 X.prog X.w) X.A (K5 value slice v u) (EP X pins J Q) X.xe s
def AlB(X:Cx)(id:String)(r:V->Lx->Hp->VK->Prop):Prop:=∀(pins:Ly)(s:Au)(J:St)(H:Hp)(x:V)(xs:Lx)(v:Ai)(us:LB)(Q:VK),Inv X pins J H s->RelV x v->Vals xs us->r x xs H Q ->
  AW (A9 X.prog X.w) X.A (call (.builtin id) (v::us)) (EP X pins J Q) X.xe s
section
variable{X:Cx}{a b:Expr}{ta tb:TE}{pos:CU}
def Z3(hr:Ai3 X r)(ha:PE X a ta)(hb:PE X b tb)(hs:tQ b:=by exactλ_ _=>rfl):PE X (.Subscript a b pos) (AiV r ta tb):=by intro c s J H Q I h;exact JK (AgA ha hb I h λv u e x y d f g i q=>hr a b c e J d x y v u Q f g i q<|hs _ _)
def AkD(K:Ab):R2:=λx y H Q=>∃p xs i v,x=.ref p/\y=.int i/\Pb K H p xs/\Y1 xs i=U v/\Q v H
def AkE(K:Ab):R2:=λx y H Q=>∃p xs i v,x=.ref p/\y=.int i/\P5 K H p xs/\Y1 xs i=U v/\Q v H
def AmU:R2:=λx y H Q=>∃z i c,x=.str z/\y=.int i/\z.length<=sizeLine/\Y1 z.cps.toList i=U c/\Q (.str ⟨(zTo [c])⟩) H
def Aec{K₀:Ab}{NR:Hp}[hK:N3 X K₀ NR]:Ai3 X (AkD K₀):=by
 let(rfl,rfl):=hK;intro e d b s J H x y v u Q I G j0 h A;let(p,M,i,z,rfl,rfl,C,K,q):=h;cases G;let(t,rfl):=j0;let(g,r,l,L):=I.list C;let(j,c,B,N,D,E):=gZ K;let(w,o,f):=r.get B;have F:=r.length;have O:=Xz;have a:EP X b J Q w s:=#[z,H,I,f,q];by_cases n:0<=i
 ·have m:i.toNat=j:=by
   rw[Jm n E]at c;exact AK c
  exact item_listR l.isList n M6 (by rw[m];simpa using o) a A
 ·have m:(i+(g.toArray.size)).toNat=j:=by
   rw[IS M6 D]at c;rw[Aq,<-F];exact AK c
  exact IU l.isList.typeIs JX.lookup
   (wpAny_getItem_list_neg l.isList M6 (by rw[Aq]<;>omega) M6 (by rw[m];simpa using o) #[Y,a]) A
def rF{K₀:Ab}{NR:Hp}[hK:N3 X K₀ NR]:Ai3 X (AkE K₀):=by
 let(rfl,rfl):=hK;intro d b a s J H x y v u Q I B D h C;let(p,K,i,z,rfl,rfl,l,E,q):=h;cases B;let(t,rfl):=D;let(m,r,f,j0):=I.tuple l;let(j,n,g,L,F,G):=gZ E;let(w,o,e):=r.get g;have A:=r.length;have M:=Xz;have c:EP X a J Q w s:=#[z,H,I,e,q];exact IU f.typeIs slot_tuple_getitem.lookup
  (getItem_tuple f M6 M6 (by rw[Aq,<-A];exact n) (by simpa using o) #[Y,c]) C
def jP:Ai3 X AmU:=by
 intro b a e s J H x y v u Q I p w h r;let(z,i,c,rfl,rfl,E,g,q):=h;let(t,rfl):=p;let(B,rfl):=w;let(j,d,m,C,n,o):=gZ g;have l:z.cps.toList.length=z.length:=by simp[AA.length]
 rw[l]at d n o;have D:=Xz;exact tail_any (EE s z t) slot_str_getitem.lookup (getItem_str (by
  have f:decide (i < -(2 ^ 63))=An:=Ar M6;have A:decide (i≥2 ^ 63)=An:=Ar M6;rw[f,A,Bool.or_false]) (by rw[d];simpa using m) #[.str ⟨(zTo [c])⟩,H,I.tok _,#[_,Y],q]) r
def rQ(its:LB)(n j:Nat)(u:Ai):BH (·.setIfInBounds j u) {cls:=.type "list",data:=.seq its.toArray n}={cls:=.type "list",data:=.seq (its.set j u).toArray n}:=by simp[BH]
def Inv.lst{pins:Ly}{J:St}{H:Hp}{s:Au}{p:Ag}{xs:Lx}(I:Inv X pins J H s)(h:H p=U (.lst xs)):∃(its:LB)(n:Nat),Vals xs its/\s.heap.get? p=U {cls:=.type "list",data:=.seq its.toArray n}/\xs.length<=sizeLine:=by
 let(z,its,n,r,e):=I.N5 p _ h;exact#[its,n,r,e,z]
def Inv.Aho{pins:Ly}{J:St}{H:Hp}{s:Au}{p:Ag}{xs ys:Lx}{its its':LB}{n n':Nat}{f:CL->CL}(I:Inv X pins J H s)(h:H p=U (.lst xs))(ho:s.heap.get? p=U {cls:=.type "list",data:=.seq its.toArray n})(hf:f {cls:=.type "list",data:=.seq its.toArray n}={cls:=.type "list",data:=.seq its'.toArray n'})(r:Vals ys its')(hz:ys.length<=sizeLine)(t:Nat):Inv X pins J (upd H p<|.lst ys) {s with heap:=s.heap.update p f,toks:=t}:=by
 have e:(s.heap.update p f).get? p=U {cls:=.type "list",data:=.seq its'.toArray n'}:=by rw[D6 f ho (by rw[hf]<;>rfl),hf]
 refine I.write (x:=p) (e:=p) (by rw[h];trivial) (.inl Y) (λb u a q=>(Hz _ _<|Ax a).trans q) #[_,e] ?_;exact#[hz,its',n',r,e]
def AkF:V->V->V->Hp->(Hp->Prop)->Prop:=λo i v H Q=>∃p xs k j,o=.ref p/\i=.int k/\H p=U (.lst xs)/\Aah xs.length k=U j/\Q (upd H p<|.lst<|xs.set j v)
def set_list:Ai6 X AkF:=by
 intro b s J H o i v F j0 u Q I y B z h;let(p,E,k,j,rfl,rfl,w,C,q):=h;cases y;let(t,rfl):=B;let(a,n,r,e,A):=I.lst w;let(c,D,x,l):=jO C;have f:=r.length;have G:=Xz;have m:Inv X b J _ {s with heap:=s.heap.update p _}:=
  I.Aho w e (rQ a n j u) (r.set z j) (by rw[CM];exact A) _
 by_cases g:0<=k
 ·have d:k.toNat=j:=by
   rw[Jm g l]at c;exact AK c
  exact PySem.W.ki_setAt e g M6 (by rw[Aq,<-f];exact l) (by rw[d];exact#[_,m,q])
 ·have d:(k+(a.toArray.size)).toNat=j:=by
   rw[IS M6 x]at c;rw[Aq,<-f];exact AK c
  exact PySem.W.ki_setBack e M6 (by rw[Aq,<-f];exact x) M6 (by rw[d];exact#[_,m,q])
def kY(lo hi:LG)(n:Nat):(Ek lo hi Ah n).1=((HT.Q9 n 0 lo:Nat):Int)/\(Ek lo hi Ah n).2.1=((HT.Q9 n n hi:Nat):Int)/\(Ek lo hi Ah n).2.2=1:=by
 refine#[?_,?_,Y]
 ·cases lo with
  |none=>simp[Ek,HT.Q9]
  |some i=>
    simp only[Ek,HT.Q9,IM,show(1)>0 by decide,if_true];by_cases h:i<0
    ·simp only[h,if_true]<;>omega
    ·simp only[h,if_false]<;>omega
 ·cases hi with
  |none=>simp[Ek,HT.Q9]
  |some i=>
    simp only[Ek,HT.Q9,IM,show(1)>0 by decide,if_true];by_cases h:i<0
    ·simp only[h,if_true]<;>omega
    ·simp only[h,if_false]<;>omega
def dY(its:LB)(lo hi:LG):slicePick its.toArray lo hi Ah=((its.drop<|HT.Q9 its.length 0 lo).take (HT.Q9 its.length its.length hi-HT.Q9 its.length 0 lo)).toArray:=by let(a,b,c):=kY lo hi _;unfold slicePick;rw[a,b,c];simp only[sliceRange_one,pick_run,Aq]<;>rfl
def AmV(K:Ab):V->LG->LG->Hp->VK->Prop:=λx lo hi H Q=>∃a xs,x=.ref a/\Pb K H a xs/\∀p,H p=Ah->Q (.ref p) (upd H p<|.lst<|wW xs lo hi)
def Afu{K₀:Ab}{NR:Hp}[hK:N3 X K₀ NR]:Alc X (AmV K₀):=by let(rfl,rfl):=hK;intro e s J H x v A y f o w Q I m n i l h;let(a,j,rfl,p,q):=h;cases m;let(g,r,d,u):=I.list p;have c:=r.length;refine#["list",_,JX.lookup,d.isList.typeIs,?_];refine wpAny_getItem_list_slice d.isList n i l .none M8 ?_ (by rw[Aq]<;>omega);rw[dY,<-c];refine#[.ref _,_,I.laid (λb z q=>Am _ q) (Ao _) ?_,Y,q _<|I.N5.fresh<|Ao _];exact#[AS (XZ j f o) u,_,0,(r.drop _).take _,AN _ Y]
def O6:V->Bool
 |.Of=>Af
 |.bl _=>Af
 |.int _=>Af
 |.str _=>Af
 |_=>An
def lS:V->V->Bool
 |.Of,.Of=>Af
 |.bl a,.bl b=>a==b
 |.bl a,.int b=>(if a then 1 else 0)==b
 |.int a,.bl b=>a==(if b then 1 else 0)
 |.int a,.int b=>a==b
 |.str a,.str b=>a==b
 |_,_=>An
def iR(ry:RelV y u)(rx:RelV x v)(fy:O6 y=Af)(fx:O6 x=Af):BR A s u v (lS y x):=by
 cases y with
 |Of=>
   cases ry;cases x with
   |Of=>cases rx;exact FF _
   |bl b=>cases rx;exact BR.none_bool b
   |int b=>let(t,rfl):=rx;exact BR.none_int b t
   |str b=>let(t,rfl):=rx;exact BR.none_str b t
   |_=>exact absurd ((fx)) AQ
 |bl a=>
   cases ry;cases x with
   |Of=>cases rx;exact BR.bool_none a
   |bl b=>cases rx;exact BR.bool_bool a b
   |int b=>let(t,rfl):=rx;exact BR.bool_int a b t
   |str b=>let(t,rfl):=rx;exact BR.bool_str a b t
   |_=>exact absurd ((fx)) AQ
 |int a=>
   let(c,rfl):=ry;cases x with
   |Of=>cases rx;exact BR.int_none a c
   |bl b=>cases rx;exact BR.int_bool a c b
   |int b=>let(t,rfl):=rx;exact Hb a c b t
   |str b=>let(t,rfl):=rx;exact Ha a c b t
   |_=>exact absurd ((fx)) AQ
 |str a=>
   let(c,rfl):=ry;cases x with
   |Of=>cases rx;exact BR.str_none a c
   |bl b=>cases rx;exact BR.str_bool a c b
   |int b=>let(t,rfl):=rx;exact G8 a c b t
   |str b=>let(t,rfl):=rx;exact BR.str_str a c b t
   |_=>exact absurd ((fx)) AQ
 |_=>exact absurd ((fy)) AQ
def AfW(x:V)(u:Ai):Bool:=match u with
 |.none=>lS .Of x
 |.bool b=>lS (.bl b) x
 |.int i _=>lS (.int i) x
 |.str z _=>lS (.str z) x
 |_=>An
def AaN(r:RelV y u)(f:O6 y=Af):AfW x u=lS y x:=by
 cases y with
 |Of=>cases r;rfl
 |bl b=>cases r;rfl
 |int i=>let(t,rfl):=r;rfl
 |str z=>let(t,rfl):=r;rfl
 |_=>exact absurd ((f)) AQ
def Y0{x:V}{xs:Lx}{us:LB}(h:Vals xs us)(f:xs.all O6=Af):us.any (AfW x)=xs.any λy=>lS y x:=by
 induction h with
 |nil=>rfl
 |cons r t ih=>rw[Ct,Bf]at f;rw[CQ,CQ,AaN r f.1,ih f.2]
def TQ(rx:RelV x v)(fx:O6 x=Af):∀{xs:Lx}{us:LB},Vals xs us->xs.all O6=Af->∀u∈us,BR A s u v (AfW x u)
 |_,_,.nil,_=>λu a=>by cases a
 | y::xs,u::us,.cons r t,f=>λb a=>by
   rw[Ct,Bf]at f;rcases AB.mp a with rfl|a
   ·rw[AaN r f.1];exact iR r rx f.1 fx
   ·exact TQ rx fx t f.2 b a
def Ag3(x:V)(xs:Lx):Bool:=xs.any λy=>lS y x
def AmT(K:Ab)(neg:Bool):R2:=λx y H Q=>∃p xs,y=.ref p/\(Pb K H p xs\/P5 K H p xs)/\O6 x=Af/\xs.all O6=Af/\Q (.bl (if neg then !Ag3 x xs else Ag3 x xs)) H
def yJ{K₀:Ab}{NR:Hp}[hK:N3 X K₀ NR]:RU X (Be .In) (AmT K₀ An):=by
 let(rfl,rfl):=hK;intro f s J H x y v u Q I g i h;let(p,l,rfl,b,e,fs,q):=h;cases i;rcases b with b|b
 ·let(a,r,d,j):=I.list b;refine SeqAt.in_listAt _ d.isList (λw c=>TQ g e r fs w<|by simpa using c) #[.bl _,H,I,Y,?_];rw[show a.toArray.any _=a.any (AfW x) by simp,Y0 r fs];exact q
 ·let(a,r,d,j):=I.tuple b;refine SeqAt.in_tupleAt _ d (λw c=>TQ g e r fs w<|by simpa using c) #[.bl _,H,I,Y,?_];rw[show a.toArray.any _=a.any (AfW x) by simp,Y0 r fs];exact q
def jX{K₀:Ab}{NR:Hp}[hK:N3 X K₀ NR]:RU X (Be .NotIn) (AmT K₀ Af):=by
 let(rfl,rfl):=hK;intro f s J H x y v u Q I g i h;let(p,l,rfl,b,e,fs,q):=h;cases i;rcases b with b|b
 ·let(a,r,d,j):=I.list b;refine SeqAt.notIn_listAt _ d.isList (λw c=>TQ g e r fs w<|by simpa using c) #[.bl _,H,I,Y,?_];rw[show a.toArray.any (AfW x)=a.any (AfW x) by simp,Y0 r fs];exact q
 ·let(a,r,d,j):=I.tuple b;refine SeqAt.notIn_tupleAt _ d (λw c=>TQ g e r fs w<|by simpa using c) #[.bl _,H,I,Y,?_];rw[show a.toArray.any _=a.any (AfW x) by simp,Y0 r fs];exact q
def yV(K₀:Ab):Lx->Hp->VK->Prop:=λxs H Q=>∃p ys,xs=[.ref p]/\(Pb K₀ H p ys\/P5 K₀ H p ys)/\Q (.int ys.length) H
def PL{K₀:Ab}{NR:Hp}[hK:N3 X K₀ NR]:P7 X (.builtin "len") (yV K₀):=by
 let(rfl,rfl):=hK;intro f s J H m j Q I r h;let(p,l,rfl,b,q):=h;let(u,rfl,g):=vals1 r;cases g;have n:=Xz;rcases b with b|b
 ·let(d,c,e,i):=I.list b;have a:=c.length;exact Calls.call_len_list e.isList (by simp only[Aq]<;>omega) #[.int _,H,I.tok _,#[s.toks+1,by rw[Aq,a]],q]
 ·let(d,c,e,i):=I.tuple b;have a:=c.length;exact len_tuple e (by simp only[Aq]<;>omega) #[.int _,H,I.tok _,#[s.toks+1,by rw[Aq,a]],q]
def yW:Lx->Hp->VK->Prop:=λxs H Q=>∃z,xs=[.str z]/\z.length<=sizeLine/\Q (.int z.length) H
def iC:P7 X (.builtin "len") yW:=by intro a s J H c b Q I r h;let(z,rfl,e,q):=h;let(u,rfl,t,rfl):=vals1 r;have d:=Xz;exact len_str M6 #[.int _,H,I.tok _,#[_,Y],q]
def yX(K₀:Ab):Lx->Hp->VK->Prop:=λxs H Q=>∃p ys,xs=[.ref p]/\(Pb K₀ H p ys\/P5 K₀ H p ys)/\∀l,H l=Ah->Q (.ref l) (upd H l<|.lst ys)
def iE{K₀:Ab}{NR:Hp}[hK:N3 X K₀ NR]:P7 X (.type "list") (yX K₀):=by
 let(rfl,rfl):=hK;intro j s J H E D Q I r h;let(p,z,rfl,i,q):=h;let(u,rfl,C):=vals1 r;cases C;have l:∀(a:LB),Vals z a->z.length<=sizeLine->∀(c:BO)(f:Nat),(∀b o',s.heap.get? b=U o'->c.get? b=U o') ->
   c.get? _=U _->EP X j J Q _ {s with heap:=c}:=λa d v c f g e=>
  #[.ref _,_,I.laid g (Ao _) (show Oy _ X.w _ c _ (.lst z)from#[v,a,f,d,e]),Y,q _<|I.N5.fresh<|Ao _]
 rcases i with i|i
 ·let(a,d,A,v):=I.list i;have m:=d.length;let(o,y,B,n,x):=A.isList;exact K1 p (.inl Y) y B x (λc f g e=>l a d v c f g e) (by simp only[Aq]<;>omega)
 ·let(a,d,A,v):=I.tuple i;have m:=d.length;let(o,y,B,n,x):=A;exact K1 p (.inr Y) y B x (λc f g e=>l a d v c f g e) (by simp only[Aq]<;>omega)
def Ak1(K:Ab)(T:String)(x:V)(H:Hp):Prop:=match x with
 |.str _=>T="str"
 |.int _=>T="int"
 | .ref p=>(T="list"/\∃xs,Pb K H p xs)\/(T="tuple"/\∃o,K.lookup p=U o/\o.cls=.type "tuple"/\o.dict=Ah) \/
   (T="dict"/\((∃kvs,H p=U (.dK kvs))\/∃kvs,H p=U (.dT kvs)))\/(T="set"/\∃S n,H p=U (.set S n))
 |_=>False
def Ada(I:Inv X pins J H s)(r:RelV x v)(ty:Ak1 X.K T x H):
  s.TypeIs v T/\∀a,v=.ref a->∃ob,s.heap.get? a=U ob/\ob.dict=Ah:=by
 cases x with
 |str z=>let(t,rfl):=r;cases((ty));exact#[EE s z t,λ_ e=>nomatch e]
 |int i=>let(t,rfl):=r;cases((ty));exact#[typeIs_int s i t,λ_ e=>nomatch e]
 |ref p=>
   cases r;rcases ty with⟨rfl,u,l⟩|⟨rfl,o,b,q,f⟩|⟨rfl,b⟩|⟨rfl,S,n,b⟩
   ·let(m,_,j,_):=I.list l;refine#[j.isList.typeIs,λa e=>?_];cases e;let(o,n,e,c,f,_):=j;exact#[o,e,f]
   ·refine#[#[o,I.X2 p o b,q],λa e=>?_];cases e;exact#[o,I.X2 _ o b,f]
   ·have z:∃o,s.heap.get? p=U o/\o.ExactDict:=by
     rcases b with⟨g,b⟩|⟨g,b⟩
     ·let(_,_,_,_,o,_,_,e,d,_):=I.N5 p _ b;exact#[o,e,d]
     ·let(_,_,_,_,o,_,_,e,d,_):=I.N5 p _ b;exact#[o,e,d]
    let(o,e,d):=z;refine#[#[o,e,d.1],λa h=>?_];cases h;exact#[o,e,d.2.1]
   ·let(o,_,_,_,e,d,_):=I.N5 p _ b;refine#[#[o,e,d.1],λa h=>?_];cases h;exact#[o,e,d.2.1]
 |_=>exact CD ty
def Amd(K:Ab)(T:String)(r:V->Lx->Hp->VK->Prop)(Q:VK):VK:=λx H1=>Ak1 K T x H1/\r x [] H1 Q
abbrev Am0(K:Ab)(T:String)(r:V->Lx->Hp->VK->Prop)(to:TE):TE:=λJ H Q=>to J H (Amd K T r Q)
abbrev AjQ(r:V->Lx->Hp->VK->Prop)(x:V)(Q:VK):Lx->Hp->Prop:=λxs H=>r x xs H Q
def Ans(K:Ab)(T:String)(r:V->Lx->Hp->VK->Prop)(t:TA)(J:St)(Q:VK):VK:=λx H1=>Ak1 K T x H1/\t J H1 (AjQ r x Q)
abbrev Aox(K:Ab)(T:String)(r:V->Lx->Hp->VK->Prop)(to:TE)(t:TA):TE:=λJ H Q=>to J H (Ans K T r t J Q)
variable{o e:Expr}{es:LJ}{to:TE}{t:TA}{name:AA}{apos cpos:CU}{T id:String}{r:V->Lx->Hp->VK->Prop}
def AhM(pa:HR T)(slot:Slot T name id)(hty:KG (.builtin id)=pure (.type "method_descriptor"))(hm:AlB X id r)(ho:PE X o to)(hbase:Co o name X.env (eval o X.env)=eval o X.env:=by rfl)(hline:(apos.endLine==cpos.line)=Af:=by rfl){K₀:Ab}{NR:Hp}[hK:N3 X K₀ NR]:PE X (.Call (.Attribute o name apos) [] [] cpos) (Am0 K₀ T r to):=by
 let(rfl,rfl):=hK;intro a s J H Q I h;refine IG hbase hline<|OG (ho a s J H _ I h) λv i⟨x,d,c,b,j,f⟩=>?_
 let(g,e):=Ada c b j;exact#[T,id,pa,slot,hty,g,e,Cf Y<|Ie<|hm a i J d x [] v [] Q c b .nil f]
def X5(pa:HR T)(slot:Slot T name id)(hty:KG (.builtin id)=pure (.type "method_descriptor"))(hm:AlB X id r)(ho:PE X o to)(ha:PA X (e::es) t)(hbase:Co o name X.env (eval o X.env)=eval o X.env:=by rfl)(hfew:((Ca cpos<|AL (e::es) X.env).all (λx=>!x.1)&&(Dw cpos<|Cp [] X.env).all (λx=>x.1.isSome)
   && decide ((e::es).length+([]:Mf).length+(if([]:Mf).isEmpty then 0 else 1)<30))=Af:=by rfl)(hline:(apos.endLine==cpos.line)=Af:=by rfl)(hs:AL (e::es) X.env=(An,eval e X.env)::AL es X.env:=by rfl)(hplain:(Ca cpos<|AL es X.env).any (·.1)=An:=by rfl){K₀:Ab}{NR:Hp}[hK:N3 X K₀ NR]:
  PE X (.Call (.Attribute o name apos) (e::es) [] cpos) (Aox K₀ T r to t):=by
 let(rfl,rfl):=hK;intro a s J H Q I h;refine wpAny_Call_method_late hbase hfew hline Y<|OG (ho a s J H _ I h) λv w⟨x,l,c,b,y,q⟩=>?_
 let(u,n):=Ada c b y;refine#[T,id,pa,slot,hty,u,n,?_];have d:=ha cpos a w J l _ c q;rw[hs]at d ⊢;refine Cf (by show(An||(Ca cpos _).any _)=An;rw[hplain]<;>rfl)<|Dh ?_;exact OG d λi m⟨j,g,p,f,z⟩=>hm a m J g x j v i Q p b f z
end
def Ady(X:Cx)(id:String)(r:V->Lx->Hp->VK->Prop):Prop:=∀(pins:Ly)(s:Au)(J:St)(H:Hp)(x:V)(xs:Lx)(v:Ai)(us:LB)(Q:VK),Inv X pins J H s->RelV x v->Vals xs us->r x xs H Q ->
  AW (A9 X.prog X.w) X.A (call (.builtin id) (v::us)) (EP X pins J Q) X.xe s
def Vals.one{x:V}{us:LB}(h:Vals [x] us):∃u,us=[u]/\RelV x u:=by
 cases h with
 |cons r t=>cases t;exact#[_,Y,r]
def Vals.two{x y:V}{us:LB}(h:Vals [x,y] us):∃u v,us=[u,v]/\RelV x u/\RelV y v:=by
 cases h with
 |cons r t=>let(v,rfl,q):=Vals.one t;exact#[_,v,Y,r,q]
def Vals.zero:∀{us:LB},Vals [] us->us=[]
 |_,.nil=>rfl
def Vals.eraseIdx:∀{xs:Lx}{us:LB}(i:Nat),Vals xs us->Vals (xs.eraseIdx i) (us.eraseIdx i)
 |_,_,_,.nil=>.nil
 |_,_,0,.cons _ t=>t
 |_,_,i+1,.cons r t=>.cons r (Vals.eraseIdx i t)
def fV:∀(l:List α)(i:Nat),(l.eraseIdx i).length<=l.length
 |[],_=>Ao _
 |_::_,0=>Ft _
 |_::r,i+1=>CC (fV r i)
section
variable{X:Cx}{pins:Ly}{J:St}{H:Hp}{s:Au}{l:Ag}{xs ys:Lx}
def Inv.Aer{its its':LB}{n:Nat}{f:LS->LS}{t':Nat}(I:Inv X pins J H s)(hH:H l=U (.lst xs))(e:s.heap.get? l=U {cls:=.type "list",data:=.seq its.toArray n})(hf:f its.toArray=its'.toArray)(hv:Vals ys its')(hz:ys.length<=sizeLine):Inv X pins J (upd H l<|.lst ys) {s with heap:=s.heap.update l<|BH f,toks:=t'}:=by
 have q:=PySem.IsL.update e f;rw[hf]at q;refine I.write (by rw[hH];exact trivial) (.inl Y) (λc u b a=>(Hz _ _<|Ax b).trans a) #[_,q] ?_;exact#[hz,its',_,hv,q]
def Inv.Ahl(I:Inv X pins J H s)(hv:Vals ys its)(hz:ys.length<=sizeLine):Inv X pins J (upd H s.heap.objs.size<|.lst ys) {s with heap:=s.heap.push {cls:=.type "list",data:=.seq its.toArray},toks:=t'}:=I.laid (λ_ _ q=>Am _ q) (Ao _) #[hz,its,0,hv,AN _ Y]
def Inv.fresh(I:Inv X pins J H s):H s.heap.objs.size=Ah:=I.N5.fresh (Ao _)
def Inv.Aes(I:Inv X pins J H s)(hH:H l=U (.lst xs)):xs.length<=sizeLine/\∃(its:LB)(n:Nat),Vals xs its/\xs.length=its.length/\s.heap.get? l=U {cls:=.type "list",data:=.seq its.toArray n}:=by let(z,its,n,r,e):=I.N5 l _ hH;exact#[z,its,n,r,r.length,e]
end
section
variable{X:Cx}
def Afj:V->Lx->Hp->VK->Prop:=λx vs H Q=>∃l xs y,x=.ref l/\vs=[y]/\H l=U (.lst xs)/\xs.length<sizeLine/\Q .Of (upd H l<|.lst<|xs++[y])
def UI:Ady X "list.append" Afj:=by intro b s J H x j v i Q I f g h;let(l,o,y,rfl,rfl,a,p,q):=h;cases f;let(u,rfl,d):=g.one;let(z,c,n,r,m,e):=I.Aes a;refine DZ F.slot_list_append #[_,e,Y] F.entry_list_append (F.args_list_append_2 _ _) (PySem.list_append l _ n u (by rw[Aq];omega)) #[e,?_];refine#[.Of,_,I.Aer a e M8 (r.append<|.cons d .nil) ?_,Y,q];rw[AM,Bh];omega
def Ah7:V->Lx->Hp->VK->Prop:=λx vs H Q=>∃l xs i k y,x=.ref l/\vs=[.int i]/\H l=U (.lst xs)/\-(2 ^ 63)<=i/\i<2 ^ 63/\GW i xs.length=U k/\xs[k]?=U y/\Q y (upd H l<|.lst<|xs.eraseIdx k)
def AbE:Ady X "list.pop" Ah7:=by
 intro c s J H x G v E Q I C D h;let(l,B,i,k,y,rfl,rfl,b,A,m,f,o,q):=h;cases C;let(u,rfl,p):=D.one;let(t,rfl):=p;let(z,j,n,r,g,e):=I.Aes b;let(w,d,a):=r.get o;refine DZ F.slot_list_pop #[_,e,Y] F.entry_list_pop (F.args_list_pop_2 _ _)
  (MeetsSeq.list_pop_at l _ n i t k w (fitsIndex_both A m) (by rw[Aq,<-g];exact f) (by rw[<-B4];exact d) (by rw[Aq];omega)) #[e,?_]
 refine#[y,_,I.Aer b e ?_ (r.eraseIdx k) ?_,a,q]
 ·rw[D5]
 ·have:=fV B k;omega
def Ah5:V->Lx->Hp->VK->Prop:=λx vs H Q=>∃l xs,x=.ref l/\vs=[]/\H l=U (.lst xs)/\Q .Of (upd H l<|.lst [])
def AbD:Ady X "list.clear" Ah5:=by intro c s J H x j v i Q I f g h;let(l,o,rfl,rfl,b,q):=h;cases f;have a:=g.zero;subst a;let(z,d,n,r,m,e):=I.Aes b;refine DZ F.slot_list_clear #[_,e,Y] F.entry_list_clear (F.args_list_clear_1 _) (AutoSeq1.list_clear_list_0 l _ n (by rw[Aq];omega)) #[e,?_];exact#[.Of,_,I.Aer b e Y .nil<|Bv _,Y,q]
end
section
variable{κ:Type}[DecidableEq κ]
def Pu(kvs:List (κ×V))(k:κ):L9:=(kvs.find? λkv=>decide<|kv.1=k).map (·.2)
def putK(kvs:List (κ×V))(k:κ)(v:V):List (κ×V):=if(kvs.any λkv=>decide<|kv.1=k)=Af then kvs.map (λkv=>if kv.1=k then(kv.1,v)else kv)else kvs++[(k,v)]
def Rk(kvs:List (κ×V))(k:κ):List (κ×V):=kvs.filter λkv=>decide (kv.1≠k)
def Uz{k:κ}(e:p.1=k):Pu (p::r) k=U p.2:=by simp[Pu,A7,e]
def SI{k:κ}(e:¬ p.1=k):Pu (p::r) k=Pu r k:=by simp[Pu,A7,e]
def pX(k:κ):∀kvs:List (κ×V),(kvs.any λkv=>decide<|kv.1=k)=(Pu kvs k).isSome
 |[]=>rfl
 | p::r=>by
   rw[CQ];by_cases e:p.1=k
   ·simp only[Uz e,Ap e,Bool.true_or,Option.isSome_some]
   ·rw[SI e,Ar e,JQ];exact pX k r
def TM(kvs:List (κ×V))(k:κ)(v:V):(putK kvs k v).length<=kvs.length+1:=by
 unfold putK;split
 ·rw[Ac];omega
 ·rw[AM,AI,CN];omega
def SK.Sq(r:SK o u):o.isSome=u.isSome:=by
 cases o with
 | none=>cases u with
   |none=>rfl
   |some _=>exact((r)).elim
 | some _=>cases u with
   |none=>exact((r)).elim
   |some _=>rfl
def SK.getD(r:SK o u)(rd:RelV d d'):RelV (o.getD d) (u.getD d'):=by
 cases o with
 | none=>cases u with
   |none=>exact rd
   |some _=>exact((r)).elim
 | some _=>cases u with
   |none=>exact((r)).elim
   |some _=>exact r
def KV.val(r:KV kvs vs)(k:κ):SK (Pu kvs k) (Ds vs k):=by
 unfold KV at r;induction r with
 |nil=>exact Bk
 |@cons p q ps qs h t ih=>
   let(c,d):=h;by_cases e:p.1=k
   ·have a:q.1=k:=c.symm.trans e;have b:Ds (q::qs) k=U q.2:=by simp[Ds,A7,a]
    rw[Uz e,b];exact d
   ·have a:¬ q.1=k:=λz=>e (c.trans z)
    have b:Ds (q::qs) k=Ds qs k:=by simp[Ds,A7,a]
    rw[SI e,b];exact ih
def KV.any(r:KV kvs vs)(k:κ):(kvs.any λkv=>decide<|kv.1=k)=vs.any λkv=>decide (kv.1=k):=by
 induction r with
 |nil=>rfl
 |cons h t a=>rw[CQ,CQ,a,h.1]
def KV.Aia(r:KV kvs vs)(k:κ)(ry:RelV y u):
  KV (kvs.map λkv=>if kv.1=k then(kv.1,y)else kv) (vs.map λkv=>if kv.1=k then(kv.1,u)else kv):=by
 induction r with
 |nil=>exact .nil
 |@cons p q ps qs h t ih=>
   rw[Az,Az];refine .cons ?_ ih;let(a,b):=h;by_cases e:p.1=k
   ·rw[AG e,AG<|a.symm.trans e];exact#[a,ry]
   ·rw[Ay e,Ay λz=>e<|a.trans z];exact#[a,b]
def KV.put(r:KV kvs vs)(k:κ)(ry:RelV y u):KV (putK kvs k y) (stored vs k u):=by
 unfold putK stored;rw[r.any k];by_cases e:(vs.any λa=>decide<|a.1=k)=Af
 ·rw[AG e,AG e];exact r.Aia k ry
 ·rw[Ay e,Ay e];exact JH r #[Y,ry]
def KV.drop(r:KV kvs vs)(k:κ):KV (Rk kvs k) (without vs k):=by
 unfold Rk without;induction r with
 |nil=>exact .nil
 |@cons p q ps qs h t ih=>
   let(c,d):=h;rw[Dm,Dm];by_cases e:p.1=k
   ·have a:¬ decide (p.1≠k)=Af:=by simp[e]
    have b:¬ decide (q.1≠k)=Af:=by simp[c.symm.trans e]
    rw[Ay a,Ay b];exact ih
   ·have f:¬ q.1=k:=λz=>e (c.trans z)
    have a:decide (p.1≠k)=Af:=by simp[e]
    have b:decide (q.1≠k)=Af:=by simp[f]
    rw[AG a,AG b];exact .cons #[c,d] ih
def KV.keys{kvs:List (κ×V)}{vs:List (κ×Ai)}(r:KV kvs vs):kvs.map (·.1)=vs.map (·.1):=by
 induction r with
 |nil=>rfl
 |cons h t a=>rw[Az,Az,a,h.1]
def KV.length(r:KV kvs vs):kvs.length=vs.length:=AE r
def AaG(kvs:List (κ×V))(k:κ):(Rk kvs k).length<=kvs.length:=BB _ _
end
def Wo{k:Key}(r:RelV (kV k) u):(Oj P w).is k u=Af:=by
 cases k with
 |inl i=>let(t,e):=((r));subst e;exact nX P w i t
 |inr x=>let(t,e):=((r));subst e;exact nY P w x t
def fN:∀{ks:LM}{us:LB},Vals (ks.map kV) us->ItemsAre (Oj P w) ks us
 |[],_,r=>by rw[DU]at r;cases r;exact .nil
 | k::ks,_,r=>by
   rw[Az]at r;cases r with
   |cons h t=>exact .cons (Wo h) (fN t)
abbrev KT(H:Hp):L6->LX->Prop:=Paired λp q=>p.1=q.1/\H q.2.1=U (.tup<|p.1.map kV)/\RelV p.2 q.2.2
def KT.val(r:KT H kvs xs)(k:LM):SK (Pu kvs k) ((HM xs k).map (·.2)):=by
 induction r with
 |nil=>exact Bk
 |@cons p q ps qs h t ih=>
   let(c,_,d):=h;by_cases e:p.1=k
   ·have a:=c.symm.trans e;have b:HM (q::qs) k=U q.2:=by simp[HM,A7,a]
    rw[Uz e,b];exact d
   ·have a:¬ q.1=k:=λz=>e (c.trans z)
    have b:HM (q::qs) k=HM qs k:=by simp[HM,A7,a]
    rw[SI e,b];exact ih
def KT.Aia(r:KT H kvs xs)(k:LM)(ry:RelV y u):
  KT H (kvs.map λkv=>if kv.1=k then(kv.1,y)else kv) (xs.map<|putAt k u):=by
 induction r with
 |nil=>exact .nil
 |@cons p q ps qs h t ih=>
   rw[Az];refine .cons ?_ ih;let(a,b,c):=h;unfold putAt;by_cases e:p.1=k
   ·rw[AG e,AG<|a.symm.trans e];exact#[a,b,ry]
   ·rw[Ay e,Ay λz=>e<|a.trans z];exact#[a,b,c]
def KT.put(r:KT H kvs xs)(k:LM)(hb:H b=U (.tup<|k.map kV))(ry:RelV y u):KT H (putK kvs k y) (storedH xs k b u):=by
 have e:(kvs.any λa=>decide<|a.1=k)=(HM xs k).isSome:=by rw[pX,(r.val k).Sq,C7]
 unfold putK storedH;rw[e];by_cases q:(HM xs k).isSome=Af
 ·rw[AG q,AG q];exact r.Aia k ry
 ·rw[Ay q,Ay q];exact JH r #[Y,hb,ry]
def KT.keeps(r:KT H kvs xs)(ht:∀b ys,H b=U (.tup ys)->H' b=U (.tup ys)):KT H' kvs xs:=Paired.Ahs r λ_ _ z=>#[z.1,ht _ _ z.2.1,z.2.2]
section
variable{P:Bn}{w:Bw}{H:Hp}{h:BO}{a:Ag}
def Agq(ok:VZ P w H h)(e:Rd H a u):Oy P w H h a u:=e.ok ok
def Qy(ok:VZ P w H h)(e:Rd H a (.dK kvs)):kvs.length<=sizeLine/\(a==Cs)=An/\∃vs,KV kvs vs/\h.DictOf (Oj P w) a vs:=show Oy P w H h a _ from Agq ok e
def eW(ok:VZ P w H h)(e:H a=U (.dK kvs)):kvs.length<=sizeLine/\(a==Cs)=An/\∃vs,KV kvs vs/\h.DictOf (Oj P w) a vs:=Qy ok (.inl e)
def VI(ok:VZ P w H h)(e:H a=U (.tup<|ks.map kV)):(FW<|Oj P w).is h ks a:=by let(_,b,r,o,f,c,n,d):=(show Oy P w H h a (.tup<|ks.map kV)from ok a _ e);exact#[o,b.toArray,n,f,c,d,by simpa using fN r]
def Zu(ok:VZ P w H h)(e:Rd H a (.dT kvs)):kvs.length<=sizeLine/\(a==Cs)=An /\
  ∃xs,KT H kvs xs/\h.DictOfH (FW<|Oj P w) a xs:=by
 let(z,y,xs,r,o,i,c,g,d,n,f,j):=(show Oy P w H h a _ from Agq ok e);refine#[z,y,xs,r,o,i,c,g,d,n,f,λx b=>?_,j];have all:∀{l:List _}{m:List _},KT H l m->∀x∈m,(FW<|Oj P w).is h x.1 x.2.1:=by
  intro l m q;induction q with
  |nil=>intro x b;exact nomatch b
  |@cons p q ps qs hq t ih=>
    intro x b;rcases AB.mp b with e|b
    ·subst e;exact VI ok (by rw[<-hq.1];exact hq.2.1)
    ·exact ih x b
 exact all r x b
def AfS(ok:VZ P w H h)(e:H a=U (.dT kvs)):kvs.length<=sizeLine/\(a==Cs)=An /\
  ∃xs,KT H kvs xs/\h.DictOfH (FW<|Oj P w) a xs:=Zu ok (.inl e)
end
def Zl(H:Hp)(a:Ag)(y:V)(r:L9):Prop:=(∃kvs k,Rd H a (.dK kvs)/\y=kV k/\r=Pu kvs k)\/∃kvs k b,Rd H a (.dT kvs)/\y=.ref b/\H b=U (.tup<|k.map kV)/\r=Pu kvs k
def bV(H:Hp)(a:Ag)(y v:V)(H':Hp):Prop:=(∃kvs k,H a=U (.dK kvs)/\y=kV k/\kvs.length<sizeLine/\H'=upd H a (.dK<|putK kvs k v)) \/
 ∃kvs k b,H a=U (.dT kvs)/\y=.ref b/\H b=U (.tup<|k.map kV)/\kvs.length<sizeLine/\H'=upd H a (.dT<|putK kvs k v)
def Zl.k{k:Key}(e:H a=U (.dK kvs)):Zl H a (kV k) (Pu kvs k):=.inl #[kvs,k,.inl e,Y,Y]
def bV.k{k:Key}(e:H a=U (.dK kvs))(hl:kvs.length<sizeLine):bV H a (kV k) v (upd H a<|.dK<|putK kvs k v):=.inl #[kvs,k,e,Y,hl,Y]
def bV.t{k:LM}(e:H a=U (.dT kvs))(eb:H b=U (.tup<|k.map kV))(hl:kvs.length<sizeLine):bV H a (.ref b) v (upd H a<|.dT<|putK kvs k v):=.inr #[kvs,k,b,e,Y,eb,hl,Y]
section
variable{X:Cx}{pins:Ly}{J:St}{H:Hp}{s:Au}{a:Ag}{y v:V}{u r:Ai}{o:L9}{A:BQ}{E:Ai->Au->Prop}
def Inv.big(I:Inv X pins J H s):Cs<s.heap.objs.size:=by have h:=(I.mod.glob.keeps I.bk).lt;exact E4 M5 h
def wX(hu:A.units+1<Cd)(I:Inv X pins J H s)(g:Zl H a y (U v))(ry:RelV y u)(h:∀w' s',Inv X pins J H s'->RelV v w'->Q w' s'):AW (A9 X.prog X.w) A (FX (.ref a) u) Q E s:=by
 rcases g with⟨i,k,e,j,l⟩|⟨i,k,b,e,j,C,l⟩
 ·subst j;let(z,q,x,d,n):=Qy I.N5 e;let(w',f,c):=SK.some_of (v:=v) (o:=Ds x k) (by rw[l];exact d.val k);exact wpAny_getItem_of (Wo ry) n.mapOf f<|h w' _ (I.tok _) c
 ·subst j;cases(show u=Bz b from ry);let(z,q,B,d,n):=Zu I.N5 e;let(w',f,c):=SK.some_of (v:=v) (o:=(HM B k).map (·.2)) (by rw[l];exact d.val k);let(p,r,m):=AF.mp f;refine wpAny_getItem_heap (Dc hu) (VI I.N5 C) n r ?_;rw[m];exact h w' _ (I.tok _) c
def Al0(hu:A.units+1<Cd)(I:Inv X pins J H s)(g:Zl H a y o)(ry:RelV y u)(h:∀s',Inv X pins J H s'->Q (.bool o.isSome) s'):AW (A9 X.prog X.w) A (Be .In u<|.ref a) Q E s:=by
 rcases g with⟨f,k,e,i,l⟩|⟨f,k,b,e,i,m,l⟩
 ·subst i;let(z,d,n,c,j):=Qy I.N5 e;refine wpAny_in_of (Wo ry) d j.mapOf ?_;rw[<-(c.val k).Sq,<-l];exact h _<|I.tok _
 ·subst i;cases(show u=Bz b from ry);let(z,d,p,c,j):=Zu I.N5 e;refine wpAny_in_heap (Dc hu) (VI I.N5 m) d j ?_;have q:=(c.val k).Sq;rw[C7]at q;rw[<-q,<-l];exact h _ (I.tok _)
def AdN(hu:A.units+1<Cd)(I:Inv X pins J H s)(g:Zl H a y o)(ry:RelV y u)(h:∀s',Inv X pins J H s'->Q (.bool<|!o.isSome) s'):AW (A9 X.prog X.w) A (Be .NotIn u<|.ref a) Q E s:=by
 rcases g with⟨f,k,e,i,l⟩|⟨f,k,b,e,i,m,l⟩
 ·subst i;let(z,d,n,c,j):=Qy I.N5 e;refine wpAny_notIn_of (Wo ry) d j.mapOf ?_;rw[<-(c.val k).Sq,<-l];exact h _<|I.tok _
 ·subst i;cases((ry));let(z,d,p,c,j):=Zu I.N5 e;refine wpAny_notIn_heap (Dc hu) (VI I.N5 m) d j ?_;have q:=(c.val k).Sq;rw[C7]at q;rw[<-q,<-l];exact h _ (I.tok _)
def UB(I:Inv X pins J H s)(mu:Ai4 (H a))(hs:CP a s.heap h')(he:∃q,h'.get? a=U q)(new:Oy X.prog X.w (upd H a ob) h' a ob):Inv X pins J (upd H a ob) {s with heap:=h',toks:=t'}:=I.write (x:=a) (e:=a) mu (.inl Y) (λb q c z=>(hs.2 b c).trans z) he new
def Zr(z:kvs.length<=sizeLine)(hd:(a==Cs)=An)(rel:KV kvs vs)(dd:h'.DictOf (Oj P w) a vs):Oy P w H' h' a (.dK kvs):=#[z,hd,vs,rel,dd]
def wY(hu:A.units+1<Cd)(I:Inv X pins J H s)(g:bV H a y v H')(ry:RelV y u)(rv:RelV v r)(h:∀s',Inv X pins J H' s'->Q () s'):AW (A9 X.prog X.w) A (JY (.ref a) u r) Q E s:=by
 rcases g with⟨d,k,e,C,l,n⟩|⟨d,k,b,e,C,G,l,n⟩
 ·subst C n;let(z,m,K,f,B):=eW I.N5 e;have o:K.length<=sizeLine:=by rw[<-f.length];exact z
  have p:(putK d k v).length<=sizeLine:=by have:=TM d k v;omega
  refine wpAny_setItem_pairs (hsz:=o) (Wo ry) B λF i x=>h _ ?_
  have S:∃q,F.get? a=U q:=let#[q,_,_,j,_]:=i;#[q,j];exact UB I (by rw[e];exact Bk) x S<|Zr p m (f.put k rv) i
 ·subst C n;cases(show u=Bz b from ry);let(z,m,N,f,B):=AfS I.N5 e;have o:N.length<=sizeLine:=by rw[<-AE f];exact z
  have p:(putK d k v).length<=sizeLine:=by have:=TM d k v;omega
  refine wpAny_setItem_heap (hsz:=o) (Dc hu) (VI I.N5 G) B λF i x=>h _ ?_
  let(q,O,R,j,j0,P,L,_,M):=i;refine UB I (by rw[e];exact Bk) x #[q,j] #[p,m,_,(f.put k G rv).keeps λc T D=>?_,q,O,R,j,j0,P,L,M];rw[NN<|Agg D e (λz=>nomatch z)];exact D
end
section
variable{X:Cx}{pins:Ly}{J:St}{H:Hp}{s:Au}{a:Ag}{kvs:LA}{k:Key}{u:Ai}{A:BQ}{E:Ai->Au->Prop}
def AfQ(I:Inv X pins J H s)(e:H a=U (.dK kvs))(ry:RelV (kV k) u)(l:Pu kvs k=U v)(hm:more=[]\/∃x,more=[x])(h:∀w' s',Inv X pins J (upd H a<|.dK<|Rk kvs k) s'->RelV v w'->Q w' s'):AW (A9 X.prog X.w) A (call (.builtin "dict.pop") (.ref a::u::more)) Q E s:=by
 let(z,j,f,b,g):=eW I.N5 e;let(w',n,d):=SK.some_of (v:=v) (o:=Ds f k) (by rw[<-l];exact b.val k);have m:(keyPart u).isSome=Af:=by
  cases k with
  |inl i=>let(t,q):=(show∃t,u=F6 i t from ry);subst q;rfl
  |inr x=>let(t,q):=(show∃t,u=Ei x t from ry);subst q;rfl
 have y:argsOk "dict.pop" #[.ref a::u::more,[]]:=by
  rcases hm with q|⟨x,q⟩
  ·subst q;exact GR _ _
  ·subst q;exact GQ _ _ _
 refine Dd Cu g.typeIs EI y (meets_dict_pop_there (Oj X.prog X.w) a (Wo ry) more hm m)
  #[f,w',g,by rw[<-b.length];exact z,n,λp c B=>h w' _ ?_ d]
 have r:∃q,p.get? a=U q:=let#[q,_,_,hq,_]:=c;#[q,hq];exact UB I (by rw[e];exact Bk) B r (Zr (AS (AaG kvs k) z) j (b.drop k) c)
def AgN(I:Inv X pins J H s)(e:H a=U (.dK kvs))(ry:RelV (kV k) u)(l:Pu kvs k=Ah)(h:∀s',Inv X pins J H s'->Q r s'):
  AW (A9 X.prog X.w) A (call (.builtin "dict.pop") [.ref a,u,r]) Q E s:=by
 let(z,f,c,b,d):=eW I.N5 e;have j:Ds c k=Ah:=SK.none_of (by rw[<-l];exact b.val k);have g:(keyPart u).isSome=Af:=by
  cases k with
  |inl i=>let(t,q):=(show∃t,u=F6 i t from ry);subst q;rfl
  |inr x=>let(t,q):=(show∃t,u=Ei x t from ry);subst q;rfl
 exact Dd Cu d.typeIs EI (GQ _ _ _) (meets_dict_pop_default (Oj X.prog X.w) a (Wo ry) f g r) #[c,d,j,h _<|I.tok _]
def AdM(I:Inv X pins J H s)(e:H a=U (.dK kvs))(h:∀s',Inv X pins J (upd H a<|.dK []) s'->Q .none s'):AW (A9 X.prog X.w) A (call (.builtin "dict.clear") [.ref a]) Q E s:=by let(z,f,i,c,d):=eW I.N5 e;refine Dd PySem.F.slot_dict_clear d.typeIs PySem.F.entry_dict_clear (PySem.F.args_dict_clear_1 _) (meets_dict_clear (Oj X.prog X.w) a) #[i,d,by rw[<-c.length];exact z,λg b l=>h _ ?_];have j:∃q,g.get? a=U q:=let#[q,_,_,hq,_]:=b;#[q,hq];exact UB (t':=s.toks) I (by rw[e];exact Bk) l j (Zr (Bv _) f .nil b)
def AjA(I:Inv X pins J H s)(e:Rd H a (.dK kvs))(h:∀t s',Inv X pins J H s'->Q (.int kvs.length t) s'):AW (A9 X.prog X.w) A (call (.builtin "len") [.ref a]) Q E s:=by let(z,c,f,b,d):=Qy I.N5 e;refine call_len_dict c d (by rw[<-b.length];rw[Bb]at z;omega) ?_;rw[<-b.length];exact h _ _ (I.tok _)
end
def Adz(i:Expr):Prop:=∀ov iv,G4 i An ov iv=operate [ov,iv] (FX ov iv)
def Afv{id:String}(hl:typeLookup (.type T) "__getitem__"=pure (U<|.builtin id))(hs:Adz slice)(h:AW (A9 prog w) A (eval value env) (λo s₁=>AW (A9 prog w) A (eval slice env) (λi s₂=>s₂.TypeIs o T/\AW (A9 prog w) A (FX o i) Q E s₂) E s₁) E s):
  AW (A9 prog w) A (eval (.Subscript value slice pos) env) Q E s:=by
 refine JK<|B1 h (λo s₁ d=>B1 d (λi s₂ b=>?_) λ_ _ x=>x) λ_ _ x=>x
 let(e,b):=b;refine Ad ?_;refine Ad<|wpAny_specialOf e hl ?_;have a:AW (A9 prog w) A (G4 slice An o i) (λr c=>AW (A9 prog w) A (letTemporaryGo value o r >>= λ_=>pure r) Q E c) E s₂:=by rw[hs o i];exact wpAny_operating<|B1 b (λr c f=>Ad<|wpAny_letTemporaryGo<|Aw f) λ_ _ x=>x
 first
  |exact Aw<|Ad a
  |exact Ad _
  |exact Ad a
def mM(I:Inv X pins J H s)(g:Zl H a y o):s.TypeIs (.ref a) "dict":=by
 rcases g with⟨d,k,e,_,_⟩|⟨d,k,b,e,_,_,_⟩
 ·let(_,_,h,_,c):=Qy I.N5 e;exact c.typeIs
 ·let(_,_,f,_,c):=Zu I.N5 e;exact c.typeIs
def AjR(x:V)(Q:VK):VK:=λy H2=>∃a v,x=.ref a/\Zl H2 a y (U v)/\Q v H2
abbrev Ami(ty:TE)(J:St)(Q:VK):VK:=λx H=>ty J H (AjR x Q)
abbrev Agt(td ty:TE):TE:=λJ H Q=>td J H (Ami ty J Q)
def Ant(neg:Bool)(y:V)(Q:VK):VK:=λx H2=>∃a o,x=.ref a/\Zl H2 a y o/\Q (.bl (if neg then !o.isSome else o.isSome)) H2
abbrev Ag7(neg:Bool)(td:TE)(J:St)(Q:VK):VK:=λy H=>td J H (Ant neg y Q)
abbrev AkL(ty td:TE):TE:=λJ H Q=>ty J H (Ag7 An td J Q)
abbrev vT(ty td:TE):TE:=λJ H Q=>ty J H (Ag7 Af td J Q)
def Ag8(v x:V)(D:Ends)(J:St):VK:=λy H3=>∃a H4,x=.ref a/\bV H3 a y v H4/\D.nx J H4
abbrev Amx(ty:TE)(v:V)(D:Ends)(J:St):VK:=λx H=>ty J H (Ag8 v x D J)
abbrev Amw(td ty:TE)(D:Ends)(J:St):VK:=λv H=>td J H (Amx ty v D J)
abbrev Agr(td ty tv:TE):TS:=λD J H=>tv J H (Amw td ty D J)
section
variable{X:Cx}{o i value:Expr}{pos pos':CU}{td ty tv:TE}
def AeO(hu:X.A.units+1<Cd)(ho:PE X o td)(hi:PE X i ty)(hs:Adz i):PE X (.Subscript o i pos) (Agt td ty):=by
 intro b s J H Q I h;refine Afv PySem.F.slot_dict_getitem.lookup hs<|OG (ho b s J H _ I h) λu n⟨x,l,r,p,m⟩=>OG (hi b n J l _ r m) λD C⟨y,j,d,q,a,v,e,g,w⟩=>?_
 subst e;obtain rfl:u=Bz a:=p;exact#[mM d g,wX hu d g q λB z f c=>#[v,j,f,c,w]]
def AhK(hu:X.A.units+1<Cd)(hi:PE X i ty)(ho:PE X o td):PC X .In i o (AkL ty td):=by
 intro b s J H Q I h;refine OG (hi b s J H _ I h) λz m⟨y,f,q,p,l⟩=>OG (ho b m J f _ q l) λu w⟨x,e,j,n,a,B,c,g,r⟩=>?_
 subst c;obtain rfl:u=Bz a:=n;exact Al0 hu j g p λv d=>#[.bl _,e,d,Y,r]
def yQ(hu:X.A.units+1<Cd)(hi:PE X i ty)(ho:PE X o td):PC X .NotIn i o (vT ty td):=by
 intro b s J H Q I h;refine OG (hi b s J H _ I h) λz m⟨y,f,q,p,l⟩=>OG (ho b m J f _ q l) λu w⟨x,e,j,n,a,B,c,g,r⟩=>?_
 subst c;obtain rfl:u=Bz a:=n;exact AdN hu j g p λv d=>#[.bl _,e,d,Y,r]
def Ae7(hu:X.A.units+1<Cd)(ho:PE X o td)(hi:PE X i ty)(hv:PE X value tv)(hs:swapsWith value (U<|.Subscript o i pos') pos.line X.env=pure An):PS X (.Assign [.Subscript o i pos'] value pos) (Agr td ty tv):=by
 intro b s J H D I h;refine wpAny_Assign_Subscript (OG (hv b s J H _ I h) λr z⟨v,w,e,q,m⟩=>OG (ho b z J w _ e m) λu l⟨x,E,p,B,F⟩=>OG (hi b l J E _ p F) λL K⟨y,j0,f,C,a,j,c,g,n⟩=>?_) hs;subst c;obtain rfl:u=Bz a:=B;exact wY hu f g C q λG d=>#[J,j,d,n]
end
def mN(h:BO)(hb:Cs<h.objs.size):Oy P w H (h.push {cls:=.type "dict",data:=.dict #[]}) h.objs.size (.dK []):=#[Bv _,B9.mpr<|Ax<|Bg hb,[],.nil,BO.DictOf.new h]
def AaI(h:BO)(hb:Cs<h.objs.size):Oy P w H (h.push {cls:=.type "dict",data:=.dict #[]}) h.objs.size (.dT []):=#[Bv _,B9.mpr<|Ax<|Bg hb,[],.nil,_,#[],0,AN _ Y,#[Y,Y,Y],Y,Y,Fi]
def Anu(o:HO)(Q:VK):Hp->Prop:=λH=>∀p,H p=Ah->Q (.ref p) (upd H p o)
abbrev Aip:TE:=λ_ H Q=>Anu (.dK []) Q H
abbrev Aiq:TE:=λ_ H Q=>Anu (.dT []) Q H
section
variable{X:Cx}{pos:CU}
def Ab1:PE X (.Dict [] [] pos) Aip:=λa s J H Q I h=>
 Kh #[.ref _,_,I.laid (λ_ _ q=>Am _ q) (Ao _)<|mN _ I.big,Y,h _<|I.N5.fresh<|Ao _]
def Ab2:PE X (.Dict [] [] pos) Aiq:=λa s J H Q I h=>
 Kh #[.ref _,_,I.laid (λ_ _ q=>Am _ q) (Ao _)<|AaI _ I.big,Y,h _<|I.N5.fresh<|Ao _]
end
def lC:Mr->St->Hp->(Mi->Hp->Prop)->Prop
 |[],_,H,Q=>Q [] H
 |(tk,tv)::r,J,H,Q=>tk J H λx H1=>tv J H1 λy H2=>lC r J H2 λps H3=>Q ((x,y)::ps) H3
abbrev VV:Mi->List (Ai×Ai)->Prop:=Paired λp q=>RelV p.1 q.1/\RelV p.2 q.2
def AfK(X:Cx)(pos:CU)(keys:Me)(values:LJ)(trs:Mr):Prop:=∀(pins:Ly)(s:Au)(J:St)(H:Hp)(Q:Mi->Hp->Prop),Inv X pins J H s->lC trs J H Q ->
  AW (A9 X.prog X.w) X.A (evalPairs<|pairTrees keys values X.env pos) (λvs s'=>∃ps H',Inv X pins J H' s'/\VV ps vs/\Q ps H') X.xe s
def Ae3:AfK X pos [] [] []:=λa s J H Q I h=>pairTrees_nil_walk #[[],H,I,.nil,h]
def Acm{k:Expr}(hk:PE X k tk)(hv:PE X v tv)(hr:AfK X pos ks vs trs):AfK X pos (U k::ks) (v::vs) ((tk,tv)::trs):=λa s J H Q I h=>
 pairTrees_cons_walk (OG (hk a s J H _ I h) λu n⟨x,m,c,o,i⟩=>OG (hv a n J m _ c i) λA g⟨y,q,l,p,r⟩=>
  OG (hr a g J q _ l r) λw z⟨f,d,e,b,j⟩=>#[(x,y)::f,d,e,.cons #[o,p] b,j])
def VO(kvs more:LA):LA:=more.foldl (λacc kv=>putK acc kv.1 kv.2) kvs
def KV.merge:∀{more:LA}{rs:Mo}{kvs:LA}{vs:Mo},KV more rs->KV kvs vs->KV (VO kvs more) (merged vs rs):=by
 intro more rs kvs vs r;induction r generalizing kvs vs with
 |nil=>intro q;exact q
 |@cons p q ps qs h t ih=>
   intro a;have e:KV (putK kvs p.1 p.2) (stored vs q.1 q.2):=by have:=a.put p.1 h.2;rw[<-h.1];exact this
   exact ih e
def U7:∀(more kvs:LA),(VO kvs more).length<=kvs.length+more.length
 |[],kvs=>by show kvs.length<=kvs.length+0;omega
 | p::r,kvs=>by
   have a:=U7 r<|putK kvs p.1 p.2;have b:=TM kvs p.1 p.2;show(VO (putK kvs p.1 p.2) r).length<=_;rw[AI];omega
def Zq:∀{kvs:LA}{ws:List (Ai×Ai)},VV (kvs.map λkv=>(kV kv.1,kv.2)) ws->∃rs,Carries (Oj P w) ws rs/\KV kvs rs
 |[],_,r=>by rw[DU]at r;cases r;exact#[[],Bk,.nil]
 | p::kvs,_,r=>by
   rw[Az]at r;cases r with
   |@cons a b as bs h t=>let(rs,c,q):=Zq (P:=P) (w:=w) t;let(e,d):=b;exact#[(p.1,d)::rs,#[Wo h.1,Y,c],.cons #[Y,h.2] q]
def AkM(trs:Mr):TE:=λJ H Q=>∀p,H p=Ah->lC trs J (upd H p<|.dK []) λps H2=>H2 p=U (.dK [])/\∃kvs:LA,ps=kvs.map (λkv=>(kV kv.1,kv.2))/\kvs.length<=15/\Q (.ref p) (upd H2 p<|.dK<|VO [] kvs)
def AeP{keys:Me}(h:AfK X pos keys values trs)(hall:keys.all (·.isSome)=Af)(hl:keys.length=values.length)(h0:keys≠[])(h15:keys.length<=15):PE X (.Dict keys values pos) (AkM trs):=by
 intro b s J H Q I q;have v:=I.N5.fresh<|Ao _;have j:=I.laid (t':=s.toks) (λ_ _ q=>Am _ q) (Ao _)<|mN _ I.big;refine wpAny_Dict_walk (knd:=Oj _ X.w) hall hl h0 h15<|OG (h b _ J _ _ j<|q _ v) λG F⟨E,j0,g,f,e,a,y,D,C⟩=>?_
 subst y;let(r,c,o):=Zq f;let(z,i,A,m,x):=eW g.N5 e;cases m;refine#[r,c,x,λl d u=>#[.ref _,_,?_,Y,C]];have p:(VO [] a).length<=sizeLine:=by have n:=U7 a [];rw[CN]at n;rw[Bb];omega
 have B:∃q,l.get? _=U q:=let#[q,_,_,hq,_]:=d;#[q,hq];exact UB g (by rw[e];exact Bk) u B (Zr p i (o.merge .nil) d)
structure M1(X:Cx)(o:Expr)(m:AA)(apos:CU)(e:Expr)(cpos:CU):Prop where
 base:Co o m X.env (eval o X.env)=eval o X.env
 bS:((Ca cpos<|AL [e] X.env).all (λx=>!x.1)&&(Dw cpos<|Cp [] X.env).all (λx=>x.1.isSome)
  && decide (([e]:LJ).length+([]:Mf).length+(if([]:Mf).isEmpty then 0 else 1)<30))=Af
 line:(apos.endLine==cpos.line)=Af
 trees:Ca cpos (AL [e] X.env)=[(An,eval e X.env)]
structure M2(X:Cx)(o:Expr)(m:AA)(apos:CU)(e f:Expr)(cpos:CU):Prop where
 base:Co o m X.env (eval o X.env)=eval o X.env
 bS:((Ca cpos<|AL [e,f] X.env).all (λx=>!x.1)&&(Dw cpos<|Cp [] X.env).all (λx=>x.1.isSome)
  && decide (([e,f]:LJ).length+([]:Mf).length+(if([]:Mf).isEmpty then 0 else 1)<30))=Af
 line:(apos.endLine==cpos.line)=Af
 trees:Ca cpos (AL [e,f] X.env)=[(An,eval e X.env),(An,eval f X.env)]
def Agw(H:Hp)(a:Ag):Prop:=(∃kvs,Rd H a<|.dK kvs)\/∃kvs,Rd H a (.dT kvs)
def jM(I:Inv X pins J H s)(d:Agw H a):s.TypeIs (.ref a) "dict"/\(∀b,Bz a=.ref b->∃ob,s.heap.get? b=U ob/\ob.dict=Ah)/\(a==Cs)=An:=by
 rcases d with⟨g,e⟩|⟨g,e⟩
 ·let(_,f,j,_,c):=Qy I.N5 e;refine#[c.typeIs,λb q=>?_,f];cases q;let(ob,_,_,i,h,_):=c;exact#[ob,i,h.2.1]
 ·let(_,f,l,_,c):=Zu I.N5 e;refine#[c.typeIs,λb q=>?_,f];cases q;let(ob,_,_,i,h,_):=c;exact#[ob,i,h.2.1]
section
variable{X:Cx}{pins:Ly}{J:St}{H:Hp}{s:Au}{a:Ag}{y d:V}{u r:Ai}{o:L9}{A:BQ}{E:Ai->Au->Prop}
def AgM(hu:A.units+1<Cd)(I:Inv X pins J H s)(g:Zl H a y o)(ry:RelV y u)(rd:RelV d r)(h:∀w' s',Inv X pins J H s'->RelV (o.getD d) w'->Q w' s'):AW (A9 X.prog X.w) A (call (.builtin "dict.get") [.ref a,u,r]) Q E s:=by
 rcases g with⟨j,k,e,m,l⟩|⟨j,k,b,e,m,p,l⟩
 ·subst m;let(z,i,q,c,f):=Qy I.N5 e;refine Dd EO f.typeIs G0 (GS _ _ _) (meets_dict_get_default (Oj X.prog X.w) a (Wo ry) i r) #[_,f.mapOf,h _ _ (I.tok _) ?_];rw[l];exact(c.val k).getD rd
 ·subst m;cases(show u=Bz b from ry);let(z,i,n,c,f):=Zu I.N5 e;refine Dd EO f.typeIs G0 (GS _ _ _) (meetsH_dict_get_default (FW<|Oj X.prog X.w) a b i r) #[Dc hu,k,n,VI I.N5 p,f,h _ _ (I.tok _) ?_];rw[l];exact(c.val k).getD rd
end
def Aml(a:Ag)(y:V)(Q:VK):VK:=λz H3=>∃o,Zl H3 a y o/\Q (o.getD z) H3
abbrev Amk(tx:TE)(J:St)(a:Ag)(Q:VK):VK:=λy H=>tx J H (Aml a y Q)
def Amj(ty tx:TE)(J:St)(Q:VK):VK:=λx H1=>∃a,x=.ref a/\Agw H1 a/\ty J H1 (Amk tx J a Q)
abbrev Ac1(td ty tx:TE):TE:=λJ H Q=>td J H (Amj ty tx J Q)
def Aor(a:Ag)(Q:VK):VK:=λy H2=>∃kvs k v,H2 a=U (.dK kvs)/\y=kV k/\Pu kvs k=U v/\Q v (upd H2 a<|.dK<|Rk kvs k)
def Amu(ty:TE)(J:St)(Q:VK):VK:=λx H1=>∃a,x=.ref a/\Agw H1 a/\ty J H1 (Aor a Q)
abbrev Air(td ty:TE):TE:=λJ H Q=>td J H (Amu ty J Q)
def Ais(td ty tx:TE):TE:=λJ H Q=>td J H λx H1=>∃a,x=.ref a/\Agw H1 a/\ty J H1 λy H2=>tx J H2 λz H3=>∃kvs k,H3 a=U (.dK kvs)/\y=kV k /\
 (∀v,Pu kvs k=U v->Q v (upd H3 a<|.dK<|Rk kvs k))/\(Pu kvs k=Ah->Q z H3)
section
variable{X:Cx}{o e f:Expr}{apos cpos:CU}{td ty tx:TE}
def Ab0(hu:X.A.units+1<Cd)(ho:PE X o td)(he:PE X e ty)(hf:PE X f tx)(m:M2 X o "get" apos e f cpos):PE X (.Call (.Attribute o "get" apos) [e,f] [] cpos) (Ac1 td ty tx):=by
 intro b s J H Q I h;refine ET m.base m.bS m.line Dx EO PySem.F.type_dict_get<|OG (ho b s J H _ I h) λu E⟨x,D,i,G,a,j,d,v⟩=>?_
 subst j;obtain rfl:u=Bz a:=G;let(C,l,_):=jM i d;refine#[C,l,?_];rw[m.trees];refine Cf Y (Dh (CB (OG (he b E J D _ i v) λS r⟨y,L,B,j0,M⟩=>
  CB (OG (hf b r J L _ B M) λT R⟨z,p,q,K,P,g,w⟩=>DK ?_))))
 exact AgM hu q g j0 K λO N n c=>#[_,p,n,c,w]
def Ab3(ho:PE X o td)(he:PE X e ty)(m:M1 X o "pop" apos e cpos):PE X (.Call (.Attribute o "pop" apos) [e] [] cpos) (Air td ty):=by
 intro b s J H Q I h;refine ET m.base m.bS m.line Dx Cu EN<|OG (ho b s J H _ I h) λu z⟨x,w,f,A,a,i,d,p⟩=>?_
 subst i;obtain rfl:u=Bz a:=A;let(r,g,_):=jM f d;refine#[r,g,?_];rw[m.trees];refine Cf Y<|Dh<|CB<|OG (he b z J w _ f p) λL G⟨y,j0,q,B,j,k,v,D,C,l,E⟩=>DK ?_
 subst C;exact AfQ q D B l (.inl Y) λF K n c=>#[v,_,n,c,E]
def Ab4(ho:PE X o td)(he:PE X e ty)(hf:PE X f tx)(m:M2 X o "pop" apos e f cpos):PE X (.Call (.Attribute o "pop" apos) [e,f] [] cpos) (Ais td ty tx):=by
 intro b s J H Q I h;refine ET m.base m.bS m.line Dx Cu EN<|OG (ho b s J H _ I h) λu L⟨x,j0,j,M,a,w,d,D⟩=>?_
 subst w;obtain rfl:u=Bz a:=M;let(K,r,_):=jM j d;refine#[K,r,?_];rw[m.trees];refine Cf Y (Dh (CB (OG (he b L J j0 _ j D) λW C⟨y,O,F,p,S⟩=>
  CB (OG (hf b C J O _ F S) λR u3⟨z,B,n,N,c,k,q,P,E,G⟩=>DK ?_))))
 subst P;cases l:Pu c k with
 |some v=>exact AfQ n q p l (.inr #[R,Y]) λT A g i=>#[v,_,g,i,E v l]
 |none=>exact AgN n q p l λA g=>#[z,B,g,N,G l]
end
end L2
namespace Att
open PySem PySem.W PySem.Calls PyProof.Rows
def YO:∀(ns:LD)(vs:LB),WellAll P h vs (ns.map Kt)->CG vs ns:=by
 intro ns;induction ns with
 |nil=>intro vs w;cases w;exact .nil
 |cons n ns ih=>
   intro vs w;cases w with
   |cons a b=>cases a;exact .cons _ _ (ih _ b)
def zN{l:EC}{n:Nat}(hn:l.most=U n){P:Gi}{h:BO}{args:List WData}(hpre:l.row.toRowW.claim.pre args=Af)(hwl:WellAll P h vals args):
  ∃a vs ns,vals=[Bz a]/\args=[WData.list<|ns.map Kt]/\h.get? a=U {cls:=.type "list",data:=.seq vs.toArray}/\CG vs ns/\ns.length<=n:=by
 have g:=(pre_splitW hpre).1;have s:=(pre_splitW hpre).2;let(d,r,rfl,m,j):=hasAllW_cons g;obtain rfl:=hasAllW_nil j;let(u,rfl,o):=hasW_list m;let(ns,rfl):=items_int o;have c:ns.length<=n:=by
  have e:(WTm.not<|.lt (.lit<|.int<|n)<|.len<|.arg 0).holds [] {args:=[.list<|ns.map .int]}=Af:=by have e:=(holds_andW s).1;rw[hn]at e;exact e
  have f:=condW_of e<|w_not<|w_lt w_lit<|w_len_list<|w_arg Y;rw[Ac]at f;refine Gm λq=>?_
  have p:(n)<((ns.length):Int):=M6
  first
   |(rw[Ap p]at f;exact absurd f M5)
   |(simp at f)
 cases hwl with
 |cons w1 w2=>
   cases w2;cases w1 with
   |list i b=>exact#[_,_,ns,Y,Y,i,YO ns _ b,c]
def yU(l:EC)(args:List WData):l.row.toRowW.claim.post args (.bool Af) args=Af:=postW_of
  (show J0 [] _ _=Af by first|rfl|decide|simp[J0,WShape.arms,WShape.armsAll])
  (show(WTm.eq _ _).value [] _=U _ from w_eq_bool (w_res Y) w_lit) Y
def mD{l:EC}{n:Nat}{q:Bn}{XP:(AA->LH)->BO->Prop}{YP:Bw->BO->Prop}{d:DefRec}(hn:l.most=U n)(hdf:d.params.defaults=[])(call:∀(w:Bw)(Qo s₁:Au)(mg mb:AA->LH)(fa:Ag)(o:CL)(pm cd doc:Ai)(a:Ag)(vs:LB)(ns:LD),
   Ground q loose [] XP w Qo mg mb s₁.heap->YP w s₁.heap ->
   s₁.heap.get? fa=U o->o.data=.func (docDef d.name d.params d.body d.scope pm cd doc)->s₁.heap.CodeRec cd d.name->mg d.name=U (.ref fa) ->
   s₁.heap.get? a=U {cls:=.type "list",data:=.seq vs.toArray}->CG vs ns->ns.length<=n->s₁.gens=#[] ->
   EU (A9 l.prog w) GC (.call (.ref fa) #[[.ref a],[]]) (λr s'=>r=.ok (.ret<|.bool Af)/\OldK s₁.heap s'.heap/\s'.os=s₁.os/\Fs s'.gens) s₁):
  WalkO q loose XP YP l.row.toRowW d [] (λf vs=>Iz f vs):=by
 intro w Qo s₁ mg mb G y0 fa o pm cd doc H kV C v j s i z m p as g u x h F;obtain rfl:H=.none:=Dflts.none s hdf;obtain rfl:kV=.none:=Dflts.noKw s;let(a,vs,ns,rfl,rfl,c,b,e):=zN hn g h;refine enter_call<|GB (call w Qo s₁ mg mb fa o pm cd doc a vs ns G y0 C (fd_plain v) j i c b e z) λr s' A=>?_
 let(rfl,y,D,B):=A;exact#[.inl #[.bool Af,.bool Af,[],Y,λ_=>rfl,.bool Af,yU l _,λ_=>#[FE.nil,λ_ E=>(nomatch E)]],y,D,B]
end Att
namespace L2
open PySem PySem.Spec PyProof.Rows
def XW:∀{vs:LB}{ns:LD},CG vs ns->Vals (ns.map V.int) vs
 |_,_,.nil=>.nil
 |_,_,.cons n t h=>.cons #[t,Y] (XW h)
def Om(s:Bm):Km:=match s with
 |.FunctionDef _ a _ _ _ _ _ _ _ _=>a
 |_=>{posonlyargs:=[],args:=[],vararg:=Ah,kwonlyargs:=[],kw_defaults:=[],kwarg:=Ah,defaults:=[]}
def NY(s:Bm):LY:=match s with
 |.FunctionDef _ _ b _ _ _ _ _ _ _=>b
 |_=>[]
def NM(s:Bm):Scope:=match s with
 |.FunctionDef _ _ _ _ _ _ sc _ _ _=>sc
 |_=>{kind:=.function,names:=[],isGenerator:=An,isCoroutine:=An}
abbrev qB:AfF:=λ_ _ _ _ _ _=>False
abbrev E0:XK:=λ_ _ _=>False
def oP:Passes qB X E0:=λ_ _ _ _ _ _ _ h=>h.elim
structure AfH(K:Ab)(x qual:AA)(st:Bm)(f:Ag)(fd:CA):Prop where
 ex:∃(oc:Ai)(od:LO)(kV doc pm:Ai)(an:LO)(cdv ct:Ai)(osl:Mj),
  fd=Bu x qual (Om st) (NY st) (NM st) .none kV doc pm an cdv ct/\K.lookup f=U #[oc,od,.func fd,osl]/\DC K cdv qual=Af
 kp:By K (.ref f)=Af
section
variable{P:Bn}{w:Bw}{K:Ab}{mg:AA->LH}{base:BO}
def AfH.ok{st:Bm}{k:Nat}(F:AfH K x qual st f fd)(S:O0 N ps (NM st))(len:∀vs H Q E,sp vs H Q E->vs.length=ps.length)(hbody:∀(cdv:Ai)(A:BQ)(outer:LU)(s:Au)(H:Hp)(vs:Lx)(Q:VK)(E:XK),N8 k (A.deeper<|D0 qual (NM st) s.heap.objs.size f cdv)->sp vs H Q E ->
   ∃t,Q6 (Yt qB P w K mg base N qual (NM st) f cdv A outer s H E).AbK (NY st) t/\t {nx:=λ_ H'=>Q .Of H',rt:=Q} (start N vs) H):Si P w K mg base qB (k+1) f fd ps sp:=by
 let(m,l,kV,e,j,i,cdv,n,g,rfl,c,b):=F.ex;refine AfY c b S len λA outer s H vs Q E d a=>?_
 let(t,h,q):=hbody cdv A outer s H vs Q E d a;exact#[t,h.AbK,q]
def AfH.binds{st:Bm}(F:AfH K x qual st f fd)(h:∀(kV doc pm:Ai)(an:LO)(cdv ct:Ai)(us:LB),us.length=ps.length->Ce (Bu x qual (Om st) (NY st) (NM st) .none kV doc pm an cdv ct) #[us,[]]=pure (ps.zip us)):Binds K fd ps []:=by let(e,c,kV,doc,pm,an,cdv,ct,b,rfl,d,a):=F.ex;exact .all (h kV doc pm an cdv ct)
def Xk{st:Bm}{kV:Ai}(l:K.lookup f=U #[oc,od,.func<|Bu x qual (Om st) (NY st) (NM st) .none kV doc pm an cdv ct,osl])(c:DC K cdv qual=Af)(k:By K (.ref f)=Af):AfH K x qual st f (Bu x qual (Om st) (NY st) (NM st) .none kV doc pm an cdv ct):=#[#[oc,od,kV,doc,pm,an,cdv,ct,osl,Y,l,c],k]
end
def fK{k:Nat}(hr:N8 k A):A.units+1<Cd:=BI (Nat.add_le_add_left M5 _) hr.units
def UP(h:n<=1000):n<sizeLine:=BI h M5
section
variable{X:Cx}
def pv(i:Nat)(hN:X.N[i]?=U x:=by rfl)(hv:Ai7 X.env.scope x:=by first|exact BK rfl|exact Ee (BK Y)|exact Ee<|Ee Y)(hd:(x==("__debug__":AA))=An:=by decide)(hcd:(x==("__classdict__":AA))=An:=by decide):PE X (.Name x pos) (Ac2 i):=rY hN hv hd hcd
def Ah2:Lx->Hp->VK->Prop:=λxs H Q=>∃a kvs,xs=[V.ref a]/\H a=U (.dK kvs)/\Q (.int kvs.length) H
def wR:P7 X (.builtin "len") Ah2:=by intro b s J H j i Q I r h;let(a,c,rfl,d,q):=h;let(u,rfl,e):=vals1 r;cases e;exact AjA I (.inl d) λt g f=>#[.int _,H,f,#[t,Y],q]
end
def xM{A B:Prop}(h:A):if Af=Af then A else B:=by exact h
def NV(H H':Hp):Prop:=∀b o,H b=U o->H' b=U o
def NV.refl(H:Hp):NV H H:=λ_ _ h=>h
def NV.trans(a:NV H H1)(b:NV H1 H2):NV H H2:=λc o h=>b c o (a c o h)
def NV.free(e:NV H H')(h:H' l=Ah):H l=Ah:=by
 cases q:H l with
 |none=>rfl
 |some o=>rw[e l o q]at h;cases h
def NV.seq{K:Ab}(e:NV H H')(h:Pb K H a xs):Pb K H' a xs:=by
 rcases h with(h|⟨o,h⟩)|h
 ·exact .inl<|.inl<|e _ _ h
 ·exact .inl<|.inr #[o,e _ _ h]
 ·exact .inr h
def OI(cells:LW):Ma->LW->LW
 |[],cs=>cs
 |(n,k)::r,cs=>OI cells r (if k==.free then(n,(cells.lookup n).getD 0)::cs else cs)
def mG{f:AA×DJ->LW->IK (ForInStep<|LW)}(h1:∀n cs,f (n,.free) cs=(cellOf env n >>= λc=>pure<|.yield ((n,c)::cs)))(h2:∀n k cs,k≠.free->f (n,k) cs=pure (.yield cs)):
  ∀(l:Ma)(cs:LW),(∀x∈l,x.2=.free->∃c,env.cells.lookup x.1=U c)->forIn l cs f=pure (OI env.cells l cs)
 |[],_,_=>rfl
 | (n,k)::r,cs,h=>by
   have g:=λcs=>mG h1 h2 r cs λx i=>h x<|AD _ i
   rw[List.forIn_cons];by_cases b:k=.free
   ·subst b;let(c,a):=h (n,.free) AX Y;have a:env.cells.lookup n=U c:=a;have e:cellOf env n=pure c:=by unfold cellOf;rw[a]
    rw[h1,e,IQ,IQ];show forIn r ((n,c)::cs) f=_;rw[g];have d:OI env.cells ((n,.free)::r) cs=OI env.cells r ((n,(env.cells.lookup n).getD 0)::cs):=rfl;rw[d,a];rfl
   ·rw[h2 n k cs b,IQ];show forIn r cs f=_;rw[g];have d:OI env.cells ((n,k)::r) cs=OI env.cells r (if(k==B3)=Af then(n,(env.cells.lookup n).getD 0)::cs else cs):=rfl;rw[d,Ay<|by simpa using b]
def S9(h:∀x∈scope.names,x.2=.free->∃c,env.cells.lookup x.1=U c):JG scope env=pure (OI env.cells scope.names []):=by unfold JG;dsimp only;rw[mG (λn b=>M8) (λn k b a=>by simp[a]) _ [] h,IQ]
def Xj:∀{l:Ma}{cs:LW}{x:AA}{c:Ag},(OI cells l cs).lookup x=U c->cs.lookup x=U c\/((x,B3)∈l/\c=(cells.lookup x).getD 0)
 |[],_,_,_,h=>.inl h
 | (n,k)::r,cs,x,c,h=>by
   unfold OI at h;rcases Xj h with q|⟨f,g⟩
   ·by_cases b:(k==B3)=Af
    ·rw[AG b,B8]at q;cases d:x==n with
     |true=>
       rw[d]at q;have e:x=n:=by simpa using d
       have a:k=.free:=by simpa using b
       subst e;subst a;exact .inr #[AX,(AK q).symm]
     |false=>rw[d]at q;exact .inl q
    ·rw[Ay b]at q;exact .inl q
   ·exact .inr #[AD _ f,g]
def Xi:∀{l:Ma}{cs:LW},((x,B3)∈l\/(cs.lookup x).isSome=Af)->((OI cells l cs).lookup x).isSome=Af
 |[],_,h=>by rcases h with h|h;exact absurd h M8;exact h
 | (n,k)::r,cs,h=>by
   unfold OI;refine Xi ?_;rcases h with h|h
   ·rcases AB.mp h with e|h
    ·cases e;refine .inr ?_;simp
    ·exact .inl h
   ·refine .inr ?_;by_cases a:(k==B3)=Af
    ·rw[AG a,B8];cases b:x==n with
     |true=>rfl
     |false=>exact h
    ·rw[Ay a];exact h
def V7(env:Hu)(scope:Scope)(C:Ag):Hu:=
 {newEnv scope C env.globals (OI env.cells scope.names []) env.qual Ah .none (U env) Fo with scope:=relabel scope env}
def Oo(X:Cx)(scope:Scope)(Nc:Lw)(fp:Lv)(s:Au)(H:Hp):Cx where
 prog:=X.prog
 w:=X.w
 K:=X.K
 mg:=X.mg
 base:=X.base
 A:=X.A
 N:=Nc
 Qo:=s
 NR:=H
 env:=V7 X.env scope s.heap.objs.size
 outer:=X.stack
 stack:=X.stack
 ex:=fp
 calm:=X.calm
 fn:=λ_=>An
 pn:=[]
 xe:=λ_ _=>False
instance {X:Cx} {scope:Scope} {Nc:Lw} {fp:Lv} {s:Au} {H:Hp} {K₀:Ab} {NR:Hp} [h:N3 X K₀ NR]:N3 (Oo X scope Nc fp s H) K₀ H:=#[h.k,Y]
def pick(src:LC)(J:St):St:=src.map λo=>match o with|none=>Ah|some i=>(J[i]?).getD Ah
def Qu(X:Cx)(scope:Scope):Lw->LC->Prop
 |[],[]=>True
 |_::r,Ah::q=>Qu X scope r q
 |x::r,U i::q=>(X.N[i]?=U x/\(X.env.kindOf x=U .cell\/X.env.kindOf x=U .free)/\scope.names.lookup x=U .free)/\Qu X scope r q
 |_,_=>False
def Qu.len:∀{N:Lw}{src:LC},Qu X scope N src->src.length=N.length
 |[],[],_=>rfl
 |_::r,Ah::q,h=>by simp[Qu.len (N:=r) (src:=q) h]
 |x::r,U i::q,h=>by simp[Qu.len (N:=r) (src:=q) h.2]
 |[],_::_,h=>h.elim
 |_::_,[],h=>h.elim
def Qu.at:∀{N:Lw}{src:LC}{j i:Nat}{x:AA},Qu X scope N src->N[j]?=U x->src[j]?=U (U i)->X.N[i]?=U x/\(X.env.kindOf x=U .cell\/X.env.kindOf x=U .free)/\scope.names.lookup x=U .free
 |[],_,_,_,_,_,h,_=>by simp at h
 |_::_,[],_,_,_,h,_,_=>h.elim
 |_::r,Ah::q,0,_,_,_,_,h=>by simp at h
 | x::r,U i::q,0,_,_,h,h1,h2=>by
   simp at h1 h2;subst h1;subst h2;exact h.1
 |_::r,Ah::q,j+1,_,_,h,h1,h2=>Qu.at (N:=r) (src:=q) (j:=j) h (by simpa using h1) (by simpa using h2)
 |_::r,U _::q,j+1,_,_,h,h1,h2=>Qu.at (N:=r) (src:=q) (j:=j) h.2 (by simpa using h1) (by simpa using h2)
def lookup_mem{k:DJ}:∀{l:Ma},l.lookup x=U k->(x,k)∈l
 |[],h=>by simp at h
 | (n,k')::r,h=>by
   rw[B8]at h;cases a:x==n with
   |true=>
     rw[a]at h;have e:x=n:=by simpa using a
     subst e;cases h;exact AX
   |false=>rw[a]at h;exact AD _ (lookup_mem h)
def Rt{env:Hu}{x:AA}:∀{names:Ma},(names.map λ(n,k)=>if(k==B3&&env.scope.kind==.function&&env.kindOf n==U .cell)then(n,Dk)else(n,k)).lookup x=Ah/\names.lookup x=Ah \/
  ∃k,names.lookup x=U k/\(names.map λ(n,k)=>if(k==B3&&env.scope.kind==.function&&env.kindOf n==U .cell)then(n,Dk)else(n,k)).lookup x=U (if(k==B3&&env.scope.kind==.function&&env.kindOf x==U .cell)then Dk else k)
 |[]=>.inl #[Y,Y]
 | (n,k)::r=>by
   have b:=@Rt env x r;rw[Az];cases a:x==n with
   |true=>
     have e:x=n:=by simpa using a
     subst e;refine .inr #[k,M8,?_];dsimp only;split<;>simp
   |false=>
     have c:(DD x ((n,k)::r))=r.lookup x:=by rw[B8,a]
     rw[c];dsimp only;split
     ·rw[B8,a];exact b
     ·rw[B8,a];exact b
def oS{src:LC}{J:St}{j:Nat}(h:(pick src J)[j]?=U (U v)):∃i,src[j]?=U (U i)/\J[i]?=U (U v):=by
 unfold pick at h;rw[Aj]at h;cases e:src[j]? with
 |none=>rw[e]at h;cases h
 |some o=>
   rw[e]at h;cases o with
   |none=>cases h
   |some i=>
     refine#[i,Y,?_];have a:(J[i]?).getD Ah=U v:=AK h;cases q:J[i]? with
     |none=>rw[q]at a;cases a
     |some z=>rw[q]at a;exact congrArg U a
section
variable{X:Cx}{pins:Ly}{J:St}{H:Hp}{s:Au}
def qQ{scope:Scope}{src:LC}{fp:Lv}{h1:BO}{tk:Nat}(I:Inv X pins J H s)(hkind:scope.kind=.function)(hcell:∀y∈scope.names,y.2≠.cell)(hfr:∀y∈scope.names,y.2=.free->X.env.kindOf y.1=U .cell\/X.env.kindOf y.1=U .free)(caps:Qu X scope Nc src)(hfp:∀b∈fp,Qv X pins H b)(hfl:∀b∈fp,b<s.heap.objs.size)(hns:h1.Ns s.heap.objs.size (λ_=>Ah))(k:∀b u,s.heap.get? b=U u->h1.get? b=U u):Inv (Oo X scope Nc fp s H) [] (pick src J) H {s with heap:=h1,toks:=tk}:=by
 have a:∀{x:AA}{c:Ag},(OI _ _ []).lookup x=U c->X.env.cells.lookup x=U c:=λ{x c}h=>by
  rcases Xj h with q|⟨A,B⟩
  ·simp at q
  ·let(N,f):=I.ok.has x (hfr _ A Y);rw[f]at B;rw[f,B];rfl
 have d:∀{x:AA},scope.names.lookup x=U _->∃c,(OI X.env.cells _ []).lookup x=U c:=λ{x}h=>
  Et.mp (Xi<|.inl<|lookup_mem h)
 have t:∀{c:Ag}{v:LH},s.heap.IsCell c v->h1.IsCell c v:=λ{c v}⟨o,Q,M⟩=>#[o,k c o Q,M]
 refine#[#[I.ok.mod,hkind,I.ok.glob,I.ok.blt,Ao _,λx y c g S=>I.ok.inj x y c (a g)<|a S,λx g=>?_,λ_ _ z=>(nomatch z),I.ok.hd,I.ok.frames,.inl Y,λb w=>#[Bg<|hfl b w,λx c e=>(hfp b w).2.2.2.2.1 x c (a e)],I.bs,AS I.ok.Aat I.sz,λb o e w=>?_,λb w z=>?_,I.stack,I.lA],
  rfl,I.bare,Un.kept k,#[_,hns,λj x v T O W=>?_],λx c e=>?_,I.N5.fresh<|Ao _,λx c e=>I.QL x c<|a e,λp P=>absurd (show p∈([]:List _)from P) M8,I.N5.kept k,?_]
 ·have g:(scope.names.map λ(n,k)=>if(k==B3&&X.env.scope.kind==.function&&X.env.kindOf n==U .cell)then(n,Dk)else(n,k)).lookup x=U _ \/
    (scope.names.map λ(n,k)=>if(k==B3&&X.env.scope.kind==.function&&X.env.kindOf n==U .cell)then(n,Dk)else(n,k)).lookup x=U _:=g
  rcases Rt with⟨q,_⟩|⟨C,A,B⟩
  ·rw[q]at g;rcases g with z|z<;>cases z
  ·have F:C=.free:=by
    rw[B]at g;by_cases D:(C==B3&&X.env.scope.kind==.function&&X.env.kindOf x==U .cell)=Af
    ·cases C<;>first|rfl|(simp at D)
    ·rw[Ay D]at g;rcases g with z|z
     ·exact absurd (AK z)<|hcell _<|lookup_mem A
     ·exact AK z
   subst F;exact d A
 ·rcases(hfp b w).2.2.2.1 with z|z
  ·exact I.ok.AbG b o e z
  ·exact absurd (Bo (AU e)<|AS I.ok.Aat z)<|CS _
 ·rcases AB.mp (I.tE b z)with q|q
  ·exact(hfp b w).2.1 q
  ·exact(hfp b w).2.2.1 q
 ·obtain ⟨i,K,j0⟩:=oS O;let(u3,L,G):=caps.at T K;let(m,V,R):=I.loc;let(u,r,l):=R i x v u3 j0<|L.elim (λz=>.inr<|.inl z) λz=>.inr<|.inr z
  refine#[u,r,?_];rcases l with⟨z,_⟩|⟨_,c,D,E⟩
  ·rcases L with q|q<;>(rw[q]at z;cases z)
  ·obtain ⟨N,f⟩:=d G;have e:=a f;rw[D]at e;cases e;refine .inr #[?_,c,f,t E];show(scope.names.map λ(n,k)=>if(k==B3&&X.env.scope.kind==.function&&X.env.kindOf n==U .cell)then(n,Dk)else(n,k)).lookup x=U _ \/
    (scope.names.map λ(n,k)=>if(k==B3&&X.env.scope.kind==.function&&X.env.kindOf n==U .cell)then(n,Dk)else(n,k)).lookup x=U _
   rcases Rt with⟨_,q⟩|⟨C,A,B⟩
   ·rw[G]at q;cases q
   ·rw[G]at A;cases A;rw[B];split
    ·exact .inl Y
    ·exact .inr Y
 ·let(v,z):=I.cell x c (a e);exact#[v,t z]
 ·unfold pick;rw[Ac];exact caps.len
end
def Adn(X:Cx)(ifs:LJ)(t:TT):Prop:=∀(pins:Ly)(s:Au)(J:St)(H:Hp)(Q:Bool->Hp->Prop),Inv X pins J H s->t J H Q ->
  AW (A9 X.prog X.w) X.A (forIn ifs Af λc r=>if r=Af then do let ok <-isTrue c X.env (eval c X.env);pure (Ip ok)else pure (Ip r)) (TP X pins J Q) X.xe s
def UN{X:Cx}:Adn X [] (λ_ H Q=>Q Af H):=λ_ _ _ H _ I h=>wpAny_tests_nil #[H,I,h]
def jZ{X:Cx}{c:Expr}{t:TT}(h:PT X c t):Adn X [c] t:=λa s J H Q I b=>wpAny_tests_one (h a s J H Q I b)
def Wk:St->St->Prop
 |[],[]=>True
 |none::r,_::q=>Wk r q
 |some v::r,o::q=>o=U v/\Wk r q
 |_,_=>False
def Wk.len:∀{a b:St},Wk a b->a.length=b.length
 |[],[],_=>rfl
 |none::r,_::q,h=>by simp[Wk.len (a:=r) (b:=q) h]
 |some _::r,_::q,h=>by simp[Wk.len (a:=r) (b:=q) h.2]
 |[],_::_,h=>h.elim
 |none::_,[],h=>h.elim
 |some _::_,[],h=>h.elim
def Wk.get:∀{a b:St}{i:Nat}{v:V},Wk a b->a[i]?=U (U v)->b[i]?=U (U v)
 |[],_,_,_,_,h=>by simp at h
 |none::r,[],_,_,h,_=>h.elim
 |some _::r,[],_,_,h,_=>h.elim
 |none::r,_::q,0,_,_,h=>by simp at h
 | some w::r,o::q,0,v,h,e=>by
   simp at e;subst e;simp[h.1]
 | none::r,_::q,i+1,_,h,e=>by
   have:=Wk.get (a:=r) (b:=q) (i:=i) h (by simpa using e);simpa using this
 | some _::r,_::q,i+1,_,h,e=>by
   have:=Wk.get (a:=r) (b:=q) (i:=i) h.2 (by simpa using e);simpa using this
def Wk.Aid{v:V}:∀{a:St}{i:Nat},a[i]?=U Ah->Wk a (a.set i<|U v)
 |[],_,h=>by simp at h
 | none::r,0,_=>by
   show Wk r r;exact refl r
 |some _::_,0,h=>by simp at h
 |none::r,i+1,h=>Wk.Aid (a:=r) (i:=i) (by simpa using h)
 |some _::r,i+1,h=>#[Y,Wk.Aid (a:=r) (i:=i)<|by simpa using h]
where refl:∀(r:St),Wk r r
 |[]=>trivial
 |none::r=>refl r
 |some _::r=>#[Y,refl r]
def Wk.set{v:V}{a:St}{i:Nat}(h:a[i]?=U Ah):Wk a (Aio a i v):=aZ▸Wk.Aid h
def Aly(src:LC)(J:St)(g:TG)(tt:TT)(te:TE)(j0:It)(H1:Hp)(D:Ag)(Q:VK):Prop:=∃W:Nat->Nat->Lx->Hp->Prop,(∃m,W 0 m []<|upd H1 D<|.lst [])/\∀i m ys H2,W i m ys H2 ->
 (j0.stop i H2/\Q (.ref D) H2)\/(j0.go i H2/\∀x H3,j0.Aai i H2 x H3->g x (pick src J) H3 λσ4 H4=>Wk (pick src J) σ4/\tt σ4 H4 λb H5=>
  if b=Af then te σ4 H5 λy H6=>∃zs,H6 D=U (.lst zs)/\zs.length<sizeLine/\∃m',m'<m/\W (i+1) m' (zs++[y]) (upd H6 D<|.lst<|zs++[y])else∃m',m'<m/\W (i+1) m' ys H5)
def Aol(src:LC)(g:TG)(tt:TT)(te:TE)(J:St)(Q:VK):It->Hp->Prop:=λj0 H1=>∀D,H1 D=Ah->Aly src J g tt te j0 H1 D Q
abbrev AkR(src:LC)(wi:TI)(g:TG)(tt:TT)(te:TE):TE:=λJ H Q=>wi J H (Aol src g tt te J Q)
section
variable{X:Cx}
def uM{elt iter tg:Expr}{ifs:LJ}{scope:Scope}{pos:CU}{Nc:Lw}{src:LC}{wi:TI}{g:TG}{tt:TT}{te:TE}(hcalm:X.calm=Af)(hi:PI X tg iter wi)(hkind:scope.kind=.function)(hcell:∀y∈scope.names,y.2≠.cell)(hfr:∀y∈scope.names,y.2=.free->X.env.kindOf y.1=U .cell\/X.env.kindOf y.1=U .free)(hnames:∀x∈scope.names,x.2=.local->scope.names.lookup x.1=U .local)(caps:Qu X scope Nc src)(hg:∀fp s H,PG (Oo X scope Nc fp s H) tg g)(ht:∀fp s H,Adn (Oo X scope Nc fp s H) ifs tt)(he:∀fp s H,PE (Oo X scope Nc fp s H) elt te)(hs:∀x,BC iter X.env x=pure x){use:Option (Ai->IK Unit)}{Q0:Ai->Au->Prop}{Q:VK}{pins:Ly}{s:Au}{J:St}{H:Hp}{ipos:CU}(I:Inv X pins J H s)(h:AkR src wi g tt te J H Q)(fin:∀(fp:Lv)(s3 s5:Au)(D:Ag)(H3 H4:Hp),Inv X pins J H3 s3->(∀b∈fp,Qv X pins H3 b)->Inv (Oo X scope Nc fp s3 H3) [] (pick src J) H4 s5->Q (.ref D) H4->compPost (A9 X.prog X.w) X.A X.xe use Q0 (.ref D) s3.heap.objs.size (.ok .next) s5):
  AW (A9 X.prog X.w) X.A (comprehension (.ListComp elt [#[tg,iter,ifs,0]] scope pos) scope X.env ipos (newList []) An (eval iter X.env) use) Q0 X.xe s:=by
 refine wpAny_comprehension_free (use:=use) (g:=#[tg,iter,ifs,0]) (gs:=[]) Y hs (S9 λx hx hf=>I.ok.has _<|hfr x hx hf) hkind hnames<|OG (hi pins s J H _ I h) λv s1 y0=>OG y0 λan E h2=>?_
 let(it,fp,V,j0,k,e,I2,T,u3,f2,hW):=h2;subst e;let(W,(m0,w0),aa):=hW E.heap.objs.size I2.fresh;refine CY ?_<|Bv _;have I3:=I2.Ahl (ys:=[]) (its:=[]) (t':=E.toks) .nil<|Bv _;have ah:∀b∈fp,b<E.heap.objs.size:=λb a=>by
  let(o,e,_):=T.obj 0 E.heap u3 b a;exact AU e
 generalize hD:E.heap.objs.size=D at *;have f3:∀b∈fp,Qv X pins (upd k D<|.lst []) b:=λb a=>#[by rw[NN<|Bg<|ah b a];exact(f2 b a).1,(f2 b a).2]
 generalize hs3:({E with heap:=E.heap.push {cls:=.type "list",data:=.seq ([]:LB).toArray}}:Au)=s3 at *;have P:V 0 s3.heap:=T.keep 0 E.heap s3.heap u3 λb _ o e=>by rw[<-hs3];exact Am _ e
 have R:∀b∈fp,b<s3.heap.objs.size:=λb a=>by
  let(o,e,_):=T.obj 0 s3.heap P b a;exact AU e
 refine FK hcell (by intro y hy;simp at hy) (λy0 ai af=>?_) hkind;have k1:∀b u,s3.heap.get? b=U u->y0.get? b=U u:=λb u e=>(af.2 b<|Bg<|AU e).trans (Am _ e)
 have Ic:=qQ (tk:=s3.toks+([]:L5).length) I3 hkind hcell hfr caps f3 R ai k1;have j:V 0 y0:=T.keep 0 s3.heap y0 P λb _ o e=>k1 b o e
 have l:∀{f:Hp},(∀b∈fp,f b=Ah)->∀b∈fp,Qv (Oo X scope Nc fp s3<|upd k D<|.lst []) [] f b:=λ{f}hn b a=>
  #[hn b a,Bg<|R b a,λz=>Ic.ok.AaO b a z,.inl a,λx c e=>(Ic.ok.Al1 b a).2 x c e,λp hp=>absurd (show p∈([]:Ly)from hp) M8]
 have C:∀(n:Nat)(K:Au),(∃i ys f,Inv (Oo X scope Nc fp s3<|upd k D<|.lst []) [] (pick src J) f K/\V i K.heap/\(∀b∈fp,f b=Ah)/\W i n ys f) ->
   EU (A9 X.prog X.w) X.A (.compLoop (.ListComp elt [#[tg,iter,ifs,0]] scope pos) 0 (.ref it) (.ref D)<|V7 X.env scope s3.heap.objs.size) (compPost (A9 X.prog X.w) X.A X.xe use Q0 (.ref D) s3.heap.objs.size) K:=by
  intro n K hI;refine codeAny_loop Y (λn K=>∃i ys f,Inv (Oo X scope Nc fp s3<|upd k D<|.lst []) [] (pick src J) f K/\V i K.heap/\(∀b∈fp,f b=Ah)/\W i n ys f) ?_ n hI;rintro n s4⟨i,ys,H4,I4,j,Z,w4⟩;show AW _ X.A ((compTurn (.ListComp elt [#[tg,iter,ifs,0]] scope pos) 0 (.ref it) (.ref D)<|V7 X.env scope s3.heap.objs.size).onRaise (λx=>do noteFrame x (V7 X.env scope s3.heap.objs.size);theTreesLotGoes x)) _ _ s4;refine wpAny_noted ?_;rw[compTurn_list];refine Ad<|Gb<|Ad ?_;rcases aa i n ys H4 w4 with⟨S,q⟩|⟨go,O⟩
  ·refine OG (T.done (Oo X scope Nc fp s3<|upd k D<|.lst []) Y Y Y hcalm i [] s4 _ H4 _ I4 (l Z) j S) λr s5⟨hr,I5⟩=>?_
   subst hr;exact Aw<|fin fp s3 s5 D _ H4 I3 f3 I5 q
  ·refine OG (T.item (Oo X scope Nc fp s3<|upd k D<|.lst []) Y Y Y hcalm i [] s4 _ H4 _ I4 (l Z) j go) λr s5⟨u,hr,h5⟩=>?_
   subst hr;refine Ad<|OG h5 λ_ s6⟨x,H6,I6,r6,y6,F,ac⟩=>?_
   have aj:=I6.pinned (l ac)<|T.obj _ _ F;refine Ad<|B1 (hg fp s3 (upd k D<|.lst []) _ s6 _ H6 x u _ aj r6<|O x H6 y6) (λ_ s7⟨ab,H7,I7,wk,q7⟩=>?_) λ_ _ z=>z.elim
   have t:∀{M:Au}{L:Hp}{G:Lx},Inv (Oo X scope Nc fp s3<|upd k D<|.lst []) ([]++RY fp s6.heap) ab L M->(∃m',m'<n/\W (i+1) m' G L) ->
     ∃m,m<n/\∃i ys f,Inv (Oo X scope Nc fp s3<|upd k D<|.lst []) [] (pick src J) f M/\V i M.heap/\(∀b∈fp,f b=Ah)/\W i m ys f:=λ{M L G}N⟨m',hm,w8⟩=>by
    refine#[m',hm,i+1,G,L,N.Rz.weak wk.len λi v e=>wk.get e,T.keep _ _ _ F λb a o e=>(N.pin (b,o)<|AY _<|AY _<|O4 a e).1,λb a=>?_,w8];let(o,e,d):=T.obj _ _ F b a;exact(N.pin (b,o)<|AY _<|AY _<|O4 a e).2.1
   refine Ad<|B1 (ht fp s3 (upd k D<|.lst []) _ s7 ab H7 _ I7 q7) (λb M⟨L,N,q8⟩=>?_) λ_ _ z=>z.elim
   cases b with
   |false=>rw[Ay AQ]at q8;exact Aw #[Y,t N q8]
   |true=>
     rw[AG Y]at q8;refine Ad<|Ad<|B1 (he fp s3 (upd k D<|.lst []) _ M ab L _ N q8) (λy s9⟨yv,H9,I9,r9,zs,ad,ak,q9⟩=>?_) λ_ _ z=>z.elim
     refine Ad<|B1 (UI (X:=Oo X scope Nc fp s3<|upd k D<|.lst []) _ s9 ab H9 (.ref D) [yv] (.ref D) [y] (λ_ f=>f=upd H9 D (.lst<|zs++[yv])) I9 Y (.cons r9 .nil) #[D,zs,yv,Y,Y,ad,ak,Y]) (λ_ al⟨_,am,ae,_,ag⟩=>?_) λ_ _ z=>z.elim
     subst ag;exact Aw<|Aw #[Y,t ae q9]
 have B:∀b∈fp,(upd k D<|.lst []) b=Ah:=λb a=>(f3 b a).1
 exact codeAny_compStart_list (C m0 _ #[0,[],_,Ic,j,B,w0]) (T.self X.A 0 _ _ _ j<|C m0 _ #[0,[],_,Ic,j,B,w0])
def gC{elt iter tg:Expr}{ifs:LJ}{scope:Scope}{pos:CU}{Nc:Lw}{src:LC}{wi:TI}{g:TG}{tt:TT}{te:TE}(hcalm:X.calm=Af)(hi:PI X tg iter wi)(hkind:scope.kind=.function)(hcell:∀y∈scope.names,y.2≠.cell)(hfr:∀y∈scope.names,y.2=.free->X.env.kindOf y.1=U .cell\/X.env.kindOf y.1=U .free)(hnames:∀x∈scope.names,x.2=.local->scope.names.lookup x.1=U .local)(caps:Qu X scope Nc src)(hg:∀fp s H,PG (Oo X scope Nc fp s H) tg g)(ht:∀fp s H,Adn (Oo X scope Nc fp s H) ifs tt)(he:∀fp s H,PE (Oo X scope Nc fp s H) elt te)(hs:∀x,BC iter X.env x=pure x:=by intro _;rfl):PE X (.ListComp elt [#[tg,iter,ifs,0]] scope pos) (AkR src wi g tt te):=by
 intro A s J H Q I h;refine uM hcalm hi hkind hcell hfr hnames caps hg ht he hs I h λfp w M D B t C m j q=>?_
 let(G,r,_):=j.loc;refine#[G,r,λE p=>?_];have i:∀b o,w.heap.get? b=U o->b≠w.heap.objs.size:=λb o e=>Bg<|AU e
 have f:=j.base;have K:Un _ fp B t _ E:=#[λb o e n d l=>(p.2 b<|i b o e).trans (f.keep b o e n d l),λb o e n d l=>by
   let(F,q):=f.slot b o e n d l;exact#[F,(p.2 b<|i b o e).trans q],f.free,λb o e l=>by
   let(j0,q):=f.there b o e l;exact#[j0,(p.2 b<|i b o e).trans q],f.Ul,f.VE,f.WU]
 have k:=λb u e=>by
  have a:t w.heap.objs.size=Ah:=j.free;refine(j.N5 b u e).bA (λc v L q=>(p.2 c ?_).trans q) (λ_ q=>q) λ_ _ q=>q
  rintro rfl;rcases L with z|z
  ·rw[<-z,a]at e;cases e
  ·rw[a]at z;cases z
 refine#[.ref D,t,?_,Y,q];exact Inv.AfO C j.os K k j.bare λb d=>#[(m b d).2.2.2.1,(m b d).2.1,(m b d).2.2.2.2.1,(m b d).2.2.2.2.2]
end
section
variable{X:Cx}
def Wz{i₀:Nat}{x₀:AA}{pos₀ spos:CU}{elt iter tg:Expr}{ifs:LJ}{scope:Scope}{pos:CU}{Nc:Lw}{src:LC}{wi:TI}{g:TG}{tt:TT}{te:TE}(hN:X.N.Nodup)(hi₀:X.N[i₀]?=U x₀)(hx₀:Loc X.env.scope x₀)(hcalm:X.calm=Af)(hi:PI X tg iter wi)(hkind:scope.kind=.function)(hcell:∀y∈scope.names,y.2≠.cell)(hfr:∀y∈scope.names,y.2=.free->X.env.kindOf y.1=U .cell\/X.env.kindOf y.1=U .free)(hnames:∀x∈scope.names,x.2=.local->scope.names.lookup x.1=U .local)(caps:Qu X scope Nc src)(hg:∀fp s H,PG (Oo X scope Nc fp s H) tg g)(ht:∀fp s H,Adn (Oo X scope Nc fp s H) ifs tt)(he:∀fp s H,PE (Oo X scope Nc fp s H) elt te)(hs:∀x,BC iter X.env x=pure x:=by intro _;rfl)(hsw:swapsWith (.ListComp elt [#[tg,iter,ifs,0]] scope pos) (U<|.Name x₀ pos₀) spos.line X.env=pure Af:=by rfl)(hf₀:X.fn x₀=Af\/X.env.scope.names.lookup x₀=U .local:=by first|exact .inl rfl|exact .inr rfl|assumption):PS X (.Assign [.Name x₀ pos₀] (.ListComp elt [#[tg,iter,ifs,0]] scope pos) spos) (Afw (AkR src wi g tt te)<|U4 i₀):=by
 intro a s J H E I h;rw[exec_Assign_Name_used _ _ _ _ hsw];refine Ad<|Gb<|Ad ?_;show AW _ X.A (do let _ <-comprehension (.ListComp elt [#[tg,iter,ifs,0]] scope pos) scope X.env _ (newList []) An (eval iter X.env) (U<|assign (.Name x₀ pos₀) X.env)) _ _ s;refine Ad<|B1 (uM hcalm hi hkind hcell hfr hnames caps hg ht he hs (use:=U<|assign (.Name x₀ pos₀) X.env) (Q0:=λ_ s'=>SP X a E .next s') I h λfp p r D w j t k f q=>?_) (λ_ s' z=>Aw<|Aw z) λ_ _ e=>e
 let(F,l,_):=f.loc;have C:Un (Aag X.stack) fp w j p.heap r.heap:=f.base;have i:Inv X a J j r:=Inv.AfO (s':=r) (ch:=fp) t f.os C f.N5 f.bare λb d=>#[(k b d).2.2.2.1,(k b d).2.1,(k b d).2.2.2.2.1,(k b d).2.2.2.2.2]
 have c:Qv X a j p.heap.objs.size:=t.UT (Ao _) f.free;show AW _ X.A (assign (.Name x₀ pos₀) X.env<|.ref D) _ _ _;refine JW<|gQ (v:=.ref D) i hN hi₀ hx₀ Y (λu B⟨G,K,j0⟩=>?_) hf₀;have n:p.heap.objs.size≠G:=by
  rintro rfl;rcases j0 with e|e
  ·exact c.2.1 e
  ·exact c.2.2.2.2.1 x₀ _ e Y
 refine#[F,l.sameBut K n,λL m=>#[J.set i₀<|U<|.ref D,j,?_,(aZ (J:=J)▸q:_)]];exact B.turned (t':=u.toks) (λb o d e=>(m.2 b d).trans e) c.1 c.2.1 c.2.2.2.1 c.2.2.2.2.1 c.2.2.2.2.2
end
def AiM(x:AA):It:=#[λi _=>i<x.cps.size,λi H v H'=>H'=H/\∃c,x.cps[i]?=U c/\v=.str ⟨(zTo [c])⟩,λi _=>x.cps.size<=i]
def Ac9{K:Ab}{tg:Expr}(it:Ag)(ty:String)(hty:ty="str_ascii_iterator"\/ty="str_iterator")(x:AA)(t:KL):Turn P w K tg (AiM x) [it] it (λi h=>h.IsStrIter it ty x t i) where
 mem:=M8
 obj:=λi h a b g=>by
  have e:b=it:=by simpa using g
  subst e;let(o,e,c,d):=a;exact#[o,e,λv z=>by rw[d]at z;cases z]
 keep:=λi h j a k=>let⟨o,e,r⟩:=a;#[o,k it M8 o e,r]
 item:=by
  intro X M L G N i f s J H E I y a F;subst M L G;let(p,q,R,D,C,B):=y it M8;have l:i<x.cps.size:=F;have m:∀j,j.IsStrIter it ty x t (i+1)->CP it s.heap j->∃u,U (Ei ⟨(zTo [x.cps[i]])⟩ s.toks)=U u /\
    AW (A9 X.prog X.w) X.A (Fv tg (.ref it) u) (λ_ O=>∃v H',Inv X f J H' O/\RelV v u/\(AiM x).Aai i H v H'/\O.heap.IsStrIter it ty x t (i+1)/\∀b∈[it],H' b=Ah) E {s with heap:=j,toks:=s.toks+1}:=λj n S=>by
   have Q:Inv X f J H {s with heap:=j,toks:=s.toks+1}:=I.turned (λb o g e=>(S.2 b g).trans e) p q D C B;let(o,e,c,d):=id n;exact#[_,Y,mU (s:={s with heap:=j,toks:=s.toks+1}) e c d (by rcases hty with rfl|rfl<;>decide) #[.str ⟨(zTo [x.cps[i]])⟩,H,Q,#[_,Y],#[Y,_,by simp[l],Y],n,λb g=>(y b g).1]]
  rcases hty with rfl|rfl
  ·exact wpAny_pyNext_ascii_item a (c:=x.cps[i]) (by simp[l]) m
  ·exact wpAny_pyNext_wide_item a (c:=x.cps[i]) (by simp[l]) m
 done:=by
  intro X M L G N i f s J H E I y a F;subst M L G;let(p,q,R,D,C,B):=y it M8;have l:x.cps.size<=i:=F;rcases hty with rfl|rfl
  ·exact wpAny_pyNext_ascii_end (I.ok.hd N) a (by simp[l]) λj j0=>#[Y,I.turned (t':=s.toks) (λb o g e=>j0 b o g e) p q D C B]
  ·exact wpAny_pyNext_wide_end (I.ok.hd N) a (by simp[l]) λj j0=>#[Y,I.turned (t':=s.toks) (λb o g e=>j0 b o g e) p q D C B]
 self:=λ_ _ _ _ _ a h=>by
  rcases hty with rfl|rfl
  ·exact wpAny_pyIter_striter_ascii a h
  ·exact wpAny_pyIter_striter_wide a h
def Al6(tl:TE):TI:=λJ H R=>tl J H λx H1=>∃z,x=.str z/\R (AiM z) H1
def Aci{tg:Expr}(hl:PE X l tl):PI X tg l (Al6 tl):=by
 intro a s J H R I h;refine OG (hl a s J H _ I h) λv d⟨x,k,i,m,n⟩=>?_
 let(z,e,q):=n;subst e;let(t,rfl):=m;have c:∀f,(f="str_ascii_iterator"\/f="str_iterator")->AlE X a J tg R _ {d with heap:=d.heap.push {cls:=.type f,data:=.fields _}}:=λf g=>by
  refine#[d.heap.objs.size,[d.heap.objs.size],_,_,k,Y,i.kept λb o e=>Am _ e,Ac9 _ f g z t,#[_,AN _ Y,Y,Y],λb p=>?_,q];have e:b=d.heap.objs.size:=by simpa using p
  subst e;exact i.UT (Ao _)<|i.N5.fresh<|Ao _
 cases j:z.cps.all _
 ·exact wpAny_pyIter_wide j<|c _<|.inr Y
 ·exact wpAny_pyIter_ascii j (c _<|.inl Y)
structure Ai1(j0:It)(H1:Hp)(xs:Lx):Prop where
 go:∀i H,NV H1 H->i<xs.length->j0.go i H
 Aai:∀i H x H',NV H1 H->i<xs.length->j0.Aai i H x H'->H'=H/\xs[i]?=U x
 stop:∀H,NV H1 H->j0.stop xs.length H
def NV.AcT{K:Ab}(e:NV H H')(h:P5 K H a xs):P5 K H' a xs:=by
 rcases h with(h|⟨o,h⟩)|h
 ·exact .inl<|.inl<|e _ _ h
 ·exact .inl<|.inr #[o,e _ _ h]
 ·exact .inr h
def ZQ{K:Ab}(h:Pb K H1 a xs):Ai1 (AiL K a) H1 xs:=#[λi H s b=>#[xs,xs[i],s.seq h,by simp[b]],λi H x c s b y=>#[y.1,y.2 xs<|s.seq h],λH s=>#[xs,s.seq h,Ao _]]
def Aeb{K:Ab}(h:P5 K H1 a xs):Ai1 (Alw K a) H1 xs:=#[λi H s b=>#[xs,xs[i],s.AcT h,by simp[b]],λi H x c s b y=>#[y.1,y.2 xs<|s.AcT h],λH s=>#[xs,s.AcT h,Ao _]]
def xN{lo:Int}{n:Nat}:Ai1 (Aad lo n) H1 ((Ba n).map λi=>V.int<|lo+(i:Nat)):=#[λi H s a=>by simpa[Aad]using a,λi H x b s a y=>#[y.1,by
  have a:i<n:=by simpa using a
  rw[Aj,Eh a];exact congrArg U y.2.symm],λH s=>by simp[Aad]]
def uJ:Ai1 (AiM x) H1 (x.cps.toList.map λc=>V.str ⟨(zTo [c])⟩):=#[λi H s a=>by simpa[AiM]using a,λi H v d s a y=>#[y.1,by
  let(c,b,rfl):=y.2;rw[Aj,B4,b];rfl],λH s=>by simp[AiM]]
def VJ(L:Ai1 j0 H1 xs)(hz:xs.length<=sizeLine)(hD:H1 D=Ah)(p:V->Bool)(f:V->V)(hs:∀(i:Nat)x H(R:V->Hp->Prop)(R':Hp->Prop),xs[i]?=U x->NV H1 H->(∀H6,p x=Af->NV H H6->R (f x) H6)->(∀H6,p x=An->NV H H6->R' H6) ->
   g x (pick src J) H λσ4 H4=>Wk (pick src J) σ4/\tt σ4 H4 λb H5=>if b=Af then te σ4 H5 R else R' H5)(hq:∀H',H' D=U (.lst<|(xs.filter p).map f)->NV H1 H'->Q (.ref D) H'):Aly src J g tt te j0 H1 D Q:=by
 have a:∀{H:Hp}{o:HO},NV H1 H->NV H1 (upd H D o):=λ{H o}s b u e=>by
  rw[NN<|NZ e hD];exact s b u e
 refine#[λi m l H=>m=xs.length-i/\i<=xs.length/\l=((xs.take i).filter p).map f/\H D=U (.lst l)/\NV H1 H,#[xs.length,M8,Bv _,M8,NQ,a<|NV.refl _],?_];rintro i m l k⟨rfl,z,c,n,h⟩;by_cases d:i<xs.length
 ·refine .inr #[L.go i k h d,λx v y=>?_];let(e,t):=L.Aai i k x v h d y;subst e;have r:(xs.take<|i+1)=xs.take i++[x]:=by rw[BP,t];rfl
  have w:l.length<=i:=by rw[c,Ac];exact AS (BB _ _) (by rw[Bt];omega)
  refine hs i x v _ _ t h (λH6 q j=>#[_,j _ _ n,M6,xs.length-(i+1),M6,Y,d,?_,NQ,a<|h.trans j]) (λH6 q j=>#[xs.length-(i+1),M6,Y,d,?_,j _ _ n,h.trans j])
  ·rw[r,CF,Bi,<-c];simp[q]
  ·rw[r,CF,Bi,<-c];simp[q]
 ·have e:i=xs.length:=M6;subst e;rw[BA]at c;exact .inl #[L.stop k h,hq k (by rw[<-c];exact n) h]
section
variable{X:Cx}
def AcC(K₀:Ab):Lx->Hp->VK->Prop:=λxs H Q=>∃x n t b,xs=[x,.ty n]/\V5 K₀ H x t/\Gh K₀ t (.type n)=U b/\Q (.bl b) H
def QK{K₀:Ab}{NR:Hp}[hK:N3 X K₀ NR]:P7 X (.builtin "isinstance") (AcC K₀):=by let(rfl,rfl):=hK;intro a s J H j i Q I r h;let(x,n,t,b,rfl,f,e,q):=h;let(u,v,rfl,d,g):=r.two;cases g;exact xK I d f e λc=>#[.bl b,H,I.tok c,Y,q]
def Aky(K₀:Ab):Lx->Hp->VK->Prop:=λxs H Q=>∃(a:Ag)(bs:List Bool),xs=[.ref a]/\Pb K₀ H a (bs.map V.bl)/\Q (.bl<|bs.all id) H
def Zp(hc:X.calm=Af){K₀:Ab}{NR:Hp}[hK:N3 X K₀ NR]:P7 X (.builtin "all") (Aky K₀):=by
 let(rfl,rfl):=hK;intro l s J H T u3 Q I r h;let(a,d,rfl,G,q):=h;let(u,rfl,M):=vals1 r;cases M;let(g,y,z,S):=I.list G;have t:a<s.heap.objs.size:=by let(o,n,e,_):=z;exact AU e
 refine call_all_walk<|Gz z.isList ?_;refine#[s.heap.objs.size,_,_,_,_,_,λi=>(d[i]?).getD An,Y,GD (A:=X.A.in1) ((I.ok.hd hc)) _ a (Bg t) _,#[#[_,AN _ Y,Y,Y],z.isList.push _],?_,λO P F=>?_]
 ·intro i v D j0 R C m;have p:=y.length;rw[Ac]at p;have f:i<g.length:=by simpa using(Av.mp<|by simpa using C).1
  have j:i<d.length:=M6;have K:(d.map V.bl)[i]?=U (.bl d[i]):=by simp[j]
  let(N,w,x):=y.get K;have B:g[i]?=U v:=by simpa using C
  rw[w]at B;cases B;cases x;refine Cg ?_;have L:(d[i]?).getD An=d[i]:=by simp[j]
  have m:j0 ((d[i]?).getD An) D:=m;rw[L]at m;exact m
 ·have p:=y.length;rw[Ac]at p;have e:((Ba g.toArray.size).all λi=>(d[i]?).getD An)=d.all id:=by
   rw[Aq,<-p,BM,BL,BL];constructor
   ·intro c b j;let(i,f,rfl):=List.mem_iff_getElem.mp j;have:=c i<|B6.mpr f;simpa[f]using this
   ·intro c i f;have f:=B6.mp f;have:=c d[i] (Cy f);simpa[f]using this
  refine#[.bl _,H,?_,by rw[e];rfl,q];have E:Inv X l J H {s with heap:=s.heap.push {cls:=.type "list_iterator",data:=.fields (zTo [.ref a,.int 0 0])}}:=I.kept λb o e=>Am _ e
  have k:=I.UT (Ao _)<|I.N5.fresh<|Ao _;exact E.turned (λb o j e=>F b o (by simpa using j) e) k.1 k.2.1 k.2.2.2.1 k.2.2.2.2.1 k.2.2.2.2.2
def SX:∀{us:LB},Vals (ys.map V.str) us->Kb us ys:=by
 induction ys with
 |nil=>intro us r;cases r;exact .nil
 |cons y ys ih=>
   intro us r;cases r with
   |cons r rr=>let(t,rfl):=r;exact .cons _ _ (ih rr)
def rJoin(K:Ab):V->Lx->Hp->VK->Prop:=λx vs H Q=>∃(z:AA)(a:Ag)(ys:Lw),x=.str z/\vs=[.ref a]/\Pb K H a (ys.map V.str)/\(ys.map (·.length)).sum+ys.length*z.length<=16777216/\Q (.str<|Ep z ys) H
def Aex{K₀:Ab}{NR:Hp}[hK:N3 X K₀ NR]:Ady X "str.join" (rJoin K₀):=by let(rfl,rfl):=hK;intro b s J H x m v l Q I g i h;let(z,a,n,rfl,rfl,c,j,q):=h;let(t,rfl):=g;let(u,rfl,e):=i.one;cases e;let(d,r,f,_):=I.list c;exact join_list f.isList (by simpa using SX r) j λo k=>#[.str _,H,I.tok k,#[_,Y],q]
def gA:RU X (Be .LtE) (λx y H Q=>∃i j,x=.str i/\y=.str j/\Q (.bl<|!decide (j.cps.toList<i.cps.toList)) H):=by intro a s J H x y v u Q I c b h;let(i,j,rfl,rfl,q):=h;let(t,rfl):=c;let(d,rfl):=b;exact PySem.P.le_str (Oe I q Y)
end
namespace Boot
def b_isinstance:BD "isinstance"=U (.builtin "isinstance"):=M4
def b_len:BD "len"=U (.builtin "len"):=M4
def b_all:BD "all"=U (.builtin "all"):=M4
def b_min:BD "min"=U (.builtin "min"):=M4
def b_sorted:BD "sorted"=U (.builtin "sorted"):=M4
def b_int:BD "int"=U (.type "int"):=M4
def b_str:BD "str"=U (.type "str"):=M4
def b_bool:BD "bool"=U (.type "bool"):=M4
def b_list:BD "list"=U (.type "list"):=M4
def b_dict:BD "dict"=U (.type "dict"):=M4
def b_set:BD "set"=U (.type "set"):=M4
def b_range:BD "range"=U (.type "range"):=M4
def b_enumerate:BD "enumerate"=U (.type "enumerate"):=M4
end Boot
structure tL(P:Bn)(w:Bw)(K:Ab)(mg:AA->LH)(base:BO)(k:Nat)(x:AA)(ps:Lw)(sp:Sp):Prop where
 ex:∃(f:Ag)(fd:CA),Si P w K mg base qB k f fd ps sp/\mg x=U (.ref f)/\By K (.ref f)=Af/\Binds K fd ps []/\∃oc od osl,K.lookup f=U #[oc,od,.func fd,osl]
structure tK(K:Ab)(mg:AA->LH)(x:AA)(st:Bm)(ps:Lw):Prop where
 ex:∃(f:Ag)(fd:CA),AfH K x x st f fd/\mg x=U (.ref f)/\Binds K fd ps []
section
variable{P:Bn}{w:Bw}{K:Ab}{mg:AA->LH}{base:BO}
def tK.has{st:Bm}{k:Nat}(d:tK K mg x st ps)(S:O0 N ps (NM st))(hbody:∀(f:Ag)(cdv:Ai)(A:BQ)(outer:LU)(s:Au)(H:Hp)(vs:Lx)(Q:VK)(E:XK),N8 k (A.deeper<|D0 x (NM st) s.heap.objs.size f cdv)->sp vs H Q E ->
   ∃t,Q6 (Yt qB P w K mg base N x (NM st) f cdv A outer s H E).AbK (NY st) t/\t {nx:=λ_ H'=>Q .Of H',rt:=Q} (start N vs) H)(len:∀vs H Q E,sp vs H Q E->vs.length=ps.length:=by walk_at"l"):tL P w K mg base (k+1) x ps sp:=by
 let(f,c,F,b,m):=d.ex;let(l,g,p,j,o,n,cdv,q,a,e,h,i):=F.ex;exact#[f,c,F.ok S len<|hbody f,b,F.kp,m,l,g,a,h]
def tL.fn{k:Nat}{f:Ag}(u3:tL P w K mg base k x ps sp)(m:mg x=U (.ref f))(l:K.lookup f=U #[oc,od,.func fd,osl]):Si P w K mg base qB k f fd ps sp:=by let(h,b,F,c,_,_,e,g,a,d):=u3.ex;rw[c]at m;cases m;rw[d]at l;cases l;exact F
def AaF{st:Bm}{f:Ag}{kV:Ai}(X:K.In h)(G:h.Ns AJ mg)(a:A4 K AJ x=U (U<|.ref f))(l:K.lookup f=U #[oc,od,.func<|Bu x x (Om st) (NY st) (NM st) .none kV doc pm an cdv ct,osl])(c:DC K cdv x=Af)(k:By K (.ref f)=Af)(b:∀(kV doc pm:Ai)(an:LO)(cdv ct:Ai)(us:LB),us.length=ps.length->Ce (Bu x x (Om st) (NY st) (NM st) .none kV doc pm an cdv ct) #[us,[]]=pure (ps.zip us)):tK K mg x st ps:=#[f,_,Xk l c k,Bj X G a,(Xk l c k).binds b]
end
section
variable{X:Cx}{k:Nat}{x:AA}{ps:Lw}{sp:Sp}{p pos:CU}{e:Expr}{es:LJ}{t:TA}
def AhQ(u3:tL X.prog X.w X.K X.mg X.base k x ps sp){n:Nat}(hr:N8 n X.A)(ha:PA X (e::es) t)(hdb:(x==("__debug__":AA))=An:=by decide)(he:AL (e::es) X.env=(An,eval e X.env)::AL es X.env:=by rfl)(hpl:(Ca pos<|AL es X.env).any (·.1)=An:=by rfl)(hn:k<=n:=by decide)(hg:Gl X x:=by rfl):PE X (.Call (.Name x p) (e::es) [] pos) (vS sp [] E0 t):=by let(f,d,F,a,b,c,_):=u3.ex;exact AeN F (hr.mono hn) hg a b c .nil oP ha hdb he hpl
def PD{scope sc0:Scope}(h:X.env.scope=sc0)(hd:∀y∈scope.names,y.2=.free->sc0.names.lookup y.1=U .cell\/sc0.names.lookup y.1=U .free):∀y∈scope.names,y.2=.free->X.env.kindOf y.1=U .cell\/X.env.kindOf y.1=U .free:=λy a b=>by
 subst h;exact hd y a b
def OE:Qu X scope [] []:=trivial
def OS(h:Qu X scope r q):Qu X scope (y::r) (Ah::q):=h
def OQ(h1:X.N[i]?=U y)(h2:X.env.kindOf y=U .cell\/X.env.kindOf y=U .free)(h3:scope.names.lookup y=U .free)(h:Qu X scope r q):Qu X scope (y::r) (U i::q):=#[#[h1,h2,h3],h]
end
def ZS{K:Ab}{n:String}(hn:n∈["NoneType","bool","int","str","list","tuple","dict"])(hc:c∈["bool","int","str","list","tuple","dict"]):Gh K (.type n) (.type c)=U (n==c||(n == "bool"&&c == "int")):=by
 simp only[AB,Cv,FU]at hn hc;rcases hn with rfl|rfl|rfl|rfl|rfl|rfl|rfl<;>rcases hc with rfl|rfl|rfl|rfl|rfl|rfl<;>rfl
def lX(mg:AA->LH)(x:AA)(v:V):Prop:=∃u,mg x=U u/\RelV v u
def TU{pos:CU}(hg:Gl X x)(h:lX X.mg x v)(hd:(x==("__debug__":AA))=An:=by decide):PE X (.Name x pos) (tC v):=by let(u,a,r):=h;exact AeQ hg a r hd
def rE{p A B:Prop}[Decidable p](h1:p->A)(h2:¬ p->B):if decide p=Af then A else B:=by
 by_cases h:p
 ·rw[AG<|Ap h];exact h1 h
 ·rw[Ay<|by simpa using h];exact h2 h
def Ama{A B:Prop}(h1:a=b->A)(h2:¬ a=b->B):if decide (V.int a=V.int b)=Af then A else B:=rE (λh=>h1 (by cases h;rfl)) λh=>h2 λe=>h (by rw[e])
def AjO{A B:Prop}(h1:a=b->A)(h2:¬ a=b->B):if decide (V.str a=V.str b)=Af then A else B:=rE (λh=>h1 (by cases h;rfl)) λh=>h2 λe=>h (by rw[e])
def AjN{A B:Prop}(h1:b=Af->A)(h2:b=An->B):if b=Af then A else B:=by
 cases b
 ·exact h2 Y
 ·exact h1 Y
def Ad3{A B:Prop}(e:b=An)(h:B):if b=Af then A else B:=by rw[Ay (by rw[e];decide)];exact h
def Al9{p A B:Prop}[Decidable p](e:b=decide p)(h1:p->A)(h2:¬ p->B):if b=Af then A else B:=by subst e;exact rE h1 h2
def O9{j:Int}(h:0<j):0<j:=h
def AdD(h0:0<=i)(h:xs[i.toNat]?=U v):Y1 xs i=U v:=by have a:=(Av.mp h).1;unfold Y1 Aah;rw[AG h0,AG M6];exact h
def NV.upd(s:NV H H1)(n:H1 p=Ah):NV H (upd H1 p o):=λb u e=>by
 rw[NN<|NZ (s b u e) n];exact s b u e
abbrev kinds:List String:=["NoneType","bool","int","str","list","tuple","dict"]
structure Thing(K:Ab)(H:Hp)(x:V)(n:String):Prop where
 ty:V5 K H x (.type n)
 mem:n∈kinds
def Thing.AbJ{K:Ab}{n:String}(h:Thing K H x n)(hn:n≠"str"):∀z,x≠.str z:=λz e=>by
 subst e;have t:=h.ty;generalize hv:El n=v at t;cases t;cases hv;exact hn Y
def Thing.Af6{K:Ab}(h:Thing K H x "str"):∃z,x=.str z:=by have t:=h.ty;generalize hv:El "str"=v at t;cases t<;>first|exact#[_,Y]|(simp at hv)
def Thing.Ahv{K:Ab}{n:String}(h:Thing K H x n)(hn:n≠"int"):∀z,x≠.int z:=λz e=>by
 subst e;have t:=h.ty;generalize hv:El n=v at t;cases t;cases hv;exact hn Y
def Thing.AjM{K:Ab}(h:Thing K H x "int"):∃z,x=.int z:=by have t:=h.ty;generalize hv:El "int"=v at t;cases t<;>first|exact#[_,Y]|(simp at hv)
def Aar(d:α)(h0:0<=i)(h:i<xs.length):Y1 xs i=U (xs.getD i.toNat d):=by refine AdD h0 ?_;have a:i.toNat<xs.length:=M6;simp[List.getD,a]
def iS:Lx->Lx->Bool
 |[],[]=>Af
 |x::xs,y::ys=>lS x y&&iS xs ys
 |_,_=>An
def Zx:∀{xs ys:Lx},xs.length≠ys.length->iS xs ys=An
 |[],[],h=>absurd Y h
 |[],_::_,_=>rfl
 |_::_,[],_=>rfl
 | x::xs,y::ys,h=>by
   unfold iS;rw[Zx (xs:=xs) (ys:=ys) (λe=>h<|by simp[e]),DY]
def iU:∀{xs ys:Lx},xs.length=ys.length->(Ba xs.length).all (λi=>lS ((xs[i]?).getD .Of)<|(ys[i]?).getD .Of)=iS xs ys
 |[],[],_=>rfl
 |[],_::_,h=>by simp at h
 |_::_,[],h=>by simp at h
 | x::xs,y::ys,h=>by
   have a:=iU (xs:=xs) (ys:=ys) (by simpa using h);rw[AI,HF,Ct,Dn];unfold iS;rw[<-a];rfl
def Y5(r:Vals xs us)(q:Vals ys ws)(fx:xs.all O6=Af)(fy:ys.all O6=Af):∀j(h1:j<us.toArray.size)(h2:j<ws.toArray.size),BR A s us.toArray[j] ws.toArray[j] (lS ((xs[j]?).getD .Of)<|(ys[j]?).getD .Of):=by
 intro j h1 h2;simp only[Aq]at h1 h2;have i:=r.length;have k:=q.length;have b:j<xs.length:=M6;have c:j<ys.length:=M6;let(u,g,f):=r.get<|Ae b;let(w,d,a):=q.get<|Ae c;have e:us.toArray[j]=u:=by have:=Ae h1;rw[g]at this;simpa using(AK this).symm
 have h:ws.toArray[j]=w:=by have:=Ae h2;rw[d]at this;simpa using(AK this).symm
 rw[e,h,Ae b,Ae c];exact iR f a (BL.mp fx _<|Cy b) (BL.mp fy _<|Cy c)
section
variable{X:Cx}
def Ah9(hu:X.A.units<Cd)(I:Inv X pins J H s)(h:(Pb X.K H p xs/\Pb X.K H q ys)\/(P5 X.K H p xs/\P5 X.K H q ys))(fx:xs.all O6=Af)(fy:ys.all O6=Af):FD X.A s (.ref p) (.ref q) (iS xs ys)/\EM X.A s (.ref p) (.ref q) (!iS xs ys):=by
 rcases h with⟨n,m⟩|⟨n,m⟩
 ·obtain ⟨f,r,d,_⟩:=I.list n;let(g,c,a,_):=I.list m;have j:=r.length;have l:=c.length;by_cases e:xs.length=ys.length
  ·have b:f.toArray.size=g.toArray.size:=by simp only[Aq];omega
   have k:(Ba f.toArray.size).all (λi=>lS ((xs[i]?).getD .Of)<|(ys[i]?).getD .Of)=iS xs ys:=by rw[Aq,<-j];exact iU e
   rw[<-k];exact#[Hy d.isList a.isList b hu<|Y5 r c fx fy,GP d.isList a.isList b hu<|Y5 r c fx fy]
  ·have b:(f.toArray.size != g.toArray.size)=Af:=by simp only[Aq,bne_iff_ne];omega
   rw[Zx e];exact#[Ej d.isList a.isList b hu,D8 d.isList a.isList b hu]
 ·obtain ⟨f,r,d,_⟩:=I.tuple n;let(g,c,a,_):=I.tuple m;have j:=r.length;have l:=c.length;have k:((Ba<|min f.toArray.size g.toArray.size).all (λi=>lS ((xs[i]?).getD .Of)<|(ys[i]?).getD .Of)&&f.toArray.size==g.toArray.size)=iS xs ys:=by
   by_cases e:xs.length=ys.length
   ·rw[Aq,Aq,<-j,<-l,<-e,E3,iU e];simp
   ·rw[Zx e,Aq,Aq,<-j,<-l,B9.mpr e,DY]
  rw[<-k];exact#[Ht d a hu<|Y5 r c fx fy,GG d a hu<|Y5 r c fx fy]
end
section
open PySem.Builtin.Str
def Ow(c:Nat):LP->L7
 |[]=>[[]]
 |a::l=>if a=c then[]::Ow c l else(match Ow c l with|p::r=>(a::p)::r|[]=>[[a]])
def zT(c:Nat):∀l,Ow c l≠[]
 |[]=>by simp[Ow]
 | a::l=>by
   unfold Ow;split
   ·simp
   ·split<;>simp
def Uj:∀{p:LP},c∉p->Ow c p=[p]
 |[],_=>rfl
 | a::p,h=>by
   have b:=Uj (p:=p) λm=>h<|AD _ m
   unfold Ow;rw[Ay (λe:a=c=>h (by rw[e];exact AX)),b]
def SW:∀{p:LP},c∉p->Ow c (p++c::l)=p::Ow c l
 | [],_=>by
   show Ow c (c::l)=_;rw[Ow,AG Y]
 | a::p,h=>by
   have b:=SW (l:=l) (p:=p) λm=>h<|AD _ m
   show Ow c (a::(p++c::l))=_;rw[Ow];rw[Ay (λe:a=c=>h (by rw[e];exact AX)),b]
def fQ(c:Nat):L7->LP
 |[]=>[]
 |[p]=>p
 |p::q::r=>p++c::fQ c (q::r)
def Yl:∀{ps:L7},ps≠[]->(∀p∈ps,c∉p)->Ow c (fQ c ps)=ps
 |[],h,_=>absurd Y h
 |[p],_,h=>Uj<|h p AX
 | p::q::r,_,h=>by
   unfold fQ;rw[SW<|h p AX,Yl M8 λx a=>h x<|AD _ a]
def nI(c:Nat):∀ps:Lw,(EL ⟨(zTo [c])⟩ ps).cps.toList=fQ c (ps.map (·.cps.toList))
 |[]=>rfl
 |[p]=>rfl
 | p::q::r=>by
   have a:=nI c (q::r);have e:EL ⟨(zTo [c])⟩ (p::q::r)=p++⟨(zTo [c])⟩++EL ⟨(zTo [c])⟩ (q::r):=rfl;rw[e];show(p.cps++(zTo [c])++(EL ⟨(zTo [c])⟩ (q::r)).cps).toList=_;simp only[Ir,a,Az,fQ];simp
def gP(x:AA)(c:Nat):(CO x ⟨(zTo [c])⟩).map (·.cps.toList)=Ow c x.cps.toList:=by
 have f:=StrLaws.join_split x ⟨(zTo [c])⟩;have d:=StrLaws.split_free x c;have g:=split_pos x ⟨(zTo [c])⟩;have e:x.cps.toList=fQ c ((CO x ⟨(zTo [c])⟩).map (·.cps.toList)):=by rw[<-nI,f]
 rw[e,Yl]
 ·intro z;have:(CO x ⟨(zTo [c])⟩).length=0:=by rw[<-Ac,z];rfl
  omega
 ·intro p a;let(q,b,rfl):=AR.mp a;exact d q b
def gO:∀{l:LP}{p:LP},p∈Ow c l->c∉p/\p.length<=l.length
 | [],p,h=>by
   rw[Ow,As]at h;subst h;simp
 | a::l,p,h=>by
   have b:=λ{q}=>gO (c:=c) (l:=l) (p:=q)
   rw[Ow]at h;split at h
   ·rcases AB.mp h with rfl|h
    ·simp
    ·have:=b h;exact#[this.1,by rw[AI];omega]
   ·rename_i d;cases e:Ow c l with
    |nil=>exact absurd e<|zT c l
    |cons q r=>
      rw[e]at h;rcases AB.mp h with rfl|h
      ·have:=b (q:=q) (by rw[e];exact AX);refine#[λm=>?_,by rw[AI,AI];omega];rcases AB.mp m with f|m
       ·exact d f.symm
       ·exact this.1 m
      ·have:=b (q:=p) (by rw[e];exact AD _ h);exact#[this.1,by rw[AI];omega]
def aY:∀l:LP,(Ow c l).length<=l.length+1
 |[]=>by simp[Ow]
 | a::l=>by
   have b:=aY (c:=c) l;rw[Ow];split
   ·simp;omega
   ·cases e:Ow c l with
    |nil=>simp
    |cons q r=>rw[e]at b;simp at b ⊢;omega
def hJ:HQ x ⟨(zTo [c])⟩ x.length i↔x.cps.toList[i]?=U c:=StrLaws.subAt_one x c i
def AbX(h:x.cps.toList=w++c::r)(hw:c∉w):(Hr x ⟨(zTo [c])⟩).1.cps.toList=w:=by
 have f:HQ x ⟨(zTo [c])⟩ x.length w.length:=hJ.mpr (by rw[h];simp);rcases partition_head x ⟨(zTo [c])⟩with⟨_,d⟩|⟨i,e,b,d⟩
 ·exact absurd f<|d _
 ·have b:=hJ.mp b;have j:i<=w.length:=Gm λa=>d _ a f
  have g:¬ i<w.length:=λa=>by
   rw[h,Dr a]at b;exact hw<|Cj.mpr #[i,b]
  have k:i=w.length:=M6;rw[e,G7,k,h];simp
def zJ(h:x.cps.toList=w++c::r)(hr:c∉r):(Fq x ⟨(zTo [c])⟩).1.cps.toList=w:=by
 have f:HQ x ⟨(zTo [c])⟩ x.length w.length:=hJ.mpr (by rw[h];simp);unfold Fq;rcases StrLaws.last_spec x ⟨(zTo [c])⟩with⟨e,d⟩|⟨i,e,b,d⟩
 ·exact absurd f<|d _
 ·rw[e];show(strSub x 0 i).cps.toList=w;have b:=hJ.mp b;have g:w.length<=i:=Gm λa=>d _ a f
  have j:¬ w.length<i:=λa=>by
   rw[h,Dj M6]at b;have:i-w.length=(i-w.length-1)+1:=M6;rw[this,EK]at b;exact hr<|Cj.mpr #[_,b]
  have k:i=w.length:=M6;rw[G7,k,h];simp
def lB{x y:AA}(h:x.cps.toList=y.cps.toList):x=y:=by cases x;cases y;simp only[AA.mk.injEq];exact Array.toList_inj.mp h
def Zt:A1 "."=⟨(zTo [46])⟩:=M4
def NV.Am9(s:NV H H1)(n:H p=Ah):NV H (L2.upd H1 p o):=λb u e=>by
 rw[NN<|NZ e n];exact s b u e
section
variable{X:Cx}
def Vz:∀(tk:Nat)(ys:Lw),Vals (ys.map V.str) (strsFrom tk ys)
 |_,[]=>.nil
 |tk,y::r=>.cons #[_,Y] (Vz (tk+1) r)
def Ah8:V->Lx->Hp->VK->Prop:=λx vs H Q=>∃z y,x=.str z/\vs=[.str y]/\y.length≠0/\z.length<=1000000/\∀p,H p=Ah->Q (.ref p) (upd H p<|.lst<|(CO z y).map V.str)
def nZ:Ady X "str.split" Ah8:=by
 intro d s J H x p v w Q I m n h;let(z,y,rfl,rfl,l,B,q):=h;let(t,rfl):=m;let(u,rfl,i,rfl):=n.one;have o:=I.fresh;have f:(y.length==0)=An:=by simpa using l
 have A:=Bb;have k:=split_le z y;have a:∀(c:LB)(j:Nat),Vals _ c->EP X d J Q _ {s with heap:=s.heap.push _,toks:=j}:=λc j r=>
  #[.ref _,_,I.Ahl r (by rw[Ac];omega),Y,q _ o]
 cases b:(decide (z.length<y.length)||decide (strKind z<strKind y))
 ·cases g:(occurrences z y 0 _ _).isEmpty
  ·have e:CO z y=partsBetween z _ _:=(Ay<|G3 b).trans (Ay<|G3 g);refine DZ F.slot_str_split (EE _ _ _) F.entry_str_split (F.args_str_split_2 _ _) (meets_str_split_sep z y t i b f g M6 (by rw[<-e];omega)) ?_;exact a _ _ (by rw[e];exact Vz _ _)
  ·have e:CO z y=[z]:=(Ay<|G3 b).trans (AG g);refine DZ F.slot_str_split (EE _ _ _) F.entry_str_split (F.args_str_split_2 _ _) (meets_str_split_not_found z y t i b f g) ?_;exact a _ _ (by rw[e];exact .cons #[_,Y] .nil)
 ·have e:CO z y=[z]:=AG b;refine DZ F.slot_str_split (EE _ _ _) F.entry_str_split (F.args_str_split_2 _ _) (meets_str_split_cannot_occur z y t i b) ?_;exact a _ _ (by rw[e];exact .cons #[_,Y] .nil)
def Agp(f:AA->AA->AA×AA×AA):V->Lx->Hp->VK->Prop:=λx vs H Q=>∃z y,x=.str z/\vs=[.str y]/\y.length≠0/\z.length<=1000000/\∀p,H p=Ah->Q (.ref p) (upd H p<|.tup [.str (f z y).1,.str (f z y).2.1,.str (f z y).2.2])
def Afz(I:Inv X pins J H s)(ta tb tc tk:Nat)(q:∀p,H p=Ah->Q (.ref p) (upd H p<|.tup [.str a,.str b,.str c])):EP X pins J Q (.ref s.heap.objs.size) {s with heap:=s.heap.push {cls:=.type "tuple",data:=.seq [Ei a ta,.str b tb,.str c tc].toArray},toks:=tk}:=by
 refine#[.ref _,_,?_,Y,q _ I.fresh];refine I.laid (λb o e=>Am _ e) (Ao _) #[by simp only[AI,CN];decide,[.str a ta,.str b tb,.str c tc],.cons #[_,Y]<|.cons #[_,Y]<|.cons #[_,Y] .nil,?_];exact#[_,AN _ Y,Y,0,Y]
def jU:Ady X "str.partition" (Agp Hr):=by
 intro b s J H x j v g Q I e f h;let(z,y,rfl,rfl,c,l,q):=h;let(t,rfl):=e;let(u,rfl,d,rfl):=f.one;have a:(y.length==0)=An:=by simpa using c
 have k:=Bb;refine DZ F.slot_str_partition (EE _ _ _) F.entry_str_partition (F.args_str_partition_2 _ _) (meets_str_partition z y t d a M6) ?_;unfold Hr at q
 revert q
 cases occurrences z y 0 _ 1 with
 |nil=>intro q;exact Afz I _ _ _ _ q
 |cons i r=>intro q;exact Afz I _ _ _ _ q
def cY:Ady X "str.rpartition" (Agp Fq):=by
 intro b s J H x j v g Q I e f h;let(z,y,rfl,rfl,c,l,q):=h;let(t,rfl):=e;let(u,rfl,d,rfl):=f.one;have a:(y.length==0)=An:=by simpa using c
 have k:=Bb;refine DZ F.slot_str_rpartition (EE _ _ _) F.entry_str_rpartition (F.args_str_rpartition_2 _ _) (meets_str_rpartition z y t d a M6) ?_;unfold Fq at q
 revert q
 cases lastOccurrence z y 0 _ with
 |none=>intro q;exact Afz I _ _ _ _ q
 |some i=>intro q;exact Afz I _ _ _ _ q
end
end
def NF(H:Hp)(a:Ag):Prop:=∀o u,H a≠U (.Rg o u)
def ZO{k:Key}(h:(Oj P w).is k u=Af):RelV (kV k) u:=by
 rcases OP h with⟨i,t,rfl,rfl⟩|⟨x,t,rfl,rfl⟩
 ·exact#[t,Y]
 ·exact#[t,Y]
section
variable{X:Cx}{pins:Ly}{J:St}{H:Hp}{s:Au}{a:Ag}{kvs:LA}{o:CL}
def Inv.freeze(I:Inv X pins J H s)(e:H a=U (.dK kvs)):∃o,Inv X pins J (upd H a<|.Rg o<|.dK kvs) s/\NF X.NR a:=by
 let(z,g,h,c,f):=eW I.N5 e;let(o,l,k,d,r):=id f;refine#[o,?_,λi j q=>?_]
 ·exact I.write (by rw[e];exact Bk) (.inl Y) (λb u _ q=>q) #[o,d] #[d,z,g,h,c,f]
 ·have:=I.base.VE a i j q;rw[e]at this;cases this
def Inv.AkY(I:Inv X pins J H s)(e:H a=U (.Rg o<|.dK kvs))(n:NF X.NR a):Inv X pins J (upd H a<|.dK kvs) s:=by
 have d:∀b,H b=Ah->(upd H a<|.dK kvs) b=Ah:=λb q=>by
  rw[NN λz=>by rw[z,e]at q;cases q];exact q
 refine#[I.ok,I.os,I.bare,#[I.base.keep,I.base.slot,λb f q A t=>d b<|I.base.free b f q A t,I.base.there,λb g q=>?_,λb f u q=>?_,λb j q=>?_],I.loc,I.cell,d _ I.free,λx c q=>d _<|I.QL x c q,λp i=>?_,?_,I.len]
 ·have:=I.base.Ul b g q;rw[NN λz=>by rw[z,e]at this;cases this];exact this
 ·have:=I.base.VE b f u q;rw[NN λz=>by subst z;exact n _ _ q];exact this
 ·let(m,this):=I.base.WU b j q;exact#[m,by rw[NN λz=>by rw[z,e]at this;cases this];exact this]
 ·let(k,r,l):=I.pin p i;exact#[k,d _ r,l]
 ·intro b u q;by_cases h:b=a
  ·subst h;rw[NQ]at q;cases q;exact(show Oy _ X.w H _ b _ from I.N5 b _ e).2
  ·rw[NN h]at q;refine(I.N5 b u q).bA (λc v _ z=>z) (λc z=>?_) λc g z=>?_
   ·rw[NN λy=>by rw[y,e]at z;cases z];exact z
   ·rw[NN λy=>by rw[y,e]at z;cases z];exact z
def AkZ(NR:Hp)(D:Ends):Ends:={D with
 nx:=λJ H=>∃a o kvs,H a=U (.Rg o<|.dK kvs)/\NF NR a/\D.nx J (upd H a<|.dK kvs)
 rt:=λv H=>∃a o kvs,H a=U (.Rg o<|.dK kvs)/\NF NR a/\D.rt v (upd H a<|.dK kvs)}
def Ae9{st:Bm}{t:TS}(h:PS X st t){K₀:Ab}{NR:Hp}[hK:N3 X K₀ NR]:PS X st (λD J H=>D.bk=D.bk/\t {AkZ NR D with bk:=λ_ _=>False,ct:=λ_ _=>False} J H):=by
 let(rfl,rfl):=hK;intro b s J H D I⟨_,q⟩;refine OG (h b s J H _ I q) λf l c=>?_
 cases f with
 |next=>let(i,j,g,a,o,d,e,n,k):=c;exact#[i,_,g.AkY e n,k]
 |brk=>let(_,_,_,k):=c;exact k.elim
 |cont=>let(_,_,_,k):=c;exact k.elim
 |ret v=>let(x,i,j,g,r,a,o,d,e,n,k):=c;exact#[x,i,_,g.AkY e n,r,k]
end
def AiK(a:Ag)(o:CL)(kvs:LA):It:=#[λi H=>i<kvs.length/\H a=U (.Rg o<|.dK kvs),λi H x H'=>H'=H/\∃kv,kvs[i]?=U kv/\x=kV kv.1,λi H=>kvs.length<=i/\H a=U (.Rg o<|.dK kvs)]
def AiJ(a:Ag)(o:CL)(kvs:LA):It:=#[λi H=>i<kvs.length/\H a=U (.Rg o<|.dK kvs),λi H x H'=>∃t kv,H t=Ah/\kvs[i]?=U kv/\x=.ref t/\H'=upd H t (.tup [kV kv.1,kv.2]),λi H=>kvs.length<=i/\H a=U (.Rg o<|.dK kvs)]
def AaL(o:CL):Nat:=match o.data with|.dict _ ep=>ep|_=>0
def Rf(I:Inv X pins J H s)(e:H a=U (.Rg o<|.dK kvs)):(a==Cs)=An/\kvs.length<=sizeLine/\∃vs,KV kvs vs/\vs.length=kvs.length/\s.heap.DictAt (Oj X.prog X.w) a vs (AaL o)/\s.heap.get? a=U o:=by
 let(d,z,g,vs,b,n,l,h,c,k,f,i):=(show Oy _ X.w H _ a _ from I.N5 a _ e);rw[d]at c;cases c;have j:=(AE b).symm;have m:AaL o=h:=by unfold AaL;rw[f]
 exact#[g,z,vs,b,j,#[o,l,d,k,by rw[m];exact f,i],d]
def KV.get(r:KV kvs vs)(h:i<kvs.length):∃k v u,kvs[i]?=U (k,v)/\vs[i]?=U (k,u)/\RelV v u:=by
 induction r generalizing i with
 |nil=>simp at h
 |@cons p q ps qs hh t ih=>
   cases i with
   |zero=>let(a,c):=p;let(g,d):=q;let(e,r):=hh;subst e;exact#[a,c,d,Y,Y,r]
   |succ j=>let(k,v,u,b,f,r):=ih (by simpa using h);exact#[k,v,u,by simpa using b,by simpa using f,r]
def zY{K:Ab}{tg:Expr}(a it:Ag)(o:CL)(kvs:LA):Turn P w K tg (AiK a o kvs) [it] it (λi h=>h.IsKeyIter it a i kvs.length<|AaL o) where
 mem:=M8
 obj:=λi h f b j=>by
  have e:b=it:=by simpa using j
  subst e;let(o,e,c,d):=f;exact#[o,e,λv z=>by rw[d]at z;cases z]
 keep:=λi h n f k=>f.at λo e=>k it M8 o e
 item:=by
  intro X G C A M i g s J H E I p f r;subst G C A;let(L,e):=r;let(N,z,S,m,q,x,V):=Rf I e;let(k,v,u,Z,T,ru):=m.get L;let(t,y,y0,j0,F,D):=p it M8;rw[<-q]at f;refine wpAny_pyNext_dict_item f x T λB n R l sb=>?_
  rw[q]at l;have Q:Inv X g J H {s with heap:=n}:=I.turned (t':=s.toks) (λb o j e=>(sb.2 b j).trans e) t y j0 F D;let(o2,e3,W,O):=id l;exact#[B,Y,mU (s:={s with heap:=n}) e3 W O M5 #[kV k,H,Q,ZO R,#[Y,_,Z,Y],l,λb j=>(p b j).1]]
 done:=by intro X G C A M i g s J H E I p f r;subst G C A;let(L,e):=r;let(N,z,S,m,q,x,V):=Rf I e;let(t,y,y0,j0,F,D):=p it M8;rw[<-q]at f;exact wpAny_pyNext_dict_end (I.ok.hd M) f x (Bx M6) λn u3=>#[Y,I.turned (t':=s.toks) (λb o j e=>u3 b o j e) t y j0 F D]
 self:=λ_ _ _ _ _ f h=>Jk f h
def Z5{h:BO}{o u:CL}(hu:u.isFreed=An)(e:(h.push u).get? b=U o):(b=h.objs.size/\o=u)\/h.get? b=U o:=by
 by_cases a:b=h.objs.size
 ·subst a;rw[AN h hu]at e;exact .inl #[Y,(AK e).symm]
 ·rw[BO.get?_push_ne _ _ _ a]at e;exact .inr e
def Zv:entryFor table "dict_itemiterator.__iter__"=U C3.«dict_keyiterator.__iter__»:=KH (id':="dict_keyiterator.__iter__") (by kernel_rfl) Y M4 (by kernel_rfl)
def YR{it:Ag}{n:Nat}{ok:Ai}(hit:IsItemIter s.heap it d i n ep ok ov)(h:Q (.ref it) s):AW (A9 prog w) A (JF<|.ref it) Q E s:=by have a:s.TypeIs (.ref it) "dict_itemiterator":=#[_,hit,Y];refine JU a F.slot_dict_itemiterator_iter<|CI F.slot_dict_itemiterator_iter a Zv ?_<|F.args_dict_itemiterator_iter_1 _;exact Aw #[_,Y,"dict_itemiterator",_,a,F.slot_dict_itemiterator_next.lookup,h]
def tG{P:Bn}{w:Bw}{K:Ab}{elts:LJ}{x1}{tpos:CU}(a it:Ag)(o:CL)(kvs:LA):Turn P w K (.Tuple elts x1 tpos) (AiJ a o kvs) [it] it (λi h=>∃ok ov,IsItemIter h it a i kvs.length (AaL o) ok ov) where
 mem:=M8
 obj:=λi h c b d=>by
  have e:b=it:=by simpa using d
  subst e;let(ok,ov,e):=c;exact#[_,e,λv z=>by
   have V:Kk _=KQ v:=z;cases V]
 keep:=λi h h'⟨ok,ov,c⟩k=>#[ok,ov,k it M8 _ c]
 item:=by
  intro X j0 C B Q i g s J H E I D c t;subst j0 C B;let(ok,ov,c):=c;let(N,e):=t;let(R,z,Z,n,r,x,ho):=Rf I e;let(k,v,u,e1,e2,ru):=n.get N;let(p,A,f2,L,G,F):=D it M8;have l:it<s.heap.objs.size:=AU c;rw[<-r]at c;refine wpAny_pyNext_items_item c x e2 λf h' W y u3 hz T=>?_
  refine#[_,Y,wpAny_letOwnedTupleGo_items (s:={s with heap:=h'}) y λM m O=>?_];rw[r]at m;have hn:H s.heap.objs.size=Ah:=I.fresh;have Im:Inv X g J (upd H s.heap.objs.size<|.tup [kV k,v]) {s with heap:=s.heap.push {cls:=.type "tuple",data:=.seq (zTo [f,u])}}:=
   I.laid (t':=s.toks) (λb o e=>Am _ e) (Ao _) #[by show 2<=sizeLine;decide,[f,u],.cons (ZO W)<|.cons ru .nil,_,AN s.heap Y,Y,0,Y]
  have y0:∀b q,b≠it->(s.heap.push {cls:=.type "tuple",data:=.seq (zTo [f,u])}).get? b=U q->M.get? b=U q:=λb q d j=>by
   rcases Z5 (h:=s.heap) (u:={cls:=.type "tuple",data:=.seq (zTo [f,u])}) Y j with⟨S,e6⟩|j
   ·subst S e6;exact(O.2 _ d).trans u3
   ·exact(O.2 _ d).trans (T b q d j)
  have I2:=Im.turned (h':=M) (t':=s.toks) (it:=it) y0 (by rw[NN<|Bg l];exact p) A L G F;refine#[.ref s.heap.objs.size,_,I2,Y,#[_,_,hn,e1,Y,Y],#[_,_,m],λb d=>?_];have j:b=it:=by simpa using d
  subst j;rw[NN<|Bg l];exact p
 done:=by intro X j0 C B Q i g s J H E I D c t;subst j0 C B;let(ok,ov,c):=c;let(N,e):=t;let(R,z,Z,n,r,x,ho):=Rf I e;let(p,A,f2,L,G,F):=D it M8;rw[<-r]at c;exact wpAny_pyNext_items_end (I.ok.hd Q) c x (Bx M6) λh' j=>#[Y,I.turned (t':=s.toks) (λb o d e=>j b o d e) p A L G F]
 self:=λ_ _ _ _ _⟨_,_,c⟩h=>YR c h
def Anw(j0:Ag->CL->LA->It)(NR:Hp)(R:It->Hp->Prop):VK:=λx H1=>∃a kvs,x=.ref a/\H1 a=U (.dK kvs)/\∀o,NF NR a->R (j0 a o kvs) (upd H1 a<|.Rg o<|.dK kvs)
abbrev iD(j0:Ag->CL->LA->It)(NR:Hp)(tl:TE):TI:=λJ H R=>tl J H (Anw j0 NR R)
section
variable{X:Cx}{tg:Expr}
def AeY(hl:PE X l tl){K₀:Ab}{NR:Hp}[hK:N3 X K₀ NR]:PI X tg l (iD AiK NR tl):=by
 let(rfl,rfl):=hK;intro c s J H R I h;refine OG (hl c s J H _ I h) λv i⟨x,B,u,p,r⟩=>?_
 let(a,g,e,k,q):=r;subst e;cases p;let(o,f,w):=u.freeze k;let(j,z,A,n,d,m,y):=Rf f NQ;refine wpAny_pyIter_dict j m ?_;rw[d];refine#[i.heap.objs.size,[i.heap.objs.size],_,_,_,Y,f.kept λb o e=>Am _ e,zY a _ o g,#[_,AN _ Y,Y,Y],λb t=>?_,q o w];have e:b=i.heap.objs.size:=by simpa using t
 subst e;exact f.UT (Ao _) (f.N5.fresh<|Ao _)
def Ach{x1}(hl:PE X l tl)(hbase:Co l "items" X.env (eval l X.env)=eval l X.env:=by rfl)(hline:(apos.endLine==cpos.line)=Af:=by rfl){K₀:Ab}{NR:Hp}[hK:N3 X K₀ NR]:PI X (.Tuple elts x1 tpos) (.Call (.Attribute l "items" apos) [] [] cpos) (iD AiJ NR tl):=by
 let(rfl,rfl):=hK;intro c s J H R I h;refine IG hbase hline<|OG (hl c s J H _ I h) λv f⟨x,C,y,u,a,i,e,p,q⟩=>?_
 subst e;cases u;let(o,m,A):=y.freeze p;let(n,z,r,t,d,k,B):=Rf m NQ;have g:=k.dictOf;refine#["dict","dict.items",F.plainAttrs_dict,F.slot_dict_items,F.type_dict_items,g.typeIs,g.mapOf.noDict,Cf Y<|Ie ?_];refine Dd F.slot_dict_items g.typeIs F.entry_dict_items (F.args_dict_items_1 _) (meets_dict_items _ a n) #[#[r,g],?_];have j:Inv X c J _ {f with heap:=f.heap.push {cls:=.type "dict_items",data:=.fields (zTo [.ref a])}}:=m.kept λb o e=>Am _ e
 refine wpAny_pyIter_items #[_,AN _ Y,Y,Y] (k.push _) ?_;rw[d];refine#[_,[(f.heap.push _).objs.size],_,_,_,Y,j.kept λb o e=>Am _ e,tG a _ o i,#[_,_,AN _ Y],λb w=>?_,q o A];have e:b=(f.heap.push {cls:=.type "dict_items",data:=.fields (zTo [.ref a])}).objs.size:=by simpa using w
 subst e;exact j.UT (Ao _) (j.N5.fresh<|Ao _)
end
def XX:∀{ns:Lw}{us:LB},Kb us ns->Vals (ns.map V.str) us
 |_,_,.nil=>.nil
 |_,_,.cons n t h=>.cons #[t,Y] (XX h)
section
variable{X:Cx}
def yZ(K₀:Ab):Lx->Hp->VK->Prop:=λxs H Q=>∃(p:Ag)(ns:Lw),xs=[.ref p]/\Pb K₀ H p (ns.map V.str)/\ns.length<64/\∀(ms:Lw)l,ms.Perm ns->GI ms=Af->H l=Ah->Q (.ref l) (upd H l<|.lst<|ms.map V.str)
def iG{K₀:Ab}{NR:Hp}[hK:N3 X K₀ NR]:P7 X (.builtin "sorted") (yZ K₀):=by
 let(rfl,rfl):=hK;intro i s J H B D Q I r h;let(p,z,rfl,m,y,k):=h;let(u,rfl,x):=vals1 r;cases x;let(d,g,q,A):=I.list m;have n:=g.length;rw[Ac]at n;refine sorted_strs q.isList (SX g) M6 λc f w j l=>?_
 let(e,v):=sortedAll_at s.heap d c;have t:H (s.heap.objs.size+1)=Ah:=I.N5.fresh<|Ft _;have C:=j.length_eq;refine#[.ref<|s.heap.objs.size+1,_,I.laid (a:=s.heap.objs.size+1) (o:=.lst<|f.map V.str) (t':=s.toks) (λb o=>sortedAll_old) (Ft _) #[?_,c.toList,e,XX w,?_],Y,k f _ j l t]
 ·rw[Ac,Bb];omega
 ·rw[Array.toArray_toList];exact v
def Ah4(K₀:Ab):Lx->Hp->VK->Prop:=λxs H Q=>∃(p:Ag)(ns:LD),xs=[.ref p]/\Pb K₀ H p (ns.map V.int)/\0<ns.length/\∀M,M∈ns->(∀a∈ns,M<=a)->Q (.int M) H
def wV(hc:X.calm=Af){K₀:Ab}{NR:Hp}[hK:N3 X K₀ NR]:P7 X (.builtin "min") (Ah4 K₀):=by
 let(rfl,rfl):=hK;intro g s J H c K Q I r h;let(p,o,rfl,A,q,k):=h;let(u,rfl,D):=vals1 r;cases D;let(y,z,B,j0):=I.list A;have l:=intsAre_of z;let(c,e):=l.allInts.items;have b:o=c.toList.map (·.1):=by rw[<-l.numsOf,<-nums_intItems,<-e]
 have d:0<c.size:=by have i:=q;rw[b,Ac,AZ]at i;exact i
 have f:=B.isList;rw[e]at f;refine min_intList (I.ok.hd hc) f d λv F x C w=>?_
 let(t,rfl):=intItems_at C;let(G,n):=argBest_lt (numAt c)<|c.size-1;refine#[.int _,H,I.kept (t':=x) w,#[t,Y],k _ ?_ λa m=>?_]
 ·rw[b,numAt_eq];exact getD_mem (by rw[Ac,AZ];omega)
 ·rw[b]at m;let(j,E,rfl):=mem_getD m;rw[Ac,AZ]at E;rw[<-numAt_eq];exact n j M6
def Afh:Lx->Hp->VK->Prop:=λxs H Q=>∃(p:Ag)(kvs:LA),xs=[.ref p]/\Rd H p (.dK kvs)/\∀l,H l=Ah->Q (.ref l) (upd H l<|.dK kvs)
def qO:P7 X (.type "dict") Afh:=by
 intro g s J H y w Q I r h;let(p,c,rfl,j,k):=h;let(u,rfl,m):=vals1 r;cases m;let(z,i,l,d,t):=Qy I.N5 j;have q:H s.heap.objs.size=Ah:=I.fresh;have x:c.length=l.length:=AE d;refine kt_call_dict i t M6 λv f n=>?_
 refine#[.ref s.heap.objs.size,_,I.laid (a:=s.heap.objs.size) (o:=.dK c) (t':=s.toks) (λb o e=>?_) (Ao _)<|Zr z (B9.mpr<|Ax<|Bg I.big) d f,Y,k _ q];exact(n.2 b<|Bg<|AU e).trans (Am _ e)
end
section
open PySem.W
end
section
open PySem.W
abbrev XF:=Ai->LO->St->Hp->Prop
end
section
open PySem.W
end
section
open PySem.W PySem.Builtin PySem.Builtin.ObjectAttr PySem.Builtin.Getset_descriptor
namespace Boot
end Boot
end
section
open PySem.W
end
section
open PySem.W
end
section
open PySem.W PySem.Builtin PySem.Builtin.ObjectAttr
end
section
open PySem.W PySem.Builtin PySem.Builtin.ObjectAttr PySem.Builtin.Getset_descriptor
end
section
open PySem.W
end
section
open PySem.W
end
section
open PySem.W
end
section
open PySem.W
abbrev TH:=Ag->Ai->LO->TS
end
section
open PySem.W
def Od(st:Bm)(j:Nat):Bm:=match st with
 |.ClassDef _ _ _ body _ _ _ _ _ _ _=>body.getD j<|.Pass #[0,0,0,0]
 |_=>.Pass #[0,0,0,0]
section
variable{K:Ab}
structure Xg(K:Ab)(C:Ag)(m qual:AA)(st:Bm)(ps:Lw)(f:Ag):Prop where
 ex:∃fd:CA,AfH K m qual st f fd/\Binds K fd ps []
def yA{st:Bm}{f:Ag}{kV:Ai}(l:K.lookup f=U #[oc,od,.func<|Bu m qual (Om st) (NY st) (NM st) .none kV doc pm an cdv ct,osl])(c:codeIn K cdv qual=Af)(k:keepIn K (.ref f)=Af)(b:∀(kV doc pm:Ai)(an:LO)(cdv ct:Ai)(us:LB),us.length=ps.length->Ce (Bu m qual (Om st) (NY st) (NM st) .none kV doc pm an cdv ct) #[us,[]]=pure (ps.zip us)):Xg K C m qual st ps f:=#[_,Xk l c k,(Xk l c k).binds b]
end
end
section
inductive DV where
 |fl (v:V)
 |tup (xs:List DV)
 |lst (xs:List DV)
 |AaD (ks:List (Key×DV))
mutual
def DV.eq:DV->DV->Bool
 |.fl a,.fl b=>lS a b
 |.tup xs,.tup ys=>DV.eqs xs ys
 |.lst xs,.lst ys=>DV.eqs xs ys
 |_,_=>An
def DV.eqs:List DV->List DV->Bool
 |[],[]=>Af
 |x::xs,y::ys=>DV.eq x y&&DV.eqs xs ys
 |_,_=>An
end
mutual
def DV.fit:DV->DV->Bool
 |.fl _,.fl _=>Af
 |.tup xs,.tup ys=>DV.fits xs ys
 |.lst xs,.lst ys=>DV.fits xs ys
 |_,_=>An
def DV.fits:List DV->List DV->Bool
 |x::xs,y::ys=>DV.fit x y&&DV.fits xs ys
 |_,_=>Af
end
mutual
def DV.dep:DV->Nat
 |.fl _=>0
 |.tup xs=>DV.TF xs+1
 |.lst xs=>DV.TF xs+1
 |.AaD _=>0
def DV.TF:List DV->Nat
 |[]=>0
 |x::xs=>max (DV.dep x) (DV.TF xs)
end
mutual
def VA(K:Ab)(H:Hp):DV->V->Prop
 |.fl a,v=>v=a/\O6 a=Af
 |.tup xs,v=>∃p vs,v=.ref p/\P5 K H p vs/\P1 K H xs vs
 |.lst xs,v=>∃p vs,v=.ref p/\Pb K H p vs/\P1 K H xs vs
 |.AaD ks,v=>∃p kvs,v=.ref p/\Rd H p (.dK kvs)/\Q7 K H ks kvs
def P1(K:Ab)(H:Hp):List DV->Lx->Prop
 |[],[]=>True
 |x::xs,v::vs=>VA K H x v/\P1 K H xs vs
 |_,_=>False
def Q7(K:Ab)(H:Hp):List (Key×DV)->LA->Prop
 |[],[]=>True
 |x::xs,v::vs=>x.1=v.1/\VA K H x.2 v.2/\Q7 K H xs vs
 |_,_=>False
end
def P1.length{K:Ab}:∀{xs:List DV}{vs:Lx},P1 K H xs vs->xs.length=vs.length
 |[],[],_=>rfl
 | _::_,_::_,h=>by
   rw[P1]at h;rw[AI,AI,P1.length h.2]
 |[],_::_,h=>by rw[P1]at h;exact h.elim;all_goals simp
 |_::_,[],h=>by rw[P1]at h;exact h.elim;all_goals simp
def P1.get{K:Ab}:∀{xs:List DV}{vs:Lx}{i:Nat}{v:V},P1 K H xs vs->vs[i]?=U v->∃x,xs[i]?=U x/\VA K H x v
 | x::xs,v::vs,0,u,h,e=>by
   rw[P1]at h;cases e;exact#[x,Y,h.1]
 | x::xs,v::vs,i+1,u,h,e=>by
   rw[P1]at h;exact P1.get (i:=i) h.2 e
 |[],[],_,_,_,e=>by simp at e
 |[],_::_,_,_,h,_=>by rw[P1]at h;exact h.elim;all_goals simp
 |_::_,[],_,_,h,_=>by rw[P1]at h;exact h.elim;all_goals simp
def Q7.length{K:Ab}:∀{xs:List (Key×DV)}{vs:LA},Q7 K H xs vs->xs.length=vs.length
 |[],[],_=>rfl
 | _::_,_::_,h=>by
   rw[Q7]at h;rw[AI,AI,Q7.length h.2.2]
 |[],_::_,h=>by rw[Q7]at h;exact h.elim;all_goals simp
 |_::_,[],h=>by rw[Q7]at h;exact h.elim;all_goals simp
def DV.iW:∀{xs ys:List DV},xs.length≠ys.length->DV.eqs xs ys=An
 |[],[],h=>absurd Y h
 |[],_::_,_=>by rw[DV.eqs];all_goals simp
 |_::_,[],_=>by rw[DV.eqs];all_goals simp
 | x::xs,y::ys,h=>by
   rw[DV.eqs,DV.iW (xs:=xs) (ys:=ys) (λe=>h<|by simp[e]),DY]
def DV.iV:∀{xs ys:List DV},xs.length=ys.length->(Ba xs.length).all (λi=>DV.eq ((xs[i]?).getD (.fl .Of))<|(ys[i]?).getD (.fl .Of))=DV.eqs xs ys
 |[],[],_=>by rw[DV.eqs];rfl
 |[],_::_,h=>by simp at h
 |_::_,[],h=>by simp at h
 | x::xs,y::ys,h=>by
   have a:=DV.iV (xs:=xs) (ys:=ys) (by simpa using h);rw[AI,HF,Ct,Dn,DV.eqs,<-a];rfl
def DV.UC:∀{xs ys:List DV}{i:Nat}{x y:DV},DV.fits xs ys=Af->xs[i]?=U x->ys[i]?=U y->DV.fit x y=Af
 |[],_,_,_,_,_,e,_=>by simp at e
 |_::_,[],_,_,_,_,_,e=>by simp at e
 | a::xs,b::ys,0,x,y,h,e1,e2=>by
   rw[DV.fits,Bf]at h;cases e1;cases e2;exact h.1
 | a::xs,b::ys,i+1,x,y,h,e1,e2=>by
   rw[DV.fits,Bf]at h;exact DV.UC (i:=i) h.2 e1 e2
def DV.Wa:∀{xs:List DV}{i:Nat}{x:DV},xs[i]?=U x->DV.dep x<=DV.TF xs
 |[],_,_,e=>by simp at e
 | a::xs,0,x,e=>by
   cases e;rw[DV.TF];exact JA _ _
 | a::xs,i+1,x,e=>by
   rw[DV.TF];exact AS (DV.Wa (i:=i) e) (Jr _ _)
def Zw(h:O6 a=Af):lS a a=Af:=by cases a<;>simp_all [O6,lS]
section
variable{X:Cx}{pins:Ly}{J:St}{H:Hp}{s:Au}
def oX(I:Inv X pins J H s):∀(n:Nat){d e:DV}{x:V},Ky d<n->VA X.K H d x->VA X.K H e x->DV.fit d e=Af->DV.eq d e=Af:=by
 intro n;induction n with
 |zero=>intro d e x h;omega
 |succ n ih=>
   have y:∀{c j:List DV}{g:Lx},Ky c<n->P1 X.K H c g->P1 X.K H j g->DV.fits c j=Af->DV.eqs c j=Af:=by intro c j g m r q f;have E:=r.length;have F:=q.length;rw[<-DV.iV (E.trans F.symm),BL];intro i D;rw[B6]at D;have k:i<g.length:=M6;let(a,v,z):=r.get<|Ae k;let(b,w,B):=q.get<|Ae k;rw[v,w];have C:Ky a<Ky c:=List.sizeOf_lt_of_mem<|Cj.mpr #[i,v];exact ih (E4 C m) z B<|DV.UC f v w
   intro d e x m r q f;cases d with
   |fl a=>
     cases e with
     |fl b=>rw[VA]at r q;let(rfl,l):=r;let(rfl,_):=q;rw[DV.eq];exact Zw l
     |_=>rw[DV.fit]at f;exact absurd f M8;all_goals simp
   |tup c=>
     cases e with
     |tup j=>rw[VA]at r q;let(p,g,rfl,l,o):=r;let(G,A,e,u,t):=q;cases e;cases I.gT l u;rw[DV.fit]at f;rw[DV.eq];refine y ?_ o t f;simp at m;omega
     |_=>rw[DV.fit]at f;exact absurd f M8;all_goals simp
   |lst c=>
     cases e with
     |lst j=>rw[VA]at r q;let(p,g,rfl,l,o):=r;let(G,A,e,u,t):=q;cases e;cases I.ZU l u;rw[DV.fit]at f;rw[DV.eq];refine y ?_ o t f;simp at m;omega
     |_=>rw[DV.fit]at f;exact absurd f M8;all_goals simp
   |AaD j0=>rw[DV.fit]at f;exact absurd f M8;all_goals simp
def Wn(rx:P1 X.K H xs vs)(ry:P1 X.K H ys ws)(ru:Vals vs us)(rw':Vals ws us')(k:∀(i:Nat)(a b:DV)(v w:V)(u u':Ai),xs[i]?=U a->ys[i]?=U b->VA X.K H a v->VA X.K H b w->RelV v u->RelV w u'->BR A s u u' (DV.eq a b)):∀j(h1:j<us.toArray.size)(h2:j<us'.toArray.size),BR A s us.toArray[j] us'.toArray[j] (DV.eq ((xs[j]?).getD (.fl .Of))<|(ys[j]?).getD (.fl .Of)):=by
 intro j h1 h2;simp only[Aq]at h1 h2;have p:=ru.length;have q:=rw'.length;have d:j<vs.length:=M6;have f:j<ws.length:=M6;let(u,n,ru):=ru.get<|Ae d;let(w,g,rw'):=rw'.get<|Ae f;let(a,c,m):=rx.get<|Ae d;let(b,e,l):=ry.get<|Ae f;have h:us.toArray[j]=u:=by have:=Ae h1;rw[n]at this;simpa using(AK this).symm
 have o:us'.toArray[j]=w:=by have:=Ae h2;rw[g]at this;simpa using(AK this).symm
 rw[h,o,c,e];exact k j a b _ _ u w c e m l ru rw'
def nR(hu:A.units<Cd)(I:Inv X pins J H s)(h1:Pb X.K H p vs)(h2:Pb X.K H q ws)(rx:P1 X.K H xs vs)(ry:P1 X.K H ys ws)(k:∀(i:Nat)(a b:DV)(v w:V)(u u':Ai),xs[i]?=U a->ys[i]?=U b->VA X.K H a v->VA X.K H b w->RelV v u->RelV w u'->BR A.in1 s u u' (DV.eq a b)):FD A s (.ref p) (.ref q) (DV.eqs xs ys)/\EM A s (.ref p) (.ref q) (!DV.eqs xs ys):=by
 let(h,r,g,_):=I.list h1;let(f,j,d,_):=I.list h2;have m:=r.length;have t:=j.length;have n:=rx.length;have o:=ry.length;by_cases e:xs.length=ys.length
 ·have c:h.toArray.size=f.toArray.size:=by simp only[Aq];omega
  have l:(Ba h.toArray.size).all (λi=>DV.eq ((xs[i]?).getD (.fl .Of))<|(ys[i]?).getD (.fl .Of))=DV.eqs xs ys:=by rw[Aq,<-m,<-n];exact DV.iV e
  rw[<-l];exact#[Hy g.isList d.isList c hu<|Wn rx ry r j k,GP g.isList d.isList c hu<|Wn rx ry r j k]
 ·have c:(h.toArray.size != f.toArray.size)=Af:=by simp only[Aq,bne_iff_ne];omega
  rw[DV.iW e];exact#[Ej g.isList d.isList c hu,D8 g.isList d.isList c hu]
def vW(hu:A.units<Cd)(I:Inv X pins J H s)(h1:P5 X.K H p vs)(h2:P5 X.K H q ws)(rx:P1 X.K H xs vs)(ry:P1 X.K H ys ws)(k:∀(i:Nat)(a b:DV)(v w:V)(u u':Ai),xs[i]?=U a->ys[i]?=U b->VA X.K H a v->VA X.K H b w->RelV v u->RelV w u'->BR A.in1 s u u' (DV.eq a b)):FD A s (.ref p) (.ref q) (DV.eqs xs ys)/\EM A s (.ref p) (.ref q) (!DV.eqs xs ys):=by
 let(g,r,m,_):=I.tuple h1;let(d,f,c,_):=I.tuple h2;have j:=r.length;have l:=f.length;have n:=rx.length;have h:=ry.length;have o:((Ba<|min g.toArray.size d.toArray.size).all (λi=>DV.eq ((xs[i]?).getD (.fl .Of))<|(ys[i]?).getD (.fl .Of))&&g.toArray.size==d.toArray.size)=DV.eqs xs ys:=by
  by_cases e:xs.length=ys.length
  ·rw[Aq,Aq,<-j,<-l,<-n,<-h,<-e,E3,DV.iV e];simp
  ·rw[DV.iW e,Aq,Aq,<-j,<-l,<-n,<-h,B9.mpr e,DY]
 rw[<-o];exact#[Ht m c hu<|Wn rx ry r f k,GG m c hu<|Wn rx ry r f k]
def qS(I:Inv X pins J H s):∀(n:Nat){A:BQ}{d e:DV}{x y:V}{u w:Ai},DV.dep d<n->A.units+n<Cd->DV.fit d e=Af->VA X.K H d x->VA X.K H e y->RelV x u->RelV y w->BR A s u w (DV.eq d e):=by
 intro n;induction n with
 |zero=>omega
 |succ n ih=>
   intro A d e x y u w F N f r q h c;cases d with
   |fl a=>
     cases e with
     |fl b=>let(rfl,k):=r;let(rfl,j):=q;exact iR h c k j
     |_=>rw[DV.fit]at f;exact absurd f M8;all_goals simp
   |tup xs=>
     cases e with
     |tup ys=>
       by_cases g:x=y
       ·subst g;have E:=oX I _ (Dq _) r q f;rw[E];let(p,z,rfl,k,j):=r;cases h;cases c;exact FF _
       let(p,z,rfl,k,j):=r;let(L,G,rfl,D,B):=q;cases h;cases c;rw[DV.dep]at F;refine G9 (λe=>g<|by rw[e]) (vW M6 I k D j B ?_).1;intro i a b v w u j0 m t o C h l;exact ih (BI (DV.Wa m) M6) (by show A.units+1+n<Cd;omega) (DV.UC f m t) o C h l
     |_=>rw[DV.fit]at f;exact absurd f M8;all_goals simp
   |lst xs=>
     cases e with
     |lst ys=>
       by_cases g:x=y
       ·subst g;have E:=oX I _ (Dq _) r q f;rw[E];let(p,z,rfl,k,j):=r;cases h;cases c;exact FF _
       let(p,z,rfl,k,j):=r;let(L,G,rfl,D,B):=q;cases h;cases c;rw[DV.dep]at F;refine G9 (λe=>g<|by rw[e]) (nR M6 I k D j B ?_).1;intro i a b v w u j0 m t o C h l;exact ih (BI (DV.Wa m) M6) (by show A.units+1+n<Cd;omega) (DV.UC f m t) o C h l
     |_=>rw[DV.fit]at f;exact absurd f M8;all_goals simp
   |AaD M=>rw[DV.fit]at f;exact absurd f M8;all_goals simp
def Afl(K:Ab)(neg:Bool):R2:=λx y H Q=>∃d e,VA K H d x/\VA K H e y/\DV.fit d e=Af/\(∀a,d≠.fl a)/\DV.dep d<=8/\Q (.bl (if neg then !DV.eq d e else DV.eq d e)) H
def AcH(I:Inv X pins J H s)(hu:X.A.units+64<Cd)(r:VA X.K H d x)(q:VA X.K H e y)(f:DV.fit d e=Af)(nf:∀a,d≠.fl a)(hz:DV.dep d<=8)(ru:RelV x u)(rw':RelV y w):
  FD X.A s u w (DV.eq d e)/\EM X.A s u w (!DV.eq d e):=by
 cases d with
 |fl a=>exact absurd Y<|nf a
 |tup xs=>
   cases e with
   |tup ys=>let(p,t,rfl,m,h):=r;let(z,B,rfl,n,j):=q;cases ru;cases rw';rw[DV.dep]at hz;refine vW M6 I m n h j ?_;intro i a b v w u C g o l k ru c;exact qS I 9 (BI (DV.Wa g) M6) (by show X.A.units+1+9<Cd;omega) (DV.UC f g o) l k ru c
   |_=>rw[DV.fit]at f;exact absurd f M8;all_goals simp
 |lst xs=>
   cases e with
   |lst ys=>let(p,t,rfl,m,h):=r;let(z,B,rfl,n,j):=q;cases ru;cases rw';rw[DV.dep]at hz;refine nR M6 I m n h j ?_;intro i a b v w u C g o l k ru c;exact qS I 9 (BI (DV.Wa g) M6) (by show X.A.units+1+9<Cd;omega) (DV.UC f g o) l k ru c
   |_=>rw[DV.fit]at f;exact absurd f M8;all_goals simp
 |AaD D=>rw[DV.fit]at f;exact absurd f M8;all_goals simp
end
section
variable{X:Cx}
def AhE(hu:X.A.units+64<Cd){K₀:Ab}{NR:Hp}[hK:N3 X K₀ NR]:RU X (Be .Eq) (Afl K₀ An):=by let(rfl,rfl):=hK;intro a s J H x y v u Q I b c h;let(d,e,r,q,f,g,i,k):=h;exact(AcH I hu r q f g i b c).1 _ _ _ _ #[.bl _,H,I,Y,k]
def AhI(hu:X.A.units+64<Cd){K₀:Ab}{NR:Hp}[hK:N3 X K₀ NR]:RU X (Be .NotEq) (Afl K₀ Af):=by let(rfl,rfl):=hK;intro a s J H x y v u Q I b c h;let(d,e,r,q,f,g,i,k):=h;exact(AcH I hu r q f g i b c).2 _ _ _ _ #[.bl _,H,I,Y,k]
def Wm(js:List (Key×DV)):List (Key×DV)->Bool
 |[]=>Af
 |(k,x)::ks=>(match js.find? (λj=>decide<|j.1=k)with|none=>An|some j=>DV.eq x j.2)&&Wm js ks
def mR(js:List (Key×DV)):List (Key×DV)->Bool
 |[]=>Af
 |(k,x)::ks=>(match js.find? (λj=>decide<|j.1=k)with|none=>Af|some j=>DV.fit x j.2)&&mR js ks
def Adr(ks js:List (Key×DV)):Bool:=ks.length==js.length&&Wm js ks
def iM(ks:List (Key×DV)):Nat:=DV.TF (ks.map (·.2))
def Q7.val{K:Ab}{k:Key}:∀{ks:List (Key×DV)}{kvs:LA},Q7 K H ks kvs ->
  (ks.find? (λj=>decide<|j.1=k)=Ah/\Pu kvs k=Ah)\/∃j v,ks.find? (λj=>decide<|j.1=k)=U j/\Pu kvs k=U v/\VA K H j.2 v
 |[],[],_=>.inl #[Y,Y]
 | x::xs,v::vs,h=>by
   rw[Q7]at h;let(e,r,h):=h;by_cases b:x.1=k
   ·right
    have a:v.1=k:=e▸b;exact#[x,v.2,by simp[EX,b],by simp[Pu,EX,a],r]
   ·have a:¬ v.1=k:=e▸b;have d:=Q7.val (k:=k) h;have c:(x::xs).find? (λj=>decide<|j.1=k)=xs.find? (λj=>decide<|j.1=k):=by simp[EX,b]
    have f:Pu (v::vs) k=Pu vs k:=by simp[Pu,EX,a]
    rw[c,f];exact d
 |[],_::_,h=>by rw[Q7]at h;exact h.elim;all_goals simp
 |_::_,[],h=>by rw[Q7]at h;exact h.elim;all_goals simp
def jL(I:Inv X pins J H s)(hu:A.units+9<Cd)(rj:Q7 X.K H js kvs)(rb:KV kvs kb):
  ∀{ks:List (Key×DV)}{kvs':LA}{ka:Mo},Q7 X.K H ks kvs'->KV kvs' ka->mR js ks=Af->iM ks<=8->PySem.W.KeqHits A s kb ka (Wm js ks)
 | [],[],ka,_,ra,_,_=>by
   cases ra;exact .nil
 | x::xs,v::vs,ka,h,ra,f,hz=>by
   rw[Q7]at h;let(e,r,h):=h;let(k,d):=x;cases ra with
   |@cons p q ps qs hh t=>
     let(u,D):=q;let(n,C):=v;let(l,o):=hh;have e:k=n:=e;have l:n=u:=l;subst e l;rw[mR,Bf]at f;have w:max (DV.dep d) (iM xs)<=8:=by have:=hz;unfold iM at this;rw[Az,DV.TF]at this;exact this
     have a:=rb.val k;rw[Wm];rcases rj.val (k:=k)with⟨g,m⟩|⟨j,y,g,m,B⟩
     ·rw[g];rw[m]at a;exact .miss (by
       cases b:Ds kb k with
       |none=>rfl
       |some z=>rw[b]at a;exact a.elim)
     ·rw[g]at f ⊢;rw[m]at a;obtain⟨z,i,c⟩:∃z,Ds kb k=U z/\RelV y z:=by
       cases b:Ds kb k with
       |none=>rw[b]at a;exact a.elim
       |some z=>rw[b]at a;exact#[z,Y,a]
      exact .hit i (qS I 9 M6 hu f.1 r B o c)<|jL I hu rj rb h t f.2 M6
 |[],_::_,_,h,_,_,_=>by rw[Q7]at h;exact h.elim;all_goals simp
 |_::_,[],_,h,_,_,_=>by rw[Q7]at h;exact h.elim;all_goals simp
def AkC(K:Ab)(neg:Bool):R2:=λx y H Q=>∃ks js,VA K H (.AaD ks) x/\VA K H (.AaD js) y/\mR js ks=Af/\iM ks<=8/\Q (.bl (if neg then !Adr ks js else Adr ks js)) H
def AhH(hu:X.A.units+64<Cd){K₀:Ab}{NR:Hp}[hK:N3 X K₀ NR]:RU X (Be .NotEq) (AkC K₀ Af):=by
 let(rfl,rfl):=hK;intro j s J H x y v u Q I G j0 h;let(c,l,r,q,f,C,k):=h;let(p,n,rfl,z,a):=r;let(P,i,rfl,F,d):=q;cases G;cases j0;let(O,B,D,b,t):=Qy I.N5 z;let(N,m,w,g,M):=Qy I.N5 F;have K:=a.length;have L:=d.length;have E:=AE b;have o:=AE g;refine PySem.W.keq_ne B m t M M6 (λ_=>jL I (by show X.A.units+1+9<Cd;omega) d g a b f C) #[.bl _,H,I,Y,?_];have e:(D.length==w.length&&Wm l c)=Adr c l:=by unfold Adr;rw[<-E,<-o,<-K,<-L]
 rw[e];exact k
end
end
def QS:∀{xs:Lx}{us:LB},xs.length=us.length->(∀(i:Nat)(x:V)(u:Ai),xs[i]?=U x->us[i]?=U u->RelV x u)->Vals xs us
 |[],[],_,_=>.nil
 |[],_::_,h,_=>by simp at h
 |_::_,[],h,_=>by simp at h
 |x::xs,u::us,h,k=>.cons (k 0 x u Y Y) (QS (by simpa using h) λi a b c d=>k (i+1) a b (by simpa using c)<|by simpa using d)
def Afn{lo:Int}{n:Nat}(h:((Ba n).map λj=>V.int<|lo+(j:Nat))[i]?=U v):i<n/\v=.int (lo+i):=by
 rw[Aj]at h;cases a:(Ba n)[i]? with
 |none=>rw[a]at h;cases h
 |some j=>rw[a]at h;cases h;let(b,c):=Av.mp a;rw[List.getElem_range]at c;rw[BX]at b;subst c;exact#[b,Y]
def Ahe{lo:Int}{n:Nat}(hz:n<=sizeLine)(hD:H1 D=Ah)(f:Nat->V)(hs:∀(i:Nat)H(R:V->Hp->Prop)(R':Hp->Prop),i<n->NV H1 H->(∀H6,NV H H6->R (f i) H6) ->
   g (.int<|lo+i) (pick src J) H λσ4 H4=>Wk (pick src J) σ4/\(λ_ H Q=>Q Af H:TT) σ4 H4 λb H5=>if b=Af then te σ4 H5 R else R' H5)(hq:∀H',H' D=U (.lst<|(Ba n).map f)->NV H1 H'->Q (.ref D) H'):Aly src J g (λ_ H Q=>Q Af H) te (Aad lo n) H1 D Q:=by
 refine VJ xN (by rw[Ac,BX];exact hz) hD (λ_=>Af) (λv=>match v with|.int k=>f (k-lo).toNat|v=>v) ?_ ?_
 ·intro i v H R R' o l j m;let(a,rfl):=Afn o;refine hs i H R R' a l λH6 d=>?_
  have:=j H6 Y d;have e:(lo+(i:Nat)-lo).toNat=i:=M6;dsimp only at this;rw[e]at this;exact this
 ·intro H' c h;refine hq H' ?_ h;rw[c,BW.mpr (λ_ _=>rfl),AO]
  congr 2
  refine Bp λi _=>?_
  show f (lo+(i:Nat)-lo).toNat=f i
  congr 1
  omega
def Aix{K:Ab}(h:Pb K H p xs):Ak1 K "list" (.ref p) H:=.inl #[Y,xs,h]
abbrev Ent:=Int×Mc
abbrev Ml:=Option Ent
abbrev OU:=List (AA×Ent)
abbrev LL:=List (AA×OU)
def YQ:Mc->V
 |none=>.Of
 |some z=>.str z
def yL(a:Mc):O6 (YQ a)=Af:=by cases a<;>rfl
def VC(e:Ent):DV:=.tup [.fl<|.int e.1,.fl<|YQ e.2]
def Xd(E:OU):List (Key×DV):=E.map λe=>(.inr e.1,VC e.2)
def look(E:OU)(n:AA):Ml:=(E.find? λe=>decide<|e.1=n).map (·.2)
def RG(E:OU)(n:AA)(x:Ent):OU:=if(E.any λe=>decide<|e.1=n)=Af then E.map (λe=>if e.1=n then(e.1,x)else e)else E++[(n,x)]
def QF(e:AA×Ent)(E:OU)(n:AA):look (e::E) n=if e.1=n then U e.2 else look E n:=by unfold look;by_cases h:e.1=n<;>simp[EX,h]
def XA{n:AA}:look E n=Ah↔∀e∈E,e.1≠n:=by unfold look;simp
def Ss{n:AA}(h:look E n=U x):(n,x)∈E:=by unfold look at h;rw[AF]at h;let((m,y),a,rfl):=h;have b:=E6 a;have c:=BS a;simp at b;subst b;exact c
def RL:∀{E:OU}{n:AA}{x:Ent},(E.map (·.1)).Nodup->(n,x)∈E->look E n=U x
 | e::E,n,x,hn,h=>by
   rw[QF];rw[Az,Bc]at hn;rcases AB.mp h with rfl|h
   ·simp
   ·have:e.1≠n:=λq=>hn.1 (q▸AR.mpr #[_,h,Y])
    rw[Ay this];exact RL hn.2 h
def nS(E F:OU)(n:AA):look (E++F) n=(look E n).or (look F n):=by
 induction E with
 |nil=>rfl
 |cons e E ih=>rw[Gf,QF,QF,ih];split<;>rfl
def nT(E:OU)(n m:AA)(x:Ent):look (RG E n x) m=if n=m then U x else look E m:=by
 unfold RG;split
 ·rename_i h;have f:∀F:OU,look (F.map λe=>if e.1=n then(e.1,x)else e) m=if n=m/\(F.any λe=>decide<|e.1=n)=Af then U x else look F m:=by
   intro F;induction F with
   |nil=>simp[look]
   |cons e F ih=>
     rw[Az,QF,QF,ih];by_cases b:e.1=n
     ·rw[AG b];by_cases a:n=m
      ·have d:=b.trans a;have g:((e::F).any λe=>decide<|e.1=n)=Af:=by simp[b]
       rw[AG d,AG #[a,g]]
      ·have d:=λq=>a (b.symm.trans q)
       rw[Ay d,Ay (λq=>a q.1),Ay (λq=>a q.1),Ay d]
     ·rw[Ay b];have g:((e::F).any λe=>decide<|e.1=n)=(F.any λe=>decide<|e.1=n):=by simp[b]
      rw[g];by_cases a:n=m
      ·have d:¬ e.1=m:=λq=>b (q.trans a.symm)
       rw[Ay d,Ay d]
      ·rw[Ay (c:=n=m/\_) (λq=>a q.1),Ay (c:=n=m/\_) λq=>a q.1]
  rw[f];by_cases a:n=m
  ·rw[AG #[a,h],AG a]
  ·rw[Ay (λq=>a q.1),Ay a]
 ·rename_i h;rw[nS,QF];by_cases a:n=m
  ·subst a;have:=XA.mpr λe i q=>h<|B0.mpr #[e,i,by simpa using q]
   rw[this];simp
  ·rw[Ay a,Ay a];cases look E m<;>rfl
def Aa9(E:OU)(n:AA)(x:Ent):(RG E n x).map (·.1)=if n∈E.map (·.1)then E.map (·.1)else E.map (·.1)++[n]:=by
 unfold RG;have b:((E.any λe=>decide<|e.1=n)=Af)↔n∈E.map (·.1):=by
  rw[B0,AR];constructor
  ·rintro⟨e,a,q⟩;exact#[e,a,by simpa using q]
  ·rintro⟨e,a,q⟩;exact#[e,a,by simpa using q]
 by_cases h:n∈E.map (·.1)
 ·rw[AG<|b.mpr h,AG h,AO];refine Bp λe _=>?_
  show(if e.1=n then(e.1,x)else e).1=e.1;split<;>rfl
 ·rw[Ay (λq=>h<|b.mp q),Ay h,Bi];rfl
def AbF(h:(E.map (·.1)).Nodup)(n:AA)(x:Ent):((RG E n x).map (·.1)).Nodup:=by
 rw[Aa9];split
 ·exact h
 ·rename_i q;rw[DR];exact#[h,M8,λa d b c e=>q (by simp at c;rw[<-c,<-e];exact d)]
def rJ(a b:Ent):Ent:=if a.1≠b.1 then(if a.1>b.1 then a else b)else if b.2=Ah then b else a
def jn:Ml->Ml->Ml
 |none,y=>y
 |x,Ah=>x
 |some a,U b=>U (rJ a b)
def bB(o:Ml)(y:Ent):Ent:=match o with
 |some x=>rJ x y
 |none=>y
def Og(E F:OU):OU:=F.foldl (λA f=>RG A f.1<|bB (look A f.1) f.2) E
def xX:∀{E:OU},(F.map (·.1)).Nodup->∀n,look (Og E F) n=jn (look E n) (look F n):=by
 induction F with
 |nil=>intro E _ n;show look E n=jn _ Ah;cases look E n<;>rfl
 |cons f F ih=>
   intro E a n;rw[Az,Bc]at a;have e:Og E (f::F)=Og _ F:=rfl;rw[e,ih a.2,nT,QF];by_cases h:f.1=n
   ·rw[AG h,AG h];have:=XA.mpr λe b q=>a.1<|AR.mpr #[e,b,q.trans h.symm]
    rw[this,h];cases look E n<;>rfl
   ·rw[Ay h,Ay h]
def uQ:∀{E:OU},(E.map (·.1)).Nodup->((Og E F).map (·.1)).Nodup:=by
 induction F with
 |nil=>intro E h;exact h
 |cons f F a=>intro E h;exact a (AbF h _ _)
def tF[DecidableEq α]:∀{l m:List α},l.Nodup->(∀a∈l,a∈m)->m.length<=l.length->∀a∈m,a∈l:=by
 intro l;induction l with
 |nil=>intro m _ _ f a d;have:=DF.mp (by simpa using f);rw[this]at d;exact d
 |cons b l ih=>
   intro m g h f a d;rw[Bc]at g;by_cases e:a=b
   ·rw[e];exact AX
   ·refine AD _ (ih g.2 (λc i=>?_) ?_ a<|(Ef e).mpr d)
    ·exact(Ef λq:c=b=>g.1<|q▸i).mpr (h c<|AD _ i)
    ·rw[Cm<|h b AX];simp only[AI]at f;omega
def AgT(a b:Ent):DV.eq (VC a) (VC b)=decide (a=b):=by let(e,c):=a;let(f,d):=b;unfold VC;rw[DV.eq,DV.eqs,DV.eqs,DV.eqs,DV.eq,DV.eq,BM,Br];cases c<;>cases d<;>simp[lS,YQ]
def AdV(a b:Ent):DV.fit (VC a) (VC b)=Af:=by
 unfold VC;rw[DV.fit,DV.fits,DV.fits,DV.fits,DV.fit,DV.fit]
 all_goals simp
def vP(F:OU)(n:AA):(Xd F).find? (λj=>decide<|j.1=.inr n)=(F.find? λe=>decide<|e.1=n).map λe=>(.inr e.1,VC e.2):=by
 unfold Xd;induction F with
 |nil=>rfl
 |cons f F ih=>
   rw[Az,A7,A7];by_cases h:f.1=n
   ·simp[h]
   ·have:¬ (Cr f.1:Key)=.inr n:=λq=>h (by injection q)
    simp only[Ar h,Ar this];exact ih
def nE(F:OU):∀E:OU,Wm (Xd F) (Xd E)=Af↔∀e∈E,look F e.1=U e.2
 |[]=>by simp[Xd,Wm]
 | e::E=>by
   have c:Xd (e::E)=(.inr e.1,VC e.2)::Xd E:=rfl;rw[c,Wm,vP,Bf,nE F E];unfold look;cases h:F.find? λx=>decide (x.1=e.1)with
   |none=>simp[h]
   |some f=>simp only[IX,AgT,Br,AB,forall_eq_or_imp,h,He];exact#[λ⟨a,b⟩=>#[a.symm,b],λ⟨a,b⟩=>#[a.symm,b]]
def sZ(F:OU):∀E:OU,mR (Xd F) (Xd E)=Af
 |[]=>rfl
 | e::E=>by
   have a:Xd (e::E)=(.inr e.1,VC e.2)::Xd E:=rfl;rw[a,mR,vP,sZ F E,Hi];cases F.find? λx=>decide (x.1=e.1)with
   |none=>rfl
   |some f=>exact AdV _ _
def sY:∀E:OU,iM (Xd E)<=8
 |[]=>by simp[iM,Xd,DV.TF]
 | e::E=>by
   have a:=sY E;have b:Xd (e::E)=(.inr e.1,VC e.2)::Xd E:=rfl;unfold iM at a ⊢;rw[b,Az,DV.TF];have:DV.dep (VC e.2)=1:=by unfold VC;rw[DV.dep,DV.TF,DV.TF,DV.TF,DV.dep,DV.dep];rfl
   show max (DV.dep<|VC e.2) _<=8;omega
def AdX(hE:(E.map (·.1)).Nodup)(hF:(F.map (·.1)).Nodup):Adr (Xd E) (Xd F)=Af↔∀n,look E n=look F n:=by
 unfold Adr;have g:(Xd E).length=E.length:=by simp[Xd]
 have i:(Xd F).length=F.length:=by simp[Xd]
 rw[Bf,nE,g,i,Fg];constructor
 ·rintro ⟨k,h⟩ n;cases q:look E n with
  |some x=>exact(h _<|Ss q).symm
  |none=>
    cases r:look F n with
    |none=>rfl
    |some y=>
      have d:=tF (l:=E.map (·.1)) (m:=F.map (·.1)) hE (λa c=>by
       let(e,b,rfl):=AR.mp c;exact AR.mpr #[_,Ss<|h e b,Y]) (by simp[k]) n<|AR.mpr #[_,Ss r,Y]
      let(e,b,rfl):=AR.mp d;exact absurd Y<|XA.mp q e b
 ·intro h;have f:∀e∈E,look F e.1=U e.2:=λe b=>by rw[<-h];exact RL hE b
  refine#[?_,f];have o:∀a∈E.map (·.1),a∈F.map (·.1):=λa c=>by
   let(e,b,rfl):=AR.mp c;exact AR.mpr #[_,Ss<|f e b,Y]
  have j:∀a∈F.map (·.1),a∈E.map (·.1):=λa c=>by
   let(e,b,rfl):=AR.mp c;exact AR.mpr #[_,Ss (by rw[h];exact RL hF b),Y]
  have p:(E.map (·.1)).Perm (F.map (·.1)):=by
   rw[List.perm_iff_count];intro a;rw[hE.count,hF.count];by_cases q:a∈E.map (·.1)
   ·rw[AG q,AG<|o a q]
   ·rw[Ay q,Ay λr=>q<|j a r]
  simpa using p.length_eq
def AfV(hE:(E.map (·.1)).Nodup)(hF:(F.map (·.1)).Nodup)(h:∀n,look E n=look F n):Adr (Xd E) (Xd F)=Af:=(AdX hE hF).mpr h
section
variable{K:Ab}{H:Hp}
def Afm:VA K H (VC e) x↔∃t,x=.ref t/\P5 K H t [.int e.1,YQ e.2]:=by
 constructor
 ·rintro ⟨t,g,rfl,f,d⟩
  match g,d with
  |[a,b],d=>let((rfl,_),(rfl,_),_):=d;exact#[t,Y,f]
  |[],d=>exact d.elim;all_goals simp
  |[a],d=>exact d.2.elim;all_goals simp
  |a::b::c::r,d=>exact d.2.2.elim;all_goals simp
 ·rintro⟨t,rfl,h⟩;refine#[t,_,Y,h,?_];exact#[#[Y,Y],#[Y,yL _],Bk]
abbrev Ado(K:Ab)(H:Hp)(E:OU)(kvs:LA):Prop:=Q7 K H (Xd E) kvs
def Ado.nil:Ado K H [] []:=by exact Bk
def zI:Q7 K H (x::xs) (v::vs)↔x.1=v.1/\VA K H x.2 v.2/\Q7 K H xs vs:=by rw[Q7]
def Ado.cons{e:AA×Ent}{E:OU}{t:Ag}{kvs:LA}(ht:P5 K H t [.int e.2.1,YQ e.2.2])(h:Ado K H E kvs):Ado K H (e::E) ((.inr e.1,.ref t)::kvs):=zI.mpr #[Y,Afm.mpr #[t,Y,ht],h]
end
abbrev WS:AA:="abcdefghijklmnopqrstuvwxyz0123456789"
def AiF:WS.cps.toList=Gp 97 26++Gp 48 10:=M4
def Zk:WS.cps.toList.length=36:=M4
def Ak5:WS.cps.toList.Nodup:=M4
def sg(i:Int):AA:=⟨(zTo [WS.cps.toList.getD (i%36).toNat 0])⟩
def vM(i:Int):Y1 WS.cps.toList (i%36)=U (WS.cps.toList.getD (i%36).toNat 0):=by have a:=BN i (show(36:Int)≠0 by decide);have b:=BJ i (show(0:Int)<36 by decide);exact Aar 0 a (by rw[Zk];omega)
def AlK:(⟨(zTo [c])⟩:AA).cps.toList=[c]:=rfl
def Pj(x y:AA):(x++y).length=x.length+y.length:=AA.length_append x y
def P8(x y:AA):(x++y).cps.toList=x.cps.toList++y.cps.toList:=by show(x.cps++y.cps).toList=_;rw[Ir]
def UE(x:AA):x.cps.toList.length=x.length:=by rw[AZ];rfl
def Aig(h:sg i=sg j):i%36=j%36:=by
 have f:=BN i (show(36:Int)≠0 by decide);have d:=BJ i (show(0:Int)<36 by decide);have c:=BN j (show(36:Int)≠0 by decide);have g:=BJ j (show(0:Int)<36 by decide);have b:(i%36).toNat<WS.cps.toList.length:=by rw[Zk];omega
 have a:(j%36).toNat<WS.cps.toList.length:=by rw[Zk];omega
 have e:WS.cps.toList.getD (i%36).toNat 0=WS.cps.toList.getD (j%36).toNat 0:=by have:=congrArg (λz:AA=>z.cps.toList) h;unfold sg at this;simpa[AlK]using this
 rw[Bs,Bs,Ae b,Ae a]at e;simp only[Option.getD_some]at e;have:=(EJ Ak5).mp e;omega
def join_one(l:Lw)(h:∀a∈l,a.length=1):(Ep (A1 "") l).length=l.length:=PySem.W.KT.join_ones l h
def vR:∀{n:Nat}(l:Lw)(h:∀a∈l,a.length=1),l.length=n->(l.map (·.length)).sum=n
 |_,[],_,e=>by subst e;rfl
 | _,a::l,h,e=>by
   have d:=vR l (λb c=>h b<|AD _ c) Y;have f:=h a AX;simp only[Az,List.sum_cons,AI]at *;omega
def xO{f:Nat->AA}{n:Nat}(hn:n<=1000)(h:∀i,(f i).length=1):(((Ba n).map f).map (·.length)).sum+((Ba n).map f).length*(A1 "").length<=16777216:=by rw[vR (n:=n) _ (λa b=>by let(i,_,rfl):=AR.mp b;exact h i) M8];have:(A1 "").length=0:=M4;rw[this];omega
def Aa1{f:Nat->AA}{n:Nat}(h:∀i,(f i).length=1):(Ep (A1 "")<|(Ba n).map f).length=n:=by rw[join_one _ λa b=>by let(i,_,rfl):=AR.mp b;exact h i];simp
def mix(c k:Int):Int:=(c+7919*k)*48271%2147483647*((c+7919*k)*48271%2147483647)%2147483629
def base(c:Int):AA:=Ep (A1 "") ((Ba 8).map λk=>sg<|mix c (k:Nat))
def cell(ns:LD)(k:Int):Int:=if k<ns.length then ns.getD k.toNat 0 else 0
abbrev AlH:AA:="!\"#$&'()*+,-./0123456789:;<=>?@ABCDEFGHIJKLMNOPQRSTUVWXYZ[\\]^_`"++"abcdefghijklmnopqrstuvwxyz{|}~"
def tg(i:Int):AA:=⟨(zTo [AlH.cps.toList.getD (i%93).toNat 0])⟩
def txt(c:Int):AA:=Ep (A1 "") ((Ba (1+c%5).toNat).map λk=>tg<|mix c (k:Nat))
section
variable{q:Ag}{o:CL}{kq:LA}{g:TG}{tb:TS}{D:Ends}{J:St}{H:Hp}
def xC(Pv:Nat->St->Hp->Prop)(h0:Pv 0 J H)(hf:∀i J H,i<=kq.length->Pv i J H->H q=U (.Rg o<|.dK kq))(hs:∀i kv t J H,kq[i]?=U kv->Pv i J H->H t=Ah->g (.ref t) J (upd H t<|.tup [kV kv.1,kv.2]) λσ2 H2=>tb {D with nx:=Pv<|i+1,ct:=Pv<|i+1,bk:=D.nx} σ2 H2)(hd:∀J H,Pv kq.length J H->D.nx J H):∃W:Nat->Nat->St->Hp->Prop,(∃m,W 0 m J H)/\∀i m J H,W i m J H ->
   ((AiJ q o kq).stop i H/\D.nx J H)\/((AiJ q o kq).go i H/\∃N:St->Hp->Prop,(∀σ' H',N σ' H'->∃m',m'<m/\W (i+1) m' σ' H')/\∀x H',(AiJ q o kq).Aai i H x H'->g x J H' λσ2 H2=>tb {D with nx:=N,ct:=N,bk:=D.nx} σ2 H2):=by
 refine#[λi m J H=>m=kq.length-i/\i<=kq.length/\Pv i J H,#[kq.length,M8,Bv _,h0],?_];rintro i m J H⟨rfl,b,p⟩;by_cases a:i<kq.length
 ·refine .inr #[#[a,hf i J H b p],Pv _,λσ' H' d=>#[kq.length-(i+1),M6,Y,a,d],λx H' y=>?_];let(t,kv,c,e,rfl,rfl):=y;exact hs i kv t J H e p c
 ·have e:i=kq.length:=M6;subst e;exact .inl #[#[Ao _,hf _ J H b p],hd J H p]
def AaQ(Pv:Nat->St->Hp->Prop)(h0:Pv 0 J H)(hf:∀i J H,i<=kq.length->Pv i J H->H q=U (.Rg o<|.dK kq))(hs:∀i kv J H,kq[i]?=U kv->Pv i J H->g (kV kv.1) J H λσ2 H2=>tb {D with nx:=Pv<|i+1,ct:=Pv<|i+1,bk:=D.nx} σ2 H2)(hd:∀J H,Pv kq.length J H->D.nx J H):∃W:Nat->Nat->St->Hp->Prop,(∃m,W 0 m J H)/\∀i m J H,W i m J H ->
   ((AiK q o kq).stop i H/\D.nx J H)\/((AiK q o kq).go i H/\∃N:St->Hp->Prop,(∀σ' H',N σ' H'->∃m',m'<m/\W (i+1) m' σ' H')/\∀x H',(AiK q o kq).Aai i H x H'->g x J H' λσ2 H2=>tb {D with nx:=N,ct:=N,bk:=D.nx} σ2 H2):=by
 refine#[λi m J H=>m=kq.length-i/\i<=kq.length/\Pv i J H,#[kq.length,M8,Bv _,h0],?_];rintro i m J H⟨rfl,b,p⟩;by_cases a:i<kq.length
 ·refine .inr #[#[a,hf i J H b p],Pv _,λσ' H' c=>#[kq.length-(i+1),M6,Y,a,c],λx H' y=>?_];let(rfl,kv,e,rfl):=y;exact hs i kv J _ e p
 ·have e:i=kq.length:=M6;subst e;exact .inl #[#[Ao _,hf _ J H b p],hd J H p]
end
def Abg(h:b.1<a.1):rJ a b=a:=by unfold rJ;rw[AG M6,AG h]
def Abh(h:a.1<b.1):rJ a b=b:=by unfold rJ;rw[AG M6,Ay M6]
def Aga(h:a.1=b.1)(n:b.2=Ah):rJ a b=b:=by unfold rJ;rw[Ay (λq=>q h),AG n]
def Agb(h:a.1=b.1)(n:b.2≠Ah):rJ a b=a:=by unfold rJ;rw[Ay (λq=>q h),Ay n]
end L2
namespace L2
end L2
namespace L2
end L2
namespace L2
end L2
namespace L2
open PySem
end L2
namespace L2
open PySem PySem.Spec PyProof.Rows
section
section
variable{X:Cx}
def Afi:Lx->Hp->VK->Prop:=λxs H Q=>∃(p:Ag)(kvs:LA),xs=[.ref p]/\Rd H p (.dK kvs)/\∀l,H l=Ah->Q (.ref l) (upd H l<|.lst<|kvs.map λkv=>kV kv.1)
def qP(hc:X.calm=Af):P7 X (.type "list") Afi:=by
 intro t s J H R T Q I r h;let(p,f,rfl,D,k):=h;let(u,rfl,j0):=vals1 r;cases j0;let(z,y,N,b,G):=Qy I.N5 D;have E:=AE b;let(S,l):=G.dictAt;refine PySem.W.kdl_call (Ex y) (I.ok.hd hc) l M6 λL M c A B m a=>?_
 have F:=I.fresh;refine#[.ref _,_,I.laid (o:=.lst _) B (Ao _) #[by rw[Ac];exact z,c.toList,A,?_,by exact m],Y,k _ F];refine QS (by rw[Ac,E];simpa using a.1.symm) λi x u d q=>?_
 rw[B4]at q;let(C,w,g,j):=a.2 i u q;rw[Aj]at d;cases e:f[i]? with
 |none=>rw[e]at d;cases d
 |some kv=>rw[e]at d;cases d;let(O,K,P,v,n,_):=b.get (Av.mp e).1;rw[e]at v;cases v;rw[g]at n;cases n;exact ZO j
def yY:Lx->Hp->VK->Prop:=λxs H Q=>∃(p:Ag)(kvs:LA)(ns:Lw),xs=[.ref p]/\Rd H p (.dK kvs)/\kvs.map (·.1)=ns.map Cr/\ns.length<64 /\
  ∀(ms:Lw)l,ms.Perm ns->GI ms=Af->H l=Ah->Q (.ref l) (upd H l<|.lst<|ms.map V.str)
def iF(hc:X.calm=Af):P7 X (.builtin "sorted") yY:=by
 intro v s J H xs us Q I r h;let(p,g,A,rfl,hp,q,ab,k):=h;let(u,rfl,ru):=vals1 r;cases ru;let(z,P,vs,t,dd):=Qy I.N5 hp;have hl:=AE t;have aa:g.length=A.length:=by have:=congrArg Ez q;simpa using this
 let(ep,D):=dd.dictAt;refine Es Hd GJ GK (IW _) ?_;refine Ad<|Aw ?_;refine Ad<|Ed (Ex P) (I.ok.hd hc) D M6 λj0 W c u3 a=>?_
 have F:Kb c.toList A:=by
  refine SX<|QS (by have:=a.1;simp only[Ac,AZ];omega) λi x u y M=>?_
  rw[B4]at M;let(m,w,B,C):=a.2 i u M;rw[Aj]at y;cases f:A[i]? with
  |none=>rw[f]at y;cases y
  |some n=>
    rw[f]at y;cases y;have hi:i<g.length:=by have:=(Av.mp f).1;omega
    let(y0,v',Z,e1,L,_):=t.get hi;rw[B]at L;obtain⟨rfl,rfl⟩:m=y0/\w=Z:=by simpa using L
    have:=congrArg (λl=>l[i]?) q;rw[Aj,Aj,e1,f]at this;have:m=Cr n:=by simpa using this
    subst this;exact ZO C
 have V:c.toList.length=A.length:=by rw[AZ,a.1];omega
 refine Ad<|CY ?_ M6;have G:Inv X v J H {s with heap:=j0,toks:=W}:=I.kept u3;have d:(j0.push<|seqObj "list" c.toList.toArray 0).get? _=U _:=AN _ Y;refine Ad<|BG<|CI FP #[_,d,Y] Fw (list_sort_treeK strKind_oneLt d F.keysOf (λac ad O e=>keyKind_strs (by rw[<-e];exact F)) M6 λE a1 a2=>#[_,Y,?_])<|HW _;refine Aw #[_,Y,?_];let(R,S,N,T):=sorted_out_str F a1 a2;have hn:=G.fresh;let(e,f):=IC d;have hm:=N.length_eq;refine#[.ref _,_,G.laid (o:=.lst _) (λb o K=>?_) (Ao _) #[?_,((Dz E).map _).toList,e,XX S,?_],Y,k R _ N T hn]
 ·have j:=AU K;rw[HU (Bg j) (by rw[HV];exact F7 j)];exact Am _ K
 ·rw[Ac];omega
 ·exact f
def Afk:V->Lx->Hp->VK->Prop:=λx vs H Q=>∃l kvs,x=.ref l/\vs=[]/\H l=U (.dK kvs)/\Q .Of (upd H l<|.dK [])
def yB:Ady X "dict.clear" Afk:=by intro b s J H x k v j Q I f g h;let(l,c,rfl,rfl,d,q):=h;cases f;have a:=g.zero;subst a;exact AdM I d λi e=>#[.Of,_,e,Y,q]
end
def xV(a b:AA):Prop:=¬ (b.cps.toList<a.cps.toList)
def Z8:∀(p:AA)(l:Lw),risingS p l=Af->(∀a∈l,xV p a)/\l.Pairwise xV
 |p,[],_=>#[M8,.nil]
 | p,a::l,h=>by
   unfold risingS at h;rw[Bf,Bool.not_eq_true',ltCps_eq,FV]at h;let(d,g):=Z8 a l h.2;have f:∀b∈l,xV p b:=λb c q=>by
    have i:¬ (b.cps.toList<a.cps.toList):=d b c;have j:¬ (a.cps.toList<p.cps.toList):=h.1;exact absurd (List.lt_of_le_of_lt (Il.mp i) q) j
   exact#[λb c=>(AB.mp c).elim (λe=>e▸h.1) (f b),.cons d g]
def aQ:∀(l:Lw),GI l=Af->l.Pairwise xV
 |[],_=>.nil
 | p::l,h=>by
   let(a,b):=Z8 p l h;exact .cons a b
def Abi(h1:xV a b)(h2:xV b a):a=b:=by have:=List.le_antisymm (Il.mp h1)<|Il.mp h2;exact lB this
def zR{l m:Lw}(hl:l.Pairwise xV)(hm:m.Pairwise xV)(p:l.Perm m):l=m:=p.eq_of_pairwise (λa b _ _ c d=>Abi c d) hl hm
def mH(E:OU)(n:AA):Int:=match look E n with
 |some x=>x.1
 |none=>0
def AfC{kvs:LA}{k:Key}{v:V}(hn:(kvs.map (·.1)).Nodup)(h:(k,v)∈kvs):Pu kvs k=U v:=by
 induction kvs with
 |nil=>cases h
 |cons e kvs a=>
   rw[Az,Bc]at hn;rcases AB.mp h with rfl|h
   ·simp[Pu]
   ·have:e.1≠k:=λq=>hn.1 (q▸AR.mpr #[_,h,Y])
    have a:=a hn.2 h;unfold Pu at a ⊢;rw[A7];simp only[Ar this];exact a
open PySem.SeqAt PySem.MeetsSeq PySem.MeetsSeq2 PySem.MeetsSeq3
open PySem.AutoSeq1 (wpAny_loadPart')
def Adm(P:Bn)(w:Bw)(A:BQ)(s:Au)(y x:Ai):Prop:=∀(E:Ai->Au->Prop)(Q:Bool->Au->Prop),Q Af s->AW (A9 P w) A (eqBool y x) Q E s
def Adm.refs(h:∀(E:Ai->Au->Prop)(Q:Ai->Au->Prop),Q (.bool Af) s->AW (A9 P w) A (G5 .Eq (.ref a)<|.ref b) Q E s):Adm P w A s (.ref a) (.ref b):=λE Q q=>by
 by_cases e:a=b
 ·subst e;exact EqAt.same _ P w E Q q
 ·unfold eqBool;exact BG (wpAny_ite_split (λz=>absurd (by injection (Kp z)) e) λ_=>Ad<|h E _<|Cg q)
section
variable{P:Bn}{w:Bw}(l b:Ag)(xs ys:LS)(nx ny:Nat)(dx dy:LO)(sx sy:Mj)(same:xs.size=ys.size)
include same in
def xY (k:Nat):∀ i:Nat,xs.size - i=k->MeetsIn P w (Builtin.«list.__eq__.loop» #[[.ref l,.ref b,rawInt i,rawInt 3],[]]) (fun A R s=>
  (s.heap.get? l=some {cls:=.type "list",dict:=dx,data:=.seq xs nx,slots:=sx}/\s.heap.get? b=some {cls:=.type "list",dict:=dy,data:=.seq ys ny,slots:=sy}) /\
  (∀ j (g1:j < xs.size) (g2:j < ys.size),Adm P w A.in1 s xs[j] ys[j])/\R (.ok<|.ret<|.bool false) s):=by
 induction k with
 |zero=>
   rintro i f A R ⟨n,m,g,o,h⟩ ⟨⟨a,c⟩,d,q⟩
   wp_walk using wpAny_loadPart' a,wpAny_loadPart' c
   rw[show xs[((i:Nat):Int).toNat]?=none by simp;omega,show ys[((i:Nat):Int).toNat]?=none by simp;omega]
   wp_walk using wpAny_loadPart' a,wpAny_loadPart' c
   have e:(xs.size != ys.size)=false:=by simp[same]
   show R (.ok<|.ret<|.bool<|xs.size != ys.size) _;rw[e];exact q
 |succ k ih=>
   rintro i f A R ⟨n,m,g,o,h⟩ ⟨⟨a,c⟩,d,q⟩
   wp_walk using wpAny_loadPart' a,wpAny_loadPart' c
   have g1:i < xs.size:=by omega
   have g2:i < ys.size:=by omega
   rw[show xs[((i:Nat):Int).toNat]?=some xs[i] by simp[g1],show ys[((i:Nat):Int).toNat]?=some ys[i] by simp[g2]];refine wpAny_bind<|d i g1 g2 _ _ ?_
   wp_walk
   rw[show ((i:Int)+1)=((i+1:Nat):Int) by push_cast;rfl];refine #[plainId_quiet plain_eq_loop _,codeAny_builtin entry_eq_loop ?_];rw[Around.under_plainId plain_eq_loop _];exact ih (i+1) (by omega) A R _ #[#[a,c],d,q]
include same in
def Aez:MeetsIn P w (Builtin.«list.__ne__» #[[.ref l,.ref b],[]]) (fun A R s=>
  (s.heap.get? l=some {cls:=.type "list",dict:=dx,data:=.seq xs nx,slots:=sx}/\s.heap.get? b=some {cls:=.type "list",dict:=dy,data:=.seq ys ny,slots:=sy}) /\
  (∀ j (g1:j < xs.size) (g2:j < ys.size),Adm P w A.in1 s xs[j] ys[j])/\R (.ok<|.ret<|.bool false) s):=by
 rintro A R ⟨i,h,f,m,g⟩ ⟨⟨a,c⟩,d,q⟩;have e:=AutoSeq1.sub_list_list;have k:¬ (xs.size != ys.size)=true:=by simp[same]
 wp_walk using wpAny_loadPart' a,wpAny_loadPart' c
 refine #[plainId_quiet plain_eq_loop _,codeAny_builtin entry_eq_loop ?_];rw[Around.under_plainId plain_eq_loop _];exact xY l b xs ys nx ny dx dy sx sy same _ 0 Y A R _ #[#[a,c],d,q]
end
end
section
variable{X:Cx}{J:St}{l:Ag}{xs:Lx}{H0:Hp}{q:Ag}(P:Nat->Hp->V->Prop)(c:Nat->Nat->Bool)
def AbB(hc:X.calm=Af)(hl:Pb X.K H0 l xs)(mP:∀i H H' k,NV H H'->P i H k->P i H' k)(tr:∀a b i,c a i=Af->c b i=An->c a b=Af)(an:∀a b,c a b=Af->c b a=An)(turn:∀i x,xs[i]?=U x->∀pins s H u,Inv X pins J H s->NV H0 H->RelV x u->AW (A9 X.prog X.w) X.A.in1 (call (.ref q) [u]) (EP X pins J λk H'=>NV H H'/\P i H' k) (λ_ _=>False) s)(less:∀i j pins s J H ki kj ui uj(Q:Ai->Au->Prop)(E:Ai->Au->Prop),Inv X pins J H s->P i H ki->P j H kj->RelV ki ui->RelV kj uj->Q (.bool<|c i j) s->AW (A9 X.prog X.w) X.A.in1 (G5 .Lt ui uj) Q E s)(hSI:S≠I)(hlI:l≠I)(fin:∀i x u H s,xs[i]?=U x->RelV x u->(∀j,j<xs.length->c j i=An/\(j<i->c i j=Af))->Inv X pins J H s->NV H0 H->R (.ok<|.ret u) s):
  ∀(r j i:Nat)(s:Au)(H:Hp)(x:V)(u:Ai)(k:V)(uk:Ai)(e:Nat),xs.length-(j+1)=r->j+1<=xs.length->Inv X pins J H s->NV H0 H->Qv X pins H S->Qv X pins H I ->
   s.heap.get? S=U (seqObj "list" (zTo [u,uk]) e)->s.heap.IsListIter I l (j+1)->xs[i]?=U x->RelV x u->P i H k->RelV k uk->i<=j->(∀j',j'<=j->c j' i=An/\(j'<i->c i j'=Af)) ->
   EU (A9 X.prog X.w) X.A (.builtin "min.loop" #[[.ref I,.ref q,.ref S],[]]) R s:=by
 have nm:(toString "min"++toString ".loop":String)="min.loop":=M5;intro r;induction r with
 |zero=>
   intro j i s H x u k uk e hr hj j0 u3 t h Z it hx ru pk rk ai g;let(m,rv,pl,hz):=j0.list<|u3.seq hl;have B:=rv.length;have W:=GD (prog:=X.prog) (w:=X.w) (A:=X.A.in1) (j0.ok.hd hc) I l hlI m.toArray;refine Hn EH ?_;refine Ad<|HI Z Y ?_;refine Ad<|Ea<|W.done _ _ _ #[by rw[Aq,<-B,show xs.length=j+1 by omega];exact it,pl.isList] λO n kk=>?_
   have J1:Inv X pins J H {s with heap:=O,toks:=n}:=j0.turned (λb o d G=>kk b o (by simpa using d) G) h.1 h.2.1 h.2.2.2.1 h.2.2.2.2.1 h.2.2.2.2.2;have p:=kk S _ (by simpa using hSI) Z;have sb:=BF O S<|BH λ_=>(#[])
   refine Ad<|Hj p Y<|Ad<|ES<|Aw ?_;have J2:=J1.turned (t':=n) (λb o d G=>(sb.2 b d).trans G) t.1 t.2.1 t.2.2.2.1 t.2.2.2.2.1 t.2.2.2.2.2;exact fin i x u H _ hx ru (λj' ae=>g j' M6) J2 u3
 |succ r ih=>
   intro j i s H x u k uk e hr hj j0 u3 t h Z it hx ru pk rk ai g;let(m,rv,pl,hz):=j0.list<|u3.seq hl;have B:=rv.length;have C:j+1<xs.length:=M6;have W:=GD (prog:=X.prog) (w:=X.w) (A:=X.A.in1) (j0.ok.hd hc) I l hlI m.toArray;refine Hn EH ?_;refine Ad<|HI Z Y ?_;refine Ad<|Ea<|W.item _ _ _ _ (by rw[Aq];omega) #[it,pl.isList] λv O n hP am kk=>?_
   obtain⟨y,hy⟩:∃y,xs[j+1]?=U y:=#[_,Ae C];let(N,aj,ad):=rv.get hy;have ev:N=v:=by
    have hP:m[j+1]?=U v:=by simpa using hP
    rw[aj]at hP;exact AK hP
   subst ev;have J1:Inv X pins J H {s with heap:=O,toks:=n}:=j0.turned (λb o d G=>kk b o (by simpa using d) G) h.1 h.2.1 h.2.2.2.1 h.2.2.2.2.1 h.2.2.2.2.2;have p:=kk S _ (by simpa using hSI) Z;let(oI,gI,cI,dI):=id am.1;have ao:=J1.pinned (λb d=>by
    rcases AB.mp d with rfl|d
    ·exact t
    ·rw[As.mp d];exact h) (λb d=>by
    rcases AB.mp d with rfl|d
    ·exact#[_,p,λv z=>by cases z]
    ·rw[As.mp d];exact#[oI,gI,λv z=>by rw[dI]at z;cases z])
   have pS:(S,seqObj "list" _ e)∈RY [S,I] O:=O4 M8 p;have pI:(I,oI)∈RY [S,I] O:=O4 M8 gI;refine Ad<|Ea<|BG<|B1 (turn _ y hy _ _ H N ao u3 ad) (λkv T he=>?_) λ_ _ hF=>hF.elim
   let(k2,L,M,ab,D,y0):=he;have J2:=M.Rz;let(F,ah,_):=M.pin _<|AY _<|AY _ pS;let(af,al,_):=M.pin _<|AY _<|AY _ pI;have f:Qv X pins L S:=#[ah,t.2];have ag:Qv X pins L I:=#[al,h.2];have ak:T.heap.IsListIter I l _:=#[oI,af,cI,dI];have aa:=u3.trans D;refine Ad<|Ea<|BG<|Ad<|less _ i pins T J L k2 k kv uk _ _ J2 y0 (mP i H L k D pk) ab rk ?_;refine Ad<|BG<|Cg ?_;refine Ad<|ES<|Aw ?_;cases d:c _ i with
   |true=>
     have sb:=BF T.heap S<|BH λ_=>(zTo [N,kv])
     obtain⟨e2,ap⟩:∃e2,(T.heap.update S<|BH λ_=>(zTo [N,kv])).get? S=U _:=#[_,DL F λ_=>(zTo [N,kv])];refine Ad<|Hj F Y<|Ad<|ES ?_;have J3:=J2.turned (t':=T.toks) (λb o d G=>(sb.2 b d).trans G) f.1 f.2.1 f.2.2.2.1 f.2.2.2.2.1 f.2.2.2.2.2;refine Aw #[Ge C0 _,ih _ _ _ L y N k2 kv e2 M6 C J3 aa f ag ap #[oI,(sb.2 I<|Ax hSI).trans af,cI,dI] hy ad y0 ab (Ao _) λj' ae=>?_];by_cases ej:j'=j+1
     ·subst ej;refine#[?_,λz=>absurd z<|CS _];cases ac:c _ _ with
      |false=>rfl
      |true=>rw[<-ac];exact an _ _ ac
     ·have b1:=(g j' M6).1;exact#[an _ _<|tr _ _ _ d b1,λ_=>tr _ _ _ d b1]
   |false=>
     refine Ad<|ES ?_;refine Aw #[Ge C0 _,ih _ i T L x u k uk e M6 C J2 aa f ag F ak hx ru (mP i H L k D pk) rk M6 λj' ae=>?_];by_cases ej:j'=j+1
     ·subst ej;exact#[d,λz=>M6]
     ·exact g j' M6
def Aew(hc:X.calm=Af)(hl:Pb X.K H0 l xs)(mP:∀i H H' k,NV H H'->P i H k->P i H' k)(tr:∀a b i,c a i=Af->c b i=An->c a b=Af)(an:∀a b,c a b=Af->c b a=An)(turn:∀i x,xs[i]?=U x->∀pins s H u,Inv X pins J H s->NV H0 H->RelV x u->AW (A9 X.prog X.w) X.A.in1 (call (.ref q) [u]) (EP X pins J λk H'=>NV H H'/\P i H' k) (λ_ _=>False) s)(less:∀i j pins s J H ki kj ui uj(Q:Ai->Au->Prop)(E:Ai->Au->Prop),Inv X pins J H s->P i H ki->P j H kj->RelV ki ui->RelV kj uj->Q (.bool<|c i j) s->AW (A9 X.prog X.w) X.A.in1 (G5 .Lt ui uj) Q E s)(j0:Inv X pins J H0 s)(hne:0<xs.length)(k:∀i x H,xs[i]?=U x->(∀j,j<xs.length->c j i=An/\(j<i->c i j=Af))->NV H0 H->Q x H):
  AW (A9 X.prog X.w) X.A (call (.builtin "min") [.ref l] [(A1 "key",.ref q)]) (EP X pins J Q) X.xe s:=by
 have nm:(toString "min"++toString ".loop":String)="min.loop":=M5;let(am,rv,pl,hz):=j0.list hl;have al:=rv.length;refine PyProof.Rows.kmk_tree PySem.F.kind_min PySem.F.plain_min PySem.F.entry_min (PyProof.Rows.kmk_min_key _ _) ?_;show AW _ X.A.in1 (C3.Builtins.bindParams "min" ["key","default"] 0 #[[],[(A1 "key",.ref q)]] >>= _) _ _ s;refine Ad<|wpAny_of_eq (a:=[U<|.ref q,Ah]) Y<|Ad<|Aw<|Ad<|Gz pl.isList<|Ad<|CY ?_<|Bv _;rw[nm];refine Aw #[Ge C0 _,?_];have ae:(s.heap.push {cls:=.type "list_iterator",data:=.fields (zTo [.ref l,.int 0 0])}).objs.size=s.heap.objs.size+1:=HV ..;have J1:Inv X pins J H0 {s with heap:=s.heap.push {cls:=.type "list_iterator",data:=.fields (zTo [.ref l,.int 0 0])}}:=j0.kept (t':=s.toks) λb o e=>Am _ e
 have J2:Inv X pins J H0 {s with heap:=(s.heap.push {cls:=.type "list_iterator",data:=.fields (zTo [.ref l,.int 0 0])}).push (seqObj "list" #[] 0)}:=J1.kept (t':=s.toks) λb o e=>Am _ e
 have r:Qv X pins H0 s.heap.objs.size:=j0.UT (Ao _)<|j0.N5.fresh<|Ao _;have fS:Qv X pins H0 (s.heap.push {cls:=.type "list_iterator",data:=.fields (zTo [.ref l,.int 0 0])}).objs.size:=J1.UT (Ao _)<|J1.N5.fresh<|Ao _;have gI:((s.heap.push {cls:=.type "list_iterator",data:=.fields (zTo [.ref l,.int 0 0])}).push (seqObj "list" #[] 0)).get? s.heap.objs.size=U {cls:=.type "list_iterator",data:=.fields (zTo [.ref l,.int 0 0])}:=Am _<|AN _ Y;have gS:((s.heap.push {cls:=.type "list_iterator",data:=.fields (zTo [.ref l,.int 0 0])}).push (seqObj "list" #[] 0)).get? (s.heap.push {cls:=.type "list_iterator",data:=.fields (zTo [.ref l,.int 0 0])}).objs.size=U (seqObj "list" #[] 0):=AN _ Y;have t:(s.heap.push {cls:=.type "list_iterator",data:=.fields (zTo [.ref l,.int 0 0])}).objs.size≠s.heap.objs.size:=by rw[ae];exact HY<|Dq _
 have O:l≠s.heap.objs.size:=by let(o,n,e,_):=pl;exact Bg<|AU e
 let(h,M,y0,_):=J2.list hl;have ak:=M.length;generalize(s.heap.push {cls:=.type "list_iterator",data:=.fields (zTo [.ref l,.int 0 0])}).objs.size=S at *;generalize(s.heap.push {cls:=.type "list_iterator",data:=.fields (zTo [.ref l,.int 0 0])}).push (seqObj "list" #[] 0)=hh at *;generalize s.heap.objs.size=I at *;have W:=GD (prog:=X.prog) (w:=X.w) (A:=X.A.in1) (j0.ok.hd hc) I l O h.toArray;refine Hn EH ?_;rw[BQ.under_plainId C0 _];show AW _ X.A.in1 (seqItems? (.ref S) >>= _) _ _ _;refine Ad<|HI gS Y ?_;show AW _ X.A.in1 (tryCatch (JE<|.ref I) _ >>= _) _ _ _;refine Ad<|Ea<|W.item 0 _ _ _ (by rw[Aq];omega) #[#[_,gI,Y,Y],y0.isList] λv h' L u3 ag kk=>?_
 obtain⟨y,hy⟩:∃y,xs[0]?=U y:=#[_,Ae hne];let(f,ad,G):=M.get hy;have ev:f=v:=by
  have u3:h[0]?=U v:=by simpa using u3
  rw[ad]at u3;exact AK u3
 subst ev;have J3:Inv X pins J H0 {s with heap:=h',toks:=L}:=J2.turned (λb o g eb=>kk b o (by simpa using g) eb) r.1 r.2.1 r.2.2.2.1 r.2.2.2.2.1 r.2.2.2.2.2;have R:=kk S _ (by simpa using t) gS;let(oI,N,cI,dI):=id ag.1;have aa:=J3.pinned (fp:=[S,I]) (λb g=>by
  rcases AB.mp g with rfl|g
  ·exact fS
  ·rw[As.mp g];exact r) (λb g=>by
  rcases AB.mp g with rfl|g
  ·exact#[_,R,λv z=>by cases z]
  ·rw[As.mp g];exact#[oI,N,λv z=>by rw[dI]at z;cases z])
 have pS:(S,seqObj "list" #[] 0)∈RY [S,I] h':=O4 M8 R;have pI:(I,oI)∈RY [S,I] h':=O4 M8 N;show AW _ X.A.in1 (tryCatch (holding [f]<|call (.ref q) [f]) _ >>= _) _ _ _;refine Ad<|Ea<|BG<|B1 (turn 0 y hy _ {s with heap:=h',toks:=L} H0 f aa (NV.refl _) G) (λp T he=>?_) λ_ _ hF=>hF.elim
 let(k2,H2,m,ac,ab,V):=he;have J4:=m.Rz;let(C,Z,_):=m.pin _<|AY _<|AY _ pS;let(ai,af,_):=m.pin _<|AY _<|AY _ pI;have d:Qv X pins H2 S:=#[Z,fS.2];have aj:Qv X pins H2 I:=#[af,r.2];have sb:=BF T.heap S<|BH λ_=>(zTo [f,p])
 obtain⟨e2,ah⟩:∃e2,(T.heap.update S<|BH λ_=>(zTo [f,p])).get? S=U (seqObj "list" (zTo [f,p]) e2):=#[_,DL C λ_=>(zTo [f,p])];show AW _ X.A.in1 (updateSeq S (λ_=>(zTo [f,p])) >>= _) _ _ _;refine Ad<|Hj C Y ?_;rw[nm];have J5:=J4.turned (t':=T.toks) (h':=T.heap.update S<|BH λ_=>(zTo [f,p])) (λb o g eb=>(sb.2 b g).trans eb) d.1 d.2.1 d.2.2.2.1 d.2.2.2.2.1 d.2.2.2.2.2;refine Aw #[Ge C0 _,AbB P c hc hl mP tr an turn less t O (λi x u H s hx ru B JJ sH=>#[x,H,JJ,ru,k i x H hx B sH]) _ 0 0 _ H2 y f k2 p e2 Y hne J5 ab d aj ah #[oI,(sb.2 I<|Ax t).trans ai,cI,dI] hy G V ac (Ao _) λj' ao=>?_];have e:j'=0:=M6;subst e;refine#[?_,λz=>absurd z<|CS _];cases D:c 0 0 with
 |false=>rfl
 |true=>rw[<-D];exact an _ _ D
end
def Akl(q:V->Hp->Prop):Lx->Hp->Prop
 |[x],H=>q x H
 |_,_=>False
def Wq(X:Cx)(A:BQ)(qual:AA)(scope:Scope)(N:Lw)(f:Ag)(cd:Ai)(s:Au)(H:Hp):Cx where
 prog:=X.prog
 w:=X.w
 K:=X.K
 mg:=X.mg
 base:=X.base
 A:=A.deeper (EF qual scope s.heap.objs.size f cd<|OI X.env.cells scope.names [])
 N:=N
 Qo:=s
 NR:=H
 env:=EF qual scope s.heap.objs.size f cd (OI X.env.cells scope.names [])
 outer:=X.stack
 stack:=EF qual scope s.heap.objs.size f cd (OI X.env.cells scope.names [])::X.stack
 ex:=[]
 calm:=Af
 fn:=λ_=>An
 pn:=[]
 xe:=λ_ _=>False
section
variable{X:Cx}{pins:Ly}{J:St}{H:Hp}{s:Au}
def fU{f:Ag}{tk:Nat}(I:Inv X pins J H s)(hA:A.frames=U X.stack)(hh:A.handled=Ah)(hkind:scope.kind=.function)(hcell:∀y∈scope.names,y.2≠.cell)(hpar:scope.names.lookup par=U .local)(hfr:∀y∈scope.names,y.2=.free->X.env.kindOf y.1=U .cell\/X.env.kindOf y.1=U .free)(caps:Qu X scope Nc src)(hns:h1.Ns s.heap.objs.size (λy=>[(par,u)].reverse.lookup y))(k:∀b o,s.heap.get? b=U o->h1.get? b=U o)(rv:RelV v u):
  Inv (Wq X A qual scope (par::Nc) f cd s H) [] (U v::pick src J) H {s with heap:=h1,toks:=tk}:=by
 have a:∀{x:AA}{c:Ag},(OI _ _ []).lookup x=U c->X.env.cells.lookup x=U c:=λ{x c}h=>by
  rcases Xj h with q|⟨O,L⟩
  ·simp at q
  ·let(N,g):=I.ok.has x (hfr _ O Y);rw[g]at L;rw[g,L];rfl
 have d:∀{x:AA},scope.names.lookup x=U _->∃c,(OI X.env.cells _ []).lookup x=U c:=λ{x}h=>
  Et.mp (Xi<|.inl<|lookup_mem h)
 have n:∀{c:Ag}{v:LH},s.heap.IsCell c v->h1.IsCell c v:=λ{c v}⟨o,R,M⟩=>#[o,k c o R,M]
 have B:∀b:Ag,b∉(Wq X A qual scope (par::Nc) f cd s H).ex:=λb z=>absurd (show b∈([])from z) M8
 refine#[#[I.ok.mod,hkind,Y,Y,Ao _,λx y c t T=>I.ok.inj x y c (a t)<|a T,λx t=>?_,λ_ _ z=>(nomatch z),λ_=>hh,HC hA,.inr #[Y,Y],λb z=>absurd z<|B b,I.bs,AS I.ok.Aat I.sz,λb _ _=>B b,λb z=>absurd z<|B b,I.stack,I.lA],
  rfl,I.bare,Un.kept k,#[_,hns,λj x w j0 G y0=>?_],λx c e=>?_,I.N5.fresh<|Ao _,λx c e=>I.QL x c<|a e,λp Q=>absurd (show p∈([]:List _)from Q) M8,I.N5.kept k,?_]
 ·rcases t with t|t
  ·exact absurd Y<|hcell _<|lookup_mem t
  ·exact d t
 ·cases j with
  |zero=>cases j0;cases G;exact#[u,rv,.inl #[hpar,M8]]
  |succ j=>
    let(i,E,D):=oS G;let(u3,K,F):=caps.at j0 E;let(m,W,S):=I.loc;let(P,r,l):=S i x w u3 D<|K.elim (λz=>.inr<|.inl z) λz=>.inr<|.inr z
    refine#[P,r,?_];rcases l with⟨z,_⟩|⟨_,c,V,C⟩
    ·rcases K with q|q<;>(rw[q]at z;cases z)
    ·let(N,g):=d F;have e:=a g;rw[V]at e;cases e;exact .inr #[.inr F,c,g,n C]
 ·let(v,z):=I.cell x c (a e);exact#[v,n z]
 ·show(U v::pick src J).length=(par::Nc).length;unfold pick;rw[AI,AI,Ac];rw[caps.len]
def Abd{t:TE}(I:Inv X pins J H s)(hc:X.calm=Af)(hq:s.heap.get? q=U (Dt "<lambda>" qual params body scope (OI X.env.cells scope.names []) pm c' ctv))(hcd:s.heap.CodeRec (.ref c') qual)(hbind:∀fd:CA,fd.params=params->fd.defaults=.none->fd.kwdefaults=.none->Ce fd #[[u],[]]=pure [(par,u)])(hkind:scope.kind=.function)(hco:scope.isCoroutine=An)(hgen:scope.isGenerator=An)(hcell:∀y∈scope.names,y.2≠.cell)(hpar:scope.names.lookup par=U .local)(hfr:∀y∈scope.names,y.2=.free->X.env.kindOf y.1=U .cell\/X.env.kindOf y.1=U .free)(caps:Qu X scope Nc src)(hroom:X.A.in1.depth<CK)(rv:RelV v u)(hb:PE (Wq X X.A.in1 qual scope (par::Nc) q (.ref c') s H) body t)(h:t (U v::pick src J) H Q):AW (A9 X.prog X.w) X.A.in1 (call (.ref q) [u]) (EP X pins J Q) (λ_ _=>False) s:=by
 refine HK ?_;have d:=I.AdW.in1;have g:s.heap.NoLimit:=d.mod.nolimit.keeps λb o e=>(d.bs b o e).1
 refine Hq hroom hq Y hco hgen Y hcd ?_;rw[hbind _ Y Y Y];refine Aw<|FK hcell (λy m=>by rw[As.mp m];exact hpar) (λk i a=>#[g.fresh _ a,?_]) hkind;have j:∀b o,s.heap.get? b=U o->k.get? b=U o:=λb o e=>a.extBut b o (Bg<|AU e)<|Am _ e
 show EU _ _ (.expr body<|EF qual scope s.heap.objs.size q (.ref c')<|OI X.env.cells scope.names []) _ _;have j0:=fU (qual:=qual) (f:=q) (cd:=.ref c') (tk:=s.toks+1) I d.frames (I.ok.hd hc) hkind hcell hpar hfr caps i j rv;refine Ho<|B1 (hb [] _ _ H Q j0 h) (λC B r=>?_) λ_ _ z=>z.elim
 let(x,n,c,l,p):=r;exact I.after #[x,n,c.os,c.bare,c.base,c.N5,l,p]
def Inv.grow{more:LS}(I:Inv X pins J H s)(hP:H P=U (.RQ ps))(k:∀b o,b≠P->s.heap.get? b=U o->h'.get? b=U o)(hn:h'.get? P=U {cls:=.none,data:=.fields (ps++more)}):Inv X pins J (upd H P<|.RQ<|ps++more) {s with heap:=h',toks:=t'}:=by
 have j:∀b,H b=Ah->b≠P:=λb e z=>by rw[z,hP]at e;cases e
 have B:=j _ I.free;have w:∀y c,X.env.cells.lookup y=U c->c≠P:=λy c e=>j _<|I.QL y c e
 refine#[I.ok,I.os,I.bare,#[λb o e n x h=>k b o (j _<|I.base.free b o e n h)<|I.base.keep b o e n x h,λb o e n x h=>?_,λb o e n h=>?_,λb o e h=>?_,λb C e=>?_,λb o u e=>?_,λb M e=>?_],?_,λy c e=>?_,?_,λy c e=>?_,λp K=>?_,λb u e=>?_,I.len]
 ·let(F,g):=I.base.slot b o e n x h;exact#[F,k _ _ (j _<|I.base.free b o e n h) g]
 ·rw[NN<|j _<|I.base.free b o e n h];exact I.base.free b o e n h
 ·let(A,g):=I.base.there b o e h;by_cases f:b=P
  ·subst f;exact#[_,hn]
  ·exact#[A,k _ _ f g]
 ·have g:=I.base.Ul b C e;rw[NN λz=>by rw[z,hP]at g;cases g];exact g
 ·have g:=I.base.VE b o u e;rw[NN λz=>by rw[z,hP]at g;cases g];exact g
 ·obtain ⟨m,g⟩:=I.base.WU b M e;by_cases f:b=P
  ·subst f;rw[hP]at g;cases g;exact#[m++more,by rw[NQ,IF]]
  ·exact#[m,by rw[NN f];exact g]
 ·let(m,(o,O,Q,g,r),N):=I.loc;refine#[m,#[o,O,Q,k _ _ B g,r],λi y v a b c=>?_];let(u,E,l):=N i y v a b c;refine#[u,E,?_];rcases l with l|⟨R,c,D,A,j0,L⟩
  ·exact .inl l
  ·exact .inr #[R,c,D,A,k _ _ (w _ _ D) j0,L]
 ·let(v,o,g,G):=I.cell y c e;exact#[v,o,k _ _ (w y c e) g,G]
 ·rw[NN B];exact I.free
 ·rw[NN<|w y c e];exact I.QL y c e
 ·let(a,b,c,d,e):=I.pin p K;exact#[k _ _ (j _ b) a,by rw[NN<|j _ b];exact b,c,d,e]
 ·by_cases f:b=P
  ·subst f;rw[NQ]at e;cases e;exact hn
  ·rw[NN f]at e;refine(I.N5 b u e).bA (λc v t q=>k c v ?_ q) (λc q=>?_) λc C q=>?_
   ·rcases t with rfl|t
    ·exact f
    ·intro z;rw[z,hP]at t;cases t
   ·rw[NN λz=>by rw[z,hP]at q;cases q];exact q
   ·rw[NN λz=>by rw[z,hP]at q;cases q];exact q
def Inv.Ac6(I:Inv X pins J H s)(f:Qv X pins H a)(hy:X.Qo.heap.get? a=Ah)(h1:φ s.heap)(h2:∃o,s.heap.get? a=U o)(h3:∀h h':BO,φ h->(∀o,h.get? a=U o->h'.get? a=U o)->φ h'):Inv X pins J (upd H a<|.ext φ) s:=by
 let(j,A,_,_,z,r):=f;refine#[I.ok,I.os,I.bare,#[I.base.keep,I.base.slot,λb o e n w=>?_,I.base.there,λb k e=>?_,λb o u e=>?_,λb t e=>?_],I.loc,I.cell,?_,λy c e=>?_,λp i=>?_,λb u e=>?_,I.len]
 ·rw[NN λq=>by rw[q,hy]at e;cases e];exact I.base.free b o e n w
 ·have:=I.base.Ul b k e;rw[NN<|NZ this j];exact this
 ·have:=I.base.VE b o u e;rw[NN<|NZ this j];exact this
 ·let(g,m):=I.base.WU b t e;exact#[g,by rw[NN<|NZ m j];exact m]
 ·rw[NN<|Ax A];exact I.free
 ·rw[NN<|z y c e];exact I.QL y c e
 ·let(x,b,c,d,e):=I.pin p i;exact#[x,by rw[NN<|r p i];exact b,c,d,e]
 ·by_cases l:b=a
  ·subst l;rw[NQ]at e;cases e;exact#[h1,h2,h3]
  ·rw[NN l]at e;exact(I.N5 b u e).bA (λc v _ q=>q) (λc q=>by rw[NN<|NZ q j];exact q) λc k q=>by rw[NN<|NZ q j];exact q
end
def Adl(c:Ag)(q:AA):HO:=.ext λh=>h.CodeRec (.ref c) q
def RI(H:Hp)(pos:CU)(q:AA)(ps:LS):Prop:=ps=#[]\/∃c,ps=(zTo [rawInt pos.line,rawInt pos.col,.ref c])/\H c=U (Adl c q)
def S8(P:Ag)(H H':Hp):Prop:=∀b u,b≠P->H b=U u->H' b=U u
def RJ:∀h h':BO,h.CodeRec (.ref c) q->(∀o,h.get? c=U o->h'.get? c=U o)->h'.CodeRec (.ref c) q:=by rintro h h'⟨g,o,d,t,e,a,f,b⟩k;cases e;exact#[c,o,d,t,Y,k o a,f,b]
section
variable{X:Cx}{pins:Ly}{J:St}{H:Hp}{s:Au}
def Abe{pos:CU}(I:Inv X pins J H s)(hcode:X.env.code=.ref c)(C:EZ X.base c P)(hB:X.base.BuiltinsAt X.mg P)(hP:H P=U (.RQ ps))(hT:RI H pos qual ps)(hdef:HL params X.env=([],[]))(hcl:JG scope X.env=pure (OI X.env.cells scope.names []))(hq:qual=X.env.qual++"<lambda>")(h:∀q c' ctv H' s',(∃ps',H' P=U (.RQ ps')/\RI H' pos qual ps')->S8 P H H'->Inv X pins J H' s'->Qv X pins H' q->X.Qo.heap.get? q=Ah->H' c'=U (Adl c' qual) ->
   s'.heap.get? q=U (Dt "<lambda>" qual params body scope (OI X.env.cells scope.names []) ((X.mg "__name__").getD .none) c' ctv)->s'.heap.CodeRec (.ref c') qual->R (.ref q) s'):
  AW (A9 X.prog X.w) X.A (eval (.Lambda params body scope pos) X.env) R E s:=by
 have p:=λb o e=>(I.bs b o e).1
 have nP:∀b o,X.base.get? b=U o->b≠P:=λb o e z=>by
  have:=(I.bs b o e).2;rw[z,hP]at this;cases this
 have j0:=C.keeps p;have K:s.heap.Ns AJ X.mg:=by let(o,M,N,e,r):=I.ok.mod.glob;exact#[o,M,N,p _ _ e,r]
 have D:AJ≠P:=by let(o,M,N,e,r):=I.ok.mod.glob;exact nP _ _ e
 have l:s.heap.BuiltinsAt X.mg P:=by let(u3,o,a1,a2,Q,T,S,a6):=hB;exact#[u3,o,a1,a2,Q,T,p _ _ S,a6]
 have f:=I.N5 P _ hP;subst hq;refine PySem.W.kla_eval hdef ?_;rcases hT with rfl|⟨c',rfl,g⟩
 ·refine PySem.W.kla_makeFunction hcl I.ok.glob K hcode j0 f (by exact Bk) M7 D l λc' ctv h' k Z a m d G=>?_
  have j:Inv X pins J _ {s with heap:=h',toks:=k}:=I.grow hP (λb o n e=>Z b o n e) G;have i:c'≠P:=λz=>absurd (AU f)<|Nat.not_lt.mpr<|z▸a
  have v:(upd H P<|.RQ<|#[]++(zTo [rawInt pos.line,rawInt pos.col,.ref c'])) c'=Ah:=by rw[NN i];exact I.N5.fresh a
  have O:=I.UT a v;have y0:=Di<|AS I.sz a;have V:∃o,h'.get? c'=U o:=by let(c2,o,vs,t,e,e1,_):=d;cases e;exact#[o,e1]
  have y:=j.Ac6 O y0 d V RJ;have x:=y.kept (h':=h'.push<|Dt "<lambda>" (X.env.qual++"<lambda>") params body scope (OI X.env.cells scope.names []) ((X.mg "__name__").getD .none) c' ctv) (t':=k) λb o e=>Am _ e
  refine h _ c' ctv _ _ #[_,by rw[NN<|Ax i];exact NQ,.inr #[c',M8,NQ]] (λb u n e=>?_) x (y.UT (Ao _)<|y.N5.fresh<|Ao _) (Di<|AS I.sz<|AS a<|C6 m) NQ (AN _ Y)<|RJ _ _ d λo e=>Am _ e
  rw[NN (λz=>by rw[z,I.N5.fresh a]at e;cases e),NN n];exact e
 ·have F:=(show Oy _ X.w H _ c' _ from I.N5 c' _ g).1;refine PySem.W.kla_makeFunctionHit (cv:=.ref c') hcl I.ok.glob K hcode j0 f (by exact Bk) (by simp[codeAmong,rawInt]) l λctv h' k L B=>?_
  have j:Inv X pins J H {s with heap:=h',toks:=k}:=I.kept L;have x:=j.kept (h':=h'.push<|Dt "<lambda>" (X.env.qual++"<lambda>") params body scope (OI X.env.cells scope.names []) ((X.mg "__name__").getD .none) c' ctv) (t':=k) λb o e=>Am _ e
  exact h _ c' ctv H _ #[_,hP,.inr #[c',Y,g]] (λb u _ e=>e) x (j.UT (Ao _)<|j.N5.fresh<|Ao _) (Di<|AS I.sz B) g (AN _ Y) (RJ _ _ (RJ _ _ F λo e=>L _ _ e) λo e=>Am _ e)
def FO(q:Ag)(qual:AA)(params:Km)(body:Expr)(scope:Scope)(clos:LW)(pm:Ai)(c':Ag)(ctv:Ai):HO:=.ext λh=>h.get? q=U (Dt "<lambda>" qual params body scope clos pm c' ctv)
def Ait(X:Cx)(P:Ag)(params:Km)(body:Expr)(scope:Scope)(pos:CU):TE:=λ_ H Q=>∃ps,H P=U (.RQ ps)/\RI H pos (X.env.qual++"<lambda>") ps /\
 ∀q c' ctv H',(∃ps',H' P=U (.RQ ps')/\RI H' pos (X.env.qual++"<lambda>") ps')->S8 P H H'->H q=Ah->H' q=U (FO q (X.env.qual++"<lambda>") params body scope (OI X.env.cells scope.names []) ((X.mg "__name__").getD .none) c' ctv) ->
  H' c'=U (Adl c'<|X.env.qual++"<lambda>")->Q (.ref q) H'
def Ab8{pos:CU}(hcode:X.env.code=.ref c)(C:EZ X.base c P)(hB:X.base.BuiltinsAt X.mg P)(hdef:HL params X.env=([],[]))(hfr:∀y∈scope.names,y.2=.free->X.env.kindOf y.1=U .cell\/X.env.kindOf y.1=U .free):
  PE X (.Lambda params body scope pos) (Ait X P params body scope pos):=by
 intro r s J H Q I h;let(N,L,B,k):=h;refine Abe I hcode C hB L B hdef (S9 λx K G=>I.ok.has _<|hfr x K G) Y λq j i R M⟨o,g,n⟩w D f j0 a p v=>?_
 have d:q≠P:=λz=>by have e:=f.1;rw[z,g]at e;cases e
 have l:j≠q:=λz=>by rw[z]at a;rw[f.1]at a;cases a
 have E:=D.Ac6 (φ:=λh=>h.get? q=U (Dt "<lambda>" (X.env.qual++"<lambda>") params body scope (OI X.env.cells scope.names []) ((X.mg "__name__").getD .none) j i)) f j0 p #[_,p] λh O e k=>k _ e
 have t:H q=Ah:=by
  cases e:H q with
  |none=>rfl
  |some u=>have:=w q u d e;rw[f.1]at this;cases this
 refine#[.ref q,_,E,Y,k q j i _ #[o,by rw[NN<|Ax d];exact g,?_] (λb u A e=>?_) t NQ (by rw[NN l];exact a)]
 ·rcases n with e|⟨F,e,m⟩
  ·exact .inl e
  ·exact .inr #[F,e,by rw[NN λz=>by rw[z,f.1]at m;cases m];exact m]
 ·rw[NN λz=>by rw[z,t]at e;cases e];exact w b u A e
def Abf{t:TE}(I:Inv X pins J H s)(hc:X.calm=Af)(hq:H q=U (FO q qual params body scope (OI X.env.cells scope.names []) pm c' ctv))(hcd:H c'=U (Adl c' qual))(hbind:∀(u:Ai)(fd:CA),fd.params=params->fd.defaults=.none->fd.kwdefaults=.none->Ce fd #[[u],[]]=pure [(par,u)])(hkind:scope.kind=.function)(hco:scope.isCoroutine=An)(hgen:scope.isGenerator=An)(hcell:∀y∈scope.names,y.2≠.cell)(hpar:scope.names.lookup par=U .local)(hfr:∀y∈scope.names,y.2=.free->X.env.kindOf y.1=U .cell\/X.env.kindOf y.1=U .free)(caps:Qu X scope Nc src)(hroom:X.A.in1.depth<CK)(rv:RelV v u)(hb:∀(s:Au)(H:Hp),PE (Wq X X.A.in1 qual scope (par::Nc) q (.ref c') s H) body t)(h:t (U v::pick src J) H Q):AW (A9 X.prog X.w) X.A.in1 (call (.ref q) [u]) (EP X pins J Q) (λ_ _=>False) s:=by
 have a:Oy X.prog X.w H s.heap q (FO q qual params body scope (OI X.env.cells scope.names []) pm c' ctv):=I.N5 q _ hq;have b:Oy X.prog X.w H s.heap c' (Adl c' qual):=I.N5 c' _ hcd;exact Abd I hc a.1 b.1 (hbind u) hkind hco hgen hcell hpar hfr caps hroom rv (hb s H) h
end
def Aem:HT.lexLt [a,b] [c,d]=Af↔a<c\/(a=c/\b<d):=by
 rw[HT.VM,HT.VM,HT.cT];split
 ·split
  ·simp;omega
  ·simp;omega
 ·simp;omega
def Abm:HT.lexLt [a,b] [c,d]=An↔¬ (a<c\/(a=c/\b<d)):=by rw[<-Aem];simp
def S8.seq{K:Ab}(sb:S8 P H H')(hP:H P=U (.RQ ps))(h:Pb K H l xs):Pb K H' l xs:=by
 rcases h with(h|⟨o,h⟩)|h
 ·exact .inl<|.inl<|sb _ _ (λz=>by rw[z,hP]at h;cases h) h
 ·exact .inl<|.inr #[o,sb _ _ (λz=>by rw[z,hP]at h;cases h) h]
 ·exact .inr h
section
variable{X:Cx}
def AbA(X:Cx)(P:Ag)(lpos:CU)(src:LC)(t:TE)(J:St)(Q:VK)(x:V)(H1:Hp):Prop:=∃l xs,x=.ref l/\Pb X.K H1 l xs/\0<xs.length/\∃ps,H1 P=U (.RQ ps)/\RI H1 lpos (X.env.qual++"<lambda>") ps /\
 ∀H2,(∃ps',H2 P=U (.RQ ps')/\RI H2 lpos (X.env.qual++"<lambda>") ps')->S8 P H1 H2->∃(ka kb:Nat->Int),
  (∀i x,xs[i]?=U x->∀H3(R:VK),NV H2 H3->(∀H4 y,NV H3 H4->H4 y=U (.tup [.int<|ka i,.int<|kb i])->R (.ref y) H4)->t (U x::pick src J) H3 R) /\
  ∀i x H3,xs[i]?=U x->(∀j,j<xs.length->¬ (ka j<ka i\/(ka j=ka i/\kb j<kb i))/\(j<i->ka i<ka j\/(ka i=ka j/\kb i<kb j)))->NV H2 H3->Q x H3
def AkS(X:Cx)(P:Ag)(lpos:CU)(src:LC)(t te:TE):TE:=λJ H Q=>te J H (AbA X P lpos src t J Q)
def AeT{t:TE}{pos:CU}(hcode:X.env.code=.ref c)(C:EZ X.base c P)(hB:X.base.BuiltinsAt X.mg P)(hdef:HL params X.env=([],[]))(hbind:∀(u:Ai)(fd:CA),fd.params=params->fd.defaults=.none->fd.kwdefaults=.none->Ce fd #[[u],[]]=pure [(par,u)])(hkind:scope.kind=.function)(hco:scope.isCoroutine=An)(hgen:scope.isGenerator=An)(hcell:∀y∈scope.names,y.2≠.cell)(hpar:scope.names.lookup par=U .local)(hfr:∀y∈scope.names,y.2=.free->X.env.kindOf y.1=U .cell\/X.env.kindOf y.1=U .free)(caps:Qu X scope Nc src)(hroom:X.A.in1.depth<CK)(hu:X.A.in1.units<Cd)(hg:Gl X "min")(hm:X.mg "min"=Ah)(hc:X.calm=Af)(he:PE X e te)(hb:∀(q c':Ag)(s:Au)(H:Hp),PE (Wq X X.A.in1 (X.env.qual++"<lambda>") scope (par::Nc) q (.ref c') s H) body t)(hs:AL [e] X.env=[(An,eval e X.env)]:=by rfl):
  PE X (.Call (.Name "min" p) [e] [#[U "key",.Lambda params body scope lpos,kpos]] pos) (AkS X P lpos src t te):=by
 intro d s J H Q I h;refine CJ<|TL I hg hm Boot.b_min ?_ M5 M5;have pa:PA X [e] (gR te YX):=NU he N0 hs;have pk:PK X [#[U "key",.Lambda params body scope lpos,kpos]] (gR (Ait X P params body scope lpos) YX):=uZ (Ab8 hcode C hB hdef hfr) Ack;refine callWith_kw (OG (pa pos d s J H (Akl<|AbA X P lpos src t J Q) I h) λus s1⟨D,S,I1,L,O⟩=>?_) (by rw[hs];rfl) (by rw[hs];rfl) Y Y;obtain⟨x,rfl,l,xs,ex,hx,G,ps,y0,hT,k⟩:∃x,D=[x]/\AbA X P lpos src t J Q x S:=by
  match D,O with
  |[x],O=>exact#[x,Y,O]
 subst ex;let(u,rfl,W):=vals1 L;cases W;refine OG (pk pos d s1 J S (λD g=>∃q c' f,D=[.ref q]/\(∃ps',g P=U (.RQ ps')/\RI g lpos (X.env.qual++"<lambda>") ps')/\S8 P S g/\g q=U (FO q (X.env.qual++"<lambda>") params body scope (OI X.env.cells scope.names []) ((X.mg "__name__").getD .none) c' f)/\g c'=U (Adl c'<|X.env.qual++"<lambda>")) I1
  #[ps,y0,hT,λq c' f g m F _ r j0=>#[q,c',f,Y,m,F,r,j0]]) λws s2⟨zs,g,I2,T,q,c',f,ez,m,F,hq,N⟩=>?_
 subst ez;let(w,rfl,M):=vals1 T;cases M;let(n,B,ht,kk):=k g m F;refine Aew (λi H k=>∃y,k=.ref y/\H y=U (.tup [.int<|n i,.int<|B i])) (λi j=>HT.lexLt [n i,B i] [n j,B j]) hc (F.seq y0 hx) (λi H H' k s⟨y,u3,R⟩=>#[y,u3,s _ _ R]) (λa b i r j0=>?_) (λa b r=>?_) (λi x z d s H u I v W=>?_) (λi j d s J H ki kj ui uj Q E I z V ri rj q=>?_) I2 G λi x H z o v=>kk i x H z (λj V=>?_) v
 ·rw[Aem]at r ⊢;rw[Abm]at j0;omega
 ·rw[Aem]at r;rw[Abm];omega
 ·exact Abf I hc (v _ _ hq) (v _ _ N) hbind hkind hco hgen hcell hpar hfr caps hroom W (λs H=>hb q c' s H)<|ht i x z H _ v λH4 y s4 e4=>#[s4,y,Y,e4]
 ·let(y1,rfl,u3):=z;let(y2,rfl,R):=V;cases ri;cases rj;let(aa,L,p1,_):=I.tuple<|P5.of (K:=X.K) u3;let(Z,T,p2,_):=I.tuple<|P5.of (K:=X.K) R;exact HT.rM p1 p2 (intsAre_of (ns:=[n i,B i]) L) (intsAre_of (ns:=[n j,B j]) T) hu q
 ·have:=o j V;rw[Abm,Aem]at this;exact this
end
def Inv.vY{X:Cx}{pins:Ly}{J:St}{H:Hp}{s:Au}{h':BO}{t':Nat}{ch:Lv}(I:Inv X pins J H s)(k:∀b o,b∉ch->s.heap.get? b=U o->h'.get? b=U o)(hn:∀b∈ch,H b=Ah)(hL:∀b∈ch,b≠X.env.locals)(h1:∀b∈ch,b∈X.ex\/X.Qo.heap.objs.size<=b)(h2:∀b∈ch,∀x c,X.env.cells.lookup x=U c->c≠b)(h3:∀b∈ch,∀p∈X.pn++pins,p.1≠b):Inv X pins J H {s with heap:=h',toks:=t'}:=by
 have d:∀b u,H b=U u->b∉ch:=λb u e z=>by rw[hn b z]at e;cases e
 refine I.step (g':=s.gens) (d':=s.drawn) (ch:=ch) (λb f=>#[h1 b f,hL b f,h2 b f,h3 b f]) (λb o _ _ a e _=>k b o a e) (λb o _ _ a e _=>#[o.slots,k b o a e]) (λ_ _ _ _ n=>n)
  (λb o a e=>#[o,k b o a e]) (λ_ _ e=>e) (λ_ _ _ e=>e) (λb l e=>#[#[],by rw[e];simp]) (λm g=>?_) (λb u e=>?_) I.bare
 ·let(o,j,h,i,r):=g;exact#[o,j,h,k _ o (λz=>hL _ z Y) i,r]
 ·refine(I.N5 b u e).bA (λc v a q=>k c v ?_ q) (λ_ q=>q) λ_ _ q=>q
  rcases a with z|z
  ·rw[z];exact d b u e
  ·exact d c _ z
def Inv.vX{X:Cx}{pins:Ly}{J:St}{H H0:Hp}{s:Au}{h':BO}{t':Nat}{ch:Lv}(I:Inv X pins J H s)(k:∀b o,b∉ch->s.heap.get? b=U o->h'.get? b=U o)(hn:∀b∈ch,H b=Ah)(hf:∀b∈ch,Qv X pins H0 b):Inv X pins J H {s with heap:=h',toks:=t'}:=I.vY k hn (λb a=>(hf b a).2.1) (λb a=>(hf b a).2.2.2.1) (λb a=>(hf b a).2.2.2.2.1) (λb a=>(hf b a).2.2.2.2.2)
def Ai2(K:Ab)(a:Ag):It:=#[λi H=>∃xs x,Pb K H a xs/\xs[i]?=U x,
  λi H v H'=>∃t x,H t=Ah/\(∀xs,Pb K H a xs->xs[i]?=U x)/\v=.ref t/\H'=upd H t (.tup [.int (i:Nat),x]),
  λi H=>∃xs,Pb K H a xs/\xs[i]?=Ah]
def zX{P:Bn}{w:Bw}{K:Ab}{elts:LJ}{x1}{tpos:CU}(a e it:Ag)(hne:e≠it):Turn P w K (.Tuple elts x1 tpos) (Ai2 K a) [e,it] e (λi h=>(∃old,IsEnum h e it (i:Nat) old)/\h.IsListIter it a i) where
 mem:=M8
 obj:=λi h j c d=>by
  let((old,f),(y0,T,D,d1)):=j;simp only[AB,Cv,FU]at d;rcases d with rfl|rfl
  ·exact#[_,f,λv z=>by cases z]
  ·exact#[y0,T,λv z=>by rw[d1]at z;cases z]
 keep:=λi h h' j k=>by
  let((old,f),n):=j;exact#[#[old,k e M8 _ f],n.at λo q=>k it M8 o q]
 item:=by
  intro X u3 t Q d i l s J H E I y j M;subst u3 t Q;let((old,f),n):=j;let(xs,x,g,F):=M;let(B,m,S,O):=I.list g;let(p,j0,W):=m.get F;have G:∀c∈[e,it],c<s.heap.objs.size:=λc d=>by
   let(y0,T,_):=n;simp only[AB,Cv,FU]at d;rcases d with rfl|rfl
   ·exact AU f
   ·exact AU T
  refine wpAny_pyNext_enum_item f n S.isList (x:=p) (by simpa using j0) hne λh' a1 a3 a5 a6 N=>?_
  refine#[_,Y,wpAny_letOwnedTupleGo_enum (s:={s with heap:=h',toks:=s.toks+1}) a1 λA R V=>?_];have hn:H s.heap.objs.size=Ah:=I.fresh;have Im:Inv X l J (upd H s.heap.objs.size<|.tup [.int (i:Nat),x]) {s with heap:=s.heap.push {cls:=.type "tuple",data:=.seq (zTo [.int (i:Nat) s.toks,p])}}:=
   I.laid (t':=s.toks) (λb o e=>Am _ e) (Ao _) #[by show 2<=sizeLine;decide,[.int (i:Nat) s.toks,p],.cons #[_,Y]<|.cons W .nil,_,AN s.heap Y,Y,0,Y]
  have kk:∀c C,c∉[e,it]->(s.heap.push {cls:=.type "tuple",data:=.seq (zTo [.int (i:Nat) s.toks,p])}).get? c=U C->A.get? c=U C:=λc C d L=>by
   have D:c≠e:=λq=>d (by simp[q])
   have c2:c≠it:=λq=>d (by simp[q])
   rcases Z5 (h:=s.heap) (u:={cls:=.type "tuple",data:=.seq (zTo [.int (i:Nat) s.toks,p])}) Y L with⟨Z,e6⟩|L
   ·subst Z e6;exact(V.2 _ D).trans a5
   ·exact(V.2 _ D).trans (N c C D c2 L)
  have r:∀c∈[e,it],(upd H s.heap.objs.size<|.tup [.int (i:Nat),x]) c=Ah:=λc d=>by
   rw[NN<|Bg<|G c d];exact(y c d).1
  have I2:=Im.vX (h':=A) (t':=s.toks+1) kk r y;refine#[.ref s.heap.objs.size,_,I2,Y,#[_,x,hn,λws t=>by rw[I.ZU t g];exact F,Y,Y],#[#[p,by exact_mod_cast R],?_],r];exact a3.extBut V.extBut<|Ax hne
 done:=by
  intro X u3 t Q d i l s J H E I y j M;subst u3 t Q;let((old,f),n):=j;let(xs,g,F):=M;let(B,m,S,O):=I.list g;have l1:=m.length;refine wpAny_pyNext_enum_end (I.ok.hd d) f n S.isList ?_ λh' N=>#[Y,I.vX (t':=s.toks) (ch:=[e,it]) (λc o d q=>N c o (λz=>d<|by simp[z]) q) (λc d=>(y c d).1) y]
  rw[Eu]at F;rw[Array.getElem?_eq_none_iff,Aq];omega
 self:=λ_ _ _ _ _ j h=>by
  let((old,f),_):=j;exact JV f h
def AjH(K:Ab)(tl:TA):TI:=λJ H R=>tl J H λvs H1=>∃a xs,vs=[.ref a]/\Pb K H1 a xs/\R (Ai2 K a) H1
def AeX{x1}{pos:CU}(hg:Gl X "enumerate")(hm:X.mg "enumerate"=Ah)(ha:PA X [l] tl)(hs:AL [l] X.env=[(An,eval l X.env)]:=by rfl){K₀:Ab}{NR:Hp}[hK:N3 X K₀ NR]:PI X (.Tuple elts x1 tpos) (.Call (.Name "enumerate" p) [l] [] pos) (AjH K₀ tl):=by
 let(rfl,rfl):=hK;intro b s J H R I h;refine Call_<|TL I hg hm Boot.b_enumerate<|C2 (OG (ha pos b s J H _ I h) λE k⟨C,i,e,o,v⟩=>?_) hs Y;let(a,D,rfl,g,q):=v;let(u,rfl,B):=vals1 o;cases B;let(j,y,A,w):=e.list g;refine call_enumerate_list A.isList λt m f z r=>?_
 have x:Inv X b J i {k with heap:=t}:=e.kept r;refine JV m ?_;refine#[_,_,_,_,i,Y,x,zX a _ _<|Nat.succ_ne_self _,#[#[_,m],f],λc n=>?_,q];have d:k.heap.objs.size<=c:=by simp only[AB,Cv,FU]at n;rcases n with rfl|rfl<;>omega
 exact e.UT d (e.N5.fresh d)
def AaP{K:Ab}{g:TG}{tb:TS}{D:Ends}{J:St}{H:Hp}(Pv:Nat->St->Hp->Prop)(h0:Pv 0 J H)(hl:∀i J H,i<=xs.length->Pv i J H->Pb K H a xs)(hs:∀i x t J H,xs[i]?=U x->Pv i J H->H t=Ah->g (.ref t) J (upd H t<|.tup [.int (i:Nat),x]) λσ2 H2=>tb {D with nx:=Pv<|i+1,ct:=Pv<|i+1,bk:=D.nx} σ2 H2)(hd:∀J H,Pv xs.length J H->D.nx J H):∃W:Nat->Nat->St->Hp->Prop,(∃m,W 0 m J H)/\∀i m J H,W i m J H ->
   ((Ai2 K a).stop i H/\D.nx J H)\/((Ai2 K a).go i H/\∃N:St->Hp->Prop,(∀σ' H',N σ' H'->∃m',m'<m/\W (i+1) m' σ' H')/\∀x H',(Ai2 K a).Aai i H x H'->g x J H' λσ2 H2=>tb {D with nx:=N,ct:=N,bk:=D.nx} σ2 H2):=by
 refine#[λi m J H=>m=xs.length-i/\i<=xs.length/\Pv i J H,#[xs.length,M8,Bv _,h0],?_];rintro i m J H⟨rfl,j,p⟩;have c:=hl i J H j p;by_cases b:i<xs.length
 ·have k:=Ae b;refine .inr #[#[xs,_,c,k],Pv _,λσ' H' d=>#[xs.length-(i+1),M6,Y,b,d],λx H' y=>?_];let(t,x,h,f,rfl,rfl):=y;exact hs i x t J H (f xs c) p h
 ·have e:i=xs.length:=M6;refine .inl #[#[xs,c,?_],hd J H<|e▸p];rw[Eu];omega
section
variable{prog:Bn}{w:Bw}{A:BQ}{E:Ai->Au->Prop}{s:Au}{a kS:Ag}{vs:LB}{kz:LD}{keys:LS}{e e1:Nat}{R:Ku->Au->Prop}
def nL{st:KW}(nk:s.heap.get? kS=U (seqObj "list" keys e))(na:s.heap.get? a=U (seqObj "list" #[] e1))(hka:kS≠a)(hz:keys.size=vs.length)(h64:vs.length<64)(hk:CG keys.toList kz)(hp:(Dz st).Perm (keys.zip vs.toArray))(hs:FT (Dz st) (Dz st).size)(hfl:FR st=Ah)(h:∀h' out c,(∀b o,b≠kS->b≠a->s.heap.get? b=U o->h'.get? b=U o)->h'.get? a=U (seqObj "list" out c)->out.size=vs.length->KskOut An kz vs out.toList->R (.done<|.ret .none) {s with heap:=h'}):AW (A9 prog w) A (ksk_tail a An e1 (.ref kS) st) R E s:=by
 have k:(Dz st).size=vs.length:=by rw[hp.size_eq,Ju,hz,Aq,E3]
 have j:((Dz st).map (·.2)).size=vs.length:=(GL ..).trans k;have i:=BF s.heap kS<|BH λ_=>(#[])
 have d:=(i.2 a<|Ax hka).trans na;have m:=BF (s.heap.update kS<|BH λ_=>(#[])) a (BH λ_=>(Dz st).map (·.2));obtain⟨g,f⟩:∃g,((s.heap.update kS<|BH λ_=>(#[])).update a (BH λ_=>(Dz st).map (·.2))).get? a=U _:=#[_,DL d λ_=>(Dz st).map _];refine Ad<|C1 nk Y ?_ (by rw[Bb];omega)<|Bv _;refine Ad<|ES<|Ad<|FQ d Y ?_;refine Ad<|C1 d Y ?_ (Bv _)<|AS (F8 j) (by rw[Bb];omega);rw[hfl];simp only[Ib,C4,if_false];exact Aw (h _ _ g (λb o l n p=>(m.2 b n).trans ((i.2 b l).trans p)) f j<|ksk_out hk hp hs)
def Aeh(nk:s.heap.get? kS=U (seqObj "list" keys e))(na:s.heap.get? a=U (seqObj "list" #[] e1))(hka:kS≠a)(hz:keys.size=vs.length)(h64:vs.length<64)(hk:CG keys.toList kz)(h:∀h' out c,(∀b o,b≠kS->b≠a->s.heap.get? b=U o->h'.get? b=U o)->h'.get? a=U (seqObj "list" out c)->out.size=vs.length->KskOut An kz vs out.toList->R (.done<|.ret .none) {s with heap:=h'}):AW (A9 prog w) A (ksk_end a An vs.toArray e1 (.ref kS) keys) R E s:=by
 have g:(keys.zip vs.toArray).size=vs.length:=by rw[Ju,hz,Aq,E3]
 unfold ksk_end;simp only[C4,if_false];by_cases d:vs.length<2
 ·rw[AG (by exact d),AG<|by exact d];refine nL nk na hka hz h64 hk (FJ _) (λi j k f=>?_) Y h;have f:j<(keys.zip _).size:=f;obtain rfl:i=j:=M6;exact Gx _
 ·rw[Ay (by exact d),Ay (by exact d),ksk_kind hk M6];refine Ad (Aw (Ad (B1 (wpS_sortRuns
   (Q:=λ_ t=>(Dz t).Perm _/\FR t=Ah/\FT (Dz t) _)
   (ksk_intKeys hk) #[FJ _,Y,Y,Y] M6 (by rw[g];exact h64) λt x y z=>#[x,y,z]) ?_ λ_ _ z=>z)))
  rintro⟨⟨⟩,t⟩l⟨rfl,x,y,z⟩;exact nL nk na hka hz h64 hk x (by rw[x.size_eq];exact z) y h
end
def lF:Ai->AA
 |.str x _=>x
 |_=>""
def vZ:∀{vs:LB}{ns:Lw},Vals (ns.map V.str) vs->vs.map lF=ns
 |[],[],_=>rfl
 | v::vs,n::ns,.cons r h=>by
   let(t,rfl):=r;show n::vs.map lF=n::ns;rw[vZ h]
def wA:∀{vs:LB}{ns:Lw},Vals (ns.map V.str) vs->∀v∈vs,RelV (.str<|lF v) v
 | v::vs,n::ns,.cons r h,x,a=>by
   rcases AB.mp a with rfl|a
   ·let(t,rfl):=r;exact#[t,Y]
   ·exact wA h x a
 |[],[],_,x,a=>nomatch a
def pY(f:α->V)(g:α->Ai):∀l:List α,(∀x∈l,RelV (f x)<|g x)->Vals (l.map f) (l.map g)
 |[],_=>.nil
 |x::l,h=>.cons (h x AX) (pY f g l λy a=>h y<|AD _ a)
def Inv.Aiw(I:Inv X pins J H s)(f:Qv X pins H a)(hy:X.Qo.heap.get? a=Ah)(h1:Oy X.prog X.w (upd H a u) s.heap a u):Inv X pins J (upd H a u) s:=by
 let(i,A,_,_,x,m):=f;refine#[I.ok,I.os,I.bare,#[I.base.keep,I.base.slot,λb o e n r=>?_,I.base.there,λb j e=>?_,λb o v e=>?_,λb q e=>?_],I.loc,I.cell,?_,λy c e=>?_,λp h=>?_,λb v e=>?_,I.len]
 ·rw[NN λz=>by rw[z,hy]at e;cases e];exact I.base.free b o e n r
 ·have:=I.base.Ul b j e;rw[NN<|NZ this i];exact this
 ·have:=I.base.VE b o v e;rw[NN<|NZ this i];exact this
 ·let(g,l):=I.base.WU b q e;exact#[g,by rw[NN<|NZ l i];exact l]
 ·rw[NN<|Ax A];exact I.free
 ·rw[NN<|x y c e];exact I.QL y c e
 ·let(t,b,c,d,e):=I.pin p h;exact#[t,by rw[NN<|m p h];exact b,c,d,e]
 ·by_cases k:b=a
  ·subst k;rw[NQ]at e;cases e;exact h1
  ·rw[NN k]at e;exact(I.N5 b v e).bA (λc v _ z=>z) (λc z=>by rw[NN<|NZ z i];exact z) λc j z=>by rw[NN<|NZ z i];exact z
section
variable{X:Cx}{J:St}{H0:Hp}{q p:Ag}
def AcV{kz:LD}(hc:X.calm=Af)(hp:Rd H0 p (.dK kvs))(hns:kvs.map (·.1)=ns.map Cr)(h64:ns.length<64)(hkz:kz.length=ns.length)(turn:∀(i:Nat)n k,ns[i]?=U n->kz[i]?=U k->∀pins s H u,Inv X pins J H s->NV H0 H->RelV (.str n) u->AW (A9 X.prog X.w) X.A.in1.in1 (call (.ref q) [u]) (EP X pins J λy H'=>NV H H'/\y=.int k) (λ_ _=>False) s){pins:Ly}{s:Au}{Q:VK}(I:Inv X pins J H0 s)(k:∀(ms:Mp)l H,ms.Perm (kz.zip ns)->ms.Pairwise (λx y=>x.1<=y.1)->NV H0 H->H l=Ah->Q (.ref l) (upd H l<|.lst<|ms.map λx=>V.str x.2)):
  AW (A9 X.prog X.w) X.A (call (.builtin "sorted") [.ref p] [(A1 "key",.ref q)]) (EP X pins J Q) X.xe s:=by
 let(z,hd,vs,ad,dd):=Qy I.N5 hp;have hl:kvs.length=vs.length:=AE ad;have ar:kvs.length=ns.length:=by have:=congrArg Ez hns;simpa using this
 let(ep,ao):=dd.dictAt;refine call_function_entry_kw Hd GJ GK (ksk_s1 _ _) ?_;unfold C3.«sorted»;refine Ad (m:=checkCount "sorted" 1 1 _)<|Aw ?_;refine Ad<|Ed (A:=X.A.in1) (Ex (knd:=Oj X.prog X.w) (kvs:=vs) (ep:=ep) hd) (I.ok.hd hc) ao M6 λh' C O hk h=>?_
 have hV:Vals (ns.map V.str) O.toList:=by
  refine QS (by have:=h.1;simp only[Ac,AZ];omega) λi x u B hu=>?_
  rw[B4]at hu;let(ac,w,ae,ag):=h.2 i u hu;rw[Aj]at B;cases R:ns[i]? with
  |none=>rw[R]at B;cases B
  |some n=>
    rw[R]at B;cases B;have hi:i<kvs.length:=by have:=(Av.mp R).1;omega
    let(k',v',u',L,e2,_):=ad.get hi;rw[ae]at e2;obtain⟨rfl,rfl⟩:ac=k'/\w=u':=by simpa using e2
    have:=congrArg (λl=>l[i]?) hns;rw[Aj,Aj,L,R]at this;have:ac=Cr n:=by simpa using this
    subst this;exact ZO ag
 have F:O.toList.length=ns.length:=by rw[AZ,h.1];omega
 generalize O.toList=g at hV F;clear h;refine Ad<|CY ?_ (by rw[F,Bb];omega);have I1:Inv X pins J H0 {s with heap:=h',toks:=C}:=I.kept (t':=C) hk;have g1:(h'.push<|seqObj "list" g.toArray 0).get? h'.objs.size=U (seqObj "list" g.toArray 0):=AN _ Y;have T:Qv X pins H0 h'.objs.size:=I1.UT (Ao _)<|I1.N5.fresh<|Ao _;have am:X.Qo.heap.get? h'.objs.size=Ah:=Di I1.sz;have I2:Inv X pins J H0 {s with heap:=h'.push<|seqObj "list" g.toArray 0,toks:=C}:=I1.kept (t':=C) λb o E=>Am _ E
 show AW _ _ _ _ _ {s with heap:=h'.push<|seqObj "list" g.toArray 0,toks:=C};refine Ad<|BG<|wpAny_call_entry_kw FP #[_,g1,Y] Fw ?body<|ksk_l1 _ _;generalize h'.objs.size=D at *;generalize h'.push (seqObj "list" g.toArray 0)=h2 at *;rw[ksk_t1];have b1:=BF h2 D<|BH λ_=>(#[]:LS)
 obtain⟨L,aa⟩:∃L,(h2.update D<|BH λ_=>(#[]:LS)).get? D=U (seqObj "list" #[] L):=#[_,DL g1 λ_=>#[]];have I3:=I2.turned (t':=C) (h':=h2.update D<|BH λ_=>(#[]:LS)) (λb o a E=>(b1.2 b a).trans E) T.1 T.2.1 T.2.2.2.1 T.2.2.2.2.1 T.2.2.2.2.2;unfold ksk_tree;refine Ad<|IV g1 Y<|Ad<|C1 g1 Y ?_ (by rw[Aq,Bb];omega)<|Bv _;show AW _ _ _ _ _ {s with heap:=h2.update D<|BH λ_=>(#[]:LS),toks:=C};generalize h2.update D (BH λ_=>(#[]:LS))=N at *;refine Ad<|FQ (n:=L) aa Y<|Ad<|HJ ?_ (by show g.length<=_;rw[F,Bb];omega);refine Ad<|CY ?_<|Bv _;refine BG ?_;have I4:Inv X pins J H0 {s with heap:=N.push<|seqObj "tuple" g.toArray 0,toks:=C}:=I3.kept (t':=C) λb o E=>Am _ E
 have y0:(N.push<|seqObj "tuple" g.toArray 0).get? D=U (seqObj "list" #[] L):=Am _ aa;show AW _ _ (ksk_rest D (.ref q) An g.toArray L<|.ref (N.push<|seqObj "tuple" g.toArray 0).objs.size) _ _ {s with heap:=(N.push<|seqObj "tuple" g.toArray 0).push _,toks:=C};generalize N.push _=h4 at *;have fS:=I4.UT (Ao _)<|I4.N5.fresh<|Ao _;have I5:Inv X pins J H0 {s with heap:=h4.push<|seqObj "list" #[] 0,toks:=C}:=I4.kept λb o E=>Am _ E
 have W:=HY<|AU y0;have ai:(h4.push<|seqObj "list" #[] 0).get? D=U _:=Am _ y0;have gS:(h4.push<|seqObj "list" #[] 0).get? _=U _:=AN _ Y;generalize h4.objs.size=S at *;refine Ad<|wpAny_rule ?_;rw[List.forIn_toArray];refine Ad (ksk_fold (λi t=>∃H M e,Inv X pins J H t/\NV H0 H/\Qv X pins H S/\Qv X pins H D/\t.heap.get? S=U (seqObj "list" M e)/\t.heap.get? D=U _/\CG M.toList (kz.take i)) g 0 _
  #[H0,#[],0,I5,NV.refl _,fS,T,gS,ai,by simpa using CG.nil] ?step ?done)
 case step=>
  rintro j x t B⟨H,M,e,j0,sH,f,d,cS,cD,G⟩;simp only[Em]at G ⊢;have hj:=(Av.mp B).1;obtain⟨n,hn⟩:∃n,ns[j]?=U n:=#[_,Ae M6];obtain⟨m,hm⟩:∃m,kz[j]?=U m:=#[_,Ae M6];have rx:RelV (.str n) x:=by let(x',Z,r'):=hV.get (by rw[Aj,hn];rfl);rw[B]at Z;cases Z;exact r'
  have zA:M.size<=g.length:=by have u3:=G.length;rw[AZ,Bt]at u3;omega
  have Jp:=j0.pinned (λb a=>by
   rcases AB.mp a with rfl|a
   ·exact f
   ·rw[As.mp a];exact d) (λb a=>by
   rcases AB.mp a with rfl|a
   ·exact#[_,cS,λv z=>by cases z]
   ·rw[As.mp a];exact#[_,cD,λv z=>by cases z])
  have pS:(S,seqObj "list" M e)∈RY [S,D] _:=O4 M8 cS;have pD:(D,seqObj "list" #[] L)∈RY [S,D] _:=O4 M8 cD;refine Ad<|Iu<|B1 (turn j n m hn hm _ t H x Jp sH rx) (λv t2 R=>?_) λ_ _ z=>z.elim
  let(y,H2,P,ry,ap,rfl):=R;let(tt,rfl):=ry;have J2:=P.Rz;let(ab,ah,_):=P.pin _<|AY _<|AY _ pS;let(af,an,_):=P.pin _<|AY _<|AY _ pD;have r:Qv X pins H2 S:=#[ah,f.2];have al:Qv X pins H2 D:=#[an,d.2];have u1:=BF t2.heap S (BH (·.push (.int m tt)));obtain⟨c2,aj⟩:∃c2,(t2.heap.update S (BH (·.push (.int m tt)))).get? S=U _:=#[_,DL ab _];have J3:=J2.turned (t':=t2.toks) (λb o a E=>(u1.2 b a).trans E) r.1 r.2.1 r.2.2.2.1 r.2.2.2.2.1 r.2.2.2.2.2;refine Ad<|C1 ab Y ?_ M6<|AS (F8<|Array.size_push ..) M6;refine Aw #[Y,H2,_,c2,J3,sH.trans ap,r,al,aj,(u1.2 D<|Ax W).trans af,?_];have ek:kz.take (j+1)=kz.take j++[m]:=by rw[BP,hm];rfl
  rw[ek,Array.toList_push];exact ksk_snoc G
 case done=>
  rintro t⟨H,M,e,j0,sH,f,d,cS,cD,G⟩;have G:CG M.toList kz:=by rw[EW M6]at G;exact G
  have zA:M.size=g.length:=by have u3:=G.length;rw[AZ]at u3;omega
  refine Ad<|IV cS Y<|Aeh cS cD W zA M6 G λh6 au c kp gD zo ko=>#[_,Y,Aw #[_,Y,?_]]
  let(K,p1,p2,p3):=ko;have ak:∀x∈K,x.2∈g:=λx B=>by
   have:=p1.mem_iff.mp B;exact(E5 this).2
  have J6:Inv X pins J H {t with heap:=h6,toks:=t.toks}:=j0.vY (ch:=[S,D]) (λb o a E=>kp b o (λz=>a<|by simp[z]) (λz=>a<|by simp[z]) E) (λb a=>?a1) (λb a=>?a2) (λb a=>?a3) (λb a=>?a4) (λb a=>?a5)
  case a1=>rcases AB.mp a with rfl|a;exact f.1;rw[As.mp a];exact d.1
  case a2=>rcases AB.mp a with rfl|a;exact f.2.1;rw[As.mp a];exact d.2.1
  case a3=>rcases AB.mp a with rfl|a;exact f.2.2.2.1;rw[As.mp a];exact d.2.2.2.1
  case a4=>rcases AB.mp a with rfl|a;exact f.2.2.2.2.1;rw[As.mp a];exact d.2.2.2.2.1
  case a5=>rcases AB.mp a with rfl|a;exact f.2.2.2.2.2;rw[As.mp a];exact d.2.2.2.2.2
  have lp:K.length=ns.length:=by rw[p1.length_eq,List.length_zip,hkz,F,E3]
  have e2:(K.map λx=>(x.1,lF x.2)).map (λx=>V.str x.2)=K.map λx=>V.str (lF x.2):=by rw[AO];rfl
  have aq:Oy X.prog X.w (upd H D<|.lst<|(K.map λx=>(x.1,lF x.2)).map λx=>V.str x.2) h6 D (.lst<|(K.map λx=>(x.1,lF x.2)).map λx=>V.str x.2):=by rw[e2];refine#[by rw[Ac];omega,K.map _,c,pY _ _ K λx B=>wA hV _<|ak x B,?_];rw[<-p2];exact gD
  refine#[.ref D,_,J6.Aiw d am aq,Y,k _ D H ?_ ?_ sH d.1]
  ·have u3:=p1.map (λx:Int×Ai=>(x.1,lF x.2));have N:(kz.zip g).map (λx:Int×Ai=>(x.1,lF x.2))=kz.zip ns:=by
    rw[<-vZ hV,List.zip_map_right];exact Bp λ⟨x,y⟩_=>rfl
   rw[N]at u3;exact u3
  ·rw[Df];exact p3.imp λ{x y}z=>z
end
section
variable{X:Cx}{pins:Ly}{J:St}{H:Hp}{s:Au}
def xT{t:TE}(I:Inv X pins J H s)(hc:X.calm=Af)(hq:H q=U (FO q qual params body scope (OI X.env.cells scope.names []) pm c' ctv))(hcd:H c'=U (Adl c' qual))(hbind:∀(u:Ai)(fd:CA),fd.params=params->fd.defaults=.none->fd.kwdefaults=.none->Ce fd #[[u],[]]=pure [(par,u)])(hkind:scope.kind=.function)(hco:scope.isCoroutine=An)(hgen:scope.isGenerator=An)(hcell:∀y∈scope.names,y.2≠.cell)(hpar:scope.names.lookup par=U .local)(hfr:∀y∈scope.names,y.2=.free->X.env.kindOf y.1=U .cell\/X.env.kindOf y.1=U .free)(caps:Qu X scope Nc src)(hroom:X.A.in1.in1.depth<CK)(rv:RelV v u)(hb:∀(s:Au)(H:Hp),PE (Wq X X.A.in1.in1 qual scope (par::Nc) q (.ref c') s H) body t)(h:t (U v::pick src J) H Q):AW (A9 X.prog X.w) X.A.in1.in1 (call (.ref q) [u]) (EP X pins J Q) (λ_ _=>False) s:=by
 have p:Oy X.prog X.w H s.heap q (FO q qual params body scope (OI X.env.cells scope.names []) pm c' ctv):=I.N5 q _ hq;have m:Oy X.prog X.w H s.heap c' (Adl c' qual):=I.N5 c' _ hcd;refine HK ?_;have d:=I.AdW.in1.in1;have g:s.heap.NoLimit:=d.mod.nolimit.keeps λb o e=>(d.bs b o e).1
 refine Hq hroom p.1 Y hco hgen Y m.1 ?_;rw[hbind u _ Y Y Y];refine Aw<|FK hcell (λy n=>by rw[As.mp n];exact hpar) (λk i a=>#[g.fresh _ a,?_]) hkind;have j:∀b o,s.heap.get? b=U o->k.get? b=U o:=λb o e=>a.extBut b o (Bg<|AU e)<|Am _ e
 show EU _ _ (.expr body<|EF qual scope s.heap.objs.size q (.ref c')<|OI X.env.cells scope.names []) _ _;have j0:=fU (A:=X.A.in1.in1) (qual:=qual) (f:=q) (cd:=.ref c') (tk:=s.toks+1) I d.frames (I.ok.hd hc) hkind hcell hpar hfr caps i j rv;refine Ho<|B1 (hb s H [] _ _ H Q j0 h) (λE D C=>?_) λ_ _ z=>z.elim
 let(x,r,c,l,B):=C;exact I.after #[x,r,c.os,c.bare,c.base,c.N5,l,B]
end
def S8.rd(sb:S8 P H H')(hP:H P=U (.RQ ps))(hu:∀qs,u≠.RQ qs)(h:Rd H l u):Rd H' l u:=by
 rcases h with h|⟨o,h⟩
 ·exact .inl<|sb _ _ (λz=>by rw[z,hP]at h;cases h;exact hu _ Y) h
 ·exact .inr #[o,sb _ _ (λz=>by rw[z,hP]at h;cases h) h]
section
variable{X:Cx}
def sX(X:Cx)(P:Ag)(lpos:CU)(src:LC)(t:TE)(J:St)(Q:VK)(x:V)(H1:Hp):Prop:=∃p kvs ns,x=.ref p/\Rd H1 p (.dK kvs)/\kvs.map (·.1)=(ns:Lw).map Cr/\ns.length<64/\∃ps,H1 P=U (.RQ ps)/\RI H1 lpos (X.env.qual++"<lambda>") ps /\
 ∀H2,(∃ps',H2 P=U (.RQ ps')/\RI H2 lpos (X.env.qual++"<lambda>") ps')->S8 P H1 H2->∃kz:LD,kz.length=ns.length /\
  (∀(i:Nat)n k,ns[i]?=U n->kz[i]?=U k->∀H3(R:VK),NV H2 H3->(∀H4,NV H3 H4->R (.int k) H4)->t (U (.str n)::pick src J) H3 R) /\
  ∀(ms:Mp)l H3,ms.Perm (kz.zip ns)->ms.Pairwise (λx y=>x.1<=y.1)->NV H2 H3->H3 l=Ah->Q (.ref l) (upd H3 l<|.lst<|ms.map λx=>V.str x.2)
def Aiu(X:Cx)(P:Ag)(lpos:CU)(src:LC)(t te:TE):TE:=λJ H Q=>te J H (sX X P lpos src t J Q)
def Acd{t:TE}{pos:CU}(hcode:X.env.code=.ref c)(C:EZ X.base c P)(hB:X.base.BuiltinsAt X.mg P)(hdef:HL params X.env=([],[]))(hbind:∀(u:Ai)(fd:CA),fd.params=params->fd.defaults=.none->fd.kwdefaults=.none->Ce fd #[[u],[]]=pure [(par,u)])(hkind:scope.kind=.function)(hco:scope.isCoroutine=An)(hgen:scope.isGenerator=An)(hcell:∀y∈scope.names,y.2≠.cell)(hpar:scope.names.lookup par=U .local)(hfr:∀y∈scope.names,y.2=.free->X.env.kindOf y.1=U .cell\/X.env.kindOf y.1=U .free)(caps:Qu X scope Nc src)(hroom:X.A.in1.in1.depth<CK)(hg:Gl X "sorted")(hm:X.mg "sorted"=Ah)(hc:X.calm=Af)(he:PE X e te)(hb:∀(q c':Ag)(s:Au)(H:Hp),PE (Wq X X.A.in1.in1 (X.env.qual++"<lambda>") scope (par::Nc) q (.ref c') s H) body t)(hs:AL [e] X.env=[(An,eval e X.env)]:=by rfl):
  PE X (.Call (.Name "sorted" p) [e] [#[U "key",.Lambda params body scope lpos,kpos]] pos) (Aiu X P lpos src t te):=by
 intro a s J H Q I h;refine CJ<|TL I hg hm Boot.b_sorted ?_ M5 M5;have pa:PA X [e] (gR te YX):=NU he N0 hs;have pk:PK X [#[U "key",.Lambda params body scope lpos,kpos]] (gR (Ait X P params body scope lpos) YX):=uZ (Ab8 hcode C hB hdef hfr) Ack;refine callWith_kw (OG (pa pos a s J H (Akl<|sX X P lpos src t J Q) I h) λus s1⟨j,G,V,T,B⟩=>?_) (by rw[hs];rfl) (by rw[hs];rfl) Y Y;obtain⟨x,rfl,d,N,ns,O,hx,F,K,y0,L,hT,k⟩:∃x,j=[x]/\sX X P lpos src t J Q x G:=by
  match j,B with
  |[x],B=>exact#[x,Y,B]
 subst O;let(u,rfl,j0):=vals1 T;cases j0;refine OG (pk pos a s1 J G (λj f=>∃q c' b,j=[.ref q]/\(∃ps',f P=U (.RQ ps')/\RI f lpos (X.env.qual++"<lambda>") ps')/\S8 P G f/\f q=U (FO q (X.env.qual++"<lambda>") params body scope (OI X.env.cells scope.names []) ((X.mg "__name__").getD .none) c' b)/\f c'=U (Adl c'<|X.env.qual++"<lambda>")) V
  #[y0,L,hT,λq c' b f g o _ h1 S=>#[q,c',b,Y,g,o,h1,S]]) λws s2⟨zs,f,I2,r2,q,c',b,ez,g,o,Z,v⟩=>?_
 subst ez;let(w,rfl,r):=vals1 r2;cases r;let(kz,D,u3,kk):=k f g o;refine AcV hc (o.rd L (λ_ z=>by cases z) hx) F K D (λi n m hn hm a s H u I E j0=>?_) I2 λM l W a1 a2 a3 a4=>kk M l W a1 a2 a3 a4
 exact xT I hc (E _ _ Z) (E _ _ v) hbind hkind hco hgen hcell hpar hfr caps hroom j0 (λs H=>hb q c' s H) (u3 i n m hn hm H _ E λH4 R=>#[R,Y])
end
def gY(ts:Lv)(h:BO):Prop:=∀P∈ts,h.get? P=U (HN #[])/\isCodeTable h P
def Ai5(ts:Lv)(H:Hp):Prop:=∀b,H b=Ah\/(b∈ts/\H b=U (.RQ #[]))\/∃o xs,H b=U (.Rg o<|.lst xs)
def xU{K:Ab}{k:Nat}(KX:K.In s₁.heap)(hns:s₁.heap.Ns AJ mg)(hb:s₁.heap.Ns Fo mb)(hbb:∀x:AA,x≠"__name__"->mb x=BD x)(hlim:s₁.heap.NoLimit)(hg:s₁.gens=#[])(hbm:∃bm ob,mg "__builtins__"=U (.ref bm)/\bm≠Fo/\s₁.heap.get? bm=U ob/\ob.cls=.type "module"/\ob.dict=U Fo/\ob.data=.plain)(hT:gY ts s₁.heap)(hKt:∀P∈ts,K.lookup P=Ah)(ha:s₁.heap.get? a=U {cls:=.type "list",data:=.seq vs.toArray})(hi:CG vs ns)(hl:ns.length<=sizeLine)(hr:N8 k GC)(F:∀base:BO,K.In base->base.Ns AJ mg->(∀P∈ts,base.BuiltinsAt mg P)->Si P w K mg base CX k fa fd [x] sp)(hbind:∀(s:Au)(u:Ai),HB s fd #[[u],[]] [(x,u)])(hsp:∀H:Hp,(∀P∈ts,H P=U (.RQ #[]))->Pb K H a (ns.map V.int)->sp [.ref a] H (λv _=>v=.bl Af) λ_ _ _=>False)(hCX:∀H e s',CX [] H s₁ (λ_ _ _=>False) e s'->False):
  EU (A9 P w) GC (.call (.ref fa) #[[.ref a],[]]) (λr s'=>r=.ok (.ret<|.bool Af)/\OldK s₁.heap s'.heap/\s'.os=s₁.os/\Fs s'.gens) s₁:=by
 have Q:=XW hi;have C:=hi.length;have y:a∉ts:=λz=>by
  have e:=(hT a z).1;rw[ha]at e;cases e
 have j:∀H:Hp,(∀P∈ts,H P=U (.RQ #[]))->Ai5 ts H->Pb K H a (ns.map V.int)->VZ P w H s₁.heap->(∀b,H b≠Ah->b=a\/b∈ts)->(H a≠Ah->K.lookup a=Ah) ->
   EU (A9 P w) GC (.call (.ref fa) #[[.ref a],[]]) (λr s'=>r=.ok (.ret<|.bool Af)/\OldK s₁.heap s'.heap/\s'.os=s₁.os/\Fs s'.gens) s₁:=by
  intro H hH hO hS T R hK;have n:∀{b:Ag}{o:CL},s₁.heap.get? b=U o->o≠HN #[]->o≠{cls:=.type "list",data:=.seq _}->H b=Ah:=λ{b o}e n1 n2=>by
   cases q:H b with
   |none=>rfl
   |some u=>
     rcases R b (by rw[q];simp)with rfl|z
     ·rw[ha]at e;cases e;exact absurd Y n2
     ·rw[(hT b z).1]at e;cases e;exact absurd Y n1
  have g:∀{b:Ag}{m:AA->LH},s₁.heap.Ns b m->(rA _ H).Ns b m:=λ{b m}⟨o,u3,W,e,d,r⟩=>
   #[o,u3,W,ZN e<|n e (λz=>by rw[z]at d;cases d) (λz=>by rw[z]at d;cases d),d,r]
  have E:K.In (rA _ H):=λb o e=>ZN (KX b o e) (by
   cases q:H b with
   |none=>rfl
   |some u=>
     rcases R b (by rw[q];simp)with rfl|z
     ·rw[hK (by rw[q];simp)]at e;cases e
     ·rw[hKt b z]at e;cases e)
  have Z:Mod K mg _:=#[E,g hns,#[mb,g hb,hbb],let#[mc,h1,h2]:=hlim;#[mc,g h1,h2]];have N:∀P∈ts,(rA _ H).BuiltinsAt mg P:=λP D=>by
   let(bm,ob,a1,a2,B,S,a5,p):=hbm;refine#[bm,ob,a1,a2,λz=>?_,λz=>?_,ZN B (n B (λz=>by rw[z]at p;cases p) λz=>by rw[z]at p;cases p),S,a5,p]
   ·let(o,u3,W,e,d,_):=hns;rw[<-z,B]at e;cases e;rw[p]at d;cases d
   ·rw[z,(hT P D).1]at B;cases B;cases S
  have X:bW P w K mg _ GC [] s₁ H:=#[Y,Z,λb o e=>AeE e,F8<|xH _ _,trivial,λb hb=>absurd (show b∈([])from hb) M8,T,.of_eq hg];refine GB ((F _ E (g hns) N).run GC [] s₁ H _ _ [.ref a] _ _ hr X (hbind s₁ _) (.cons Y .nil) (hsp H hH hS)) λr s' h=>?_
  cases r with
  |error e=>exact(hCX H e s' h).elim
  |ok fl=>
    cases fl with
    |next=>exact CD h
    |brk=>exact CD h
    |cont=>exact CD h
    |ret u=>
      let(v,H',os,A,I,l,y0,q):=h;have q':=q;subst q';obtain rfl:u=GF Af:=y0;refine#[Y,#[λb o e=>?_,λb o e=>I.there b o e M8],os,A];rcases hO b with z|⟨O,M⟩|⟨ob,xs,z⟩
      ·exact .inl<|I.keep b o e z (by intro z;exact absurd (show b∈([])from z) M8) M8
      ·let(t,z3):=I.WU b _ M;have j0:=l b _ z3;have G:=(hT b O).1;rw[e]at G;cases G;exact .inr<|.inl #[(hT b O).2,Y,#[],t,Y,j0]
      ·have M:=I.VE b ob _ z;let(j0,_):=T b _ z;let(G,_):=l b _ M;rw[e]at j0;cases j0;exact .inl G
 have f:∀(H:Hp)b,b∈ts->Oy P w H _ b (.RQ #[]):=λH b z=>(hT b z).1
 cases L:K.lookup a with
 |some o=>
   have e:=KX a o L;rw[ha]at e;cases e;refine j (λb=>if b∈ts then U _ else Ah) (λP D=>AG D) (λb=>?_) (.inr #[_,vs.toArray,_,L,Y,Y,Y,by rw[Aq,C];exact hl,by simpa using Q]) (λb u z=>?_) (λb z=>?_) λz=>absurd (Ay y) z
   ·by_cases hb:b∈ts
    ·exact .inr<|.inl #[hb,AG hb]
    ·exact .inl<|Ay hb
   ·by_cases hb:b∈ts
    ·have i:=(AG hb).symm.trans z;cases i;exact f _ b hb
    ·have i:=(Ay hb).symm.trans z;cases i
   ·by_cases hb:b∈ts
    ·exact .inr hb
    ·exact absurd (Ay hb) z
 |none=>
   refine j (λb=>if b∈ts then U _ else if b=a then U (.Rg {cls:=.type "list",data:=.seq vs.toArray} _)else Ah) (λP D=>AG D) (λb=>?_)
    (.inl<|.inr #[{cls:=.type "list",data:=.seq _},(Ay y).trans (AG Y)]) (λb u z=>?_) (λb z=>?_) λ_=>L
   ·by_cases hb:b∈ts
    ·exact .inr<|.inl #[hb,AG hb]
    ·by_cases c:b=a
     ·exact .inr<|.inr #[_,_,(Ay hb).trans (AG c)]
     ·exact .inl<|(Ay hb).trans (Ay c)
   ·by_cases hb:b∈ts
    ·have i:=(AG hb).symm.trans z;cases i;exact f _ b hb
    ·by_cases c:b=a
     ·have i:=((Ay hb).trans (AG c)).symm.trans z;cases i;subst c;exact#[ha,by rw[Ac];exact hl,vs,_,Q,ha]
     ·have i:=((Ay hb).trans (Ay c)).symm.trans z;cases i
   ·by_cases hb:b∈ts
    ·exact .inr hb
    ·by_cases c:b=a
     ·exact .inl c
     ·exact absurd ((Ay hb).trans (Ay c)) z
def Adh{l:EC}{n k:Nat}{q:Bn}{loose:Lw}{XP:(AA->LH)->BO->Prop}{YP:Bw->BO->Prop}{d:DefRec}{K:Gi->Ab}{CX:Bw->AfF}{sp:Bw->Sp}{ts:Lv}(hn:l.most=U n)(hn2:n<=sizeLine)(hdf:d.params.defaults=[])(hr:N8 k GC)(hY:∀(w:Bw)(h:BO),YP w h->(K w.params).In h)(hT:∀(w:Bw)(h:BO),YP w h->gY ts h)(hKt:∀(w:Bw),∀P∈ts,(K w.params).lookup P=Ah)(F:∀(w:Bw)(mg:AA->LH)(fa:Ag)(h:BO),(K w.params).In h->h.Ns AJ mg->mg d.name=U (.ref fa) ->
   ∃fd:CA,(∀(s:Au)(u:Ai),HB s fd #[[u],[]] [(x,u)]) /\
    ∀base:BO,(K w.params).In base->base.Ns AJ mg->(∀P∈ts,base.BuiltinsAt mg P)->Si l.prog w (K w.params) mg base (CX w) k fa fd [x] (sp w))(hsp:∀(w:Bw)(H:Hp)(a:Ag)(ns:LD),ns.length<=n->(∀P∈ts,H P=U (.RQ #[]))->Pb (K w.params) H a (ns.map V.int)->sp w [.ref a] H (λv _=>v=.bl Af) λ_ _ _=>False)(hCX:∀(w:Bw)(H:Hp)(s:Au)(e:Ai)(s':Au),CX w [] H s (λ_ _ _=>False) e s'->False):
  Jf q loose XP YP l.row.toRowW d [] (λf vs=>Iz f vs):=by
 refine Att.mD hn hdf λw N C mg j0 fa o I M A a vs ns G y0 L E D m j i c t=>?_
 have p:=hY w _ y0;let(fd,r,z):=F w mg fa _ p G.T.g m;exact xU p G.T.g G.T.b G.T.builtins G.T.nolimit t G.T.bmain (hT w _ y0) (hKt w) j i (AS c hn2) hr z r (λH y B=>hsp w H a ns c y B) λH e s'=>hCX w H C e s'
def zW{K:Gi->Ab}{as:Lv}{e:∀P,as=(K P).map (·.1)}{ts:Lv}{w:Bw}{h:BO}(y0:(PySem.W.kmHook K as e ts).says w h)(cs:List (Ag×Ag))(hc:∀q∈cs,FN (K w.params) q.1 q.2=Af)(hm:∀q∈cs,q.2∈ts):gY (cs.map (·.2)) h:=λP d=>by
 let((c,f),a,rfl):=AR.mp d;have b:=Fc (PySem.W.km_in_of y0)<|hc _ a;have e:=PySem.W.km_tabs_of y0 f<|hm _ a;exact#[e,(b.tab e).isCodeTable]
structure Zm(K:Ab)(mg:AA->LH)(x:AA)(st:Bm)(ps:Lw)(c:Ag):Prop where
 ex:∃(f:Ag)(fd:CA),AfH K x x st f fd/\mg x=U (.ref f)/\Binds K fd ps []/\fd.code=.ref c
section
variable{P:Bn}{w:Bw}{K:Ab}{mg:AA->LH}{base:BO}
def Zm.has{st:Bm}{k:Nat}(d:Zm K mg x st ps c)(S:O0 N ps (NM st))(hbody:∀(f:Ag)(A:BQ)(outer:LU)(s:Au)(H:Hp)(vs:Lx)(Q:VK)(E:XK),N8 k (A.deeper<|D0 x (NM st) s.heap.objs.size f<|.ref c)->sp vs H Q E ->
   ∃t,Q6 (Yt qB P w K mg base N x (NM st) f (.ref c) A outer s H E).AbK (NY st) t/\t {nx:=λ_ H'=>Q .Of H',rt:=Q} (start N vs) H)(len:∀vs H Q E,sp vs H Q E->vs.length=ps.length:=by walk_at"l"):tL P w K mg base (k+1) x ps sp:=by
 let(f,B,F,l,v,y):=d.ex;let(u,o,D,r,C,z,j,G,g,e,i,b):=F.ex;subst e;have m:=y;subst m;refine#[f,_,AfY i b S len λA outer s H vs Q E p a=>?_,l,F.kp,v,u,o,g,i];let(t,h,q):=hbody f A outer s H vs Q E p a;exact#[t,h.AbK,q]
def xA{st:Bm}{f:Ag}{kV:Ai}(X:K.In h)(G:h.Ns AJ mg)(a:A4 K AJ x=U (U<|.ref f))(l:K.lookup f=U #[oc,od,.func<|Bu x x (Om st) (NY st) (NM st) .none kV doc pm an (.ref c) ct,osl])(cc:DC K (.ref c) x=Af)(k:By K (.ref f)=Af)(b:∀(kV doc pm:Ai)(an:LO)(cdv ct:Ai)(us:LB),us.length=ps.length->Ce (Bu x x (Om st) (NY st) (NM st) .none kV doc pm an cdv ct) #[us,[]]=pure (ps.zip us)):Zm K mg x st ps c:=#[f,_,Xk l cc k,Bj X G a,(Xk l cc k).binds b,Y]
end
def N8.AmF{k:Nat}(r:N8 (k+1) A)(env:Hu):N8 k (A.in1.deeper env):=#[r.hd,by have:=r.dp;show A.depth+1+3*k+5<_;omega,by have:=r.un;show A.units+1+3+16*k+200<_;omega]
def N8.AmG{k:Nat}(r:N8 (k+1) A)(env:Hu):N8 k (A.in1.in1.deeper env):=#[r.hd,by have:=r.dp;show A.depth+1+3*k+5<_;omega,by have:=r.un;show A.units+1+1+3+16*k+200<_;omega]
def AkH{k:Nat}(r:N8 k A):A.in1.depth<CK:=by have:=r.dp;show A.depth<_;omega
def AkI{k:Nat}(r:N8 k A):A.in1.in1.depth<CK:=by have:=r.dp;show A.depth<_;omega
def Ak2{k:Nat}(r:N8 k A):A.in1.units<Cd:=by have:=r.un;show A.units+1<_;omega
structure OH(H H':Hp):Prop where
 keep:∀b u,(∀ps,u≠.RQ ps)->H b=U u->H' b=U u
 tabs:∀b ps,H b=U (.RQ ps)->∃qs,H' b=U (.RQ qs)
section
variable{H H1 H2 H':Hp}
def NV.n(s:NV H H'):OH H H':=#[λb u _ e=>s b u e,λb a e=>#[a,s b _ e]]
def S8.n(s:S8 P H H')(hP:H P=U (.RQ ps))(hP':∃qs,H' P=U (.RQ qs)):OH H H':=by
 refine#[λb u c e=>s b u (λz=>?_) e,λb qs e=>?_]
 ·rw[z,hP]at e;cases e;exact c _ Y
 ·by_cases a:b=P
  ·rw[a];exact hP'
  ·exact#[qs,s b _ a e]
def OH.trans(s:OH H H1)(t:OH H1 H2):OH H H2:=#[λb u a e=>t.keep b u a<|s.keep b u a e,λb d e=>by
 let(f,c):=s.tabs b d e;exact t.tabs b f c]
def OH.free(s:OH H H')(h:H' a=Ah):H a=Ah:=by
 cases e:H a with
 |none=>rfl
 |some u=>
   by_cases c:∃b,u=.RQ b
   ·let(b,rfl):=c;let(f,d):=s.tabs a b e;rw[h]at d;cases d
   ·have:=s.keep a u (λb z=>c #[b,z]) e;rw[h]at this;cases this
def OH.upd(s:OH H H1)(n:H1 p=Ah):OH H (upd H1 p o):=s.trans (((NV.refl H1).upd n).n)
def OH.Ak3(s:OH H H1)(n:H p=Ah):OH H (L2.upd H1 p o):=#[λb u c e=>by
 rw[NN<|NZ e n];exact s.keep b u c e,λb d e=>by
 let(f,a):=s.tabs b d e;exact#[f,by rw[NN<|NZ e n];exact a]]
def OH.lst(s:OH H H'){a:Ag}{xs:Lx}(h:H a=U (.lst xs)):H' a=U (.lst xs):=s.keep a _ (λ_ z=>by cases z) h
def OH.dk(s:OH H H')(h:H a=U (.dK xs)):H' a=U (.dK xs):=s.keep a _ (λ_ z=>by cases z) h
def OH.rd(s:OH H H')(hu:∀ps,u≠.RQ ps)(h:Rd H a u):Rd H' a u:=by
 rcases h with h|⟨o,h⟩
 ·exact .inl<|s.keep a u hu h
 ·exact .inr #[o,s.keep a _ (λ_ z=>by cases z) h]
def OH.AcT{K:Ab}(s:OH H H')(h:P5 K H l xs):P5 K H' l xs:=by
 rcases h with h|h
 ·exact .inl<|s.rd (λ_ z=>by cases z) h
 ·exact .inr h
end
def Tab(P:Ag)(pos:CU)(q:AA)(H:Hp):Prop:=∃ps,H P=U (.RQ ps)/\RI H pos q ps
def RI.n{pos:CU}(s:OH H H')(h:RI H pos q ps):RI H' pos q ps:=by
 rcases h with h|⟨c,a,b⟩
 ·exact .inl h
 ·exact .inr #[c,a,s.keep _ _ (λ_ z=>by cases z) b]
def Tab.same{pos:CU}(s:NV H H')(h:Tab P pos q H):Tab P pos q H':=by let(c,a,b):=h;exact#[c,s _ _ a,b.n s.n]
def Tab.upd{pos:CU}(h:Tab P pos q H)(ha:H a=U o)(n1:∀ps,o≠.RQ ps)(n2:∀c,o≠Adl c q):Tab P pos q (upd H a o'):=by
 let(ps,d,b):=h;refine#[ps,by rw[NN λz=>by rw[z,ha]at d;cases d;exact n1 _ Y];exact d,?_];rcases b with b|⟨c,b,e⟩
 ·exact .inl b
 ·exact .inr #[c,b,by rw[NN λz=>by rw[z,ha]at e;cases e;exact n2 _ Y];exact e]
def Tab.AfA{pos:CU}(h:Tab P pos q H)(ha:H a=U (.lst xs)):Tab P pos q (L2.upd H a o'):=h.upd ha (λ_ z=>by cases z) λc z=>by cases z
def Tab.one{pos:CU}(h:H P=U (.RQ #[])):Tab P pos q H:=#[_,h,.inl Y]
section
variable{X:Cx}
def AcD:V->Lx->Hp->VK->Prop:=λx vs H Q=>∃(l:Ag)(ns:Lw)(z:AA)(k:Nat),x=.ref l/\vs=[.str z]/\H l=U (.lst<|ns.map V.str)/\ns[k]?=U z/\(∀j,j<k->ns[j]?≠U z)/\Q .Of (upd H l<|.lst<|(ns.eraseIdx k).map V.str)
def rS:Ady X "list.remove" AcD:=by
 intro A s J H x P v S Q I L E h;let(l,b,z,k,rfl,rfl,w,p,M,q):=h;cases L;let(u,rfl,N):=E.one;let(t,rfl):=N;let(D,a,n,r,o,e):=I.Aes w;have O:Kb a b:=SX r;have o:b.length=a.length:=by simpa using o
 have B:k<b.length:=(Av.mp p).1;have G:a.length<=sizeLine:=by rw[<-o];simpa using D
 have d:∀m(i:m<a.toArray.size),∃y g,b[m]?=U y/\a.toArray[m]=.str y g:=λm i=>by
  have C:m<a.length:=by simpa using i
  let(R,c,g,rfl):=r.get (x:=.str b[m]) (by rw[Aj,Ae _];rfl);refine#[b[m],g,Ae M6,?_];have f:=(Av.mp c).2;simpa using f
 refine DZ F.slot_list_remove #[_,e,Y] F.entry_list_remove (F.args_list_remove_2 _ _)
  (MeetsSeq.list_remove l _ n _ (isStrOf z) (λy K=>eq_isStrOf z t O y<|by simpa using K) k (by rw[Aq];omega) ?_ ?_ (by rw[Aq];exact G)) #[e,?_]
 ·let(y,g,c,f):=d k (by rw[Aq];omega);rw[p]at c;cases c;rw[f];unfold isStrOf;simp
 ·intro m i j;let(y,g,c,f):=d m i;rw[f];have:=M m j;rw[c]at this;unfold isStrOf;simpa usingλq=>this (by rw[q])
 ·refine #[.Of,_,I.Aer (its':=a.eraseIdx k) w e ?_ ?_ ?_,Y,q]
  ·show a.toArray.eraseIdxIfInBounds k=(a.eraseIdx k).toArray;rw[D5]
  ·have j0:(b.eraseIdx k).map V.str=(b.map V.str).eraseIdx k:=by
    rw[CT,CT,Bi,JM,JN]
   rw[j0];exact r.eraseIdx k
  ·rw[Ac,List.length_eraseIdx];split<;>omega
end
section
open PySem.W
structure wH(P:Bn)(w:Bw)(K:Ab)(mg:AA->LH)(base:BO)(k:Nat)(C:Ag)(m:AA)(ps:Lw)(sp:Sp):Prop where
 ex:∃(f:Ag)(fd:CA),Si P w K mg base qB k f fd ps sp/\Meth K C m f/\Binds K fd ps []/\Xf K C
structure tM(P:Bn)(w:Bw)(K:Ab)(mg:AA->LH)(base:BO)(k:Nat)(x:AA)(C:Ag)(ps:Lw)(sp:Sp):Prop where
 ex:∃(f:Ag)(fd:CA),Si P w K mg base qB k f fd ps sp/\Mk K C f/\Binds K fd ps []/\mg x=U (.ref C)
section
variable{P:Bn}{w:Bw}{K:Ab}{mg:AA->LH}{base:BO}
def Xg.AgX{st:Bm}{f:Ag}{k:Nat}(d:Xg K C m qual st ps f)(M:Meth K C m f)(c:Xf K C)(S:O0 N ps (NM st))(hbody:∀(cdv:Ai)(A:BQ)(outer:LU)(s:Au)(H:Hp)(vs:Lx)(Q:VK)(E:XK),N8 k (A.deeper<|D0 qual (NM st) s.heap.objs.size f cdv)->sp vs H Q E ->
   ∃t,Q6 (Yt qB P w K mg base N qual (NM st) f cdv A outer s H E).AbK (NY st) t/\t {nx:=λ_ H'=>Q .Of H',rt:=Q} (start N vs) H)(len:∀vs H Q E,sp vs H Q E->vs.length=ps.length:=by walk_at"l"):wH P w K mg base (k+1) C m ps sp:=by
 let(a,F,b):=d.ex;exact#[f,a,F.ok S len hbody,M,b,c]
def Xg.AjE{st:Bm}{f:Ag}{k:Nat}(d:Xg K C "__init__" qual st ps f)(M:Mk K C f)(hx:mg x=U (.ref C))(S:O0 N ps (NM st))(hbody:∀(cdv:Ai)(A:BQ)(outer:LU)(s:Au)(H:Hp)(vs:Lx)(Q:VK)(E:XK),N8 k (A.deeper<|D0 qual (NM st) s.heap.objs.size f cdv)->sp vs H Q E ->
   ∃t,Q6 (Yt qB P w K mg base N qual (NM st) f cdv A outer s H E).AbK (NY st) t/\t {nx:=λ_ H'=>Q .Of H',rt:=Q} (start N vs) H)(len:∀vs H Q E,sp vs H Q E->vs.length=ps.length:=by walk_at"l"):tM P w K mg base (k+1) x C ps sp:=by
 let(a,F,b):=d.ex;exact#[f,a,F.ok S len hbody,M,b,hx]
end
section
variable{X:Cx}{k:Nat}{C:Ag}{x m:AA}{ps:Lw}{sp:Sp}{p pos apos:CU}{o e:Expr}{es:LJ}{ta:TE}{t:TA}
def AeV{pl:IK Bool}{n:Nat}(u3:wH X.prog X.w X.K X.mg X.base k C m ps sp)(hr:N8 n X.A)(he:PE X o ta)(ha:PA X (e::es) t)(hst:AL (e::es) X.env=(An,eval e X.env)::AL es X.env:=by rfl)(hpl:(Ca pos<|AL es X.env).any (·.1)=An:=by rfl)(ht:eval (.Call (.Attribute o m apos) (e::es) [] pos) X.env=(do
   let ov <-eval o X.env
   standAt apos.atName
   let(f,first) <-holding [ov] (getMethod ov m pl)
   E9 pos f first (Ca pos<|AL (e::es) X.env) (Dw pos<|Cp [] X.env)):=by rfl)(hn:k<=n:=by decide):
  PE X (.Call (.Attribute o m apos) (e::es) [] pos) (bC C m sp [] E0 ta t):=by
 let(f,b,F,M,a,c):=u3.ex;exact AeS he c M F (hr.mono hn) a .nil oP ha hst hpl ht
def Acf{pl:IK Bool}{n:Nat}(u3:wH X.prog X.w X.K X.mg X.base k C m ps sp)(hr:N8 n X.A)(he:PE X o ta)(ht:eval (.Call (.Attribute o m apos) [] [] pos) X.env=(do
   let ov <-eval o X.env
   standAt apos.atName
   let(f,first) <-holding [ov] (getMethod ov m pl)
   E9 pos f first (Ca pos<|AL [] X.env) (Dw pos<|Cp [] X.env)):=by rfl)(hn:k<=n:=by decide):
  PE X (.Call (.Attribute o m apos) [] [] pos) (bC C m sp [] E0 ta YX):=by
 let(f,b,F,M,a,c):=u3.ex;exact Aca he c M F (hr.mono hn) a .nil oP ht
def yR{n:Nat}(u3:tM X.prog X.w X.K X.mg X.base k x C ps sp)(hr:N8 n X.A)(hdb:(x==("__debug__":AA))=An:=by decide)(hn:k+1<=n:=by decide)(hg:Gl X x:=by rfl):PE X (.Call (.Name x p) [] [] pos) (pT C sp [] E0 YX):=by let(f,c,F,M,a,b):=u3.ex;exact Ab9 M F (hr.mono hn) hg b a .nil oP hdb
end
end
section
open PySem.W
end
def Alv(K:Ab)(m q:AA)(st:Bm)(f:Ag)(cd:Ai):Prop:=∃(oc:Ai)(od:LO)(kV doc pm:Ai)(an:LO)(ct:Ai)(osl:Mj),K.lookup f=U #[oc,od,.func<|Bu m q (Om st) (NY st) (NM st) .none kV doc pm an cd ct,osl]/\DC K cd q=Af/\By K (.ref f)=Af
def Ph(K:Ab)(x:AA)(st:Bm):Prop:=∃f cd,A4 K AJ x=U (U<|.ref f)/\Alv K x x st f cd
def eL(K:Ab)(x:AA)(st:Bm)(c:Ag):Prop:=∃f,A4 K AJ x=U (U<|.ref f)/\Alv K x x st f (.ref c)
def Ou(K:Ab)(C:Ag)(m q:AA)(st:Bm)(f:Ag):Prop:=∃cd,Cb K (.ref C) m=U (U<|.ref f)/\FA K (.ref f)=Af/\Alv K m q st f cd
section
variable{K:Ab}{mg:AA->LH}{h:BO}{x m q:AA}{st:Bm}{ps:Lw}{f C c:Ag}
def Ph.mk(X:K.In h)(G:h.Ns AJ mg)(d:Ph K x st)(b:∀(kV doc pm:Ai)(an:LO)(cdv ct:Ai)(us:LB),us.length=ps.length->Ce (Bu x x (Om st) (NY st) (NM st) .none kV doc pm an cdv ct) #[us,[]]=pure (ps.zip us)):tK K mg x st ps:=by let(f,e,a,_,_,_,_,_,_,_,_,l,c,k):=d;exact AaF X G a l c k b
def eL.mk(X:K.In h)(G:h.Ns AJ mg)(d:eL K x st c)(b:∀(kV doc pm:Ai)(an:LO)(cdv ct:Ai)(us:LB),us.length=ps.length->Ce (Bu x x (Om st) (NY st) (NM st) .none kV doc pm an cdv ct) #[us,[]]=pure (ps.zip us)):Zm K mg x st ps c:=by let(f,a,_,_,_,_,_,_,_,_,l,c,k):=d;exact xA X G a l c k b
def Ou.mk(d:Ou K C m q st f)(b:∀(kV doc pm:Ai)(an:LO)(cdv ct:Ai)(us:LB),us.length=ps.length->Ce (Bu m q (Om st) (NY st) (NM st) .none kV doc pm an cdv ct) #[us,[]]=pure (ps.zip us)):Xg K C m q st ps f:=by let(a,_,_,_,_,_,_,_,_,_,_,l,c,k):=d;exact yA l c k b
def Ou.me(d:Ou K C m q st f):Meth K C m f:=by let(b,a,i,_,_,_,_,_,_,_,_,l,c,k):=d;exact#[a,i,k]
def Ou.AgX{base:BO}{k:Nat}(a:Ou K C m q st f)(c:Xf K C)(S:O0 N ps (NM st))(hbody:∀(cdv:Ai)(A:BQ)(outer:LU)(s:Au)(H:Hp)(vs:Lx)(Q:VK)(E:XK),N8 k (A.deeper<|D0 q (NM st) s.heap.objs.size f cdv)->sp vs H Q E ->
   ∃t,Q6 (Yt qB P w K mg base N q (NM st) f cdv A outer s H E).AbK (NY st) t/\t {nx:=λ_ H'=>Q .Of H',rt:=Q} (start N vs) H)(b:∀(kV doc pm:Ai)(an:LO)(cdv ct:Ai)(us:LB),us.length=ps.length->Ce (Bu m q (Om st) (NY st) (NM st) .none kV doc pm an cdv ct) #[us,[]]=pure (ps.zip us):=by walk_at"b")(len:∀vs H Q E,sp vs H Q E->vs.length=ps.length:=by walk_at"l"):wH P w K mg base (k+1) C m ps sp:=(a.mk b).AgX a.me c S hbody len
def Ou.Aos(d:Ou K C "__init__" q st f)(mk:BY K C=Af)(kp:By K (.ref C)=Af):Mk K C f:=by let(b,a,i,_):=d;exact#[mk,a,i,kp]
end
abbrev Ald:=Nat×Nat×Nat
def hi(b c:Nat):LP:=(Ba c).filter λh=>decide (Gj ((b:Nat):Int) ((2 ^ h:Nat):Int)≠0)
def so(c m:Nat):LP:=(Ba<|2 ^ c).filter λb=>decide ((hi b c).length=m)
def ta(a b:Nat):Bool:=decide (Gj ((a:Nat):Int) ((b:Nat):Int)=0)
def w2(c r a b:Nat):List Ald:=if ta a b=Af then(so c r).map λh=>(a,b,h)else[]
def w1(c r a:Nat):List Ald:=(Ba<|2 ^ c).flatMap (w2 c r a)
def W(c r w:Nat):List Ald:=(so c w).flatMap (w1 c r)
def mi(t:Ald):Bool:=decide (Gj ((t.2.2:Nat):Int) (C3.bitOr ((t.1:Nat):Int) ((t.2.1:Nat):Int))=0)
structure Md where
 P:Bn
 w:Bw
 mg:AA->LH
 base:BO
structure Fm where
 f:Ag
 cd:Ai
 A:BQ
 o:LU
 s:Au
 E:XK
def cN(M:Md)(K:Ab)(N:Lw)(q:AA)(sc:Scope)(φ:Fm)(H:Hp):Cx:=(Yt qB M.P M.w K M.mg M.base N q sc φ.f φ.cd φ.A φ.o φ.s H φ.E).AbK
instance {K:Ab}:N3 (cN M K N q sc φ H) K H:=#[Y,Y]
def Rm(k:Nat)(N:Lw)(q:AA)(sc:Scope)(φ:Fm):Prop:=N8 k (φ.A.deeper<|D0 q sc φ.s.heap.objs.size φ.f φ.cd)/\N.Nodup
class Qx(X:Cx)(M:outParam Md):Prop where
 p:X.prog=M.P
 w:X.w=M.w
 g:X.mg=M.mg
 b:X.base=M.base
instance {K:Ab}:Qx (cN M K N q sc φ H) M:=#[Y,Y,Y,Y]
instance {X:Cx} {scope:Scope} {Nc:Lw} {fp:Lv} {s:Au} {H:Hp} {M:Md} [h:Qx X M]:Qx (Oo X scope Nc fp s H) M:=#[h.p,h.w,h.g,h.b]
class U1(X:Cx):Prop where
 p:IL (A9 X.prog X.w) X.A X.env X.xe
 c:X.calm=Af
instance {K:Ab}:U1 (cN M K N q sc φ H):=#[IL.never,Y]
abbrev fin(Q:VK):Ends:={nx:=λ_ H'=>Q .Of H',rt:=Q}
abbrev fZ:Nat->St
 |0=>[]
 |n+1=>Ah::fZ n
abbrev vO:Lx->Nat->St
 |[],n=>fZ n
 |v::vs,0=>U v::vO vs 0
 |v::vs,n+1=>U v::vO vs n
def oG:∀n,fZ n=En n Ah
 |0=>rfl
 | n+1=>by
   show Ah::fZ n=_;rw[oG n];rfl
def Uk{N:Lw}{vs:Lx}{n:Nat}(e:N.length=n):start N vs=vO vs n:=by
 suffices h:∀(vs:Lx)(n:Nat),vs.map U++En (n-vs.length) Ah=vO vs n by rw[<-e];exact h _ _
 intro vs;induction vs with
 |nil=>intro n;exact(oG n).symm
 |cons v vs ih=>
   intro n;cases n with
   |zero=>
     have:=ih 0;rw[Kn]at this;show U v::(vs.map U++En _ Ah)=U v::vO vs 0
     rw[Kn,this]
   |succ n=>
     show U v::(vs.map U++En (n+1-(vs.length+1)) Ah)=U v::vO vs n
     rw[Nat.add_sub_add_right,ih n]
section
variable(M:Md)(K:Ab)(k:Nat)
def Hf(x:AA)(sp:Sp):Prop:=∃ps,tL M.P M.w K M.mg M.base k x ps sp
def Hm(C:Ag)(m:AA)(sp:Sp):Prop:=∃ps,wH M.P M.w K M.mg M.base k C m ps sp
def Hk(x:AA)(C:Ag)(sp:Sp):Prop:=∃ps,tM M.P M.w K M.mg M.base k x C ps sp
end
section
variable{M:Md}{K:Ab}{k n:Nat}{N:Lw}{q x m:AA}{st:Bm}{sp:Sp}{C:Ag}
def hf(p n:Nat){t:Hp->TS}(d:∃X:BO,K.In X/\X.Ns AJ M.mg)(a:Ph K x st)(kt:∀φ H,Rm k N x (NM st) φ->Q6 (cN M K N x (NM st) φ H) (NY st) (t H))(rd:∀vs H Q E,sp vs H Q E->t H (fin Q) (vO vs n) H)(S:O0 N (N.take p) (NM st):=by walk_at"s")(b:∀(kV doc pm:Ai)(an:LO)(cdv ct:Ai)(us:LB),us.length=(N.take p).length->Ce (Bu x x (Om st) (NY st) (NM st) .none kV doc pm an cdv ct) #[us,[]]=pure ((N.take p).zip us):=by walk_at"b")(len:∀vs H Q E,sp vs H Q E->vs.length=(N.take p).length:=by walk_at"l")(hn:N.length=n:=by rfl):Hf M K (k+1) x sp:=by let(X,c,g):=d;exact#[_,(a.mk c g b).has S (λf i A o s H vs Q E e h=>#[_,kt #[f,i,A,o,s,E] H #[e,S.nd],by rw[Uk hn];exact rd vs H Q E h]) len]
def An6(p n:Nat){t:Hp->TS}(d:∃X:BO,K.In X/\X.Ns AJ M.mg)(a:Ph K x st)(kt:∀φ H,Rm k N x (NM st) φ->Q6 (cN M K N x (NM st) φ H) (NY st) (t H))(rd:∀vs H Q E,sp vs H Q E->t H (fin Q) (vO vs n) H)(S:O0 N (N.take p) (NM st):=by walk_at"s")(b:∀(kV doc pm:Ai)(an:LO)(cdv ct:Ai)(us:LB),us.length=(N.take p).length->Ce (Bu x x (Om st) (NY st) (NM st) .none kV doc pm an cdv ct) #[us,[]]=pure ((N.take p).zip us):=by walk_at"b")(len:∀vs H Q E,sp vs H Q E->vs.length=(N.take p).length:=by walk_at"l")(hn:N.length=n:=by rfl):tL M.P M.w K M.mg M.base (k+1) x (N.take p) sp:=by let(X,c,g):=d;exact(a.mk c g b).has S (λf i A o s H vs Q E e h=>#[_,kt #[f,i,A,o,s,E] H #[e,S.nd],by rw[Uk hn];exact rd vs H Q E h]) len
def hm(p n:Nat){t:Hp->TS}(a:∃f,Ou K C m q st f)(c:Xf K C)(kt:∀φ H,Rm k N q (NM st) φ->Q6 (cN M K N q (NM st) φ H) (NY st) (t H))(rd:∀vs H Q E,sp vs H Q E->t H (fin Q) (vO vs n) H)(S:O0 N (N.take p) (NM st):=by walk_at"s")(b:∀(kV doc pm:Ai)(an:LO)(cdv ct:Ai)(us:LB),us.length=(N.take p).length->Ce (Bu m q (Om st) (NY st) (NM st) .none kV doc pm an cdv ct) #[us,[]]=pure ((N.take p).zip us):=by walk_at"b")(len:∀vs H Q E,sp vs H Q E->vs.length=(N.take p).length:=by walk_at"l")(hn:N.length=n:=by rfl):Hm M K (k+1) C m sp:=by let(f,a):=a;exact#[_,a.AgX c S (λe A o s H vs Q E d h=>#[_,kt #[f,e,A,o,s,E] H #[d,S.nd],by rw[Uk hn];exact rd vs H Q E h]) b len]
def hk(p n:Nat){t:Hp->TS}(a:∃f,Ou K C "__init__" q st f)(mk:BY K C=Af/\By K (.ref C)=Af)(hx:M.mg x=U (.ref C))(kt:∀φ H,Rm k N q (NM st) φ->Q6 (cN M K N q (NM st) φ H) (NY st) (t H))(rd:∀vs H Q E,sp vs H Q E->t H (fin Q) (vO vs n) H)(S:O0 N (N.take p) (NM st):=by walk_at"s")(b:∀(kV doc pm:Ai)(an:LO)(cdv ct:Ai)(us:LB),us.length=(N.take p).length->Ce (Bu "__init__" q (Om st) (NY st) (NM st) .none kV doc pm an cdv ct) #[us,[]]=pure ((N.take p).zip us):=by walk_at"b")(len:∀vs H Q E,sp vs H Q E->vs.length=(N.take p).length:=by walk_at"l")(hn:N.length=n:=by rfl):Hk M K (k+1) x C sp:=by let(f,a):=a;exact#[_,(a.mk b).AjE (a.Aos mk.1 mk.2) hx S (λd A o s H vs Q E c h=>#[_,kt #[f,d,A,o,s,E] H #[c,S.nd],by rw[Uk hn];exact rd vs H Q E h]) len]
end
section
variable{X:Cx}{M:Md}{K:Ab}{NR:Hp}{k n:Nat}{C:Ag}{x m:AA}{sp:Sp}{p pos apos:CU}{o e:Expr}{es:LJ}{ta:TE}{t:TA}
def Hf.at[h:Qx X M][g:N3 X K NR](u3:Hf M K k x sp):∃ps,tL X.prog X.w X.K X.mg X.base k x ps sp:=by rw[h.p,h.w,h.g,h.b,g.k];exact u3
def Hm.at[h:Qx X M][g:N3 X K NR](u3:Hm M K k C m sp):∃ps,wH X.prog X.w X.K X.mg X.base k C m ps sp:=by rw[h.p,h.w,h.g,h.b,g.k];exact u3
def Hk.at[h:Qx X M][g:N3 X K NR](u3:Hk M K k x C sp):∃ps,tM X.prog X.w X.K X.mg X.base k x C ps sp:=by rw[h.p,h.w,h.g,h.b,g.k];exact u3
def Qf[Qx X M][N3 X K NR](u3:Hf M K k x sp)(hr:N8 n X.A)(ha:PA X (e::es) t)(hdb:(x==("__debug__":AA))=An:=by decide)(he:AL (e::es) X.env=(An,eval e X.env)::AL es X.env:=by rfl)(hpl:(Ca pos<|AL es X.env).any (·.1)=An:=by rfl)(hn:k<=n:=by decide)(hg:Gl X x:=by rfl):PE X (.Call (.Name x p) (e::es) [] pos) (vS sp [] E0 t):=by let(a,u3):=u3.at (X:=X);exact AhQ u3 hr ha hdb he hpl hn hg
def Qm{pl:IK Bool}[Qx X M][N3 X K NR](u3:Hm M K k C m sp)(hr:N8 n X.A)(he:PE X o ta)(ha:PA X (e::es) t)(hst:AL (e::es) X.env=(An,eval e X.env)::AL es X.env:=by rfl)(hpl:(Ca pos<|AL es X.env).any (·.1)=An:=by rfl)(ht:eval (.Call (.Attribute o m apos) (e::es) [] pos) X.env=(do
   let ov <-eval o X.env
   standAt apos.atName
   let(f,first) <-holding [ov] (getMethod ov m pl)
   E9 pos f first (Ca pos<|AL (e::es) X.env) (Dw pos<|Cp [] X.env)):=by rfl)(hn:k<=n:=by decide):
  PE X (.Call (.Attribute o m apos) (e::es) [] pos) (bC C m sp [] E0 ta t):=by
 let(a,u3):=u3.at (X:=X);exact AeV u3 hr he ha hst hpl ht hn
def AnO{pl:IK Bool}[Qx X M][N3 X K NR](u3:Hm M K k C m sp)(hr:N8 n X.A)(he:PE X o ta)(ht:eval (.Call (.Attribute o m apos) [] [] pos) X.env=(do
   let ov <-eval o X.env
   standAt apos.atName
   let(f,first) <-holding [ov] (getMethod ov m pl)
   E9 pos f first (Ca pos<|AL [] X.env) (Dw pos<|Cp [] X.env)):=by rfl)(hn:k<=n:=by decide):
  PE X (.Call (.Attribute o m apos) [] [] pos) (bC C m sp [] E0 ta YX):=by
 let(a,u3):=u3.at (X:=X);exact Acf u3 hr he ht hn
def Qk[Qx X M][N3 X K NR](u3:Hk M K k x C sp)(hr:N8 n X.A)(ha:PA X (e::es) t)(hdb:(x==("__debug__":AA))=An:=by decide)(he:AL (e::es) X.env=(An,eval e X.env)::AL es X.env:=by rfl)(hpl:(Ca pos<|AL es X.env).any (·.1)=An:=by rfl)(hn:k+1<=n:=by decide)(hg:Gl X x:=by rfl):PE X (.Call (.Name x p) (e::es) [] pos) (pT C sp [] E0 t):=by
 let(d,u3):=u3.at (X:=X);let(f,c,F,M,b,a):=u3.ex;exact AeR M F (hr.mono hn) hg a b .nil oP ha hdb he hpl
def AnN[Qx X M][N3 X K NR](u3:Hk M K k x C sp)(hr:N8 n X.A)(hdb:(x==("__debug__":AA))=An:=by decide)(hn:k+1<=n:=by decide)(hg:Gl X x:=by rfl):PE X (.Call (.Name x p) [] [] pos) (pT C sp [] E0 YX):=by let(a,u3):=u3.at (X:=X);exact yR u3 hr hdb hn hg
end
section
variable{X:Cx}{n i:Nat}{x:AA}{o e f v:Expr}{td ty tx tv te:TE}{pos pos' apos cpos:CU}
def Qg(hr:N8 n X.A)(ho:PE X o td)(hi:PE X e ty)(hs:Adz e:=by exactλ_ _=>rfl):PE X (.Subscript o e pos) (Agt td ty):=AeO (fK hr) ho hi hs
def Qi(hr:N8 n X.A)(hi:PE X e ty)(ho:PE X o td):PC X .In e o (AkL ty td):=AhK (fK hr) hi ho
def AnP(hr:N8 n X.A)(hi:PE X e ty)(ho:PE X o td):PC X .NotIn e o (vT ty td):=yQ (fK hr) hi ho
def Qp(hr:N8 n X.A)(ho:PE X o td)(hi:PE X e ty)(hv:PE X v tv)(hs:swapsWith v (U<|.Subscript o e pos') pos.line X.env=pure An:=by rfl):PS X (.Assign [.Subscript o e pos'] v pos) (Agr td ty tv):=Ae7 (fK hr) ho hi hv hs
def AnM(hr:N8 n X.A)(ho:PE X o td)(he:PE X e ty)(hf:PE X f tx)(m:M2 X o "get" apos e f cpos:=by exact#[Y,Y,Y,Y]):PE X (.Call (.Attribute o "get" apos) [e,f] [] cpos) (Ac1 td ty tx):=Ab0 (fK hr) ho he hf m
def Qs(hN:X.N.Nodup)(i:Nat)(he:PE X e te)(hi:X.N[i]?=U x:=by rfl)(hx:Loc X.env.scope x:=by first|exact BK rfl|exact Ee Y)(hs:swapsWith e (U<|.Name x pos') pos.line X.env=pure An:=by rfl)(hf:X.fn x=Af\/X.env.scope.names.lookup x=U .local:=by first|exact .inl rfl|exact .inr rfl|assumption):PS X (.Assign [.Name x pos'] e pos) (Afw te<|U4 i):=Acr hN hi hx he hs hf
def Qn(hN:X.N.Nodup)(i:Nat)(hi:X.N[i]?=U x:=by rfl)(hx:Loc X.env.scope x:=by first|exact BK rfl|exact Ee Y)(hf:X.fn x=Af\/X.env.scope.names.lookup x=U .local:=by first|exact .inl rfl|exact .inr rfl|assumption):PG X (.Name x pos) (U4 i):=O2 hN hi hx hf
def Qr{tg iter:Expr}{body:LY}{wi:TI}{g:TG}{tb:TS}[h:U1 X](hi:PI X tg iter wi)(hg:PG X tg g)(hb:Q6 X body tb)(hs:∀x,BC iter X.env x=pure x:=by intro _;rfl):PS X (.For tg iter body [] pos) (AkP wi g tb):=AhZ h.p h.c hi hg hb hs
def Qw{c:Expr}{body:LY}{tc:TT}{tb:TS}[h:U1 X](hc:PT X c tc)(hb:Q6 X body tb):PS X (.While c body [] pos) (Ac3 tc tb):=Acs h.p hc hb
end
section
variable{X:Cx}{ta tb tc:TE}{tA tB':TT}{rest:LJ}{a b c e:Expr}{pos:CU}{r r':R2}{t u:TS}
def AbL{v:V}:∀{J:St}{i:Nat},J[i]?=U (U v)->Ahw J i=U v
 |_::_,0,h=>AK h
 |_::t,_+1,h=>AbL (J:=t) h
def Ake(i:Nat):TE:=λJ H Q=>∃v,J[i]?=U (U v)/\Q v H
def AeD(h:Ake i J H Q):Ac2 i J H Q:=by let(v,e,h):=h;show vQ _ Q H;rw[AbL e];exact h
def Pw(i:Nat){x:AA}{pos:CU}(hN:X.N[i]?=U x:=by rfl)(hv:Ai7 X.env.scope x:=by first|exact BK rfl|exact Ee (BK Y)|exact Ee<|Ee Y)(hd:(x==("__debug__":AA))=An:=by decide)(hcd:(x==("__classdict__":AA))=An:=by decide):PE X (.Name x pos) (Ake i):=λa s J H Q I h=>rY hN hv hd hcd a s J H Q I (AeD h)
def AbP{Q:Bool->Hp->Prop}:(λx H=>∃c,x=V.bl c/\Q c H)=nK Q:=funext λx=>funext λH=>propext #[λ⟨c,e,q⟩=>by subst e;exact q,VU]
def ic{F G:Hp->Prop}:(λ(c:Bool)(H:Hp)=>if c=Af then F H else G H)=λc H=>QT c (F H) (G H):=funext λc=>funext λH=>by cases c<;>rfl
def oB(t:TE):TT:=λJ H Q=>t J H λx H1=>∃c,x=.bl c/\Q c H1
def Agi{t:TE}:oB t=tB t:=funext λJ=>funext λH=>funext λQ=>congrArg _ AbP
def Afa{t:TE}(h:PE X e t)(he:∀whole,isTrue e X.env whole=(do let v <-whole;standAt e.pos;holding [v] (truthy v)):=by intro _;rfl):PT X e (oB t):=Agi▸Acw h he
def WB(ho:RU X (Be op) r)(ha:PE X a ta)(hb:PE X b tb)(hm:behindInMarks op b=An):PT X (.Compare a [op] [b] pos) (oB<|AiV r ta tb):=Agi▸vC ho ha hb hm
def Akc(t u:TT):TT:=λJ H Q=>t J H λc H1=>if c=Af then u J H1 Q else Q An H1
def AeB{t u:TT}:Akc t u=AkK t u:=funext λJ=>funext λH=>funext λQ=>congrArg _ ic
def Afg(ha:PT X a tA)(hb:PW X (.BoolOp .And (b::rest) pos) tB'):PW X (.BoolOp .And (a::b::rest) pos) (Akc tA tB'):=AeB▸AcB ha hb
def Agh(ta tb:TE):TE:=λJ H Q=>ta J H λx H1=>∃c,x=.bl c/\if c=Af then tb J H1 Q else Q (.bl An) H1
def Agj(ta:TE):TE:=λJ H Q=>ta J H λx H1=>∃c,x=.bl c/\Q (.bl<|!c) H1
def iT{F G:Hp->Prop}:(λ(x:V)(H:Hp)=>∃c,x=V.bl c/\if c=Af then F H else G H)=nK λc H=>QT c (F H) (G H):=by rw[<-ic];exact AbP
def AbM{ta tb:TE}:Agh ta tb=Ags ta tb:=funext λJ=>funext λH=>funext λQ=>congrArg _ iT
def AbO{ta:TE}:Agj ta=Agu ta:=funext λJ=>funext λH=>funext λQ=>congrArg _ AbP
def UK(ha:PE X a ta)(hb:PE X (.BoolOp .And (b::rest) pos) tb):PE X (.BoolOp .And (a::b::rest) pos) (Agh ta tb):=AbM▸AbZ ha hb
def AeU(ha:PE X a ta):PE X (.UnaryOp .Not a pos) (Agj ta):=AbO▸AhP ha
def Akd(c:TT)(t u:TS):TS:=λD J H=>c J H λb H1=>if b=Af then t D J H1 else u D J H1
def AeC{c:TT}{t u:TS}:Akd c t u=AkQ c t u:=funext λD=>funext λJ=>funext λH=>congrArg _ ic
def Ah0{tc:TT}{a b:LY}(hc:PT X c tc)(ha:Q6 X a t)(hb:Q6 X b u):PS X (.If c a b pos) (Akd tc t u):=AeC▸Ago hc ha hb
def AnE(C:Int->Int->Prop)(g:Int->Int->V):R2:=λx y H Q=>∃i j,x=.int i/\y=.int j/\C i j/\Q (g i j) H
def AnF(g:Int->Int->V):R2:=λx y H Q=>∃i j,x=.int i/\y=.int j/\Q (g i j) H
def Age{x y:V}{F:Int->Int->Prop}:(∃i j,x=V.int i/\y=V.int j/\F i j)=mI x y F:=propext #[λ⟨i,j,b,a,q⟩=>by subst b a;exact q,uO]
def Ahx{C:Int->Int->Prop}{g:Int->Int->V}:AnE C g=rI C g:=funext λx=>funext λy=>funext λH=>funext λQ=>Age
def Ahy{g:Int->Int->V}:AnF g=Adu g:=funext λx=>funext λy=>funext λH=>funext λQ=>Age
def o0{f:Ai->Ai->IK Ai}{g:Int->Int->V}(h:RU X f (Adu g)):RU X f (AnF g):=Ahy▸h
def oC{f:Ai->Ai->IK Ai}{C:Int->Int->Prop}{g:Int->Int->V}(h:RU X f (rI C g)):RU X f (AnE C g):=Ahx▸h
def AbN(r r':R2)(ta tb tc:TE):TE:=λJ H Q=>ta J H λx H1=>tb J H1 λy H2=>r x y H2 λz H3=>∃k,z=.bl k/\(if k=Af then tc J H3 λw' H4=>r' y w' H4 Q else Q (.bl An) H3)
def yE{r r':R2}{ta tb tc:TE}:AbN r r' ta tb tc=Ac0 r r' ta tb tc:=funext λJ=>funext λH=>funext λQ=>congrArg _ (funext λx=>funext λa=>congrArg _ (funext λy=>funext λb=>congrArg _ iT))
def XI(ho:RU X (Be op) r)(ho':RU X (Be op') r')(ha:PE X a ta)(hb:PE X b tb)(hc:PE X c tc)(hm:Ki [op,op'] [b,c]=An:=by with_unfolding_all rfl):PE X (.Compare a [op,op'] [b,c] pos) (AbN r r' ta tb tc):=yE▸oR ho ho' ha hb hc hm
end
section
variable{K:Ab}{H:Hp}{a C:Ag}{fs:LN}{f z:AA}{v:V}{Q:VK}{t:TA}{J:St}{D:Ends}{A B:Prop}{b:Bool}{xs:Lx}{kvs:LA}
structure AfG(K:Ab)(C:Ag)(ns:Lw):Prop where
 c:Xf K C
 n:∀f∈ns,Pz K C f
def ZV:∀{fs:LN},fs.lookup f=U v->f∈fs.map (·.1)
 | (g,w)::t,h=>by
   by_cases e:f=g
   ·subst e;exact AX ..
   ·rw[B8,Gg e]at h;exact AD _ (ZV h)
def Up(H:Hp)(a:Ag)(o:HO)(H1:Hp):Prop:=H1=upd H a o
def cB(h1:b=Af->A)(h2:b=An->B):QT b A B:=by cases b;exact h2 Y;exact h1 Y
def cD{P:Prop}[Decidable P](h1:P->A)(h2:¬ P->B):QT (decide P) A B:=cB (λh=>h1<|B2 h) λh=>h2 (of_decide_eq_false h)
def cS{z w:AA}(h1:z=w->A)(h2:z≠w->B):QT (decide<|V.str z=V.str w) A B:=cD (λh=>h1 (by cases h;rfl)) λh=>h2 λe=>h (by rw[e])
def cI{z w:Int}(h1:z=w->A)(h2:z≠w->B):QT (decide<|V.int z=V.int w) A B:=cD (λh=>h1 (by cases h;rfl)) λh=>h2 λe=>h (by rw[e])
def gS(h:Rd H a (.dK kvs))(e:Pu kvs (.inr z)=U v)(k:Q v H):AjR (.ref a) Q (.str z) H:=#[a,v,Y,.inl #[kvs,.inr z,h,Y,e.symm],k]
def gI{i:Int}(h:Rd H a (.dK kvs))(e:Pu kvs (.inl i)=U v)(k:Q v H):AjR (.ref a) Q (.int i) H:=#[a,v,Y,.inl #[kvs,.inl i,h,Y,e.symm],k]
def pS(h:H a=U (.dK kvs))(hl:kvs.length<sizeLine)(k:∀H1,Up H a (.dK<|putK kvs (.inr z) v) H1->D.nx J H1):Ag8 v (.ref a) D J (.str z) H:=#[a,_,Y,bV.k (k:=.inr z) h hl,k _ Y]
def pI{i:Int}(h:H a=U (.dK kvs))(hl:kvs.length<sizeLine)(k:∀H1,Up H a (.dK<|putK kvs (.inl i) v) H1->D.nx J H1):Ag8 v (.ref a) D J (.int i) H:=#[a,_,Y,bV.k (k:=.inl i) h hl,k _ Y]
def mL{r:V->Lx->Hp->VK->Prop}(h:H a=U (.lst xs))(k:t J H (AjQ r (.ref a) Q)):Ans K "list" r t J Q (.ref a) H:=#[.inl #[Y,xs,Pb.of h],k]
end
end L2
namespace L2
open PySem
def AkG(a:Ent):Int:=2*a.1+(if a.2=Ah then 1 else 0)
end L2
namespace L2
open PySem PySem.Spec PyProof.Rows
def uH(nm:AA):∀zs:Lw,Ag3 (.str nm) (zs.map V.str)=decide (nm∈zs)
 |[]=>by simp[Ag3]
 | z::zs=>by
   have a:=uH nm zs;unfold Ag3 at a ⊢;rw[Az,CQ,a];have e:lS (.str z) (.str nm)=decide (nm=z):=by show(z==nm)=_;rw[BM,Fg,Br];exact eq_comm
   rw[e,BM];simp
abbrev Q5:=List (AA×List Int)
def AjG(Hs:Q5):List (Key×DV):=Hs.map λe=>(.inr e.1,.tup<|e.2.map λi=>.fl<|.int i)
abbrev tN(K:Ab)(H:Hp)(Hs:Q5)(kvs:LA):Prop:=Q7 K H (AjG Hs) kvs
def AcJ{K:Ab}{is:LD}:P1 K H (is.map λi=>.fl<|.int i) (is.map V.int):=by
 induction is with
 |nil=>exact Bk
 |cons i is ih=>exact#[#[Y,Y],ih]
def lp(m:Nat):Int:=(((Ba 11).map λv=>10-((m:Int)-1)*((v:Nat):Int)).filter λx=>decide<|0<x).sum
def tN.get{K:Ab}:∀{kvs:LA}{i:Nat}{kv:Key×V},tN K H Hs kvs->kvs[i]?=U kv->∃e t,Hs[i]?=U e/\kv=(.inr e.1,.ref t)/\P5 K H t (e.2.map V.int):=by
 induction Hs with
 |nil=>
   intro kvs i kv h e;cases kvs with
   |nil=>simp at e
   |cons _ _=>exact h.elim;all_goals simp
 |cons x Hs ih=>
   intro kvs i kv h e;cases kvs with
   |nil=>simp at e
   |cons w kvs=>
     let(f,(t,a,d,c,b),g):=h;cases i with
     |succ j=>exact ih g (by simpa using e)
     |zero=>
       have k:w=kv:=by simpa using e
       subst k;have l:a=x.2.map V.int:=by
        clear c;generalize x.2=is at b;induction is generalizing a with
        |nil=>
          cases a with
          |nil=>rfl
          |cons _ _=>exact b.elim;all_goals simp
        |cons i is ih=>
          cases a with
          |nil=>exact b.elim;all_goals simp
          |cons v a=>rw[Az,b.1.1,ih _ b.2]
       subst l;let(m,n):=w;subst f d;exact#[x,t,Y,Y,c]
def tN.len{K:Ab}(h:tN K H Hs kvs):kvs.length=Hs.length:=by have:=h.length;unfold AjG at this;simpa using this.symm
def wd(ws:L7)(i:Nat):LP:=ws.getD i []
def Aot(ws:L7)(n:Nat):LP:=wd ws (n / 25)++46::(wd ws (n / 5%5)++46::wd ws (n%5))
def nm(ws:L7)(n:Nat):AA:=⟨(Aot ws n).toArray⟩
def Ac4(h:46∉w):(w++46::r).takeWhile (·≠46)=w:=by
 induction w with
 |nil=>simp
 |cons x w a=>
   rw[AB,not_or]at h;have:x≠46:=λe=>h.1 e.symm
   have a:=a h.2;simp at a;simp[this,a]
def Agf:∀{l m:LP},l.Nodup->(∀a∈l,a∈m)->l.length<=m.length
 |[],_,_,_=>Bv _
 | x::l,m,nd,h=>by
   rw[Bc]at nd;have d:=h x AX;have:=Agf (l:=l) (m:=m.erase x) nd.2 λa c=>by
    have b:a≠x:=λe=>nd.1<|e▸c
    exact(Ef b).mpr (h a<|AD _ c)
   rw[Cm d]at this;have:=HG d;rw[AI];omega
def Z1(l:LP):Prop:=∀x∈l,x∈WS.cps.toList
def vN(i:Int):Z1 (sg i).cps.toList:=by intro x a;unfold sg at a;rw[As]at a;subst a;rw[Bs,Ae (by rw[Zk];omega)];exact Cy _
def pM:∀{l:Lw},(∀a∈l,Z1 a.cps.toList)->Z1 (EL (A1 "") l).cps.toList
 | [],_=>λx d=>by
   have d:x∈([]:LP):=d;cases d
 |[a],h=>h a AX
 | a::b::r,h=>by
   have e:=pM (l:=b::r) λc f=>h c<|AD _ f
   intro x d;have d:x∈(a++A1 ""++EL (A1 "") (b::r)).cps.toList:=d;rw[P8,P8,Bd,Bd]at d;rcases d with(d|d)|d
   ·exact h a AX x d
   ·have d:x∈([]:LP):=d;cases d
   ·exact e x d
def Aed(h:∀a∈l,Z1 a.cps.toList):Z1 (Ep (A1 "") l).cps.toList:=by show Z1 (C3.Str.glued _ l).cps.toList;rw[StrLaws.glued_eq_join];exact pM h
def pl(d t:Int):Int:=((1+d / 11)*t+d%11)%11
def AhU:∀d:Fin 110,∀i j:Fin 11,pl (d.val:Nat) (i.val:Nat)=pl (d.val:Nat) (j.val:Nat)->i=j:=M4
def AeZ{t:Int}(d0:0<=d)(d1:d<110)(t0:0<=t)(t1:t<11)(u0:0<=u)(u1:u<11)(h:pl d t=pl d u):t=u:=by let(d,rfl):=BZ d0;let(t,rfl):=BZ t0;let(u,rfl):=BZ u0;have:=AhU #[d,M6] #[t,M6] #[u,M6] h;have:=congrArg Fin.val this;have:t=u:=this;rw[this]
def qM(d:Int):LD->Int
 |[]=>0
 |[t]=>pl d t
 |t::u::r=>min (pl d t) (qM d (u::r))
def Y2(d:Int):∀{ps:LD},ps≠[]->∃t∈ps,qM d ps=pl d t
 |[],h=>absurd Y h
 |[t],_=>#[t,M8,Y]
 | t::u::r,_=>by
   let(x,a,e):=Y2 d (ps:=u::r) M8;rw[qM];rcases Int.le_total (pl d t) (qM d (u::r))with h|h
   ·exact#[t,M8,Int.min_eq_left h]
   ·exact#[x,AD _ a,by rw[Int.min_eq_right h,e]]
def Aas(d:Int):∀{ps:LD},∀t∈ps,qM d ps<=pl d t
 |[],t,h=>nomatch h
 |[t],u,h=>by rw[As.mp h];exact Gx _
 | t::u::r,x,h=>by
   rw[qM];rcases AB.mp h with rfl|h
   ·exact Int.min_le_left _ _
   ·exact Int.le_trans (Int.min_le_right _ _) (Aas d (ps:=u::r) x h)
def AgB(h1:M∈ps.map (pl d))(h2:∀a∈ps.map (pl d),M<=a):M=qM d ps:=by
 let(t,c,rfl):=AR.mp h1;have b:ps≠[]:=λe=>by rw[e]at c;cases c
 let(u,f,e):=Y2 d b;have h:=Aas d t c;have g:=h2 _<|A8 f;omega
def Good(z:AA):Prop:=z.length<=1000/\∃a b c:LP,z.cps.toList=a++46::(b++46::c)/\46∉a/\46∉b/\46∉c
def Qz(z:AA):LP:=z.cps.toList.takeWhile (·≠46)
def RM(z:AA):LP:=((z.cps.toList.reverse.dropWhile (·≠46)).drop 1).reverse
def AaH(h:46∉w):(w++46::r).dropWhile (·≠46)=46::r:=by
 induction w with
 |nil=>simp
 |cons x w a=>
   rw[AB,not_or]at h;have:x≠46:=λe=>h.1 e.symm
   have a:=a h.2;simp at a;simp[this,a]
def oY(h:z.cps.toList=a++46::r)(ha:46∉a):Qz z=a:=by unfold Qz;rw[h];exact Ac4 ha
def oZ(h:z.cps.toList=a++46::r)(hr:46∉r):RM z=a:=by unfold RM;rw[h,List.reverse_append,IZ,EB];have:=AaH (w:=r.reverse) (r:=a.reverse) (by simpa using hr);rw[show r.reverse++([46]++a.reverse)=r.reverse++46::a.reverse by simp,this];simp
structure PX(Hs:Q5):Prop where
 nd:(Hs.map (·.1)).Nodup
 ne:∀e∈Hs,e.2≠[]
 Al8:∀e∈Hs,∀t∈e.2,0<=t/\t<11
 AfR:∀e∈Hs,∀e'∈Hs,e.1≠e'.1->∀t∈e.2,t∉e'.2
 len:∀e∈Hs,e.2.length<=11
 bS:Hs.length<=30
 good:∀e∈Hs,Good e.1
def Ako(Hs:Q5)(n:AA):LD:=((Hs.find? λe=>decide<|e.1=n).map (·.2)).getD []
def uK(Hs:Q5)(d:Int)(n:AA):Int:=qM d (Ako Hs n)
def jY:∀{Hs:Q5},(Hs.map (·.1)).Nodup->∀{e:AA×LD},e∈Hs->Ako Hs e.1=e.2
 | x::Hs,nd,e,he=>by
   rw[Az,Bc]at nd;unfold Ako;rcases AB.mp he with rfl|h
   ·simp[EX]
   ·have a:x.1≠e.1:=λq=>nd.1 (q▸A8 h)
    have:=jY nd.2 h;unfold Ako at this;rw[HH<|by simpa using a];exact this
def Aei(h:PX Hs)(d0:0<=d)(d1:d<110)(ha:a∈Hs.map (·.1))(hb:b∈Hs.map (·.1))(e:uK Hs d a=uK Hs d b):a=b:=by
 let(x,f,rfl):=AR.mp ha;let(y,c,rfl):=AR.mp hb;unfold uK at e;rw[jY h.nd f,jY h.nd c]at e;let(t,k,l):=Y2 d<|h.ne x f;let(u,j,m):=Y2 d<|h.ne y c;rw[l,m]at e;have g:=h.Al8 x f t k;have i:=h.Al8 y c u j;have:=AeZ d0 d1 g.1 g.2 i.1 i.2 e;subst this;by_cases q:x.1=y.1
 ·exact q
 ·exact absurd j (h.AfR x f y c q t k)
def RE(Hs:Q5)(d:Int):Lw:=(Hs.map (·.1)).mergeSort λa b=>decide (uK Hs d a<=uK Hs d b)
def Su(Hs:Q5)(d:Int):(RE Hs d).Perm (Hs.map (·.1)):=ID _ _
def AeK(Hs:Q5)(d:Int):(RE Hs d).Pairwise λa b=>uK Hs d a<=uK Hs d b:=by have:=Hv (le:=λa b=>decide<|uK Hs d a<=uK Hs d b) (λa b c e f=>by simp at e f ⊢;omega) (λa b=>by simp;omega) (Hs.map (·.1));exact this.imp λh=>by simpa using h
def AbW{Hs:Q5}(h:PX Hs){d:Int}(d0:0<=d)(d1:d<110){zs ws:Lw}(p1:zs.Perm (Hs.map (·.1)))(p2:ws.Perm (Hs.map (·.1)))(s1:zs.Pairwise λa b=>uK Hs d a<=uK Hs d b)(s2:ws.Pairwise λa b=>uK Hs d a<=uK Hs d b):zs=ws:=(p1.trans p2.symm).eq_of_pairwise (λa b c e f g=>Aei h d0 d1 (p1.mem_iff.mp c) (p2.mem_iff.mp e) M6) s1 s2
def AgC(z:AA)(tk:Lw):Nat:=tk.countP λo=>decide (Qz o=Qz z)
def Ajb(z:AA)(tk:Lw):Nat:=tk.countP λo=>decide (Qz o=Qz z)&&decide (RM o=RM z)
def SQ(tk:Lw)(x y:AA):Prop:=AgC x tk<AgC y tk\/(AgC x tk=AgC y tk/\Ajb x tk<Ajb y tk)
instance (tk:Lw) (x y:AA):Decidable (SQ tk x y):=by unfold SQ;exact inferInstance
def Ww(tk w:Lw):AA:=(w.filter λx=>w.all λy=>!decide (SQ tk y x)).headD ""
def AhL{tk:Lw}{i:Nat}(hx:w[i]?=U x)(h:∀j y,w[j]?=U y->¬ SQ tk y x/\(j<i->SQ tk x y)):Ww tk w=x:=by
 unfold Ww;have g:=(Av.mp hx).1;have e:w=w.take i++x::w.drop (i+1):=by
  have f:w.drop i=x::w.drop (i+1):=by rw[List.drop_eq_getElem_cons g,(Av.mp hx).2]
  rw[<-f,C9]
 have k:(w.take i).filter (λx=>w.all λy=>!decide (SQ tk y x))=[]:=by
  rw[List.filter_eq_nil_iff];intro y c;let(j,a):=Fn c;rw[FI]at a;split at a
  ·rename_i b;have:=(h j y a).2 b;simp;exact#[x,AH hx,this]
  ·cases a
 have d:(w.all λy=>!decide (SQ tk y x))=Af:=by rw[BL];intro y c;let(j,a):=Fn c;have:=(h j y a).1;simpa using this
 have l:w.filter (λx=>w.all λy=>!decide (SQ tk y x))=(w.take i++x::w.drop (i+1)).filter (λx=>w.all λy=>!decide (SQ tk y x)):=by rw[<-e]
 rw[l,CF,k,CV (p:=λx=>w.all λy=>!decide _) d];rfl
def Tr:Nat->Lw->Lw->Lw
 |0,_,tk=>tk
 |m+1,w,tk=>if w=[]then tk else Tr m (w.erase<|Ww tk w) (tk++[Ww tk w])
def Sn(m:Nat)(tk:Lw):Tr m [] tk=tk:=by
 cases m with
 |zero=>rfl
 |succ m=>rw[Tr,AG Y]
def Rh{tk:Lw}(h:w≠[]):Tr (m+1) w tk=Tr m (w.erase<|Ww tk w) (tk++[Ww tk w]):=by rw[Tr,Ay h]
def Qa(Hs:Q5)(d:Int)(m:Nat):Lw:=Tr m (RE Hs d) []
def mQ:∀{w:Lw}{i:Nat}{x:AA},w.Nodup->w[i]?=U x->w.eraseIdx i=w.erase x
 | y::w,0,x,_,h=>by
   have h:y=x:=by simpa using h
   subst h;simp
 | y::w,i+1,x,nd,h=>by
   have h:w[i]?=U x:=by simpa using h
   rw[Bc]at nd;have a:y≠x:=λe=>nd.1<|e▸AH h
   rw[CW,List.erase_cons,Ay (by simpa using a),mQ nd.2 h]
 |[],_,_,_,h=>by simp at h
def Akb{w:Lw}{i j:Nat}{x:AA}(nd:w.Nodup)(h1:w[i]?=U x)(h2:w[j]?=U x):i=j:=by let(c,a):=Av.mp h1;let(d,b):=Av.mp h2;exact(EJ nd).mp (a.trans b.symm)
def tN.at{K:Ab}{H:Hp}{Hs:Q5}(h:tN K H Hs kvs){i:Nat}{e:AA×LD}(he:Hs[i]?=U e):∃t,kvs[i]?=U (.inr e.1,.ref t)/\P5 K H t (e.2.map V.int):=by
 have c:=h.len;have b:i<kvs.length:=by rw[c];exact(Av.mp he).1
 let(g,t,a,d,f):=h.get<|Ae b;rw[he]at a;cases a;exact#[t,by rw[Ae b,d],f]
def tN.keys{K:Ab}{H:Hp}{Hs:Q5}(h:tN K H Hs kvs):kvs.map (·.1)=(Hs.map (·.1)).map Cr:=by
 refine DW λi=>?_
 rw[Aj,Aj,Aj];cases e:Hs[i]? with
 |none=>
   have:kvs.length<=i:=by rw[h.len];exact Eu.mp e
   rw[Bx this];rfl
 |some x=>let(t,a,_):=h.at e;rw[a];rfl
def Aey{l:Lw}(h:l.Nodup):(l.map (Cr:AA->Key)).Nodup:=by rw[Eo,Df];exact(Eo.mp h).imp λh q=>h (by injection q)
def tN.val{K:Ab}{H:Hp}{Hs:Q5}{kvs:LA}(h:tN K H Hs kvs)(nd:(Hs.map (·.1)).Nodup){e:AA×LD}(he:e∈Hs):∃t,Pu kvs (.inr e.1)=U (.ref t)/\P5 K H t (e.2.map V.int):=by let(i,b):=Fn he;let(t,a,c):=h.at b;exact#[t,AfC (by rw[h.keys];exact Aey nd)<|AH a,c]
def yP{Hs:Q5}(h:PX Hs){d:Int}(d0:0<=d)(d1:d<110){ms:Mp}(p:ms.Perm ((Hs.map λe=>qM d e.2).zip (Hs.map (·.1))))(s:ms.Pairwise λx y=>x.1<=y.1):ms.map (·.2)=RE Hs d:=by
 have c:(Hs.map λe=>qM d e.2).zip (Hs.map (·.1))=Hs.map λe=>(qM d e.2,e.1):=by rw[List.zip_map']
 rw[c]at p;have a:∀x∈ms,x.1=uK Hs d x.2:=λx b=>by
  let(e,f,rfl):=AR.mp<|p.mem_iff.mp b;show qM d e.2=qM d (Ako Hs e.1);rw[jY h.nd f]
 refine AbW h d0 d1 ?_ (Su Hs d) ?_<|AeK Hs d
 ·have:=p.map (·.2);rw[AO]at this;exact this
 ·rw[Df];exact s.imp_of_mem λ{x y}b g q=>by rw[<-a x b,<-a y g];exact q
def AeJ(h:PX Hs)(d:Int):(RE Hs d).Nodup:=(Su Hs d).nodup_iff.mpr h.nd
def Wv(Hs:Q5)(d:Int):(RE Hs d).length=Hs.length:=by rw[(Su Hs d).length_eq,Ac]
def yM(h:PX Hs)(hz:z∈RE Hs d):Good z:=by let(e,a,rfl):=AR.mp<|(Su Hs d).mem_iff.mp hz;exact h.good e a
def Zi{zs:Lw}{i:Nat}{x:V}(h:(zs.map V.str)[i]?=U x):∃z,zs[i]?=U z/\x=.str z:=by
 rw[Aj]at h;cases e:zs[i]? with
 |none=>rw[e]at h;cases h
 |some z=>rw[e]at h;cases h;exact#[z,Y,Y]
def Ad5{zs:LD}{i:Nat}(h:(zs.map V.int)[i]?=U x):∃z,zs[i]?=U z/\x=.int z:=by
 rw[Aj]at h;cases e:zs[i]? with
 |none=>rw[e]at h;cases h
 |some z=>rw[e]at h;cases h;exact#[z,Y,Y]
def ZT(tk:Lw)(x:AA):¬ SQ tk x x:=by unfold SQ;omega
def nM(tk:Lw):∀{w:Lw},w≠[]->∃x∈w,∀y∈w,¬ SQ tk y x
 |[],h=>absurd Y h
 |[x],_=>#[x,M8,λy c=>by rw[As.mp c];exact ZT tk x]
 | x::y::r,_=>by
   let(z,d,b):=nM tk (w:=y::r) M8;by_cases h:SQ tk x z
   ·refine #[x,M8,λu a=>?_];rcases AB.mp a with rfl|a
    ·exact ZT tk _
    ·intro q;refine b u a ?_;unfold SQ at h q ⊢;omega
   ·refine#[z,AD _ d,λu a=>?_];rcases AB.mp a with rfl|a
    ·exact h
    ·exact b u a
def AbY(tk:Lw)(h:w≠[]):Ww tk w∈w/\∀y∈w,¬ SQ tk y (Ww tk w):=by
 let(x,g,f):=nM tk h;have d:x∈w.filter λx=>w.all λy=>!decide (SQ tk y x):=by rw[Bl];refine#[g,?_];rw[BL];intro y b;simpa using f y b
 have c:Ww tk w∈w.filter λx=>w.all λy=>!decide (SQ tk y x):=by
  unfold Ww;cases e:w.filter λx=>w.all λy=>!decide (SQ tk y x)with
  |nil=>rw[e]at d;cases d
  |cons a l=>simp
 rw[Bl,BL]at c;exact#[c.1,λy b=>by simpa using c.2 y b]
def uX(tk:Lw)(h:w≠[]):Ww tk w∈w:=(AbY tk h).1
def mV:∀(m:Nat)(w tk:Lw),(Tr m w tk).length=tk.length+min m w.length
 |0,w,tk=>by rw[Tr];omega
 | m+1,w,tk=>by
   by_cases h:w=[]
   ·rw[h,Sn,CN];omega
   ·rw[Rh h,mV m,AM,Bh,Cm<|uX tk h];have:=BV.mpr h;omega
def fE:∀(m M:Nat)(w tk:Lw),m<=M->Tr m w tk=(Tr M w tk).take (tk.length+m)
 | 0,M,w,tk,_=>by
   rw[Tr,Nat.add_zero];have b:∀(M:Nat)(w tk:Lw),tk <+: Tr M w tk:=λM=>by
    induction M with
    |zero=>intro w tk;rw[Tr];exact Jh _
    |succ M ih=>
      intro w tk;by_cases h:w=[]
      ·rw[h,Sn];exact Jh _
      ·rw[Rh h];exact(List.prefix_append _ _).trans (ih _ _)
   exact(List.prefix_iff_eq_take.mp<|b M w tk)
 | m+1,M+1,w,tk,h=>by
   by_cases a:w=[]
   ·rw[a,Sn,Sn,EW M6]
   ·rw[Rh a,Rh a,fE m M _ _ M6,AM,Bh]
    congr 1
    omega
def fB:∀(m:Nat)(w tk:Lw),w.length<=m->(Tr m w tk).Perm (tk++w)
 | 0,w,tk,h=>by
   rw[Tr,DF.mp<|Nat.le_zero.mp h,B7]
 | m+1,w,tk,h=>by
   by_cases a:w=[]
   ·rw[a,Sn,B7]
   ·rw[Rh a];have b:=uX tk a;have:=fB m (w.erase<|Ww tk w) (tk++[Ww tk w]) (by rw[Cm b];omega);refine this.trans ?_;rw[EB,List.singleton_append];exact(List.perm_cons_erase b).symm.append_left tk
def mK(Hs:Q5)(d:Int)(m:Nat):(Qa Hs d m).length=min m Hs.length:=by unfold Qa;rw[mV,Wv,CN,Em]
def wZ(Hs:Q5)(d:Int)(h:m<=M):Qa Hs d m=(Qa Hs d M).take m:=by unfold Qa;rw[fE m M _ _ h,CN,Em]
def eV(Hs:Q5)(d:Int)(h:Hs.length<=m):(Qa Hs d m).Perm (Hs.map (·.1)):=by have:=fB m (RE Hs d) [] (by rw[Wv];exact h);exact this.trans (Su Hs d)
def tX(ho:PX Hs)(d:Int)(m:Nat):(Qa Hs d m).Nodup:=by
 rcases Nat.le_total _ m with h|h
 ·exact(eV Hs d h).nodup_iff.mpr ho.nd
 ·rw[wZ Hs d h];exact((eV Hs d<|Ao _).nodup_iff.mpr ho.nd).sublist (IY _ _)
def AmN{D:Ends}{J σ':St}{H:Hp}(e:J=σ')(h:D.nx σ' H):D.nx J H:=by rw[e];exact h
def dd(l:Lw):Lw:=l.foldl (λs z=>if z∈s then s else s++[z]) []
structure Rj(Hs:Q5):Prop where
 nd:(Hs.map (·.1)).Nodup
 Adv:∀e∈Hs,∀x∈e.2,(0:Int)<=x/\x<11
 one:∀e∈Hs,e.2.Nodup
 inc:∀e∈Hs,e.2.Pairwise (·<=·)
 ne:∀e∈Hs,e.2≠[]
 AfR:∀e∈Hs,∀f∈Hs,∀x,x∈e.2->x∈f.2->e.1=f.1
def Af4{l:LD}(nd:l.Nodup)(h:∀x∈l,(0:Int)<=x/\x<11):l.length<=11:=by
 have:(l.map Int.toNat).length<=(Ba 11).length:=Agf
  (Df.mpr<|FE.imp_of_mem (λ{a b}c f d=>by have:=h a c;have:=h b f;omega) nd) λa c=>by
   let(x,e,rfl):=AR.mp c;have:=h x e;rw[B6];omega
 simpa using this
def Rj.len{Hs:Q5}(h:Rj Hs):∀e∈Hs,e.2.length<=11:=λe a=>Af4 (h.one e a) (h.Adv e a)
def wK(Hs:Q5):LD:=Hs.flatMap (·.2)
def tS:∀{Hs:Q5},Rj Hs->(wK Hs).Nodup
 |[],_=>Fi
 | e::Hs,h=>by
   have i:Rj Hs:=#[(Bc.mp h.nd).2,λf c=>h.Adv f<|AD _ c,λf c=>h.one f<|AD _ c,λf c=>h.inc f<|AD _ c,λf c=>h.ne f<|AD _ c,λf c g m=>h.AfR f (AD _ c) g<|AD _ m];have j:=tS i;show(e.2++wK Hs).Nodup;rw[DR];refine#[h.one e AX,j,λa k b l d=>?_];subst d;let(f,c,n):=Ji.mp l;have:=h.AfR e AX f (AD _ c) a k n;exact(Bc.mp h.nd).1 (by show e.1∈_;rw[this];exact A8 c)
def Aap(h:Rj Hs):∀x∈wK Hs,(0:Int)<=x/\x<11:=λx a=>by
 let(f,b,a):=Ji.mp a;exact h.Adv f b x a
def Aao{Hs:Q5}(h:Rj Hs):(wK Hs).length<=11:=Af4 (tS h) (Aap h)
def nN:∀{Hs:Q5},(∀e∈Hs,e.2≠[])->Hs.length<=(wK Hs).length
 |[],_=>Ao _
 | e::Hs,h=>by
   have b:=nN (Hs:=Hs) λf a=>h f<|AD _ a
   have:=BV.mpr<|h e AX;show Hs.length+1<=(e.2++wK Hs).length;rw[AM];omega
def Rj.bS(h:Rj Hs):Hs.length<=11:=AS (nN h.ne) (Aao h)
def rW(Hs:Q5)(p:Int):Mc:=(Hs.find? λe=>decide<|p∈e.2).map (·.1)
def yO:rW Hs p=Ah↔∀e∈Hs,p∉e.2:=by
 unfold rW;constructor
 ·simpa using h e he
 ·simpa using h e he
def gB{n:AA}(h:rW Hs p=U n):∃e∈Hs,p∈e.2/\e.1=n:=by let(e,a,rfl):=AF.mp h;exact#[e,BS a,by simpa using E6 a,Y]
def uW(t:Rj Hs)(he:e∈Hs)(hp:p∈e.2):rW Hs p=U e.1:=by
 cases q:rW Hs p with
 |none=>exact absurd hp<|yO.mp q e he
 |some n=>let(f,a,b,rfl):=gB q;rw[t.AfR f a e he p b hp]
def yN(Hs:Q5)(h:AA)(p:Int):Mc:=(Hs.find? λe=>decide (e.1≠h)&&decide (p∈e.2)).map (·.1)
def AeM(t:Rj Hs)(h:AA)(p:Int):yN Hs h p=(rW Hs p).filter λn=>decide (n≠h):=by
 cases q:yN Hs h p with
 |some n=>let(e,a,rfl):=AF.mp q;have b:=E6 a;simp only[Bf,Br]at b;rw[uW t (BS a) b.2,Ij,AG<|by simpa using b.1]
 |none=>
   unfold yN at q;rw[Hg,Ck]at q;cases w:rW Hs p with
   |none=>rfl
   |some n=>
     let(e,a,c,rfl):=gB w;have:=q e a;simp only[Bf,Br,not_and]at this;have:=Classical.byContradiction λz=>this z c
     rw[Ij,Ay<|by simpa using this]
def ZP(l:LD):LD:=l.mergeSort λa b=>decide (a<=b)
def Rr(l:LD):(ZP l).Perm l:=ID _ _
def fM(l:LD):(ZP l).Pairwise (·<=·):=by have:=Hv (le:=λa b:Int=>decide<|a<=b) (λa b c d e=>by simp only[Br]at *;omega) (λa b=>by simp only[Gy,Br];omega) l;exact this.imp λh=>by simpa using h
def AaZ(p:ms.Perm l)(s:ms.Pairwise (·<=·)):ms=ZP l:=Gq (λa b _ _ c d=>M6) s (fM l) (p.trans (Rr l).symm)
def rD(s:l.Pairwise (·<=·)):ZP l=l:=(AaZ (IE l) s).symm
def cZ(Hs:Q5)(n:AA)(ps:LD):Q5:=if(Hs.any λe=>decide<|e.1=n)=Af then Hs.map (λe=>if e.1=n then(e.1,ps)else e)else Hs++[(n,ps)]
def lZ{Hs:Q5}{n:AA}:(Hs.any λe=>decide<|e.1=n)=Af↔n∈Hs.map (·.1):=by simp
def Qd{Hs:Q5}{n:AA}{ps:LD}{e:AA×LD}(h:e∈cZ Hs n ps):(e∈Hs/\e.1≠n)\/e=(n,ps):=by
 unfold cZ at h;split at h
 ·let(f,a,rfl):=AR.mp h;by_cases q:f.1=n
  ·right;rw[AG q,q]
  ·left;rw[Ay q];exact#[a,q]
 ·rename_i b;rcases Bd.mp h with h|h
  ·exact .inl #[h,λz=>b<|lZ.mpr<|z▸A8 h]
  ·exact .inr (by simpa using h)
def Afc{Hs:Q5}{n:AA}{ps:LD}(h:(Hs.map (·.1)).Nodup):((cZ Hs n ps).map (·.1)).Nodup:=by
 unfold cZ;split
 ·have e:(Hs.map λe=>if e.1=n then(e.1,ps)else e).map (·.1)=Hs.map (·.1):=by
   rw[AO];refine Bp λe _=>?_
   show(if e.1=n then(e.1,ps)else e).1=e.1;split<;>rfl
  rw[e];exact h
 ·rename_i g;rw[Bi,DR];refine#[h,M8,λa f b d c=>?_];rw[Az,DU,As]at d;subst c d;exact g (lZ.mpr f)
def Rj.put(h:Rj Hs){n:AA}(r:∀x∈ps,(0:Int)<=x/\x<11)(o:ps.Nodup)(ne:ps≠[])(ha:∀p∈ps,yN Hs n p=Ah):Rj (cZ Hs n<|ZP ps):=by
 have d:∀e∈Hs,e.1≠n->∀x∈ZP ps,x∉e.2:=λe a g x b i=>by
  have:=ha x<|(Rr ps).mem_iff.mp b;rw[AeM h,uW h a i]at this;simp[g]at this
 refine#[Afc h.nd,λe a x b=>?_,λe a=>?_,λe a=>?_,λe a=>?_,λe a f j x b c=>?_]
 ·rcases Qd a with⟨q,_⟩|rfl
  ·exact h.Adv e q x b
  ·exact r x<|(Rr ps).mem_iff.mp b
 ·rcases Qd a with⟨q,_⟩|rfl
  ·exact h.one e q
  ·exact(Rr ps).nodup_iff.mpr o
 ·rcases Qd a with⟨q,_⟩|rfl
  ·exact h.inc e q
  ·exact fM ps
 ·rcases Qd a with⟨q,_⟩|rfl
  ·exact h.ne e q
  ·intro z;have:=(Rr ps).length_eq;rw[show ZP ps=[]from z]at this;exact ne<|DF.mp this.symm
 ·rcases Qd a with⟨q,l⟩|rfl
  ·rcases Qd j with⟨r,k⟩|rfl
   ·exact h.AfR e q f r x b c
   ·exact absurd b<|d e q l x c
  ·rcases Qd j with⟨r,k⟩|rfl
   ·exact absurd c<|d f r k x b
   ·rfl
def Rj.nil:Rj []:=#[M8,M8,M8,M8,M8,M8]
def Ai8:("abcdefghijklmnopqrstuvwxyz0123456789":AA).cps.toList=Gp 97 26++Gp 48 10:=M4
def low(c:Nat):Bool:=(decide (97<=c)&&decide (c<=122))||(decide (48<=c)&&decide (c<=57))
def bT(z:AA):Bool:=(decide (1<=z.length)&&decide (z.length<=8))&&z.cps.toList.all low
def Aea:V->Bool
 |.str z=>bT z
 |_=>An
def AjJ(c:Nat):(!(Dl "abcdefghijklmnopqrstuvwxyz0123456789" ⟨(zTo [c])⟩ 0 ("abcdefghijklmnopqrstuvwxyz0123456789":AA).length 1).isEmpty)=low c:=by rw[StrLaws.found_one,Ai8];unfold low;rw[BM];simp only[Br,Bd,FZ,Gy,Bf];omega
def Tw(l:LP):Bool:=(decide (1<=l.length)&&decide (l.length<=8))&&l.all low
def Ag5(z:AA):bT z=Tw z.cps.toList:=by unfold bT Tw;rw[AZ];rfl
def lU(z:AA):Bool:=decide ((Ow 46 z.cps.toList).length=3)&&(Ow 46 z.cps.toList).all Tw
def Ad6:V->Bool
 |.str z=>lU z
 |_=>An
def tT{ws:Lw}{z:AA}(h:ws.map (·.cps.toList)=Ow 46 z.cps.toList):(decide (ws.length=3)&&ws.all bT)=lU z:=by unfold lU;rw[<-h,Ac,Dn];rw[show(Tw∘λs:AA=>s.cps.toList)=bT from funext λs=>(Ag5 s).symm]
def Abl{ws:Lw}{z:AA}(h:ws.map (·.cps.toList)=Ow 46 z.cps.toList)(hz:z.length<=1000):∀w∈ws,w.length<=1000:=λw a=>by
 have:w.cps.toList∈Ow 46 z.cps.toList:=by rw[<-h];exact A8 a
 have:=(gO this).2;rw[AZ,AZ]at this;exact AS this hz
def Aj7:low 46=An:=M5
def UD(h:Tw l=Af):46∉l:=λq=>by
 unfold Tw at h;simp only[Bf,BL]at h;have:=h.2 46 q;rw[Aj7]at this;cases this
def Ad7(e:z.cps.toList=a++46::(b++46::c))(ha:Tw a=Af)(hb:Tw b=Af)(hc:Tw c=Af):lU z=Af:=by unfold lU;rw[e,SW<|UD ha,SW<|UD hb,Uj<|UD hc];simp[ha,hb,hc]
def Ad8{z:AA}{a b c:LP}(e:z.cps.toList=a++46::(b++46::c))(ha:Tw a=Af)(hb:Tw b=Af)(hc:Tw c=Af):z.length<=26:=by have h:z.cps.toList.length=z.length:=AZ;rw[<-h,e];unfold Tw at ha hb hc;simp only[Bf,Br]at ha hb hc;simp only[AM,AI];omega
def rV{a b:AA}(ha:Z1 a.cps.toList)(hb:Z1 b.cps.toList):Z1 (a++b).cps.toList:=λx c=>by
 rw[P8]at c;rcases Bd.mp c with h|h
 ·exact ha x h
 ·exact hb x h
end L2
namespace HT
open PySem PyProof.Rows
end HT
namespace L2
open PySem PySem.Spec PyProof.Rows
def num(ln:List (AA×Nat))(z:AA):Nat:=((ln.find? λe=>decide<|e.1=z).map (·.2)).getD 0
instance (a b:AA):Decidable (xV a b):=by unfold xV;exact inferInstance
section
open Builtin.Str
def Ahn(h:c∈WS.cps.toList):low c=Af:=by rw[AiF,Bd,FZ,FZ]at h;unfold low;simp only[Gy,Bf,Br];omega
def jN(o:Z1 l)(h1:1<=l.length)(h8:l.length<=8):Tw l=Af:=by unfold Tw;simp only[Bf,Br,BL];exact#[#[h1,h8],λc a=>Ahn<|o c a]
def AdP:(A1 ".").cps.toList=[46]:=by rw[Zt]
def AeL{n:AA}(no:∀e∈Hs,¬ (e.1≠n/\q∈e.2)):yN Hs n q=Ah:=by
 unfold yN;rw[Ck.mpr]
 ·rfl
 ·intro x a z;simp only[Bf,Br]at z;exact no x a z
end
def An9(b:Bool):Int:=if b then 1 else 0
def at2(f:Bool->Ag)(b:Bool):Y1 [V.ref<|f An,V.ref<|f Af] (An9 b)=U (.ref<|f b):=by cases b<;>rfl
end L2
namespace Sh
end Sh
namespace L2
open PySem PySem.Spec PyProof.Rows
section
open Sh
end
section
variable{X:Cx}
def Akz(K:Ab):R2:=λx y H Q=>∃a b xs ys,x=.ref a/\y=.ref b/\P5 K H a xs/\P5 K H b ys/\xs.length+ys.length<=sizeLine /\
 (xs=[]->Q (.ref b) H)/\(xs≠[]->ys=[]->Q (.ref a) H)/\(xs≠[]->ys≠[]->∀p,H p=Ah->Q (.ref p) (upd H p<|.tup<|xs++ys))
def AeF{K₀:Ab}{NR:Hp}[hK:N3 X K₀ NR]:RU X (Ci .Add) (Akz K₀):=by
 let(rfl,rfl):=hK;intro c s J H x y v u Q I t w h;let(a,b,r,O,rfl,rfl,z,m,L,D,K,S):=h;by_cases d:r=[]
 ·cases t;cases w;let(j0,F,M,_):=I.tuple z;let(A,T,E,_):=I.tuple m;let((C,N,o,G),q,R,n,B):=id M;let((p,i,l,k),e,j,P,f):=id E;subst R B j f;have g:=F.Za.mpr d;exact GA #[_,q,Y] #[_,e,Y] GX Iy EG Ey (Er _ _) (tuple_addW0 a b _ _ n P N i G k<|by simp[g]) #[q,e,#[.ref b,H,I,Y,D d]]
 ·exact uT c s J H _ _ v u Q I t w #[a,b,r,O,Y,Y,z,m,d,L,K d,S d]
end
def Rj.push{Hs:Q5}(ok:Rj Hs){n:AA}{old:LD}{i:Nat}(i11:i<11)(low:∀e∈Hs,∀x∈e.2,x<(i:Int))(ho:(n,old)∈Hs\/old=[]):Rj (cZ Hs n<|old++[(i:Int)]):=by
 have j:∀x∈old,x<(i:Int):=λx a=>by
  rcases ho with h|rfl
  ·exact low _ h x a
  ·cases a
 have l:∀x∈old,(0:Int)<=x/\x<11:=λx a=>by
  rcases ho with h|rfl
  ·exact ok.Adv _ h x a
  ·cases a
 have f:(old++[(i:Int)]).Pairwise (·<=·):=by
  rw[Ik];refine#[?_,M8,λx a y d=>?_]
  ·rcases ho with h|rfl
   ·exact ok.inc _ h
   ·simp
  ·rw[As.mp d];have:=j x a;omega
 have k:(old++[(i:Int)]).Nodup:=by
  rw[DR];refine#[?_,M8,λx a y d=>?_]
  ·rcases ho with h|rfl
   ·exact ok.one _ h
   ·simp
  ·rw[As.mp d];have:=j x a;omega
 have c:=ok.put (n:=n) (ps:=old++[(i:Int)]) (λx a=>by
  rcases Bd.mp a with h|h
  ·exact l x h
  ·rw[As.mp h];omega) k M8 (λp c=>AeL λe g b=>by
  rcases Bd.mp c with h|h
  ·rcases ho with m|rfl
   ·exact b.1<|ok.AfR e g _ m p b.2 h
   ·cases h
  ·rw[As.mp h]at b;have:=low e g _ b.2;omega)
 rwa[rD f]at c
def Acx{Hs:Q5}{n:AA}{old:LD}{i:Nat}(low:∀e∈Hs,∀x∈e.2,x<(i:Int))(ho:(n,old)∈Hs\/old=[]):∀e∈cZ Hs n (old++[(i:Int)]),∀x∈e.2,x<((i+1:Nat):Int):=λe b x a=>by
 rcases Qd b with⟨h,_⟩|rfl
 ·have:=low e h x a;omega
 ·rcases Bd.mp a with h|h
  ·rcases ho with c|rfl
   ·have:=low _ c x h;omega
   ·cases h
  ·rw[As.mp h];omega
section
variable{prog:Bn}{w:Bw}{A:BQ}{E:Ai->Au->Prop}{s:Au}{K:Type}[DecidableEq K]{knd:KeyKind prog w K}
def AcK{n:Nat}(hn:n<=5)(ho:s.heap.get? a=U {cls:=.type "set",dict:=Ah,data:=.set #[] 0 (.fresh 0 0 led)})(h:∀h',CP a s.heap h'->h'.SetOf knd a (λ_=>An) 0->Q () {s with heap:=h'}):AW (A9 prog w) A (setRoomFor a n) Q E s:=by
 unfold setRoomFor;refine Ad<|JS ho Y (by cases led<;>decide) ?_;by_cases h5:n=5
 ·subst h5;have e:(Cq 0 0 led).roomFor 5=U 10:=by cases led<;>decide
  dsimp only;rw[e];show AW _ _ (setRelay a 10) _ _ _;unfold setRelay;refine Ad<|JS ho Y (by cases led<;>decide) ?_;dsimp only;have e3:¬ (KO.sizeAbove 10>sizeLine):=M5;rw[Ay e3];have e4:(Cq 0 0 led).relaid (Kx (λ(x:Int×Ai)=>x.1) #[]) 10=U ({Cq 0 ((Cq 0 0 led).movedTo 15) led with mask:=15},#[]):=by cases led<;>kernel_rfl
  show AW _ _ (_ >>= _) _ _ _;rw[e4];show AW _ _ (storeSet a #[] {Cq 0 ((Cq 0 0 led).movedTo 15) led with mask:=15}) _ _ _;refine wpAny_storeSet_of ho Y ?_ M5;let(_,hS):=SetOf_store (knd:=knd) (S':=λ_=>An) ho #[Y,Y,Y] Y (es':=#[]) (t':={Cq 0 ((Cq 0 0 led).movedTo 15) led with mask:=15}) (λe he=>by cases he) (λk=>#[λq=>(by cases q),λ⟨e,he,_⟩=>(by cases he)]) M5 (by cases led<;>kernel_rfl);exact h _ (BF _ a _) hS
 ·have e:(Cq 0 0 led).roomFor n=Ah:=by
   have:n=0\/n=1\/n=2\/n=3\/n=4:=M6;rcases this with rfl|rfl|rfl|rfl|rfl<;>cases led<;>decide
  dsimp only;rw[e];refine Aw ?_;have e2:s={s with heap:=s.heap}:=by cases s;rfl
  rw[e2];exact h s.heap (CP.refl _ _) ((PyProof.Rows.setObjOf_fresh (knd:=knd) led).setOf ho M5)
def set_dict (hd:s.heap.DictOf knd d vs) (hsc:∀ k u,knd.is k u=true->u.scannable=true) (hn:vs.length<=5) (hm:(d == sysModules)=false)
  (h:∀ (h':Heap),h'.SetOf knd s.heap.objs.size (fun z=>decide (z∈vs.map (·.1))) vs.length->(∀ b o,b < s.heap.objs.size->s.heap.get? b=some o->h'.get? b=some o)->s.heap.objs.size < h'.objs.size->Q (.ref s.heap.objs.size) {s with heap:=h'}):
  wpAny (model prog w) A (call (.type "set") [.ref d]) Q E s:=by
 obtain ⟨c,tl,av⟩:=F.called_set.mro;have aa:=F.called_set.made;have ar:=F.called_set.sub;refine wpAny_call<|codeAny_of_tree ?_;show wpAny _ _ (callAny (.type "set") _) _ _ _;refine wpAny_pure #[Code.quiet_builtin _ (by decide +kernel),codeAny_builtin F.entry_type_call ?_];rw[Around.under_plain (weight_type_call_type "set" [.ref d] []) Y];have h1:=F.called_set.notType;have u3:=F.called_set.canCreate;have az:=F.typeCall_set_1<|.ref d
 repeat (any_goals (first | assumption | wp_step))
 refine codeAny_mono (code_set_new_1 (.ref d) (E:=E) (Q₁:=fun X au=>∃ f:Bool,X=.ref s.heap.objs.size/\au={s with heap:=s.heap.push {cls:=.type "set",dict:=none,data:=.set #[] 0 (.fresh 0 0 f)}}) fun f=>#[f,Y,Y]) fun r au C=>?_
 cases r with
 |error e=>exact C
 |ok fl=>
   cases fl with
   |ret X=>
     obtain ⟨f,rfl,rfl⟩:=C;have hS:(s.heap.push {cls:=.type "set",dict:=none,data:=.set #[] 0 (.fresh 0 0 f)}).get? s.heap.objs.size=some {cls:=.type "set",dict:=none,data:=.set #[] 0 (.fresh 0 0 f)}:=Heap.get?_push_size _ Y;have hT:Shared.TypeIs {s with heap:=s.heap.push {cls:=.type "set",dict:=none,data:=.set #[] 0 (.fresh 0 0 f)}} (.ref s.heap.objs.size) "set":=#[_,hS,Y];have a0:=F.called_set.init.lookup;have ay:=F.called_set.init.bind<|.ref s.heap.objs.size
     repeat (any_goals (first | assumption | wp_step))
     refine codeAny_mono (codeAny_call_builtin (R:=wants (fun r ap=>r=.none/\∃ h',ap={s with heap:=h'}/\h'.SetOf knd s.heap.objs.size (fun z=>decide (z∈vs.map (·.1))) vs.length/\(∀ b o,b < s.heap.objs.size->s.heap.get? b=some o->h'.get? b=some o)) E) F.called_set.init.plain F.entry_set_init<|check_set_init_1 hT ?_) fun aw ap M=>?_
     ·obtain ⟨od,g,ep,B,ai,T,L,l,ah⟩:=hd;obtain ⟨al,j0,ab,G⟩:=od;obtain ⟨y0,p⟩:=ai;simp only at y0 T;subst y0;subst T;have am:(s.heap.push {cls:=.type "set",dict:=none,data:=.set #[] 0 (.fresh 0 0 f)}).get? d=some {cls:=.type "dict",dict:=j0,data:=.dict g ep,slots:=G}:=Heap.get?_push_of_some _ B;have aq:=F.sub_dict_set;have an:=F.sub_dict_frozenset;have ax:(Value.type "dict" == Value.type "dict")=true:=by decide
      unfold Builtin.«set.__init__» noKeywords Builtin.Frozenset.updateFrom;generalize hRF:setRoomFor=RF
      wp_walk
      subst hRF;have ae:g.size=vs.length:=by rw[<-Array.length_toList];exact l.length
      have dS:d≠s.heap.objs.size:=Nat.ne_of_lt<|Heap.lt_size B;refine AcK (knd:=knd) (by omega) hS fun u3 ad af=>?_
      have k2:∀ b o,b≠s.heap.objs.size->s.heap.get? b=some o->u3.get? b=some o:=fun b o S e=>(ad.2 b S).trans (Heap.get?_push_of_some _ e)
      refine wpAny_bind<|wpAny_dictEntries (k2 _ _ dS B) Y ?_;refine wpAny_bind ?_;rw[Std.Legacy.Range.forIn_eq_forIn_range'];simp only [Std.Legacy.Range.size,Nat.sub_zero,Nat.add_sub_cancel,Nat.div_one];refine wpAny_forIn_list _
       (fun p _ Z=>∃ h' i,Z={s with heap:=h'}/\p=List.range' i (g.size - i)/\i<=g.size/\h'.SetOf knd s.heap.objs.size (fun z=>decide (z∈(vs.map (·.1)).take i)) i/\(∀ b o,b≠s.heap.objs.size->s.heap.get? b=some o->h'.get? b=some o))
       _ ?_ ?_ _ _ #[u3,0,Y,by simp,Nat.zero_le _,PyProof.Rows.SetOf_congr af (fun y=>by simp) Y,k2]
      ·rintro x P b Z ⟨h',i,rfl,C,hi,I,m⟩;have D:i < g.size:=by
        rcases Nat.lt_or_ge i g.size with h | h
        ·exact h
        ·rw[Nat.sub_eq_zero_of_le h] at C;simp at C
       obtain ⟨rfl,O⟩:x=i/\P=List.range' (i+1) (g.size - (i+1)):=by
        have e:g.size - i=(g.size - (i+1))+1:=by omega
        rw[e,List.range'_succ] at C;injection C with h1 u3;exact ⟨h1,u3⟩
       refine wpAny_bind (wpAny_dictEntries (m _ _ dS B) rfl ?_);rw[Array.getElem?_eq_getElem D];obtain ⟨kv,N⟩:∃ kv,vs[x]?=some kv:=⟨vs[x]'(by omega),List.getElem?_eq_getElem _⟩;obtain ⟨k,v⟩:=kv;obtain ⟨n,ao⟩:=l.get? (e:=g[x]) (by simp[D]) N;obtain ⟨V,K,H⟩:=L g[x] (Array.getElem_mem D);obtain rfl:V=k:=knd.inj _ _ _ K n;show wpAny _ _ (holding [g[x].key] (setAddHashed s.heap.objs.size g[x].key g[x].hash) >>= _) _ _ _;rw[H];refine wpAny_bind (wpAny_holding (wpAny_setAddHashed_of n (hsc _ _ n) I (by unfold scanBound;omega) fun h3 ak ag=>?_));have k3:∀ b o,b≠s.heap.objs.size->s.heap.get? b=some o->h3.get? b=some o:=fun b o S e=>(ak.2 b S).trans (m b o S e)
       refine wpAny_bind<|wpAny_dictEpoch (k3 _ _ dS B) Y ?_;rw[if_neg<|by simp];have aj:V∉(vs.map (·.1)).take x:=fun q=>by
        obtain ⟨j,hj⟩:=List.mem_iff_getElem?.mp q;have hl:=(List.getElem?_eq_some_iff.mp hj).1;rw[List.length_take] at hl;rw[List.getElem?_take_of_lt<|by omega] at hj;have hx:(vs.map (·.1))[x]?=some V:=by rw[List.getElem?_map,N];rfl
        have a:=List.getElem?_eq_some_iff.mp hx;have b:=List.getElem?_eq_some_iff.mp hj;have:=(List.getElem_inj ah).mp (a.2.trans b.2.symm);omega
       refine wpAny_pure #[h3,x+1,Y,O,D,PyProof.Rows.SetOf_congr ag (fun y=>?_) (by rw[if_neg<|by simpa using aj]),k3];rw[List.take_add_one,List.getElem?_map,N];show (decide (y∈(vs.map (·.1)).take x) || decide (y=V))=decide (y∈(vs.map (·.1)).take x++[V]);simp
      ·rintro b Z ⟨h',i,rfl,C,hi,I,m⟩;have ac:i=g.size:=by
        have:=congrArg List.length C;simp at this;omega
       subst ac;refine wpAny_pure ?_;show wpAny _ _ (ret Value.none) _ _ _;refine wpAny_pure #[Y,h',Y,PyProof.Rows.SetOf_congr I (fun y=>by rw[List.take_of_length_le (by rw[List.length_map];omega)]) ae,fun b o S e=>m b o (Nat.ne_of_lt S) e]
     ·cases aw with
      |error e=>exact M
      |ok fl₂=>
        cases fl₂ with
        |ret r=>
          obtain ⟨rfl,h',rfl,W,m⟩:=M
          repeat (any_goals (first | assumption | wp_step))
          refine h _ W m ?_;obtain ⟨o,g,ep,t,ho,p⟩:=W;exact Heap.lt_size ho
        |_=>exact M.elim
   |_=>exact C.elim
end
def iQ:entryFor table "set.__ne__"=U C3.«frozenset.__ne__»:=KH (id':="frozenset.__ne__") (by kernel_rfl) Y M4 (by kernel_rfl)
section
variable{prog:Bn}{w:Bw}{A:BQ}{E:Ai->Au->Prop}{s:Au}{K:Type}[DecidableEq K]{knd:KeyKind prog w K}
def pL{h:BO}{a:Ag}{S S':K->Bool}{n n':Nat}(hS:h.SetOf knd a S n)(e:∀k,S k=S' k)(en:n=n'):h.SetOf knd a S' n':=by have:=funext e;subst this;subst en;exact hS
def size_of{a:Ag}{o:CL}{es:Array (Int×Ai)}{ep:Nat}{t:KO}{Q:Nat->Au->Prop}(ho:s.heap.get? a=U o)(hd:o.data=.set es ep t)(hf:t.fits es.size=Af)(h:Q es.size s):AW (A9 prog w) A (Jo a) Q E s:=by
 exact Ad (F4 ho hd hf<|Aw h)
def sG{x:Ai}(h:x.scannable=Af):Fh x=pure Af:=by cases x<;>first|rfl|cases h
def qA{a b:Ag}{oa ob:CL}{ea eb:Array (Int×Ai)}{pa pb:Nat}{t t':KO}{Q:List (Int×Ai)->Au->Prop}(hoa:s.heap.get? a=U oa)(da:oa.data=.set ea pa t)(fa:t.fits ea.size=Af)(hob:s.heap.get? b=U ob)(db:ob.data=.set eb pb t')(fb:t'.fits eb.size=Af)(la:∀e∈ea.toList,e.2.scannable=Af)(lb:∀e∈eb.toList,e.2.scannable=Af)(h:Q ea.toList s):AW (A9 prog w) A (C3.Frozenset.walkUnseen a b) Q E s:=by
 refine Ad<|F4 hoa da fa<|Ad<|F4 hob db fb<|Ad ?_;refine Kd _ (λc b g=>b=(Ah,())/\g=s/\∀e∈c,e.2.scannable=Af) _ ?_ ?_ _ _ #[Y,Y,λe d=>(Bd.mp d).elim (la e) (lb e)]
 ·rintro⟨i,x⟩c _ _⟨rfl,rfl,f⟩;show AW _ _ (Fh x >>= _) _ _ _;rw[sG<|f _<|.head _];exact Aw #[Y,Y,λe d=>f e<|.tail _ d]
 ·rintro _ _⟨rfl,rfl,_⟩;exact Aw h
def zV{a b:Ag}{S T:K->Bool}{n m:Nat}{ks:List K}{id:String}{Q:Bool->Au->Prop}(ha:s.heap.SetOf knd a S n)(hb:s.heap.SetOf knd b T m)(hnm:n<=m)(hks:∀k,S k=Af↔k∈ks)(h:Q (ks.all T) s):AW (A9 prog w) A (Fd id a b) Q E s:=by
 have R:=ha;have B:=hb;let(oa,L,X,t,g,y0,v,G,D,ba,u,rfl):=ha;let(ob,eb,pb,Z,p,xb,j0,V,mb,bb,H,rfl):=hb;unfold Fd;refine Ad<|size_of g v u<|Ad<|size_of p j0 H ?_;rw[Ay M6];refine Ad<|JT g v u ?_;refine Ad<|qA g v u p j0 H (λe c=>(G e c).2) (λe c=>(V e c).2)<|Ad ?_;refine Kd _ (λj N M=>N=(Ah,())/\M=s/\∃f,L.toList=f++j/\∀e∈f,∀k,knd.is k e.2=Af->T k=Af) _ ?_ ?_ _ _ #[Y,Y,[],Y,λe c=>(by cases c)]
 ·rintro ⟨u3,x⟩ j _ _ ⟨rfl,rfl,f,d,z⟩;have I:(u3,x)∈L.toList:=by rw[d];simp
  let((k,o,c),q):=G _ I;dsimp only at o c q;subst c;show AW _ _ (holding [x] (setFind b x<|knd.hash k) >>= _) _ _ _;refine Ad<|BG<|wpAny_setFind_of o q B λr F=>?_
  cases r with
  |none=>
    have y:T k=An:=F.symm;have C:S k=Af:=(D k).mpr #[_,I,o];have e:ks.all T=An:=by
     cases P:ks.all T with
     |false=>rfl
     |true=>rw[BL.mp P k<|(hks k).mp C]at y;cases y
    rw[e]at h;exact Aw<|Aw h
  |some i=>
    have y:T k=Af:=F.symm;show AW _ _ (E7 id a X >>= _) _ _ _;unfold E7;refine Ad<|Ad<|JT g v u ?_;rw[Ay M8];refine Aw<|Aw #[Y,Y,f++[(knd.hash k,x)],by rw[d];simp,λe c O l=>?_];rcases Bd.mp c with c|c
    ·exact z e c O l
    ·rw[As.mp c]at l;rw[knd.inj _ _ _ l o];exact y
 ·rintro _ _⟨rfl,rfl,f,d,z⟩;have e:ks.all T=Af:=BL.mpr λk o=>by
   let(e,c,W):=(D k).mp ((hks k).mpr o);rw[d,B7]at c;exact z e c k W
  rw[e]at h;exact Aw h
def Aie {a b:Addr} {S T:K->Bool} {n m:Nat} {ks:List K} {Q:Value->Shared->Prop} (ha:s.heap.SetOf knd a S n) (hb:s.heap.SetOf knd b T m) (hu:A.units < cLine) (hks:∀ k,S k=true↔k∈ks)
  (h:Q (.bool<|!(n == m&&ks.all T)) s):
  wpAny (model prog w) A (compareOp .NotEq (.ref a)<|.ref b) Q E s:=by
 refine wpAny_richCompare_same_room (op:=.NotEq) ha.typeIs hb.typeIs PySem.F.slot_set_ne (wpAny_call_entry PySem.F.slot_set_ne ha.typeIs iQ ?_<|PySem.F.args_set_ne_2 _ _) hu;show wpAny _ _ (Builtin.Frozenset.slot1 "__ne__" _ >>= _) _ _ s;have N:=hb.typeIs;have r:=ha.typeIs;have j:=ha;have g:=hb;obtain ⟨u3,o,V,t,i,B,q,P,j0,L,p,rfl⟩:=ha;obtain ⟨H,d,M,C,c,O,y,R,G,D,v,rfl⟩:=hb;have u:=F.sub_set_set;have l:=F.sub_set_frozenset;generalize hSZ:Builtin.Frozenset.sizeOf=I;generalize hSB:Builtin.Frozenset.subsetOf=z
 wp_walk
 subst hSZ;refine size_of i q p ?_;refine wpAny_bind<|size_of c y v ?_;refine wpAny_bind ?_;by_cases e:o.size=d.size
 ·rw[if_neg<|by simpa using e];subst hSB;have f:(o.size == d.size)=true:=by simpa using e
  rw[f] at h;refine wpAny_bind ?_;refine wpAny_bind<|wpAny_isInstance r l ?_;refine wpAny_pure ?_;refine zV j g (by omega) hks ?_;exact wpAny_pure #[_,Y,(fun x=>nomatch x),h]
 ·rw[if_pos<|by simpa using e];have f:(o.size == d.size)=false:=by simpa using e
  rw[f] at h;exact wpAny_pure (wpAny_pure #[_,Y,(fun x=>nomatch x),h])
end
def AdA(P:Bn)(w:Bw)(a:Ag)(ks:LM):HO:=.ext λh=>h.SetOf (Oj P w) a (λk=>ks.any λx=>decide<|x=k) ks.length
def AbC{P:Bn}{w:Bw}(k:Key)(u:Ai)(h:(Oj P w).is k u=Af):u.scannable=Af:=by
 have r:=ZO h;rcases k with i|z
 ·let(t,rfl):=r;rfl
 ·let(t,rfl):=r;rfl
section
variable{X:Cx}
def eR:P7 X (.type "set") (λxs H Q=>∃(p:Ag)(kvs:LA),xs=[.ref p]/\Rd H p (.dK kvs)/\kvs.length<=5/\∀l,H l=Ah->Q (.ref l) (upd H l (AdA X.prog X.w l (kvs.map (·.1))))):=by
 intro j s J H xs L Q I r h;let(p,kvs,rfl,y,K,k):=h;let(u,rfl,C):=vals1 r;cases C;let(z,n,G,c,B):=Qy I.N5 y;have A:=AE c;have v:=(KV.keys c).symm;refine set_dict B AbC M6 n λF f g q=>?_
 rw[v,<-A]at f;refine#[.ref _,_,I.laid (λb o e=>g b o (AU e) e) (Ao _) ?_,Y,k _<|I.N5.fresh<|Ao _];refine#[pL f (λk=>by rw[BM];simp) (by rw[Ac]),?_,λj0 E x D=>?_]
 ·let(o,i,m,t,d,a):=f;exact#[o,d]
 ·let(o,i,m,t,d,a):=x;exact#[o,i,m,t,D _ d,a]
def AbV(hu:X.A.units+64<Cd):RU X (Be .NotEq) (λx y H Q=>∃(a b:Ag)(ks js:LM),x=.ref a/\y=.ref b/\H a=U (AdA X.prog X.w a ks)/\H b=U (AdA X.prog X.w b js)/\Q (.bl<|!(ks.length==js.length&&ks.all λk=>js.any λx=>decide<|x=k)) H):=by intro c s J H x y v u Q I g j h;let(a,b,ks,js,rfl,rfl,e,i,k):=h;cases g;cases j;let(d,_):=I.N5 a _ e;let(f,_):=I.N5 b _ i;exact Aie d f M6 (λk=>M8) #[.bl _,H,I,Y,k]
end
def Rj.PJ(ok:Rj Hs)(g:∀e∈Hs,Good e.1):PX Hs:=#[ok.nd,ok.ne,ok.Adv,λe a f b c t d h=>c<|ok.AfR e a f b t d h,λe a=>ok.len e a,by have:=ok.bS;omega,g]
def fY:∀(f n r:Nat),r<=1->32<=n->n<=f->minRun' f n r<=max 64 n
 |0,n,r,_,h1,h2=>M6
 | f+1,n,r,h0,h1,h2=>by
   rw[minRun'_succ];by_cases h:n<64
   ·rw[AG h];omega
   ·rw[Ay h];have:=fY f (n / 2) (max r<|n%2) M6 M6 M6;omega
def iJ{st:KW}(hk:Gs a₀)(hb:SBase a₀ st)(h2:2<=a₀.size)(hs:FT (Dz st) a₀.size)(h:Q (U a₀.size) st):wpS (A9 prog w) A E s (countRun' 0 a₀.size) Q st:=by
 rw[countRun'_eq];simp only[Em];refine Fe<|KS (Q:=λc a=>c=(Ah,a₀.size)/\a=st) (wpS_ascLoop hk (Ao _) (Ao _) M6 hb (λi j b f=>hs i j b M6) λn b f g d=>?_) ?_
 ·rcases d with rfl|d
  ·exact#[Y,Y]
  ·by_cases e:n=a₀.size
   ·subst e;exact#[Y,Y]
   ·exact absurd (hs (n-1) n M6 M6) M6
 ·rintro c a⟨rfl,rfl⟩;rw[AG M8];exact HS h
def kZ{st:KW}(hk:Gs a₀)(hb:SBase a₀ st)(h2:64<=a₀.size)(hs:FT (Dz st) a₀.size)(h:∀(st':KW),(Dz st').Perm a₀->FR st'=Ah->FT (Dz st') a₀.size->Q () st'):wpS (A9 prog w) A E s sortRuns' Q st:=by
 have k:=hb.perm.size_eq;rw[sortRuns'_eq];refine Fe<|wpS_get ?_;rw[k];refine Fe<|KS (Q:=λ(c)st'=>c=(Ah,a₀.size)/\Dz st'=Dz st/\FR st'=Ah/\(pendingOf st').size=1) (wpS_forRange (λi(c)st'=>(i=0/\c=(Ah,0)/\st'=st)\/(1<=i/\c=(Ah,a₀.size)/\Dz st'=Dz st/\FR st'=Ah/\(pendingOf st').size=1)) ?_ ?_<|.inl #[Y,Y,Y]) ?_
 ·rintro i c st' _ n(⟨l,rfl,e⟩|⟨p,rfl,g,j,m⟩)
  ·rw[e];rw[Ay M6];refine Fe<|iJ hk hb M6 hs ?_;dsimp only;have o:=fY a₀.size a₀.size 0 M6 M6 M6;rw[Ay M6];refine Fe<|wpS_get ?_;rw[hb.pend];refine Fe<|wpS_modify ?_;refine HS ?_;exact .inr #[M6,by rw[Em],Y,hb.failed,by rw[hb.pend];rfl]
  ·rw[AG<|Ao _];exact HS #[Y,g,j,m]
 ·rintro c st'(⟨l,_,_⟩|⟨_,a,b,c,d⟩)
  ·exact absurd l M6
  ·exact#[a,b,c,d]
 ·rintro c st'⟨rfl,g,j,m⟩;refine Fe<|KS (Q:=λ(c)f=>c=(Ah,())/\f=st') (wpS_forRange (λi(c)f=>c=(Ah,())/\f=st') ?_ ?_ #[Y,Y]) ?_
  ·rintro i c f _ n⟨rfl,e⟩;rw[e];refine Fe<|wpS_get ?_;rw[AG M6];exact HS #[Y,Y]
  ·exactλ_ _ h=>h
  ·rintro c f⟨rfl,e⟩;rw[e];exact HS (h st' (by rw[g];exact hb.perm) j (by rw[g];exact hs))
def uI:∀{vs:LB}{ns:LD},CG vs ns->∀{i:Nat}{x:Int},ns[i]?=U x->∃t,vs[i]?=U (.int x t)
 | _,_,.cons n t h,0,x,e=>by
   injection e with e;exact#[t,by rw[<-e];rfl]
 |_,_,.cons n t h,i+1,x,e=>uI h (i:=i) (by simpa using e)
def Aa6(h:CG vs ns)(e:ns[i]?=U x):HD (Ka vs) i=x:=by
 let(t,a):=uI h e;have:(Ka vs)[i]?=U (.int x t,.int x t):=by unfold Ka;rw[Array.getElem?_zip_eq_some];exact#[by simpa using a,by simpa using a]
 unfold HD;rw[this];rfl
def nH:∀{vs:LB}{ns:LD},CG vs ns->vs.length=ns.length
 |_,_,.nil=>rfl
 |_,_,.cons n t h=>by rw[AI,AI,nH h]
def cU{n:Nat}(ho:s.heap.get? a=U (seqObj "list" vs.toArray n))(hi:CG vs ns)(hl:64<=vs.length)(hl2:vs.length<=sizeLine)(hp:ns.Pairwise (·<=·))(h:∀(out:LS)(ns':LD),CG out.toList ns'->ns'.Perm ns->ns'.Pairwise (·<=·) ->
         P (Fin.done<|K3 Cz)
          {heap:=JI s.heap a vs out,gens:=s.gens,drawn:=s.drawn,toks:=s.toks,os:=s.os}):
     AW (A9 prog w) A (C3.«list.sort» {pos:=[Bz a]}) P E s:=by
 rw[Kv];refine Ad<|wpAny_listItems ho Y ?_;refine Ad<|C1 ho Y ?_ (by simpa using hl2) (by show 0<=_;omega);have l:(s.heap.update a<|BH λx=>#[]).get? a=U _:=D6 _ ho Y;refine Ad<|Ad<|JC l<|Aw ?_;refine Ad<|HJ ?_ (by simpa using hl2);refine Ad<|CY ?_;refine BG ?_;obtain⟨t,u,m,e⟩:∃t u m,vs=t::u::m:=by
  match vs,hl with
  |a::b::c,_=>exact#[a,b,c,Y]
 have k:¬ vs.toArray.size<2:=by simp;omega
 rw[Ay k];have q:keyKind' vs.toArray=pure oneType':=by rw[e];exact keyKind_ints (by rw[<-e];exact hi)
 rw[q];refine Ad<|Aw ?_;rw[Ay k];have y:=pairsOf_size vs;have F:FT _ vs.length:=λi j r H=>by
  have j0:=nH hi;have v:j<ns.length:=M6;have g:i<ns.length:=M6;rw[Aa6 hi<|Ae v,Aa6 hi<|Ae g];rcases Nat.eq_or_lt_of_le r with rfl|r
  ·exact Gx _
  ·exact List.pairwise_iff_getElem.mp hp i j g v r
 refine Ad ?_;refine B1 (kZ (Q:=λ_ d=>(Dz d).Perm _/\FR d=Ah/\FT (Dz d) _) hi.intKeys #[.refl _,Y,Y,Y] M6 (by rw[y];exact F) λd a b c=>#[a,b,c]) ?_ (λ_ _ h=>h);rintro⟨_,d⟩G⟨rfl,f,C,p⟩;have o:=Am {cls:=El "list",data:=K4 #[]} (Am {cls:=El "tuple",data:=K4 vs.toArray} l);refine Ad<|Ad<|JC o<|Aw ?_;have I:(Dz d).size=vs.length:=by rw[f.size_eq];exact y
 refine Ad<|C1 o Y ?_ (by show 0<=_;omega) (by show(Kx _<|Dz d).size<=_;rw[GL];omega);rw[C];rw[Ay M8];let(ns',z,D,B):=sorted_out hi f p;exact Aw (h _ ns' z D B)
def jS{n:Nat}(ho:s.heap.get? a=U (seqObj "list" vs.toArray n))(hi:CG vs ns)(hl2:vs.length<=sizeLine)(hp:ns.Pairwise (·<=·))(h:∀(out:LS)(ns':LD),CG out.toList ns'->ns'.Perm ns->ns'.Pairwise (·<=·) ->
         P (Fin.done<|K3 Cz)
          {heap:=JI s.heap a vs out,gens:=s.gens,drawn:=s.drawn,toks:=s.toks,os:=s.os}):
     AW (A9 prog w) A (C3.«list.sort» {pos:=[Bz a]}) P E s:=by
 by_cases b:vs.length<64
 ·exact list_sort_tree ho hi b h
 ·exact cU ho hi M6 hl2 hp h
section
variable{X:Cx}
def sE:Lx->Hp->VK->Prop:=λxs H Q=>∃(p:Ag)(kvs:LA)(ns:LD),xs=[.ref p]/\Rd H p (.dK kvs)/\kvs.map (·.1)=ns.map C5/\ns.Pairwise (·<·) /\
  ∀l,H l=Ah->Q (.ref l) (upd H l<|.lst<|ns.map V.int)
def bY(hc:X.calm=Af):P7 X (.builtin "sorted") sE:=by
 intro A s J H xs us Q I r h;let(p,j,C,rfl,hp,v,q,k):=h;let(u,rfl,ru):=vals1 r;cases ru;let(z,O,vs,y,dd):=Qy I.N5 hp;have hl:=AE y;have aa:j.length=C.length:=by have:=congrArg Ez v;simpa using this
 let(ep,F):=dd.dictAt;refine Es Hd GJ GK (IW _) ?_;refine Ad<|Aw ?_;refine Ad<|Ed (Ex O) (I.ok.hd hc) F M6 λK V d T c=>?_
 have hS:CG d.toList C:=by
  refine intsAre_of<|QS (by have:=c.1;simp only[Ac,AZ];omega) λi x u B N=>?_
  rw[B4]at N;let(t,w,D,E):=c.2 i u N;rw[Aj]at B;cases g:C[i]? with
  |none=>rw[g]at B;cases B
  |some n=>
    rw[g]at B;cases B;have hi:i<j.length:=by have:=(Av.mp g).1;omega
    let(y0,v',Z,e1,M,_):=y.get hi;rw[D]at M;obtain⟨rfl,rfl⟩:t=y0/\w=Z:=by simpa using M
    have:=congrArg (λl=>l[i]?) v;rw[Aj,Aj,e1,g]at this;have:t=C5 n:=by simpa using this
    subst this;exact ZO E
 have u3:d.toList.length=C.length:=by rw[AZ,c.1];omega
 refine Ad<|CY ?_ M6;have j0:Inv X A J H {s with heap:=K,toks:=V}:=I.kept T;have f:(K.push<|seqObj "list" d.toList.toArray 0).get? _=U _:=AN _ Y;refine Ad<|BG<|CI FP #[_,f,Y] Fw (jS f hS M6 (q.imp Kq) λG ms P b2 S=>#[_,Y,?_])<|HW _;refine Aw #[_,Y,?_];have hn:=j0.fresh;let(e,g):=IC f;have em:=Gq (λa b _ _ W R=>Int.le_antisymm W R) S (q.imp Kq) b2;subst em;refine#[.ref _,_,j0.laid (o:=.lst _) (λb o L=>?_) (Ao _) #[?_,G.toList,e,XW P,?_],Y,k _ hn]
 ·have m:=AU L;rw[HU (Bg m) (by rw[HV];exact F7 m)];exact Am _ L
 ·rw[Ac];omega
 ·exact g
end
section
variable{κ α:Type}[DecidableEq κ]
variable{g:α->κ}
def P2(g:α->κ)(xs:List α)(e:α):List α:=if(xs.any λx=>decide<|g x=g e)=Af then xs.map (λx=>if g x=g e then e else x)else xs++[e]
def WE(h:g e∉xs.map g):P2 g xs e=xs++[e]:=by unfold P2;rw[Ay];intro q;let(x,a,z):=B0.mp q;exact h (by rw[<-B2 z];exact A8 a)
def gF(xs:List α)(e:α):(P2 g xs e).map g=if g e∈xs.map g then xs.map g else xs.map g++[g e]:=by
 by_cases h:g e∈xs.map g
 ·rw[AG h];unfold P2;let(x,a,z):=AR.mp h;rw[AG<|B0.mpr #[x,a,Ap z],AO];refine Bp λy _=>?_
  by_cases q:g y=g e
  ·show g (if g y=g e then e else y)=g y;rw[AG q,q]
  ·show g (if g y=g e then e else y)=g y;rw[Ay q]
 ·rw[Ay h,WE h,Bi];rfl
def Afd(nd:(xs.map g).Nodup)(e:α):((P2 g xs e).map g).Nodup:=by
 rw[gF];split
 ·exact nd
 ·rename_i h;refine DR.mpr #[nd,M8,λa c b d z=>?_];rw[As.mp d]at z;exact h (z▸c)
def WD(h:x∈P2 g xs e):x=e\/x∈xs:=by
 unfold P2 at h;split at h
 ·let(y,a,z):=AR.mp h;split at z
  ·exact .inl z.symm
  ·exact .inr<|z▸a
 ·rcases Bd.mp h with h|h
  ·exact .inr h
  ·exact .inl (As.mp h)
def Z6(xs:List α)(e:α):(P2 g xs e).length<=xs.length+1:=by
 unfold P2;split
 ·rw[Ac];omega
 ·rw[AM];exact Ao _
end
inductive WR where|top|decl|RC|left|kept|post|uw|asks|begun|Abt|OX (k:Int)|Zh (k:Int)|ask (n:Nat)|NX (n:Nat)
inductive Rl where|own (n:Nat)|wd (i:Nat) (r:WR)
structure Ro where
 of:Ag->Option Rl
 ts:L1
instance:CoeFun Ro (λ_=>Ag->Option Rl):=⟨Ro.of⟩
def AlC:HO->Prop
 |.ins _ _ _=>True
 |.dK _=>True
 |.dT _=>True
 |.lst _=>True
 |.Rg _ (.dK _)=>True
 |.Rg _ (.dT _)=>True
 |_=>False
structure AlF(ρ:Ro)(H:Hp):Prop where
 mu:∀a r,ρ a=U r->∃o,H a=U o/\AlC o
 tb:∀x∈ρ.ts,Tab x.1 x.2.1 x.2.2 H
structure AoK(R:Rl->Prop)(ρ:Ro)(H:Hp)(ρ':Ro)(H':Hp):Prop where
 keep:∀a u,(∀r,ρ a=U r->¬ R r)->(∀ps,u≠.RQ ps)->H a=U u->H' a=U u
 role:∀a u,H a=U u->ρ' a=ρ a
 tab:∀a ps,H a=U (.RQ ps)->∃ps',H' a=U (.RQ ps')
 ts:ρ'.ts=ρ.ts
 ok:AlF ρ' H'
section
variable{H:Hp}
def Tab.Aiy{pos:CU}(h:Tab P pos q H)(ha:H a=U o)(m:AlC o):Tab P pos q (L2.upd H a o'):=h.upd ha (λ_ z=>by rw[z]at m;exact m) λc z=>by rw[z]at m;exact m
end
structure Lt where
 num:Int
 Pd:AA
 ask:LG
 PJ:AA
 key:Int
 Ym:OU
abbrev Mh:=List Lt
structure Ak where
 kind:AA
 mC:AA
 key:Int
 qR:Int
 qV:OU
 ahead:List (AA×Int)
 NX:Lw
 pQ:AA
structure Sf where
 key:Int
 c:Int
 r:Int
 w:Int
 sh:LL
abbrev LZ:=List Sf
abbrev tP:=(AA×Int)×OU
abbrev QU:=(AA×AA×Int)×OU
abbrev LK:=List QU
abbrev V1(e:AA×Int):LM:=[.inr e.1,.inl e.2]
abbrev OM(e:AA×AA×Int):LM:=[.inr e.1,.inr e.2.1,.inl e.2.2]
def oI:LG->V
 |none=>.Of
 |some n=>.int n
structure PR where
 Hs:Q5
 Ts:LZ
 away:Lw
 hints:LK
 OF:Int
 Ls:Mh
 Ms:List Ak
 VL:List tP
structure WC where
 W:Ag
 T:Ag
 P:Ag
 L:Ag
 S:Ag
 A:Ag
 H:Ag
structure WA where
 t:Ag
 dh:Ag
 dd:Ag
 da:Ag
 lf:Ag
 kp:Ag
 po:Ag
 uw:Ag
 as:Ag
 bg:Ag
 lr:Ag
structure gX(OF:Int)(Ls:Mh):Prop where
 up:(Ls.map (·.num)).Pairwise (·<·)
 le:∀L∈Ls,L.num<=OF
def gX.nd(h:gX OF Ls):(Ls.map λL=>(.inl L.num:Key)).Nodup:=by
 have:(Ls.map λL=>(.inl L.num:Key))=(Ls.map (·.num)).map C5:=by rw[AO];rfl
 rw[this];refine Df.mpr<|h.up.imp λ{a b}q e=>?_
 injection e with e;omega
def gX.snoc(h:gX OF Ls)(Pd:AA)(ask:LG)(PJ:AA)(key:Int)(E:OU):gX (OF+1) (Ls++[#[OF+1,Pd,ask,PJ,key,E]]):=by
 refine#[?_,λL c=>?_]
 ·rw[Bi];refine Ik.mpr #[h.up,List.pairwise_singleton _ _,λa d b f=>?_];let(L,c,rfl):=AR.mp d;have e:b=OF+1:=by simpa using f
  have:=h.le L c;omega
 ·rcases Bd.mp c with c|c
  ·have:=h.le L c;omega
  ·rw[As.mp c];exact Gx _
structure YY(Ts:LZ):Prop where
 nd:(Ts.map λT=>(.inl T.key:Key)).Nodup
 key:∀T∈Ts,0<=T.key/\T.key<256
 bS:∀T∈Ts,T.sh.length<=5
 one:∀T∈Ts,(T.sh.map (·.1)).Nodup
def Ta(Pd:AA)(ask:LG)(key:Int)(E:OU):Int->Lw->Mh
 |_,[]=>[]
 |s,z::zs=>#[s+1,Pd,ask,z,key,E]::Ta Pd ask key E (s+1) zs
def Z0{ask:LG}:∀{zs:Lw}{s:Int},Ta Pd ask key E s (zs++[z])=Ta Pd ask key E s zs++[#[s+zs.length+1,Pd,ask,z,key,E]]
 |[],s=>by simp[Ta]
 | y::ys,s=>by
   rw[Gf,Ta,Ta,Z0,Gf,AI];rw[show s+1+(ys.length:Int)+1=s+((ys.length+1:Nat):Int)+1 by push_cast;omega]
def XB{ask:LG}:∀{zs:Lw}{s:Int},(Ta Pd ask key E s zs).length=zs.length
 |[],s=>rfl
 |y::ys,s=>by rw[Ta,AI,XB,AI]
def PY(L:List tP)(z:AA)(k:Int):OU:=((L.find? λe=>decide<|V1 e.1=V1 (z,k)).map (·.2)).getD []
def Ah6(K:Ab)(neg:Bool):R2:=λx y H Q=>∃(p q:Ag)(xs:Lx),x=.ref p/\y=.ref q/\Pb K H p xs/\Pb K H q []/\Q (.bl (if neg then !xs.isEmpty else xs.isEmpty)) H
def AcG(hu:X.A.units<Cd)(I:Inv X pins J H s)(h1:Pb X.K H p xs)(h2:Pb X.K H q []):FD X.A s (.ref p) (.ref q) xs.isEmpty/\EM X.A s (.ref p) (.ref q) (!xs.isEmpty):=by
 cases xs with
 |nil=>exact Ah9 hu I (.inl #[h1,h2]) Y Y
 |cons x xs=>
   let(d,r,c,_):=I.list h1;let(h,e,a,_):=I.list h2;have f:=r.length;have g:=e.length;have b:(d.toArray.size != h.toArray.size)=Af:=by simp only[Aq,bne_iff_ne];simp only[AI,CN]at f g;omega
   exact#[Ej c.isList a.isList b hu,D8 c.isList a.isList b hu]
def AhD(hu:X.A.units<Cd){K₀:Ab}{NR:Hp}[hK:N3 X K₀ NR]:RU X (Be .Eq) (Ah6 K₀ An):=by let(rfl,rfl):=hK;intro a s J H x y v u Q I d e h;let(p,q,f,rfl,rfl,c,b,k):=h;cases d;cases e;exact(AcG hu I c b).1 _ _ _ _ #[.bl _,H,I,Y,k]
def oF[DecidableEq α]:∀{l m:List α},l.Nodup->(∀a∈l,a∈m)->l.length<=m.length
 |[],_,_,_=>Bv _
 | a::l,m,nd,h=>by
   rw[Bc]at nd;have c:=h a<|.head _;have:=oF (m:=m.erase a) nd.2 λb d=>(Ef λz=>nd.1 (by rw[<-z];exact d)).mpr (h b<|.tail _ d)
   rw[Cm c]at this;have:=HG c;rw[AI];omega
def AhG(hu:X.A.units<Cd){K₀:Ab}{NR:Hp}[hK:N3 X K₀ NR]:RU X (Be .NotEq) (Ah6 K₀ Af):=by let(rfl,rfl):=hK;intro a s J H x y v u Q I d e h;let(p,q,f,rfl,rfl,c,b,k):=h;cases d;cases e;exact(AcG hu I c b).2 _ _ _ _ #[.bl _,H,I,Y,k]
def Ru(S:LL)(z:AA):OU:=((S.find? λe=>decide<|(.inr e.1:Key)=.inr z).map (·.2)).getD []
def Wr(T:Sf)(z:AA)(E:OU):Sf:=if z∈T.sh.map (·.1)then{T with sh:=P2 (λe=>(.inr e.1:Key)) T.sh (z,Og (Ru T.sh z) E)}else T
def uL:(Wr T z E).key=T.key:=by unfold Wr;split<;>rfl
def Rq(A:Ak)(z:AA)(E:OU):Ak×Bool:=if A.pQ≠"open"\/z∈A.NX then(A,An)
 else if((A.NX.length:Int)+1)<A.qR then({A with NX:=A.NX++[z],qV:=Og A.qV E},An)
 else({A with NX:=A.NX++[z],qV:=Og A.qV E,pQ:="done" },Af)
def fF:(Rq A z E).1.kind=A.kind:=by
 unfold Rq;split
 ·rfl
 ·split<;>rfl
def UZ(Ts:LZ)(T:Sf):LZ:=Ts.map λx=>if(.inl x.key:Key)=.inl T.key then T else x
def OW(qs:Lw)(E:OU):Prop:=(E.map (·.1)).Nodup/\∀m,(look E m).isSome=Af->m∈qs
def OW.nil:OW qs []:=#[.nil,λ_ h=>by cases h]
def OW.len(h:OW qs E):E.length<=qs.length:=by
 have:=oF h.1 λa b=>by
  let(x,c,rfl):=AR.mp b;exact h.2 _ (by rw[RL h.1<|(c)];rfl)
 rwa[Ac]at this
def OW.join(h:OW qs E)(g:OW qs F):OW qs (Og E F):=#[uQ h.1,λm a=>by
 rw[xX g.1]at a;cases e:look E m with
 |some x=>exact h.2 m (by rw[e];rfl)
 |none=>
   rw[e]at a;exact g.2 m a]
def eX[DecidableEq κ]{k:κ}(xs:List α):(P2 g xs e).find? (λx=>decide<|g x=k)=if g e=k then U e else xs.find? (λx=>decide<|g x=k):=by
 have d:∀b:List α,(b.map λx=>if g x=g e then e else x).find? (λx=>decide<|g x=k)=if g e=k then(if(b.any λx=>decide<|g x=g e)=Af then U e else b.find? (λx=>decide<|g x=k))else b.find? (λx=>decide<|g x=k):=by
  intro b;induction b with
  |nil=>simp
  |cons y b ih=>
    rw[Az,A7,ih,A7];by_cases c:g y=g e
    ·by_cases a:g e=k
     ·simp[c,a]
     ·simp[c,a]
    ·by_cases a:g e=k
     ·have i:¬ g y=k:=λz=>c (z.trans a.symm)
      simp[c,a,i]
     ·simp[c,a]
 unfold P2;split
 ·rename_i h;rw[d,h];simp
 ·rename_i h;rw[Jb];by_cases a:g e=k
  ·have:=Ck.mpr λx j f=>h (B0.mpr #[x,j,by rw[a];exact f])
   rw[this];simp[a]
  ·simp[a]
def Aeq(L:List tP)(z y:AA)(k j:Int)(F:OU):PY (P2 (λe=>V1 e.1) L ((z,k),F)) y j=if z=y/\k=j then F else PY L y j:=by
 unfold PY;rw[eX];by_cases h:z=y/\k=j
 ·rw[AG h,AG<|by rw[h.1,h.2]];rfl
 ·rw[Ay h,Ay (λe=>h (by
   injection e with e1 e2;injection e2 with e2;injection e1 with e1;injection e2 with e2;exact#[e1,e2]))]
def lW(T:Sf):Int×Lw:=(T.key,T.sh.map (·.1))
def Aij(S:LL)(z y:AA)(F:OU):Ru (P2 (λe=>(.inr e.1:Key)) S (z,F)) y=if z=y then F else Ru S y:=by
 unfold Ru;rw[eX];by_cases h:z=y
 ·rw[AG h,AG<|by rw[h]];rfl
 ·rw[Ay h,Ay (λe=>h (by
   injection e))]
def Ahd:lW (Wr T z E)=lW T:=by
 unfold Wr;split
 ·rename_i h;unfold lW;have:=gF (g:=λe:AA×OU=>(.inr e.1:Key)) T.sh (z,Og (Ru T.sh z) E);rw[AG (by
   let(x,b,e):=AR.mp h;exact AR.mpr #[x,b,by rw[e]])]at this
  have a:∀S:LL,S.map (λe=>(.inr e.1:Key))=(S.map _).map _:=λS=>by rw[AO];rfl
  rw[a,a]at this;have:=(List.map_inj_right λx y e=>by injection e).mp this;rw[this]
 ·rfl
def Aih(hz:z∈T.sh.map (·.1)):Ru (Wr T z E).sh y=if z=y then Og (Ru T.sh z) E else Ru T.sh y:=by unfold Wr;rw[AG hz];exact Aij _ _ _ _
def kX{Ts Ts':LZ}(e:Ts'.map lW=Ts.map lW){T:Sf}(h:T∈Ts'):∃T'∈Ts,lW T'=lW T:=by have:=A8 (f:=lW) h;rw[e]at this;exact AR.mp this
def YY.sk{Ts Ts':LZ}(h:YY Ts)(e:Ts'.map lW=Ts.map lW):YY Ts':=by
 refine#[?_,λT c=>?_,λT c=>?_,λT c=>?_]
 ·have f:∀S:LZ,S.map (λT=>(.inl T.key:Key))=(S.map lW).map λp=>(.inl p.1):=λS=>by rw[AO];rfl
  rw[f,e,<-f];exact h.nd
 ·let(a,b,q):=kX e c;have g:a.key=T.key:=congrArg Jy q;rw[<-g];exact h.key a b
 ·let(a,b,q):=kX e c;have d:a.sh.map _=T.sh.map _:=congrArg Jx q;have:=h.bS a b;rw[<-Ac,d,Ac]at this;exact this
 ·let(a,b,q):=kX e c;have d:a.sh.map _=T.sh.map _:=congrArg Jx q;rw[<-d];exact h.one a b
def AcR:∀{Ts:LZ},YY Ts->∀{T T':Sf},T∈Ts->T'∈Ts->T.key=T'.key->T=T':=λ{Ts}h{T T'}f d e=>by
 have c:=h.nd;clear h;induction Ts with
 |nil=>cases f
 |cons x xs ih=>
   rw[Az,Bc]at c;rcases AB.mp f with b|b
   ·rcases AB.mp d with a|a
    ·rw[b,a]
    ·exact(c.1<|AR.mpr #[T',a,by rw[<-b,e]]).elim
   ·rcases AB.mp d with a|a
    ·exact(c.1<|AR.mpr #[T,b,by rw[<-a,e]]).elim
    ·exact ih b a c.2
def Aif(tok:YY Ts)(hT:T∈Ts)(e:lW T'=lW T):(UZ Ts T').map lW=Ts.map lW:=by
 unfold UZ;rw[AO];refine Bp λx a=>?_
 show lW (if(.inl _:Key)=.inl _ then T' else x)=lW x;split
 ·rename_i h;injection h with h;have b:=congrArg Jy e;rw[AcR tok a hT<|h.trans b,e]
 ·rfl
def vL(h:T∈UZ Ts T'):T=T'\/(T∈Ts/\T.key≠T'.key):=by
 let(x,a,e):=AR.mp h;split at e
 ·exact .inl e.symm
 ·rename_i h;rw[<-e];exact .inr #[a,λz=>h<|by rw[z]]
def UH{ask:LG}:∀{D:Lw}{s:Int},L∈Ta Pd ask key E s D->L.Pd=Pd/\L.ask=ask/\L.key=key/\L.Ym=E/\L.PJ∈D
 | z::D,s,h=>by
   rcases AB.mp h with h|h
   ·rw[h];exact#[Y,Y,Y,Y,.head _]
   ·let(a,b,c,d,e):=UH h;exact#[a,b,c,d,.tail _ e]
structure LE where
 mo:Ag
 rw:Ag
 sa:Ag
 mi:Ag
 sh:Ag
 Hs:Q5
 qs:Lw
 Sk:List (Int×List AA)
structure LF where
 mo:Ag
 rw:Ag
 ak:Ag
 sh:Ag
 mi:Ag
 key:Int
 Hs:Q5
 qs:Lw
 D:Lw
 rd:Int
 wr:Int
def wk(t:TE):TE:=λJ H Q=>∃Q',t J H Q'/\∀v H1,Q' v H1->Q v H1
def PE.wk{t:TE}(h:PE X e t):PE X e (wk t):=λa s J H Q I⟨b,d,c⟩=>OG (h a s J H b I d) λ_ _⟨v,g,f,r,q⟩=>#[v,g,f,r,c _ _ q]
def PE.imp{t u:TE}(h:PE X e t)(m:∀J H Q,u J H Q->t J H Q):PE X e u:=λa s J H Q I b=>h a s J H Q I (m J H Q b)
def Alp(ks js:LM):Bool:=!(ks.length==js.length&&ks.all λk=>js.any λx=>decide<|x=k)
def Amp(ks:LM)(l:Ag)(H2:Hp)(Q:VK):VK:=λy H3=>∃q kws,y=.ref q/\Rd H3 q (.dK kws)/\kws.length<=5/\H3 l=H2 l/\∀H4,NV H3 H4->Q (.bl (Alp ks (kws.map (·.1)))) H4
def Aon(tb:TE)(J:St)(Q:VK):VK:=λx H1=>∃p kvs,x=.ref p/\Rd H1 p (.dK kvs)/\kvs.length<=5/\∀l H2,H1 l=Ah->H2 l≠Ah->NV H1 H2->tb J H2 (Amp (kvs.map (·.1)) l H2 Q)
abbrev Aoz(ta tb:TE):TE:=λJ H Q=>ta J H (Aon tb J Q)
def AnQ{X:Cx}{ta tb:TE}{a b:Expr}{p p' q q' pos:CU}{n:Nat}(hr:N8 n X.A)(hm:X.mg "set"=Ah)(ha:PE X a ta)(hb:PE X b tb)(hg:Gl X "set":=by rfl)(h1:AL [a] X.env=(An,eval a X.env)::AL [] X.env:=by rfl)(h2:AL [b] X.env=(An,eval b X.env)::AL [] X.env:=by rfl):PE X (.Compare (.Call (.Name "set" p) [a] [] q) [.NotEq] [.Call (.Name "set" p') [b] [] q'] pos) (Aoz ta tb):=by
 refine(Zc (AbV hr.units) (XH (he:=h1) eR hg hm Boot.b_set<|NU ha.wk N0 h1) (XH (he:=h2) eR hg hm Boot.b_set<|NU hb.wk N0 h2)<|XC _).imp λJ H Q h=>?_
 refine#[_,h,λx o⟨d,c,u,r,v,k⟩=>#[d,c,by rw[u],r,v,λl f=>?_]];refine#[_,k l (upd o l (AdA X.prog X.w l (c.map (·.1)))) f (by rw[NQ];intro z;cases z)<|(NV.refl o).upd f,λy C⟨e,j,B,he,s,i,t⟩=>#[e,j,by rw[B],he,s,λm g=>?_]];rw[NQ]at i;exact#[l,m,_,_,Y,Y,(NN<|NZ i g).trans i,NQ,t _<|(NV.refl C).upd g]
def Qh(S:LL)(D:Lw):LL:=D.map λz=>(z,Ru S z)
def gK(S:LL)(D:Lw):(Qh S D).map (·.1)=D:=by unfold Qh;rw[AO];exact Fl _
def aO(S:LL)(D:Lw):(Qh S D).length=D.length:=by unfold Qh;rw[Ac]
def zQ(S:LL)(D:Lw)(z:AA):Qh S (D++[z])=Qh S D++[(z,Ru S z)]:=by unfold Qh;rw[Bi];rfl
def AgF(S:LL)(D:Lw):Bool:=Alp (S.map λe=>.inr e.1) (D.map Cr)
structure Zs where
 K:Ab
 w:WC
 o:Ag
 d:Ag
instance {X:Cx} {A:BQ} {q:AA} {sc:Scope} {N:Lw} {f:Ag} {cd:Ai} {s:Au} {H:Hp} {K₀:Ab} {NR:Hp} [h:N3 X K₀ NR]:N3 (Wq X A q sc N f cd s H) K₀ H:=#[h.k,Y]
instance {X:Cx} {A:BQ} {q:AA} {sc:Scope} {N:Lw} {f:Ag} {cd:Ai} {s:Au} {H:Hp} {M:Md} [h:Qx X M]:Qx (Wq X A q sc N f cd s H) M:=#[h.p,h.w,h.g,h.b]
def Anr{M:Md}{K:Ab}{k:Nat}{N ps:Lw}{x:AA}{st:Bm}{sp:Sp}{c:Ag}(n:Nat)(d:Zm K M.mg x st ps c)(body:∀f A o s H vs Q E,Rm k N x (NM st) #[f,.ref c,A,o,s,E]->sp vs H Q E->∃t,Q6 (cN M K N x (NM st) #[f,.ref c,A,o,s,E] H) (NY st) t/\t (fin Q) (vO vs n) H)(S:O0 N ps (NM st):=by walk_at"s")(len:∀vs H Q E,sp vs H Q E->vs.length=ps.length:=by walk_at"l")(hn:N.length=n:=by rfl):Hf M K (k+1) x sp:=#[_,d.has S (λf A o s H vs Q E a h=>let⟨t,h1,h2⟩:=body f A o s H vs Q E #[a,S.nd] h;#[t,h1,by rw[Uk hn];exact h2]) len]
def take_snoc{xs:List α}{j:Nat}(h:xs[j]?=U z):xs.take (j+1)=xs.take j++[z]:=by rw[BP,h];rfl
def Wu{xs:List α}{j:Nat}(nd:xs.Nodup)(h:xs[j]?=U z):z∉xs.take j:=λm=>by
 let(c,b):=Cj.mp m;have a:c<j:=by have:=(Av.mp b).1;rw[Bt]at this;omega
 rw[Hh a]at b;let(f,d):=Av.mp h;let(g,e):=Av.mp b;have:=(EJ nd).mp (d.trans e.symm);omega
def Ad4{xs:List α}{f:α->AA}(h:z∉xs.map f):(.inr z:Key)∉xs.map λe=>(.inr (f e):Key):=λm=>by
 let(y,a,e):=AR.mp m;injection e with e;exact h (e▸A8 a)
inductive D where
 |f (v:V)
 |t (xs:List D)
 |l (xs:List D)
 |d (ks:List (Key×D))
 |m (ks:List (List Key×D))
 |i (C:Ag) (fs:List (AA×D))
abbrev Lz:=List D
abbrev LI:=List (Key×D)
abbrev LV:=List (AA×D)
abbrev L8:=List (List Key×D)
abbrev Mg:=List (D×V)
inductive O where
 |l (xs:Lz)
 |d (ks:LI)
 |m (ks:L8)
 |i (C:Ag) (fs:LV)
abbrev NW:=Ag->Option (Rl×O)
def KD{κ:Type}(R:D->V->Prop)(p:κ×D)(q:κ×V):Prop:=q.1=p.1/\R p.2 q.2
def AfL(F:Lv)(H:Hp)(a:Ag)(u:HO):Prop:=H a=U u\/(a∈F/\∃o,H a=U (.Rg o u))
def tO(K:Ab)(C:Ag)(fs:LN):Prop:=Xf K C/\∀f∈fs.map (·.1),Pz K C f
def Rd.lk{H H':Hp}{u:HO}(h:Rd H a u)(k:∀w,H a=U w->H' a=U w):Rd H' a u:=h.imp (k _) λ⟨o,e⟩=>#[o,k _ e]
def AiN(K:Ab)(S:NW)(H:Hp)(a:Ag)(vs:Lx):Prop:=(S a=Ah/\Rd H a (.lst vs))\/∃(o:CL)(its:LS)(n:Nat),K.lookup a=U o/\o.cls=.type "list"/\o.dict=Ah/\o.data=.seq its n/\its.size<=sizeLine/\Vals vs its.toList
def AiN.sq{K:Ab}{S:NW}{H:Hp}(h:AiN K S H a vs):Pb K H a vs:=h.imp (·.2) id
section
variable(K:Ab)(F:Lv)(S:NW)(H:Hp)
def wJ:Nat->D->V->Prop
 | 0,d,v=>match d with
   |.f x=>v=x
   |_=>False
 | n+1,d,v=>match d with
   |.f x=>v=x
   |.t xs=>∃a vs,v=.ref a/\H a=U (.tup vs)/\Paired (wJ n) xs vs
   |.l xs=>∃a vs,v=.ref a/\AiN K S H a vs/\Paired (wJ n) xs vs
   |.d ks=>∃a kvs,v=.ref a/\S a=Ah/\AfL F H a (.dK kvs)/\Paired (KD<|wJ n) ks kvs
   |.m ks=>∃a kvs,v=.ref a/\S a=Ah/\H a=U (.dT kvs)/\Paired (KD<|wJ n) ks kvs
   |.i C fs=>∃a dx gs,v=.ref a/\S a=Ah/\H a=U (.ins C dx gs)/\tO K C gs/\Paired (KD<|wJ n) fs gs
def VD(d:D)(v:V):Prop:=∃n,wJ K F S H n d v
end
def KD.imp{κ:Type}{R Q:D->V->Prop}{p:κ×D}{q:κ×V}(h:∀d v,R d v->Q d v)(x:KD R p q):KD Q p q:=#[x.1,h _ _ x.2]
section
variable{K:Ab}{F F':Lv}{S S':NW}{H H':Hp}{n m:Nat}
def wJ.up(h:wJ K F S H n d v):wJ K F S H (n+1) d v:=by
 induction n generalizing d v with
 |zero=>cases d<;>first|exact h|exact h.elim
 |succ n ih=>
   cases d with
   |f x=>exact h
   |t k=>let(a,g,e,c,b):=h;exact#[a,g,e,c,Paired.imp' (λ_ _=>ih) b]
   |l k=>let(a,g,e,c,b):=h;exact#[a,g,e,c,Paired.imp' (λ_ _=>ih) b]
   |d k=>let(a,g,e,j,c,b):=h;exact#[a,g,e,j,c,Paired.imp' (λ_ _=>KD.imp λ_ _=>ih) b]
   |m k=>let(a,g,e,j,c,b):=h;exact#[a,g,e,j,c,Paired.imp' (λ_ _=>KD.imp λ_ _=>ih) b]
   |i C r=>let(a,p,o,e,j,c,q,b):=h;exact#[a,p,o,e,j,c,q,Paired.imp' (λ_ _=>KD.imp λ_ _=>ih) b]
def wJ.le(h:wJ K F S H n d v)(l:n<=m):wJ K F S H m d v:=by
 induction l with
 |refl=>exact h
 |step _ a=>exact a.up
def XG{α β:Type}{R:Nat->α->β->Prop}(up:∀n m a b,n<=m->R n a b->R m a b){xs:List α}{ys:List β}(h:Paired (λa b=>∃n,R n a b) xs ys):∃n,Paired (R n) xs ys:=by
 induction h with
 |nil=>exact#[0,.nil]
 |cons c _ ih=>let(n,c):=c;let(m,d):=ih;exact#[max n m,.cons (up _ _ _ _ (JA ..) c)<|Paired.imp' (λa b=>up _ _ a b<|Jr ..) d]
def Aa4{κ:Type}{ks:List (κ×D)}{vs:List (κ×V)}(h:Paired (KD<|VD K F S H) ks vs):∃n,Paired (KD<|wJ K F S H n) ks vs:=XG (λn m a b l h=>h.imp λ_ _ q=>q.le l) (Paired.imp' (λa b⟨e,n,q⟩=>#[n,e,q]) h)
def VD.f:VD K F S H (.f x) x:=#[0,Y]
def N1:VD K F S H (.f x) v↔v=x:=#[λ⟨n,h⟩=>by cases n<;>exact h,λe=>e▸.f]
def TC:VD K F S H (.t xs) v↔∃a vs,v=.ref a/\H a=U (.tup vs)/\Paired (VD K F S H) xs vs:=by
 refine#[λ⟨n,h⟩=>?_,λ⟨a,vs,e,c,b⟩=>?_]
 ·cases n with
  |zero=>exact h.elim
  |succ n=>let(a,vs,e,c,b):=h;exact#[a,vs,e,c,Paired.imp' (λ_ _ q=>#[n,q]) b]
 ·let(n,b):=XG (λ_ _ _ _ l q=>q.le l) b;exact#[n+1,a,vs,e,c,b]
def Aab:VD K F S H (.l xs) v↔∃a vs,v=.ref a/\AiN K S H a vs/\Paired (VD K F S H) xs vs:=by
 refine#[λ⟨n,h⟩=>?_,λ⟨a,vs,e,c,b⟩=>?_]
 ·cases n with
  |zero=>exact h.elim
  |succ n=>let(a,vs,e,c,b):=h;exact#[a,vs,e,c,Paired.imp' (λ_ _ q=>#[n,q]) b]
 ·let(n,b):=XG (λ_ _ _ _ l q=>q.le l) b;exact#[n+1,a,vs,e,c,b]
def Aaa:VD K F S H (.d xs) v↔∃a vs,v=.ref a/\S a=Ah/\AfL F H a (.dK vs)/\Paired (KD<|VD K F S H) xs vs:=by
 refine#[λ⟨n,h⟩=>?_,λ⟨a,vs,e,g,c,b⟩=>?_]
 ·cases n with
  |zero=>exact h.elim
  |succ n=>let(a,vs,e,g,c,b):=h;exact#[a,vs,e,g,c,Paired.imp' (λ_ _=>KD.imp λ_ _ q=>#[n,q]) b]
 ·let(n,b):=Aa4 b;exact#[n+1,a,vs,e,g,c,b]
def AiC:VD K F S H (.m xs) v↔∃a vs,v=.ref a/\S a=Ah/\H a=U (.dT vs)/\Paired (KD<|VD K F S H) xs vs:=by
 refine#[λ⟨n,h⟩=>?_,λ⟨a,vs,e,d,c,b⟩=>?_]
 ·cases n with
  |zero=>exact h.elim
  |succ n=>let(a,vs,e,d,c,b):=h;exact#[a,vs,e,d,c,Paired.imp' (λ_ _=>KD.imp λ_ _ q=>#[n,q]) b]
 ·let(n,b):=Aa4 b;exact#[n+1,a,vs,e,d,c,b]
def AiB:VD K F S H (.i C xs) v↔∃a dx gs,v=.ref a/\S a=Ah/\H a=U (.ins C dx gs)/\tO K C gs/\Paired (KD<|VD K F S H) xs gs:=by
 refine#[λ⟨n,h⟩=>?_,λ⟨a,dx,c,e,g,d,j,b⟩=>?_]
 ·cases n with
  |zero=>exact h.elim
  |succ n=>let(a,dx,c,e,g,d,j,b):=h;exact#[a,dx,c,e,g,d,j,Paired.imp' (λ_ _=>KD.imp λ_ _ q=>#[n,q]) b]
 ·let(n,b):=Aa4 b;exact#[n+1,a,dx,c,e,g,d,j,b]
structure Pe(F:Lv)(S:NW)(H:Hp)(F':Lv)(S':NW)(H':Hp):Prop where
 t:∀a vs,H a=U (.tup vs)->H' a=U (.tup vs)
 l:∀a vs,S a=Ah->Rd H a (.lst vs)->S' a=Ah/\Rd H' a (.lst vs)
 d:∀a vs,S a=Ah->AfL F H a (.dK vs)->S' a=Ah/\AfL F' H' a (.dK vs)
 m:∀a vs,S a=Ah->H a=U (.dT vs)->S' a=Ah/\H' a=U (.dT vs)
 i:∀a C dx gs,S a=Ah->H a=U (.ins C dx gs)->S' a=Ah/\H' a=U (.ins C dx gs)
def VD.pe(p:Pe F S H F' S' H')(h:VD K F S H d v):VD K F' S' H' d v:=by
 let(n,h):=h;refine#[n,?_];induction n generalizing d v with
 |zero=>cases d<;>first|exact h|exact h.elim
 |succ n ih=>
   cases d with
   |f x=>exact h
   |t k=>let(a,j,e,b,c):=h;exact#[a,j,e,p.t _ _ b,Paired.imp' (λ_ _=>ih) c]
   |l k=>let(a,j,e,b,c):=h;exact#[a,j,e,b.imp (λq=>p.l _ _ q.1 q.2) id,Paired.imp' (λ_ _=>ih) c]
   |d k=>let(a,j,e,g,b,c):=h;exact#[a,j,e,(p.d _ _ g b).1,(p.d _ _ g b).2,Paired.imp' (λ_ _=>KD.imp λ_ _=>ih) c]
   |m k=>let(a,j,e,g,b,c):=h;exact#[a,j,e,(p.m _ _ g b).1,(p.m _ _ g b).2,Paired.imp' (λ_ _=>KD.imp λ_ _=>ih) c]
   |i C u=>let(a,r,o,e,g,b,s,c):=h;exact#[a,r,o,e,(p.i _ _ _ _ g b).1,(p.i _ _ _ _ g b).2,s,Paired.imp' (λ_ _=>KD.imp λ_ _=>ih) c]
end
def OD(K:Ab)(F:Lv)(S:NW)(H:Hp)(a:Ag):O->Prop
 |.l xs=>∃vs,H a=U (.lst vs)/\Paired (VD K F S H) xs vs
 |.d ks=>∃kvs,AfL F H a (.dK kvs)/\Paired (KD<|VD K F S H) ks kvs
 |.m ks=>∃kvs,H a=U (.dT kvs)/\Paired (KD<|VD K F S H) ks kvs
 |.i C fs=>∃dx gs,H a=U (.ins C dx gs)/\tO K C gs/\Paired (KD<|VD K F S H) fs gs
structure Rp(K:Ab)(T:L1)(F:Lv)(H:Hp)(S:NW)(L:Mg):Prop where
 st:∀a r o,S a=U (r,o)->OD K F S H a o
 led:∀p∈L,VD K F S H p.1 p.2
 tb:∀x∈T,Tab x.1 x.2.1 x.2.2 H
 fd:∀a∈F,H a≠Ah
def tJ{H:Hp}(h:H a≠Ah):upd H b u a≠Ah:=by
 unfold upd;split
 ·nofun
 ·exact h
def NP(S:NW)(a:Ag)(x:Rl×O):NW:=λb=>if b=a then U x else S b
def NO:NP S a x a=U x:=AG Y
def NJ(h:b≠a):NP S a x b=S b:=Ay h
def cC(S:NW)(a:Ag):NW:=λb=>if b=a then Ah else S b
def bD{S:NW}(h:S a=U (r,o))(k:S b=U (r',o'))(n:r≠r'):a≠b:=λz=>by
 rw[z,k]at h;injection h with h;injection h with h;exact n h.symm
section
variable{K:Ab}{T:L1}{F F':Lv}{S S':NW}{H H':Hp}{L L':Mg}{o:O}{r:Rl}
def OD.pe(p:Pe F S H F' S' H')(k:H a=H' a)(kf:a∈F->a∈F')(h:OD K F S H a o):OD K F' S' H' a o:=by
 cases o with
 |l g=>let(c,b,e):=h;exact#[c,k▸b,Paired.imp' (λ_ _=>VD.pe p) e]
 |d g=>
   let(c,b,e):=h;refine#[c,?_,Paired.imp' (λ_ _=>KD.imp λ_ _=>VD.pe p) e];rcases b with b|⟨f,o,b⟩
   ·exact .inl<|k▸b
   ·exact .inr #[kf f,o,k▸b]
 |m g=>let(c,b,e):=h;exact#[c,k▸b,Paired.imp' (λ_ _=>KD.imp λ_ _=>VD.pe p) e]
 |i C g=>let(j,c,b,n,e):=h;exact#[j,c,k▸b,n,Paired.imp' (λ_ _=>KD.imp λ_ _=>VD.pe p) e]
def OD.mu(h:OD K F S H a o):∃u,H a=U u/\AlC u:=by
 cases o with
 |l c=>let(e,b,_):=h;exact#[_,b,Bk]
 |d c=>
   obtain⟨e,b|⟨_,o,b⟩,_⟩:=h
   ·exact#[_,b,Bk]
   ·exact#[_,b,Bk]
 |m c=>let(e,b,_):=h;exact#[_,b,Bk]
 |i C c=>let(g,e,b,_):=h;exact#[_,b,Bk]
def Rp.free(R:Rp K T F H S L)(h:H a=Ah):S a=Ah:=by
 cases e:S a with
 |none=>rfl
 |some x=>let(u,q,_):=(R.st a x.1 x.2 e).mu;rw[h]at q;cases q
def Rp.sub(R:Rp K T F H S L)(h:∀p∈L',p∈L):Rp K T F H S L':=#[R.st,λp m=>R.led p<|h p m,R.tb,R.fd]
def Rp.add(R:Rp K T F H S L)(h:VD K F S H d v):Rp K T F H S ((d,v)::L):=#[R.st,λp m=>by
 rcases AB.mp m with rfl|m
 ·exact h
 ·exact R.led p m,R.tb,R.fd]
def Pe.Py(s:OH H H'):Pe F S H F S H':=#[λa b e=>s.keep _ _ nofun e,λa b h e=>#[h,e.imp (s.keep _ _ nofun) λ⟨o,e⟩=>#[o,s.keep _ _ nofun e]],λa b h e=>#[h,by
  rcases e with e|⟨f,o,e⟩
  ·exact .inl<|s.keep _ _ nofun e
  ·exact .inr #[f,o,s.keep _ _ nofun e]],λa b h e=>#[h,s.keep _ _ nofun e],λa C d c h e=>#[h,s.keep _ _ nofun e]]
def Rp.Py(R:Rp K T F H S L)(s:OH H H')(tb:∀x∈T,Tab x.1 x.2.1 x.2.2 H'):Rp K T F H' S L:=by
 refine#[λa r o e=>?_,λp m=>(R.led p m).pe (Pe.Py s),tb,λa m=>?_]
 ·have h:=R.st a r o e;let(u,q,mu):=h.mu;exact h.pe (Pe.Py s) (q.trans (s.keep _ _ (λ_ z=>by rw[z]at mu;exact mu) q).symm) id
 ·cases e:H a with
  |none=>exact(R.fd a m e).elim
  |some u=>
    by_cases z:∃b,u=.RQ b
    ·let(b,rfl):=z;let(c,h):=s.tabs a b e;rw[h];nofun
    ·rw[s.keep a u (λb q=>z #[b,q]) e];nofun
def Rp.same(R:Rp K T F H S L)(s:NV H H'):Rp K T F H' S L:=R.Py s.n λx m=>Tab.same s (R.tb x m)
def Pe.set(R:Rp K T F H S L)(hS:S b=U (r,o)):Pe F S H F (NP S b (r',o')) (upd H b u):=by
 let(w,g,mu):=(R.st b r o hS).mu;have c:∀a,S a=Ah->a≠b:=λa h z=>by rw[z,hS]at h;cases h
 refine#[λa d e=>?_,λa d h e=>#[(NJ<|c a h).trans h,e.lk λw q=>(NN<|c a h).trans q],λa d h e=>#[(NJ<|c a h).trans h,?_],λa d h e=>#[(NJ<|c a h).trans h,(NN<|c a h).trans e],λa C j i h e=>#[(NJ<|c a h).trans h,(NN<|c a h).trans e]]
 ·rw[NN]
  ·exact e
  ·intro z;rw[z,g]at e;cases e;exact mu
 ·rcases e with e|⟨f,o,e⟩
  ·exact .inl<|(NN<|c a h).trans e
  ·exact .inr #[f,o,(NN<|c a h).trans e]
def Rp.set(R:Rp K T F H S L)(hS:S b=U (r,o))(hO:OD K F (NP S b (r',o')) (upd H b u) b o'):Rp K T F (upd H b u) (NP S b (r',o')) L:=by
 have p:=Pe.set (r':=r') (o':=o') (u:=u) R hS;refine#[λa g h e=>?_,λq m=>(R.led q m).pe p,λx m=>?_,λa m=>tJ<|R.fd a m]
 ·by_cases z:a=b
  ·subst z;rw[NO]at e;injection e with e;injection e with e1 e2;rw[<-e2];exact hO
  ·rw[NJ z]at e;exact(R.st a g h e).pe p (NN z).symm id
 ·let(w,c,d):=(R.st b r o hS).mu;exact Tab.Aiy (R.tb x m) c d
def Pe.own(s:NV H H')(h:H b=Ah):Pe F S H F (NP S b x) H':=by
 have c:∀a w,H a=U w->a≠b:=λa w e z=>by rw[z,h]at e;cases e
 exact#[λa d e=>s _ _ e,λa d q e=>#[(NJ<|e.elim (c a _) λ⟨o,e⟩=>c a _ e).trans q,e.lk λw k=>s _ _ k],λa d q e=>by
  rcases e with e|⟨f,o,e⟩
  ·exact#[(NJ<|c a _ e).trans q,.inl<|s _ _ e]
  ·exact#[(NJ<|c a _ e).trans q,.inr #[f,o,s _ _ e]],λa d q e=>#[(NJ<|c a _ e).trans q,s _ _ e],λa C i g q e=>#[(NJ<|c a _ e).trans q,s _ _ e]]
def Rp.own(R:Rp K T F H S L)(s:NV H H')(h:H b=Ah)(r:Rl)(hO:OD K F (NP S b (r,o)) H' b o):Rp K T F H' (NP S b (r,o)) L:=by
 have p:=Pe.own (F:=F) (S:=S) (x:=(r,o)) s h;refine#[λa d g e=>?_,λq m=>(R.led q m).pe p,λx m=>Tab.same s<|R.tb x m,λa m z=>R.fd a m<|s.free z];by_cases z:a=b
 ·subst z;rw[NO]at e;injection e with e;injection e with e1 e2;rw[<-e2];exact hO
 ·rw[NJ z]at e;have q:=R.st a d g e;let(u,c,_):=q.mu;exact q.pe p (c.trans (s _ _ c).symm) id
abbrev Yv:O->D
 |.l xs=>.l xs
 |.d ks=>.d ks
 |.m ks=>.m ks
 |.i C fs=>.i C fs
def Pe.fix:Pe F S H F (cC S b) H:=by
 have k:∀a,S a=Ah->cC S b a=Ah:=λa h=>by
  unfold cC;split
  ·rfl
  ·exact h
 exact#[λa c e=>e,λa c q e=>#[k a q,e],λa c q e=>#[k a q,e],λa c q e=>#[k a q,e],λa C g d q e=>#[k a q,e]]
def Rp.fix(R:Rp K T F H S L)(hS:S b=U (r,o)):Rp K T F H (cC S b) ((Yv o,.ref b)::L):=by
 have p:=Pe.fix (F:=F) (S:=S) (H:=H) (b:=b);have n:cC S b b=Ah:=AG Y;refine Rp.add #[λa s v e=>?_,λq m=>(R.led q m).pe p,R.tb,R.fd] ?_
 ·have z:a≠b:=λz=>by rw[z,n]at e;cases e
  have e:=(Ay z).symm.trans e;exact(R.st a s v e).pe p Y id
 ·have h:=(R.st b r o hS).pe p Y id;cases o with
  |l k=>let(c,j,g):=h;exact Aab.mpr #[b,c,Y,.inl #[n,.inl j],g]
  |d k=>let(c,j,g):=h;exact Aaa.mpr #[b,c,Y,n,j,g]
  |m k=>let(c,j,g):=h;exact AiC.mpr #[b,c,Y,n,j,g]
  |i C k=>let(t,c,j,u,g):=h;exact AiB.mpr #[b,t,c,Y,n,j,u,g]
def Pe.walk{ob:CL}(e0:H b=U (.dK kvs)):Pe F S H (b::F) S (upd H b<|.Rg ob<|.dK kvs):=by
 have d:∀a w,H a=U w->w≠.dK kvs->a≠b:=λa w e n z=>by rw[z,e0]at e;exact n (AK e).symm
 have g:∀a c,Rd H a (.lst c)->Rd (upd H b<|.Rg ob<|.dK kvs) a (.lst c):=λa c e=>by
  rcases e with e|⟨o,e⟩
  ·exact .inl<|(NN<|d a _ e nofun).trans e
  ·exact .inr #[o,(NN<|d a _ e (λz=>by cases z)).trans e]
 exact #[λa c e=>(NN<|d a _ e nofun).trans e,λa c q e=>#[q,g a c e],λa c q e=>#[q,by
  by_cases z:a=b
  ·subst z;rcases e with e|⟨_,o,e⟩
   ·rw[e0]at e;cases e;exact .inr #[AX ..,_,NQ]
   ·rw[e0]at e;cases e
  ·rcases e with e|⟨f,o,e⟩
   ·exact .inl<|(NN z).trans e
   ·exact .inr #[AD _ f,o,(NN z).trans e]],λa c q e=>#[q,(NN<|d a _ e nofun).trans e],λa C i h q e=>#[q,(NN<|d a _ e nofun).trans e]]
def Pe.rest{ob:CL}(e0:H b=U (.Rg ob<|.dK kvs)):Pe (b::F) S H F S (upd H b<|.dK kvs):=by
 have d:∀a w,H a=U w->w≠.Rg ob _->a≠b:=λa w e n z=>by rw[z,e0]at e;exact n (AK e).symm
 have g:∀a c,Rd H a (.lst c)->Rd (upd H b<|.dK kvs) a _:=λa c e=>by
  rcases e with e|⟨o,e⟩
  ·exact .inl<|(NN<|d a _ e nofun).trans e
  ·exact .inr #[o,(NN<|d a _ e (λz=>by cases z)).trans e]
 exact #[λa c e=>(NN<|d a _ e nofun).trans e,λa c q e=>#[q,g a c e],λa c q e=>#[q,by
  by_cases z:a=b
  ·subst z;rcases e with e|⟨_,o,e⟩
   ·rw[e0]at e;cases e
   ·rw[e0]at e;cases e;exact .inl NQ
  ·rcases e with e|⟨f,o,e⟩
   ·exact .inl<|(NN z).trans e
   ·exact .inr #[(AB.mp f).resolve_left z,o,(NN z).trans e]],λa c q e=>#[q,(NN<|d a _ e nofun).trans e],λa C i h q e=>#[q,(NN<|d a _ e nofun).trans e]]
def OD.walk{ob:CL}(e0:H b=U (.dK kvs))(h:OD K F S H a o):OD K (b::F) S (upd H b<|.Rg ob<|.dK kvs) a o:=by
 by_cases z:a=b
 ·subst z;cases o with
  |l j=>let(g,c,e):=h;rw[e0]at c;cases c
  |d j=>
    let(g,c,e):=h;rcases c with c|⟨_,o,c⟩
    ·rw[e0]at c;cases c;exact#[_,.inr #[AX ..,_,NQ],Paired.imp' (λ_ _=>KD.imp λ_ _=>VD.pe<|Pe.walk e0) e]
    ·rw[e0]at c;cases c
  |m j=>let(g,c,e):=h;rw[e0]at c;cases c
  |i C j=>let(k,g,c,n,e):=h;rw[e0]at c;cases c
 ·exact h.pe (Pe.walk e0) (NN z).symm (AD _)
def OD.rest{ob:CL}(e0:H b=U (.Rg ob<|.dK kvs))(h:OD K (b::F) S H a o):OD K F S (upd H b<|.dK kvs) a o:=by
 by_cases z:a=b
 ·subst z;cases o with
  |l j=>let(g,c,e):=h;rw[e0]at c;cases c
  |d j=>
    let(g,c,e):=h;rcases c with c|⟨_,o,c⟩
    ·rw[e0]at c;cases c
    ·rw[e0]at c;cases c;exact#[_,.inl NQ,Paired.imp' (λ_ _=>KD.imp λ_ _=>VD.pe<|Pe.rest e0) e]
  |m j=>let(g,c,e):=h;rw[e0]at c;cases c
  |i C j=>let(k,g,c,n,e):=h;rw[e0]at c;cases c
 ·have p:=Pe.rest (F:=F) (S:=S) e0;cases o with
  |l j=>let(g,c,e):=h;exact#[g,(NN z).trans c,Paired.imp' (λ_ _=>VD.pe p) e]
  |d j=>
    let(g,c,e):=h;refine#[g,?_,Paired.imp' (λ_ _=>KD.imp λ_ _=>VD.pe p) e];rcases c with c|⟨f,o,c⟩
    ·exact .inl<|(NN z).trans c
    ·exact .inr #[(AB.mp f).resolve_left z,o,(NN z).trans c]
  |m j=>let(g,c,e):=h;exact#[g,(NN z).trans c,Paired.imp' (λ_ _=>KD.imp λ_ _=>VD.pe p) e]
  |i C j=>let(k,g,c,n,e):=h;exact#[k,g,(NN z).trans c,n,Paired.imp' (λ_ _=>KD.imp λ_ _=>VD.pe p) e]
def Rp.walk{ob:CL}(R:Rp K T F H S L)(e0:H b=U (.dK kvs)):Rp K T (b::F) (upd H b<|.Rg ob<|.dK kvs) S L:=#[λa r o e=>(R.st a r o e).walk e0,λq m=>(R.led q m).pe (Pe.walk e0),λx m=>Tab.Aiy (R.tb x m) e0 Bk,λa m=>by
  rcases AB.mp m with rfl|m
  ·rw[NQ];nofun
  ·exact tJ<|R.fd a m]
def Rp.rest{ob:CL}(R:Rp K T (b::F) H S L)(e0:H b=U (.Rg ob<|.dK kvs)):Rp K T F (upd H b<|.dK kvs) S L:=#[λa r o e=>(R.st a r o e).rest e0,λq m=>(R.led q m).pe (Pe.rest e0),λx m=>Tab.Aiy (R.tb x m) e0 Bk,λa m=>tJ<|R.fd a<|AD _ m]
end
section
variable{κ:Type}[DecidableEq κ]
def OB(ks:List (κ×D))(k:κ):Option D:=(ks.find? λp=>decide<|p.1=k).map (·.2)
def putD(ks:List (κ×D))(k:κ)(d:D):List (κ×D):=if(ks.any λp=>decide<|p.1=k)=Af then ks.map (λp=>if p.1=k then(p.1,d)else p)else ks++[(k,d)]
def Wb(ks:List (κ×D))(k:κ):List (κ×D):=ks.filter λp=>decide (p.1≠k)
variable{R:D->V->Prop}{ks:List (κ×D)}{vs:List (κ×V)}{k:κ}
def SO(h:Paired (KD R) ks vs):vs.map (·.1)=ks.map (·.1):=by
 induction h with
 |nil=>rfl
 |cons a _ b=>rw[Az,Az,a.1,b]
def Xw(h:Paired (KD R) ks vs):(OB ks k=Ah/\Pu vs k=Ah)\/∃d v,OB ks k=U d/\Pu vs k=U v/\R d v:=by
 induction h with
 |nil=>exact .inl #[Y,Y]
 |@cons p q _ _ h1 _ ih=>
   by_cases e:p.1=k
   ·exact .inr #[p.2,q.2,by simp[OB,A7,e],Uz<|h1.1.trans e,h1.2]
   ·rw[SI λz=>e<|h1.1.symm.trans z];unfold OB at *;rw[HH<|by simpa using e];exact ih
def Y8(h:Paired (KD R) ks vs)(e:OB ks k=U d):∃v,Pu vs k=U v/\R d v:=by
 rcases Xw h with⟨a,_⟩|⟨c,v,a,b,r⟩
 ·rw[e]at a;cases a
 ·rw[e]at a;cases a;exact#[v,b,r]
def Af8(h:Paired (KD R) ks vs):(Pu vs k).isSome=(OB ks k).isSome:=by rcases Xw h with⟨b,a⟩|⟨c,v,b,a,_⟩<;>rw[b,a]<;>rfl
def Ag9(h:Paired (KD R) ks vs):(vs.any λp=>decide<|p.1=k)=ks.any λp=>decide (p.1=k):=by
 induction h with
 |nil=>rfl
 |cons a _ b=>rw[CQ,CQ,a.1,b]
def Ze{α β:Type}{G:α->β->Prop}{as:List α}{bs:List β}{a:α}{b:β}(h:Paired G as bs)(r:G a b):Paired G (as++[a]) (bs++[b]):=by
 induction h with
 |nil=>exact .cons r .nil
 |cons c _ d=>exact .cons c d
def rG(h:Paired (KD R) ks vs)(r:R d v):Paired (KD R) (putD ks k d) (putK vs k v):=by
 have a:Paired (KD R) (ks.map λp=>if p.1=k then(p.1,d)else p) (vs.map λp=>if p.1=k then(p.1,v)else p):=by
  induction h with
  |nil=>exact .nil
  |@cons p q _ _ a _ ih=>
    rw[Az,Az];refine .cons ?_ ih;rw[a.1];split
    ·exact#[Y,r]
    ·exact a
 unfold putD putK;rw[Ag9 h];split
 ·exact a
 ·exact Ze h #[Y,r]
def jQ(h:Paired (KD R) ks vs):Paired (KD R) (Wb ks k) (Rk vs k):=by
 induction h with
 |nil=>exact .nil
 |cons h1 h2 ih=>
   unfold Wb Rk at *;rw[Dm,Dm,h1.1];split
   ·exact .cons h1 ih
   ·exact ih
end
def oV(f:AA)(d:D):LV->LV
 |[]=>[(f,d)]
 |(g,x)::r=>if g=f then(g,d)::r else(g,x)::oV f d r
def Aee{R:D->V->Prop}{fs:LV}{gs:LN}(h:Paired (KD R) fs gs):∀{d:D},fs.lookup f=U d->∃v,gs.lookup f=U v/\R d v:=by
 induction h with
 |nil=>intro d e;cases e
 |@cons p q _ _ h1 _ ih=>
   intro d e;let(a,x):=p;let(b,y):=q;have c:=h1.1;subst c;rw[B8]at e ⊢;by_cases z:f=b
   ·subst z;simp only[beq_self_eq_true]at e ⊢;cases e;exact#[y,Y,h1.2]
   ·rw[Gg z]at e ⊢;exact ih e
def xP{R:D->V->Prop}{fs:LV}{gs:LN}(h:Paired (KD R) fs gs):fs.lookup f=Ah->gs.lookup f=Ah:=by
 induction h with
 |nil=>intro e;rfl
 |@cons p q _ _ h1 _ ih=>
   intro e;let(a,x):=p;let(b,y):=q;have c:=h1.1;subst c;rw[B8]at e ⊢;by_cases z:f=b
   ·subst z;simp only[beq_self_eq_true]at e;cases e
   ·rw[Gg z]at e ⊢;exact ih e
def Aef{R:D->V->Prop}{fs:LV}{gs:LN}(h:Paired (KD R) fs gs)(r:R d v):Paired (KD R) (oV f d fs) (RZ f v gs):=by
 induction h with
 |nil=>exact .cons #[Y,r] .nil
 |@cons p q _ _ h1 h2 ih=>
   let(a,x):=p;have b:=h1.1;subst b;unfold oV RZ;split
   ·exact .cons #[Y,r] h2
   ·exact .cons h1 ih
def sC{gs:LN}(h:g∈(RZ f v gs).map (·.1)):g=f\/g∈gs.map (·.1):=by
 induction gs with
 |nil=>exact .inl<|As.mp h
 |cons p r ih=>
   unfold RZ at h;split at h
   ·exact .inr h
   ·rcases AB.mp h with h|h
    ·exact .inr (by rw[h];exact AX ..)
    ·rcases ih h with h|h
     ·exact .inl h
     ·exact .inr (AD _ h)
def Is(S:NW)(L:Mg)(x:V)(o:O):Prop:=(∃a r,x=.ref a/\S a=U (r,o))\/(Yv o,x)∈L
section
variable{K:Ab}{T:L1}{F:Lv}{H:Hp}{S:NW}{L:Mg}{Q:VK}{o:O}{d e:D}{x y v:V}{a C:Ag}{r:Rl}{ks:LI}{km:L8}{fs:LV}{xs ds:Lz}{vs dvs:Lx}{f m z:AA}{i:Int}{k:LM}{sp:Sp}{t:TA}{J:St}{E:XK}
def OR(K:Ab)(F:Lv)(S:NW)(H:Hp)(a:Ag):O->Prop
 |.l xs=>∃vs,Pb K H a vs/\Paired (VD K F S H) xs vs
 |.d ks=>∃kvs,AfL F H a (.dK kvs)/\Paired (KD<|VD K F S H) ks kvs
 |.m ks=>∃kvs,H a=U (.dT kvs)/\Paired (KD<|VD K F S H) ks kvs
 |.i C fs=>∃dx gs,H a=U (.ins C dx gs)/\tO K C gs/\Paired (KD<|VD K F S H) fs gs
def OD.or(h:OD K F S H a o):OR K F S H a o:=by
 cases o with
 |l e=>let(d,b,c):=h;exact#[d,Pb.of b,c]
 |_=>exact h
def Rp.is(R:Rp K T F H S L)(h:Is S L x o):∃a,x=.ref a/\OR K F S H a o:=by
 rcases h with⟨a,r,e,h⟩|h
 ·exact#[a,e,(R.st a r o h).or]
 ·have h:=R.led _ h;cases o with
  |l g=>let(a,b,e,f,c):=Aab.mp h;exact#[a,e,b,f.sq,c]
  |d g=>let(a,b,e,_,f,c):=Aaa.mp h;exact#[a,e,b,f,c]
  |m g=>let(a,b,e,_,f,c):=AiC.mp h;exact#[a,e,b,f,c]
  |i C g=>let(a,j,b,e,_,f,k,c):=AiB.mp h;exact#[a,e,j,b,f,k,c]
def Rp.tup(R:Rp K T F H S L)(h:(.t ds,x)∈L):∃a vs,x=.ref a/\H a=U (.tup vs)/\Paired (VD K F S H) ds vs:=TC.mp (R.led _ h)
def AfL.rd{u:HO}(h:AfL F H a u):Rd H a u:=by
 rcases h with h|⟨_,o,h⟩
 ·exact .inl h
 ·exact .inr #[o,h]
def aF(R:Rp K T F H S L)(h:Is S L x (.i C fs))(l:fs.lookup f=U d)(k:∀v,VD K F S H d v->Rp K T F H S ((d,v)::L)->Q v H):AjV K f Q x H:=by let(a,rfl,m,g,j,(n,c),b):=R.is h;let(v,e,q):=Aee b l;exact#[a,C,m,g,v,Y,j,n,c f<|ZV e,e,k v q<|R.add q]
def aM(R:Rp K T F H S L)(h:Is S L x (.i C fs))(l:fs.lookup m=Ah)(k:t J H (Anx sp dvs x Q E)):Af7 C m sp dvs t J Q E x H:=by let(a,rfl,d,b,e,_,c):=R.is h;exact#[a,d,b,Y,e,xP c l,k]
def AjS{q:Key}(R:Rp K T F H S L)(h:Is S L x (.d ks))(l:OB ks q=U d)(k:∀v,VD K F S H d v->Q v H):AjR x Q (kV q) H:=by let(a,rfl,b,f,c):=R.is h;let(v,e,w):=Y8 c l;exact#[a,v,Y,.inl #[b,q,f.rd,Y,e.symm],k v w]
abbrev dZ(k:LM):D:=.t (k.map λq=>.f<|kV q)
def AfX:∀{k:LM}{vs:Lx},Paired (VD K F S H) (k.map λq=>.f<|kV q) vs->vs=k.map kV
 |[],_,h=>by cases h;rfl
 | q::k,_,h=>by
   cases h with
   |cons a b=>rw[Az,N1.mp a,AfX b]
def Rp.key(R:Rp K T F H S L)(h:(dZ k,x)∈L):∃b,x=.ref b/\H b=U (.tup<|k.map kV):=by let(b,d,rfl,a,c):=R.tup h;rw[AfX c]at a;exact#[b,Y,a]
def AnS(R:Rp K T F H S L)(h:Is S L x (.m km))(hy:(dZ k,y)∈L)(l:OB km k=U d)(c:∀v,Rp K T F H S ((d,v)::L)->Q v H):AjR x Q y H:=by let(a,rfl,f,i,g):=R.is h;let(b,rfl,j):=R.key hy;let(v,e,w):=Y8 g l;exact#[a,v,Y,.inr #[f,k,b,.inl i,Y,j,e.symm],c v<|R.add w]
def AjT{q:Key}{n:Bool}(R:Rp K T F H S L)(h:Is S L x (.d ks))(k:Q (.bl (if n then !(OB ks q).isSome else(OB ks q).isSome)) H):Ant n (kV q) Q x H:=by let(a,rfl,b,e,c):=R.is h;exact#[a,_,Y,.inl #[b,q,e.rd,Y,Y],by rw[Af8 c];exact k]
def Rp.dk(R:Rp K T F H S L)(h:S a=U (r,.d ks))(n:a∉F):∃kvs,H a=U (.dK kvs)/\Paired (KD<|VD K F S H) ks kvs:=by
 obtain⟨kvs,b|⟨z,_⟩,c⟩:=R.st a r _ h
 ·exact#[kvs,b,c]
 ·exact(n z).elim
def Rp.PM{kvs:LA}(R:Rp K T F H S L)(h:S a=U (r,.d ks))(q:Paired (KD<|VD K F S H) ks' kvs):Rp K T F (upd H a<|.dK kvs) (NP S a (r,.d ks')) L:=R.set h #[kvs,.inl NQ,Paired.imp' (λ_ _=>KD.imp λ_ _=>VD.pe<|Pe.set R h) q]
def Rp.setM{kvs:L6}(R:Rp K T F H S L)(h:S a=U (r,.m km))(q:Paired (KD<|VD K F S H) km' kvs):Rp K T F (upd H a<|.dT kvs) (NP S a (r,.m km')) L:=R.set h #[kvs,NQ,Paired.imp' (λ_ _=>KD.imp λ_ _=>VD.pe<|Pe.set R h) q]
def Rp.zO{vs:Lx}(R:Rp K T F H S L)(h:S a=U (r,.l xs))(q:Paired (VD K F S H) ds vs):Rp K T F (upd H a<|.lst vs) (NP S a (r,.l ds)) L:=R.set h #[vs,NQ,Paired.imp' (λ_ _=>VD.pe<|Pe.set R h) q]
def RV(h:S a=Ah):cC (NP S a x') a=S:=by
 funext b
 unfold cC NP;split
 ·rename_i e;rw[e,h]
 ·rfl
def Rp.fresh(R:Rp K T F H' (NP S a (r,o)) L)(h:S a=Ah):Rp K T F H' S ((Yv o,.ref a)::L):=by have q:=R.fix NO;rw[RV h]at q;exact q
def Rp.yD(R:Rp K T F H S L)(h:H a=Ah)(q:Paired (VD K F S H) ds vs):Rp K T F (upd H a<|.tup vs) S ((.t ds,.ref a)::L):=
 have s:=(NV.refl H).upd h
 (R.same s).add (TC.mpr #[a,vs,Y,NQ,Paired.imp' (λ_ _=>VD.pe<|Pe.Py s.n) q])
def Aj1{kvs:LA}(h:kvs.map (·.1)=ks.map (·.1)):Paired (VD K F S H) (ks.map λp=>.f<|kV p.1) (kvs.map λp=>kV p.1):=by
 have c:ks.map (λp=>D.f<|kV p.1)=(ks.map (·.1)).map λq=>D.f (kV q):=by rw[AO];rfl
 have d:kvs.map (λp=>kV p.1)=(ks.map (·.1)).map kV:=by rw[<-h,AO];rfl
 rw[c,d];generalize ks.map _=a;induction a with
 |nil=>exact .nil
 |cons q a b=>exact .cons .f b
def Z4{α β:Type}{G:α->β->Prop}{xs:List α}{ys:List β}(h:Paired G xs ys):∀{j:Nat}{x:α},xs[j]?=U x->∃y,ys[j]?=U y/\G x y:=by
 induction h with
 |nil=>intro j x e;simp at e
 |cons h1 _ ih=>
   intro j x e;cases j with
   |zero=>cases e;exact#[_,Y,h1]
   |succ j=>exact ih e
def Acn{α β:Type}{G:α->β->Prop}{xs:List α}{ys:List β}{x:α}(h:Paired G xs ys)(e:Y1 xs i=U x):∃y,Y1 ys i=U y/\G x y:=by
 unfold Y1 at *;rw[<-AE h];cases z:Aah _ i with
 |none=>rw[z]at e;cases e
 |some j=>rw[z]at e;exact Z4 h e
def AnT(R:Rp K T F H S L)(h:Is S L x (.l xs))(e:Y1 xs i=U d)(k:∀v,Rp K T F H S ((d,v)::L)->Q v H):AkD K x (.int i) H Q:=by let(a,rfl,g,b,f):=R.is h;let(v,c,w):=Acn f e;exact#[a,g,i,v,Y,Y,b,c,k v<|R.add w]
def AnU(R:Rp K T F H S L)(h:(.t xs,x)∈L)(e:Y1 xs i=U d)(k:∀v,Rp K T F H S ((d,v)::L)->Q v H):AkE K x (.int i) H Q:=by let(a,g,rfl,b,f):=R.tup h;let(v,c,w):=Acn f e;exact#[a,g,i,v,Y,Y,P5.of b,c,k v<|R.add w]
def U9:NP (NP S a x') a y'=NP S a y':=by
 funext b
 unfold NP;split<;>rfl
end
def bX(h:BO)(d:Ag)(es:Array G1)(ep:Nat):Prop:=∃o,h.get? d=U o/\o.cls=.type "dict"/\o.data=.dict es ep
section
variable{prog:Bn}{w:Bw}{A:BQ}{E:Ai->Au->Prop}{s:Au}{it d:Ag}{i ep:Nat}{es:Array G1}
def bX.ty(x:bX s.heap d es ep):s.TypeIs (.ref d) "dict":=let#[o,ho,hc,_]:=x;#[o,ho,hc]
def bX.at'{h h':BO}(x:bX h d es ep)(e:∀o,h.get? d=U o->h'.get? d=U o):bX h' d es ep:=let#[o,ho,r]:=x;#[o,e _ ho,r]
def zE{Q:Ai->Au->Prop}(hd:(d==Cs)=An)(hm:bX s.heap d es ep)(hQ:Q (.ref s.heap.objs.size) {s with heap:=s.heap.push {cls:=.type "dict_keyiterator",data:=.fields (zTo [.ref d,.int 0 0,.int es.size 0,.int ep 0])}}):AW (A9 prog w) A (JF<|.ref d) Q E s:=by
 let(o,c,e,a):=id hm;have b:=hm.ty;refine JU b F.slot_dict_iter<|CI F.slot_dict_iter b F.entry_dict_iter ?_<|F.args_dict_iter_1 _;refine Ad ?_;refine Ad<|Jc b ?_;refine Aw ?_;show AW _ _ (Gk d >>= _) _ _ s;unfold Gk;rw[Ay (by rw[hd];exact AQ)];refine Ad<|Aw ?_;refine Ad<|Eb c a ?_;refine Ad<|Hl c a ?_;refine Ad<|ER<|Aw #[_,Y,"dict_keyiterator",_,#[_,AN _ Y,Y],F.slot_dict_keyiterator_next.lookup,?_];simpa[rawInt]using hQ
def zD{Q:LH->Au->Prop}(hit:s.heap.IsKeyIter it d i es.size ep)(hm:bX s.heap d es ep)(hlt:i<es.size)(hQ:∀h',h'.IsKeyIter it d (i+1) es.size ep->CP it s.heap h'->Q (U es[i].key) {s with heap:=h'}):AW (A9 prog w) A (JE<|.ref it) Q E s:=by
 let(o,f,g,e):=id hit;let(h,c,_,b):=id hm;refine Ad (Iu (E8 hit.typeIs F.slot_dict_keyiterator_next
  (CI F.slot_dict_keyiterator_next hit.typeIs F.entry_dict_keyiterator_next ?_<|F.args_dict_keyiterator_next_1 _)))
 refine Ad<|Aw ?_;refine Ad ?_;refine Ad ?_
 first|refine Ad (C8 hit.typeIs<|Aw ?_)|refine Ad (DI _<|Aw ?_)
 refine Ad<|KA f e ?_;refine Ad<|Aw ?_;refine Ad<|Eb c b ?_;rw[Ay M8];refine Ad<|Aw ?_;refine Ad<|Hl c b ?_;rw[Ay M8];refine Aw ?_;simp only[show¬ ((i)<0)from M6,if_false,Ga,GU hlt];refine Ad ?_
 first|refine Ad (C8 hit.typeIs<|Aw ?_)|refine Ad (DI _<|Aw ?_)
 refine Ad<|Je hit.typeIs ?_;show AW _ _ (setField _ 1 _ >>= _) _ _ s;refine Ad<|Kz f e M8 ?_;have a:(s.heap.update it (CL.mapFields (·.setIfInBounds 1 (rawInt<|(i)+1)))).IsKeyIter it d (i+1) es.size ep:=
  #[_,D6 _ f<|CL.isFreed_of_fields<|IT e _,(CL.cls_mapFields ..).trans g,by rw[IT e];simp[rawInt]]
 refine Ad<|BG ?_;refine Ad<|Je a.typeIs ?_;exact Aw (Aw #[_,Y,Aw<|hQ _ a<|BF ..])
def AcE{Q:LH->Au->Prop}(hh:A.handled=Ah)(hit:s.heap.IsKeyIter it d i es.size ep)(hm:bX s.heap d es ep)(hge:es.size<=i)(hQ:∀h',BO.ExtBut it s.heap h'->Q Ah {s with heap:=h'}):AW (A9 prog w) A (JE<|.ref it) Q E s:=by
 let(o,e,g,c):=id hit;let(f,b,_,a):=id hm;refine Ad (Iu (E8 hit.typeIs F.slot_dict_keyiterator_next
  (CI F.slot_dict_keyiterator_next hit.typeIs F.entry_dict_keyiterator_next ?_<|F.args_dict_keyiterator_next_1 _)))
 refine Ad<|Aw ?_;refine Ad ?_;refine Ad ?_
 first|refine Ad (C8 hit.typeIs<|Aw ?_)|refine Ad (DI _<|Aw ?_)
 refine Ad<|KA e c ?_;refine Ad<|Aw ?_;refine Ad<|Eb b a ?_;rw[Ay M8];refine Ad<|Aw ?_;refine Ad<|Hl b a ?_;rw[Ay M8];refine Aw ?_;simp only[show¬ ((i)<0)from M6,if_false,Ga,Array.getElem?_eq_none hge];refine Ad ?_
 first|refine Ad (C8 hit.typeIs<|Aw ?_)|refine Ad (DI _<|Aw ?_)
 show AW _ _ (setField _ 0 _ >>= _) _ _ s;refine Ad<|Kz e c M8 ?_;refine Ad ?_;refine Ad<|ER ?_ (by size_fits);refine Ad<|wpAny_of_eq (by first|rfl|(simp only[firstArgMember])) ?_;refine ER ?_ (by size_fits);refine Ad<|wpAny_handled ?_;rw[(hh)];refine Ad<|Aw<|wpAny_throw ?_;refine Ad<|wpAny_isInstance #[_,AN _ Y,Y] isSubtype_stop ?_;exact Aw (hQ _<|((BF ..).extBut.push _).push _)
def IsKeyIter.at'{h h':BO}{n:Nat}(x:h.IsKeyIter it d i n ep)(e:∀o,h.get? it=U o->h'.get? it=U o):h'.IsKeyIter it d i n ep:=let#[o,ho,r]:=x;#[o,e _ ho,r]
def zH(hh:A.handled=Ah)(I d:Ag)(hne:d≠I)(es:Array G1)(ep:Nat):Walks prog w A I [I,d] [I] es.size (λi v=>∃e,es[i]?=U e/\v=e.key) (λi h=>h.IsKeyIter I d i es.size ep/\bX h d es ep) where
 sub:=λb c=>by simp at c;simp[c]
 frame:=λ_ _ _ a m=>#[IsKeyIter.at' a.1 λo e=>m I M8 o e,a.2.at' λo e=>m d M8 o e]
 item:=λi s Q E n a j=>by
  refine zD a.1 a.2 n λk g f=>?_
  exact j _ k s.toks #[es[i],by simp[n],Y] #[g,a.2.at' λo e=>f.extBut d o hne e] λb o c e=>f.extBut b o (λh=>c<|by simp[h]) e
 done:=λs Q E a j=>AcE hh a.1 a.2 (Ao _) λk l=>j k s.toks λb o c e=>l b o (λh=>c<|by simp[h]) e
 self:=λ_ _ _ _ a j=>Jk a.1 j
def AcF(lo:(d==Cs)=An):PySem.W.KdlSrc prog w "dict" d d es.size (λi v=>∃e,es[i]?=U e/\v=e.key) (λh=>bX h d es ep) where
 type:=λ_ a=>a.ty
 there:=λ_⟨_,b,_⟩=>#[AU b,AU b]
 keep:=λ_ _ a f=>a.at' λo e=>f d (.inl Y) o e
 notList:=M5
 notTuple:=M5
 hint:=λ_ _ _ _ a c=>PySem.W.kdl_hint_dict a.ty c
 iter:=λ_ s g a=>#[_,_,(λ_ _ c=>zE lo a c),zH g _ d (Bg (let⟨_,b,_⟩:=a;AU b)) es ep,#[#[_,AN _ Y,Y,Y],a.at' λo e=>Am _ e]]
end
section
open PySem.W
def Alj{α:Type}(o:Nat->Nat->Bool):KasT α->α
 |.ret a=>a
 |.ask i j k=>Alj o (k<|o i j)
def Al{α:Type}(n:Nat)(R:α->Prop):KasT α->Prop
 |.ret a=>R a
 |.ask i j k=>i<n/\j<n/\∀b,Al n R (k b)
def Al.ev{α:Type}{R:α->Prop}{o:Nat->Nat->Bool}{n:Nat}:∀{t:KasT α},Al n R t->R (Alj o t)
 |.ret _,h=>h
 |.ask i j k,h=>Al.ev (t:=k<|o i j) (h.2.2 _)
def Al.bind{α β:Type}{R:α->Prop}{S:β->Prop}{f:α->KasT β}{n:Nat}(hf:∀a,R a->Al n S (f a)):∀{t:KasT α},Al n R t->Al n S (t.bind f)
 |.ret _,h=>hf _ h
 |.ask _ _ _,h=>#[h.1,h.2.1,λb=>Al.bind hf<|h.2.2 b]
def Aa3{α:Type}{R:α->Prop}{o:Nat->Nat->Bool}{n:Nat}{s:Au}{cmp:Nat->Nat->(Bool->Au->Prop)->Au->Prop}{Q:α->Au->Prop}(hc:∀i j C,i<n->j<n->C (o i j) s->cmp i j C s):
  ∀{t:KasT α},Al n R t->Q (Alj o t) s->t.kasWp cmp Q s
 |.ret _,_,h=>h
 |.ask i j k,hb,h=>hc i j _ hb.1 hb.2.1 (Aa3 (t:=k<|o i j) hc (hb.2.2 _) h)
def PB(n:Nat)(p:L4):Prop:=p.Perm (Ba n).toArray
def PB.lt{n:Nat}{p:L4}(h:PB n p)(h0:0<n)(i:Nat):p.getD i 0<n:=by
 by_cases a:i<p.size
 ·have e:p.getD i 0=p[i]:=by simp[Kr,a]
  rw[e];have b:p[i]∈p.toList:=M8;have:=(GN.mp h).mem_iff.mp b;simpa using this
 ·have e:p.getD i 0=0:=by simp[Kr,a]
  rw[e];exact h0
def PB.rev{n:Nat}{p:L4}(h:PB n p)(i j:Nat):PB n (kas_rev p i j):=(mirror_perm p i j _).trans h
def qL{n:Nat}{p:L4}(h:PB n p)(h0:0<n):∀f m,Al n (λ_=>True) (kas_asc p f m)
 |0,_=>trivial
 | f+1,m=>#[h.lt h0 _,h.lt h0 _,λb=>by
   cases b
   ·exact qL h h0 f<|m+1
   ·exact trivial]
def YZ{n:Nat}(h0:0<n):∀f{p:L4},PB n p->∀m q,Al n (λr=>PB n r.1) (kas_desc f p m q)
 |0,_,h,_,_=>h
 | f+1,p,h,m,q=>#[h.lt h0 _,h.lt h0 _,λb=>by
   cases b
   ·refine#[h.lt h0 _,h.lt h0 _,λd=>?_];cases d
    ·exact YZ h0 f h _ _
    ·exact h
   ·show Al n _ (if q>0 then _ else _);split
    ·exact YZ h0 f (h.rev _ _) _ _
    ·exact YZ h0 f h _ _]
def lY{n:Nat}{p:L4}(h:PB n p)(h0:0<n)(m r:Nat):Al n (λr=>PB n r.2) (kas_tail3 m r p):=by refine Al.bind (λa _=>?_)<|qL (h.rev _ _) h0 _ _;exact h.rev _ _
def XY{n:Nat}{p:L4}(h:PB n p)(h0:0<n)(m r:Nat):Al n (λr=>PB n r.2) (kas_descPart m r p):=Al.bind (λa b=>by
 split
 ·exact lY (b.rev _ _) h0 _ _
 ·exact lY b h0 _ _) (YZ h0 _ h _ _)
def Aan{n:Nat}{p:L4}(h:PB n p)(h0:0<n)(r:Nat):Al n (λr=>PB n r.2) (kas_count r p):=Al.bind (λa _=>by
 split
 ·exact h
 ·split
  ·refine#[h.lt h0 _,h.lt h0 _,λb=>?_];cases b
   ·exact XY (h.rev _ _) h0 _ _
   ·exact h
  ·exact XY h h0 _ _) (qL h h0 _ _)
def Zn{n:Nat}{p:L4}(h:PB n p)(h0:0<n)(k:Nat):∀f l r,Al n (λ_=>True) (kas_place p k f l r)
 |0,_,_=>trivial
 | f+1,l,r=>by
   unfold kas_place;split
   ·exact trivial
   ·refine#[h.lt h0 _,h.lt h0 _,λb=>?_];cases b
    ·exact Zn h h0 k f _ _
    ·exact Zn h h0 k f _ _
def Aam{n:Nat}(h0:0<n):∀f{p:L4},PB n p->∀k,Al n (PB n) (kas_bin f p k)
 |0,_,h,_=>h
 |f+1,p,h,k=>Al.bind (λl _=>Aam h0 f ((bubble_perm p k _).trans h) _) (Zn h h0 k _ _ _)
def tR{n:Nat}(h0:0<n):Al n (PB n) (kas_sort n):=Al.bind (λa b=>by
 split
 ·exact Aam h0 _ b _
 ·exact b) (Aan (FJ _) h0 _)
def AnB:Key->Key->Bool
 |.inr x,.inr y=>decide<|x.cps.toList<y.cps.toList
 |.inl i,.inl j=>decide<|i<j
 |_,_=>An
def klt:LM->LM->Bool
 |k::ks,j::js=>if k=j then klt ks js else AnB k j
 |_,_=>An
def Adt:Key->Bool
 |.inl _=>Af
 |.inr _=>An
section
variable{prog:Bn}{w:Bw}{A:BQ}{E:Ai->Au->Prop}{s:Au}
def Aeg{k j:Key}{p q:Ai}{Q:Bool->Au->Prop}(hk:RelV (kV k) p)(hj:RelV (kV j) q)(hs:Adt k=Adt j)(h:Q (decide<|k=j) s):AW (A9 prog w) A (eqBool p q) Q E s:=by
 cases k with
 |inl i=>
   cases j with
   |inl j=>let(t,rfl):=hk;let(u,rfl):=hj;rw[Aa7]at h;exact Kg h
   |inr y=>cases hs
 |inr x=>
   cases j with
   |inl j=>cases hs
   |inr y=>let(t,rfl):=hk;let(u,rfl):=hj;rw[Aa8]at h;exact Kf h
def Ahb{k j:Key}{p q:Ai}{b:Bool}{Q:Bool->Au->Prop}(hk:RelV (kV k) p)(hj:RelV (kV j) q)(hs:Adt k=Adt j)(hb:b=Af->Adt k=An)(h:Q (AnB k j) s):AW (A9 prog w) A (oneLt' b p q) Q E s:=by
 cases k with
 |inl i=>
   cases j with
   |inl j=>
     let(t,rfl):=hk;let(u,rfl):=hj;have e:b=An:=by cases b;rfl;cases hb Y
     subst e;exact kat_one _ _<|lt_int h
   |inr y=>cases hs
 |inr x=>
   cases j with
   |inl j=>cases hs
   |inr y=>
     let(t,rfl):=hk;let(u,rfl):=hj;cases b with
     |true=>exact oneLt_str h
     |false=>exact kat_one _ _ (lt_str h)
def Abp{fin:Bool}(hf:fin=An){Q:Bool->Au->Prop}:∀{ks js:LM}{xs ys:LB}{i:Nat},Vals (ks.map kV) xs->Vals (js.map kV) ys->ks.map Adt=js.map Adt->(i=0->∀k∈ks.head?,Adt k=An)->Q (klt ks js) s->KatLex prog w A Af fin Q (xs.zip ys) i s
 |[],[],_,_,_,.nil,.nil,_,_,h=>by subst hf;exact h
 | k::ks,j::js,_,_,i,.cons h1 r1,.cons h2 r2,hs,h0,h=>by
   rw[Az,Az]at hs;injection hs with e1 e2;refine kat_cons<|Aeg h1 h2 e1 ?_;by_cases e:k=j
   ·rw[Ap e];refine kat_yes<|Abp hf r1 r2 e2 (λz=>M6) ?_;rwa[klt,AG e]at h
   ·rw[Ar e];refine kat_no<|Ahb h1 h2 e1 (λz=>h0 (by simpa using z) k M8) ?_;rwa[klt,Ay e]at h
end
def TB(ks:LQ):LP:=if ks.length<2 then Ba ks.length else(Alj (λi j=>klt (ks.getD i [])<|ks.getD j [])<|kas_sort ks.length).toList
def SF(ks:LQ):(TB ks).Perm (Ba ks.length):=by
 unfold TB;split
 ·exact IE _
 ·exact GN.mp (Al.ev<|tR M6)
def AcW(ks:LQ):LQ:=(TB ks).map λi=>ks.getD i []
structure Alb(ks:LQ):Prop where
 one:∀k∈ks,∀j∈ks,k.map Adt=j.map Adt
 txt:∀k∈ks,∃x r,k=Cr x::r
section
variable{prog:Bn}{w:Bw}{A:BQ}{E:Ai->Au->Prop}{s:Au}
def VB(h:BO)(ks:LQ)(vs:LB):Prop:=Paired (λk v=>∃(b:Ag)(its:LB),v=.ref b/\Vals (k.map kV) its/\HX h b its.toArray) ks vs
def VB.get{h:BO}{ks:LQ}{vs:LB}(t:VB h ks vs):∀{i:Nat},i<ks.length->∃(b:Ag)(its:LB),vs.getD i Cz=.ref b/\Vals ((ks.getD i []).map kV) its/\HX h b its.toArray:=by
 induction t with
 |nil=>intro i a;exact absurd a<|Jz _
 |cons h1 _ ih=>
   intro i a;cases i with
   |zero=>exact h1
   |succ i=>exact ih (HZ a)
def VB.Ul{h:BO}{ks:LQ}{vs:LB}(t:VB h ks vs):(∀k∈ks,∃x r,k=Cr x::r)->∃fs:LB,KatTups h vs fs/\fs.length=ks.length/\∀f∈fs,∃x t,f=Ei x t:=by
 induction t with
 |nil=>exactλ_=>#[[],.nil,Y,λ_ h=>nomatch h]
 |cons h1 _ ih=>
   intro d;let(fs,i,m,l):=ih λk a=>d k<|.tail _ a
   let(x,r,rfl):=d _<|.head _;let(b,j,rfl,q,o,g,p,n,e):=h1;cases q with
   |cons rx _=>
     let(t,rfl):=rx;refine#[.str x t::fs,.cons g p e M8 i,by simp[m],λf c=>?_];rcases AB.mp c with rfl|c
     ·exact#[x,t,Y]
     ·exact l f c
def range_getD(vs:LB):(Ba vs.length).map (λi=>vs.getD i Cz)=vs:=by
 apply DW;intro i;rw[Aj];by_cases h:i<vs.length
 ·simp[h]
 ·rw[Bx (by simpa using h),Bx M6];rfl
def cV{ks:LQ}{a:Ag}{vs:LB}{n:Nat}{P:Ku->Au->Prop}(ho:s.heap.get? a=U (seqObj "list" vs.toArray n))(hs:Alb ks)(hl:ks.length=vs.length)(ht:∀h':BO,(∀b o,b≠a->s.heap.get? b=U o->h'.get? b=U o)->VB h' ks vs)(h64:vs.length<64)(h:P (.done<|.ret .none) {s with heap:=JI s.heap a vs (HE<|(TB ks).map λi=>vs.getD i Cz)}):AW (A9 prog w) A (C3.«list.sort» #[[.ref a],[]]) P E s:=by
 rw[Kv];refine Ad<|IV ho Y ?_;refine Ad<|C1 ho Y ?_;obtain⟨e1,u⟩:∃e1,(s.heap.update a<|BH λ_=>#[]).get? a=U _:=#[_,DL ho λ_=>#[]];refine Ad<|FQ u Y ?_;refine Ad<|HJ ?_;refine Ad<|CY ?_;refine BG ?_;have d:(((s.heap.update a _).push (seqObj "tuple" vs.toArray 0)).push (seqObj "list" #[] 0)).get? a=U _:=
  Am _ (Am _ u)
 have y:∀b o,b≠a->s.heap.get? b=U o->(((s.heap.update a<|BH λ_=>#[]).push (seqObj "tuple" vs.toArray 0)).push (seqObj "list" #[] 0)).get? b=U o:=λb o V e=>
  Am _ (Am _<|(BO.get?_update_ne _ _ _ _ V).trans e)
 have T:=ht _ y;dsimp only;have l:=h;by_cases m:vs.toArray.size<2
 ·rw[AG m,AG m];refine Ad<|Aw ?_;refine Ad<|Aw ?_;refine Ad<|FQ d Y ?_;refine Ad<|C1 d Y ?_ (hsz2:=by rw[GL];show(Ka vs).size<=_;rw[pairsOf_size,Bb];omega);simp only[Ib,C4,if_false];have Z:(vs.toArray.zip vs.toArray).map (·.2)=HE ((TB ks).map λi=>vs.getD i Cz):=by
   unfold TB;rw[AG (by rw[hl];simpa using m),hl,range_getD];simp[List.map_snd_zip]
  refine Aw ?_;rw[<-Z]at l;exact l
 ·rw[Ay m,Ay m];have D:2<=vs.length:=by simpa using m
  let(fs,X,lf,B):=T.Ul hs.txt;refine Ad<|kat_kind (T:=.type "str") X M6 (λv hv=>?_) Y ?_
  ·let(x,t,rfl):=B v hv;exact Looks.of_pure Y
  refine Ad (B1 (kat_run (G:=λp q=>p.toList=TB ks/\q={s with heap:=((s.heap.update a<|BH λ_=>#[]).push (seqObj "tuple" vs.toArray 0)).push (seqObj "list" #[] 0)})
   (Q:=λf q=>(∃p:L4,Dz f=p.map _/\FR f=Ah/\p.toList=TB ks)/\q={s with heap:=((s.heap.update a _).push _).push _})
   rfl D h64 (λp f q _ a2 y0 I=>#[#[p,a2,y0,I.1],I.2]) ?_) ?_ λ_ _ e=>e)
  ·rw[<-hl];refine Aa3 (o:=λi j=>klt (ks.getD i [])<|ks.getD j []) (λi j C L N O=>?_) (tR M6) #[?_,Y]
   ·obtain ⟨b,xs,eb,j0,ob,u3,cb,nb,db⟩:=T.get L;let(c,ys,R,K,oc,gc,cc,nc,S):=T.get N;unfold kas_ask;rw[eb,R];have M:ks.getD i []∈ks:=by rw[Bs,Ae L];exact Cy _
    have W:ks.getD j []∈ks:=by rw[Bs,Ae N];exact Cy _
    have F:=hs.one _ M _ W;refine kat_lt u3 db gc S<|Abp ?_ j0 K F (λ_ k H=>?_) O
    ·have l1:=AE j0;have l2:=AE K;have l3:=congrArg Ez F;simp only[Ac]at l1 l2 l3;simp only[Aq];exact Ar M6
    ·let(x,r,e):=hs.txt _ M;rw[e]at H;cases H;rfl
   ·unfold TB;rw[Ay M6]
  rintro⟨⟨⟩,f⟩q⟨⟨p,z,B,hp⟩,rfl⟩;have g:=kat_snds Y z;rw[hp]at g;rw[g];have lp:((TB ks).map λi=>vs.getD i Cz).length<=sizeLine:=by rw[Ac,(SF ks).length_eq,BX,Bb];omega
  refine Ad<|FQ d Y ?_;refine Ad<|C1 d Y ?_;rw[B];simp only[Ib,C4,if_false];exact Aw l
end
end
section
variable{X:Cx}
def wI(H:Hp)(k:LM)(v:V):Prop:=∃b,v=.ref b/\H b=U (.tup<|k.map kV)
def oT{α:Type}{F:α->V->Prop}{d:α}{xs:List α}{ys:Lx}(h:Paired F xs ys){is:LP}(hi:∀i∈is,i<xs.length):Paired F (is.map λi=>xs.getD i d) (is.map λi=>ys.getD i .Of):=by
 have at':∀{xs:List α}{ys:Lx},Paired F xs ys->∀i,i<xs.length->F (xs.getD i d) (ys.getD i .Of):=by
  intro xs ys h;induction h with
  |nil=>intro i hi;exact absurd hi<|Jz _
  |cons h1 _ a=>
    intro i hi;cases i with
    |zero=>exact h1
    |succ i=>exact a i<|HZ hi
 induction is with
 |nil=>exact .nil
 |cons i is a=>exact .cons (at' h i<|hi i<|.head _) (a λj b=>hi j<|.tail _ b)
def yT{vs:Lx}{us:LB}(h:Vals vs us)(is:LP):Vals (is.map λi=>vs.getD i .Of) (is.map λi=>us.getD i Cz):=by
 have at':∀{vs:Lx}{us:LB},Vals vs us->∀i,RelV (vs.getD i .Of) (us.getD i Cz):=by
  intro vs us h;induction h with
  |nil=>intro i;exact Y
  |cons h1 _ a=>
    intro i;cases i with
    |zero=>exact h1
    |succ i=>exact a i
 induction is with
 |nil=>exact .nil
 |cons i is a=>exact .cons (at' h i) a
def Aba{H:Hp}{kvs:L6}{ys:LX}(h:Paired (λ(p:LM×V)(q:LM×Ag×Ai)=>p.1=q.1/\H q.2.1=U (.tup<|p.1.map kV)/\RelV p.2 q.2.2) kvs ys):Paired (wI H) (kvs.map (·.1)) (ys.map λy=>V.ref y.2.1):=by
 induction h with
 |nil=>exact .nil
 |cons a _ b=>exact .cons #[_,Y,a.2.1] b
def gG:∀ys:LX,Vals (ys.map λy=>V.ref y.2.1) (ys.map λy=>Bz y.2.1)
 |[]=>.nil
 |_::ys=>.cons Y (gG ys)
def sF:Lx->Hp->VK->Prop:=λxs H Q=>∃p kvs,xs=[.ref p]/\H p=U (.dT kvs)/\Alb (kvs.map (·.1))/\kvs.length<64 /\
 ∀l bs,Paired (wI H) (AcW (kvs.map (·.1))) bs->H l=Ah->Q (.ref l) (upd H l<|.lst bs)
def bZ(hc:X.calm=Af):P7 X (.builtin "sorted") sF:=by
 intro C s J H xs us Q I r h;let(p,c,rfl,hp,hs,aa,k):=h;let(u,rfl,ru):=vals1 r;cases ru;let(_,W,f,B,o,es,ep,ho,(S,_,_),v,E,_):=I.N5 p _ hp;have hl:c.length=f.length:=AE B;have q:es.size=f.length:=by rw[<-AZ,E,Ac]
 refine Es Hd GJ GK (IW _) ?_;unfold C3.«sorted»;refine Ad (m:=checkCount "sorted" 1 1 _)<|Aw ?_;refine Ad<|Ed (A:=X.A.in1) (AcF (es:=es) (ep:=ep) W) (I.ok.hd hc) #[o,ho,S,v] (by rw[q,Bb];omega) λg j0 d hk j=>?_
 have l:d.toList=f.map λy=>Bz y.2.1:=by
  apply DW;intro i;rw[Aj];by_cases D:i<f.length
  ·have F:i<d.size:=by rw[j.1,q];exact D
   let(e,R,ev):=j.2 i d[i] (by simp[F]);have K:es.toList[i]?=U e:=by rw[B4];exact R
   rw[E,Aj,Ae D]at K;cases K;rw[B4,GU F,ev,Ae D];rfl
  ·rw[Bx (by rw[AZ,j.1,q];omega),Bx M6];rfl
 have z:d.toList.length=c.length:=by rw[l,Ac,hl]
 refine Ad<|CY ?_ (by rw[z,Bb];omega);have M:Inv X C J H {s with heap:=g,toks:=j0}:=I.kept (t':=j0) hk;have t:(g.push<|seqObj "list" d.toList.toArray 0).get? g.objs.size=U (seqObj "list" d.toList.toArray 0):=AN _ Y;show AW _ _ _ _ _ {s with heap:=g.push<|seqObj "list" d.toList.toArray 0,toks:=j0};have T:Paired (wI H) (c.map (·.1)) (f.map λy=>V.ref y.2.1):=Aba B;have P:Vals (f.map λy=>V.ref y.2.1) d.toList:=by rw[l];exact gG f
 have Ul:∀n:BO,(∀b o,b≠g.objs.size->(g.push<|seqObj "list" d.toList.toArray 0).get? b=U o->n.get? b=U o)->VB n (c.map (·.1)) d.toList:=by
  intro n N;rw[l];have L:∀{G:LQ}{f:LX},Paired (wI H) G (f.map λy=>V.ref y.2.1)->VB n G (f.map λy=>Bz y.2.1):=by
   intro G f h;induction f generalizing G with
   |nil=>cases h;exact .nil
   |cons y f ih=>
     cases h with
     |cons K h2=>refine .cons ?_<|ih h2;let(b,e,y0):=K;cases e;let(_,O,P,ot,L,gc,gn,gd):=M.N5 _ _ y0;exact#[_,O,Y,P,ot,N _ _ (Bg<|AU L)<|Am _ L,gc,gn,gd]
  exact L T
 refine Ad<|BG<|CI FP #[_,t,Y] Fw (cV t hs (by rw[Ac,z]) Ul M6 #[_,Y,?_])<|HW _;refine Aw #[_,Y,?_];have hn:H g.objs.size=Ah:=M.fresh;let(e,R):=IC (h:=g.push<|seqObj "list" d.toList.toArray 0) (out:=HE ((TB (c.map (·.1))).map λi=>d.toList.getD i Cz)) t;have lI:(TB (c.map (·.1))).length=c.length:=by rw[(SF _).length_eq,BX,Ac]
 have pp:Paired (wI H) (AcW (c.map (·.1))) ((TB (c.map (·.1))).map λi=>(f.map λy=>V.ref y.2.1).getD i .Of):=oT T λi D=>by
  have:=(SF (c.map (·.1))).mem_iff.mp D;rwa[B6]at this
 have Z:=yT P (TB (c.map (·.1)));refine#[.ref g.objs.size,_,M.laid (a:=g.objs.size) (o:=.lst<|(TB<|c.map (λx=>x.1)).map λi=>(f.map λy=>V.ref y.2.1).getD i .Of) (t':=j0) (λb o u3=>?_) (Ao _) #[?_,_,e,Z,R],Y,k _ _ pp hn]
 ·have w:b<g.objs.size:=AU u3;rw[HU (Bg w) (by rw[HV];exact F7 w)];exact Am _ u3
 ·rw[Ac,lI,Bb];omega
end
section
def Rn(e:Ent):D:=.t [.f<|.int e.1,.f<|YQ e.2]
def OK(E:OU):D:=.d (E.map λe=>(.inr e.1,Rn e.2))
def YN(Hs:Q5):D:=.d (Hs.map λe=>(.inr e.1,.t<|e.2.map λn=>.f<|.int n))
def qC(C:Ag)(L:Lt):D:=.i C [("number",.f<|.int L.num),("label",.f<|.str L.Pd),("ask",.f<|oI L.ask),("house",.f<|.str L.PJ),("key",.f<|.int L.key),("state",OK L.Ym)]
def Anm(p:AA×Int):D:=.t [.f<|.str p.1,.f<|.int p.2]
def Aal(C:Ag)(h:Ag)(B:Ak):O:=.i C [("kind",.f<|.str B.kind),("asker",.f<|.str B.mC),("key",.f<|.int B.key),("enough",.f<|.int B.qR),("gathered",OK B.qV),("ahead",.l<|B.ahead.map Anm),("heard",.f<|.ref h),("stage",.f<|.str B.pQ)]
def qF(C:Ag)(s:Ag)(T:Sf):O:=.i C [("key",.f<|.int T.key),("copies",.f<|.int T.c),("reads",.f<|.int T.r),("writes",.f<|.int T.w),("shelves",.f<|.ref s)]
def PM(L:Lw):LI:=L.map λz=>(.inr z,.f<|.bl Af)
def VT(S:LL):LI:=S.map λe=>(.inr e.1,OK e.2)
def PH(w:PR)(k:Int):Option Sf:=w.Ts.find? λT=>decide (T.key=k)
def Sm(C:WC)(A:WR->Ag)(w:PR):WR->Option O
 |.top=>U<|.i C.W [("there",YN w.Hs),("declared",.f<|.ref<|A .decl),("absent",.f<|.ref<|A .RC),("left",.f<|.ref<|A .left),("post",.f<|.ref<|A .post),("asks",.f<|.ref<|A .asks),("learnt",.f<|.ref<|A .Abt)]
 |.decl=>U<|.d<|w.Ts.map λT=>(.inl T.key,.f<|.ref<|A<|.OX T.key)
 |.RC=>U<|.d<|PM w.away
 |.left=>U<|.i C.H [("kept",.f<|.ref<|A .kept)]
 |.kept=>U<|.m<|w.hints.map λe=>(OM e.1,OK e.2)
 |.post=>U<|.i C.P [("sent",.f<|.int w.OF),("under_way",.f<|.ref<|A .uw)]
 |.uw=>U<|.d<|w.Ls.map λL=>(.inl L.num,qC C.L L)
 |.asks=>U<|.i C.S [("begun",.f<|.ref<|A .begun)]
 |.begun=>U<|.l<|(Ba w.Ms.length).map λn=>.f<|.ref<|A<|.ask n
 |.Abt=>U<|.m<|w.VL.map λe=>(V1 e.1,OK e.2)
 |.OX k=>(PH w k).map (qF C.T<|A<|.Zh k)
 |.Zh k=>(PH w k).map λT=>.d<|VT T.sh
 |.ask n=>w.Ms[n]?.map (Aal C.A<|A<|.NX n)
 |.NX n=>w.Ms[n]?.map λB=>.d (PM B.NX)
def Ob(C:WC)(i:Nat)(A:WR->Ag)(w:PR)(S:NW):Prop:=∀x o,Sm C A w x=U o->S (A x)=U (.wd i x,o)
def Fr(i:Nat)(S S':NW):Prop:=∀a r o,S a=U (r,o)->(∀x,r≠.wd i x)->S' a=U (r,o)
section
variable{C:WC}{i:Nat}{A:WR->Ag}{w w':PR}{S S':NW}{y:WR}{o:O}
def Fr.refl:Fr i S S:=λ_ _ _ h _=>h
def Fr.trans(h:Fr i S S')(k:Fr i S' S''):Fr i S S'':=λa r o e n=>k a r o (h a r o e n) n
def Fr.set(h:S a=U (.wd i y,o)):Fr i S (NP S a x):=λb r c e n=>(NJ λz=>by rw[z,h]at e;injection e with e;injection e with e;exact n _ e.symm).trans e
def Fr.new(h:S a=Ah):Fr i S (NP S a x):=λb r c e n=>(NJ λz=>by rw[z,h]at e;cases e).trans e
def Ob.ne(h:Ob C i A w S)(e:Sm C A w x=U o)(e':Sm C A w y=U o')(n:x≠y):A x≠A y:=bD (h x o e) (h y o' e') λz=>by injection z with _ z;exact n z
def Ob.upd(h:Ob C i A w S)(y:WR)(e0:Sm C A w y=U ov)(e1:Sm C A w' y=U o)(e:∀x,x≠y->Sm C A w' x=Sm C A w x):Ob C i A w' (NP S (A y) (.wd i y,o)):=λx b a=>by
 by_cases z:x=y
 ·subst z;rw[e1]at a;cases a;exact NO
 ·rw[e x z]at a;exact(NJ<|h.ne a e0 z).trans (h x b a)
def Ob.new(h:Ob C i A w S)(n:S a=Ah):Ob C i A w (NP S a x):=λy o e=>(NJ λz=>by have:=h y o e;rw[z,n]at this;cases this).trans (h y o e)
def XO{w:PR}(tok:YY w.Ts)(hT:T∈w.Ts):PH w T.key=U T:=by
 unfold PH;have a:=tok.nd;clear tok;generalize w.Ts=Ts at *;induction Ts with
 |nil=>cases hT
 |cons x xs ih=>
   rw[Az,Bc]at a;rcases AB.mp hT with rfl|hT
   ·rw[A7,Ap Y]
   ·rw[A7,Ar λz=>a.1 (by rw[z];exact A8 hT)];exact ih hT a.2
end
section
variable{κ α:Type}[DecidableEq κ]{g:α->κ}{c:α->D}
def P0(xs:List α)(k:κ):OB (xs.map λx=>(g x,c x)) k=(xs.find? λx=>decide<|g x=k).map c:=by
 unfold OB;induction xs with
 |nil=>rfl
 |cons x xs ih=>
   rw[Az,A7,A7];by_cases e:g x=k
   ·simp[e]
   ·simp only[e,decide_false];exact ih
def SS(xs:List α)(e:α):putD (xs.map λx=>(g x,c x)) (g e) (c e)=(P2 g xs e).map λx=>(g x,c x):=by
 unfold putD P2;rw[Kc];show(if(xs.any λx=>decide _)=Af then _ else _)=_;split
 ·rw[AO,AO];refine Bp λx _=>?_
  show(if g x=g e then(g x,c e)else(g x,c x))=(g (if g x=g e then e else x),c (if g x=g e then e else x));split
  ·rename_i h;rw[h]
  ·rfl
 ·rw[Bi];rfl
def iN(xs:List α)(k:κ):Wb (xs.map λx=>(g x,c x)) k=(xs.filter λx=>decide<|g x≠k).map λx=>(g x,c x):=by unfold Wb;rw[Gv];rfl
end
def UR(L:Lw)(z:AA):(OB (PM L)<|.inr z).isSome=decide (z∈L):=by unfold PM;rw[P0,C7];rw[BM,F3,Br];refine#[λ⟨x,a,e⟩=>?_,λh=>#[z,h,Ap Y]];have e:=B2 e;injection e with e;exact e▸a
def Ade(S:LL)(z:AA):(OB (VT S)<|.inr z).isSome=decide (z∈S.map (·.1)):=by
 unfold VT;rw[P0,C7];rw[BM,F3,Br];refine#[λ⟨x,a,e⟩=>?_,λh=>?_]
 ·have e:=B2 e;injection e with e;exact e▸A8 a
 ·let(x,a,e):=AR.mp h;exact#[x,a,Ap<|by rw[e]]
def lM(S:LL)(z:AA):(OB (VT S)<|.inr z).getD (OK [])=OK (Ru S z):=by unfold VT Ru;rw[P0];cases S.find? λe=>decide ((.inr e.1:Key)=.inr z)<;>rfl
def lK(L:List tP)(z:AA)(k:Int):(OB (L.map λe=>(V1 e.1,OK e.2))<|V1 (z,k)).getD (OK [])=OK (PY L z k):=by unfold PY;rw[P0];cases L.find? λe=>decide (V1 e.1=V1 _)<;>rfl
def U6(L:LK)(e:AA×AA×Int):OU:=((L.find? λx=>decide<|OM x.1=OM e).map (·.2)).getD []
def wD(L:LK)(e:AA×AA×Int):(OB (L.map λe=>(OM e.1,OK e.2))<|OM e).getD (OK [])=OK (U6 L e):=by unfold U6;rw[P0];cases L.find? λx=>decide (OM x.1=OM e)<;>rfl
section
variable{K:Ab}{F:Lv}{S:NW}{H:Hp}
def AiA:VD K F S H (Rn e) v->∃t,v=.ref t/\H t=U (.tup [.int e.1,YQ e.2]):=λh=>by
 let(t,f,rfl,d,c):=TC.mp h;cases c with
 |cons a c=>
   cases c with
   |cons b c=>cases c;rw[N1.mp a,N1.mp b]at d;exact#[t,Y,d]
def AcY{E:OU}{kvs:LA}(h:Paired (KD<|VD K F S H) (E.map λe=>(.inr e.1,Rn e.2)) kvs):Ado K H E kvs:=by
 induction E generalizing kvs with
 |nil=>cases h;exact Ado.nil
 |cons e E ih=>
   cases h with
   |@cons p q ps qs h1 h2=>let(k,v):=q;let(t,rfl,a):=AiA h1.2;have b:k=.inr e.1:=h1.1;rw[b];exact Ado.cons (P5.of a) (ih h2)
def tD(h:VD K F S H (OK E) v):∃a kvs,v=.ref a/\Rd H a (.dK kvs)/\(a∉F->H a=U (.dK kvs))/\Ado K H E kvs:=by
 let(a,kvs,rfl,_,b,c):=Aaa.mp h;refine#[a,kvs,Y,b.rd,λn=>?_,AcY c];rcases b with b|⟨z,_⟩
 ·exact b
 ·exact(n z).elim
end
def aK(w:PR)(Pd:AA)(ask:LG)(PJ:AA)(key:Int)(E:OU):PR:={w with OF:=w.OF+1,Ls:=w.Ls++[#[w.OF+1,Pd,ask,PJ,key,E]]}
def AfB{Ls:Mh}{C:Ag}(L:Lt)(h:∀M∈Ls,M.num<L.num):U (O.d<|(Ls++[L]).map λL=>(.inl L.num,qC C L))=U (.d<|putD (Ls.map λL=>((.inl L.num:Key),qC C L)) (.inl L.num)<|qC C L):=by rw[SS Ls L,WE];intro m;let(M,a,e):=AR.mp m;injection e with e;have:=h M a;omega
abbrev QD:=D->NW->Prop
abbrev Lc:=List (Option D)
abbrev DE:=Lv->Lc->NW->QD->Prop
abbrev Mb:=List (DE×DE)
abbrev DT:=Lv->Lc->NW->(Bool->NW->Prop)->Prop
abbrev DA:=Lv->Lc->NW->(Lz->NW->Prop)->Prop
structure qH where
 nx:Lc->NW->Prop
 rt:QD
 bk:Lc->NW->Prop:=λ_ _=>False
 ct:Lc->NW->Prop:=λ_ _=>False
abbrev DS:=Lv->qH->Lc->NW->Prop
abbrev US:=L1
section
variable{F F1 F2:Lv}{S S1 S2:NW}{H H1 H2:Hp}
def Pe.refl:Pe F S H F S H:=#[λ_ _ h=>h,λ_ _ h k=>#[h,k],λ_ _ h k=>#[h,k],λ_ _ h k=>#[h,k],λ_ _ _ _ h k=>#[h,k]]
def Pe.trans(p:Pe F S H F1 S1 H1)(q:Pe F1 S1 H1 F2 S2 H2):Pe F S H F2 S2 H2:=#[λa b h=>q.t _ _<|p.t _ _ h,λa b h k=>q.l _ _ (p.l _ _ h k).1 (p.l _ _ h k).2,λa b h k=>q.d _ _ (p.d _ _ h k).1 (p.d _ _ h k).2,λa b h k=>q.m _ _ (p.m _ _ h k).1 (p.m _ _ h k).2,λa C e c h k=>q.i _ _ _ _ (p.i _ _ _ _ h k).1 (p.i _ _ _ _ h k).2]
def AlD:HO->Prop
 |.Rg _ _=>False
 |_=>True
structure Px(F:Lv)(S:NW)(H:Hp)(F':Lv)(S':NW)(H':Hp):Prop extends Pe F S H F' S' H' where
 z:∀a∈F,a∈F'->∀o u,H a=U (.Rg o u)->H' a=U (.Rg o u)
def Px.refl:Px F S H F S H:=#[.refl,λ_ _ _ _ _ h=>h]
def Px.trans(p:Px F S H F S1 H1)(q:Px F S1 H1 F S2 H2):Px F S H F S2 H2:=#[p.toPe.trans q.toPe,λa m _ o u h=>q.z a m m o u<|p.z a m m o u h]
def Px.Py(s:OH H H1):Px F S H F S H1:=#[.Py s,λa _ _ o u h=>s.keep _ _ nofun h]
def Px.own(s:NV H H1)(h:H b=Ah):Px F S H F (NP S b x) H1:=#[.own s h,λa _ _ o u e=>s _ _ e]
def Px.fix:Px F S H F (cC S b) H:=#[.fix,λ_ _ _ _ _ h=>h]
def Px.set{K:Ab}{T:L1}{u0 u:HO}(R:Rp K T F H S L)(hS:S b=U (r,o))(e0:H b=U u0:=by assumption)(nf:AlD u0:=by trivial):Px F S H F (NP S b (r',o')) (upd H b u):=#[.set R hS,λa _ _ o v e=>by
 rw[NN]
 ·exact e
 ·intro z;rw[z,e0]at e;cases e;exact nf]
end
section
variable(K:Ab)(F:Lv)(S:NW)(H:Hp)
def AnL(o:Option D)(x:L9):Prop:=∀d,o=U d->∃v,x=U v/\VD K F S H d v
abbrev Lo(loc:Lc)(J:St):Prop:=Paired (AnL K F S H) loc J
abbrev V6(ds:Lz)(vs:Lx):Prop:=Paired (VD K F S H) ds vs
variable(T:US)
def Nx(Q':QD)(Q:VK):Prop:=∀d S1 H1 v,Px F S H F S1 H1->Rp K T F H1 S1 []->VD K F S1 H1 d v->Q' d S1->Q v H1
end
section
variable{K:Ab}{T:US}{F F':Lv}{S S1 S':NW}{H H1 H':Hp}{loc:Lc}{J:St}{ds:Lz}{vs:Lx}{d:D}{v:V}{o:O}
def VD.px(p:Px F S H F' S' H')(h:VD K F S H d v):VD K F' S' H' d v:=h.pe p.toPe
def Lo.px(p:Px F S H F' S' H')(h:Lo K F S H loc J):Lo K F' S' H' loc J:=Paired.imp' (λ_ _ q d e=>let⟨v,z,w⟩:=q d e;#[v,z,w.px p]) h
def V6.px(p:Px F S H F' S' H')(h:V6 K F S H ds vs):V6 K F' S' H' ds vs:=Paired.imp' (λ_ _=>VD.px p) h
def Nx.px{Q':QD}{Q:VK}(p:Px F S H F S1 H1)(h:Nx K F S H T Q' Q):Nx K F S1 H1 T Q' Q:=λd a b v q=>h d a b v (p.trans q)
def QH(S:NW)(d:D)(o:O):Prop:=d=Yv o\/∃a r,d=.f (.ref a)/\S a=U (r,o)
def Oz(h:QH S d o)(w:VD K F S H d v):Is S [(d,v)] v o:=by
 rcases h with rfl|⟨a,r,rfl,h⟩
 ·exact .inr<|.head _
 ·exact .inl #[a,r,N1.mp w,h]
def Rp.one(R:Rp K T F H S [])(w:VD K F S H d v):Rp K T F H S [(d,v)]:=R.add w
def Rp.two(R:Rp K T F H S [])(w:VD K F S H d v)(w':VD K F S H e x):Rp K T F H S [(d,v),(e,x)]:=(R.add w').add w
def Rp.hd{L:Mg}(R:Rp K T F H S ((d,v)::L)):VD K F S H d v:=R.led _ (.head _)
def Rp.nil{L:Mg}(R:Rp K T F H S L):Rp K T F H S []:=R.sub nofun
abbrev AeA:Lc->Nat->Option D
 |[],_=>Ah
 |a::_,0=>a
 |_::t,n+1=>AeA t n
abbrev zU:Lc->Nat->D->Lc
 |[],_,_=>[]
 |_::t,0,d=>U d::t
 |a::t,n+1,d=>a::zU t n d
def Lo.get:∀{loc:Lc}{J:St}{i:Nat},Lo K F S H loc J->AeA loc i=U d->∃v,Ahw J i=U v/\VD K F S H d v
 |_,_,0,.cons h _,e=>h d e
 |_,_,n+1,.cons _ t,e=>Lo.get (i:=n) t e
def Lo.set(w:VD K F S H d v):∀{loc:Lc}{J:St}{i:Nat},Lo K F S H loc J->Lo K F S H (zU loc i d) (Aio J i v)
 |_,_,_,.nil=>.nil
 |_,_,0,.cons _ t=>.cons (λ_ e=>#[v,Y,by cases e;exact w]) t
 |_,_,n+1,.cons h t=>.cons h (Lo.set w (i:=n) t)
end
section
variable(K:Ab)(T:US)
def lf(t:DE):TE:=λJ H Q=>∃F loc S Q',Rp K T F H S []/\Lo K F S H loc J/\t F loc S Q'/\Nx K F S H T Q' Q
def V0(t:DT):TT:=λJ H Q=>∃F loc S Q',Rp K T F H S []/\Lo K F S H loc J/\t F loc S Q'/\∀b S1 H1,Px F S H F S1 H1->Rp K T F H1 S1 []->Q' b S1->Q b H1
def jR(t:DA):TA:=λJ H Q=>∃F loc S Q',Rp K T F H S []/\Lo K F S H loc J/\t F loc S Q'/\∀ds S1 H1 vs,Px F S H F S1 H1->Rp K T F H1 S1 []->V6 K F S1 H1 ds vs->Q' ds S1->Q vs H1
structure AiI(F:Lv)(S:NW)(H:Hp)(D':qH)(E:Ends):Prop where
 nx:∀loc S1 H1 J,Px F S H F S1 H1->Rp K T F H1 S1 []->Lo K F S1 H1 loc J->D'.nx loc S1->E.nx J H1
 rt:Nx K F S H T D'.rt E.rt
 bk:∀loc S1 H1 J,Px F S H F S1 H1->Rp K T F H1 S1 []->Lo K F S1 H1 loc J->D'.bk loc S1->E.bk J H1
 ct:∀loc S1 H1 J,Px F S H F S1 H1->Rp K T F H1 S1 []->Lo K F S1 H1 loc J->D'.ct loc S1->E.ct J H1
def RD(t:DS):TS:=λE J H=>∃F loc S D',Rp K T F H S []/\Lo K F S H loc J/\t F D' loc S/\AiI K T F S H D' E
end
def AiI.px{K:Ab}{T:US}{D':qH}{E:Ends}(p:Px F S H F S1 H1)(h:AiI K T F S H D' E):AiI K T F S1 H1 D' E:=#[λa b c J q=>h.nx a b c J<|p.trans q,h.rt.px p,λa b c J q=>h.bk a b c J<|p.trans q,λa b c J q=>h.ct a b c J<|p.trans q]
def PT.imp{X:Cx}{t u:TT}(h:PT X e t)(m:∀J H Q,u J H Q->t J H Q):PT X e u:=λa s J H Q I b=>h a s J H Q I (m J H Q b)
def PA.imp{X:Cx}{t u:TA}(h:PA X es t)(m:∀J H Q,u J H Q->t J H Q):PA X es u:=λb a s J H Q I c=>h b a s J H Q I (m J H Q c)
def PS.imp{X:Cx}{st:Bm}{t u:TS}(h:PS X st t)(m:∀E J H,u E J H->t E J H):PS X st u:=λa s J H E I b=>h a s J H E I (m E J H b)
def Q6.imp{X:Cx}{st:LY}{t u:TS}(h:Q6 X st t)(m:∀E J H,u E J H->t E J H):Q6 X st u:=λa s J H E I b=>h a s J H E I (m E J H b)
def PW.imp{X:Cx}{t u:TT}(h:PW X e t)(m:∀J H Q,u J H Q->t J H Q):PW X e u:=λc a s J H Q I b=>h c a s J H Q I (m J H Q b)
abbrev D2:=D->D->Lv->NW->QD->Prop
abbrev DN:=Lz->Lv->NW->QD->Prop
section
variable(X:Cx)(K:Ab)(T:US)
def Aaj(r:R2)(δ:D2):Prop:=∀F S H(Q:VK)(Q':QD)d e x y,Rp K T F H S []->VD K F S H d x->VD K F S H e y->δ d e F S Q'->Nx K F S H T Q' Q->r x y H Q
def Alz(r:Lx->Hp->VK->Prop)(δ:DN):Prop:=∀F S H(Q:VK)(Q':QD)ds vs,Rp K T F H S []->V6 K F S H ds vs->δ ds F S Q'->Nx K F S H T Q' Q->r vs H Q
def V4(f:Ai->Ai->IK Ai)(δ:D2):Prop:=∃r,RU X f r/\Aaj K T r δ
def Alx(δ:D2):Prop:=∃r,Ai3 X r/\Aaj K T r δ
def RH(f:Ai)(δ:DN):Prop:=∃r,P7 X f r/\Alz K T r δ
end
section
variable{X:Cx}{K:Ab}{T:US}{t u t3:DE}{tA uA:DT}{ta:DA}{s:DS}{δ δ':D2}{pos:CU}{a b c e:Expr}{es rest:LJ}{x f:AA}
def Nx.flat{Q':QD}{Q:VK}{w:V}(R:Rp K T F H S [])(h:Nx K F S H T Q' Q)(q:Q' (.f w) S):Q w H:=h _ _ _ _ .refl R .f q
abbrev oQ(o:Option D)(Q:QD)(S:NW):Prop:=match o with
 |some d=>Q d S
 |none=>False
abbrev V9(i:Nat):DE:=λ_ loc S Q=>oQ (AeA loc i) Q S
def ev(i:Nat)(hN:X.N[i]?=U x:=by rfl)(hv:Ai7 X.env.scope x:=by first|exact BK rfl|exact Ee (BK Y)|exact Ee<|Ee Y)(hd:(x==("__debug__":AA))=An:=by decide)(hcd:(x==("__classdict__":AA))=An:=by decide):PE X (.Name x pos) (lf K T<|V9 i):=
 (rY hN hv hd hcd).imp λJ H Q⟨F,a,S,b,R,c,h,k⟩=>by
  show vQ _ Q H;change oQ _ b S at h;cases z:AeA a i with
  |none=>rw[z]at h;exact h.elim
  |some d=>rw[z]at h;let(v,e,w):=c.get z;rw[e];exact k d S H v .refl R w h
abbrev dC(v:V):DE:=λ_ _ S Q=>Q (.f v) S
def eS{v:V}(h:PE X e (tC v)):PE X e (lf K T<|dC v):=h.imp λJ H Q⟨F,a,S,b,R,c,h,k⟩=>k.flat R h
def NT{i j pos}:PE X (.Constant (.int i) j pos) (lf K T<|dC<|.int i):=eS Pn
def Yu{b j pos}:PE X (.Constant (.bool b) j pos) (lf K T<|dC<|.bl b):=eS Agm
def U3{j pos}:PE X (.Constant .none j pos) (lf K T<|dC .Of):=eS AhO
def Oq{x j pos}:PE X (.Constant (.str x) j pos) (lf K T<|dC<|.str x):=eS RX
def RK{v:V}(hg:Gl X x)(h:lX X.mg x v)(hd:(x==("__debug__":AA))=An:=by decide):PE X (.Name x pos) (lf K T<|dC v):=eS (TU hg h hd)
def AgR{v:V}{w:Ai}(hg:Gl X x)(hm:X.mg x=Ah)(hv:BD x=U w)(r:RelV v w)(hn:x≠"__name__":=by decide)(hd:(x==("__debug__":AA))=An:=by decide):PE X (.Name x pos) (lf K T<|dC v):=eS (Wx hg hm hv r hn hd)
abbrev tW(δ:D2)(t u:DE):DE:=λF loc S Q=>t F loc S λd S1=>u F loc S1 λe S2=>δ d e F S2 Q
def Aaj.tr{r:R2}(h:Aaj K T r δ):lf K T (tW δ t u) J H Q->AiV r (lf K T t) (lf K T u) J H Q:=λ⟨F,a,S,i,R,f,q,k⟩=>
 #[F,a,S,_,R,f,q,λd m w v b n j o=>#[F,a,m,_,n,f.px b,o,λe g l y c R2 p s=>h F g l Q i d e v y R2 (j.px c) p s<|k.px<|b.trans c]]
def OL{op:Operator}(h:V4 X K T (Ci op) δ)(ha:PE X a (lf K T t))(hb:PE X b (lf K T u)):PE X (.BinOp a op b pos) (lf K T<|tW δ t u):=by let(r,c,d):=h;exact(O8 c ha hb).imp λJ H Q=>d.tr
def AaJ{op:CmpOp}(h:V4 X K T (Be op) δ)(ha:PE X a (lf K T t))(hb:PE X b (lf K T u))(hm:behindInMarks op b=An:=by first|exact TR _ M5 M5|rfl):PE X (.Compare a [op] [b] pos) (lf K T<|tW δ t u):=by let(r,c,d):=h;exact(Zc c ha hb hm).imp λJ H Q=>d.tr
def Pk(h:Alx X K T δ)(ha:PE X a (lf K T t))(hb:PE X b (lf K T u))(hs:tQ b:=by exactλ_ _=>rfl):PE X (.Subscript a b pos) (lf K T<|tW δ t u):=by let(r,c,d):=h;exact(Z3 c ha hb hs).imp λJ H Q=>d.tr
abbrev Ag6(Q:Bool->NW->Prop):QD:=λd S=>match d with
 |.f (.bl c)=>Q c S
 |_=>False
def ZR{Q:Bool->NW->Prop}(h:Ag6 Q d S):∃c,d=.f (.bl c)/\Q c S:=by
 unfold Ag6 at h;split at h
 ·exact#[_,Y,h]
 ·exact h.elim
abbrev dB(t:DE):DT:=λF loc S Q=>t F loc S (Ag6 Q)
def Ajh:V0 K T (dB t) J H Q->tB (lf K T t) J H Q:=λ⟨F,a,S,i,R,g,q,k⟩=>
 #[F,a,S,_,R,g,q,λd e b v p f w h=>by
  let(c,rfl,h):=ZR h;rw[N1.mp w];exact k c e b p f h]
def Ot{op:CmpOp}(h:V4 X K T (Be op) δ)(ha:PE X a (lf K T t))(hb:PE X b (lf K T u))(hm:behindInMarks op b=An:=by first|exact TR _ M5 M5|rfl):PT X (.Compare a [op] [b] pos) (V0 K T<|dB<|tW δ t u):=by
 let(r,m,i):=h;exact(vC m ha hb hm).imp λJ H Q⟨F,e,S,f,R,n,q,k⟩=>i.tr #[F,e,S,Ag6 f,R,n,q,λd j g v p l w h=>by
  let(c,rfl,h):=ZR h;rw[N1.mp w];exact k c j g p l h]
def Qq(h:PE X e (lf K T t))(he:∀whole,isTrue e X.env whole=(do let v <-whole;standAt e.pos;holding [v] (truthy v)):=by intro _;rfl):PT X e (V0 K T<|dB t):=(Acw h he).imp λJ H Q=>Ajh
abbrev Aje(t u:DT):DT:=λF loc S Q=>t F loc S λc S1=>QT c (u F loc S1 Q) (Q An S1)
abbrev An2(t u:DT):DT:=λF loc S Q=>t F loc S λc S1=>QT c (Q Af S1) (u F loc S1 Q)
abbrev AlU(t:DT):DT:=λF loc S Q=>t F loc S λc S1=>Q (!c) S1
def RP(h:PT X a (V0 K T tA)):PT X (.UnaryOp .Not a pos) (V0 K T<|AlU tA):=(Acv h).imp λJ H Q⟨F,b,S,i,R,g,q,k⟩=>
 #[F,b,S,_,R,g,q,λc e d p f h=>k _ e d p f h]
def RB(h:PT X a (V0 K T tA)):PW X (.BoolOp .And [a] pos) (V0 K T tA):=vF h
def bR(h:PT X a (V0 K T tA)):PW X (.BoolOp .Or [a] pos) (V0 K T tA):=Ah1 h
def w_and(ha:PT X a (V0 K T tA))(hb:PW X (.BoolOp .And (b::rest) pos) (V0 K T uA)):PW X (.BoolOp .And (a::b::rest) pos) (V0 K T<|Aje tA uA):=(AcB ha hb).imp λJ H Q⟨F,d,S,j,R,g,q,k⟩=>
 #[F,d,S,_,R,g,q,λc e m p f h=>by
  cases c with
  |true=>exact#[F,d,e,j,f,g.px p,h,λb i l n=>k b i l<|p.trans n]
  |false=>exact k _ e m p f h]
def w_or(ha:PT X a (V0 K T tA))(hb:PW X (.BoolOp .Or (b::rest) pos) (V0 K T uA)):PW X (.BoolOp .Or (a::b::rest) pos) (V0 K T<|An2 tA uA):=(Akp ha hb).imp λJ H Q⟨F,d,S,j,R,g,q,k⟩=>
 #[F,d,S,_,R,g,q,λc e m p f h=>by
  cases c with
  |true=>exact k _ e m p f h
  |false=>exact#[F,d,e,j,f,g.px p,h,λb i l n=>k b i l<|p.trans n]]
def PW.lV(h:PW X e (V0 K T tA)):PT X e (V0 K T tA):=h.pt
abbrev Ajf(t u:DE):DE:=λF loc S Q=>t F loc S (Ag6 λc S1=>QT c (u F loc S1 Q)<|Q (.f<|.bl An) S1)
def AjC{op}(h:PE X a (lf K T t)):PE X (.BoolOp op [a] pos) (lf K T t):=VQ h
def AfT(ha:PE X a (lf K T t))(hb:PE X (.BoolOp .And (b::rest) pos) (lf K T u)):PE X (.BoolOp .And (a::b::rest) pos) (lf K T<|Ajf t u):=(AbZ ha hb).imp λJ H Q⟨F,e,S,j,R,i,q,k⟩=>
 #[F,e,S,_,R,i,q,λd l m v p g w h=>by
  let(c,rfl,h):=ZR h;rw[N1.mp w];cases c with
  |true=>exact#[F,e,l,j,g,i.px p,h,k.px p]
  |false=>exact k _ _ _ _ p g .f h]
abbrev An0(c:DT)(t u:DE):DE:=λF loc S Q=>c F loc S λb S1=>QT b (t F loc S1 Q) (u F loc S1 Q)
def Y3(hc:PT X c (V0 K T tA))(ha:PE X a (lf K T t))(hb:PE X b (lf K T u)):PE X (.IfExp c a b pos) (lf K T<|An0 tA t u):=(Ab7 hc ha hb).imp λJ H Q⟨F,d,S,f,R,e,q,k⟩=>
 #[F,d,S,_,R,e,q,λb g j p i h=>by
  cases b with
  |true=>exact#[F,d,g,f,i,e.px p,h,k.px p]
  |false=>exact#[F,d,g,f,i,e.px p,h,k.px p]]
abbrev AnX(δ δ':D2)(t u v:DE):DE:=λF loc S Q=>t F loc S λd S1=>u F loc S1 λe S2=>δ d e F S2 (Ag6 λc S3=>QT c (v F loc S3 λg S4=>δ' e g F S4 Q)<|Q (.f<|.bl An) S3)
def iP{op op':CmpOp}(ho:V4 X K T (Be op) δ)(ho':V4 X K T (Be op') δ')(ha:PE X a (lf K T t))(hb:PE X b (lf K T u))(hc:PE X c (lf K T t3))(h1:Ki [op,op'] [b,c]=An:=by with_unfolding_all rfl):PE X (.Compare a [op,op'] [b,c] pos) (lf K T<|AnX δ δ' t u t3):=by
 let(r,L,Z):=ho;let(r',j0,l2):=ho';refine(oR L j0 ha hb hc h1).imp λJ H Q⟨F,i,S,P,R,j,q,k⟩=>?_
 refine#[F,i,S,_,R,j,q,λd S1 H1 v s O A E=>#[F,i,S1,_,O,j.px s,E,λe M u3 y o D w q2=>?_]];refine Z F M u3 _ _ d e v y D (A.px o) w q2 λg V H3 z l m B I=>?_
 let(c,rfl,h):=ZR I;rw[N1.mp B];have p:=(s.trans o).trans l;cases c with
 |true=>exact#[F,i,V,_,m,j.px p,h,λg W C G n y0 x N=>l2 F W C Q P e g y G y0 (w.px<|l.trans n) x N<|k.px<|p.trans n]
 |false=>exact k _ _ _ _ p m .f h
def kF(f:AA)(Q:QD):QD:=λd S=>∃C fs x,QH S d (.i C fs)/\fs.lookup f=U x/\Q x S
abbrev Aaw(t:DE)(f:AA):DE:=λF loc S Q=>t F loc S (kF f Q)
def NS{NR:Hp}[hK:N3 X K NR](h:PE X e (lf K T t))(hb:Co e f X.env (eval e X.env)=eval e X.env:=by rfl):PE X (.Attribute e f pos) (lf K T<|Aaw t f):=(Ab6 h hb).imp λJ H Q⟨F,a,S,n,R,m,q,k⟩=>
 #[F,a,S,_,R,m,q,λd j c v p b w⟨C,o,x,i,l,q⟩=>aF (b.one w) (Oz i w) l λy g _=>k x j c y p b g q]
abbrev iK:DA:=λ_ _ S Q=>Q [] S
abbrev V8(t:DE)(r:DA):DA:=λF loc S Q=>t F loc S λd S1=>r F loc S1 λds S2=>Q (d::ds) S2
def NL:PA X [] (jR K T iK):=N0.imp λJ H Q⟨F,a,S,b,R,c,q,k⟩=>k [] S H [] .refl R .nil q
def NH(he:PE X e (lf K T t))(hr:PA X es (jR K T ta))(hs:AL (e::es) X.env=(An,eval e X.env)::AL es X.env:=by rfl):PA X (e::es) (jR K T<|V8 t ta):=(NU he hr hs).imp λJ H Q⟨F,a,S,o,R,c,q,k⟩=>
 #[F,a,S,_,R,c,q,λd j s v p l w m=>#[F,a,j,_,l,c.px p,m,λu f i r b h g n=>k _ f i _ (p.trans b) h (.cons (w.px b) g) n]]
def aw(F:Lv)(o:O)(Q:QD)(S:NW):Prop:=Q (Yv o) S\/∃r,∀a,S a=Ah->a∉F->Q (.f<|.ref a) (NP S a (r,o))
def O3{Q:QD}(h:Q (Yv o) S):aw F o Q S:=.inl h
def Sl{Q:QD}(r:Rl)(h:∀a,S a=Ah->a∉F->Q (.f<|.ref a) (NP S a (r,o))):aw F o Q S:=.inr #[r,h]
def Rp.aw{Q':QD}{Q:VK}{u:HO}{o:O}(R:Rp K T F H S [])(hp:H p=Ah)(hi:H'=upd H p u)(hO:∀r,OD K F (NP S p (r,o)) H' p o)(h:aw F o Q' S)(k:Nx K F S H T Q' Q):Q (.ref p) H':=by
 subst hi;have s:NV H (upd H p u):=(NV.refl H).upd hp;rcases h with h|⟨r,h⟩
 ·have c:=R.own s hp (.own 0) (hO _);have a:=c.fresh<|R.free hp;have b:Px F S H F S _:=Px.Py s.n;exact k _ _ _ _ b a.nil a.hd h
 ·exact k _ _ _ _ (Px.own s hp) (R.own s hp r<|hO r) .f (h p (R.free hp) λm=>R.fd p m hp)
abbrev AlZ(t:DA):DE:=λF loc S Q=>t F loc S λds S1=>kC (D1 ds.length 1000=Af) (Q (.t ds) S1)
def le_size{n:Nat}(h:D1 n 1000=Af):n<=sizeLine:=by rw[Bb];have:=Ff h;omega
def O7{x1}(h:PA X es (jR K T ta)):PE X (.Tuple es x1 pos) (lf K T<|AlZ ta):=(Ace h).imp λJ H Q⟨F,b,S,m,R,j,q,k⟩=>
 #[F,b,S,_,R,j,q,λs r f o p g c⟨l,i⟩=>#[by rw[<-AE c];exact le_size l,λa e=>by
  have d:=g.yD e c;exact k _ _ _ _ (p.trans<|Px.Py ((NV.refl f).upd e).n) d.nil d.hd i]]
abbrev AlQ(t:DA):DE:=λF loc S Q=>t F loc S λds S1=>kC (D1 ds.length 1000=Af) (aw F (.l ds) Q S1)
def U2(h:PA X es (jR K T ta)):PE X (.List es pos) (lf K T<|AlQ ta):=(rX h).imp λJ H Q⟨F,c,S,n,R,m,q,k⟩=>
 #[F,c,S,_,R,m,q,λg s f e p i d⟨l,j⟩=>#[by rw[<-AE d];exact le_size l,λa b=>
  i.aw (o:=.l g) b Y (λr=>#[e,NQ,Paired.imp' (λ_ _=>VD.px<|Px.own ((NV.refl f).upd b) b) d]) j (k.px p)]]
abbrev AiP:DE:=λF _ S Q=>aw F (.d []) Q S
abbrev AnY:DE:=λF _ S Q=>aw F (.m []) Q S
def OO:PE X (.Dict [] [] pos) (lf K T AiP):=Ab1.imp λJ H Q⟨F,c,S,e,R,f,q,k⟩a b=>R.aw (o:=.d []) b Y (λr=>#[[],.inl NQ,.nil]) q k
def Wc:PE X (.Dict [] [] pos) (lf K T AnY):=Ab2.imp λJ H Q⟨F,c,S,d,R,e,q,k⟩a b=>R.aw (o:=.m []) b Y (λr=>#[[],NQ,.nil]) q k
abbrev AlM(δ:DN)(t:DA):DE:=λF loc S Q=>t F loc S λds S1=>δ ds F S1 Q
def Alz.tr{r:Lx->Hp->VK->Prop}{δ:DN}(h:Alz K T r δ):lf K T (AlM δ ta) J H Q->Am1 r (jR K T ta) J H Q:=λ⟨F,a,S,b,R,l,q,k⟩=>
 #[F,a,S,_,R,l,q,λe f d c p g j i=>h F f d Q b e c g j i<|k.px p]
def Ox{δ:DN}{id:String}{p:CU}(hc:RH X K T (.builtin id) δ)(hg:Gl X x)(hm:X.mg x=Ah)(hv:BD x=U (.builtin id))(ha:PA X (e::es) (jR K T ta))(hn:x≠"__name__":=by decide)(hdb:(x==("__debug__":AA))=An:=by decide)(he:AL (e::es) X.env=(An,eval e X.env)::AL es X.env:=by rfl)(hpl:(Ca pos<|AL es X.env).any (·.1)=An:=by rfl):PE X (.Call (.Name x p) (e::es) [] pos) (lf K T<|AlM δ ta):=by let(r,a,b):=hc;exact(OT a hg hm hv ha hn hdb he hpl).imp λJ H Q=>b.tr
def O1{δ:DN}{Ty:String}{p:CU}(hc:RH X K T (.type Ty) δ)(hg:Gl X x)(hm:X.mg x=Ah)(hv:BD x=U (.type Ty))(ha:PA X (e::es) (jR K T ta))(hn:x≠"__name__":=by decide)(hdb:(x==("__debug__":AA))=An:=by decide)(he:AL (e::es) X.env=(An,eval e X.env)::AL es X.env:=by rfl)(hpl:(Ca pos<|AL es X.env).any (·.1)=An:=by rfl):PE X (.Call (.Name x p) (e::es) [] pos) (lf K T<|AlM δ ta):=by let(r,a,b):=hc;exact(XH a hg hm hv ha hn hdb he hpl).imp λJ H Q=>b.tr
end
abbrev DP:=Lv->Lz->NW->QD->Prop
def cn(K:Ab)(T:US)(p:DP):Sp:=λvs H Q _=>∃F S ds Q',Rp K T F H S []/\V6 K F S H ds vs/\p F ds S Q'/\Nx K F S H T Q' Q
def fz(Q:QD):QD:=λd S=>Q d S\/∃a r o,d=.f (.ref a)/\S a=U (r,o)/\Q (Yv o) (cC S a)
def Oi{Q:QD}(h:Q d S):fz Q d S:=.inl h
def iY{Q:QD}(e:S a=U (r,o))(h:Q (Yv o) (cC S a)):fz Q (.f<|.ref a) S:=.inr #[a,r,o,Y,e,h]
section
variable{X:Cx}{K:Ab}{T:US}{t u:DE}{tA:DT}{ta:DA}{s s':DS}{pos:CU}{a b c e o:Expr}{es rest:LJ}{x f:AA}{p:DP}
def Nx.fz{Q':QD}{Q:VK}(h:Nx K F S H T Q' Q):Nx K F S H T (fz Q') Q:=λd f c v p R w q=>by
 rcases q with q|⟨a,r,o,rfl,e,q⟩
 ·exact h d f c v p R w q
 ·rw[N1.mp w];have b:=R.fix e;exact h _ _ _ _ (p.trans Px.fix) b.nil b.hd q
abbrev AaA:DS:=λ_ D loc S=>D.nx loc S
abbrev Adq(t u:DS):DS:=λF D loc S=>t F #[λloc S=>u F D loc S,D.rt,D.bk,D.ct] loc S
def N9:Q6 X [] (RD K T AaA):=vB.imp λE J H⟨F,a,S,c,R,b,q,k⟩=>k.nx a S H J .refl R b q
def NI{st:Bm}{rest:LY}(h1:PS X st (RD K T s))(h2:Q6 X rest (RD K T s')):Q6 X (st::rest) (RD K T<|Adq s s'):=(OA h1 h2).imp λE J H⟨F,c,S,g,R,h,q,k⟩=>
 #[F,c,S,_,R,h,q,λa d j i p e b f=>#[F,a,d,g,e,b,f,k.px p],k.rt,k.bk,k.ct]
def NK{st:Bm}(h1:PS X st (RD K T s)):Q6 X [st] (RD K T s):=OV h1
abbrev Aaz:DS:=λ_ _ _ _=>False
def Ra{st:Bm}:PS X st (RD K T Aaz):=λ_ _ _ _ _ _⟨_,_,_,_,_,_,h,_⟩=>h.elim
def AcX{st:LY}:Q6 X st (RD K T Aaz):=λ_ _ _ _ _ _⟨_,_,_,_,_,_,h,_⟩=>h.elim
abbrev mJ(t:DE):DS:=λF D loc S=>t F loc S λ_ S1=>D.nx loc S1
def N6(he:PE X e (lf K T t))(hs:swapsWith e Ah pos.line X.env=pure An:=by rfl):PS X (.Expr e pos) (RD K T<|mJ t):=(Zf he hs).imp λE J H⟨F,a,S,i,R,b,q,k⟩=>
 #[F,a,S,_,R,b,q,λd f c v p g w h=>k.nx a f c J p g (b.px p) h]
abbrev Ajx(t:DE):DS:=λF D loc S=>t F loc S (fz D.rt)
def N4(he:PE X e (lf K T t)):PS X (.Return (U e) pos) (RD K T<|Ajx t):=(PV he).imp λE J H⟨F,a,S,c,R,b,q,k⟩=>#[F,a,S,_,R,b,q,k.rt.fz]
def aJ:PS X (.Return Ah pos) (RD K T λ_ D _ S=>D.rt (.f .Of) S):=Ae8.imp λE J H⟨F,a,S,b,R,c,q,k⟩=>k.rt.flat R q
abbrev AgJ(c:DT)(t u:DS):DS:=λF D loc S=>c F loc S λb S1=>QT b (t F D loc S1) (u F D loc S1)
def O5{a b:LY}(hc:PT X c (V0 K T tA))(ha:Q6 X a (RD K T s))(hb:Q6 X b (RD K T s')):PS X (.If c a b pos) (RD K T<|AgJ tA s s'):=(Ago hc ha hb).imp λE J H⟨F,d,S,i,R,e,q,k⟩=>
 #[F,d,S,_,R,e,q,λb f j p g h=>by
  cases b with
  |true=>exact#[F,d,f,i,g,e.px p,h,k.px p]
  |false=>exact#[F,d,f,i,g,e.px p,h,k.px p]]
abbrev AaB(t:DE)(i:Nat):DS:=λF D loc S=>t F loc S λd S1=>D.nx (zU loc i d) S1
def Oh{pos':CU}(hN:X.N.Nodup)(i:Nat)(he:PE X e (lf K T t))(hi:X.N[i]?=U x:=by rfl)(hx:Loc X.env.scope x:=by first|exact BK rfl|exact Ee Y)(hs:swapsWith e (U<|.Name x pos') pos.line X.env=pure An:=by rfl)(hf:X.fn x=Af\/X.env.scope.names.lookup x=U .local:=by first|exact .inl rfl|exact .inr rfl|assumption):PS X (.Assign [.Name x pos'] e pos) (RD K T<|AaB t i):=(Acr hN hi hx he hs hf).imp λE J H⟨F,a,S,j,R,b,q,k⟩=>
 #[F,a,S,_,R,b,q,λd f c v p g w h=>k.nx _ f c _ p g ((b.px p).set w) h]
def Alm(K:Ab)(f:AA)(y:D)(N:NW->Prop)(d:D)(S:NW):Prop:=∃a r C fs,d=.f (.ref a)/\S a=U (r,.i C fs)/\((fs.lookup f).isSome=Af\/Pz K C f)/\D1 fs.length 999=Af/\N (NP S a (r,.i C<|oV f y fs))
abbrev eU(K:Ab)(t v:DE)(f:AA):DS:=λF D loc S=>v F loc S λy S1=>t F loc S1 λd S2=>Alm K f y (λS3=>D.nx loc S3) d S2
def Aa5{R:D->V->Prop}{fs:LV}{gs:LN}(h:Paired (KD R) fs gs):gs.map (·.1)=fs.map (·.1):=SO h
def Aeo{fs:LV}(h:(fs.lookup f).isSome=Af):f∈fs.map (·.1):=by
 induction fs with
 |nil=>cases h
 |cons p r ih=>
   let(g,d):=p;rw[B8]at h;by_cases z:f=g
   ·rw[z];exact AX ..
   ·rw[Gg z]at h;exact AD _ (ih h)
def OJ{NR:Hp}[hK:N3 X K NR]{value:Expr}{pos':CU}(ho:PE X o (lf K T t))(hv:PE X value (lf K T u))(hs:swapsWith value (U<|.Attribute o f pos') pos.line X.env=pure An:=by rfl):PS X (.Assign [.Attribute o f pos'] value pos) (RD K T<|eU K t u f):=(AhY ho hv hs).imp λE J H⟨F,b,S,D',R,x,q,k⟩=>
 #[F,b,S,_,R,x,q,λy u3 Z v p O w L=>#[F,b,u3,_,O,x.px p,L,λd y0 H2 z A l V⟨a,r,C,P,Q,n,e,N,W⟩=>by
  subst Q;cases N1.mp V;let(s,m,M,(G,D),h):=l.st a r _ n;have c:Pz K C f:=by
   rcases e with e|e
   ·exact D f (by rw[Aa5 h];exact Aeo e)
   ·exact e
  have B:=Px.set (r':=r) (o':=.i C<|oV f y P) (u:=.ins C s<|RZ f v m) l n;have j0:=l.set n (o':=.i C _) #[s,RZ f v m,NQ,#[G,λg j=>by
   rcases sC j with rfl|j
   ·exact c
   ·exact D g j],Paired.imp' (λ_ _=>KD.imp λ_ _=>VD.px B)<|Aef h<|w.px A]
  have I:=(p.trans A).trans B;exact#[a,C,s,m,Y,M,G,c,by rw[<-AE h];exact Nat.lt_succ_of_le<|Ff N,k.nx b _ _ J I j0 (x.px I) W]]]
abbrev Aav(p:DP)(t:DA):DE:=λF loc S Q=>t F loc S λds S1=>p F ds S1 Q
def AdI:lf K T (Aav p ta) J H Q->vS (cn K T p) [] E0 (jR K T ta) J H Q:=λ⟨F,a,S,b,R,i,q,k⟩=>
 #[F,a,S,_,R,i,q,λd e l j c f h g=>#[F,e,d,b,f,by rw[B7];exact h,g,k.px c]]
variable{M:Md}{NR:Hp}{k n:Nat}{C:Ag}{m:AA}{p1 apos:CU}
def N7[Qx X M][N3 X K NR](u3:Hf M K k x (cn K T p))(hr:N8 n X.A)(ha:PA X (e::es) (jR K T ta))(hdb:(x==("__debug__":AA))=An:=by decide)(he:AL (e::es) X.env=(An,eval e X.env)::AL es X.env:=by rfl)(hpl:(Ca pos<|AL es X.env).any (·.1)=An:=by rfl)(hn:k<=n:=by decide)(hg:Gl X x:=by rfl):PE X (.Call (.Name x p1) (e::es) [] pos) (lf K T<|Aav p ta):=(Qf u3 hr ha hdb he hpl hn hg).imp λJ H Q=>AdI
def AiZ(S:NW)(d:D)(C:Ag)(m:AA):Prop:=∃fs,QH S d (.i C fs)/\fs.lookup m=Ah
abbrev X1(C:Ag)(m:AA)(p:DP)(t:DE)(ta:DA):DE:=λF loc S Q=>t F loc S λd S1=>kC (AiZ S1 d C m) (ta F loc S1 λds S2=>p F (d::ds) S2 Q)
def AdJ:lf K T (X1 C m p t ta) J H Q->bC C m (cn K T p) [] E0 (lf K T t) (jR K T ta) J H Q:=λ⟨F,a,S,r,R,f,q,k⟩=>
 #[F,a,S,_,R,f,q,λd s y v c e w⟨⟨z,o,n⟩,h⟩=>aM (e.one w) (Oz o w) n #[F,a,s,_,e,f.px c,h,λj l A x b g i u=>
  #[F,l,d::j,r,g,by rw[B7];exact .cons (w.px b) i,u,k.px<|c.trans b]]]
def N2{pl:IK Bool}[Qx X M][N3 X K NR](u3:Hm M K k C m (cn K T p))(hr:N8 n X.A)(he:PE X o (lf K T t))(ha:PA X (e::es) (jR K T ta))(hst:AL (e::es) X.env=(An,eval e X.env)::AL es X.env:=by rfl)(hpl:(Ca pos<|AL es X.env).any (·.1)=An:=by rfl)(ht:eval (.Call (.Attribute o m apos) (e::es) [] pos) X.env=(do
   let ov <-eval o X.env
   standAt apos.atName
   let(f,first) <-holding [ov] (getMethod ov m pl)
   E9 pos f first (Ca pos<|AL (e::es) X.env) (Dw pos<|Cp [] X.env)):=by rfl)(hn:k<=n:=by decide):
  PE X (.Call (.Attribute o m apos) (e::es) [] pos) (lf K T<|X1 C m p t ta):=(Qm u3 hr he ha hst hpl ht hn).imp λJ H Q=>AdJ
def Pl{pl:IK Bool}[Qx X M][N3 X K NR](u3:Hm M K k C m (cn K T p))(hr:N8 n X.A)(he:PE X o (lf K T t))(ht:eval (.Call (.Attribute o m apos) [] [] pos) X.env=(do
   let ov <-eval o X.env
   standAt apos.atName
   let(f,first) <-holding [ov] (getMethod ov m pl)
   E9 pos f first (Ca pos<|AL [] X.env) (Dw pos<|Cp [] X.env)):=by rfl)(hn:k<=n:=by decide):
  PE X (.Call (.Attribute o m apos) [] [] pos) (lf K T<|X1 C m p t iK):=(AnO u3 hr he ht hn).imp λJ H Q⟨F,a,S,c,R,j,q,k⟩=>
 #[F,a,S,_,R,j,q,λd h r v e b w⟨⟨s,l,g⟩,i⟩=>aM (b.one w) (Oz l w) g #[F,h,[d],c,b,.cons w .nil,i,k.px e]]
abbrev AlR(C:Ag)(p:DP)(t:DA):DE:=λF loc S Q=>t F loc S λds S1=>∃r,∀a,S1 a=Ah->a∉F->p F (.f (.ref a)::ds) (NP S1 a (r,.i C [])) λd S2=>d=.f .Of/\fz Q (.f<|.ref a) S2
def AfP(c:Xf K C)(R:Rp K T F H S [])(ws:V6 K F S H ds vs)(h:∃r,∀a,S a=Ah->a∉F->p F (.f (.ref a)::ds) (NP S a (r,.i C [])) λd S2=>d=.f .Of/\fz Q' (.f<|.ref a) S2)(k:Nx K F S H T Q' Q):Anz C (cn K T p) [] Q E0 vs H:=by let(r,h):=h;intro x g b l n;have s:NV H (upd (upd H g<|.own x) x<|.ins C g []):=((NV.refl H).upd l).upd (by rw[NN<|Ax n];exact b);have j:Px F S H F (NP S x (r,.i C [])) _:=Px.own s b;have u:=R.own (o:=.i C []) s b r #[g,[],NQ,#[c,λ_ h=>nomatch h],.nil];refine#[F,_,_,_,u,by rw[B7];exact .cons .f<|V6.px j ws,h x (R.free b) (λm=>R.fd x m b),λd S2 z v t q w⟨e,y⟩=>?_];subst e;exact#[N1.mp w,(k.px<|j.trans t).fz _ _ _ _ .refl q .f y]
def AdT[Qx X M][N3 X K NR](u3:Hk M K k x C (cn K T p))(c:Xf K C)(hr:N8 n X.A)(ha:PA X (e::es) (jR K T ta))(hdb:(x==("__debug__":AA))=An:=by decide)(he:AL (e::es) X.env=(An,eval e X.env)::AL es X.env:=by rfl)(hpl:(Ca pos<|AL es X.env).any (·.1)=An:=by rfl)(hn:k+1<=n:=by decide)(hg:Gl X x:=by rfl):PE X (.Call (.Name x p1) (e::es) [] pos) (lf K T<|AlR C p ta):=(Qk u3 hr ha hdb he hpl hn hg).imp λJ H Q⟨F,a,S,h,R,g,q,k⟩=>
 #[F,a,S,_,R,g,q,λl m j i p1 b f d=>AfP c b f d<|k.px p1]
def AaK[Qx X M][N3 X K NR](u3:Hk M K k x C (cn K T p))(c:Xf K C)(hr:N8 n X.A)(hdb:(x==("__debug__":AA))=An:=by decide)(hn:k+1<=n:=by decide)(hg:Gl X x:=by rfl):PE X (.Call (.Name x p1) [] [] pos) (lf K T<|AlR C p iK):=(AnN u3 hr hdb hn hg).imp λJ H Q⟨F,a,S,b,R,d,q,k⟩=>AfP c R .nil q k
end
section
variable{X:Cx}{K:Ab}{T:US}
abbrev Alo(d e:D)(P:Int->Int->Prop):Prop:=match d,e with
 |.f (.int i),.f (.int j)=>P i j
 |_,_=>False
def Abu{P:Int->Int->Prop}(h:Alo d e P):∃i j,d=.f (.int i)/\e=.f (.int j)/\P i j:=by
 unfold Alo at h;split at h
 ·exact#[_,_,Y,Y,h]
 ·exact h.elim
abbrev AiQ(g:Int->Int->V):D2:=λd e _ S Q=>Alo d e λi j=>Q (.f<|g i j) S
abbrev dI(C:Int->Int->Prop)(g:Int->Int->V):D2:=λd e _ S Q=>Alo d e λi j=>kC (C i j) (Q (.f<|g i j) S)
def nO{g:Int->Int->V}:Aaj K T (Adu g) (AiQ g):=λF S H Q c d e x y R a b h k=>by
 let(i,j,rfl,rfl,h):=Abu h;rw[N1.mp a,N1.mp b];exact k.flat R h
def Ahg{C:Int->Int->Prop}{g:Int->Int->V}:Aaj K T (rI C g) (dI C g):=λF S H Q f d e x y R a b h k=>by
 let(i,j,rfl,rfl,c,h):=Abu h;rw[N1.mp a,N1.mp b];exact#[c,k.flat R h]
def QM:V4 X K T (Ci .Add) (AiQ λi j=>.int<|i+j):=#[_,XE,nO]
def AbS:V4 X K T (Ci .Sub) (AiQ λi j=>.int<|i-j):=#[_,AhJ,nO]
def uS:V4 X K T (Ci .Mult) (dI Adx λi j=>.int<|i*j):=#[_,AbU,Ahg]
def rT:V4 X K T (Ci .FloorDiv) (dI AiY λi j=>.int<|i / j):=#[_,UJ,Ahg]
def Qc:V4 X K T (Ci .Mod) (dI (λ_ j=>0<j) λi j=>.int<|i%j):=#[_,SR,Ahg]
def rU:V4 X K T (Be .Lt) (AiQ λi j=>.bl<|decide<|i<j):=#[_,AbT,nO]
def yH:V4 X K T (Be .LtE) (AiQ λi j=>.bl<|decide<|i<=j):=#[_,uV,nO]
def yG:V4 X K T (Be .Gt) (AiQ λi j=>.bl<|decide<|j<i):=#[_,Agl,nO]
abbrev Ali(P:V->V->NW->QD->Prop):D2:=λd e _ S Q=>match d,e with
 |.f x,.f y=>P x y S Q
 |_,_=>False
def AaC{P:V->V->NW->QD->Prop}(h:Ali P d e F S Q):∃x y,d=.f x/\e=.f y/\P x y S Q:=by
 unfold Ali at h;split at h
 ·exact#[_,_,Y,Y,h]
 ·exact h.elim
abbrev AnZ:D2:=Ali λx y S Q=>kC (Afr x y=Af) (Q (.f<|.bl<|decide<|x=y) S)
abbrev An1:D2:=Ali λx y S Q=>kC (Afr x y=Af) (Q (.f<|.bl<|!decide (x=y)) S)
def oK:V4 X K T (Be .Eq) AnZ:=#[_,uU,λF S H Q i d e x y R f g h k=>by
 let(a,b,rfl,rfl,c,h):=AaC h;rw[N1.mp f,N1.mp g];exact#[c,k.flat R h]]
def AhA:V4 X K T (Be .NotEq) An1:=#[_,Akn,λF S H Q i d e x y R f g h k=>by
 let(a,b,rfl,rfl,c,h):=AaC h;rw[N1.mp f,N1.mp g];exact#[c,k.flat R h]]
abbrev AbH:D->Bool
 |.f x=>decide<|x=.Of
 |_=>An
def uR(h:VD K F S H d x):decide (x=.Of)=AbH d:=by
 cases d with
 |f v=>rw[N1.mp h]
 |t b=>let(a,_,rfl,_):=TC.mp h;rfl
 |l b=>let(a,_,rfl,_):=Aab.mp h;rfl
 |d b=>let(a,_,rfl,_):=Aaa.mp h;rfl
 |m b=>let(a,_,rfl,_):=AiC.mp h;rfl
 |i C b=>let(a,_,_,rfl,_):=AiB.mp h;rfl
abbrev AlP:D2:=λd e _ S Q=>e=.f .Of/\Q (.f<|.bl<|AbH d) S
abbrev Ajt:D2:=λd e _ S Q=>e=.f .Of/\Q (.f<|.bl<|!AbH d) S
def Agk:V4 X K T (Be .Is) AlP:=#[_,AhF,λF S H Q f d e x y R a b⟨c,h⟩k=>by
 subst c;exact#[N1.mp b,by rw[uR a];exact k.flat R h]]
def AhB:V4 X K T (Be .IsNot) Ajt:=#[_,AeI,λF S H Q f d e x y R a b⟨c,h⟩k=>by
 subst c;exact#[N1.mp b,by rw[uR a];exact k.flat R h]]
abbrev AlW(P:AA->AA->NW->QD->Prop):D2:=λd e _ S Q=>match d,e with
 |.f (.str x),.f (.str y)=>P x y S Q
 |_,_=>False
def AgK{P:AA->AA->NW->QD->Prop}(h:AlW P d e F S Q):∃x y,d=.f (.str x)/\e=.f (.str y)/\P x y S Q:=by
 unfold AlW at h;split at h
 ·exact#[_,_,Y,Y,h]
 ·exact h.elim
def yF:V4 X K T (Ci .Add) (AlW λi j S Q=>kC (i.length+j.length<=sizeLine)<|Q (.f<|.str<|i++j) S):=#[_,PF,λF S H Q g d e x y R a b h k=>by
 let(i,j,rfl,rfl,c,h):=AgK h;rw[N1.mp a,N1.mp b];exact#[i,j,Y,Y,c,k.flat R h]]
def Anq:D->Bool
 |.f x=>O6 x
 |_=>An
def AiW:D->V
 |.f x=>x
 |_=>.Of
def mS(h:V6 K F S H ds vs)(f:ds.all Anq=Af):vs=ds.map AiW/\(ds.map AiW).all O6=Af:=by
 induction h with
 |nil=>exact#[Y,Y]
 |@cons d v _ _ h1 _ ih=>
   rw[Ct,Iq]at f;let(b,a):=ih f.2;cases d with
   |f x=>exact#[by rw[Az,<-b,N1.mp h1];rfl,by rw[Az,Ct,a,Hi];exact f.1]
   |_=>cases f.1
def Alf(neg:Bool):D2:=λd e _ S Q=>∃x xs,d=.f x/\(QH S e (.l xs)\/e=.t xs)/\O6 x=Af/\xs.all Anq=Af/\Q (.f<|.bl (if neg then !Ag3 x (xs.map AiW)else Ag3 x (xs.map AiW))) S
def Agc:Aaj K T (AmT K neg) (Alf neg):=λF S H Q q d e x y R o j⟨s,r,p,f,n,m,h⟩k=>by
 subst p;cases N1.mp o;rcases f with f|rfl
 ·let(a,rfl,c,i,g):=(R.one j).is (Oz f j);let(b,l):=mS g m;exact#[a,c,Y,.inl i,n,by rw[b];exact l,by rw[b];exact k.flat R h]
 ·let(a,c,rfl,i,g):=TC.mp j;let(b,l):=mS g m;exact#[a,c,Y,.inr<|P5.of i,n,by rw[b];exact l,by rw[b];exact k.flat R h]
def oM{NR:Hp}[N3 X K NR]:V4 X K T (Be .In) (Alf An):=#[_,yJ,Agc]
def QN{NR:Hp}[N3 X K NR]:V4 X K T (Be .NotIn) (Alf Af):=#[_,jX,Agc]
def An3:D2:=λd e _ S Q=>∃xs i x,QH S d (.l xs)/\e=.f (.int i)/\Y1 xs i=U x/\Q x S
def An4:D2:=λd e _ S Q=>∃xs i x,d=.t xs/\e=.f (.int i)/\Y1 xs i=U x/\Q x S
def QE{NR:Hp}[N3 X K NR]:Alx X K T An3:=#[_,Aec,λF S H Q l d e x y R a f⟨m,i,z,g,j,b,h⟩k=>by
 subst j;cases N1.mp f;exact AnT (R.one a) (Oz g a) b λv c=>k _ _ _ _ .refl R c.hd h]
def Pc{NR:Hp}[N3 X K NR]:Alx X K T An4:=#[_,rF,λF S H Q l d e x y R a f⟨m,i,z,g,j,b,h⟩k=>by
 subst j g;cases N1.mp f;exact AnU (R.one a) (.head _) b λv c=>k _ _ _ _ .refl R c.hd h]
abbrev rH(e:D)(P:Key->Prop):Prop:=match e with
 |.f (.int i)=>P<|.inl i
 |.f (.str z)=>P<|.inr z
 |_=>False
def Xy{P:Key->Prop}(h:rH e P):∃q,e=.f (kV q)/\P q:=by
 unfold rH at h;split at h
 ·exact#[.inl _,Y,h]
 ·exact#[.inr _,Y,h]
 ·exact h.elim
def AlO:D2:=λd e _ S Q=>(∃ks,QH S d (.d ks)/\rH e λq=>∃x,OB ks q=U x/\Q x S)\/∃km k x,QH S d (.m km)/\e=dZ k/\OB km k=U x/\Q x S
variable{t u t3:DE}{o i e f value:Expr}{pos pos' apos cpos:CU}{n:Nat}
def Oc(hr:N8 n X.A)(ho:PE X o (lf K T t))(hi:PE X i (lf K T u))(hs:Adz i:=by exactλ_ _=>rfl):PE X (.Subscript o i pos) (lf K T<|tW AlO t u):=(Qg hr ho hi hs).imp λJ H Q⟨F,f,S,Q',R,E,q,k⟩=>
 #[F,f,S,_,R,E,q,λd V Z x C O b j0=>#[F,f,V,_,O,E.px C,j0,λe N H2 y w g D c=>by
  have b:=b.px w;have B:=k.px<|C.trans w;rcases c with⟨y0,hi,c⟩|⟨W,l,L,hi,j,s,c⟩
  ·let(z,j,L,s,I):=Xy c;subst j;cases N1.mp D;exact AjS (g.one b) (Oz hi b) s λv P=>B _ _ _ _ .refl g P I
  ·subst j;have G:=g.two b D;have h:Is N [(d,x),(dZ l,y)] x (.m W):=by
    rcases hi with p|⟨a,r,p,M⟩
    ·rw[p];exact .inr<|.head _
    ·subst p;exact .inl #[a,r,N1.mp b,M]
   exact AnS G h (.tail _<|.head _) s λv u3=>B _ _ _ _ .refl g u3.hd c]]
def Ajq(neg:Bool):D2:=λe d _ S Q=>(∃ks,QH S d (.d ks)/\rH e λq=>Q (.f<|.bl (if neg then !(OB ks q).isSome else(OB ks q).isSome)) S)\/∃km k,QH S d (.m km)/\e=dZ k/\Q (.f<|.bl (if neg then !(OB km k).isSome else(OB km k).isSome)) S
def rL{neg:Bool}:lf K T (tW (Ajq neg) t u) J H Q->lf K T t J H (Ag7 neg (lf K T u) J Q):=λ⟨F,g,S,L,R,s,q,k⟩=>
 #[F,g,S,_,R,s,q,λe E j0 y r D h B=>#[F,g,E,_,D,s.px r,B,λd I M x o c i f=>by
  have h:=h.px o;have p:=k.px<|r.trans o;rcases f with⟨G,n,f⟩|⟨N,m,n,l,f⟩
  ·let(z,l,v):=Xy f;subst l;cases N1.mp h;exact AjT (c.one i) (Oz n i)<|p.flat c v
  ·subst l;let(a,rfl,j,C,w):=(c.one i).is (Oz n i);let(b,rfl,A):=(c.one h).key (.head _);exact#[a,_,Y,.inr #[j,m,b,.inl C,Y,A,Y],by rw[Af8 w];exact p.flat c f]]]
def AjB(hr:N8 n X.A)(hi:PE X i (lf K T t))(ho:PE X o (lf K T u))(h1:behindInMarks .In o=An:=by rfl):PE X (.Compare i [.In] [o] pos) (lf K T<|tW (Ajq An) t u):=(AhN (Qi hr hi ho) h1).imp λJ H Q=>rL
def Abq{t':TE}(h:∀J H Q,lf K T t J H Q->t' J H Q):V0 K T (dB t) J H Q->tB t' J H Q:=λ⟨F,a,S,i,R,g,q,k⟩=>h _ _ _ #[F,a,S,_,R,g,q,λd e b v p f w h=>by
  let(c,rfl,h):=ZR h;rw[N1.mp w];exact k c e b p f h]
def pU(hr:N8 n X.A)(hi:PE X i (lf K T t))(ho:PE X o (lf K T u))(h1:behindInMarks .In o=An:=by rfl):PT X (.Compare i [.In] [o] pos) (V0 K T<|dB<|tW (Ajq An) t u):=(Acu (Qi hr hi ho) h1).imp λJ H Q=>Abq λJ H Q=>rL
def Rw(hr:N8 n X.A)(hi:PE X i (lf K T t))(ho:PE X o (lf K T u))(h1:behindInMarks .NotIn o=An:=by rfl):PT X (.Compare i [.NotIn] [o] pos) (V0 K T<|dB<|tW (Ajq Af) t u):=(Acu (AnP hr hi ho) h1).imp λJ H Q=>Abq λJ H Q=>rL
def Aa2(F:Lv)(y d e:D)(N:NW->Prop)(S:NW):Prop:=∃a r,d=.f (.ref a)/\((∃ks,S a=U (r,.d ks)/\a∉F/\ks.length<100000/\rH e λq=>N<|NP S a (r,.d<|putD ks q y))\/∃km k,S a=U (r,.m km)/\km.length<100000/\e=dZ k/\N (NP S a (r,.m<|putD km k y)))
abbrev AlV(td ty tv:DE):DS:=λF D loc S=>tv F loc S λy S1=>td F loc S1 λd S2=>ty F loc S2 λe S3=>Aa2 F y d e (λS4=>D.nx loc S4) S3
def OY(hr:N8 n X.A)(ho:PE X o (lf K T t))(hi:PE X i (lf K T u))(hv:PE X value (lf K T t3))(hs:swapsWith value (U<|.Subscript o i pos') pos.line X.env=pure An:=by rfl):PS X (.Assign [.Subscript o i pos'] value pos) (RD K T<|AlV t u t3):=(Qp hr ho hi hv hs).imp λE J H⟨F,c,S,D',R,s,q,k⟩=>
 #[F,c,S,_,R,s,q,λy S1 H1 v I R1 w V=>#[F,c,S1,_,R1,s.px I,V,λd y0 H2 x B u3 w2 q2=>#[F,c,y0,_,u3,s.px<|I.trans B,q2,λe S3 H3 z M h N⟨a,r,ed,p⟩=>by
  subst ed;cases N1.mp w2;have w:=w.px<|B.trans M;have f:=(I.trans B).trans M;rcases p with⟨Q,j,W,Z,p⟩|⟨km,C,j,Z,G,p⟩
  ·let(j0,G,O):=Xy p;subst G;cases N1.mp N;let(g,D,l):=h.dk j W;have L:=h.PM j<|rG (k:=j0) l w;have f:=f.trans<|Px.set (r':=r) (o':=.d<|putD Q j0 y) (u:=.dK<|putK g j0 v) h j;exact#[a,_,Y,bV.k D (by rw[<-AE l,Bb];omega),k.nx c _ _ J f L (s.px f) O]
  ·subst G;let(g,D,l):=h.st a r _ j;let(b,rfl,P):=(h.one N).key (.head _);have L:=h.setM j<|rG (k:=C) l w;have f:=f.trans<|Px.set (r':=r) (o':=.m<|putD km C y) (u:=.dT<|putK g C v) h j;exact#[a,_,Y,bV.t D P (by rw[<-AE l,Bb];omega),k.nx c _ _ J f L (s.px f) p]]]]
def AiR(d e z:D)(Q:QD)(S:NW):Prop:=(∃ks,QH S d (.d ks)/\rH e λq=>Q ((OB ks q).getD z) S)\/∃km k,QH S d (.m km)/\e=dZ k/\Q ((OB km k).getD z) S
def Ai0(S:NW)(d:D):Prop:=(∃ks,QH S d<|.d ks)\/∃km,QH S d (.m km)
abbrev Ajp(td ty tz:DE):DE:=λF loc S Q=>td F loc S λd S1=>kC (Ai0 S1 d) (ty F loc S1 λe S2=>tz F loc S2 λz S3=>AiR d e z Q S3)
def QJ(hr:N8 n X.A)(ho:PE X o (lf K T t))(he:PE X e (lf K T u))(hf:PE X f (lf K T t3))(m:M2 X o "get" apos e f cpos:=by exact#[Y,Y,Y,Y]):PE X (.Call (.Attribute o "get" apos) [e,f] [] cpos) (lf K T<|Ajp t u t3):=(AnM hr ho he hf m).imp λJ H Q⟨F,s,S,Q',R,u3,q,k⟩=>
 #[F,s,S,_,R,u3,q,λd S1 H1 x M N g⟨W,q1⟩=>by
  obtain ⟨a,rfl,I⟩:∃a,x=.ref a/\Agw H1 a:=by
   rcases W with⟨Z,p⟩|⟨km,p⟩
   ·let(a,rfl,c,j,w):=(N.one g).is (Oz p g);exact#[a,Y,.inl #[c,j.rd]]
   ·let(a,rfl,c,j,w):=(N.one g).is (Oz p g);exact#[a,Y,.inr #[c,.inl j]]
  refine#[a,Y,I,#[F,s,S1,_,N,u3.px M,q1,λe S2 H2 y G R2 D q2=>#[F,s,S2,_,R2,u3.px<|M.trans G,q2,λz S3 H3 y' E i V h=>?_]]];have g:=g.px<|G.trans E;have D:=D.px E;have C:=k.px<|(M.trans G).trans E;rcases h with⟨Z,p,h⟩|⟨km,O,p,L,h⟩
  ·let(qq,L,B):=Xy h;subst L;cases N1.mp D;let(b,j0,c,j,w):=(i.one g).is (Oz p g);cases j0;refine#[_,.inl #[c,qq,j.rd,Y,Y],?_];rcases Xw w with⟨r,l⟩|⟨d',v,r,l,P⟩
   ·rw[l];rw[r]at B;exact C _ _ _ _ .refl i V B
   ·rw[l];rw[r]at B;exact C _ _ _ _ .refl i P B
  ·subst L;let(b,j0,c,j,w):=(i.one g).is (Oz p g);cases j0;let(tt,rfl,y0):=(i.one D).key (.head _);refine#[_,.inr #[c,O,tt,.inl j,Y,y0,Y],?_];rcases Xw w with⟨r,l⟩|⟨d',v,r,l,P⟩
   ·rw[l];rw[r]at h;exact C _ _ _ _ .refl i V h
   ·rw[l];rw[r]at h;exact C _ _ _ _ .refl i P h]
end
abbrev qT(Q:QD):qH:={nx:=λ_ S=>Q (.f .Of) S,rt:=Q}
abbrev AbI:Nat->Lc
 |0=>[]
 |n+1=>Ah::AbI n
abbrev cW:Lz->Nat->Lc
 |[],n=>AbI n
 |d::ds,0=>U d::cW ds 0
 |d::ds,n+1=>U d::cW ds n
section
variable{K:Ab}{T:US}
def Abs:∀n,Lo K F S H (AbI n) (fZ n)
 |0=>.nil
 |n+1=>.cons (λ_ e=>nomatch e) (Abs n)
def AiS:∀{ds:Lz}{vs:Lx}{n:Nat},V6 K F S H ds vs->Lo K F S H (cW ds n) (vO vs n)
 |_,_,n,.nil=>Abs n
 |_,_,0,.cons h t=>.cons (λ_ e=>#[_,Y,by cases e;exact h])<|AiS (n:=0) t
 |_,_,n+1,.cons h t=>.cons (λ_ e=>#[_,Y,by cases e;exact h]) (AiS (n:=n) t)
def tV{p:DP}{t:DS}{n:Nat}(rd:∀F ds S Q,p F ds S Q->t F (qT Q) (cW ds n) S):∀vs H Q E,cn K T p vs H Q E->RD K T t (fin Q) (vO vs n) H:=λvs H Q E⟨F,S,ds,a,R,b,h,k⟩=>
 #[F,_,S,_,R,AiS b,rd F ds S a h,λe i g J d c j q=>k _ _ _ _ d c .f q,k,λ_ _ _ _ _ _ _ h=>h,λ_ _ _ _ _ _ _ h=>h]
def iI{p:DP}{m:Nat}(h:∀F ds S Q,p F ds S Q->ds.length=m):∀vs H Q E,cn K T p vs H Q E->vs.length=m:=λvs H Q E⟨F,S,ds,a,R,b,c,k⟩=>(AE b).symm.trans (h F ds S a c)
end
section
variable{M:Md}{K:Ab}{T:US}{k n:Nat}{N:Lw}{q x m:AA}{st:Bm}{sp:DP}{C:Ag}{t:DS}
def fG(p n:Nat)(d:∃X:BO,K.In X/\X.Ns AJ M.mg)(a:Ph K x st)(kt:∀φ H,Rm k N x (NM st) φ->Q6 (cN M K N x (NM st) φ H) (NY st) (RD K T t))(rd:∀F ds S Q,sp F ds S Q->t F (qT Q) (cW ds n) S)(S:O0 N (N.take p) (NM st):=by walk_at"s")(b:∀(kV doc pm:Ai)(an:LO)(cdv ct:Ai)(us:LB),us.length=(N.take p).length->Ce (Bu x x (Om st) (NY st) (NM st) .none kV doc pm an cdv ct) #[us,[]]=pure ((N.take p).zip us):=by walk_at"b")(len:∀F ds S Q,sp F ds S Q->ds.length=(N.take p).length:=by walk_at"l")(hn:N.length=n:=by rfl):Hf M K (k+1) x (cn K T sp):=hf p n d a kt (tV rd) S b (iI len) hn
def Sg(p n:Nat)(a:∃f,Ou K C m q st f)(c:Xf K C)(kt:∀φ H,Rm k N q (NM st) φ->Q6 (cN M K N q (NM st) φ H) (NY st) (RD K T t))(rd:∀F ds S Q,sp F ds S Q->t F (qT Q) (cW ds n) S)(S:O0 N (N.take p) (NM st):=by walk_at"s")(b:∀(kV doc pm:Ai)(an:LO)(cdv ct:Ai)(us:LB),us.length=(N.take p).length->Ce (Bu m q (Om st) (NY st) (NM st) .none kV doc pm an cdv ct) #[us,[]]=pure ((N.take p).zip us):=by walk_at"b")(len:∀F ds S Q,sp F ds S Q->ds.length=(N.take p).length:=by walk_at"l")(hn:N.length=n:=by rfl):Hm M K (k+1) C m (cn K T sp):=hm p n a c kt (tV rd) S b (iI len) hn
def AgY(p n:Nat)(a:∃f,Ou K C "__init__" q st f)(mk:BY K C=Af/\By K (.ref C)=Af)(hx:M.mg x=U (.ref C))(kt:∀φ H,Rm k N q (NM st) φ->Q6 (cN M K N q (NM st) φ H) (NY st) (RD K T t))(rd:∀F ds S Q,sp F ds S Q->t F (qT Q) (cW ds n) S)(S:O0 N (N.take p) (NM st):=by walk_at"s")(b:∀(kV doc pm:Ai)(an:LO)(cdv ct:Ai)(us:LB),us.length=(N.take p).length->Ce (Bu "__init__" q (Om st) (NY st) (NM st) .none kV doc pm an cdv ct) #[us,[]]=pure ((N.take p).zip us):=by walk_at"b")(len:∀F ds S Q,sp F ds S Q->ds.length=(N.take p).length:=by walk_at"l")(hn:N.length=n:=by rfl):Hk M K (k+1) x C (cn K T sp):=hk p n a mk hx kt (tV rd) S b (iI len) hn
end
section
variable{X:Cx}{K:Ab}{T:US}
def RA(h:V6 K F S H [d] vs):∃v,vs=[v]/\VD K F S H d v:=by
 cases h with
 |cons a b=>cases b;exact#[_,Y,a]
def Adf(h:V6 K F S H [d,e] vs):∃v w,vs=[v,w]/\VD K F S H d v/\VD K F S H e w:=by
 cases h with
 |cons a b=>let(w,rfl,c):=RA b;exact#[_,_,Y,a,c]
abbrev one(ds:Lz)(P:D->Prop):Prop:=match ds with
 |[d]=>P d
 |_=>False
def RW{P:D->Prop}(h:one ds P):∃d,ds=[d]/\P d:=by
 unfold one at h;split at h
 ·exact#[_,Y,h]
 ·exact h.elim
def Akq:DN:=λds F S Q=>one ds λd=>∃ks,QH S d (.d ks)/\aw F (.d ks) Q S
def P9:RH X K T (.type "dict") Akq:=#[_,qO,λF S H Q m p n R i h k=>by
 let(d,rfl,g,j,h):=RW h;let(v,rfl,w):=RA i;let(a,rfl,b,f,e):=(R.one w).is (Oz j w);exact#[a,b,Y,f.rd,λl c=>R.aw (o:=.d g) c Y (λr=>#[b,.inl NQ,Paired.imp' (λ_ _=>KD.imp λ_ _=>VD.px<|Px.own ((NV.refl H).upd c) c) e]) h k]]
def Akr:DN:=λds F S Q=>one ds λd=>∃ks,QH S d (.d ks)/\aw F (.l<|ks.map λp=>.f<|kV p.1) Q S
def AdG(hc:X.calm=Af):RH X K T (.type "list") Akr:=#[_,qP hc,λF S H Q j n m R g h k=>by
 let(d,rfl,p,i,h):=RW h;let(v,rfl,w):=RA g;let(a,rfl,b,f,e):=(R.one w).is (Oz i w);exact#[a,b,Y,f.rd,λl c=>R.aw (o:=.l _) c Y (λr=>#[_,NQ,Aj1<|SO e]) h k]]
def Akt:DN:=λds F S Q=>one ds λd=>∃xs,(QH S d (.l xs)\/d=.t xs)/\aw F (.l xs) Q S
def wN{NR:Hp}[N3 X K NR]:RH X K T (.type "list") Akt:=#[_,iE,λF S H Q n q p R m h k=>by
 let(d,rfl,j,g,i):=RW h;let(v,rfl,w):=RA m;rcases g with g|rfl
 ·let(a,rfl,c,f,e):=(R.one w).is (Oz g w);exact#[a,c,Y,.inl f,λl b=>R.aw (o:=.l j) b Y (λr=>#[c,NQ,Paired.imp' (λ_ _=>VD.px<|Px.own ((NV.refl H).upd b) b) e]) i k]
 ·let(a,c,rfl,f,e):=TC.mp w;exact#[a,c,Y,.inr<|P5.of f,λl b=>R.aw (o:=.l j) b Y (λr=>#[c,NQ,Paired.imp' (λ_ _=>VD.px<|Px.own ((NV.refl H).upd b) b) e]) i k]]
def AmQ:DN:=λds _ S Q=>one ds λd=>∃xs,(QH S d (.l xs)\/d=.t xs)/\Q (.f<|.int xs.length) S
def Pr{NR:Hp}[N3 X K NR]:RH X K T (.builtin "len") AmQ:=#[_,PL,λF S H Q j m l R i h k=>by
 let(d,rfl,n,f,g):=RW h;let(v,rfl,w):=RA i;rcases f with f|rfl
 ·let(a,rfl,b,e,c):=(R.one w).is (Oz f w);exact#[a,b,Y,.inl e,by rw[<-AE c];exact k.flat R g]
 ·let(a,b,rfl,e,c):=TC.mp w;exact#[a,b,Y,.inr<|P5.of e,by rw[<-AE c];exact k.flat R g]]
def Aks:DN:=λds F S Q=>one ds λd=>∃a r ks,d=.f (.ref a)/\S a=U (r,.d ks)/\a∉F/\Q (.f<|.int ks.length) S
def AgD:RH X K T (.builtin "len") Aks:=#[_,wR,λF S H Q i l j R g h k=>by
 let(d,rfl,a,r,m,rfl,e,n,h):=RW h;let(v,rfl,w):=RA g;cases N1.mp w;let(b,f,c):=R.dk e n;exact#[a,b,Y,f,by rw[<-AE c];exact k.flat R h]]
def AmS:DN:=λds _ S Q=>one ds λd=>∃i:Int,d=.f (.int i)/\i.natAbs.log2<1920/\Q (.f<|.str<|toString i) S
def wQ:RH X K T (.type "str") AmS:=#[_,iH,λF S H Q c f e R b h k=>by
 let(d,rfl,i,rfl,a,h):=RW h;let(v,rfl,w):=RA b;cases N1.mp w;exact#[i,Y,a,k.flat R h]]
abbrev DM:=D->Lz->Lv->NW->QD->Prop
def AlI(F:Lv)(S:NW)(Ty:String)(d:D):Prop:=(Ty="list"/\∃xs,QH S d<|.l xs)\/(Ty="str"/\∃z,d=.f (.str z))\/(Ty="dict"/\∃a r ks,d=.f (.ref a)/\S a=U (r,.d ks)/\a∉F)
def AnK(K:Ab)(T:US)(r:V->Lx->Hp->VK->Prop)(δ:DM):Prop:=∀F S H(Q:VK)(Q':QD)d x ds vs,Rp K T F H S []->VD K F S H d x->V6 K F S H ds vs->δ d ds F S Q'->Nx K F S H T Q' Q->r x vs H Q
def Agy(X:Cx)(K:Ab)(T:US)(id:String)(δ:DM):Prop:=∃r,AlB X id r/\AnK K T r δ
def Adb{Ty:String}(R:Rp K T F H S [])(w:VD K F S H d x)(h:AlI F S Ty d):Ak1 K Ty x H:=by
 rcases h with⟨rfl,j,i⟩|⟨rfl,z,rfl⟩|⟨rfl,a,r,k,rfl,g,n⟩
 ·let(a,rfl,e,c,f):=(R.one w).is (Oz i w);exact .inl #[Y,e,c]
 ·cases N1.mp w;rfl
 ·cases N1.mp w;let(b,c,f):=R.dk g n;exact .inr (.inr<|.inl #[Y,.inl #[b,c]])
abbrev Ann(Ty:String)(δ:DM)(t:DE)(ta:DA):DE:=λF loc S Q=>t F loc S λd S1=>kC (AlI F S1 Ty d) (ta F loc S1 λds S2=>δ d ds F S2 Q)
abbrev Ajg(Ty:String)(δ:DM)(t:DE):DE:=λF loc S Q=>t F loc S λd S1=>kC (AlI F S1 Ty d) (δ d [] F S1 Q)
def xB{NR:Hp}[hK:N3 X K NR]{t:DE}{ta:DA}{δ:DM}{o e:Expr}{es:LJ}{name:AA}{apos cpos:CU}{Ty id:String}(pa:HR Ty)(slot:Slot Ty name id)(hty:KG (.builtin id)=pure (.type "method_descriptor"))(hm:Agy X K T id δ)(ho:PE X o (lf K T t))(ha:PA X (e::es) (jR K T ta))(hbase:Co o name X.env (eval o X.env)=eval o X.env:=by rfl)(hfew:((Ca cpos<|AL (e::es) X.env).all (λx=>!x.1)&&(Dw cpos<|Cp [] X.env).all (λx=>x.1.isSome)
   && decide ((e::es).length+([]:Mf).length+(if([]:Mf).isEmpty then 0 else 1)<30))=Af:=by rfl)(hline:(apos.endLine==cpos.line)=Af:=by rfl)(hs:AL (e::es) X.env=(An,eval e X.env)::AL es X.env:=by rfl)(hplain:(Ca cpos<|AL es X.env).any (·.1)=An:=by rfl):
  PE X (.Call (.Attribute o name apos) (e::es) [] cpos) (lf K T<|Ann Ty δ t ta):=by
 let(r,m,h):=hm;exact(X5 pa slot hty m ho ha hbase hfew hline hs hplain).imp λJ H Q⟨F,a,S,v,R,g,q,k⟩=>
  #[F,a,S,_,R,g,q,λd z B x c f w⟨u,l⟩=>#[Adb f w u,F,a,z,_,f,g.px c,l,λp s y j b i n A=>h F s y Q v d x p j i (w.px b) n A<|k.px<|c.trans b]]
def AfU{NR:Hp}[hK:N3 X K NR]{t:DE}{δ:DM}{o:Expr}{name:AA}{apos cpos:CU}{Ty id:String}(pa:HR Ty)(slot:Slot Ty name id)(hty:KG (.builtin id)=pure (.type "method_descriptor"))(hm:Agy X K T id δ)(ho:PE X o (lf K T t))(hbase:Co o name X.env (eval o X.env)=eval o X.env:=by rfl)(hline:(apos.endLine==cpos.line)=Af:=by rfl):PE X (.Call (.Attribute o name apos) [] [] cpos) (lf K T<|Ajg Ty δ t):=by
 let(r,j,g):=hm;exact(AhM pa slot hty j ho hbase hline).imp λJ H Q⟨F,a,S,c,R,m,q,k⟩=>
  #[F,a,S,_,R,m,q,λd h f x e b w⟨l,i⟩=>#[Adb b w l,g F h f Q c d x [] [] b w .nil i<|k.px e]]
def Aj8:DM:=λd ds _ S Q=>∃a r xs y,d=.f (.ref a)/\ds=[y]/\S a=U (r,.l xs)/\xs.length<100000/\Q (.f .Of) (NP S a (r,.l<|xs++[y]))
def ZY:Agy X K T "list.append" Aj8:=#[_,UI,λF S H Q n d x q o R w l⟨a,r,s,y,g,m,b,p,h⟩k=>by
 subst g m;cases N1.mp w;let(v,rfl,e):=RA l;let(j,i,c):=R.st a r _ b;exact#[a,j,v,Y,Y,i,by rw[<-AE c,Bb];omega,k _ _ _ _ (Px.set R b) (R.zO b<|Ze c e) .f h]]
def Aj9:DM:=λd _ _ S Q=>∃a r xs,d=.f (.ref a)/\S a=U (r,.l xs)/\Q (.f .Of) (NP S a (r,.l []))
def Aeu:Agy X K T "list.clear" (λd ds F S Q=>ds=[]/\Aj9 d ds F S Q):=#[_,AbD,λF S H Q l d x ds m R w j⟨c,a,r,o,e,b,h⟩k=>by
 subst e c;cases N1.mp w;cases j;let(i,g,n):=R.st a r _ b;exact#[a,i,Y,Y,g,k _ _ _ _ (Px.set R b) (R.zO b .nil) .f h]]
def rN:DM:=λd ds _ S Q=>∃a r xs i n y,d=.f (.ref a)/\ds=[.f<|.int i]/\S a=U (r,.l xs)/\-(2 ^ 63)<=i/\i<2 ^ 63/\GW i xs.length=U n/\xs[n]?=U y/\Q y (NP S a (r,.l<|xs.eraseIdx n))
def Acp{α β:Type}{G:α->β->Prop}{as:List α}{bs:List β}(h:Paired G as bs):∀n,Paired G (as.eraseIdx n) (bs.eraseIdx n):=by
 induction h with
 |nil=>intro n;cases n<;>exact .nil
 |cons h1 h2 ih=>
   intro n;cases n with
   |zero=>exact h2
   |succ n=>exact .cons h1 (ih n)
def uP:Agy X K T "list.pop" rN:=#[_,AbE,λF S H Q I d x G E R w o⟨a,r,A,i,n,y,D,p,c,j,g,B,t,h⟩k=>by
 subst D p;cases N1.mp w;let(v,rfl,C):=RA o;cases N1.mp C;let(e,s,b):=R.st a r _ c;let(z,q,m):=Z4 b t;have f:=Px.set (r':=r) (o':=.l<|A.eraseIdx n) (u:=.lst<|e.eraseIdx n) R c;exact#[a,e,i,n,z,Y,Y,s,j,g,by rw[<-AE b];exact B,q,k _ _ _ _ f (R.zO c<|Acp b n) (m.px f) h]]
variable{t u t3:DE}{o e f:Expr}{apos cpos:CU}
def AnA(F:Lv)(d e:D)(Q:QD)(S:NW):Prop:=∃a r ks,d=.f (.ref a)/\S a=U (r,.d ks)/\a∉F/\rH e λq=>∃x,OB ks q=U x/\Q x (NP S a (r,.d<|Wb ks q))
abbrev Aju(t u:DE):DE:=λF loc S Q=>t F loc S λd S1=>kC (Ai0 S1 d) (u F loc S1 λe S2=>AnA F d e Q S2)
def rC{Tb:US}(R1:Rp K Tb F H1 S1 [])(w1:VD K F S1 H1 d x)(hM:Ai0 S1 d):∃a,x=.ref a/\Agw H1 a:=by
 rcases hM with⟨h,e⟩|⟨g,e⟩
 ·let(a,rfl,b,c,f):=(R1.one w1).is (Oz e w1);exact#[a,Y,.inl #[b,c.rd]]
 ·let(a,rfl,b,c,f):=(R1.one w1).is (Oz e w1);exact#[a,Y,.inr #[b,.inl c]]
def AdR(ho:PE X o (lf K T t))(he:PE X e (lf K T u))(m:M1 X o "pop" apos e cpos:=by exact#[Y,Y,Y,Y]):PE X (.Call (.Attribute o "pop" apos) [e] [] cpos) (lf K T<|Aju t u):=(Ab3 ho he m).imp λJ H Q⟨F,f,S,Z,R,A,q,k⟩=>
 #[F,f,S,_,R,A,q,λd P y0 x w z n⟨D,G⟩=>by
  let(b,rfl,i):=rC z n D;refine#[b,Y,i,#[F,f,P,_,z,A.px w,G,λe W H2 y C h u3⟨a,r,E,M,l,j0,V⟩=>?_]];subst M;cases N1.mp n;let(j,L,x,O,B):=Xy V;subst L;cases N1.mp u3;let(c,I,p):=h.dk l j0;let(v,g,N):=Y8 p O;have s:=Px.set (r':=r) (o':=.d<|Wb E j) (u:=.dK<|Rk c j) h l;exact#[c,j,v,I,Y,g,k _ _ _ _ ((w.trans C).trans s) (h.PM l<|jQ p) (N.px s) B]]
def Amt(F:Lv)(d e z:D)(Q:QD)(S:NW):Prop:=∃a r ks,d=.f (.ref a)/\S a=U (r,.d ks)/\a∉F/\rH e λq=>(∀x,OB ks q=U x->Q x (NP S a (r,.d<|Wb ks q)))/\(OB ks q=Ah->Q z S)
abbrev Ajv(t u v:DE):DE:=λF loc S Q=>t F loc S λd S1=>kC (Ai0 S1 d) (u F loc S1 λe S2=>v F loc S2 λz S3=>Amt F d e z Q S3)
def AdS(ho:PE X o (lf K T t))(he:PE X e (lf K T u))(hf:PE X f (lf K T t3))(m:M2 X o "pop" apos e f cpos:=by exact#[Y,Y,Y,Y]):PE X (.Call (.Attribute o "pop" apos) [e,f] [] cpos) (lf K T<|Ajv t u t3):=(Ab4 ho he hf m).imp λJ H Q⟨F,g,S,Q',R,B,q,k⟩=>
 #[F,g,S,_,R,B,q,λd S1 H1 x s G C⟨P,W⟩=>by
  let(b,rfl,p):=rC G C P;refine#[b,Y,p,#[F,g,S1,_,G,B.px s,W,λe S2 H2 y D V w2 q2=>#[F,g,S2,_,V,B.px<|s.trans D,q2,λz S3 H3 y' L j O⟨a,r,u3,ed,A,nF,Z⟩=>?_]]];subst ed;cases N1.mp C;let(w,ee,q8,M):=Xy Z;subst ee;cases N1.mp w2;let(h,y0,n):=j.dk A nF;have j0:=(s.trans D).trans L;refine#[h,w,y0,Y,λv l=>?_,λl=>?_]
  ·rcases Xw n with⟨i,c⟩|⟨d',N,i,c,I⟩
   ·rw[l]at c;cases c
   ·rw[l]at c;cases c;have E:=Px.set (r':=r) (o':=.d<|Wb u3 w) (u:=.dK<|Rk h w) j A;exact k _ _ _ _ (j0.trans E) (j.PM A<|jQ n) (I.px E)<|q8 _ i
  ·rcases Xw n with⟨i,c⟩|⟨d',N,i,c,I⟩
   ·exact k _ _ _ _ j0 j O<|M i
   ·rw[l]at c;cases c]
end
abbrev DG:=D->Lc->NW->(Lc->NW->Prop)->Prop
abbrev AiH:=Lz->Lc->NW->(Lc->NW->Prop)->Prop
section
variable(K:Ab)(T:US)
def Ank(F:Lv)(S:NW)(H:Hp)(Q':Lc->NW->Prop)(Q:St->Hp->Prop):Prop:=∀loc S1 H1 J,Px F S H F S1 H1->Rp K T F H1 S1 []->Lo K F S1 H1 loc J->Q' loc S1->Q J H1
def rK(g:DG):TG:=λv J H Q=>∃F loc S d Q',Rp K T F H S []/\Lo K F S H loc J/\VD K F S H d v/\g d loc S Q'/\Ank K T F S H Q' Q
def Aen(g:AiH):Adp:=λvs J H Q=>∃F loc S ds Q',Rp K T F H S []/\Lo K F S H loc J/\V6 K F S H ds vs/\g ds loc S Q'/\Ank K T F S H Q' Q
end
def PG.imp{X:Cx}{t u:TG}(h:PG X e t)(m:∀v J H Q,u v J H Q->t v J H Q):PG X e u:=λa s J H v w Q I r b=>h a s J H v w Q I r (m v J H Q b)
def Aae.imp{X:Cx}{t u:Adp}(h:Aae X es t)(m:∀v J H Q,u v J H Q->t v J H Q):Aae X es u:=λa s J H v w Q I r b=>h a s J H v w Q I r (m v J H Q b)
section
variable{X:Cx}{K:Ab}{T:US}{t:DE}{g:DG}{gs:AiH}{tb:DS}{pos:CU}{e tg l:Expr}{es:LJ}{x:AA}{body:LY}
abbrev dN(i:Nat):DG:=λd loc S Q=>Q (zU loc i d) S
def OC(hN:X.N.Nodup)(i:Nat)(hi:X.N[i]?=U x:=by rfl)(hx:Loc X.env.scope x:=by first|exact BK rfl|exact Ee Y)(hf:X.fn x=Af\/X.env.scope.names.lookup x=U .local:=by first|exact .inl rfl|exact .inr rfl|assumption):PG X (.Name x pos) (rK K T<|dN i):=(O2 hN hi hx hf).imp λv J H Q⟨F,b,S,d,c,R,a,w,q,k⟩=>k _ S H _ .refl R (a.set w) q
abbrev Ano:AiH:=λds loc S Q=>match ds with
 |[]=>Q loc S
 |_=>False
abbrev Ajo(g:DG)(gs:AiH):AiH:=λds loc S Q=>match ds with
 |d::r=>g d loc S λloc S=>gs r loc S Q
 |[]=>False
def Xm:Aae X [] (Aen K T Ano):=AeW.imp λe J H Q⟨F,c,S,f,d,R,b,a,q,k⟩=>by
 cases a with
 |nil=>exact k _ S H _ .refl R b q
 |cons _ _=>exact q.elim
def Pm(h1:PG X e (rK K T g))(h2:Aae X es (Aen K T gs))(hs:(CZ (e::es) X.env).map (·.2)=assign e X.env::(CZ es X.env).map (·.2):=by rfl):Aae X (e::es) (Aen K T<|Ajo g gs):=(Acg h1 h2 hs).imp λu J H Q⟨F,f,S,x,i,R,s,c,q,k⟩=>by
 cases c with
 |nil=>exact q.elim
 |cons w c=>exact#[F,f,S,_,_,R,s,w,q,λb m v t p o d r=>#[F,b,m,_,i,o,d,V6.px p c,r,λa h j l n=>k a h j l<|p.trans n]]
def Anp(n:Nat)(gs:AiH):DG:=λd loc S Q=>∃ds,d=.t ds/\ds.length=n/\gs ds loc S Q
def eZ{k n:Nat}{NR:Hp}[N3 X K NR](hc:X.calm=Af)(h:Aae X es (Aen K T gs))(hn:(CZ es X.env).length=n:=by rfl)(hst:(CZ es X.env).findIdx? (·.1)=Ah:=by rfl):PG X (.Tuple es k pos) (rK K T<|Anp n gs):=(AhS hc h hn hst).imp λv J H Q⟨F,b,S,d,f,R,m,w,⟨l,e,i,q⟩,k⟩=>by
 subst e;let(a,g,rfl,j,c):=TC.mp w;exact#[a,g,Y,P5.of j,by rw[<-AE c];exact i,F,b,S,l,f,R,m,c,q,k]
abbrev AlL(t:DE)(g:DG):DS:=λF D loc S=>t F loc S λd S1=>g d loc S1 D.nx
def AkJ(he:PE X e (lf K T t))(hg:PG X tg (rK K T g))(hs:Iv [tg] e pos.line X.env=pure An:=by rfl)(hw:Iw [tg] e X.env=pure Ah:=by rfl)(h1:(CZ [tg] X.env).map (·.2)=[assign tg X.env]:=by rfl):PS X (.Assign [tg] e pos) (RD K T<|AlL t g):=(Acq he hg hs hw h1).imp λE J H⟨F,b,S,r,R,c,q,k⟩=>
 #[F,b,S,_,R,c,q,λd j o v p l w n=>#[F,b,j,d,_,l,c.px p,w,n,λa f h i m=>k.nx a f h i<|p.trans m]]
def Lp(F:Lv)(xs:Lz)(g:DG)(tb:DS)(D:qH)(loc:Lc)(S:NW)(keep:NW->Prop):Prop:=∃I:Nat->Lc->NW->Prop,I 0 loc S/\(∀i loc S,I i loc S->keep S) /\
 (∀i x loc S,xs[i]?=U x->I i loc S->g x loc S λloc S=>tb F #[I<|i+1,D.rt,D.nx,I<|i+1] loc S)/\∀loc S,I xs.length loc S->D.nx loc S
def Lp.mk{D:qH}{keep:NW->Prop}(I:Nat->Lc->NW->Prop)(h0:I 0 loc S)(hk:∀i loc S,I i loc S->keep S)(hs:∀i x loc S,xs[i]?=U x->I i loc S->g x loc S λloc S=>tb F #[I<|i+1,D.rt,D.nx,I<|i+1] loc S)(hd:∀loc S,I xs.length loc S->D.nx loc S):Lp F xs g tb D loc S keep:=#[I,h0,hk,hs,hd]
def AjL:D->Bool
 |.f _=>Af
 |_=>An
def AaX(h:V6 K F S H ds vs)(f:ds.all AjL=Af):vs=ds.map AiW:=by
 induction h with
 |nil=>rfl
 |@cons d v _ _ h1 _ ih=>
   rw[Ct,Iq]at f;cases d with
   |f x=>rw[Az,<-ih f.2,N1.mp h1];rfl
   |_=>cases f.1
abbrev Ajm(t:DE)(g:DG)(tb:DS):DS:=λF D loc S=>t F loc S λd S1=>∃xs,QH S1 d (.l xs)/\(d=.l xs\/xs.all AjL=Af)/\Lp F xs g tb D loc S1 λS=>QH S d (.l xs)
def iB{E:Ends}{D':qH}{I:Nat->Lc->NW->Prop}{S0:NW}{H0:Hp}{F:Lv}{x:D}{v:V}{i:Nat}{J:St}{H:Hp}{loc:Lc}{S:NW}(Pv:Nat->St->Hp->Prop)(hP:∀i loc S J H,Rp K T F H S []->Lo K F S H loc J->I i loc S->Px F S0 H0 F S H->Pv i J H)(k:AiI K T F S0 H0 D' E)(R:Rp K T F H S [])(lo:Lo K F S H loc J)(pe:Px F S0 H0 F S H)(w:VD K F S H x v)(hs:g x loc S λloc S=>tb F #[I<|i+1,D'.rt,D'.nx,I<|i+1] loc S):rK K T g v J H (RD K T tb<|Aay (Pv<|i+1) E):=#[F,loc,S,x,_,R,lo,w,hs,λe n s r p o h q=>#[F,e,n,_,o,h,q,
  λb j l m d c a f=>hP _ _ _ _ _ c a f<|(pe.trans p).trans d,k.rt.px<|pe.trans p,λb j l m d c a f=>k.nx _ _ _ _ ((pe.trans p).trans d) c a f,λb j l m d c a f=>hP _ _ _ _ _ c a f<|(pe.trans p).trans d]]
def AlA(K:Ab)(F:Lv)(S1:NW)(H1:Hp)(d:D)(xs:Lz)(a:Ag)(vs:Lx):Prop:=(d=.l xs/\AiN K S1 H1 a vs)\/(d=.f (.ref a)/\H1 a=U (.lst vs))
def jT{F:Lv}{S1:NW}{H1:Hp}{d:D}{xs:Lz}{v:V}(R1:Rp K T F H1 S1 [])(hi:QH S1 d (.l xs))(w:VD K F S1 H1 d v):∃a,v=.ref a/\∃vs,Pb K H1 a vs/\V6 K F S1 H1 xs vs/\AlA K F S1 H1 d xs a vs:=by
 rcases hi with e|⟨a,r,e,f⟩
 ·subst e;let(a,vs,rfl,b,c):=Aab.mp w;exact#[a,Y,vs,b.sq,c,.inl #[Y,b]]
 ·subst e;cases N1.mp w;let(vs,b,c):=R1.st a r _ f;exact#[a,Y,vs,Pb.of b,c,.inr #[Y,b]]
def AlA.keep{F:Lv}{S S1:NW}{H H1:Hp}{d:D}{xs:Lz}{a:Ag}{vs:Lx}(l:AlA K F S1 H1 d xs a vs)(h2:V6 K F S1 H1 xs vs)(hf:d=.l xs\/xs.all AjL=Af)(hk:QH S d (.l xs))(R2:Rp K T F H S [])(pe:Px F S1 H1 F S H):Pb K H a vs:=by
 rcases l with⟨_,l⟩|⟨e,h⟩
 ·exact AiN.sq<|l.imp (λq=>pe.l _ _ q.1 q.2) id
 ·rcases hf with z|hf
  ·rw[e]at z;cases z
  ·rcases hk with z|⟨b,r,z,g⟩
   ·rw[e]at z;cases z
   ·rw[e]at z;cases z;let(i,f,c):=R2.st _ r _ g;refine Pb.of ?_;rw[f,AaX c hf,<-AaX h2 hf]
def SU{NR:Hp}[N3 X K NR][U1 X](hl:PE X l (lf K T t))(hg:PG X tg (rK K T g))(hb:Q6 X body (RD K T tb))(hs:∀x,BC l X.env x=pure x:=by intro _;rfl):PS X (.For tg l body [] pos) (RD K T<|Ajm t g tb):=(Qr (UL hl) hg hb hs).imp λE J H⟨F,e,S,D',R,B,q,k⟩=>#[F,e,S,_,R,B,q,λd z j0 v p M w⟨xs,hi,Z,I,Q,W,s,O⟩=>by
  have A:=k.px p;let(a,rfl,C,y0,r,u3):=jT M hi w;let Pv:=λi J H=>∃e S,Rp K T F H S []/\Lo K F S H e J/\I i e S/\Px F z j0 F S H
  have hP:∀i e S J H,Rp K T F H S []->Lo K F S H e J->I i e S->Px F z j0 F S H->Pv i J H:=λi e S J H a b c d=>#[e,S,a,b,c,d]
  have u:∀i J H,Pv i J H->Pb K H a C:=λi J H⟨e,S,n,f,m,j⟩=>u3.keep r Z (W i e S m) n j
  refine#[a,Y,#[C,y0],AaR Pv #[e,z,M,B.px p,Q,.refl] (λi J H _ V=>u i J H V) ?_ ?_]
  ·rintro i x aa H2 N⟨h,G,n,f,m,j⟩;have o:=AE r;have D:i<xs.length:=by rw[o];exact(Av.mp N).1
   let(y,L,P):=Z4 r<|Ae D;rw[N]at L;cases L;exact iB Pv hP A n f j (VD.px j P)<|s i _ h G (Ae D) m
  ·rintro aa H2⟨h,G,n,f,m,j⟩;rw[<-AE r]at m;exact A.nx _ _ _ _ j n f<|O _ _ m]
def Agx(F:Lv)(lo:Int)(n:Nat)(g:DG)(tb:DS)(D:qH)(loc:Lc)(S:NW):Prop:=∃I:Nat->Lc->NW->Prop,I 0 loc S /\
 (∀i loc S,i<n->I i loc S->g (.f<|.int<|lo+i) loc S λloc S=>tb F #[I<|i+1,D.rt,D.nx,I<|i+1] loc S)/\∀loc S,I n loc S->D.nx loc S
def Agx.mk{D:qH}{lo:Int}(I:Nat->Lc->NW->Prop)(h0:I 0 loc S)(hs:∀i loc S,i<n->I i loc S->g (.f<|.int<|lo+i) loc S λloc S=>tb F #[I<|i+1,D.rt,D.nx,I<|i+1] loc S)(hd:∀loc S,I n loc S->D.nx loc S):Agx F lo n g tb D loc S:=#[I,h0,hs,hd]
def nV{E:Ends}{D':qH}{n:Nat}{AiS:Int}(R1:Rp K T F H1 S1 [])(lo:Lo K F S1 H1 loc J)(k:AiI K T F S1 H1 D' E)(h:Agx F AiS n g tb D' loc S1):kFor (rK K T g) (RD K T tb) E J (Aad AiS n) H1:=by
 let(I,v,l,r):=h;let Pv:=λi J H=>∃loc S,Rp K T F H S []/\Lo K F S H loc J/\I i loc S/\Px F S1 H1 F S H
 have u:∀i loc S J H,Rp K T F H S []->Lo K F S H loc J->I i loc S->Px F S1 H1 F S H->Pv i J H:=λi loc S J H a b c d=>#[loc,S,a,b,c,d]
 refine eY Pv #[loc,S1,R1,lo,v,.refl] ?_ ?_
 ·rintro i t s w⟨e,q,m,j,o,p⟩;exact iB Pv u k m j p .f<|l i e q w o
 ·rintro t s⟨e,q,m,j,o,p⟩;exact k.nx _ _ _ _ p m j (r _ _ o)
abbrev Ajn(t:DA)(g:DG)(tb:DS):DS:=λF D loc S=>t F loc S λds S1=>∃j:Int,ds=[.f<|.int j]/\-(2 ^ 62)<=j/\j<2 ^ 62/\Agx F 0 j.toNat g tb D loc S1
abbrev AgI(t:DA)(g:DG)(tb:DS):DS:=λF D loc S=>t F loc S λds S1=>∃i j:Int,ds=[.f<|.int i,.f<|.int j]/\(-(2 ^ 62)<=i/\i<2 ^ 62/\-(2 ^ 62)<=j/\j<2 ^ 62)/\Agx F i (j-i).toNat g tb D loc S1
end
abbrev U8:LC->Lc->Lc
 |[],_=>[]
 |none::r,loc=>Ah::U8 r loc
 |some i::r,loc=>AeA loc i::U8 r loc
section
variable{X:Cx}{K:Ab}{T:US}
def oH:∀{J:St}{i:Nat},(J[i]?).getD Ah=Ahw J i
 |[],_=>rfl
 |_::_,0=>rfl
 |_::t,n+1=>oH (J:=t) (i:=n)
def UG:∀{src:LC}{loc:Lc}{J:St},Lo K F S H loc J->Lo K F S H (U8 src loc) (pick src J)
 |[],_,_,_=>.nil
 |none::r,_,_,h=>.cons (λ_ e=>nomatch e)<|UG (src:=r) h
 | some i::r,_,J,h=>.cons (λd e=>by
   let(v,a,w):=h.get e;exact#[v,oH.trans a,w]) (UG (src:=r) h)
def XQ:Adn X [] (V0 K T λ_ _ S Q=>Q Af S):=λa s J H Q I⟨F,b,S,c,R,d,q,k⟩=>UN a s J H Q I (k Af S H .refl R q)
def Ac7{c:Expr}{t:DT}(h:PT X c (V0 K T t)):Adn X [c] (V0 K T t):=jZ h
def AfJ(F:Lv)(xs:Lz)(src:LC)(n:Nat)(tt:DT)(te:DE)(loc:Lc)(S1:NW)(p:Ag)(keep:NW->Prop)(Q:QD):Prop:=∃W:Nat->Lz->NW->Prop,W 0 [] (NP S1 p (.own 0,.l []))/\(∀i ys S,W i ys S->keep S) /\
 (∀i x ys S,xs[i]?=U x->W i ys S->tt F (zU (U8 src loc) n x) S λb S3=>QT b (te F (zU (U8 src loc) n x) S3 λy S4=>∃r,S4 p=U (r,.l ys)/\ys.length<100000/\W (i+1) (ys++[y]) (NP S4 p (r,.l<|ys++[y])))<|W (i+1) ys S3)/\∀ys S,W xs.length ys S->fz Q (.f<|.ref p) S
def AfJ.mk{keep:NW->Prop}(W:Nat->Lz->NW->Prop)(h0:W 0 [] (NP S1 p (.own 0,.l [])))(hk:∀i ys S,W i ys S->keep S)(hs:∀i x ys S,xs[i]?=U x->W i ys S->tt F (zU (U8 src loc) n x) S λb S3=>QT b (te F (zU (U8 src loc) n x) S3 λy S4=>∃r,S4 p=U (r,.l ys)/\ys.length<100000/\W (i+1) (ys++[y]) (NP S4 p (r,.l<|ys++[y])))<|W (i+1) ys S3)(hd:∀ys S,W xs.length ys S->fz Q (.f<|.ref p) S):AfJ F xs src n tt te loc S1 p keep Q:=#[W,h0,hk,hs,hd]
abbrev Alh(src:LC)(n:Nat)(t:DE)(tt:DT)(te:DE):DE:=λF loc S Q=>t F loc S λd S1=>∃xs,QH S1 d (.l xs)/\(d=.l xs\/xs.all AjL=Af)/\∀p,S1 p=Ah->p∉F->AfJ F xs src n tt te loc S1 p (λS=>QH S d<|.l xs) Q
def AcZ{src:LC}{n:Nat}(h:src[n]?=U Ah)(J:St)(v:V):Wk (pick src J) (Aio (pick src J) n v):=Wk.set (by
 unfold pick;rw[Aj,h];rfl)
def Agd{src:LC}{n:Nat}{t te:DE}{tt:DT}(hn:src[n]?=U Ah):lf K T (Alh src n t tt te) J H Q->AkR src (Af1 K<|lf K T t) (U4 n) (V0 K T tt) (lf K T te) J H Q:=λ⟨F,aa,S,Q',R,lo,q,k⟩=>
 #[F,aa,S,_,R,lo,q,λd y0 p v O E w⟨h,hi,hf,hw⟩=>by
  let(a,rfl,j,h1,B,ls):=jT E hi w;refine#[a,Y,#[j,h1],λD u=>?_];let(W,h0,hk,j0,hd):=hw D (E.free u) λm=>E.fd D m u
  have sD:NV p (upd p D<|.lst []):=(NV.refl p).upd u;have I:Px F y0 p F (NP y0 D (.own 0,.l [])) (upd p D<|.lst []):=Px.own sD u;refine#[λi m zs V=>∃s g,m=h.length-i/\i<=h.length/\Rp K T F V g []/\W i s g/\Px F y0 p F g V,#[h.length,[],_,Y,Bv _,E.own (o:=.l []) sD u (.own 0) #[[],NQ,.nil],h0,I],?_];rintro i m zs V⟨s,g,rfl,ac,L,M,c⟩;have P:=ls.keep B hf (hk i s g M) L c;by_cases z:i<h.length
  ·have G:i<j.length:=by rw[<-AE B];exact z
   refine .inr #[#[j,j[i],P,Ae G],λx H3 C=>?_];let(rfl,u3):=C;have u3:=u3 j<|P;let(y,C,wy):=Z4 B<|Ae z;rw[u3]at C;cases C;refine#[AcZ hn J x,F,_,g,_,L,(UG<|lo.px<|O.trans c).set (wy.px c),j0 i _ s g (Ae z) M,λb S3 H3 A R3 q3=>?_];cases b with
   |false=>rw[Ay AQ];exact#[h.length-(i+1),M6,s,S3,Y,z,R3,q3,c.trans A]
   |true=>rw[AG Y];refine#[F,_,S3,_,R3,(UG<|lo.px<|O.trans<|c.trans A).set (wy.px<|c.trans A),q3,λy S4 H4 v4 p4 X w4⟨r,Z,ab,N⟩=>?_];let(us,g1,g2):=X.st D r _ Z;refine#[us,g1,by rw[<-AE g2,Bb];omega,h.length-(i+1),M6,_,_,Y,z,X.zO Z<|Ze g2 w4,N,(c.trans A).trans (p4.trans<|Px.set X Z)]
  ·have e:i=h.length:=M6;subst e;exact .inl #[#[j,P,by rw[AE B];exact Ao _],(k.px O).fz _ _ _ _ c L .f (hd s g M)]]
variable{elt tg l:Expr}{ifs:LJ}{scope:Scope}{pos:CU}{Nc:Lw}{src:LC}{t te:DE}{tt:DT}{n:Nat}
def mO{NR:Hp}[N3 X K NR](hcalm:X.calm=Af)(hl:PE X l (lf K T t))(hkind:scope.kind=.function)(hcell:∀y∈scope.names,y.2≠.cell)(hfr:∀y∈scope.names,y.2=.free->X.env.kindOf y.1=U .cell\/X.env.kindOf y.1=U .free)(hnames:∀x∈scope.names,x.2=.local->scope.names.lookup x.1=U .local)(caps:Qu X scope Nc src)(hg:∀fp s H,PG (Oo X scope Nc fp s H) tg<|U4 n)(ht:∀fp s H,Adn (Oo X scope Nc fp s H) ifs<|V0 K T tt)(he:∀fp s H,PE (Oo X scope Nc fp s H) elt<|lf K T te)(hn:src[n]?=U Ah:=by rfl)(hs:∀x,BC l X.env x=pure x:=by intro _;rfl):PE X (.ListComp elt [#[tg,l,ifs,0]] scope pos) (lf K T<|Alh src n t tt te):=(gC hcalm (UL hl) hkind hcell hfr hnames caps hg ht he hs).imp λJ H Q=>Agd hn
def vI{NR:Hp}[N3 X K NR]{i₀:Nat}{x₀:AA}{pos₀ spos:CU}(hN:X.N.Nodup)(hi₀:X.N[i₀]?=U x₀)(hx₀:Loc X.env.scope x₀)(hcalm:X.calm=Af)(hl:PE X l (lf K T t))(hkind:scope.kind=.function)(hcell:∀y∈scope.names,y.2≠.cell)(hfr:∀y∈scope.names,y.2=.free->X.env.kindOf y.1=U .cell\/X.env.kindOf y.1=U .free)(hnames:∀x∈scope.names,x.2=.local->scope.names.lookup x.1=U .local)(caps:Qu X scope Nc src)(hg:∀fp s H,PG (Oo X scope Nc fp s H) tg<|U4 n)(ht:∀fp s H,Adn (Oo X scope Nc fp s H) ifs<|V0 K T tt)(he:∀fp s H,PE (Oo X scope Nc fp s H) elt<|lf K T te)(hn:src[n]?=U Ah:=by rfl)(hs:∀x,BC l X.env x=pure x:=by intro _;rfl)(hsw:swapsWith (.ListComp elt [#[tg,l,ifs,0]] scope pos) (U<|.Name x₀ pos₀) spos.line X.env=pure Af:=by rfl)(hf₀:X.fn x₀=Af\/X.env.scope.names.lookup x₀=U .local:=by first|exact .inl rfl|exact .inr rfl|assumption):PS X (.Assign [.Name x₀ pos₀] (.ListComp elt [#[tg,l,ifs,0]] scope pos) spos) (RD K T<|AaB (Alh src n t tt te) i₀):=(Wz hN hi₀ hx₀ hcalm (UL hl) hkind hcell hfr hnames caps hg ht he hs hsw hf₀).imp λE J H⟨F,a,S,h,R,b,q,k⟩=>Agd hn #[F,a,S,_,R,b,q,λd e c v p f w g=>k.nx _ e c _ p f ((b.px p).set w) g]
end
section
variable{M:Md}{K:Ab}{k:Nat}{x:AA}{sp sp':Sp}
def Hf.imp(u3:Hf M K k x sp)(h:∀vs H Q E,sp' vs H Q E->sp vs H Q E):Hf M K k x sp':=by let(b,(f,a,F,r)):=u3;exact#[b,#[f,a,F.imp h,r]]
end
section
variable{K:Ab}{S:NW}{Q:QD}{x y:D}{C:Ag}{fs:LV}{f m:AA}{a:Ag}{r:Rl}{i:Nat}{A:WR->Ag}{w w':PR}{Cw:WC}{N:NW->Prop}
def zF(h:S a=U (r,.i C fs))(l:fs.lookup f=U x)(k:Q x S):kF f Q (.f<|.ref a) S:=#[C,fs,x,.inr #[a,r,Y,h],l,k]
def bU(l:fs.lookup f=U x)(k:Q x S):kF f Q (.i C fs) S:=#[C,fs,x,.inl Y,l,k]
def QZ(wd:Ob Cw i A w S)(y:WR)(k:Q x S)(e0:Sm Cw A w y=U (.i C fs):=by rfl)(l:fs.lookup f=U x:=by rfl):kF f Q (.f<|.ref<|A y) S:=zF (wd y _ e0) l k
def zC(h:S a=U (r,.i C fs))(l:fs.lookup m=Ah):AiZ S (.f<|.ref a) C m:=#[fs,.inr #[a,r,Y,h],l]
def AoF(l:fs.lookup m=Ah):AiZ S (.i C fs) C m:=#[fs,.inl Y,l]
def Sd(wd:Ob Cw i A w S)(y:WR)(e0:Sm Cw A w y=U (.i C fs):=by rfl)(l:fs.lookup m=Ah:=by rfl):AiZ S (.f<|.ref<|A y) C m:=zC (wd y _ e0) l
def V2(wd:Ob Cw i A w S)(y:WR){o:O}(e0:Sm Cw A w y=U o:=by rfl):QH S (.f<|.ref<|A y) o:=.inr #[_,_,Y,wd y _ e0]
def zS(h:S a=U (r,.i C fs))(n:(fs.lookup f).isSome=Af\/Pz K C f)(l:D1 fs.length 999=Af)(k:N (NP S a (r,.i C<|oV f y fs))):Alm K f y N (.f<|.ref a) S:=#[a,r,C,fs,Y,h,n,l,k]
def lR{ns:Lw}(G:AfG K C ns)(k:N (NP S a (r,.i C<|oV f y fs)))(n:f∈ns:=by decide +kernel)(l:D1 fs.length 999=Af:=by rfl):Alm K f y N (.f<|.ref a) (NP S a (r,.i C fs)):=zS NO (.inr<|G.n f n) l (by rw[U9];exact k)
def AoJ(wd:Ob Cw i A w S)(z:WR)(w':PR)(k:∀S1,Ob Cw i A w' S1->Fr i S S1->N S1)(e0:Sm Cw A w z=U (.i C fs):=by rfl)(e1:Sm Cw A w' z=U (.i C<|oV f y fs):=by rfl)(e:∀x,x≠z->Sm Cw A w' x=Sm Cw A w x:=by walk_at"w")(n:(fs.lookup f).isSome=Af:=by rfl)(l:D1 fs.length 999=Af:=by rfl):Alm K f y N (.f<|.ref<|A z) S:=zS (wd z _ e0) (.inl n) l (k _ (wd.upd z e0 e1 e)<|Fr.set<|wd z _ e0)
end
section
variable{X:Cx}{K:Ab}{T:US}
def Xc:∀(ms:Lw),V6 K F S H (ms.map λz=>.f<|.str z) (ms.map V.str)
 |[]=>.nil
 |_::ms=>.cons .f (Xc ms)
def wF:∀(ms:LD),V6 K F S H (ms.map λz=>.f<|.int z) (ms.map V.int)
 |[]=>.nil
 |_::ms=>.cons .f (wF ms)
abbrev U0(ms:Lw):O:=.l (ms.map λz=>.f<|.str z)
abbrev AjK(ms:LD):O:=.l (ms.map λz=>.f<|.int z)
def Akw:DN:=λds F S Q=>one ds λd=>∃ks ns,QH S d (.d ks)/\ks.map (·.1)=ns.map Cr/\ns.length<64/\∀ms:Lw,ms.Perm ns->GI ms=Af->aw F (U0 ms) Q S
def Xh(hc:X.calm=Af):RH X K T (.builtin "sorted") Akw:=#[_,iF hc,λF S H Q u y x R q h k=>by
 let(d,rfl,z,m,s,e,l,g):=RW h;let(v,rfl,w):=RA q;let(a,rfl,c,j,i):=(R.one w).is (Oz s w);exact#[a,c,m,Y,j.rd,(SO i).trans e,l,λb p f n t=>R.aw (o:=U0 b) t Y (λr=>#[_,NQ,Xc b]) (g b f n) k]]
def Aku:DN:=λds F S Q=>one ds λd=>∃ks ns,QH S d (.d ks)/\ks.map (·.1)=ns.map C5/\ns.Pairwise (·<·)/\aw F (AjK ns) Q S
def qN(hc:X.calm=Af):RH X K T (.builtin "sorted") Aku:=#[_,bY hc,λF S H Q q t s R j h k=>by
 let(d,rfl,u,c,m,e,l,f):=RW h;let(v,rfl,w):=RA j;let(a,rfl,b,i,g):=(R.one w).is (Oz m w);exact#[a,b,c,Y,i.rd,(SO g).trans e,l,λp n=>R.aw (o:=AjK c) n Y (λr=>#[_,NQ,wF c]) f k]]
def pZ:∀(ks:LM),V6 K F S H (ks.map λq=>.f<|kV q) (ks.map kV)
 |[]=>.nil
 |_::ks=>.cons .f (pZ ks)
def Adg{ks:LQ}{bs:Lx}(h:Paired (wI H) ks bs)(t:∀a vs,H a=U (.tup vs)->H' a=U (.tup vs)):V6 K F S H' (ks.map dZ) bs:=by
 induction h with
 |nil=>exact .nil
 |cons h1 _ ih=>let(b,rfl,c):=h1;exact .cons (TC.mpr #[b,_,Y,t _ _ c,pZ _]) ih
def Akx:DN:=λds F S Q=>one ds λd=>∃km,QH S d (.m km)/\Alb (km.map (·.1))/\km.length<64/\aw F (.l ((AcW (km.map (·.1))).map dZ)) Q S
def SM(hc:X.calm=Af):RH X K T (.builtin "sorted") Akx:=#[_,bZ hc,λF S H Q y z m R u h k=>by
 let(d,rfl,A,x,t,l,j):=RW h;let(v,rfl,w):=RA u;let(a,rfl,c,n,f):=(R.one w).is (Oz x w);have e:=SO f;exact#[a,c,Y,n,by rw[e];exact t,by rw[<-AE f];exact l,λp s g i=>R.aw (o:=.l _) i Y (λr=>#[s,NQ,Adg (by rw[e]at g;exact g) λb m q=>(NV.refl H).upd i _ _ q]) j k]]
def Akv:DN:=λds F S Q=>one ds λd=>∃ns:Lw,QH S d (U0 ns)/\ns.length<64/\∀ms:Lw,ms.Perm ns->GI ms=Af->aw F (U0 ms) Q S
def Aev{ns:Lw}(h:V6 K F S H (ns.map λz:AA=>.f<|.str z) vs):vs=ns.map V.str:=by
 induction ns generalizing vs with
 |nil=>cases h;rfl
 |cons n ns ih=>
   cases h with
   |cons a b=>rw[Az,N1.mp a,ih b]
def wO{NR:Hp}[N3 X K NR]:RH X K T (.builtin "sorted") Akv:=#[_,iG,λF S H Q t x u R n h k=>by
 let(d,rfl,j,q,l,f):=RW h;let(v,rfl,w):=RA n;let(a,rfl,y,i,g):=(R.one w).is (Oz q w);have e:=Aev g;subst e;exact#[a,j,Y,i,l,λb p c m s=>R.aw (o:=U0 b) s Y (λr=>#[_,NQ,Xc b]) (f b c m) k]]
abbrev Alu:=D->LG->LG->Lv->NW->QD->Prop
abbrev DO:=Lv->Lc->NW->(LG->NW->Prop)->Prop
def AlG(X:Cx)(K:Ab)(T:US)(δ:Alu):Prop:=∃r,Alc X r/\∀F S H(Q:VK)(Q':QD)d x lo hi,Rp K T F H S []->VD K F S H d x->δ d lo hi F S Q'->Nx K F S H T Q' Q->r x lo hi H Q
def Aln(K:Ab)(T:US)(t:DO):TO:=λJ H Q=>∃F loc S Q',Rp K T F H S []/\Lo K F S H loc J/\t F loc S Q'/\∀o S1 H1,Px F S H F S1 H1->Rp K T F H1 S1 []->Q' o S1->Q o H1
def PO.imp{X:Cx}{t u:TO}{o:Mn}(h:PO X o t)(m:∀J H Q,u J H Q->t J H Q):PO X o u:=λa s J H Q I b=>h a s J H Q I (m J H Q b)
variable{t u:DE}{tl th:DO}{e:Expr}{lo hi:Mn}{p2 pos:CU}
def lP:PO X Ah (Aln K T λ_ _ S Q=>Q Ah S):=Ae0.imp λJ H Q⟨F,a,S,b,R,c,q,k⟩=>k Ah S H .refl R q
abbrev Abv(d:D)(P:Int->Prop):Prop:=match d with
 |.f (.int i)=>P i
 |_=>False
def Aet{P:Int->Prop}(h:Abv d P):∃i,d=.f (.int i)/\P i:=by
 unfold Abv at h;split at h
 ·exact#[_,Y,h]
 ·exact h.elim
def lQ(h:PE X e (lf K T t)):PO X (U e) (Aln K T λF loc S Q=>t F loc S λd S1=>Abv d λi=>Q (U i) S1):=(Ae1 h).imp λJ H Q⟨F,loc,S,f,R,b,q,k⟩=>
 #[F,loc,S,_,R,b,q,λd S1 a v p c w h=>by
  let(i,rfl,h):=Aet h;rw[N1.mp w];exact k _ S1 a p c h]
abbrev AlY(δ:Alu)(t:DE)(tl th:DO):DE:=λF loc S Q=>t F loc S λd S1=>tl F loc S1 λl S2=>th F loc S2 λh S3=>δ d l h F S3 Q
def Y4{δ:Alu}(hr:AlG X K T δ)(he:PE X e (lf K T t))(hl:PO X lo (Aln K T tl))(hu:PO X hi (Aln K T th)):PE X (.Subscript e (.Slice lo hi Ah p2) pos) (lf K T<|AlY δ t tl th):=by
 let(r,s,m):=hr;exact(Acb s he hl hu).imp λJ H Q⟨F,a,S,g,R,lo,q,k⟩=>#[F,a,S,_,R,lo,q,λd n B v b o w p=>#[F,a,n,_,o,lo.px b,p,λl f A p2 i y=>#[F,a,f,_,i,lo.px<|b.trans p2,y,λu j z c h x=>
  m F j z Q g d v l u h (w.px<|p2.trans c) x (k.px<|(b.trans p2).trans c)]]]
def cA{α:Type}(xs:List α)(lo hi:LG):List α:=(xs.drop<|HT.Q9 xs.length 0 lo).take (HT.Q9 xs.length xs.length hi-HT.Q9 xs.length 0 lo)
def Ae6{α β:Type}{G:α->β->Prop}{as:List α}{bs:List β}(h:Paired G as bs):∀n,Paired G (as.take n) (bs.take n):=by
 induction h with
 |nil=>intro n;rw[JL,JL];exact .nil
 |cons h1 _ ih=>
   intro n;cases n with
   |zero=>exact .nil
   |succ n=>exact .cons h1 (ih n)
def Ae4{α β:Type}{G:α->β->Prop}{as:List α}{bs:List β}(h:Paired G as bs):∀n,Paired G (as.drop n) (bs.drop n):=by
 induction h with
 |nil=>intro n;rw[JO,JO];exact .nil
 |cons h1 h2 ih=>
   intro n;cases n with
   |zero=>exact .cons h1 h2
   |succ n=>exact ih n
def Aco{G:α->V->Prop}{as:List α}{bs:Lx}(h:Paired G as bs)(lo hi:LG):Paired G (cA as lo hi) (wW bs lo hi):=by unfold cA wW;rw[AE h];exact Ae6 (Ae4 h _) _
def Abb{NR:Hp}[N3 X K NR]:AlG X K T (λd lo hi F S Q=>∃xs,QH S d (.l xs)/\aw F (.l<|cA xs lo hi) Q S):=#[_,Afu,λF S H Q i d x lo hi R w⟨xs,c,h⟩k=>by
 let(a,rfl,e,g,f):=(R.one w).is (Oz c w);exact#[a,e,Y,g,λp b=>R.aw (o:=.l _) b Y (λr=>#[_,NQ,Paired.imp' (λ_ _=>VD.px<|Px.own ((NV.refl H).upd b) b)<|Aco f lo hi]) h k]]
def Af9{NR:Hp}[N3 X K NR]:AlG X K T (λd lo hi F S Q=>∃xs,d=.t xs/\¬ (HT.Q9 xs.length 0 lo=0/\HT.Q9 xs.length xs.length hi=xs.length)/\Q (.t<|cA xs lo hi) S):=#[_,Aik,λF S H Q l d x lo hi R w⟨xs,i,j,h⟩k=>by
 subst i;let(a,f,rfl,g,e):=TC.mp w;refine#[a,f,Y,P5.of g,by rw[<-AE e];exact j,λp b=>?_];have c:=R.yD b<|Aco e lo hi;exact k _ _ _ _ (Px.Py ((NV.refl H).upd b).n) c.nil c.hd h]
def sA{α β:Type}{G:α->β->Prop}{as cs:List α}{bs es:List β}(h:Paired G as bs)(h':Paired G cs es):Paired G (as++cs) (bs++es):=by
 induction h with
 |nil=>exact h'
 |cons a _ b=>exact .cons a b
def Agn{α β:Type}{G:α->β->Prop}{as:List α}{bs:List β}(h:Paired G as bs):as≠[]↔bs≠[]:=by cases h<;>simp
def Ajj:D2:=λd e _ S Q=>∃xs ys,d=.t xs/\e=.t ys/\xs≠[]/\ys≠[]/\D1 (xs.length+ys.length) 1000=Af/\Q (.t<|xs++ys) S
def AbQ{NR:Hp}[N3 X K NR]:V4 X K T (Ci .Add) Ajj:=#[_,uT,λF S H Q A d e x y R j t⟨C,B,v,w,q,u,l,h⟩k=>by
 subst v w;let(a,o,rfl,r,c):=TC.mp j;let(b,m,rfl,s,f):=TC.mp t;refine#[a,b,o,m,Y,Y,P5.of r,P5.of s,(Agn c).mp q,by rw[<-AE c,<-AE f];exact le_size l,λz=>absurd z<|(Agn f).mp u,λ_ p g=>?_];have i:=R.yD g<|sA c f;exact k _ _ _ _ (Px.Py ((NV.refl H).upd g).n) i.nil i.hd h]
def AkA(K:Ab):R2:=λx y H Q=>∃l b xs zs,x=.ref l/\y=.ref b/\Pb K H l xs/\Pb K H b zs/\xs.length+zs.length<=sizeLine/\∀p,H p=Ah->Q (.ref p) (upd H p<|.lst<|xs++zs)
def AeG{NR:Hp}[hK:N3 X K NR]:RU X (Ci .Add) (AkA K):=by let(rfl,rfl):=hK;intro w s J H x y v u Q I j0 L h;let(l,b,u3,R,rfl,rfl,E,N,S,q):=h;cases j0;cases L;let(c,r,G,T):=I.list E;let(a,z,g,C):=I.list N;have V:=r.length;have W:=z.length;let((B,M,o,D),t,P,n,A):=G.isList;let((p,i,m,k),d,j,O,f):=g.isList;subst P A j f;have e:c.toArray++a.toArray=(c++a).toArray:=M8;refine GA #[_,t,Y] #[_,d,Y] noFill_list_add seq_list_add PySem.F.slot_list_add PySem.F.entry_list_add (PySem.F.args_list_add_2 _ _) (list_addW l b _ _ n O M i D k (by simp only[Aq];omega)) #[t,d,?_];rw[e];exact#[.ref _,_,I.Ahl (r.append z) (by rw[AM];omega),Y,q _ I.fresh]
def AlN:D2:=λd e F S Q=>∃xs ys,QH S d (.l xs)/\QH S e (.l ys)/\xs.length+ys.length<100000/\aw F (.l<|xs++ys) Q S
def Akf{NR:Hp}[N3 X K NR]:V4 X K T (Ci .Add) AlN:=#[_,AeG,λF S H Q v d e x y R f j⟨z,w,m,t,l,h⟩k=>by
 let(a,rfl,q,s,g):=(R.one f).is (Oz m f);let(b,rfl,n,u,i):=(R.one j).is (Oz t j);exact#[a,b,q,n,Y,Y,s,u,by rw[<-AE g,<-AE i,Bb];omega,λp c=>R.aw (o:=.l _) c Y (λr=>#[_,NQ,Paired.imp' (λ_ _=>VD.px<|Px.own ((NV.refl H).upd c) c)<|sA g i]) h k]]
def Aom(y d e:D)(N:NW->Prop)(S:NW):Prop:=∃a r xs i j,d=.f (.ref a)/\e=.f (.int i)/\S a=U (r,.l xs)/\Aah xs.length i=U j/\N (NP S a (r,.l<|xs.set j y))
def AhX{α β:Type}{G:α->β->Prop}{as:List α}{bs:List β}{a:α}{b:β}(h:Paired G as bs)(r:G a b):∀n,Paired G (as.set n a) (bs.set n b):=by
 induction h with
 |nil=>intro n;exact .nil
 |cons h1 h2 ih=>
   intro n;cases n with
   |zero=>exact .cons r h2
   |succ n=>exact .cons h1 (ih n)
abbrev Ajs(td ty tv:DE):DS:=λF D loc S=>tv F loc S λy S1=>td F loc S1 λd S2=>ty F loc S2 λe S3=>Aom y d e (λS4=>D.nx loc S4) S3
def AcP{t3:DE}{o i value:Expr}{pos':CU}(ho:PE X o (lf K T t))(hi:PE X i (lf K T u))(hv:PE X value (lf K T t3))(ha:∀v,assign (.Subscript o i pos') X.env v=(do
   let ov <-holding [v] (eval o X.env);let iv <-holding [v,ov] (eval i X.env)
   standAt pos'
   holding [v,ov,iv] (JY ov iv v)
   release [v,ov,iv] []):=by intro _;rfl)(hs:Iv [.Subscript o i pos'] value pos.line X.env=pure An:=by rfl)(hw:Iw [.Subscript o i pos'] value X.env=pure Ah:=by rfl)(h1:(CZ [.Subscript o i pos'] X.env).map (·.2)=[assign (.Subscript o i pos') X.env]:=by rfl):PS X (.Assign [.Subscript o i pos'] value pos) (RD K T<|Ajs t u t3):=
 (Acq hv (AhR ho hi set_list ha) hs hw h1).imp λE J H⟨F,b,S,y0,R,c,q,k⟩=>
 #[F,b,S,_,R,c,q,λy P W v h L A D=>#[F,b,P,_,L,c.px h,D,λd j0 Z x g C Q u3=>#[F,b,j0,_,C,c.px<|h.trans g,u3,λe S3 V z n f B⟨a,r,M,i,j,N,I,m,O,G⟩=>by
  subst N I;cases N1.mp Q;cases N1.mp B;let(s,h1,p):=f.st a r _ m;have w:=((h.trans g).trans n).trans (Px.set (r':=r) (o':=.l<|M.set j y) (u:=.lst<|s.set j v) f m);exact#[a,s,i,j,Y,Y,h1,by rw[<-AE p];exact O,k.nx b _ _ J w (f.zO m<|AhX p (A.px<|g.trans n) j) (c.px w) G]]]]
end
def erase_filter{κ β:Type}[DecidableEq κ]{k:κ}{b:β}:∀{xs:List (κ×β)}{j:Nat},(xs.map (·.1)).Nodup->xs[j]?=U (k,b)->xs.eraseIdx j=xs.filter λx=>decide (x.1≠k)
 |[],_,_,h=>by simp at h
 | x::xs,0,nd,h=>by
   cases h;rw[Az,Bc]at nd;rw[List.eraseIdx_cons_zero,DH M8]
   symm
   rw[BW];intro y c;exact Ap λe=>nd.1 (by rw[<-e];exact AR.mpr #[y,c,Y])
 | x::xs,j+1,nd,h=>by
   rw[Az,Bc]at nd;have h:xs[j]?=U (k,b):=h;have a:x.1≠k:=λe=>nd.1 (by rw[e];exact AR.mpr #[_,AH h,Y])
   rw[CW,CV (by simpa using a),erase_filter nd.2 h]
section
variable{prog:Bn}{w:Bw}{κ:Type}[DecidableEq κ]{knd:HeapKind prog w κ}{A:BQ}{E:Ai->Au->Prop}{s:Au}{d a:Ag}{k:κ}{xs:List (κ×Ag×Ai)}
def lD{Q:Option G1->Au->Prop}(hu:knd.room A)(hkey:knd.is s.heap k a)(hm:s.heap.DictOfH knd d xs)(ht:∃(j:Nat)(p:Ag×Ai),xs[j]?=U (k,p))(hz:xs.length<=sizeLine)(hQ:∀(j:Nat)(p:Ag×Ai),xs[j]?=U (k,p)->∀h',h'.DictOfH knd d (xs.filter λx=>decide<|x.1≠k)->CP d s.heap h'->Q (U<|entryOfKey knd (k,p)) {s with heap:=h',toks:=s.toks+knd.draws k}):AW (A9 prog w) A (Gr d<|.ref a) Q E s:=by
 let(o,q,n,c,r,b,h,g,m):=hm;unfold Gr
 try with_reducible refine BG ?_
 refine Ad<|knd.pyHash hu hkey ?_;refine Ad<|wpAny_dictFind_heap hu hkey c b h g m ?_ ?_
 ·intro i;let(j,p,f):=ht;exact absurd f<|i j p
 ·intro j p f;refine Ad<|Eb c b ?_;rw[entry_at h j,f];refine Ad<|wpAny_updateDictKeys (hz:=by have e:=Ks h;omega) c b<|Aw<|hQ j p f _ #[_,_,n+1,D6 _ c<|CL.isFreed_of_dict<|IB b _,r.mapDictKeys _,IB b _,?_,?_,?_]<|BF ..
  ·rw[<-erase_filter m f];obtain⟨l⟩:=q;subst h;rw[D5];rw[CT,CT,Bi,JM,JN]
  ·intro x t;exact knd.keeps (g x (Bl.mp t).1) c b<|BF ..
  ·exact D9 (DB _ Du) m
def rR(hrest:(xs.map (·.1)).Nodup):
  MeetsIn prog w (C3.«dict.pop» #[[.ref d,.ref a],[]]) (λA R s=>knd.room A.in1/\knd.is s.heap k a/\s.heap.DictOfH knd d xs/\(∃(j:Nat)(p:Ag×Ai),xs[j]?=U (k,p))/\xs.length<=sizeLine /\
   ∀(j:Nat)(p:Ag×Ai),xs[j]?=U (k,p)->∀h',h'.DictOfH knd d (xs.filter λx=>decide<|x.1≠k)->CP d s.heap h'->R (.ok<|.ret p.2) {s with heap:=h',toks:=s.toks+knd.draws k}):=
 .of_wp λA R s⟨v,b,c,m,z,h⟩=>by
  refine Ad ?_;refine Ad<|Jc c.typeIs ?_;refine Aw ?_;let(o,l,B,r,C,n,t,y,D):=id c;have u:l.isEmpty=An:=by
   let(j,p,g):=m;have e:=Ks t;have:=(Av.mp g).1;cases q:l.isEmpty with
   |false=>rfl
   |true=>rw[Array.isEmpty_iff_size_eq_zero]at q;omega
  refine Ad<|Eb r n ?_;refine Ad<|Aw ?_;simp only[u,C4,if_false];refine Ad<|lD v b c m z λj p g h' f i=>?_
  simp only[Option.isNone_some,C4,if_false];exact Ad (ES<|Aw #[_,Y,h j p g h' f i])
end
def KT.filter(r:KT H kvs xs)(k:LM):KT H (Rk kvs k) (xs.filter λx=>decide<|x.1≠k):=by
 induction r with
 |nil=>exact .nil
 |cons h1 h2 ih=>
   unfold Rk at *;rw[Dm,Dm,h1.1];split
   ·exact .cons h1 ih
   ·exact ih
def KT.there(r:KT H kvs xs)(k:LM)(h:Pu kvs k=U v):∃(j:Nat)(p:Ag×Ai),xs[j]?=U (k,p):=by
 induction r with
 |nil=>cases h
 |@cons p q _ _ h1 _ ih=>
   by_cases e:p.1=k
   ·exact#[0,q.2,by rw[List.getElem?_cons_zero,<-e,h1.1]]
   ·rw[SI e]at h;let(j,p,a):=ih h;exact#[j+1,p,by exact a]
def KT.at(r:KT H kvs xs)(nd:(xs.map (·.1)).Nodup)(h:Pu kvs k=U v):∀(j:Nat)(p:Ag×Ai),xs[j]?=U (k,p)->RelV v p.2:=by
 induction r with
 |nil=>intro j p e;simp at e
 |@cons p q ps qs h1 h2 ih=>
   rw[Az,Bc]at nd;intro j z e;cases j with
   |zero=>
     injection e with e;have a:p.1=k:=by rw[h1.1,e]
     rw[Uz a]at h;cases h;have:=h1.2.2;rw[e]at this;exact this
   |succ j=>
     have n:p.1≠k:=λa=>nd.1 (by rw[<-h1.1,a];exact AR.mpr #[_,AH e,Y])
     rw[SI n]at h;exact ih nd.2 h j z e
section
variable{X:Cx}{pins:Ly}{J:St}{H:Hp}{s:Au}{A:BQ}{E:Ai->Au->Prop}
def AgO(hu:A.units+1<Cd)(I:Inv X pins J H s)(e:H a=U (.dT kvs))(eb:H b=U (.tup<|k.map kV))(l:Pu kvs k=U v)(h:∀w' s',Inv X pins J (upd H a<|.dT<|Rk kvs k) s'->RelV v w'->Q w' s'):AW (A9 X.prog X.w) A (call (.builtin "dict.pop") [.ref a,.ref b]) Q E s:=by
 let(z,o,j0,d,g):=AfS I.N5 e;have i:=let#[_,_,_,_,_,_,_,_,q]:=g;q;refine Dd Cu g.typeIs EI (GR _ _) (rR i)
  #[Dc hu,VI I.N5 eb,g,KT.there d k l,by rw[<-AE d];exact z,λj p t F f D=>h _ _ ?_<|KT.at d i l j p t]
 let(q,B,r,m,u,C,x,_,y):=f;refine UB I (by rw[e];exact Bk) D #[q,m] #[AS (BB ..) z,o,_,(KT.filter d k).keeps λc G n=>?_,q,B,r,m,u,C,x,y];rw[NN<|Agg n e (λz=>nomatch z)];exact n
end
section
variable{X:Cx}{o e:Expr}{apos cpos:CU}{td ty:TE}
def Amv(a:Ag)(Q:VK):VK:=λy H2=>∃kvs k b v,H2 a=U (.dT kvs)/\y=.ref b/\H2 b=U (.tup<|k.map kV)/\Pu kvs k=U v/\Q v (upd H2 a<|.dT<|Rk kvs k)
def AjZ(ty:TE)(J:St)(Q:VK):VK:=λx H1=>∃a,x=.ref a/\Agw H1 a/\ty J H1 (Amv a Q)
def Ab5(hu:X.A.units+1<Cd)(ho:PE X o td)(he:PE X e ty)(m:M1 X o "pop" apos e cpos):PE X (.Call (.Attribute o "pop" apos) [e] [] cpos) (λJ H Q=>td J H<|AjZ ty J Q):=by
 intro c s J H Q I h;refine ET m.base m.bS m.line Dx Cu EN<|OG (ho c s J H _ I h) λu B⟨x,z,g,C,a,j,d,q⟩=>?_
 subst j;obtain rfl:u=Bz a:=C;let(w,i,_):=jM g d;refine#[w,i,?_];rw[m.trees];refine Cf Y<|Dh<|CB<|OG (he c B J z _ g q) λN K⟨y,L,r,D,n,k,b,v,F,E,t,l,G⟩=>DK ?_
 subst E;cases((D));exact AgO hu r F t l λj0 M p f=>#[v,_,p,f,G]
variable{K:Ab}{T:US}{t u:DE}{n:Nat}
def AjY(d e:D)(Q:QD)(S:NW):Prop:=∃a r km k x,d=.f (.ref a)/\S a=U (r,.m km)/\e=dZ k/\OB km k=U x/\Q x (NP S a (r,.m<|Wb km k))
abbrev Ajw(t u:DE):DE:=λF loc S Q=>t F loc S λd S1=>kC (Ai0 S1 d) (u F loc S1 λe S2=>AjY d e Q S2)
def uF(hr:N8 n X.A)(ho:PE X o (lf K T t))(he:PE X e (lf K T u))(m:M1 X o "pop" apos e cpos:=by exact#[Y,Y,Y,Y]):PE X (.Call (.Attribute o "pop" apos) [e] [] cpos) (lf K T<|Ajw t u):=(Ab5 (fK hr) ho he m).imp λJ H Q⟨F,g,S,Q',R,B,q,k⟩=>
 #[F,g,S,_,R,B,q,λd P H1 x C D s⟨G,I⟩=>by
  let(b,rfl,l):=rC D s G;refine#[b,Y,l,#[F,g,P,_,D,B.px C,I,λe Z H2 y E h V⟨a,r,u3,j,x,M,p,L,O,y0⟩=>?_]];subst M L;cases N1.mp s;let(f,j0,w):=h.st _ r _ p;let(c,rfl,W):=(h.one V).key (.head _);let(v,i,N):=Y8 w O;have z:=Px.set (r':=r) (o':=.m<|Wb u3 j) (u:=.dT<|Rk f j) h p;exact#[f,j,c,v,j0,Y,W,i,k _ _ _ _ ((C.trans E).trans z) (h.setM p<|jQ w) (N.px z) y0]]
end
def Px.walk{ob:CL}(e0:H b=U (.dK kvs)):Px F S H (b::F) S (upd H b<|.Rg ob<|.dK kvs):=#[.walk e0,λa _ _ o u e=>by
 rw[NN]
 ·exact e
 ·intro z;rw[z,e0]at e;cases e]
section
variable{X:Cx}{K:Ab}{T:US}{t:DE}{g:DG}{tb:DS}{pos apos cpos:CU}{l tg:Expr}{body:LY}
def Anj(xs:Lz)(P:Ag->Prop)(g:DG)(tb:DS)(D:qH)(loc:Lc)(S:NW):Prop:=∀a,P a->∃I:Nat->Lc->NW->Prop,I 0 loc S /\
 (∀i x loc S',xs[i]?=U x->I i loc S'->(S a=Ah->S' a=Ah)->g x loc S' λloc S=>tb [a] #[I<|i+1,D.rt,λ_ _=>False,I<|i+1] loc S)/\∀loc S,I xs.length loc S->D.nx loc S
def Anv(it:LI->Lz)(g:DG)(tb:DS)(F:Lv)(D:qH)(loc:Lc):QD:=λd S=>∃ks,F=[]/\((d=.d ks/\Anj (it ks) (λa=>S a=Ah) g tb D loc S)\/∃a r,d=.f (.ref a)/\S a=U (r,.d ks)/\Anj (it ks) (λb=>b=a) g tb D loc S)
abbrev Aax(it:LI->Lz)(t:DE)(g:DG)(tb:DS):DS:=λF D loc S=>t F loc S (Anv it g tb F D loc)
abbrev An8(ks:LI):Lz:=ks.map λp=>.f (kV p.1)
abbrev An7(ks:LI):Lz:=ks.map λp=>.t [.f<|kV p.1,p.2]
def AdO{it:LI->Lz}{D':qH}(R:Rp K T F H S [])(w:VD K F S H d v)(h:Anv it g tb F D' loc d S):∃ks a kvs,F=[]/\v=.ref a/\H a=U (.dK kvs)/\Paired (KD<|VD K F S H) ks kvs/\∃I:Nat->Lc->NW->Prop,I 0 loc S /\
  (∀i x loc S',(it ks)[i]?=U x->I i loc S'->(S a=Ah->S' a=Ah)->g x loc S' λloc S=>tb [a] #[I<|i+1,D'.rt,λ_ _=>False,I<|i+1] loc S)/\∀loc S,I (it ks).length loc S->D'.nx loc S:=by
 obtain⟨ks,rfl,⟨rfl,L⟩|⟨a,r,rfl,e,L⟩⟩:=h
 ·obtain⟨a,kvs,rfl,n,b|⟨z,_⟩,c⟩:=Aaa.mp w
  ·exact#[ks,a,kvs,Y,Y,b,c,L a n]
  ·cases z
 ·cases N1.mp w;let(kvs,b,c):=R.dk e nofun;exact#[ks,a,kvs,Y,Y,b,c,L a Y]
def Aj0{R:D->V->Prop}{ks:LI}{vs:LA}(h:Paired (KD R) ks vs){i:Nat}{kv:Key×V}(e:vs[i]?=U kv):∃p,ks[i]?=U p/\kv.1=p.1/\R p.2 kv.2:=by
 induction h generalizing i with
 |nil=>simp at e
 |@cons p q _ _ h1 _ ih=>
   cases i with
   |zero=>cases e;exact#[p,Y,h1.1,h1.2]
   |succ i=>exact ih e
def AcM{it:LI->Lz}{j0:Ag->CL->LA->It}{wi:TI}{NR:Hp}[hK:N3 X K NR][U1 X](hw:∀J H R,lf K T t J H (Anw j0 NR R)->wi J H R)(hi:PI X tg l wi)(hg:PG X tg (rK K T g))(hb:Q6 X body (RD K T tb))(hs:∀x,BC l X.env x=pure x)(hl:∀ks,(it ks).length=ks.length)(run:∀{a:Ag}{ob:CL}{kvs:LA}{J:St}{H:Hp}{E:Ends}(Pv:Nat->St->Hp->Prop),Pv 0 J H->(∀i J H,i<=kvs.length->Pv i J H->H a=U (.Rg ob<|.dK kvs)) ->
   (∀i kv J H v H',kvs[i]?=U kv->Pv i J H->(∀(S:NW)(F:Lv)(d:D),Rp K T F H S []->VD K F S H d kv.2->∃x,(∀ks:LI,ks[i]?=U (kv.1,d)->(it ks)[i]?=U x)/\Rp K T F H' S []/\VD K F S H' x v/\Px F S H F S H')->rK K T g v J H' (RD K T tb<|Aay (Pv<|i+1) E) )->(∀J H,Pv kvs.length J H->E.nx J H)->kFor (rK K T g) (RD K T tb) E J (j0 a ob kvs) H):
  PS X (.For tg l body [] pos) (RD K T<|Aax it t g tb):=by
 refine(Ae9<|Qr hi hg hb hs).imp λE J H⟨F,s,S,D',R,lo,q,k⟩=>#[Y,hw _ _ _ #[F,s,S,_,R,lo,q,λd B u3 v p R1 w h=>?_]]
 let(ks,a,kvs,rfl,rfl,h1,h2,I,h0,aa,hd):=AdO R1 w h;refine#[a,kvs,Y,h1,λob nf=>?_];have p0:Px [] B u3 [a] B (upd u3 a<|.Rg ob<|.dK kvs):=Px.walk h1;have R2:Rp K T [a] (upd u3 a<|.Rg ob<|.dK kvs) B []:=R1.walk h1;have af:=(lo.px p).px p0;generalize hH2:upd u3 a (.Rg ob<|.dK kvs)=W at *;have z2:W a=U (.Rg ob<|.dK kvs):=by rw[<-hH2];exact NQ
 have ad:=Paired.imp' (λ_ _=>KD.imp λ_ _=>VD.px p0) h2;have C:∀{f:NW}{j:Hp},Px [a] B W [a] f j->j a=U (.Rg ob<|.dK kvs):=λc=>c.z a (.head _) (.head _) _ _ z2
 have u:∀{f:NW}{j:Hp},Px [a] B W [a] f j->Rp K T [a] j f []->Rp K T [] (upd j a<|.dK kvs) f []/\Pe [a] f j [] f (upd j a<|.dK kvs)/\Px [] S H [] f (upd j a<|.dK kvs):=λ{f j}c G=>
  #[G.rest<|C c,Pe.rest<|C c,#[((p.toPe.trans p0.toPe).trans c.toPe).trans (Pe.rest<|C c),λb m=>nomatch m]]
 let Pv:Nat->St->Hp->Prop:=λi J H=>∃s S,Rp K T [a] H S []/\Lo K [a] S H s J/\I i s S/\Px [a] B W [a] S H
 refine run Pv #[s,B,R2,af,h0,.refl] (λi J H _⟨_,_,_,_,_,c⟩=>C c) ?_ ?_
 ·rintro i kv ag j v H4 ae⟨o,f,G,A,V,c⟩mk;let((k0,d0),ab,e1,wd):=Aj0 ad ae;let(x,hx,R4,wx,P):=mk f [a] d0 G<|wd.px c;have e1:kv.1=k0:=e1;have hx:=hx ks (by rw[e1];exact ab);refine#[[a],o,f,x,_,R4,A.px P,wx,aa i x o f hx V (λn=>?_),λN S5 H5 ai y0 R5 ac q5=>#[[a],N,S5,_,R5,ac,q5,λr Q H6 ah L O y M=>#[r,Q,O,y,M,((c.trans P).trans y0).trans L],λd6 Q H6 v6 L O w6 M=>?_,λ_ _ _ _ _ _ _ h=>h.elim,λr Q H6 ah L O y M=>#[r,Q,O,y,M,((c.trans P).trans y0).trans L]]]
  ·exact(c.d a kvs n<|.inr #[.head _,ob,z2]).1
  ·have pp:=((c.trans P).trans y0).trans L;let(R7,Z,p8):=u pp O;exact#[a,ob,kvs,C pp,nf,k.rt _ _ _ _ p8 R7 (w6.pe Z) M]
 ·rintro ag j⟨o,f,G,A,V,c⟩;let(R7,Z,p8):=u c G;rw[<-AE h2,<-hl ks]at V;exact#[a,ob,kvs,C c,nf,k.nx _ _ _ _ p8 R7 (Paired.imp' (λ_ _ q d e=>let⟨v,z,w⟩:=q d e;#[v,z,w.pe Z]) A)<|hd _ _ V]
def sN{NR:Hp}[hK:N3 X K NR][U1 X](hl:PE X l (lf K T t))(hg:PG X tg (rK K T g))(hb:Q6 X body (RD K T tb))(hs:∀x,BC l X.env x=pure x:=by intro _;rfl):PS X (.For tg l body [] pos) (RD K T<|Aax An8 t g tb):=AcM (j0:=AiK) (λ_ _ _ h=>h) (AeY hl) hg hb hs (λr=>Ac ..) λ{a s k J H E}o q n b j=>AaQ o q n (λi c J H e p=>b i c J H (kV c.1) H e p λS F d R _=>#[.f<|kV c.1,λr m=>by rw[Aj,m];rfl,R,.f,.refl]) j
def AcL{NR:Hp}[hK:N3 X K NR][U1 X]{es:LJ}{x1:Nat}{tpos:CU}(hl:PE X l (lf K T t))(hg:PG X (.Tuple es x1 tpos) (rK K T g))(hb:Q6 X body (RD K T tb))(hbase:Co l "items" X.env (eval l X.env)=eval l X.env:=by rfl)(hline:(apos.endLine==cpos.line)=Af:=by rfl)(hs:∀x,BC (.Call (.Attribute l "items" apos) [] [] cpos) X.env x=pure x:=by intro _;rfl):PS X (.For (.Tuple es x1 tpos) (.Call (.Attribute l "items" apos) [] [] cpos) body [] pos) (RD K T<|Aax An7 t g tb):=AcM (j0:=AiJ) (λ_ _ _ h=>h) (Ach hl hbase hline) hg hb hs (λv=>Ac ..) λ{a z o J H E}s u r c m=>xC s u r (λi b y J H e p k=>c i b J H (.ref y) _ e p λS F d R w=>by
  have j:=R.yD (ds:=[.f<|kV b.1,d]) (vs:=[kV b.1,b.2]) k<|.cons .f<|.cons w .nil;exact#[.t [.f<|kV b.1,d],λv q=>by rw[Aj,q];rfl,j.nil,j.hd,Px.Py ((NV.refl H).upd k).n]) m
end
section
variable{F:Lv}{S:NW}{Q:QD}{C:WC}{i:Nat}{A:WR->Ag}{w w':PR}{N:NW->Prop}
def Ob.AmK(wd:Ob C i A w S)(w':PR)(e1:w'.Hs=w.Hs/\w'.Ts=w.Ts/\w'.away=w.away/\w'.hints=w.hints/\w'.OF=w.OF/\w'.Ms=w.Ms/\w'.VL=w.VL:=by exact#[Y,Y,Y,Y,Y,Y,Y]):Ob C i A w' (NP S (A .uw) (.wd i .uw,.d<|w'.Ls.map λL=>(.inl L.num,qC C.L L))):=by let(Hs,Ts,b,e,c,Ls,Ms,a):=w;let(rfl,rfl,rfl,rfl,rfl,rfl,rfl):=e1;exact wd.upd .uw Y Y λx h=>by cases x<;>first|rfl|exact(h Y).elim
def Ob.AmJ(wd:Ob C i A w S)(l:List tP):Ob C i A {w with VL:=l} (NP S (A .Abt) (.wd i .Abt,.m<|l.map λe=>(V1 e.1,OK e.2))):=wd.upd _ Y Y λx h=>by cases x<;>first|rfl|exact(h Y).elim
def Ob.Ai9(wd:Ob C i A w S)(l:Lw):Ob C i A {w with away:=l} (NP S (A .RC) (.wd i .RC,.d<|PM l)):=wd.upd _ Y Y λx h=>by cases x<;>first|rfl|exact(h Y).elim
def Ob.hint(wd:Ob C i A w S)(l:LK):Ob C i A {w with hints:=l} (NP S (A .kept) (.wd i .kept,.m<|l.map λe=>(OM e.1,OK e.2))):=wd.upd _ Y Y λx h=>by cases x<;>first|rfl|exact(h Y).elim
def wG{a:Ag}{r:Rl}{y e:D}{ks:LI}(hS:S a=U (r,.d ks))(nF:a∉F)(hl:ks.length<100000)(k:rH e λq=>N<|NP S a (r,.d<|putD ks q y)):Aa2 F y (.f<|.ref a) e N S:=#[a,r,Y,.inl #[ks,hS,nF,hl,k]]
def Ak8{a:Ag}{r:Rl}{y:D}{kk:LM}{km:L8}(hS:S a=U (r,.m km))(hl:km.length<100000)(k:N (NP S a (r,.m<|putD km kk y))):Aa2 F y (.f<|.ref a) (dZ kk) N S:=#[a,r,Y,.inr #[km,kk,hS,hl,Y,k]]
def zG{d e:D}{ks:LI}(h:QH S d (.d ks))(k:rH e λq=>∃x,OB ks q=U x/\Q x S):AlO d e F S Q:=.inl #[ks,h,k]
def Aac{d e:D}{ks:LI}{n:Bool}(h:QH S d (.d ks))(k:rH e λq=>Q (.f<|.bl (if n then !(OB ks q).isSome else(OB ks q).isSome)) S):Ajq n e d F S Q:=.inl #[ks,h,k]
def Als{d e z:D}{ks:LI}(h:QH S d (.d ks))(k:rH e λq=>Q ((OB ks q).getD z) S):AiR d e z Q S:=.inl #[ks,h,k]
def Adj{d z:D}{kk:LM}{km:L8}(h:QH S d (.m km))(k:Q ((OB km kk).getD z) S):AiR d (dZ kk) z Q S:=.inr #[km,kk,h,Y,k]
def AoI{a:Ag}{r:Rl}{e:D}{ks:LI}(hS:S a=U (r,.d ks))(nF:a∉F)(k:rH e λq=>∃x,OB ks q=U x/\Q x (NP S a (r,.d<|Wb ks q))):AnA F (.f<|.ref a) e Q S:=#[a,r,ks,Y,hS,nF,k]
def Se{P:Key->Prop}{z:AA}(h:P (.inr z)):rH (.f<|.str z) P:=h
def AnJ{P:Key->Prop}{z:Int}(h:P (.inl z)):rH (.f<|.int z) P:=h
def Ol{c:Bool}{A B:Prop}(h:c=Af)(k:A):QT c A B:=by subst h;exact k
def Oa{c:Bool}{A B:Prop}(h:c=An)(k:B):QT c A B:=by subst h;exact k
end
def lN{Ls:Mh}{C:Ag}{L:Lt}(nd:(Ls.map λL=>(.inl L.num:Key)).Nodup)(h:L∈Ls):OB (Ls.map λL=>((.inl L.num:Key),qC C L)) (.inl L.num)=U (qC C L):=by
 rw[P0 (g:=λL:Lt=>(.inl L.num:Key)) (c:=qC C)];induction Ls with
 |nil=>cases h
 |cons x xs ih=>
   rw[Az,Bc]at nd;rcases AB.mp h with rfl|h
   ·rw[A7,Ap Y];rfl
   ·rw[A7,Ar λz=>nd.1 (by rw[z];exact A8 (f:=λL:Lt=>(.inl L.num:Key)) h)];exact ih nd.2 h
def Pg(w:PR)(n:Int):PR:={w with Ls:=w.Ls.filter λL=>decide ((.inl L.num:Key)≠.inl n)}
def AgP(Ls:Mh)(C:Ag)(n:Int):Wb (Ls.map λL=>((.inl L.num:Key),qC C L)) (.inl n)=(Ls.filter λL=>decide<|(.inl L.num:Key)≠.inl n).map λL=>((.inl L.num:Key),qC C L):=iN Ls _
def AiU(L:Lt):D:=.t [.f<|.int L.num,.f<|.str L.Pd,.f<|oI L.ask,.f<|.str L.PJ,.f<|.int L.key]
section
variable{F:Lv}{xs:Lz}{src:LC}{n:Nat}{tt:DT}{te:DE}{loc:Lc}{S1:NW}{p:Ag}{keep:NW->Prop}{Q:QD}
def Ani{α:Type}(us:List α)(c f:α->D)(b:α->Bool)(hk:∀ys,keep<|NP S1 p (.own 0,.l ys))(hl:us.length<100000)(hb:∀u∈us,∀(ys:Lz)(B:Bool->NW->Prop),B (b u) (NP S1 p (.own 0,.l ys))->tt F (zU (U8 src loc) n<|c u) (NP S1 p (.own 0,.l ys)) B)(hf:∀u∈us,b u=Af->∀(ys:Lz)(Q':QD),Q' (f u) (NP S1 p (.own 0,.l ys))->te F (zU (U8 src loc) n<|c u) (NP S1 p (.own 0,.l ys)) Q')(k:fz Q (.f<|.ref p) (NP S1 p (.own 0,.l<|(us.filter b).map f)))(hx:xs=us.map c:=by first|rfl|(simp only[AO];rfl)):AfJ F xs src n tt te loc S1 p keep Q:=by
 subst hx;refine AfJ.mk (λi ys S=>ys=((us.take i).filter b).map f/\S=NP S1 p (.own 0,.l ys)) #[Y,Y] (λi ys S h=>by rw[h.2];exact hk ys) ?_ ?_
 ·rintro i x ys S hx⟨rfl,rfl⟩;rw[Aj]at hx;let(u,g,rfl):=AF.mp hx;have a:us.take (i+1)=us.take i++[u]:=by rw[BP,g];rfl
  have j:(((us.take i).filter b).map f).length<100000:=by rw[Ac];exact BI (AS (BB ..) (by rw[Bt];exact Jq ..)) hl
  have d:=AH g;refine hb u d _ _ ?_;cases e:b u with
  |true=>exact hf u d e _ _ #[.own 0,NO,j,by rw[a,CF,CV e,Bi];rfl,U9]
  |false=>exact#[by rw[a,CF,DH (by rw[e];exact AQ),Gu,B7],Y]
 ·rintro ys S⟨rfl,rfl⟩;rw[Ac,BA];exact k
def Adk{α:Type}(us:List α)(c f:α->D)(hp:S1 p=Ah)(hk:∀ys,keep<|NP S1 p (.own 0,.l ys))(hl:us.length<100000)(hf:∀u∈us,∀(ys:Lz)(Q':QD),Q' (f u) (NP S1 p (.own 0,.l ys))->te F (zU (U8 src loc) n<|c u) (NP S1 p (.own 0,.l ys)) Q')(k:Q (.l<|us.map f) S1)(hx:xs=us.map c:=by first|rfl|(simp only[AO];rfl)):AfJ F xs src n (λ_ _ S Q=>Q Af S) te loc S1 p keep Q:=Ani us c f (λ_=>Af) hk hl (λx _ ys B h=>h) (λx hx _=>hf x hx) (iY NO (by rw[RV hp,BW.mpr λ_ _=>rfl];exact k)) hx
end
def Ob.lE(wd:Ob C i A w S)(n:S a=Ah):Ob C i A w (NP S a x):=wd.new n
section
variable{C:WC}{i:Nat}{A:WR->Ag}{w:PR}{S:NW}{T:Sf}
def bQ(tok:YY w.Ts)(hT:T∈w.Ts):OB (w.Ts.map λT=>((.inl T.key:Key),D.f<|.ref<|A<|.OX T.key)) (.inl T.key)=U (.f<|.ref<|A<|.OX T.key):=by rw[P0];have:=XO tok hT;unfold PH at this;rw[show(w.Ts.find? λx=>decide _)=w.Ts.find? λx=>decide _ from congrArg (λf=>w.Ts.find? f) (funext λx=>D3.mpr #[λe=>by injection e,λe=>by rw[e]]),this];rfl
def Ob.qG(wd:Ob C i A w S)(tok:YY w.Ts)(hT:T∈w.Ts):S (A<|.OX T.key)=U (.wd i<|.OX T.key,qF C.T (A<|.Zh T.key) T):=wd _ _ (by show(PH w _).map _=_;rw[XO tok hT];rfl)
def Ob.Zh(wd:Ob C i A w S)(tok:YY w.Ts)(hT:T∈w.Ts):S (A<|.Zh T.key)=U (.wd i<|.Zh T.key,.d<|VT T.sh):=wd _ _ (by show(PH w _).map _=_;rw[XO tok hT];rfl)
def Aft(l:LL):(VT l).map (λp=>D.f<|kV p.1)=l.map λe=>.f (.str e.1):=by unfold VT;rw[AO];rfl
def bE(tok:YY w.Ts)(hT:T∈w.Ts)(sh':LL)(k:Int):PH {w with Ts:=UZ w.Ts {T with sh:=sh'}} k=if k=T.key then U {T with sh:=sh'}else PH w k:=by
 have a:=XO tok hT;unfold PH UZ at *;generalize w.Ts=Ts at *;clear tok hT;induction Ts with
 |nil=>cases a
 |cons x xs ih=>
   rw[Az,A7];rw[A7]at a ⊢;by_cases e:x.key=T.key
   ·rw[AG<|by rw[e]];rw[Ap e]at a;cases a;by_cases b:k=T.key
    ·subst b;rw[AG Y,Ap Y]
    ·rw[Ay b,Ar λz:T.key=k=>b z.symm];clear ih;induction xs with
     |nil=>rfl
     |cons y ys ih2=>
       rw[Az,A7,A7];by_cases d:y.key=T.key
       ·rw[AG (by rw[d]),Ar (λz:T.key=k=>b z.symm),Ar λz:y.key=k=>b<|z.symm.trans d];exact ih2
       ·rw[Ay λz=>d (by injection z)];cases decide (y.key=k)with
        |true=>rfl
        |false=>exact ih2
   ·rw[Ar e]at a;rw[Ay λz=>e (by injection z)];by_cases c:x.key=k
    ·rw[Ap c,Ay λz=>e<|c.trans z]
    ·rw[Ar c];exact ih a
def xS(Ts:LZ)(T:Sf)(g:Int->D):(UZ Ts T).map (λT=>((.inl T.key:Key),g T.key))=Ts.map λT=>(.inl T.key,g T.key):=by
 unfold UZ;rw[AO];refine Bp λx _=>?_
 show((.inl (if(C5 _:Key)=.inl _ then T else x).key:Key),g (if(C5 _:Key)=.inl _ then T else x).key)=_;split
 ·rename_i h;injection h with h;rw[h]
 ·rfl
def Ob.AmZ(wd:Ob C i A w S)(tok:YY w.Ts)(hT:T∈w.Ts)(sh':LL):Ob C i A {w with Ts:=UZ w.Ts {T with sh:=sh'}} (NP S (A<|.Zh T.key) (.wd i<|.Zh T.key,.d<|VT sh')):=by
 refine wd.upd (.Zh T.key) (ov:=.d<|VT T.sh) (by show(PH w T.key).map _=_;rw[XO tok hT];rfl) (by show(PH _ T.key).map _=_;rw[bE tok hT,AG Y];rfl) λx h=>?_
 cases x with
 |decl=>exact congrArg (λl=>U<|O.d l)<|xS w.Ts _ λk=>.f<|.ref<|A<|.OX k
 |OX k=>
   show(PH _ k).map _=(PH w k).map _;rw[bE tok hT];split
   ·rename_i e;subst e;rw[XO tok hT];rfl
   ·rfl
 |Zh k=>show(PH _ k).map _=(PH w k).map _;rw[bE tok hT,Ay λe=>h (by rw[e])]
 |_=>rfl
end
def sV(A:WR->Ag)(n:Nat)(a h:Ag):WR->Ag
 |.ask m=>if m=n then a else A (.ask m)
 |.NX m=>if m=n then h else A (.NX m)
 |x=>A x
section
variable{C:WC}{i:Nat}{A:WR->Ag}{w:PR}{S:NW}
def Ob.Aht(wd:Ob C i A w S)(B:Ak)(a h:Ag)(ha:S a=Ah)(hh:S h=Ah)(n:a≠h):
  Ob C i (sV A w.Ms.length a h) {w with Ms:=w.Ms++[B]} (NP (NP (NP S h (.wd i<|.NX w.Ms.length,.d<|PM B.NX)) a (.wd i<|.ask w.Ms.length,Aal C.A h B)) (A .begun) (.wd i .begun,.l<|(Ba w.Ms.length).map (λn=>D.f<|.ref<|A<|.ask n)++[.f<|.ref a])):=by
 intro x o e;have b:∀y,Sm C A w y=U o->sV A w.Ms.length a h y=A y->y≠.begun->NP (NP (NP S h (.wd i<|.NX w.Ms.length,.d<|PM B.NX)) a (.wd i<|.ask w.Ms.length,Aal C.A h B)) _ (.wd i .begun,.l<|(Ba w.Ms.length).map (λn=>D.f<|.ref<|A<|.ask n)++[.f<|.ref a]) (sV A _ a h y)=U _:=λy k r t=>by
  have q:=wd y o k;rw[r,NJ<|wd.ne k (show Sm C A w _=U _ from Y) t,NJ (λz=>by rw[z,ha]at q;cases q),NJ λz=>by rw[z,hh]at q;cases q];exact q
 have c:=wd .begun _ Y;have s:a≠A _:=λz=>by rw[<-z,ha]at c;cases c
 have g:h≠A _:=λz=>by rw[<-z,hh]at c;cases c
 cases x with
 |begun=>
   show NP _ _ _ (A _)=_;rw[NO];refine congrArg (λl=>U (Rl.wd i _,O.l l)) ?_ |>.trans (congrArg U (congrArg _ (AK e)));rw[AM,Bh,Js,Bi]
   congr 1
   ·refine Bp λm p=>?_
    have:=Bg<|B6.mp p;show _=D.f (.ref (if m=w.Ms.length then a else A _));rw[Ay this]
   ·show[D.f _]=[D.f<|.ref (if w.Ms.length=w.Ms.length then a else _)];rw[AG Y]
 |ask m=>
   have e:((w.Ms++[B])[m]?).map _=U o:=e;by_cases z:m=w.Ms.length
   ·subst z;rw[Dj<|Ao _,Ko]at e;injection e with e;subst e;show NP _ _ _ (if w.Ms.length=w.Ms.length then a else _)=U (_,Aal C.A (if w.Ms.length=w.Ms.length then h else _) B);rw[AG Y,AG Y,NJ s,NO]
   ·refine b _ ?_ (Ay z) nofun;rw[<-e];show w.Ms[m]?.map _=((w.Ms++[B])[m]?).map (Aal C.A (if m=w.Ms.length then h else A _));rw[Ay z];by_cases j:m<w.Ms.length
    ·rw[Dr j]
    ·rw[Bx M6,Bx (by rw[AM,Bh];omega)]
 |NX m=>
   have e:((w.Ms++[B])[m]?).map (λB=>O.d _)=U o:=e;by_cases z:m=w.Ms.length
   ·subst z;rw[Dj<|Ao _,Ko]at e;injection e with e;subst e;show NP _ _ _ (if w.Ms.length=w.Ms.length then h else _)=_;rw[AG Y,NJ g,NJ<|Ax n,NO]
   ·refine b _ ?_ (Ay z) nofun;rw[<-e];show w.Ms[m]?.map _=((w.Ms++[B])[m]?).map _;by_cases j:m<w.Ms.length
    ·rw[Dr j]
    ·rw[Bx M6,Bx (by rw[AM,Bh];omega)]
 |_=>exact b _ e Y nofun
def Ob.Aja(wd:Ob C i A w S){n:Nat}{B B':Ak}(hB:w.Ms[n]?=U B):Ob C i A {w with Ms:=w.Ms.set n B'} (NP (NP S (A<|.NX n) (.wd i<|.NX n,.d<|PM B'.NX)) (A<|.ask n) (.wd i<|.ask n,Aal C.A (A<|.NX n) B')):=by
 have a:=(Av.mp hB).1;have e:A (.ask n)≠A (.NX n):=wd.ne (show Sm C A w (.ask n)=U _ by show w.Ms[n]?.map _=_;rw[hB];rfl) (show Sm C A w (.NX n)=U _ by show w.Ms[n]?.map _=_;rw[hB];rfl) nofun;have c:Ob C i A {w with Ms:=w.Ms.set n {B with NX:=B'.NX}} (NP S (A<|.NX n) (.wd i<|.NX n,.d<|PM B'.NX)):=by
  refine wd.upd (.NX n) (ov:=.d<|PM B.NX) (by show w.Ms[n]?.map _=_;rw[hB];rfl) (by show((w.Ms.set n _)[n]?).map _=_;rw[BU a];rfl) λx h=>?_
  cases x with
  |begun=>show U (O.l<|(Ba (w.Ms.set n _).length).map _)=_;rw[CM];rfl
  |ask m=>
    show((w.Ms.set n _)[m]?).map _=(w.Ms[m]?).map _;by_cases z:n=m
    ·subst z;rw[BU a,hB];rfl
    ·rw[Cn z]
  |NX m=>show((w.Ms.set n _)[m]?).map _=(w.Ms[m]?).map _;rw[Cn λz=>h (by rw[z])]
  |_=>rfl
 have b:(w.Ms.set n {B with NX:=B'.NX})[n]?=U {B with NX:=B'.NX}:=BU a;have:({w with Ms:=w.Ms.set n B'}:PR)={w with Ms:=(w.Ms.set n {B with NX:=B'.NX}).set n B'}:=by rw[List.set_set]
 rw[this];refine Ob.upd (w:={w with Ms:=w.Ms.set n {B with NX:=B'.NX}}) (w':={w with Ms:=(w.Ms.set n {B with NX:=B'.NX}).set n B'}) c (.ask n) (ov:=Aal C.A (A<|.NX n) {B with NX:=B'.NX}) (by show((w.Ms.set n _)[n]?).map _=_;rw[b];rfl) (by show(((w.Ms.set n _).set n B')[n]?).map _=_;rw[BU (by rw[CM];exact a)];rfl) λx h=>?_
 cases x with
 |begun=>show U (O.l<|(Ba ((w.Ms.set n _).set n B').length).map _)=U (O.l<|(Ba (w.Ms.set n _).length).map _);rw[CM]
 |ask m=>show(((w.Ms.set n _).set n B')[m]?).map _=((w.Ms.set n _)[m]?).map _;rw[Cn λz=>h (by rw[z])]
 |NX m=>
   show(((w.Ms.set n _).set n B')[m]?).map _=((w.Ms.set n _)[m]?).map _;by_cases z:n=m
   ·subst z;rw[BU (by rw[CM];exact a),b];rfl
   ·rw[Cn z]
 |_=>rfl
end
section
variable{K:Ab}{F:Lv}{S:NW}{H:Hp}
def Ana(h:V6 K F S H [d,e,g] vs):∃v w x,vs=[v,w,x]/\VD K F S H d v/\VD K F S H e w/\VD K F S H g x:=by
 cases h with
 |cons a b=>let(w,x,rfl,f,c):=Adf b;exact#[_,_,_,Y,a,f,c]
def Ag4{ns:LD}(h:V6 K F S H (ns.map λz:Int=>.f<|.int z) vs):vs=ns.map V.int:=by
 induction ns generalizing vs with
 |nil=>cases h;rfl
 |cons n ns ih=>
   cases h with
   |cons a b=>rw[Az,N1.mp a,ih b]
def Ag2{Hs:Q5}{kp:LA}(h:Paired (KD<|VD K F S H) (Hs.map λe=>((.inr e.1:Key),D.t<|e.2.map λn=>.f<|.int n)) kp):tN K H Hs kp:=by
 induction Hs generalizing kp with
 |nil=>cases h;exact Bk
 |cons e Hs ih=>
   cases h with
   |@cons p q _ _ h1 h2=>let(a,g,d,c,b):=TC.mp h1.2;refine#[h1.1.symm,?_,ih h2];exact#[a,g,d,P5.of c,by rw[Ag4 b];exact AcJ]
def AaW{Hs:Q5}(w:VD K [] S H (YN Hs) v):∃p kp,v=.ref p/\H p=U (.dK kp)/\tN K H Hs kp:=by
 obtain⟨p,kp,rfl,_,a|⟨z,_⟩,b⟩:=Aaa.mp w
 ·exact#[p,kp,Y,a,Ag2 b]
 ·cases z
def lO{ms:Lw}(n:S l=Ah)(h:H l=U (.lst<|ms.map V.str)):VD K F S H (.l<|ms.map λz=>.f<|.str z) (.ref l):=Aab.mpr #[l,_,Y,.inl #[n,.inl h],Xc ms]
end
def AfD(Hs:Q5)(z:AA):(OB (Hs.map λe=>((.inr e.1:Key),D.t<|e.2.map λn=>.f<|.int n))<|.inr z).isSome=decide (z∈Hs.map (·.1)):=by
 rw[P0,C7];rw[BM,F3,Br];refine#[λ⟨x,a,e⟩=>?_,λh=>?_]
 ·have e:=B2 e;injection e with e;exact e▸A8 a
 ·let(x,a,e):=AR.mp h;exact#[x,a,Ap<|by rw[e]]
def AfE{l:LL}(m:z∈l.map (·.1)):OB (VT l) (.inr z)=U (OK<|Ru l z):=by
 have h:=Ade l z;rw[Ap m]at h;have g:=lM l z;cases e:OB (VT l) _ with
 |none=>rw[e]at h;cases h
 |some d=>rw[e]at g;exact congrArg U g
def AcA(l:LL)(z:AA)(E:OU):putD (VT l) (.inr z) (OK E)=VT (P2 (λe=>(.inr e.1:Key)) l (z,E)):=SS l (z,E)
def zP{Ts:LZ}{T:Sf}(tok:YY Ts)(hT:T∈Ts):UZ Ts T=Ts:=by
 unfold UZ;have a:=tok.nd;clear tok;induction Ts with
 |nil=>rfl
 |cons x xs ih=>
   rw[Az,Bc]at a;rw[Az];rcases AB.mp hT with rfl|hT
   ·rw[AG Y]
    congr 1
    refine(Bp λy b=>?_).trans (Fl _);rw[Ay λe=>a.1 (by rw[<-e];exact A8 b)];rfl
   ·rw[Ay (λe=>a.1 (by rw[e];exact A8 hT)),ih hT a.2]
abbrev Pp(E:OU):LI:=E.map λe=>(.inr e.1,Rn e.2)
def Rc(E:OU)(n:AA):OB (Pp E) (.inr n)=(look E n).map Rn:=by unfold look;rw[P0,Option.map_map];rw[show(E.find? λx=>decide _)=E.find? λx=>decide _ from congrArg (λf=>E.find? f) (funext λx=>D3.mpr #[λe=>by injection e,λe=>by rw[e]])];rfl
def UO(E:OU)(n:AA)(x:Ent):putD (Pp E) (.inr n) (Rn x)=Pp (RG E n x):=by
 rw[SS E (n,x)];unfold P2 RG;have e:∀y:AA×Ent,((.inr y.1:Key)=.inr n)=(y.1=n):=λy=>propext #[λe=>by injection e,λe=>by rw[e]]
 simp only[e];split
 ·refine congrArg Pp (Bp λy _=>?_);split
  ·rename_i h;rw[h]
  ·rfl
 ·rfl
def join_snoc(E G:OU)(f:AA×Ent):Og E (G++[f])=RG (Og E G) f.1 (bB (look (Og E G) f.1) f.2):=by unfold Og;rw[Ja];rfl
def Z2(E:OU):OU:=E.foldl (λA f=>RG A f.1 (f.2.1,Ah)) []
def oN(G:OU)(f:AA×Ent):Z2 (G++[f])=RG (Z2 G) f.1 (f.2.1,Ah):=by unfold Z2;rw[Ja];rfl
def eJ(E:OU)(n v:AA):OU:=RG (Z2 E) n (mH E n+1,U v)
def oU(E:OU)(n:AA)(x:Ent):(RG E n x).length<=E.length+1:=by
 unfold RG;split
 ·rw[Ac];omega
 ·rw[AM];exact Ao _
def fO(E G:OU):(Og E G).length<=E.length+G.length:=by
 unfold Og;induction G generalizing E with
 |nil=>exact Ao _
 |cons f G ih=>rw[Jt,AI];have a:=ih<|RG E f.1<|bB (look E f.1) f.2;have b:=oU E f.1<|bB (look E f.1) f.2;omega
def Zb(E:OU):(Z2 E).length<=E.length:=by
 have:∀(A:OU),(E.foldl (λA f=>RG A f.1 (f.2.1,Ah)) A).length<=A.length+E.length:=by
  induction E with
  |nil=>intro A;exact Ao _
  |cons f E ih=>intro A;rw[Jt,AI];have a:=ih<|RG A f.1 (f.2.1,Ah);have b:=oU A f.1 (f.2.1,Ah);omega
 have:=this [];rw[CN,Em]at this;exact this
def XD(o:Mc):AbH (.f<|YQ o)=o.isNone:=by cases o<;>rfl
section
variable{C:WC}{i:Nat}{A:WR->Ag}{w:PR}{S:NW}
def Ob.Aaq(wd:Ob C i A w S){n:Nat}{B:Ak}(h:w.Ms[n]?=U B):S (A<|.ask n)=U (.wd i<|.ask n,Aal C.A (A<|.NX n) B):=wd _ _ (by show w.Ms[n]?.map _=_;rw[h];rfl)
def Ob.Al5(wd:Ob C i A w S){n:Nat}{B:Ak}(h:w.Ms[n]?=U B):S (A<|.NX n)=U (.wd i<|.NX n,.d<|PM B.NX):=wd _ _ (by show w.Ms[n]?.map _=_;rw[h];rfl)
def Ob.AnV(wd:Ob C i A w S){n:Nat}{B:Ak}(h:w.Ms[n]?=U B):A (.ask n)≠A (.NX n):=bD (wd.Aaq h) (wd.Al5 h) nofun
def Qe(n:a≠b):NP (NP (NP S a x) b y) a z=NP (NP S b y) a z:=by
 funext c
 unfold NP;split
 ·rfl
 ·split
  ·rfl
  ·rfl
def vE(l:Lw)(z:AA)(h:z∉l):putD (PM l) (.inr z) (.f<|.bl Af)=PM (l++[z]):=by unfold PM;rw[SS l z,WE];intro m;let(x,a,e):=AR.mp m;injection e with e;exact h (e▸a)
def kW(l:Lw):(PM l).length=l.length:=Ac ..
end
def UW(e:QU):D:=.t [.f<|.str e.1.1,.f<|.str e.1.2.1,.f<|.int e.1.2.2,OK e.2]
def Pt(hs:LK):LK:=(TB<|hs.map λe=>OM e.1).filterMap λi=>hs[i]?
def UQ(hs:LK):AcW (hs.map λe=>OM e.1)=(Pt hs).map λe=>OM e.1:=by
 unfold AcW Pt;have h:∀i∈TB (hs.map λe=>OM e.1),i<hs.length:=λi a=>by
  have:=(SF _).mem_iff.mp a;rw[Ac]at this;exact B6.mp this
 generalize TB _=is at *;induction is with
 |nil=>rfl
 |cons i is ih=>have a:=h i<|.head _;rw[Az,Dv,ih λj b=>h j<|.tail _ b];rw[Bs,Aj,Ae a];rfl
def QQ{hs:LK}{e:QU}(h:e∈Pt hs):e∈hs:=by let(i,_,a):=FH.mp h;exact AH a
def OZ(hs:LK):(Pt hs).Perm hs:=by
 have p:=SF<|hs.map λe=>OM e.1
 rw[Ac]at p;refine(p.filterMap _).trans ?_;have:(Ba hs.length).filterMap (λi=>hs[i]?)=hs:=by
  apply DW;intro j;have e:∀(l:LP),(∀i∈l,i<hs.length)->l.filterMap (λi=>hs[i]?)=l.map λi=>(hs[i]?).getD ((((""),(""),(0)),([])):QU):=by
   intro l;induction l with
   |nil=>intro _;rfl
   |cons x xs ih=>intro h;rw[Dv,Ae<|h x<|.head _,Az,ih λi a=>h i<|.tail _ a,Ae _];rfl
  rw[e _ λi a=>B6.mp a,Aj];by_cases b:j<hs.length
  ·rw[Eh b];show U ((hs[j]?).getD _)=_;rw[Ae b];rfl
  ·rw[Bx (by rw[BX];omega),Bx M6];rfl
 rw[this]
def Y6(hs:LK):Alb (hs.map λe=>OM e.1):=by
 refine#[λk c j d=>?_,λk c=>?_]
 ·let(a,_,rfl):=AR.mp c;let(b,_,rfl):=AR.mp d;rfl
 ·let(a,_,rfl):=AR.mp c;exact#[_,_,Y]
def SJ{hs:LK}(nd:(hs.map λe=>OM e.1).Nodup){e:QU}(h:e∈hs):OB (hs.map λe=>(OM e.1,OK e.2)) (OM e.1)=U (OK e.2):=by
 rw[P0];induction hs with
 |nil=>cases h
 |cons x xs ih=>
   rw[Az,Bc]at nd;rcases AB.mp h with rfl|h
   ·rw[A7,Ap Y];rfl
   ·rw[A7,Ar λz=>nd.1 (by rw[z];exact A8 h)];exact ih nd.2 h
def vD(hs:LK)(k:AA×AA×Int)(E:OU):putD (hs.map λe=>(OM e.1,OK e.2)) (OM k) (OK E)=(P2 (λe=>OM e.1) hs (k,E)).map λe=>(OM e.1,OK e.2):=SS hs (k,E)
def uD(hs:LK)(k:LM):Wb (hs.map λe=>(OM e.1,OK e.2)) k=(hs.filter λe=>decide<|OM e.1≠k).map λe=>(OM e.1,OK e.2):=iN hs k
def Aj3(w:PR)(k:AA×AA×Int)(E:OU):PR:={w with hints:=P2 (λe=>OM e.1) w.hints (k,Og (U6 w.hints k) E)}
def QV(away:Lw)(e:QU):Bool:=!decide (e.1.1∈away)&&!decide (e.1.2.1∈away)
def Q8(w:PR):LK:=(Pt w.hints).filter (QV w.away)
def iO(w:PR):PR:={w with hints:=w.hints.filter λe=>!QV w.away e}
def Wy(hs:LK):LK->LK
 |[]=>hs
 |e::r=>Wy (hs.filter λx=>decide<|OM x.1≠OM e.1) r
def gE(hs:LK)(r:LK)(e:QU):Wy hs (r++[e])=(Wy hs r).filter λx=>decide (OM x.1≠OM e.1):=by
 induction r generalizing hs with
 |nil=>rfl
 |cons x r a=>exact a _
def Zd(hs r:LK):Wy hs r=hs.filter λx=>!r.any λe=>decide (OM x.1=OM e.1):=by
 induction r generalizing hs with
 |nil=>symm;rw[Wy,BW];intro x _;rfl
 |cons e r ih=>
   rw[Wy,ih,IP];refine EA λx _=>?_
   rw[CQ];by_cases a:OM x.1=OM e.1
   ·rw[Ap a,Ar λz=>z a];cases r.any λe=>decide (OM x.1=OM e.1)<;>rfl
   ·rw[Ar a,Ap a,Hi,JQ]
def vA(w:PR)(nd:(w.hints.map λe=>OM e.1).Nodup):Wy w.hints (Q8 w)=(iO w).hints:=by
 rw[Zd];refine EA λx j=>?_
 have d:∀y:QU,OM x.1=OM y.1->y.1=x.1:=λy e=>by
  let((a,b,c),E):=y;let(rfl,rfl,rfl):=e;rfl
 have:((Q8 w).any λe=>decide<|OM x.1=OM e.1)=QV w.away x:=by rw[BM,B0];refine#[λ⟨y,g,e⟩=>?_,λh=>#[x,Bl.mpr #[(OZ _).mem_iff.mpr j,h],Ap Y]];let(i,f):=Bl.mp g;unfold QV at *;rw[<-d y (B2 e)];exact f
 rw[this]
def Acl{hs:LK}(nd:(hs.map λe=>OM e.1).Nodup)(r:LK):((Wy hs r).map λe=>OM e.1).Nodup:=by rw[Zd];exact D9 (DB _ Du) nd
def AgQ{w:PR}{j:Nat}{e y:QU}(nd:(w.hints.map λe=>OM e.1).Nodup)(he:(Q8 w)[j]?=U e)(hy:y∈(Q8 w).take j):OM y.1≠OM e.1:=by
 have d:((Q8 w).map λe=>OM e.1).Nodup:=D9 (DB _ Du)<|((OZ _).map λe=>OM e.1).nodup_iff.mpr nd;intro z;let(m,a):=Cj.mp hy;rw[FI]at a;split at a
 ·have b:((Q8 w).map λe=>OM e.1)[m]?=U (OM y.1):=by rw[Aj,a];rfl
  have c:((Q8 w).map λe=>OM e.1)[j]?=U (OM e.1):=by rw[Aj,he];rfl
  rw[z]at b;have:=(I0 (Av.mp b).1 d).mp (b.trans c.symm);omega
 ·cases a
def jV(w:PR)(T:Sf)(z:AA):Bool:=!decide (z∈T.sh.map (·.1))&&!decide (z∈w.away)
def yC(w:PR)(T:Sf):Mc:=(RE w.Hs<|T.key%110).find? (jV w T)
def findAt{α:Type}{p:α->Bool}{xs:List α}{j:Nat}{x:α}(h:∀z∈xs.take j,p z=An)(hx:xs[j]?=U x)(hp:p x=Af):xs.find? p=U x:=by
 induction xs generalizing j with
 |nil=>simp at hx
 |cons y ys ih=>
   cases j with
   |zero=>cases hx;rw[A7,hp]
   |succ j=>rw[A7,h y<|by exact .head _];exact ih (λz a=>h z<|by exact .tail _ a) hx
def cX(w:PR)(T:Sf)(L:Lt):PR:=match yC w T with
 |some k=>Aj3 w (k,L.PJ,L.key) L.Ym
 |none=>w
def mE(w:PR)(T:Sf)(L:Lt):PR:=if L.PJ∈T.sh.map (·.1)then if L.PJ∈w.away then cX w T L else
  if L.Pd="put" then aK {w with Ts:=UZ w.Ts (Wr T L.PJ L.Ym)} "ack" L.ask L.PJ L.key []else{w with Ts:=UZ w.Ts (Wr T L.PJ L.Ym)}
 else w
structure Ys(qs:Lw)(w:PR):Prop where
 Sr:gX w.OF w.Ls
 tok:YY w.Ts
 N5:PX w.Hs
 nh:(w.hints.map λe=>OM e.1).Nodup
 sl:∀L∈w.Ls,OW qs L.Ym
 sh:∀e∈w.hints,OW qs e.2
 st:∀T∈w.Ts,∀e∈T.sh,OW qs e.2
 sm:∀B∈w.Ms,OW qs B.qV
 se:∀e∈w.VL,OW qs e.2
 q9:qs.length<=900
def Ys.jW(ok:Ys qs w)(h:OW qs E):E.length<=1000:=AS h.len (AS ok.q9 M5)
def Ys.Ag1(ok:Ys qs w)(k:AA×AA×Int):OW qs (U6 w.hints k):=by
 unfold U6;cases e:w.hints.find? λx=>decide (OM x.1=OM k)with
 |none=>exact OW.nil
 |some x=>exact ok.sh x (BS e)
def Ys.hlen(ok:Ys qs w)(k:AA×AA×Int):(U6 w.hints k).length<=1000:=ok.jW (ok.Ag1 k)
def Ys.Afy(ok:Ys qs w)(hT:T∈w.Ts)(z:AA):OW qs (Ru T.sh z):=by
 unfold Ru;cases e:T.sh.find? λe=>decide ((.inr e.1:Key)=.inr z)with
 |none=>exact OW.nil
 |some x=>exact ok.st T hT x (BS e)
def Ys.Am8(ok:Ys qs w)(hT:T∈w.Ts)(z:AA):(Ru T.sh z).length<=1000:=ok.jW (ok.Afy hT z)
def PU(w:PR)(Pd:AA)(n k:Int)(E:OU)(zs:Lw):PR:={w with OF:=w.OF+zs.length,Ls:=w.Ls++Ta Pd (U n) k E w.OF zs}
def Abx(w:PR)(Pd:AA)(n:Int)(T:Sf)(E:OU):PR:=PU w Pd n T.key E (T.sh.map (·.1))
def VN:PU w Pd n k E []=w:=by unfold PU;rw[Ta,B7];show({w with OF:=w.OF+0})=w;rw[Int.add_zero]
def TN:PU w Pd n k E (zs++[z])=aK (PU w Pd n k E zs) Pd (U n) z k E:=by unfold PU aK;rw[Z0,AM,Bh,<-EB];simp only[Int.natCast_add,Int.natCast_one,Int.add_assoc]
def ZZ:(PU w Pd n k E zs).Ls.length=w.Ls.length+zs.length:=by show(w.Ls++Ta _ _ _ _ _ _).length=_;rw[AM,XB]
def fX(Sr:gX w.OF w.Ls)(Pd:AA)(n k:Int)(E:OU)(zs:Lw):gX (PU w Pd n k E zs).OF (PU w Pd n k E zs).Ls:=by
 have:∀a:Lw,gX (PU w Pd n k E a.reverse).OF (PU w Pd n k E a.reverse).Ls:=by
  intro a;induction a with
  |nil=>rw[List.reverse_nil,VN];exact Sr
  |cons z a b=>rw[IZ,TN];exact b.snoc Pd _ z k E
 have:=this zs.reverse;rwa[List.reverse_reverse]at this
def Adi(w:PR)(T:Sf)(z v:AA):PR:=Abx {w with VL:=P2 (λe=>V1 e.1) w.VL ((z,T.key),eJ (PY w.VL z T.key) z v),Ms:=w.Ms++[#["write",z,T.key,T.w,eJ (PY w.VL z T.key) z v,[],[],"open"]]} "put" (w.Ms.length+1) T (eJ (PY w.VL z T.key) z v)
def kB(l:List tP)(k:AA×Int)(E:OU):putD (l.map λe=>(V1 e.1,OK e.2)) (V1 k) (OK E)=(P2 (λe=>V1 e.1) l (k,E)).map λe=>(V1 e.1,OK e.2):=SS l (k,E)
def Ys.Ahm(ok:Ys qs w)(z:AA)(k:Int):OW qs (PY w.VL z k):=by
 unfold PY;cases e:w.VL.find? λe=>decide (V1 e.1=V1 _)with
 |none=>exact OW.nil
 |some x=>exact ok.se x (BS e)
def Ys.Aj5(ok:Ys qs w)(z:AA)(k:Int):(PY w.VL z k).length<=1000:=ok.jW (ok.Ahm z k)
def Ys.Ak0(ok:Ys qs w)(n:Int):Ys qs (Pg w n):=
 {ok with
  Sr:=#[FE.sublist (DB _ Du) ok.Sr.up,λL a=>ok.Sr.le L (Bl.mp a).1]
  sl:=λL a=>ok.sl L (Bl.mp a).1}
def iX(w:PR)(z:AA):PR:={w with away:=if z∈w.away then w.away else w.away++[z]}
def Acz(l:Lw)(z:AA):putD (PM l) (.inr z) (.f<|.bl Af)=PM (if z∈l then l else l++[z]):=by
 split
 ·rename_i h;unfold PM putD;rw[AG]
  ·rw[AO];refine Bp λy _=>?_
   show(if(Cr y)=.inr z then((.inr y:Key),D.f _)else(.inr y,.f _))=_;split<;>rfl
  ·rw[Kc];exact B0.mpr #[z,h,Ap Y]
 ·rename_i h;exact vE l z h
def AdQ(l:Lw)(z:AA):Wb (PM l) (.inr z)=PM (l.filter λy=>decide<|y≠z):=by unfold PM;rw[iN];refine congrArg (λl:Lw=>l.map λz=>((.inr z:Key),D.f _)) (EA λy _=>D3.mpr #[λh e=>h (by rw[e]),λh e=>h<|by injection e])
def AdF{w:PR}{z:AA}(h:OB (PM w.away) (.inr z)=Ah):({w with away:=w.away.filter λy=>decide (y≠z)}:PR)=w:=by
 have n:z∉w.away:=λm=>by
  have:=UR w.away z;rw[h,Ap m]at this;cases this
 have:(w.away.filter λy=>decide<|y≠z)=w.away:=BW.mpr λy a=>Ap λe:y=z=>n<|e▸a
 rw[this]
def Tv(w:PR):LK->PR
 |[]=>w
 |e::r=>Tv (aK w "hint" Ah e.1.2.1 e.1.2.2 e.2) r
def fJ(w:PR)(r:LK)(e:QU):Tv w (r++[e])=aK (Tv w r) "hint" Ah e.1.2.1 e.1.2.2 e.2:=by
 induction r generalizing w with
 |nil=>rfl
 |cons x r a=>exact a _
def nG(w:PR)(r:LK):(Tv w r).Ls.length=w.Ls.length+r.length:=by
 induction r generalizing w with
 |nil=>rfl
 |cons x r ih=>rw[Tv,ih,AI];show(w.Ls++[_]).length+_=_;rw[AM,Bh];omega
def Ad2{w:PR}(Sr:gX w.OF w.Ls)(r:LK):gX (Tv w r).OF (Tv w r).Ls:=by
 induction r generalizing w with
 |nil=>exact Sr
 |cons x r a=>exact a (Sr.snoc "hint" Ah _ _ x.2)
def uE(w:PR):(Q8 w).length<=w.hints.length:=by rw[<-(OZ w.hints).length_eq];exact BB ..
def sI(w:PR)(z:AA):PR:=Tv (iO {w with away:=w.away.filter λy=>decide (y≠z)}) (Q8 {w with away:=w.away.filter λy=>decide (y≠z)})
section
variable{X:Cx}{K:Ab}{T:US}{t:DE}{a b:Expr}{p p' q q' pos:CU}{n j:Nat}{f:AA}
def Amq(F:Lv)(loc:Lc)(j:Nat)(f:AA)(Q:QD):QD:=λd S=>∃ks js e C fs x,QH S d (.d ks)/\ks.length<=5/\AeA loc j=U e/\QH S e (.i C fs)/\fs.lookup f=U x/\QH S x (.d js)/\js.length<=5/\Q (.f (.bl (Alp (ks.map (·.1)) (js.map (·.1))))) S
abbrev AlT(t:DE)(j:Nat)(f:AA):DE:=λF loc S Q=>t F loc S (Amq F loc j f Q)
def AdU{NR:Hp}[N3 X K NR](hr:N8 n X.A)(hm:X.mg "set"=Ah)(ha:PE X a (lf K T t))(hb:PE X b (AkO K (Ac2 j) f))(hg:Gl X "set":=by rfl)(h1:AL [a] X.env=(An,eval a X.env)::AL [] X.env:=by rfl)(h2:AL [b] X.env=(An,eval b X.env)::AL [] X.env:=by rfl):PE X (.Compare (.Call (.Name "set" p) [a] [] q) [.NotEq] [.Call (.Name "set" p') [b] [] q'] pos) (lf K T<|AlT t j f):=(AnQ hr hm ha hb hg h1 h2).imp λJ H Q⟨F,m,S,Q',R,G,q,k⟩=>
 #[F,m,S,_,R,G,q,λd S1 H1 v p z w⟨Z,js,e,C,fs,x,O,W,u3,i,N,V,y0,j0⟩=>by
  let(a,rfl,c,M,u):=(z.one w).is (Oz O w);refine#[a,c,Y,M.rd,by rw[<-AE u];exact W,λl P _ _ s=>?_];have g:=z.same s;have D:=p.trans<|Px.Py s.n;let(v2,L,E):=(G.px D).get u3;show vQ _ _ P;rw[L];refine aF (g.one E) (Oz i E) N λy r _=>?_
  let(b,rfl,h,I,B):=(g.one r).is (Oz V r);exact#[b,h,Y,I.rd,by rw[<-AE B];exact y0,Y,λH4 o=>by rw[SO u,SO B];exact k _ _ _ _ (D.trans<|Px.Py o.n) (g.same o) .f j0]]
end
def vJ(A:WR->Ag)(k:Int)(t q:Ag):WR->Ag
 |.OX m=>if m=k then t else A (.OX m)
 |.Zh m=>if m=k then q else A (.Zh m)
 |x=>A x
section
variable{C:WC}{i:Nat}{A:WR->Ag}{w:PR}{S:NW}
def vV{T:Sf}(h:T.key∉w.Ts.map (·.key))(k:Int):PH {w with Ts:=w.Ts++[T]} k=if k=T.key then U T else PH w k:=by
 unfold PH;rw[Jb];by_cases e:k=T.key
 ·subst e;have:(w.Ts.find? λx=>decide<|x.key=T.key)=Ah:=Ck.mpr λx a z=>h (by rw[<-B2 z];exact A8 a)
  rw[AG Y,this,Option.none_or,A7,Ap Y]
 ·rw[Ay e,A7,Ar (λz=>e z.symm),List.find?_nil,Option.or_none]
def Ob.newThing(wd:Ob C i A w S)(T:Sf)(t q:Ag)(ht:S t=Ah)(hq:S q=Ah)(n:t≠q)(hk:T.key∉w.Ts.map (·.key)):
  Ob C i (vJ A T.key t q) {w with Ts:=w.Ts++[T]} (NP (NP (NP S q (.wd i<|.Zh T.key,.d<|VT T.sh)) t (.wd i<|.OX T.key,qF C.T q T)) (A .decl) (.wd i .decl,.d<|(w.Ts.map λT=>((.inl T.key:Key),D.f<|.ref<|A<|.OX T.key))++[(.inl T.key,.f<|.ref t)])):=by
 intro x o e;have b:=wd .decl _ Y;have h:t≠A _:=λz=>by rw[<-z,ht]at b;cases b
 have g:q≠A _:=λz=>by rw[<-z,hq]at b;cases b
 have a:∀y,Sm C A w y=U o->vJ A T.key t q y=A y->y≠.decl->NP (NP (NP S q (.wd i<|.Zh T.key,.d<|VT T.sh)) t (.wd i<|.OX T.key,qF C.T q T)) _ (.wd i .decl,.d<|(w.Ts.map λT=>((.inl T.key),D.f<|.ref<|A<|.OX T.key))++[(.inl T.key,.f<|.ref t)]) (vJ A _ t q y)=U _:=λy c k p=>by
  have z:=wd y o c;rw[k,NJ<|wd.ne c (show Sm C A w _=U _ from Y) p,NJ (λu=>by rw[u,ht]at z;cases z),NJ λu=>by rw[u,hq]at z;cases z];exact z
 cases x with
 |decl=>
   show NP _ _ _ (A _)=_;rw[NO];refine congrArg (λl=>U (Rl.wd i _,O.d l)) ?_ |>.trans (congrArg U (congrArg _ (AK e)));rw[Bi]
   congr 1
   ·refine Bp λy j=>?_
    have:y.key≠T.key:=λz=>hk (by rw[<-z];exact A8 j)
    show _=((.inl _:Key),D.f<|.ref (if y.key=T.key then t else A _));rw[Ay this]
   ·show _=[((.inl _:Key),D.f<|.ref (if T.key=T.key then t else _))];rw[AG Y]
 |OX m=>
   have e:(PH _ m).map _=U o:=e;rw[vV hk]at e;by_cases z:m=T.key
   ·subst z;rw[AG Y]at e;injection e with e;subst e;show NP _ _ _ (if T.key=T.key then t else _)=U (_,qF C.T (if T.key=T.key then q else _) T);rw[AG Y,AG Y,NJ h,NO]
   ·rw[Ay z]at e;refine a _ ?_ (Ay z) nofun;rw[<-e];show(PH w m).map _=(PH w m).map (qF C.T (if m=T.key then q else A _));rw[Ay z]
 |Zh m=>
   have e:(PH _ m).map (λT=>O.d _)=U o:=e;rw[vV hk]at e;by_cases z:m=T.key
   ·subst z;rw[AG Y]at e;injection e with e;subst e;show NP _ _ _ (if T.key=T.key then q else _)=_;rw[AG Y,NJ g,NJ<|Ax n,NO]
   ·rw[Ay z]at e;exact a _ e (Ay z) nofun
 |_=>exact a _ e Y nofun
def Ov(h:NP S a x b=Ah):b≠a/\S b=Ah:=by
 have n:b≠a:=λz=>by rw[z,NO]at h;cases h
 exact#[n,by rw[NJ n]at h;exact h]
end
def Acy{κ:Type}[DecidableEq κ]{ks:List (κ×D)}{k:κ}(h:OB ks k=Ah):putD ks k d=ks++[(k,d)]:=by unfold putD;rw[Ay];intro q;let(x,a,e):=B0.mp q;unfold OB at h;rw[Hg,Ck]at h;exact h x a e
def aN(n:a≠b)(m:a≠c):NP (NP (NP (NP S a x) b y) c z) a u=NP (NP (NP S b y) c z) a u:=by
 funext e
 unfold NP;by_cases h:e=a
 ·simp only[h,if_true]
 ·simp only[h,if_false]
def Af3(a d b l lk p pu s bg ln:Ag):WR->Ag
 |.top=>a|.decl=>d|.RC=>b|.left=>l|.kept=>lk|.post=>p|.uw=>pu|.asks=>s|.begun=>bg|.Abt=>ln|_=>a
def Ob.init{C:WC}{i:Nat}{S':NW}{Hs:Q5}{a d b l lk p pu s bg ln:Ag}(nd:[a,d,b,lk,l,pu,p,bg,s,ln].Nodup)(hn:∀x∈[a,d,b,lk,l,pu,p,bg,s,ln],S' x=Ah){St:NW}(e:St=NP (NP (NP (NP (NP (NP (NP (NP (NP (NP S' d (.wd i .decl,.d [])) b (.wd i .RC,.d [])) lk (.wd i .kept,.m [])) l (.wd i .left,.i C.H [("kept",.f<|.ref lk)])) pu (.wd i .uw,.d [])) p (.wd i .post,.i C.P [("sent",.f<|.int 0),("under_way",.f<|.ref pu)])) bg (.wd i .begun,.l [])) s (.wd i .asks,.i C.S [("begun",.f<|.ref bg)])) ln (.wd i .Abt,.m []))
   a (.wd i .top,.i C.W [("there",YN Hs),("declared",.f<|.ref d),("absent",.f<|.ref b),("left",.f<|.ref l),("post",.f<|.ref p),("asks",.f<|.ref s),("learnt",.f<|.ref ln)])):
  Ob C i (Af3 a d b l lk p pu s bg ln) #[Hs,[],[],[],0,[],[],[]] St/\Fr i S' St:=by
 subst e;refine#[λx o e=>?_,λc r o e _=>?_]
 ·simp only[Bc,AB,Cv,FU,not_or,Fi,and_true,not_false_eq_true]at nd;let((v,k,h,j,g,q,t,u,n),(m1,E,G,m4,m5,D,y0,m8),(A,k2,Q,k4,X,k6,M),(F,j2,K,N,B,L),(i1,j0,i3,i4,T),(V,I,h3,u3),(Z,O,g3),(R,f2),e1):=nd;cases x<;>first|(cases e;done)|(injection e with e;subst e;simp only[Af3];unfold NP;simp only[v,k,h,j,g,q,t,u,n,m1,E,G,m4,m5,D,y0,m8,A,k2,Q,k4,X,k6,M,F,j2,K,N,B,L,i1,j0,i3,i4,T,V,I,h3,u3,Z,O,g3,R,f2,e1,Ax v,Ax k,Ax h,Ax j,Ax g,Ax q,Ax t,Ax u,Ax n,if_true,if_false];try rfl)
 ·have y:∀x∈[a,d,b,lk,l,pu,p,bg,s,ln],c≠x:=λx hx z=>by rw[z,hn x hx]at e;cases e
  simp only[Eg]at y;let(v,k,h,j,g,q,t,u,n,w,_):=y;rw[NJ v,NJ w,NJ n,NJ u,NJ t,NJ q,NJ g,NJ j,NJ h,NJ k];exact e
def Ws{E:OU}{f:AA×Ent}(nd:(E.map (·.1)).Nodup)(h:f∈E):look E f.1=U f.2:=by
 unfold look;induction E with
 |nil=>cases h
 |cons x xs ih=>
   rw[Az,Bc]at nd;rcases AB.mp h with rfl|h
   ·rw[A7,Ap Y];rfl
   ·rw[A7,Ar λz=>nd.1 (by rw[z];exact A8 h)];exact ih nd.2 h
def Afb{E:OU}{n:AA}{x:Ent}(nd:(E.map (·.1)).Nodup)(h:look E n=U x):RG E n x=E:=by
 have b:=Ss h;unfold RG;rw[AG<|B0.mpr #[(n,x),b,Ap Y]];refine(Bp λe a=>?_).trans (Fl _);split
 ·rename_i z;have:=Ws nd a;rw[z,h]at this;injection this with this;rw[this];rfl
 ·rfl
def iA{α:Type}{x:α}{xs:List α}:Y1 (x::xs) 0=U x:=QI Y
def Aa0{n j:Nat}(h:j<n):Aah n (j:Int)=U j:=by unfold Aah;rw[AG<|Int.ofNat_lt.mpr h];rfl
def qE(L:Lt):D:=.t [.f<|.int L.num,.f<|.str L.Pd,.f<|oI L.ask,.f<|.str L.PJ,.f<|.int L.key,OK L.Ym]
inductive LR where|top|rows|Wt|Rb|Qb
structure qI where
 OF:Int
 Ls:Mh
 asks:Int
 VL:List tP
 ON:List tP
 U5:LK
 away:Lw
def AnC:LR->Nat
 |.top=>1|.rows=>2|.Wt=>3|.Rb=>4|.Qb=>5
def encL(B:LR->Ag)(M:qI):LR->O
 |.top=>.d [(.inr "rows",.f<|.ref<|B .rows),(.inr "asks",.f<|.int M.asks),(.inr "minds",.f<|.ref<|B .Wt),(.inr "shelves",.f<|.ref<|B .Rb),(.inr "notes",.f<|.ref<|B .Qb),(.inr "away",.l<|M.away.map λz=>.f<|.str z)]
 |.rows=>.l (.f (.int M.OF)::M.Ls.map qE)
 |.Wt=>.m<|M.VL.map λe=>(V1 e.1,OK e.2)
 |.Rb=>.m<|M.ON.map λe=>(V1 e.1,OK e.2)
 |.Qb=>.m (M.U5.map λe=>(OM e.1,OK e.2))
def P6(B:LR->Ag)(M:qI)(S:NW):Prop:=∀x,S (B x)=U (.own<|AnC x,encL B M x)
def V3(S S':NW):Prop:=∀a r o,S a=U (r,o)->(∀n,r≠.own n)->S' a=U (r,o)
section
variable{B:LR->Ag}{M M':qI}{S S' S'':NW}{C:WC}{i:Nat}{A:WR->Ag}{w:PR}
def V3.refl:V3 S S:=λ_ _ _ h _=>h
def V3.trans(h:V3 S S')(k:V3 S' S''):V3 S S'':=λa r o e n=>k a r o (h a r o e n) n
def V3.set(h:S a=U (.own n,o)):V3 S (NP S a x):=λb r c e m=>(NJ λz=>by rw[z,h]at e;injection e with e;injection e with e;exact m _ e.symm).trans e
def Ob.fo(h:Ob C i A w S)(f:V3 S S'):Ob C i A w S':=λx o e=>f _ _ _ (h x o e) λn z=>by cases z
def P6.fr(h:P6 B M S)(f:Fr i S S'):P6 B M S':=λx=>f _ _ _ (h x) λy z=>by cases z
def P6.ne(h:P6 B M S)(n:x≠y):B x≠B y:=bD (h x) (h y) λz=>by
 cases x<;>cases y<;>first|exact n rfl|cases z
def P6.upd(h:P6 B M S)(y:LR)(M':qI)(e:∀x,x≠y->encL B M' x=encL B M x):P6 B M' (NP S (B y) (.own<|AnC y,encL B M' y)):=λx=>by
 by_cases z:x=y
 ·subst z;exact NO
 ·rw[NJ<|h.ne z,e x z];exact h x
def P6.io(h:P6 B M S)(x:LR):QH S (.f<|.ref<|B x) (encL B M x):=.inr #[_,_,Y,h x]
def P6.new(h:P6 B M S)(n:S a=Ah):P6 B M (NP S a x):=λy=>(NJ λz=>by have:=h y;rw[z,n]at this;cases this).trans (h y)
end
def AcS(M:qI)(Pd:AA)(ask:LG)(PJ:AA)(key:Int)(E:OU):qI:={M with OF:=M.OF+1,Ls:=M.Ls++[#[M.OF+1,Pd,ask,PJ,key,E]]}
def PN(w:PR)(ON:List tP)(aw:Lw):qI:=#[w.OF,w.Ls,w.Ms.length,w.VL,ON,w.hints,aw]
def Agv(n:Int):AA:=A1 "v"++A1 (toString n)
def AiD:∀i:Fin 97,(Agv ((i.val:Nat):Int)).length<=10:=M4
def Aj4{n:Nat}(h:n<97):((n:Int)).natAbs.log2<1920:=BI (Nat.log2_le_self _) M6
section
variable{B:LR->Ag}{M:qI}{S:NW}{N:NW->Prop}{F:Lv}{Q:QD}
def Ane{n:Int}(lr:P6 B M S)(k:∀S1,P6 B {M with asks:=n} S1->V3 S S1->N S1):Aa2 [] (.f<|.int n) (.f<|.ref<|B .top) (.f<|.str "asks") N S:=wG (lr _) nofun M8 (Se<|k _ (lr.upd _ _ λx h=>by cases x<;>first|rfl|exact(h Y).elim)<|V3.set<|lr _)
def Ak7{aw:Lw}(lr:P6 B M S)(k:∀S1,P6 B {M with away:=aw} S1->V3 S S1->N S1):Aa2 [] (.l<|aw.map λz=>.f<|.str z) (.f<|.ref<|B .top) (.f<|.str "away") N S:=wG (lr _) nofun M8 (Se<|k _ (lr.upd _ _ λx h=>by cases x<;>first|rfl|exact(h Y).elim)<|V3.set<|lr _)
def Anf{e:AA×Int}{E:OU}(lr:P6 B M S)(hl:M.VL.length<90000)(k:∀S1,P6 B {M with VL:=P2 (λe=>V1 e.1) M.VL (e,E)} S1->V3 S S1->N S1):Aa2 F (OK E) (.f<|.ref<|B .Wt) (dZ<|V1 e) N S:=Ak8 (lr _) (by rw[Ac];omega) (by
  rw[kB];exact k _ (lr.upd _ _ λx h=>by cases x<;>first|rfl|exact(h Y).elim)<|V3.set<|lr _)
def Anh{e:AA×Int}{E:OU}(lr:P6 B M S)(hl:M.ON.length<90000)(k:∀S1,P6 B {M with ON:=P2 (λe=>V1 e.1) M.ON (e,E)} S1->V3 S S1->N S1):Aa2 F (OK E) (.f<|.ref<|B .Rb) (dZ<|V1 e) N S:=Ak8 (lr _) (by rw[Ac];omega) (by
  rw[kB];exact k _ (lr.upd _ _ λx h=>by cases x<;>first|rfl|exact(h Y).elim)<|V3.set<|lr _)
def Ang{e:AA×AA×Int}{E:OU}(lr:P6 B M S)(hl:M.U5.length<90000)(k:∀S1,P6 B {M with U5:=P2 (λe=>OM e.1) M.U5 (e,E)} S1->V3 S S1->N S1):Aa2 F (OK E) (.f<|.ref<|B .Qb) (dZ<|OM e) N S:=Ak8 (lr _) (by rw[Ac];omega) (by
  rw[vD];exact k _ (lr.upd _ _ λx h=>by cases x<;>first|rfl|exact(h Y).elim)<|V3.set<|lr _)
def Anb{z:AA}{n:Int}(lr:P6 B M S)(k:Q (OK<|PY M.VL z n) S):AiR (.f<|.ref<|B .Wt) (dZ<|V1 (z,n)) (.d []) Q S:=Adj (lr.io _) (by rw[show D.d []=OK []from Y,lK];exact k)
def Ak6{z:AA}{n:Int}(lr:P6 B M S)(k:Q (OK<|PY M.ON z n) S):AiR (.f<|.ref<|B .Rb) (dZ<|V1 (z,n)) (.d []) Q S:=Adj (lr.io _) (by rw[show D.d []=OK []from Y,lK];exact k)
def Anc{e:AA×AA×Int}(lr:P6 B M S)(k:Q (OK<|U6 M.U5 e) S):AiR (.f<|.ref<|B .Qb) (dZ<|OM e) (.d []) Q S:=Adj (lr.io _) (by rw[show D.d []=OK []from Y,wD];exact k)
end
def cR(M:qI)(T:Sf)(z:AA):Bool:=!decide (z∈T.sh.map (·.1))&&!decide (z∈M.away)
def Abj(M:qI)(Hs:Q5)(T:Sf)(z:AA)(E:OU):qI:=match(RE Hs<|T.key%110).find? (cR M T)with
 |some k=>{M with U5:=P2 (λe=>OM e.1) M.U5 ((k,z,T.key),Og (U6 M.U5 (k,z,T.key)) E)}
 |none=>M
def AiX{neg:Bool}{S:NW}{e:D}{xs:Lz}{y:AA}{F:Lv}{Q:QD}(zs:Lw)(h:QH S e (.l xs))(hx:xs=zs.map λz=>.f<|.str z)(k:Q (.f<|.bl (if neg then !decide (y∈zs)else decide (y∈zs))) S):Alf neg (.f<|.str y) e F S Q:=by
 subst hx;refine#[_,_,Y,.inl h,Y,?_,?_]
 ·rw[Dn];exact BL.mpr λ_ _=>rfl
 ·rw[AO];rw[show((AiW∘λz:AA=>D.f<|.str z):AA->V)=V.str from Y,uH];exact k
structure UA(qs:Lw)(s:Nat)(w:PR)(ON:List tP)(aw:Lw):Prop extends Ys qs w where
 lt:∀L∈w.Ls,((L.Pd="put"\/L.Pd="hint")/\∃T∈w.Ts,L.key=T.key/\L.PJ∈T.sh.map (·.1))\/L.Pd="ack"
 la:∀L∈w.Ls,L.Pd="put"\/L.Pd="ack"->∃n:Nat,L.ask=U ((n:Int)+1)/\n<w.Ms.length
 mw:∀B∈w.Ms,B.kind="write"/\B.NX.length<=s
 hi:∀e∈w.hints,(∃T∈w.Ts,e.1.2.2=T.key/\e.1.2.1∈T.sh.map (·.1))/\(e.1.1∈w.away\/e.1.2.1∈w.away)
 l1:w.Ls.length<=70*s
 l2:w.Ms.length<=s
 l3:w.VL.length<=s
 l4:w.hints.length<=s
 l5:aw.length<=s
 l6:ON.length<=s
 ap:aw.Perm w.away
 so:aw.Pairwise xV
 ss:∀T∈w.Ts,∀z,Ru T.sh z=PY ON z T.key
 s5:∀T∈w.Ts,T.sh.length<=5
 Adw:s<=60
inductive AiG(w:PR)(ON:List tP)(L:Lt):PR->List tP->Prop where
 |Anl (n:Nat) (B:Ak):L.Pd="ack"->w.Ms[n]?=U B->AiG w ON L {Pg w L.num with Ms:=w.Ms.set n (Rq B L.PJ L.Ym).1} ON
 |st (T:Sf):L.Pd="put"\/L.Pd="hint"->T∈w.Ts->L.key=T.key->L.PJ∈T.sh.map (·.1)->AiG w ON L (mE (Pg w L.num) T L) (if L.PJ∈w.away then ON else P2 (λe=>V1 e.1) ON ((L.PJ,T.key),Og (PY ON L.PJ T.key) L.Ym))
def bG{w:PR}{j:Nat}{L:Lt}(Sr:gX w.OF w.Ls)(h:w.Ls[j]?=U L):(Pg w L.num).Ls=w.Ls.eraseIdx j:=by
 have a:=Sr.nd;show(w.Ls.filter λM=>decide _)=_;generalize w.Ls=Ls at *;clear Sr;induction Ls generalizing j with
 |nil=>cases h
 |cons x xs ih=>
   rw[Az,Bc]at a;cases j with
   |zero=>cases h;rw[DH M8];exact BW.mpr λy b=>Ap λz=>a.1 (by rw[<-z];exact A8 b)
   |succ j=>
     have q:(C5 _:Key)≠.inl _:=λz=>a.1 (by rw[z];exact A8<|AH h)
     rw[CV (p:=λM:Lt=>decide<|(.inl _:Key)≠.inl _)<|Ap q,CW,ih h a.2]
def xZ{α β:Type}(f:α->β)(xs:List α)(j:Nat):(xs.eraseIdx j).map f=(xs.map f).eraseIdx j:=by
 induction xs generalizing j with
 |nil=>rfl
 |cons x xs ih=>
   cases j with
   |zero=>rfl
   |succ j=>rw[CW,Az,Az,CW,ih]
def Aim{i n:Nat}(h:i<n):GW (i:Int) n=U i:=(jO<|Aa0 h).1
def AnI{B:LR->Ag}{M:qI}{S:NW}{j:Nat}{L:Lt}{Q:QD}{F:Lv}(lr:P6 B M S)(h:M.Ls[j]?=U L)(hl:M.Ls.length<90000)(k:∀S1,P6 B {M with Ls:=M.Ls.eraseIdx j} S1->V3 S S1->Q (qE L) S1):rN (.f<|.ref<|B .rows) [.f<|.int<|1+(j:Int)] F S Q:=by
 have a:=(Av.mp h).1;refine#[_,_,_,_,j+1,qE L,Y,Y,lr _,M6,M6,?_,?_,?_]
 ·have:=Aim (i:=j+1) (n:=(D.f (.int M.OF)::M.Ls.map qE).length) (by rw[AI,Ac];omega);rw[show(1+(j))=((j+1):Int) by omega];exact this
 ·rw[EK,Aj,h];rfl
 ·refine k _ ?_ (V3.set<|lr _);have:=lr.upd _ {M with Ls:=M.Ls.eraseIdx j} (λx h=>by cases x<;>first|rfl|exact(h Y).elim);have e:encL B {M with Ls:=M.Ls.eraseIdx j} .rows=.l (.f (.int M.OF)::(M.Ls.map qE).eraseIdx j):=by
   show O.l _=_;rw[xZ]
  rw[e]at this;exact this
def Ahp{w:PR}{T:Sf}{L:Lt}:(cX w T L).Ts=w.Ts/\(cX w T L).Hs=w.Hs:=by
 unfold cX;split
 ·exact#[Y,Y]
 ·exact#[Y,Y]
def Aek{w:PR}{T:Sf}{L:Lt}{ON:List tP}{aw:Lw}(h:∀z,z∈aw↔z∈w.away)(e:L.key=T.key):Abj (PN w ON aw) w.Hs T L.PJ L.Ym=PN (cX w T L) ON aw:=by
 unfold Abj cX yC;have:cR (PN w ON aw) T=jV w T:=by
  funext z
  unfold cR jV;rw[show decide (z∈(PN w ON aw).away)=decide _ from D3.mpr (h z)]
 rw[this];cases(RE _ _).find? _ with
 |none=>rfl
 |some k=>rw[e];rfl
def AgZ{w:PR}{h:LK}{r:LK}:Tv {w with hints:=h} r={Tv w r with hints:=h}:=by
 induction r generalizing w with
 |nil=>rfl
 |cons x r a=>exact a (w:=aK w "hint" Ah _ _ x.2)
def AoH{B:LR->Ag}{M:qI}{S:NW}{e:QU}{Q:QD}(lr:P6 B M S)(nd:(M.U5.map λe=>OM e.1).Nodup)(h:e∈M.U5)(k:∀S1,P6 B {M with U5:=M.U5.filter λx=>decide (OM x.1≠OM e.1)} S1->V3 S S1->Q (OK e.2) S1):AjY (.f<|.ref<|B .Qb) (dZ<|OM e.1) Q S:=by refine#[_,_,_,OM e.1,OK e.2,Y,lr .Qb,Y,SJ nd h,?_];rw[uD];exact k _ (lr.upd .Qb {M with U5:=M.U5.filter λx=>decide (OM x.1≠OM e.1)} (λx h=>by cases x<;>first|rfl|exact(h Y).elim)) (V3.set<|lr .Qb)
def Ain{w:PR}{hs:LK}{j:Nat}{e y:QU}(nd:(hs.map λe=>OM e.1).Nodup)(he:(Pt hs)[j]?=U e)(hy:y∈(Pt hs).take j):OM y.1≠OM e.1:=by
 have d:=((OZ hs).map λe=>OM e.1).nodup_iff.mpr nd;intro z;let(m,a):=Cj.mp hy;rw[FI]at a;split at a
 ·have b:((Pt hs).map λe=>OM e.1)[m]?=U (OM y.1):=by rw[Aj,a];rfl
  have c:((Pt hs).map λe=>OM e.1)[j]?=U (OM e.1):=by rw[Aj,he];rfl
  rw[z]at b;have:=(I0 (Av.mp b).1 d).mp (b.trans c.symm);omega
 ·cases a
section
variable{X:Cx}{K:Ab}{T:US}
def AgH(neg:Bool):D2:=λd e _ S Q=>∃xs,QH S d (.l xs)/\QH S e (.l [])/\Q (.f<|.bl (if neg then !xs.isEmpty else xs.isEmpty)) S
def Abr{neg:Bool}:Aaj K T (Ah6 K neg) (AgH neg):=λF S H Q q d e x y R c g⟨p,o,n,h⟩k=>by
 let(a,rfl,f,m,j):=(R.one c).is (Oz o c);let(b,rfl,r,l,i):=(R.one g).is (Oz n g);cases i;have e:f.isEmpty=p.isEmpty:=by cases j<;>rfl
 exact#[a,b,f,Y,Y,m,l,by rw[e];exact k.flat R h]
def Akg{n:Nat}{NR:Hp}[N3 X K NR](hr:N8 n X.A):V4 X K T (Be .Eq) (AgH An):=#[_,AhD<|BI (Gn _ 64) hr.units,Abr]
def AbR{n:Nat}{NR:Hp}[N3 X K NR](hr:N8 n X.A):V4 X K T (Be .NotEq) (AgH Af):=#[_,AhG<|BI (Gn _ 64) hr.units,Abr]
end
def Zo{α:Type}{xs:List α}(h:xs≠[])(x:Int):∃j y,x%(xs.length:Int)=((j:Nat):Int)/\xs[j]?=U y/\Y1 xs (x%(xs.length:Int))=U y:=by have l:=BV.mpr h;have c:=BN x (show(xs.length:Int)≠0 by omega);have d:=BJ x (show(0:Int)<xs.length by omega);let(j,a):=BZ c;have b:j<xs.length:=M6;refine#[j,xs[j],a,Ae b,?_];rw[a];exact QI (Ae b)
def AoG{B:LR->Ag}{M:qI}{S:NW}{j:Nat}{m:Int}{L:Lt}{Q:QD}{F:Lv}(hm:m=1+(j:Int))(lr:P6 B M S)(h:M.Ls[j]?=U L)(hl:M.Ls.length<90000)(k:∀S1,P6 B {M with Ls:=M.Ls.eraseIdx j} S1->V3 S S1->Q (qE L) S1):rN (.f<|.ref<|B .rows) [.f<|.int m] F S Q:=by subst hm;exact AnI lr h hl k
section
variable{qs:Lw}{s:Nat}{w w':PR}{ON she':List tP}{aw aw':Lw}{T:Sf}{L:Lt}{z v:AA}
def UA.up(ok:UA qs s w ON aw)(h:s<60):UA qs (s+1) w ON aw:=
 {ok with
  mw:=λB a=>#[(ok.mw B a).1,Jg (ok.mw B a).2]
  l1:=by have:=ok.l1;omega
  l2:=by have:=ok.l2;omega
  l3:=by have:=ok.l3;omega
  l4:=by have:=ok.l4;omega
  l5:=by have:=ok.l5;omega
  l6:=by have:=ok.l6;omega
  Adw:=h}
def UA.Aj6(ok:UA qs s w ON aw)(n:Int):UA qs s (Pg w n) ON aw:=
 {ok with
  toYs:=ok.toYs.Ak0 n
  lt:=λL a=>ok.lt L (Bl.mp a).1
  la:=λL a=>ok.la L (Bl.mp a).1
  l1:=AS (BB ..) ok.l1}
def UA.snd(ok:UA qs s w ON aw){Ls':Mh}{sent':Int}(Sr:gX sent' (w.Ls++Ls'))(h1:∀L∈Ls',OW qs L.Ym)(h2:∀L∈Ls',((L.Pd="put"\/L.Pd="hint")/\∃T∈w.Ts,L.key=T.key/\L.PJ∈T.sh.map (·.1))\/L.Pd="ack")(h3:∀L∈Ls',L.Pd="put"\/L.Pd="ack"->∃n:Nat,L.ask=U ((n:Int)+1)/\n<w.Ms.length)(hl:(w.Ls++Ls').length<=70*s):UA qs s {w with OF:=sent',Ls:=w.Ls++Ls'} ON aw:=
 {ok with
  Sr:=Sr
  sl:=λL a=>(Bd.mp a).elim (ok.sl L) (h1 L)
  lt:=λL a=>(Bd.mp a).elim (ok.lt L) (h2 L)
  la:=λL a=>(Bd.mp a).elim (ok.la L) (h3 L)
  l1:=hl}
def OW.put{E:OU}{n:AA}{x:Ent}(h:OW qs E)(hn:n∈qs):OW qs (RG E n x):=#[AbF h.1 n x,λm a=>by
 rw[nT]at a;by_cases e:n=m
 ·rw[<-e];exact hn
 ·rw[Ay e]at a;exact h.2 m a]
def OW.old{E:OU}(h:OW qs E):OW qs (Z2 E):=by
 have c:∀f∈E,f.1∈qs:=λf d=>h.2 f.1 (by rw[Ws h.1 d];rfl)
 have:∀(G:OU),(∀f∈G,f.1∈qs)->∀A,OW qs A->OW qs (G.foldl (λA f=>RG A f.1 (f.2.1,Ah)) A):=by
  intro G;induction G with
  |nil=>intro _ A a;exact a
  |cons f G e=>intro b A a;exact e (λg i=>b g<|.tail _ i) _<|a.put<|b f<|.head _
 exact this E c [] OW.nil
def OW.AoD{E:OU}(h:OW qs E)(hn:z∈qs):OW qs (eJ E z v):=h.old.put hn
def UA.AoE(ok:UA qs s w ON aw)(hT:T∈w.Ts)(hz:z∈qs)(h:s<60):UA qs (s+1) (Adi w T z v) ON aw:=by
 have c:OW qs (eJ (PY _ z T.key) z v):=(ok.toYs.Ahm z _).AoD hz;unfold Adi Abx;generalize eJ _ z v=E at *;have o:=ok.up h;have m:UA qs _ {w with VL:=P2 (λe=>V1 e.1) _ ((z,T.key),E),Ms:=w.Ms++[#["write",z,T.key,T.w,E,[],[],"open"]]} ON aw:=
  {o with
   sm:=λB a=>by
    rcases Bd.mp a with a|a
    ·exact ok.sm B a
    ·cases As.mp a;exact c
   se:=λe d=>by
    rcases WD d with rfl|d
    ·exact c
    ·exact ok.se e d
   la:=λL b k=>by
    let(n,g,f):=ok.la L b k;exact#[n,g,by rw[AM];exact Bo f<|Gn _ _]
   mw:=λB a=>by
    rcases Bd.mp a with a|a
    ·exact o.mw B a
    ·cases As.mp a;exact#[Y,Bv _]
   l2:=by rw[AM];exact CC ok.l2
   l3:=AS (Z6 ..) (CC ok.l3)}
 have q:=fX ok.Sr "put" (w.Ms.length+1) T.key E (T.sh.map (·.1));refine m.snd q (λL b=>?_) (λL b=>?_) (λL b _=>?_) ?_
 ·let(_,_,_,e,_):=UH b;rw[e];exact c
 ·let(i,_,l,_,j):=UH b;exact .inl #[.inl i,T,hT,l,j]
 ·let(_,e,_):=UH b;exact#[w.Ms.length,e,by rw[AM];exact Dq _]
 ·rw[AM,XB,Ac];have g:=ok.l1;have f:=ok.s5 T hT;show w.Ls.length+_<=_;omega
def AaU{B:Ak}{E:OU}(h1:OW qs B.qV)(h2:OW qs E):OW qs (Rq B z E).1.qV:=by
 unfold Rq;split
 ·exact h1
 ·split<;>exact h1.join h2
def AaV{B:Ak}{E:OU}(h:B.NX.length<=s):(Rq B z E).1.NX.length<=s+1:=by
 unfold Rq;split
 ·exact Jg h
 ·split<;>(rw[AM];exact CC h)
def UA.An5(ok:UA qs s w ON aw)(hp:aw'.Perm (iX w z).away)(hs:aw'.Pairwise xV)(h:s<60):UA qs (s+1) (iX w z) ON aw':=by
 have o:=ok.up h;have a:∀y∈w.away,y∈(iX w z).away:=λy c=>by
  unfold iX;split
  ·exact c
  ·exact Fj _ c
 exact {o with
  hi:=λe b=>#[(ok.hi e b).1,(ok.hi e b).2.imp (a _) (a _)]
  l5:=by
   rw[hp.length_eq];have f:=ok.l5;have d:=ok.ap.length_eq;show(if z∈w.away then w.away else w.away++[z]).length<=_;split
   ·omega
   ·rw[AM,Bh];omega
  ap:=hp
  so:=hs}
def UA.AjF(ok:UA qs s w ON aw)(r:LK)(h1:∀e∈r,OW qs e.2/\∃T∈w.Ts,e.1.2.2=T.key/\e.1.2.1∈T.sh.map (·.1))(hl:w.Ls.length+r.length<=70*s):UA qs s (Tv w r) ON aw:=by
 induction r generalizing w with
 |nil=>exact ok
 |cons x r ih=>
   let(c,d):=h1 x<|.head _;refine ih (ok.snd (ok.Sr.snoc "hint" Ah _ _ x.2) ?_ ?_ ?_ ?_) (λe b=>h1 e<|.tail _ b) ?_
   ·intro L a;cases As.mp a;exact c
   ·intro L a;cases As.mp a;exact .inl #[.inr Y,d]
   ·intro L a q;cases As.mp a;rcases q with q|q
    ·exact absurd (show("hint":AA)="put" from q) M4
    ·exact absurd (show("hint":AA)="ack" from q) M4
   ·rw[AM,Bh];rw[AI]at hl;omega
   ·show(w.Ls++[_]).length+_<=_;rw[AM,Bh];rw[AI]at hl;omega
def Ag0(w:PR)(r:LK):(Tv w r).Hs=w.Hs/\(Tv w r).Ts=w.Ts:=by
 induction r generalizing w with
 |nil=>exact#[Y,Y]
 |cons x r a=>exact a _
def UA.Aow(ok:UA qs s w ON aw)(h:s<60):UA qs (s+1) (sI w z) ON (aw.filter λy=>decide<|y≠z)/\(sI w z).Hs=w.Hs/\(sI w z).Ts=w.Ts:=by
 refine#[?_,Ag0 _ _];have o:=ok.up h;have g:UA qs _ (iO {w with away:=w.away.filter λy=>decide _}) ON _:=
  {o with
   nh:=D9 (DB _ Du) ok.nh
   sh:=λe c=>ok.sh e (Bl.mp c).1
   hi:=λe c=>by
    let(f,d):=Bl.mp c;refine#[(ok.hi e f).1,?_];unfold QV at d;by_cases a:e.1.1∈w.away.filter λy=>decide (y≠z)
    ·exact .inl a
    ·refine .inr ?_;by_cases b:e.1.2.1∈w.away.filter λy=>decide (y≠z)
     ·exact b
     ·rw[Ar a,Ar b]at d;cases d
   l4:=AS (BB ..) o.l4
   l5:=AS (BB ..) o.l5
   ap:=ok.ap.filter _
   so:=ok.so.filter _}
 refine g.AjF _ (λe c=>?_) ?_
 ·have:=QQ (Bl.mp c).1;exact#[ok.sh e this,(ok.hi e this).1]
 ·have f:=uE {w with away:=w.away.filter λy=>decide (y≠z)};have d:({w with away:=w.away.filter λy=>decide (y≠z)}).hints.length<=s:=ok.l4;have i:=ok.l1;show w.Ls.length+_<=_;omega
def UA.AnW(ok:UA qs s w ON aw)(hL:L∈w.Ls)(b:AiG w ON L w' she')(h:s<60):UA qs (s+1) w' she' aw/\w'.Hs=w.Hs/\(w'.Ts.map λT=>D.f<|.int T.key)=(w.Ts.map λT=>D.f<|.int T.key):=by
 have j:=ok.sl L hL;cases b with
 |Anl n B hl hB=>
   refine#[?_,Y,Y];have o:=(ok.Aj6 L.num).up h;have t:=AH hB;exact {o with
    sm:=λC i=>by
     rcases G2 i with i|rfl
     ·exact ok.sm C i
     ·exact AaU (ok.sm B t) j
    la:=λM d O=>by
     let(k,l,m):=o.la M d O;exact#[k,l,by rw[CM];exact m]
    mw:=λC i=>by
     rcases G2 i with i|rfl
     ·exact o.mw C i
     ·exact#[by rw[fF];exact(ok.mw B t).1,AaV (ok.mw B t).2]
    l2:=by rw[CM];exact o.l2}
 |st T hlab hT eK hH=>
   unfold mE;rw[AG hH];by_cases r:L.PJ∈w.away
   ·rw[AG r,AG (show L.PJ∈(Pg w _).away from r)];have o:=(ok.Aj6 L.num).up h;unfold cX;split
    ·refine #[?_,Y,Y];exact {o with
      nh:=Afd o.nh _
      sh:=λe c=>by
       rcases WD c with rfl|c
       ·exact(ok.toYs.Ag1 _).join j
       ·exact ok.sh e c
      hi:=λe c=>by
       rcases WD c with rfl|c
       ·exact#[#[T,hT,eK,hH],.inr r]
       ·exact ok.hi e c
      l4:=AS (Z6 ..) (CC ok.l4)}
    ·exact#[o,Y,Y]
   ·rw[Ay r,Ay (show¬ L.PJ∈(Pg w _).away from r)];have o:=(ok.Aj6 L.num).up h;have u:=Aif (T':=Wr T L.PJ L.Ym) ok.tok hT Ahd;have g:=ok.tok.sk u;have G:∀S:LZ,(S.map λT=>D.f<|.int T.key)=(S.map lW).map λp=>D.f (.int p.1):=λS=>by rw[AO];rfl
    have A:((UZ w.Ts<|Wr T L.PJ L.Ym).map λT=>D.f<|.int T.key)=(w.Ts.map λT=>D.f<|.int T.key):=by rw[G,G,u]
    have z:∀{k:Int}{y:AA},(∃T∈w.Ts,k=T.key/\y∈T.sh.map (·.1))->∃u3∈UZ _ _,k=u3.key/\y∈u3.sh.map _:=λ⟨P,I,l,m⟩=>by
     let(E,K,H):=kX u.symm I;exact#[E,K,l.trans (congrArg Jy H).symm,by rw[show E.sh.map _=P.sh.map _ from congrArg Jx H];exact m]
    have v:UA qs _ {Pg w _ with Ts:=UZ _ _} _ aw:=
     {o with
      tok:=g
      st:=λT' a e c=>by
       rcases vL a with rfl|⟨a,_⟩
       ·unfold Wr at c;rw[AG hH]at c;rcases WD c with rfl|c
        ·exact(ok.toYs.Afy hT _).join j
        ·exact ok.st T hT e c
       ·exact ok.st T' a e c
      lt:=λM d=>(o.lt M d).imp (λ⟨l,m⟩=>#[l,z m]) id
      hi:=λe c=>#[z (ok.hi e c).1,(ok.hi e c).2]
      l6:=AS (Z6 ..) (CC ok.l6)
      ss:=λT' a y=>by
       rw[Aeq];rcases vL a with rfl|⟨a,F⟩
       ·rw[Aih hH,uL,ok.ss T hT];by_cases e:L.PJ=y
        ·rw[AG e,AG #[e,Y]]
        ·rw[Ay e,Ay λq=>e q.1];exact ok.ss T hT y
       ·rw[uL]at F;rw[Ay λq=>F q.2.symm];exact ok.ss T' a y
      s5:=λT' a=>g.bS T' a}
    by_cases x:L.Pd="put"
    ·rw[AG x];refine#[?_,Y,A];let(n,j0,N):=ok.la L hL<|.inl x;refine v.snd (v.Sr.snoc "ack" _ _ _ []) ?_ ?_ ?_ ?_
     ·intro M d;cases As.mp d;exact OW.nil
     ·intro M d;cases As.mp d;exact .inr Y
     ·intro M d _;cases As.mp d;exact#[n,j0,N]
     ·rw[AM];have l:(Pg w L.num).Ls.length<=70*s:=(ok.Aj6 _).l1;show(Pg w _).Ls.length+1<=_;omega
    ·rw[Ay x];exact#[v,Y,A]
end
open PySem.SeqAt PySem.MeetsSeq PySem.MeetsSeq2 PySem.MeetsSeq3
open PySem.AutoSeq1 (wpAny_loadPart')
def Ac8 {P:Program} {w:World} (l b:Addr) (xs ys:Array Value) (nx ny:Nat) (dx dy:Option Addr) (sx sy:Array (Option Value)) (same:xs.size=ys.size):MeetsIn P w (Builtin.«tuple.__eq__» #[[.ref l,.ref b],[]]) (fun A R s=>
  (s.heap.get? l=some {cls:=.type "tuple",dict:=dx,data:=.seq xs nx,slots:=sx}/\s.heap.get? b=some {cls:=.type "tuple",dict:=dy,data:=.seq ys ny,slots:=sy}) /\
  (∀ j (g1:j < xs.size) (g2:j < ys.size),Adm P w A.in1 s xs[j] ys[j])/\R (.ok<|.ret<|.bool true) s):=by
 rintro A R ⟨v,g,d,r,t⟩ ⟨⟨z,q⟩,E,h⟩;have H:=AutoSeq1.sub_tuple_tuple;have C:(xs.toList.zip ys.toList).length=min xs.size ys.size:=by simp
 wp_walk using wpAny_loadPart' z,wpAny_loadPart' q,wpAny_forIn_list _ (fun a b m=>b.1=none/\m=#[v,g,d,r,t]/\∃ i,a=(xs.toList.zip _).drop i) _
 case turn=>
  rintro ⟨y,x⟩ a b m ⟨k,rfl,i,f⟩;have c:i < (xs.toList.zip ys.toList).length:=by
   rcases Nat.lt_or_ge i _ with n | n
   ·exact n
   ·rw[List.drop_of_length_le n] at f;cases f
  have o:=C▸c;have u:=Nat.lt_of_lt_of_le o (Nat.min_le_left _ _);have p:=Nat.lt_of_lt_of_le o (Nat.min_le_right _ _);rw[List.drop_eq_getElem_cons c] at f;injection f with hyx hrest;have B:y=xs[i]:=by have:=congrArg Prod.fst hyx;simpa using this
  have D:x=ys[i]:=by have:=congrArg Prod.snd hyx;simpa using this
  subst B D;refine wpAny_bind (E i u p _ _ ?_)
  wp_walk
  exact ⟨rfl,rfl,i+1,hrest⟩
 case fin=>
  rintro ⟨F,G⟩ m ⟨k,rfl,i,f⟩;subst k
  wp_walk
  have e:Builtin.Tuple.tupleCompareSizes .Eq xs.size ys.size=.bool true:=by simp[Builtin.Tuple.tupleCompareSizes,same]
  rw[e];exact h
 case h=>exact #[Y,Y,0,Y]
section
variable{X:Cx}{pins:Ly}{J:St}{H:Hp}{s:Au}
def AdY{A:BQ}(I:Inv X pins J H s)(hu:A.units+16<Cd){ks js:List (Key×DV)}{v w:V}{u u':Ai}(r1:VA X.K H (.AaD ks) v)(r2:VA X.K H (.AaD js) w)(f:mR js ks=Af)(hz:iM ks<=8)(ek:Adr ks js=Af)(ru:RelV v u)(ru':RelV w u'):Adm X.prog X.w A s u u':=by
 let(a,k,C,D,g):=r1;let(b,i,r,z,c):=r2;rw[C]at ru;rw[r]at ru';cases ru;cases ru';let(G,p,t,d,n):=Qy I.N5 D;let(F,j,o,h,B):=Qy I.N5 z;have x:=AE d;have l:=AE h;have y:=g.length;have m:=c.length;refine Adm.refs λE Q q=>?_
 refine PySem.W.keq_eq p j n B M6 (λ_=>jL I (by show A.units+1+9<Cd;omega) c h g d f hz) ?_;have e:(t.length==o.length&&Wm js ks)=Af:=by rw[<-ek];unfold Adr;rw[<-x,<-l,<-y,<-m]
 rw[e];exact q
def Ala(K:Ab)(H:Hp)(v w:V):Prop:=(v=w/\O6 v=Af)\/∃ks js,VA K H (.AaD ks) v/\VA K H (.AaD js) w/\mR js ks=Af/\iM ks<=8/\Adr ks js=Af
def AgU{A:BQ}(I:Inv X pins J H s)(hu:A.units+16<Cd){v w:V}{u u':Ai}(h:Ala X.K H v w)(ru:RelV v u)(ru':RelV w u'):Adm X.prog X.w A s u u':=by
 rcases h with⟨rfl,f⟩|⟨g,e,c,a,f,d,b⟩
 ·intro E Q q;have:=iR (A:=A) (s:=s) ru ru' f f;rw[Zw f]at this;exact this _ _ E Q q
 ·exact AdY I hu c a f d b ru ru'
def AdZ{A:BQ}(I:Inv X pins J H s)(hu:A.units+20<Cd){p q:Ag}{vs ws:Lx}(h1:P5 X.K H p vs)(h2:P5 X.K H q ws)(hp:Paired (Ala X.K H) vs ws):Adm X.prog X.w A s (.ref p) (.ref q):=by
 let(j0,r,R,_):=I.tuple h1;let(b,B,t,_):=I.tuple h2;have l1:=r.length;have l2:=B.length;have y0:=AE hp;let((W,m,M,o),a,x,T,i):=id R;let((Z,g,N,n),c,l,V,d):=id t;subst x i l d;have h:j0.toArray.size=b.toArray.size:=by simp only[Aq];omega
 refine Adm.refs λE Q k=>?_
 refine Hw #[_,a,Y] #[_,c,Y] F.slot_tuple_eq (Dd F.slot_tuple_eq #[_,a,Y] F.entry_tuple_eq (F.args_tuple_eq_2 _ _) (Ac8 p q _ _ T V m g o n h) #[#[a,c],?_,?_]) M6
 ·intro j D C;simp only[Aq]at D C;let(u,e,u3):=r.get<|Ae (show j<vs.length by omega);let(P,f,v):=B.get<|Ae _;have S:j0.toArray[j]=u:=by
   have:=Ae D;rw[e]at this;simpa using(AK this).symm
  have O:b.toArray[j]=P:=by have:=Ae C;rw[f]at this;simpa using(AK this).symm
  rw[S,O];let(y,G,L):=Z4 hp<|Ae _;rw[Ae (show j<ws.length by omega)]at G;cases G;exact AgU I (by show A.units+1+16<Cd;omega) L u3 v
 ·exact#[(λz=>nomatch z),k]
def AeH(hu:X.A.units+64<Cd){K₀:Ab}{NR:Hp}[hK:N3 X K₀ NR]:RU X (Be .NotEq) (λx y H Q=>∃p q vs ws,x=.ref p/\y=.ref q/\Pb K₀ H p vs/\Pb K₀ H q ws /\
  Paired (λv w=>∃a b as bs,v=.ref a/\w=.ref b/\P5 K₀ H a as/\P5 K₀ H b bs/\Paired (Ala K₀ H) as bs) vs ws/\Q (.bl An) H):=by
 let(rfl,rfl):=hK;intro P s J H x y v u Q I rx ry h;let(p,q,vs,ws,rfl,rfl,W,T,M,k):=h;cases rx;cases ry;let(G,r,pl,_):=I.list W;let(c,K,j0,_):=I.list T;have l1:=r.length;have l2:=K.length;have l3:=AE M;let((c1,C,V,E),d,m,n1,f):=pl.isList;let((c2,t,y0,D),l,g,n2,e):=j0.isList;simp only at m f g e;subst m f g e;have B:G.toArray.size=c.toArray.size:=by simp only[Aq];omega
 refine Hw (op:=.NotEq) #[_,d,Y] #[_,l,Y] F.slot_list_ne (Dd F.slot_list_ne #[_,d,Y] F.entry_list_ne (F.args_list_ne_2 _ _) (Aez p q G.toArray c.toArray n1 n2 C t E D B) #[#[d,l],?_,?_]) M6
 ·intro j N L;simp only[Aq]at N L;let(u,n,R):=r.get<|Ae (show j<vs.length by omega);let(u',o,i):=K.get<|Ae (show j<ws.length by omega);have e1:G.toArray[j]=u:=by
   have:=Ae N;rw[n]at this;simpa using(AK this).symm
  have e2:c.toArray[j]=u':=by have:=Ae L;rw[o]at this;simpa using(AK this).symm
  rw[e1,e2];let(y,O,a,b,as,bs,ea,Z,t1,S,u3):=Z4 M<|Ae (show j<vs.length by omega);rw[Ae (show j<ws.length by omega)]at O;cases O;rw[ea]at R;rw[Z]at i;cases R;cases i;exact AdZ I (by show X.A.units+1+20<Cd;omega) t1 S u3
 ·exact#[(λz=>nomatch z),.bl An,H,I,Y,k]
end
section
variable{X:Cx}{K:Ab}{T:US}{F:Lv}{S:NW}{H:Hp}
def rB(e:QU)(a:Ag):D:=.t [.f<|.str e.1.1,.f<|.str e.1.2.1,.f<|.int e.1.2.2,.f<|.ref a]
def AfM(S:NW)(d:D)(e:QU):Prop:=d=UW e\/∃a r,d=rB e a/\S a=U (r,.d<|Pp e.2)
def AfM.tup(h:AfM S d e)(R:Rp K T F H S L)(w:VD K F S H d v):∃a x kvs,v=.ref a/\P5 K H a [.str e.1.1,.str e.1.2.1,.int e.1.2.2,.ref x]/\Rd H x (.dK kvs)/\Ado K H e.2 kvs:=by
 rcases h with rfl|⟨a,r,rfl,k⟩
 ·obtain ⟨a,j,rfl,f,c⟩:=TC.mp w;cases c with
  |cons w1 c=>
    cases c with
    |cons w2 c=>
      cases c with
      |cons w3 c=>
        cases c with
        |cons w4 c=>cases c;let(x,kvs,rfl,l,_,m):=tD w4;rw[N1.mp w1,N1.mp w2,N1.mp w3]at f;exact#[a,x,kvs,Y,P5.of f,l,m]
 ·obtain ⟨b,j,rfl,f,c⟩:=TC.mp w;cases c with
  |cons w1 c=>
    cases c with
    |cons w2 c=>
      cases c with
      |cons w3 c=>
        cases c with
        |cons w4 c=>cases c;let(kvs,i,g):=R.st a r _ k;rw[N1.mp w1,N1.mp w2,N1.mp w3,N1.mp w4]at f;exact#[b,a,kvs,Y,P5.of f,i.rd,AcY g]
def AlS:D2:=λd e _ S Q=>∃xs ys hs,QH S d (.l xs)/\QH S e (.l ys)/\Paired (AfM S) xs hs/\Paired (AfM S) ys hs/\(∀e∈hs,(e.2.map (·.1)).Nodup)/\Q (.f<|.bl An) S
def AhW{xs ys:Lz}{hs:LK}{vs ws:Lx}(R:Rp K T F H S L)(h1:Paired (AfM S) xs hs)(h2:Paired (AfM S) ys hs)(w1:V6 K F S H xs vs)(w2:V6 K F S H ys ws)(nd:∀e∈hs,(e.2.map (·.1)).Nodup):
  Paired (λv w=>∃a b as bs,v=.ref a/\w=.ref b/\P5 K H a as/\P5 K H b bs/\Paired (Ala K H) as bs) vs ws:=by
 induction h1 generalizing ys vs ws with
 |nil=>cases h2;cases w1;cases w2;exact .nil
 |@cons x e xs hs q1 _ ih=>
   cases h2 with
   |cons q2 h2=>
     cases w1 with
     |cons u1 w1=>
       cases w2 with
       |cons u2 w2=>
         refine .cons ?_<|ih h2 w1 w2 λe g=>nd e<|.tail _ g
         let(a,x,l,rfl,f,j,k):=q1.tup R u1;let(b,y,i,rfl,d,c,h):=q2.tup R u2;have n:=nd e<|.head _;refine#[a,b,_,_,Y,Y,f,d,.cons (.inl #[Y,Y])<|.cons (.inl #[Y,Y])<|.cons (.inl #[Y,Y])<|.cons (.inr #[Xd e.2,Xd e.2,?_,?_,sZ _ _,sY _,AfV n n λ_=>rfl]) .nil]
         ·exact#[x,l,Y,j,k]
         ·exact#[y,i,Y,c,h]
def Akj{n:Nat}{NR:Hp}[N3 X K NR](hr:N8 n X.A):V4 X K T (Be .NotEq) AlS:=#[_,AeH hr.units,λF S H Q u d e x y R c f⟨w,v,z,g,t,l,s,i,h⟩k=>by
 let(a,rfl,o,q,j):=(R.one c).is (Oz g c);let(b,rfl,r,p,m):=(R.one f).is (Oz t f);exact#[a,b,o,r,Y,Y,q,p,AhW R l s j m i,k.flat R h]]
def vG(hs:LK):Paired (AfM S) (hs.map UW) hs:=by
 induction hs with
 |nil=>exact .nil
 |cons e hs a=>exact .cons (.inl Y) a
def Ads(t:Lx):DV:=.tup (t.map .fl)
def qU:∀{t:Lx},t.all O6=Af->DV.eqs (t.map .fl) (t.map .fl)=Af/\DV.fits (t.map .fl) (t.map .fl)=Af/\DV.TF (t.map .fl)<=0
 |[],_=>#[Y,Y,Ao _]
 | x::t,h=>by
   rw[Ct,Bf]at h;let(a,b,c):=qU (t:=t) h.2;rw[Az,DV.eqs,DV.fits,DV.TF,DV.eq,DV.fit,DV.dep,Zw h.1,a,b];exact#[Y,Y,KY.mpr #[Ao _,c]]
def uG:∀{ts:Mt},(∀t∈ts,t.all O6=Af)->DV.eqs (ts.map Ads) (ts.map Ads)=Af/\DV.fits (ts.map Ads) (ts.map Ads)=Af/\DV.TF (ts.map Ads)<=1
 |[],_=>#[Y,Y,Bv _]
 | x::ts,h=>by
   let(a,b,c):=uG (ts:=ts) λt f=>h t<|.tail _ f
   let(e,d,g):=qU<|h x<|.head _;rw[Az];unfold Ads at *;rw[DV.eqs,DV.fits,DV.TF,DV.eq,DV.fit,DV.dep,a,b,e,d];exact#[Y,Y,KY.mpr #[CC g,c]]
def Zg{K:Ab}{F:Lv}{S:NW}{H:Hp}:∀{t:Lx}{vs:Lx},t.all O6=Af->V6 K F S H (t.map .f) vs->P1 K H (t.map .fl) vs
 |[],vs,_,h=>by cases h;rw[DU,P1];exact Bk
 | x::t,vs,f,h=>by
   rw[Ct,Bf]at f;cases h with
   |cons h1 h2=>rw[Az,P1,VA];exact#[#[N1.mp h1,f.1],Zg f.2 h2]
def Z7{K:Ab}{F:Lv}{S:NW}{H:Hp}:∀{ts:Mt}{vs:Lx},(∀t∈ts,t.all O6=Af)->V6 K F S H (ts.map λt=>.t<|t.map .f) vs->P1 K H (ts.map Ads) vs
 |[],vs,_,h=>by cases h;rw[DU,P1];exact Bk
 | x::ts,vs,f,h=>by
   cases h with
   |cons h1 h2=>rw[Az,P1];refine#[?_,Z7 (λt c=>f t<|.tail _ c) h2];let(a,d,rfl,e,b):=TC.mp h1;unfold Ads;rw[VA];exact#[a,d,Y,P5.of e,Zg (f x<|.head _) b]
def AgL(neg:Bool):D2:=λd e _ S Q=>∃ts:Mt,QH S d (.l<|ts.map λt=>.t<|t.map .f)/\QH S e (.l<|ts.map λt=>.t<|t.map .f)/\(∀t∈ts,t.all O6=Af)/\Q (.f<|.bl<|!neg) S
def Ajy(neg:Bool):D2:=λd e _ S Q=>∃t:Lx,QH S d (.l<|t.map .f)/\QH S e (.l<|t.map .f)/\t.all O6=Af/\Q (.f<|.bl<|!neg) S
def Ahk{neg:Bool}:Aaj K T (Afl K neg) (AgL neg):=λF S H Q v d e x y R c i⟨g,j,t,f,h⟩k=>by
 let(a,rfl,o,q,l):=(R.one c).is (Oz j c);let(b,rfl,r,p,n):=(R.one i).is (Oz t i);let(m,s,u):=uG f;refine#[.lst<|g.map Ads,.lst<|g.map Ads,?_,?_,?_,nofun,?_,?_]
 ·exact#[a,o,Y,q,Z7 f l]
 ·exact#[b,r,Y,p,Z7 f n]
 ·exact s
 ·rw[DV.dep];omega
 ·rw[DV.eq,m];have e:(if neg=Af then !true else Af)=!neg:=by cases neg<;>rfl
  rw[e];exact k.flat R h
def Ahi{neg:Bool}:Aaj K T (Afl K neg) (Ajy neg):=λF S H Q v d e x y R c g⟨t,i,s,f,h⟩k=>by
 let(a,rfl,n,p,j):=(R.one c).is (Oz i c);let(b,rfl,q,o,m):=(R.one g).is (Oz s g);let(l,r,u):=qU f;refine#[.lst<|t.map .fl,.lst<|t.map .fl,?_,?_,?_,nofun,?_,?_]
 ·exact#[a,n,Y,p,Zg f j]
 ·exact#[b,q,Y,o,Zg f m]
 ·exact r
 ·rw[DV.dep];omega
 ·rw[DV.eq,l];have e:(if neg=Af then !true else Af)=!neg:=by cases neg<;>rfl
  rw[e];exact k.flat R h
def Akh{n:Nat}{NR:Hp}[N3 X K NR](hr:N8 n X.A):V4 X K T (Be .Eq) (AgL An):=#[_,AhE hr.units,Ahk]
def Aki{n:Nat}{NR:Hp}[N3 X K NR](hr:N8 n X.A):V4 X K T (Be .NotEq) (Ajy Af):=#[_,AhI hr.units,Ahi]
def Ajz(neg:Bool):D2:=λd e _ S Q=>∃E,d=OK E/\e=OK E/\(E.map (·.1)).Nodup/\Q (.f<|.bl<|!neg) S
def Ahj{neg:Bool}:Aaj K T (AkC K neg) (Ajz neg):=λF S H Q r d e x y R g n⟨E,p,q,c,h⟩k=>by
 subst p q;let(a,o,rfl,l,_,m):=tD g;let(b,j,rfl,f,_,i):=tD n;refine#[Xd E,Xd E,?_,?_,sZ _ _,sY _,?_]
 ·exact#[a,o,Y,l,m]
 ·exact#[b,j,Y,f,i]
 ·rw[AfV c c λ_=>rfl];have e:(if neg=Af then !true else Af)=!neg:=by cases neg<;>rfl
  rw[e];exact k.flat R h
def Akk{n:Nat}{NR:Hp}[N3 X K NR](hr:N8 n X.A):V4 X K T (Be .NotEq) (Ajz Af):=#[_,AhH hr.units,Ahj]
def Aka:DM:=λd ds F S Q=>ds=[]/\∃a r ks,d=.f (.ref a)/\S a=U (r,.d ks)/\a∉F/\Q (.f .Of) (NP S a (r,.d []))
def Abw:Agy X K T "dict.clear" Aka:=#[_,yB,λF S H Q l d x p m R w j⟨c,a,r,q,e,b,n,h⟩k=>by
 subst e c;cases N1.mp w;cases j;let(i,g,o):=R.dk b n;exact#[a,i,Y,Y,g,k _ _ _ _ (Px.set R b) (R.PM b .nil) .f h]]
def AmP:DN:=λds _ S Q=>∃a r xs,ds=[.f<|.ref a,.f<|.ty "list"]/\S a=U (r,.l xs)/\Q (.f<|.bl Af) S
def Ajc{NR:Hp}[N3 X K NR]:RH X K T (.builtin "isinstance") AmP:=#[_,QK,λF S H Q i n j R g⟨a,r,o,e,c,h⟩k=>by
 subst e;let(v,u,rfl,b,f):=Adf g;cases N1.mp b;cases N1.mp f;let(l,d,m):=R.st a r _ c;exact#[.ref a,"list",.type "list",Af,Y,.lst d,M7,k.flat R h]]
end
def vK{S:NW}(n:a≠b):NP (NP S a x) b y=NP (NP S b y) a x:=by
 funext c
 unfold NP;by_cases h:c=a
 ·rw[Ay (by rw[h];exact n),AG h,AG h]
 ·rw[Ay h,Ay h]
def AnR(S:NW)(F:Lv)(p:Ag)(sr:LK)(i:Nat)(ys:Lz)(S':NW):Prop:=match i with
 |0=>ys=[]/\S'=NP S p (.own 0,.l [])
 |i+1=>∃e r a,sr=e::r/\S a=Ah/\a∉F/\a≠p/\ys=rB e a::(r.take i).map UW/\S'=NP (NP S p (.own 0,.l ys)) a (.own 0,.d<|Pp e.2)
structure Agz(S S1:NW)(sr:LK)(p:Ag)(xs:Lz):Prop where
 at':S1 p=U (.own 0,.l xs)
 rd:Paired (AfM S1) xs sr
 fst:∀e r,sr=e::r->∃a r',xs=rB e a::r'/\S1 a=U (.own 0,.d<|Pp e.2)/\a≠p
 kp:∀c r o,S c=U (r,o)->S1 c=U (r,o)
def Agz.nil{S:NW}{p:Ag}(hp:S p=Ah):Agz S (NP S p (.own 0,.l [])) [] p []:=#[NO,.nil,nofun,λc r o e=>(NJ λz=>by rw[z,hp]at e;cases e).trans e]
def Agz.cons{S:NW}{p a:Ag}{e:QU}{r:LK}(hp:S p=Ah)(ha:S a=Ah)(n:a≠p):Agz S (NP (NP S p (.own 0,.l (rB e a::r.map UW))) a (.own 0,.d<|Pp e.2)) (e::r) p (rB e a::r.map UW):=
 #[(NJ<|Ax n).trans NO,.cons (.inr #[a,.own 0,Y,NO]) (by
  induction r with
  |nil=>exact .nil
  |cons x r b=>exact .cons (.inl Y)<|vG r),λf g h=>by cases h;exact#[a,_,Y,NO,n],
  λc r o e=>(NJ λz=>by rw[z,ha]at e;cases e).trans ((NJ λz=>by rw[z,hp]at e;cases e).trans e)]
section
variable{B:LR->Ag}{M:qI}{S S1:NW}{C:WC}{i:Nat}{A:WR->Ag}{w:PR}
def Ob.kp(h:Ob C i A w S)(k:∀c r o,S c=U (r,o)->S1 c=U (r,o)):Ob C i A w S1:=λx o e=>k _ _ _ (h x o e)
def P6.kp(h:P6 B M S)(k:∀c r o,S c=U (r,o)->S1 c=U (r,o)):P6 B M S1:=λx=>k _ _ _ (h x)
def Ob.o0(h:Ob C i A w S)(ha:S a=U (.own n,o)):Ob C i A w (NP S a x):=λy o e=>(NJ<|bD (h y o e) ha nofun).trans (h y o e)
def P6.o0(h:P6 B M S)(ha:S a=U (.own 0,o)):P6 B M (NP S a x):=λy=>(NJ<|bD (h y) ha (by cases y<;>nofun)).trans (h y)
end
def AdK{α:Type}(x:α)(xs:List α):cA (x::xs) (U 1) Ah=xs:=by
 unfold cA;have a:HT.Q9 (x::xs).length 0 (U 1)=1:=by simp[HT.Q9]
 have b:HT.Q9 (x::xs).length (x::xs).length Ah=xs.length+1:=by rfl
 rw[a,b];show(xs.take _)=xs;rw[Nat.add_sub_cancel,BA]
def Alq(L:Lt):Lx:=[.int L.num,.str L.Pd,oI L.ask,.str L.PJ,.int L.key]
def Aib(L:Lt):(Alq L).all O6=Af:=by unfold Alq;cases L.ask<;>rfl
def vH(Ls:Mh):Ls.map AiU=(Ls.map Alq).map λt=>D.t (t.map .f):=by rw[AO];rfl
def AhV{α β:Type}{G:α->β->Prop}{as:List α}{bs:List β}(h:Paired G as bs):as.isEmpty=bs.isEmpty:=by cases h<;>rfl
def nJ{P:Bool->NW->Prop}{S:NW}(h:P An S):Ag6 P (.f<|.bl<|!true) S:=h
def Aau{A B:Prop}(h:B):QT An A B:=h
def Aji:D2:=λd e _ S Q=>∃xs ys,d=.t xs/\e=.t ys/\D1 (xs.length+ys.length) 1000=Af/\Q (.t<|xs++ys) S
def Ahz{X:Cx}{K:Ab}{T:US}{NR:Hp}[N3 X K NR]:V4 X K T (Ci .Add) Aji:=#[_,AeF,λF S H Q A d e x y R m q⟨C,B,v,w,l,h⟩k=>by
 subst v w;have c:=m;have f:=q;let(a,s,rfl,t,g):=TC.mp m;let(b,r,rfl,u,i):=TC.mp q;refine#[a,b,s,r,Y,Y,P5.of t,P5.of u,by rw[<-AE g,<-AE i];exact le_size l,λz=>?_,λ_ z=>?_,λ_ _ p j=>?_]
 ·subst z;cases g;exact k _ _ _ _ .refl R f h
 ·subst z;cases i;rw[B7]at h;exact k _ _ _ _ .refl R c h
 ·have o:=R.yD j (sA g i);exact k _ _ _ _ (Px.Py ((NV.refl H).upd j).n) o.nil o.hd h]
section
variable{X:Cx}{K:Ab}{T:US}{ta:DA}{g:DG}{tb:DS}{pos p1 p2:CU}{tg a b:Expr}{body:LY}
def Afp[U1 X](hg0:Gl X "range")(hm:X.mg "range"=Ah)(ha:PA X [a] (jR K T ta))(hg:PG X tg (rK K T g))(hb:Q6 X body (RD K T tb))(h1:AL [a] X.env=[(An,eval a X.env)]:=by rfl)(hs:∀x,BC (.Call (.Name "range" p1) [a] [] p2) X.env x=pure x:=by intro _;rfl):PS X (.For tg (.Call (.Name "range" p1) [a] [] p2) body [] pos) (RD K T<|Ajn ta g tb):=(Qr (UM hg0 hm ha h1) hg hb hs).imp λE J H⟨F,b,S,r,R,c,q,k⟩=>#[F,b,S,_,R,c,q,λs o n m p i d⟨j,e,f,l,h⟩=>by
  subst e;let(v,rfl,w):=RA d;cases N1.mp w;exact#[j,Y,f,l,nV i (c.px p) (k.px p) h]]
def Afo[U1 X](hg0:Gl X "range")(hm:X.mg "range"=Ah)(ha:PA X [a,b] (jR K T ta))(hg:PG X tg (rK K T g))(hb:Q6 X body (RD K T tb))(h1:AL [a,b] X.env=[(An,eval a X.env),(An,eval b X.env)]:=by rfl)(h2:AL [b] X.env=[(An,eval b X.env)]:=by rfl)(hs:∀x,BC (.Call (.Name "range" p1) [a,b] [] p2) X.env x=pure x:=by intro _;rfl):PS X (.For tg (.Call (.Name "range" p1) [a,b] [] p2) body [] pos) (RD K T<|AgI ta g tb):=(Qr (yS hg0 hm ha h1 h2) hg hb hs).imp λE J H⟨F,c,S,y,R,d,q,k⟩=>#[F,c,S,_,R,d,q,λs t r o p m n⟨i,j,e,l,h⟩=>by
  subst e;let(v,u,rfl,w,f):=Adf n;cases N1.mp w;cases N1.mp f;exact#[i,j,Y,l,nV m (d.px p) (k.px p) h]]
end
abbrev xI(Hs:Q5):LI:=Hs.map λe=>(.inr e.1,.t<|e.2.map λn=>.f<|.int n)
def Afe(Hs:Q5)(n:AA)(ps:LD):putD (xI Hs) (.inr n) (.t<|ps.map λn=>.f<|.int n)=xI (cZ Hs n ps):=by
 rw[SS Hs (n,ps)];unfold P2 cZ;have e:∀y:AA×LD,((.inr y.1:Key)=.inr n)=(y.1=n):=λy=>propext #[λe=>by injection e,λe=>by rw[e]]
 simp only[e];split
 ·refine congrArg xI (Bp λy _=>?_);split
  ·rename_i h;rw[h]
  ·rfl
 ·rfl
def Adc(Hs:Q5)(n:AA):∃old:LD,(OB (xI Hs)<|.inr n).getD (.t [])=.t (old.map λn=>.f<|.int n)/\((n,old)∈Hs\/old=[]):=by
 rw[P0];cases q:Hs.find? λe=>decide ((.inr e.1:Key)=.inr n)with
 |none=>exact#[[],Y,.inr Y]
 |some e=>have b:=BS q;have c:=E6 q;have a:=B2 c;injection a with a;exact#[e.2,Y,.inl (by rw[<-a];exact b)]
end
section
variable{X:Cx}{K:Ab}{T:US}
def AmR:DN:=λds _ S Q=>∃i j:Int,ds=[.f<|.int i,.f<|.int j]/\Q (.f<|.int (if j<i then j else i)) S
def AgE(hc:X.calm=Af):RH X K T (.builtin "min") AmR:=#[_,wU hc,λF S H Q d g f R c⟨i,j,e,h⟩k=>by
 subst e;let(v,u,rfl,a,b):=Adf c;cases N1.mp a;cases N1.mp b;exact#[i,j,Y,k.flat R h]]
def Ahr:DM:=λd ds F S Q=>∃z y:AA,d=.f (.str z)/\ds=[.f<|.str y]/\y.length≠0/\z.length<=1000000/\aw F (U0<|CO z y) Q S
def m_split:Agy X K T "str.split" Ahr:=#[_,nZ,λF S H Q j d x m l R w g⟨z,y,c,i,f,e,h⟩k=>by
 subst c i;cases N1.mp w;let(v,rfl,a):=RA g;cases N1.mp a;exact#[z,y,Y,Y,f,e,λp b=>R.aw (o:=U0 _) b Y (λr=>#[_,NQ,Xc _]) h k]]
abbrev Ajr(src:LC)(n:Nat)(ta:DA)(tt:DT)(te:DE):DE:=λF loc S Q=>ta F loc S λds S1=>∃j:Int,ds=[.f<|.int j]/\-(2 ^ 62)<=j/\j<2 ^ 62/\∀p,S1 p=Ah->p∉F->AfJ F ((Ba j.toNat).map λ(i:Nat)=>.f<|.int<|0+(i:Int)) src n tt te loc S1 p (λ_=>True) Q
def Ahh{src:LC}{n:Nat}{ta:DA}{te:DE}{tt:DT}(hn:src[n]?=U Ah):lf K T (Ajr src n ta tt te) J H Q->AkR src (Af2<|jR K T ta) (U4 n) (V0 K T tt) (lf K T te) J H Q:=λ⟨F,L,S,Q',R,j0,q,k⟩=>
 #[F,L,S,_,R,j0,q,λds G c vs A B ws⟨j,e,j1,j2,hw⟩=>by
  subst e;let(v,rfl,w):=RA ws;cases N1.mp w;refine#[j,Y,j1,j2,λD g=>?_];let(W,h0,hk,u,M):=hw D (B.free g) λm=>B.fd D m g
  have O:NV c (upd c D<|.lst []):=(NV.refl c).upd g;have t:Px F G c F (NP G D (.own 0,.l [])) (upd c D<|.lst []):=Px.own O g;have ll:((Ba j.toNat).map λ(i:Nat)=>L2.D.f<|.int<|0+(i:Int)).length=j.toNat:=by rw[Ac,BX]
  refine#[λi m zs C=>∃h a,m=j.toNat-i/\i<=j.toNat/\Rp K T F C a []/\W i h a/\Px F G c F a C,#[j.toNat,[],_,Y,Bv _,B.own (o:=.l []) O g (.own 0) #[[],NQ,.nil],h0,t],?_];rintro i m zs C⟨h,a,rfl,aa,u3,V,d⟩;by_cases p:i<j.toNat
  ·refine .inr #[p,λx H3 hy=>?_];let(rfl,rfl):=hy;refine#[AcZ hn J _,F,_,a,_,u3,(UG<|j0.px<|A.trans d).set .f,u i _ h a (by rw[Aj,Eh p];rfl) V,λb Z H3 s N X=>?_];cases b with
   |false=>rw[Ay AQ];exact#[j.toNat-(i+1),M6,h,Z,Y,p,N,X,d.trans s]
   |true=>rw[AG Y];refine#[F,_,Z,_,N,(UG<|j0.px<|A.trans<|d.trans s).set .f,X,λy S4 H4 v4 p4 E w4⟨r,I,y0,z⟩=>?_];let(us,g1,P):=E.st D r _ I;refine#[us,g1,by rw[<-AE P,Bb];omega,j.toNat-(i+1),M6,_,_,Y,p,E.zO I<|Ze P w4,z,(d.trans s).trans (p4.trans<|Px.set E I)]
  ·have e:i=j.toNat:=M6;subst e;rw[ll]at M;exact .inl #[Ao _,(k.px A).fz _ _ _ _ d u3 .f (M h a V)]]
variable{elt tg a:Expr}{ifs:LJ}{scope:Scope}{pos p1 p2:CU}{Nc:Lw}{src:LC}{ta:DA}{te:DE}{tt:DT}{n:Nat}
def AcQ{i₀:Nat}{x₀:AA}{pos₀ spos:CU}(hN:X.N.Nodup)(hi₀:X.N[i₀]?=U x₀)(hx₀:Loc X.env.scope x₀)(hcalm:X.calm=Af)(hg0:Gl X "range")(hm:X.mg "range"=Ah)(ha:PA X [a] (jR K T ta))(hkind:scope.kind=.function)(hcell:∀y∈scope.names,y.2≠.cell)(hfr:∀y∈scope.names,y.2=.free->X.env.kindOf y.1=U .cell\/X.env.kindOf y.1=U .free)(hnames:∀x∈scope.names,x.2=.local->scope.names.lookup x.1=U .local)(caps:Qu X scope Nc src)(hg:∀fp s H,PG (Oo X scope Nc fp s H) tg<|U4 n)(ht:∀fp s H,Adn (Oo X scope Nc fp s H) ifs<|V0 K T tt)(he:∀fp s H,PE (Oo X scope Nc fp s H) elt<|lf K T te)(hn:src[n]?=U Ah:=by rfl)(h1:AL [a] X.env=[(An,eval a X.env)]:=by rfl)(hs:∀x,BC (.Call (.Name "range" p1) [a] [] p2) X.env x=pure x:=by intro _;rfl)(hsw:swapsWith (.ListComp elt [#[tg,.Call (.Name "range" p1) [a] [] p2,ifs,0]] scope pos) (U<|.Name x₀ pos₀) spos.line X.env=pure Af:=by rfl)(hf₀:X.fn x₀=Af\/X.env.scope.names.lookup x₀=U .local:=by first|exact .inl rfl|exact .inr rfl|assumption):PS X (.Assign [.Name x₀ pos₀] (.ListComp elt [#[tg,.Call (.Name "range" p1) [a] [] p2,ifs,0]] scope pos) spos) (RD K T<|AaB (Ajr src n ta tt te) i₀):=(Wz hN hi₀ hx₀ hcalm (UM hg0 hm ha h1) hkind hcell hfr hnames caps hg ht he hs hsw hf₀).imp λE J H⟨F,b,S,i,R,c,q,k⟩=>Ahh hn #[F,b,S,_,R,c,q,λd f e v p g w h=>k.nx _ f e _ p g ((c.px p).set w) h]
variable{l:Expr}{g:DG}{tb:DS}{body:LY}
def Ak9(F:Lv)(xs:Lz)(g:DG)(tb:DS)(D:qH)(loc:Lc)(S:NW):Prop:=∃I:Nat->Lc->NW->Prop,I 0 loc S /\
 (∀i x loc S,xs[i]?=U x->I i loc S->g (.t [.f<|.int (i:Nat),x]) loc S λloc S=>tb F #[I<|i+1,D.rt,D.nx,I<|i+1] loc S)/\∀loc S,I xs.length loc S->D.nx loc S
def Ak9.mk{xs:Lz}{D:qH}{loc:Lc}{S:NW}(I:Nat->Lc->NW->Prop)(h0:I 0 loc S)(hs:∀i x loc S,xs[i]?=U x->I i loc S->g (.t [.f<|.int (i:Nat),x]) loc S λloc S=>tb F #[I<|i+1,D.rt,D.nx,I<|i+1] loc S)(hd:∀loc S,I xs.length loc S->D.nx loc S):Ak9 F xs g tb D loc S:=#[I,h0,hs,hd]
abbrev Ajl(t:DA)(g:DG)(tb:DS):DS:=λF D loc S=>t F loc S λds S1=>∃xs,ds=[.l xs]/\Ak9 F xs g tb D loc S1
def Aic[U1 X]{NR:Hp}[N3 X K NR]{elts:LJ}{x1}{tpos:CU}(hg0:Gl X "enumerate")(hm:X.mg "enumerate"=Ah)(ha:PA X [l] (jR K T ta))(hg:PG X (.Tuple elts x1 tpos) (rK K T g))(hb:Q6 X body (RD K T tb))(h1:AL [l] X.env=[(An,eval l X.env)]:=by rfl)(hs:∀x,BC (.Call (.Name "enumerate" p1) [l] [] p2) X.env x=pure x:=by intro _;rfl):PS X (.For (.Tuple elts x1 tpos) (.Call (.Name "enumerate" p1) [l] [] p2) body [] pos) (RD K T<|Ajl ta g tb):=(Qr (AeX hg0 hm ha h1) hg hb hs).imp λE J H⟨F,h,S,D',R,N,q,k⟩=>#[F,h,S,_,R,N,q,λds D P vs p u3 ws⟨V,e,I,h0,B,y0⟩=>by
  subst e;let(v,rfl,w):=RA ws;let(a,rfl,us,h1,u,ls):=jT u3 (.inl Y) w;have j0:=k.px p;let Pv:Nat->St->Hp->Prop:=λi J H=>∃h S,Rp K T F H S []/\Lo K F S H h J/\I i h S/\Px F D P F S H
  have hP:∀i h S J H,Rp K T F H S []->Lo K F S H h J->I i h S->Px F D P F S H->Pv i J H:=λi h S J H a b c d=>#[h,S,a,b,c,d]
  refine#[a,us,Y,h1,AaP Pv #[h,D,u3,N.px p,h0,.refl] (λi J H _⟨_,_,s,_,_,r⟩=>ls.keep u (.inl Y) (.inl Y) s r) ?_ ?_]
  ·rintro i x t aa C W⟨j,z,s,m,A,r⟩M;have O:i<V.length:=by rw[AE u];exact(Av.mp W).1
   let(y,Q,Z):=Z4 u<|Ae O;rw[W]at Q;cases Q;have L:=s.yD (ds:=[.f<|.int (i:Nat),V[i]]) (vs:=[.int (i:Nat),x]) M<|.cons .f<|.cons (VD.px r Z) .nil;have G:Px F z C F z _:=Px.Py ((NV.refl C).upd (o:=.tup [.int (i:Nat),x]) M).n;exact iB Pv hP j0 L.nil (m.px G) (r.trans G) L.hd<|B i _ j z (Ae O) A
  ·rintro aa C⟨j,z,s,m,A,r⟩;rw[<-AE u]at A;exact j0.nx _ _ _ _ r s m<|y0 _ _ A]
end
def iL:Mb->Lv->Lc->NW->(List (D×D)->NW->Prop)->Prop
 |[],_,_,S,Q=>Q [] S
 |(tk,tv)::r,F,loc,S,Q=>tk F loc S λd S1=>tv F loc S1 λe S2=>iL r F loc S2 λps S3=>Q ((d,e)::ps) S3
section
variable{X:Cx}{K:Ab}{T:US}
def VP(K:Ab)(F:Lv)(S:NW)(H:Hp)(p:D×D)(q:V×V):Prop:=VD K F S H p.1 q.1/\VD K F S H p.2 q.2
def nQ:∀{ts:Mb}{J:St}{H:Hp}{Q:Mi->Hp->Prop}{F:Lv}{loc:Lc}{S:NW}{Q':List (D×D)->NW->Prop},Rp K T F H S []->Lo K F S H loc J->iL ts F loc S Q' ->
  (∀ps S1 H1 vs,Px F S H F S1 H1->Rp K T F H1 S1 []->Paired (VP K F S1 H1) ps vs->Q' ps S1->Q vs H1)->lC (ts.map λp=>(lf K T p.1,lf K T p.2)) J H Q
 |[],J,H,Q,F,loc,S,Q',R,lo,h,k=>k [] S H [] .refl R .nil h
 | (tk,tv)::r,J,H,Q,F,loc,S,Q',R,lo,h,k=>by
   refine#[F,loc,S,_,R,lo,h,λd S1 H1 x b m f o=>#[F,loc,S1,_,m,lo.px b,o,λe u v y c i q l=>?_]];refine nQ i (lo.px<|b.trans c) l λps j t vs a g n s=>?_
   exact k _ j t _ ((b.trans c).trans a) g (.cons #[f.px<|c.trans a,q.px a] n) s
abbrev Ajk(ts:Mb):DE:=λF loc S Q=>∀p,S p=Ah->p∉F->iL ts F loc (NP S p (.own 0,.d [])) λps S2=>S2 p=U (.own 0,.d [])/\∃(ks:LI)(r:Rl),ps=ks.map (λkv=>(.f<|kV kv.1,kv.2))/\ks.length<=15/\Q (.f<|.ref p) (NP S2 p (r,.d<|ks.foldl (λacc kv=>putD acc kv.1 kv.2) []))
def oO{F:Lv}{S:NW}{H:Hp}:∀{ks:LI}{vs:Mi},Paired (VP K F S H) (ks.map λkv=>(.f<|kV kv.1,kv.2)) vs->∃kvs:LA,vs=kvs.map (λkv=>(kV kv.1,kv.2))/\Paired (KD<|VD K F S H) ks kvs
 |[],vs,h=>by cases h;exact#[[],Y,.nil]
 | kv::ks,vs,h=>by
   cases h with
   |@cons _ q _ qs h1 h2=>let(kvs,rfl,b):=oO h2;let(c,a):=q;have e:c=kV kv.1:=N1.mp h1.1;exact#[(kv.1,a)::kvs,by rw[e];rfl,.cons #[Y,h1.2] b]
def Abz{F:Lv}{S:NW}{H:Hp}:∀{ks acc:LI}{kvs kacc:LA},Paired (KD<|VD K F S H) ks kvs->Paired (KD<|VD K F S H) acc kacc->Paired (KD<|VD K F S H) (ks.foldl (λacc kv=>putD acc kv.1 kv.2) acc) (VO kacc kvs):=by
 intro ks acc kvs kacc h;induction h generalizing acc kacc with
 |nil=>intro g;exact g
 |@cons x y xs ys h1 h2 ih=>intro g;refine ih ?_;show Paired _ _ (putK kacc y.1 y.2);rw[h1.1];exact rG g h1.2
def AgS{keys:Me}{values:LJ}{pos:CU}{ts:Mb}(h:AfK X pos keys values (ts.map λp=>(lf K T p.1,lf K T p.2)))(hall:keys.all (·.isSome)=Af)(hl:keys.length=values.length)(h0:keys≠[])(h15:keys.length<=15):PE X (.Dict keys values pos) (lf K T<|Ajk ts):=(AeP h hall hl h0 h15).imp λJ H Q⟨F,E,S,M,R,C,q,k⟩=>λp a=>by
  have q:=q p (R.free a) λm=>R.fd p m a
  have l:NV H (upd H p<|.dK []):=(NV.refl H).upd a;have A:=R.own (o:=.d []) l a (.own 0) #[[],.inl NQ,.nil];have n:Px F S H F (NP S p (.own 0,.d [])) _:=Px.own l a;refine nQ A (C.px n) q λI L N j0 w g B⟨j,x,r,e,c,D⟩=>?_
  subst e;let(b,rfl,s):=oO B;let(G,z,y):=g.dk j λm=>R.fd p m a
  cases y;have m:=Abz s .nil;refine#[z,b,Y,by rw[<-AE s];exact c,?_];have v:=Px.set (r':=r) (o':=.d<|x.foldl (λi t=>putD i t.1 t.2) []) (u:=.dK<|VO [] b) g j;exact k _ _ _ _ ((n.trans w).trans v) (g.set j #[_,.inl NQ,Paired.imp' (λ_ _=>KD.imp λ_ _=>VD.px v) m]) .f D
def Ae2{pos:CU}:AfK X pos [] [] (([]:Mb).map λp=>(lf K T p.1,lf K T p.2)):=Ae3
def Sv{pos:CU}{k v:Expr}{ks:Me}{vs:LJ}{tk tv:DE}{ts:Mb}(hk:PE X k (lf K T tk))(hv:PE X v (lf K T tv))(hr:AfK X pos ks vs (ts.map λp=>(lf K T p.1,lf K T p.2))):AfK X pos (U k::ks) (v::vs) (((tk,tv)::ts).map λp=>(lf K T p.1,lf K T p.2)):=Acm hk hv hr
end
def AdL(f g c:Int)(n:f≠g)(P:Int->Prop)(hf:P f)(hg:P g):∃ks:LD,cA [D.f<|.int f,.f<|.int g] Ah (U<|1+c%2)=(ks.map λk=>.f<|.int k)/\ks≠[]/\ks.Nodup/\ks.length<=2/\∀k∈ks,P k:=by
 have b:=BN c (show(2:Int)≠0 by decide);have a:=BJ c (show(0:Int)<2 by decide);rcases(show c%2=0\/c%2=1 by omega)with h|h
 ·rw[h];exact#[[f],Y,nofun,M8,Ft 1,by simpa using hf]
 ·rw[h];exact#[[f,g],Y,nofun,by simp[n],Ao 2,by simpa using#[hf,hg]]
structure AiO(Ts:LZ)(ks:LD):Prop where
 key:Ts.map (·.key)=ks
 bS:∀T∈Ts,T.sh.length<=5
 one:∀T∈Ts,(T.sh.map (·.1)).Nodup
 nil:∀T∈Ts,∀e∈T.sh,e.2=[]
def Aii{l:LL}(h:∀e∈l,e.2=[])(z:AA):Ru l z=[]:=by
 unfold Ru;cases q:l.find? λe=>decide ((.inr e.1:Key)=.inr z)with
 |none=>rfl
 |some e=>exact h e (BS q)
def AcU{D:Lw}:∀e∈Qh [] D,e.2=[]:=λe a=>by
 let(z,_,rfl):=AR.mp a;rfl
def AiO.snoc{Ts:LZ}{ks:LD}(h:AiO Ts ks)(T:Sf)(h1:T.sh.length<=5)(h2:(T.sh.map (·.1)).Nodup)(h3:∀e∈T.sh,e.2=[]):AiO (Ts++[T]) (ks++[T.key]):=#[by rw[Bi,h.key];rfl,λu3 a=>(Bd.mp a).elim (h.bS u3) λq=>by cases As.mp q;exact h1,
  λu3 a=>(Bd.mp a).elim (h.one u3) λq=>by cases As.mp q;exact h2,λu3 a=>(Bd.mp a).elim (h.nil u3) λq=>by cases As.mp q;exact h3]
def AiO.AoC{Ts:LZ}{ks:LD}{Hs:Q5}{qs:Lw}(h:AiO Ts ks)(nd:ks.Nodup)(hk:∀k∈ks,0<=k/\k<256)(N5:PX Hs)(hq:qs.length<=900):UA qs 0 #[Hs,Ts,[],[],0,[],[],[]] [] []:=
 {Sr:=#[.nil,nofun]
  tok:=#[by
   have:(Ts.map λT=>(.inl T.key:Key))=ks.map C5:=by rw[<-h.key,AO];rfl
   rw[this];exact FE.map _ (λa b n e=>n<|by injection e) nd,λT c=>hk _ (by rw[<-h.key];exact A8 c),h.bS,h.one]
  N5:=N5
  nh:=.nil
  sl:=nofun
  sh:=nofun
  st:=λT c e d=>by rw[h.nil T c e d];exact OW.nil
  sm:=nofun
  se:=nofun
  q9:=hq
  lt:=nofun
  la:=nofun
  mw:=nofun
  hi:=nofun
  l1:=Ao _
  l2:=Ao _
  l3:=Ao _
  l4:=Ao _
  l5:=Ao _
  l6:=Ao _
  ap:=.nil
  so:=.nil
  ss:=λT c z=>Aii (h.nil T c) z
  s5:=h.bS
  Adw:=by decide}
def AiT(m r mi sh no:Ag):LR->Ag
 |.top=>m|.rows=>r|.Wt=>mi|.Rb=>sh|.Qb=>no
def Aep{S:NW}{m r mi sh no:Ag}{Hs:Q5}{Ts:LZ}(h1:r≠m)(h2:mi≠r)(h3:mi≠m)(h4:sh≠mi)(h5:sh≠r)(h6:sh≠m)(h7:no≠sh)(h8:no≠mi)(h9:no≠r)(h10:no≠m){x:Rl×O}:
  P6 (AiT m r mi sh no) (PN #[Hs,Ts,[],[],0,[],[],[]] [] []) (NP (NP (NP (NP (NP (NP S m x) r (.own 2,.l [.f<|.int 0])) mi (.own 3,.m [])) sh (.own 4,.m [])) no (.own 5,.m [])) m (.own 1,encL (AiT m r mi sh no) (PN #[Hs,Ts,[],[],0,[],[],[]] [] []) .top)):=λy=>by
 cases y with
 |top=>exact NO
 |rows=>exact(NJ h1).trans ((NJ<|Ax h9).trans ((NJ<|Ax h5).trans ((NJ<|Ax h2).trans NO)))
 |Wt=>exact(NJ h3).trans ((NJ<|Ax h8).trans ((NJ<|Ax h4).trans NO))
 |Rb=>exact(NJ h6).trans ((NJ<|Ax h7).trans NO)
 |Qb=>exact(NJ h10).trans NO
def AfI(K:Ab)(T:US)(n:Nat):Sp:=λvs H Q _=>∃(a:Ag)(ns:LD),vs=[.ref a]/\Pb K H a (ns.map V.int)/\ns.length<=n/\(∀x∈T,Tab x.1 x.2.1 x.2.2 H)/\∀H',Q (.bl Af) H'
section
variable{M:Md}{K:Ab}{T:US}{k n:Nat}{N:Lw}{x:AA}{st:Bm}{sp:DP}{t:DS}
def Al4(p n:Nat)(d:∃X:BO,K.In X/\X.Ns AJ M.mg)(a:Ph K x st)(kt:∀φ H,Rm k N x (NM st) φ->Q6 (cN M K N x (NM st) φ H) (NY st) (RD K T t))(rd:∀F ds S Q,sp F ds S Q->t F (qT Q) (cW ds n) S)(S:O0 N (N.take p) (NM st):=by walk_at"s")(b:∀(kV doc pm:Ai)(an:LO)(cdv ct:Ai)(us:LB),us.length=(N.take p).length->Ce (Bu x x (Om st) (NY st) (NM st) .none kV doc pm an cdv ct) #[us,[]]=pure ((N.take p).zip us):=by walk_at"b")(len:∀F ds S Q,sp F ds S Q->ds.length=(N.take p).length:=by walk_at"l")(hn:N.length=n:=by rfl):tL M.P M.w K M.mg M.base (k+1) x (N.take p) (cn K T sp):=An6 (t:=λ_=>RD K T t) p n d a kt (tV rd) S b (iI len) hn
def Ae5{S:NW}{H:Hp}(ns:LD):Paired (VD K [] S H) (ns.map λz=>.f<|.int z) (ns.map V.int):=by
 induction ns with
 |nil=>exact .nil
 |cons a r b=>exact .cons .f b
def tL.AmH{ps:Lw}(u3:tL M.P M.w K M.mg M.base k x ps (cn K T sp))(h:∀ns:LD,ns.length<=n->∀Q:QD,(∀S',Q (.f<|.bl Af) S')->sp [] [.l<|ns.map λz=>.f<|.int z] (λ_=>Ah) Q):tL M.P M.w K M.mg M.base k x ps (AfI K T n):=by let(f,g,F,r):=u3;refine#[f,g,F.imp ?_,r];rintro o H Q E⟨a,ns,rfl,m,j,b,c⟩;refine#[[],λ_=>Ah,_,λd _=>d=.f (.bl Af),#[nofun,nofun,b,nofun],.cons (Aab.mpr #[a,_,Y,m.imp (λq=>#[Y,q]) id,Ae5 ns]) .nil,h ns j _ λ_=>rfl,λd p i v _ _ w e=>?_];subst e;rw[N1.mp w];exact c i
end
end L2
namespace K46
open PySem PySem.Spec PyProof.Rows L2
seal L2.PA L2.PE L2.PS L2.Q6 L2.PT L2.PI L2.PG L2.Aae
local macro_rules | `(tactic| walk_at "r") => `(tactic| repeat first | refine ⟨_, rfl, ?_⟩ | refine ⟨_, _, rfl, rfl, ?_⟩ | refine And.intro (by first | rfl | decide | omega | (exact ⟨by decide, by decide⟩) | (exact BK ⟨by decide, by decide⟩) | (exact BK ⟨by omega, by omega⟩) | (exact Ee ⟨by decide, by decide⟩) | (exact Ee ⟨by omega, by omega⟩) | (exact O9 (by decide)) | (exact ⟨by omega, by omega⟩)) ?_)
local macro_rules | `(tactic| walk_at "s") => `(tactic| exact ⟨rfl, rfl, rfl, by decide +kernel, rfl, by decide +kernel, by decide +kernel⟩)
local macro_rules | `(tactic| walk_at "l") => `(tactic| (rintro _ _ _ _ ⟨⟩ <;> (subst_vars; rfl)))
local macro_rules | `(tactic|symm) => `(tactic| try dsimp only [vO, fZ, Aio, cW, AbI, zU])
local macro_rules | `(tactic| walk_at "j") => `(tactic| try dsimp only [zU, cW, AbI, Adq, AgJ, dB, tW, V9, oQ, AeA, Aaw, AaB, mJ, AaA, Aav, X1, V8, iK, eU, AiP, dC, AlR])
local macro_rules | `(tactic| walk_at "w") => `(tactic| (intro x h; cases x <;> first | rfl | exact (h rfl).elim))
def top(i:Nat):Bm:=PySem.Challenge.pw_threeroofs_k46_hints.main.body.getD i (.Pass #[0,0,0,0])
@[elab_as_elim] theorem len0{α:Type}{P:List α->Prop}(us:List α)(e:us.length=0)(h:P []):P us:=by
 cases us with
 |nil=>exact h
 |cons a t=>cases e
@[elab_as_elim] theorem AmI{α:Type}{n:Nat}{P:List α->Prop}(us:List α)(e:us.length=n+1)(h:∀a t,t.length=n->P (a::t)):P us:=by
 cases us with
 |nil=>cases e
 |cons a t=>exact h a t (Nat.succ.inj e)
local macro_rules | `(tactic| walk_at "b") => `(tactic| (intro _ _ _ _ _ _ us hl; (repeat (refine AmI us hl fun _ us hl => ?_)); exact len0 us hl rfl))
abbrev sO:Bm:=top 22
abbrev YW:Bm:=top 23
abbrev gJ:Bm:=top 24
abbrev aH:Bm:=top 25
abbrev AcN:Bm:=top 27
abbrev aI:Bm:=top 26
abbrev Afq:Bm:=top 12
abbrev sM:Bm:=top 14
abbrev AcO:Bm:=top 13
abbrev zM:Bm:=top 15
abbrev YS:Bm:=Od (top 49) 0
abbrev aA:Bm:=Od (top 49) 1
abbrev pC:Bm:=Od (top 50) 1
abbrev TV:Bm:=Od (top 50) 2
abbrev XJ:Bm:=Od (top 50) 5
abbrev pE:Bm:=Od (top 50) 3
abbrev kT:Bm:=top 63
abbrev XM:Bm:=Od (top 64) 6
abbrev VS:Bm:=Od (top 64) 7
abbrev dG:Bm:=Od (top 61) 2
abbrev YT:Bm:=Od (top 61) 3
abbrev dH:Bm:=Od (top 61) 4
abbrev pF:Bm:=Od (top 61) 5
abbrev dO:Bm:=Od (top 64) 2
abbrev aE:Bm:=Od (top 64) 5
abbrev YV:Bm:=Od (top 64) 12
abbrev kK:Bm:=Od (top 64) 13
abbrev dQ:Bm:=Od (top 64) 27
abbrev kD:Bm:=Od (top 35) 0
abbrev kH:Bm:=Od (top 36) 3
abbrev VR:Bm:=Od (top 36) 1
abbrev dD:Bm:=Od (top 36) 4
abbrev sL:Bm:=Od (top 35) 4
abbrev dE:Bm:=Od (top 42) 1
abbrev R0:Bm:=Od (top 42) 2
abbrev Sw:Bm:=Od (top 42) 3
abbrev zK:Bm:=top 28
abbrev zL:Bm:=top 29
abbrev pG:Bm:=top 53
abbrev sU:Bm:=top 54
abbrev gH:Bm:=top 55
abbrev kU:Bm:=top 56
abbrev aG:Bm:=top 58
abbrev kO:Bm:=top 59
abbrev WG:Bm:=Od (top 61) 6
abbrev QW:Bm:=Od (top 64) 17
abbrev UY:Bm:=Od (top 64) 16
abbrev dP:Bm:=Od (top 64) 11
abbrev Tz:Bm:=Od (top 64) 10
abbrev dR:Bm:=Od (top 64) 8
abbrev pB:Bm:=Od (top 35) 2
abbrev TX:Bm:=Od (top 64) 19
abbrev UX:Bm:=Od (top 64) 18
abbrev dJ:Bm:=Od (top 64) 15
abbrev kJ:Bm:=Od (top 64) 20
abbrev kM:Bm:=Od (top 64) 21
abbrev kI:Bm:=Od (top 64) 22
abbrev dM:Bm:=Od (top 64) 23
abbrev kN:Bm:=top 39
abbrev dX:Bm:=top 40
abbrev aB:Bm:=Od (top 61) 0
abbrev aC:Bm:=Od (top 61) 1
abbrev YU:Bm:=Od (top 64) 1
abbrev dF:Bm:=Od (top 50) 0
abbrev Z9:Bm:=Od (top 42) 0
abbrev dA:Bm:=Od (top 36) 0
abbrev aD:Bm:=Od (top 64) 0
abbrev sP:Bm:=top 66
abbrev pJ:Bm:=top 67
abbrev X6:Bm:=top 68
abbrev kP:Bm:=top 69
abbrev dW:Bm:=top 70
abbrev sQ:Bm:=top 71
abbrev sS:Bm:=top 72
abbrev pK:Bm:=top 73
abbrev sR:Bm:=top 74
abbrev dU:Bm:=top 75
abbrev WH:Bm:=top 76
abbrev sT:Bm:=top 77
abbrev TY:Bm:=top 78
abbrev pH:Bm:=top 79
abbrev nU:CU:=#[224,30,224,74]
abbrev nW:AA:=(D0 "order" (NM kU) 0 0 .none).qual++"<lambda>"
abbrev Ri(t:Ag)(H:Hp):Prop:=Tab t nU nW H
abbrev ZW:CU:=#[234,33,234,63]
abbrev ZX:AA:=(D0 "dealt" (NM kO) 0 0 .none).qual++"<lambda>"
abbrev Sj(t:Ag)(H:Hp):Prop:=Tab t ZW ZX H
abbrev tz(Z:Zs):US:=[(Z.o,nU,nW),(Z.d,ZW,ZX)]
abbrev hF(M:Md)(Z:Zs)(k:Nat)(x:AA)(p:Zs->DP):Prop:=Hf M Z.K k x (cn Z.K (tz Z)<|p Z)
abbrev hM(M:Md)(Z:Zs)(k:Nat)(C:Ag)(x:AA)(p:Zs->DP):Prop:=Hm M Z.K k C x (cn Z.K (tz Z)<|p Z)
abbrev hK(M:Md)(Z:Zs)(k:Nat)(x:AA)(C:Ag)(p:Zs->DP):Prop:=Hk M Z.K k x C (cn Z.K (tz Z)<|p Z)
def upTo(x:V)(m:Int):Bool:=match x with
 |.str z=>decide (1<=z.length)&&decide ((z.length:Int)<=m)
 |_=>An
def lJ{x:V}{m:Int}(h:∀z,x≠.str z):upTo x m=An:=by
 cases x with
 |str z=>exact absurd Y<|h z
 |_=>rfl
def Alk:V->Bool
 |.int m=>decide (0<=m)&&decide (m<256)
 |_=>An
def ge1(c a:Nat):(!decide (([c]:LP)<[a]))=decide (a<=c):=by
 have:(([c]:LP)<[a])↔c<a:=by simp[List.cons_lt_cons_iff]
 rw[BM];simp[this]
def Ahf{L:AA}{a:Nat}(c:Nat)(hL:L.cps.toList=[a]):(!decide ((⟨(zTo [c])⟩:AA).cps.toList<L.cps.toList))=decide (a<=c):=by rw[hL];exact ge1 c a
def Aej{L:AA}{a:Nat}(c:Nat)(hL:L.cps.toList=[a]):(!decide (L.cps.toList<(⟨(zTo [c])⟩:AA).cps.toList))=decide (c<=a):=by rw[hL];exact ge1 a c
def AgV:("!":AA).cps.toList=[33]:=M4
def Aiv:("~":AA).cps.toList=[126]:=M4
def seen(c:Nat):Bool:=decide (33<=c)&&decide (c<=126)
def Af5(z:AA):Bool:=(decide (1<=z.length)&&decide (z.length<=40))&&z.cps.toList.all seen
def Ad9:V->Bool
 |.str z=>Af5 z
 |_=>An
def AnG{K:Ab}{H:Hp}(i:Int):Thing K H (.int i) "int":=#[.int i,M5]
def Am7{K:Ab}{H:Hp}(i:AA):Thing K H (.str i) "str":=#[.str i,M5]
def GoodC(a b c:Int):Prop:=1<=a/\a<=5/\1<=b/\b<=a/\1<=c/\c<=a
def vU(z:AA):AA:=(CO z<|A1 ".").getD 2 z
def bF{z:AA}(h:lU z=Af)(hl:z.length<=1000):∃a b,CO z (A1 ".")=[a,b,vU z]/\bT (vU z)=Af/\(vU z).length<=1000:=by
 have i:(A1 ".")=⟨(zTo [46])⟩:=M4;unfold vU;rw[i];have d:=gP z 46;have f:=tT (ws:=CO z ⟨(zTo [46])⟩) d;have g:=Abl (ws:=CO z ⟨(zTo [46])⟩) d hl;rw[h,Bf,Br]at f
 match e:CO z ⟨(zTo [46])⟩,f.1 with
 |[a,b,c],_=>
   rw[e]at f g;refine#[a,b,Y,?_,?_]
   ·have:=f.2;simp only[Ct,Bf]at this;exact this.2.2.1
   ·exact g c M8
def AiE:∀i:Fin 97,(A1 "v").length+(A1<|toString ((i.val:Nat):Int)).length<=10:=M4
def Ak4:∀i:Fin 97,Af5 (Agv ((i.val:Nat):Int))=Af:=M4
inductive Yd(Z:Zs)(vs:Lx)(H:Hp)(Q:VK)(Xe:XK):Prop
 |mk (x n) (_:vs=[x]) (_:Thing Z.K H x n) (_:Q (.bl<|n == "int") H)
inductive SE(Z:Zs)(vs:Lx)(H:Hp)(Q:VK)(Xe:XK):Prop
 |mk (x n m) (_:vs=[x,.int m]) (_:Thing Z.K H x n) (_:(∀z,x=.str z->z.length<=sizeLine)) (_:Q (.bl<|upTo x m) H)
inductive aT(Z:Zs)(vs:Lx)(H:Hp)(Q:VK)(Xe:XK):Prop
 |mk (x n) (_:vs=[x]) (_:Thing Z.K H x n) (_:(∀z,x=.str z->z.length<=1000)) (_:∀H',NV H H'->Q (.bl<|Aea x) H')
inductive X9(Z:Zs)(vs:Lx)(H:Hp)(Q:VK)(Xe:XK):Prop
 |mk (x n) (_:vs=[x]) (_:Thing Z.K H x n) (_:(∀z,x=.str z->z.length<=1000)) (_:∀H',NV H H'->Q (.bl<|Ad6 x) H')
inductive gM(Z:Zs)(vs:Lx)(H:Hp)(Q:VK)(Xe:XK):Prop
 |mk (x n) (_:vs=[x]) (_:Thing Z.K H x n) (_:Q (.bl<|Alk x) H)
inductive Yc(Z:Zs)(vs:Lx)(H:Hp)(Q:VK)(Xe:XK):Prop
 |mk (x n) (_:vs=[x]) (_:Thing Z.K H x n) (_:(∀z,x=.str z->z.length<=1000)) (_:∀H',NV H H'->Q (.bl<|Ad9 x) H')
inductive pO(Z:Zs)(F:Lv)(ds:Lz)(S:NW)(Q:QD):Prop
 |mk (a b) (_:ds=[Rn a,Rn b]) (_:Q (Rn<|rJ a b) S)
inductive X8(Z:Zs)(F:Lv)(ds:Lz)(S:NW)(Q:QD):Prop
 |mk (E n) (_:ds=[OK E,.f<|.str n]) (_:Q (.f<|.int<|mH E n) S)
inductive gN(Z:Zs)(F:Lv)(ds:Lz)(S:NW)(Q:QD):Prop
 |mk (E1 E2) (_:ds=[OK E1,OK E2]) (_:F=[]) (_:E1.length<=1000) (_:E2.length<=1000) (_:Q (OK<|Og E1 E2) S)
inductive aX(Z:Zs)(F:Lv)(ds:Lz)(S:NW)(Q:QD):Prop
 |mk (E n v) (_:ds=[OK E,.f<|.str n,.f<|.str v]) (_:F=[]) (_:E.length<=1000) (_:Q (OK<|eJ E n v) S)
inductive Sy(Z:Zs)(F:Lv)(ds:Lz)(S:NW)(Q:QD):Prop
 |mk (a r n Pd ask PJ key E S') (_:ds=[.f<|.ref a,.f<|.int n,.f<|.str Pd,.f<|oI ask,.f<|.str PJ,.f<|.int key,OK E]) (_:S=NP S' a (r,.i Z.w.L [])) (_:Q (.f .Of) (NP S' a (r,.i Z.w.L [("number",.f<|.int n),("label",.f<|.str Pd),("ask",.f<|oI ask),("house",.f<|.str PJ),("key",.f<|.int key),("state",OK E)])))
inductive Td(Z:Zs)(F:Lv)(ds:Lz)(S:NW)(Q:QD):Prop
 |mk (L) (_:ds=[qC Z.w.L L]) (_:Q (AiU L) S)
inductive SV(Z:Zs)(F:Lv)(ds:Lz)(S:NW)(Q:QD):Prop
 |mk (i A w Pd ask PJ key E) (_:ds=[.f<|.ref<|A .post,.f<|.str Pd,.f<|oI ask,.f<|.str PJ,.f<|.int key,OK E]) (_:Ob Z.w i A w S) (_:(∀L∈w.Ls,L.num<=w.OF)) (_:w.Ls.length<90000) (_:A .uw∉F) (_:∀S',Ob Z.w i A (aK w Pd ask PJ key E) S'->Fr i S S'->Q (.f .Of) S')
inductive Te(Z:Zs)(F:Lv)(ds:Lz)(S:NW)(Q:QD):Prop
 |mk (i A w) (_:ds=[.f<|.ref<|A .post]) (_:Ob Z.w i A w S) (_:gX w.OF w.Ls) (_:w.Ls.length<90000) (_:Q (.l<|w.Ls.map AiU) S)
inductive Vj(Z:Zs)(F:Lv)(ds:Lz)(S:NW)(Q:QD):Prop
 |mk (n) (_:ds=[.f<|.int n]) (_:Q (.f<|.bl Af) S)
inductive Yb(Z:Zs)(F:Lv)(ds:Lz)(S:NW)(Q:QD):Prop
 |mk (n) (_:ds=[.f<|.int n]) (_:Q (.f<|.bl<|Alk<|.int n) S)
inductive WM(Z:Zs)(F:Lv)(ds:Lz)(S:NW)(Q:QD):Prop
 |mk (z) (_:ds=[.f<|.str z]) (_:z.length<=1000) (_:Q (.f<|.bl<|bT z) S)
inductive Vh(Z:Zs)(F:Lv)(ds:Lz)(S:NW)(Q:QD):Prop
 |mk (z) (_:ds=[.f<|.str z]) (_:z.length<=1000) (_:Q (.f<|.bl<|lU z) S)
inductive Vi(Z:Zs)(F:Lv)(ds:Lz)(S:NW)(Q:QD):Prop
 |mk (z) (_:ds=[.f<|.str z]) (_:z.length<=1000) (_:Q (.f<|.bl<|Af5 z) S)
inductive RN(Z:Zs)(F:Lv)(ds:Lz)(S:NW)(Q:QD):Prop
 |mk (i A w L) (_:ds=[.f<|.ref<|A .post,.f<|.int L.num]) (_:Ob Z.w i A w S) (_:gX w.OF w.Ls) (_:L∈w.Ls) (_:Q (qC Z.w.L L) S)
inductive WJ(Z:Zs)(F:Lv)(ds:Lz)(S:NW)(Q:QD):Prop
 |mk (i A w L) (_:ds=[.f<|.ref<|A .post,.f<|.int L.num]) (_:Ob Z.w i A w S) (_:gX w.OF w.Ls) (_:L∈w.Ls) (_:A .uw∉F) (_:∀S',Ob Z.w i A (Pg w L.num) S'->Fr i S S'->Q (qC Z.w.L L) S')
inductive Vm(Z:Zs)(F:Lv)(ds:Lz)(S:NW)(Q:QD):Prop
 |mk (z) (_:ds=[.f<|.str z]) (_:bT z=Af) (_:z.length<=1000) (_:Q (.f .Of) S)
def AaY{k:Int}(h:0<=k/\k<256):Alk (.int k)=Af:=by show(decide (0<=k)&&decide (k<256))=Af;rw[Ap h.1,Ap h.2];rfl
inductive RO(Z:Zs)(F:Lv)(ds:Lz)(S:NW)(Q:QD):Prop
 |mk (i A w T) (_:ds=[.f<|.ref<|A .top,.f<|.int T.key]) (_:Ob Z.w i A w S) (_:YY w.Ts) (_:T∈w.Ts) (_:Q (.f<|.ref<|A<|.OX T.key) S)
inductive Q2(Z:Zs)(F:Lv)(ds:Lz)(S:NW)(Q:QD):Prop
 |mk (i A w z) (_:ds=[.f<|.ref<|A .top,.f<|.str z]) (_:Ob Z.w i A w S) (_:PX w.Hs) (_:lU z=Af) (_:z.length<=1000) (_:z∈w.Hs.map (·.1)) (_:Q (.f .Of) S)
inductive T6(Z:Zs)(F:Lv)(ds:Lz)(S:NW)(Q:QD):Prop
 |mk (i A w T) (_:ds=[.f<|.ref<|A<|.OX T.key]) (_:Ob Z.w i A w S) (_:YY w.Ts) (_:T∈w.Ts) (_:Q (.l<|T.sh.map λe=>.f<|.str e.1) S)
inductive Sz(Z:Zs)(F:Lv)(ds:Lz)(S:NW)(Q:QD):Prop
 |mk (i A w T z) (_:ds=[.f<|.ref<|A<|.OX T.key,.f<|.str z]) (_:Ob Z.w i A w S) (_:YY w.Ts) (_:T∈w.Ts) (_:Q (.f (.bl (decide (z∈T.sh.map (·.1))))) S)
inductive T7(Z:Zs)(F:Lv)(ds:Lz)(S:NW)(Q:QD):Prop
 |mk (i A w T z) (_:ds=[.f<|.ref<|A<|.OX T.key,.f<|.str z]) (_:Ob Z.w i A w S) (_:YY w.Ts) (_:T∈w.Ts) (_:Q (OK<|Ru T.sh z) S)
inductive WK(Z:Zs)(F:Lv)(ds:Lz)(S:NW)(Q:QD):Prop
 |mk (i A w T z E) (_:ds=[.f<|.ref<|A<|.OX T.key,.f<|.str z,OK E]) (_:F=[]) (_:Ob Z.w i A w S) (_:YY w.Ts) (_:T∈w.Ts) (_:(Ru T.sh z).length<=1000) (_:E.length<=1000) (_:∀S',Ob Z.w i A {w with Ts:=UZ w.Ts (Wr T z E)} S'->Fr i S S'->Q (.f .Of) S')
inductive Ua(Z:Zs)(F:Lv)(ds:Lz)(S:NW)(Q:QD):Prop
 |mk (i A w T) (_:ds=[.f<|.ref<|A .top,.f<|.int T.key]) (_:Ob Z.w i A w S) (_:YY w.Ts) (_:T∈w.Ts) (_:Q (.l<|T.sh.map λe=>.f<|.str e.1) S)
inductive Ti(Z:Zs)(F:Lv)(ds:Lz)(S:NW)(Q:QD):Prop
 |mk (i A w) (_:ds=[.f<|.ref<|A .top]) (_:Ob Z.w i A w S) (_:Q (YN w.Hs) S)
inductive QG(Z:Zs)(F:Lv)(ds:Lz)(S:NW)(Q:QD):Prop
 |mk (i A w) (_:ds=[.f<|.ref<|A .top]) (_:Ob Z.w i A w S) (_:gX w.OF w.Ls) (_:w.Ls.length<90000) (_:Q (.l<|w.Ls.map AiU) S)
inductive Ve(Z:Zs)(F:Lv)(ds:Lz)(S:NW)(Q:QD):Prop
 |mk (i A w L) (_:ds=[.f<|.ref<|A .top,.f<|.int L.num]) (_:Ob Z.w i A w S) (_:gX w.OF w.Ls) (_:L∈w.Ls) (_:A .uw∉F) (_:∀S',Ob Z.w i A (Pg w L.num) S'->Fr i S S'->Q (.f .Of) S')
inductive Uc(Z:Zs)(F:Lv)(ds:Lz)(S:NW)(Q:QD):Prop
 |mk (i A w T z) (_:ds=[.f<|.ref<|A .top,.f<|.str z,.f<|.int T.key]) (_:Ob Z.w i A w S) (_:PX w.Hs) (_:lU z=Af) (_:z.length<=1000) (_:z∈w.Hs.map (·.1)) (_:YY w.Ts) (_:T∈w.Ts) (_:Q (OK<|Ru T.sh z) S)
inductive Va(Z:Zs)(F:Lv)(ds:Lz)(S:NW)(Q:QD):Prop
 |mk (a r r2 kind mC key en E ah S') (_:ds=[.f<|.ref a,.f<|.str kind,.f<|.str mC,.f<|.int key,.f<|.int en,OK E,.l<|ah.map Anm]) (_:S=NP S' a (r,.i Z.w.A [])) (_:∀h,a≠h->S' h=Ah->h∉F->Q (.f .Of) (NP (NP S' h (r2,.d<|PM [])) a (r,Aal Z.w.A h #[kind,mC,key,en,E,ah,[],"open"])))
inductive Vb(Z:Zs)(F:Lv)(ds:Lz)(S:NW)(Q:QD):Prop
 |mk (i A w a h B S0) (_:ds=[.f<|.ref<|A .asks,.f<|.ref a]) (_:S=NP (NP S0 h (.wd i<|.NX w.Ms.length,.d<|PM B.NX)) a (.wd i<|.ask w.Ms.length,Aal Z.w.A h B)) (_:Ob Z.w i A w S0) (_:S0 a=Ah) (_:S0 h=Ah) (_:a≠h) (_:w.Ms.length<90000) (_:∀S',Ob Z.w i (sV A w.Ms.length a h) {w with Ms:=w.Ms++[B]} S'->Fr i S0 S'->Q (.f<|.int<|w.Ms.length+1) S')
inductive Q1(Z:Zs)(F:Lv)(ds:Lz)(S:NW)(Q:QD):Prop
 |mk (i A w z k en E) (_:ds=[.f<|.ref<|A .asks,.f<|.str z,.f<|.int k,.f<|.int en,OK E]) (_:Ob Z.w i A w S) (_:w.Ms.length<90000) (_:∀a h S',Ob Z.w i (sV A w.Ms.length a h) {w with Ms:=w.Ms++[#["write",z,k,en,E,[],[],"open"]]} S'->Fr i S S'->Q (.f<|.int<|w.Ms.length+1) S')
inductive T2(Z:Zs)(F:Lv)(ds:Lz)(S:NW)(Q:QD):Prop
 |mk (i A w n) (_:ds=[.f<|.ref<|A .asks,.f<|.int<|(n:Nat)+1]) (_:Ob Z.w i A w S) (_:n<w.Ms.length) (_:Q (.f<|.ref<|A<|.ask n) S)
inductive X7(Z:Zs)(F:Lv)(ds:Lz)(S:NW)(Q:QD):Prop
 |mk (i A w n B z E) (_:ds=[.f<|.ref<|A<|.ask n,.f<|.str z,OK E]) (_:F=[]) (_:Ob Z.w i A w S) (_:w.Ms[n]?=U B) (_:B.NX.length<90000) (_:B.qV.length<=1000) (_:E.length<=1000) (_:∀S',Ob Z.w i A {w with Ms:=w.Ms.set n (Rq B z E).1} S'->Fr i S S'->Q (.f<|.bl (Rq B z E).2) S')
inductive T3(Z:Zs)(F:Lv)(ds:Lz)(S:NW)(Q:QD):Prop
 |mk (i A w kp z k E) (_:ds=[.f<|.ref<|A .left,.f<|.str kp,.f<|.str z,.f<|.int k,OK E]) (_:F=[]) (_:Ob Z.w i A w S) (_:w.hints.length<90000) (_:(U6 w.hints (kp,z,k)).length<=1000) (_:E.length<=1000) (_:∀S',Ob Z.w i A (Aj3 w (kp,z,k) E) S'->Fr i S S'->Q (.f .Of) S')
inductive T4(Z:Zs)(F:Lv)(ds:Lz)(S:NW)(Q:QD):Prop
 |mk (i A w) (_:ds=[.f<|.ref<|A .left]) (_:Ob Z.w i A w S) (_:(w.hints.map λe=>OM e.1).Nodup) (_:w.hints.length<64) (_:Q (.l<|(Pt w.hints).map UW) S)
inductive Qj(Z:Zs)(F:Lv)(ds:Lz)(S:NW)(Q:QD):Prop
 |mk (i A w) (_:ds=[.f<|.ref<|A .left,.f<|.ref<|A .RC]) (_:Ob Z.w i A w S) (_:(w.hints.map λe=>OM e.1).Nodup) (_:w.hints.length<64) (_:∀S',Ob Z.w i A (iO w) S'->Fr i S S'->Q (.l<|(Q8 w).map UW) S')
inductive aV(Z:Zs)(vs:Lx)(H:Hp)(Q:VK)(Xe:XK):Prop
 |mk (z w r) (_:vs=[.str z]) (_:z.length<=1000) (_:z.cps.toList=w++46::r) (_:46∉w) (_:∀y H',y.cps.toList=w->NV H H'->Q (.str y) H')
inductive aW(Z:Zs)(vs:Lx)(H:Hp)(Q:VK)(Xe:XK):Prop
 |mk (z w r) (_:vs=[.str z]) (_:z.length<=1000) (_:z.cps.toList=w++46::r) (_:46∉r) (_:∀y H',y.cps.toList=w->NV H H'->Q (.str y) H')
inductive WL(Z:Zs)(F:Lv)(ds:Lz)(S:NW)(Q:QD):Prop
 |mk (k) (_:ds=[.f<|.int k]) (_:Q (.f<|.int<|k%110) S)
inductive Yk(Z:Zs)(vs:Lx)(H:Hp)(Q:VK)(Xe:XK):Prop
 |mk (d t) (_:vs=[.int d,.int t]) (_:-(2 ^ 64)<t) (_:t<2 ^ 64) (_:Q (.int<|pl d t) H)
inductive aR(Z:Zs)(vs:Lx)(H:Hp)(Q:VK)(Xe:XK):Prop
 |mk (d t ps) (_:vs=[.int d,.ref t]) (_:P5 Z.K H t (ps.map V.int)) (_:ps≠[]) (_:ps.length<=1000) (_:(∀x∈ps,0<=x/\x<11)) (_:∀H',NV H H'->Q (.int<|qM d ps) H')
inductive pP(Z:Zs)(vs:Lx)(H:Hp)(Q:VK)(Xe:XK):Prop
 |mk (p kvs Hs d) (_:vs=[.ref p,.int d]) (_:H p=U (.dK kvs)) (_:tN Z.K H Hs kvs) (_:PX Hs) (_:0<=d) (_:d<110) (_:Ri Z.o H) (_:∀l H1,Ri Z.o H1->OH H H1->(∀b ps,b≠Z.o->H b=U (.RQ ps)->H1 b=U (.RQ ps))->H l=Ah->H1 l=U (.lst<|(RE Hs d).map V.str)->Q (.ref l) H1)
inductive gL(Z:Zs)(vs:Lx)(H:Hp)(Q:VK)(Xe:XK):Prop
 |mk (z q zs) (_:vs=[.str z,.ref q]) (_:Good z) (_:(∀o∈zs,Good o)) (_:zs.length<=100) (_:Pb Z.K H q (zs.map V.str)) (_:∀p H',H p=Ah->H' p=U (.tup [.int ((AgC z zs:Nat):Int),.int ((Ajb z zs:Nat):Int)])->NV H H'->Q (.ref p) H')
inductive pN(Z:Zs)(vs:Lx)(H:Hp)(Q:VK)(Xe:XK):Prop
 |mk (p:Ag) (kvs:LA) (Hs:Q5) (d:Int) (m:Nat) (_:vs=[.ref p,.int d,.int m]) (_:H p=U (.dK kvs)) (_:tN Z.K H Hs kvs) (_:PX Hs) (_:0<=d) (_:d<110) (_:Ri Z.o H) (_:Sj Z.d H) (_:∀l H1,Ri Z.o H1->Sj Z.d H1->OH H H1->H l=Ah->H1 l=U (.lst<|(Qa Hs d m).map V.str)->Q (.ref l) H1)
inductive aU(Z:Zs)(F:Lv)(ds:Lz)(S:NW)(Q:QD):Prop
 |mk (Hs d) (_:ds=[YN Hs,.f<|.int d]) (_:F=[]) (_:PX Hs) (_:0<=d) (_:d<110) (_:Q (.l<|(RE Hs d).map λz=>.f<|.str z) S)
inductive aS(Z:Zs)(F:Lv)(ds:Lz)(S:NW)(Q:QD):Prop
 |mk (Hs d m) (_:ds=[YN Hs,.f<|.int d,.f<|.int ((m:Nat):Int)]) (_:F=[]) (_:PX Hs) (_:0<=d) (_:d<110) (_:Q (.l<|(Qa Hs d m).map λz=>.f<|.str z) S)
inductive Rv(Z:Zs)(F:Lv)(ds:Lz)(S:NW)(Q:QD):Prop
 |mk (i A w T) (_:ds=[.f<|.ref<|A<|.OX T.key,YN w.Hs,.f<|.ref<|A .RC]) (_:F=[]) (_:Ob Z.w i A w S) (_:YY w.Ts) (_:T∈w.Ts) (_:PX w.Hs) (_:Q (.f<|YQ<|yC w T) S)
inductive Pf(Z:Zs)(F:Lv)(ds:Lz)(S:NW)(Q:QD):Prop
 |mk (i A w T L qs) (_:ds=[.f<|.ref<|A .top,qC Z.w.L L,.f<|.ref<|A<|.OX T.key]) (_:F=[]) (_:Ob Z.w i A w S) (_:Ys qs w) (_:T∈w.Ts) (_:OW qs L.Ym) (_:w.hints.length<90000) (_:∀S',Ob Z.w i A (cX w T L) S'->Fr i S S'->Q (.f .Of) S')
inductive QP(Z:Zs)(F:Lv)(ds:Lz)(S:NW)(Q:QD):Prop
 |mk (i A w T L qs) (_:ds=[.f<|.ref<|A .top,qC Z.w.L L]) (_:F=[]) (_:Ob Z.w i A w S) (_:Ys qs w) (_:T∈w.Ts) (_:L.key=T.key) (_:OW qs L.Ym) (_:w.hints.length<90000) (_:w.Ls.length<90000) (_:∀S',Ob Z.w i A (mE w T L) S'->Fr i S S'->Q (.f .Of) S')
inductive Ub(Z:Zs)(F:Lv)(ds:Lz)(S:NW)(Q:QD):Prop
 |mk (i A w T z) (_:ds=[.f<|.ref<|A .top,.f<|.str z,.f<|.int T.key]) (_:Ob Z.w i A w S) (_:YY w.Ts) (_:T∈w.Ts) (_:bT z=Af) (_:z.length<=1000) (_:Q (OK<|PY w.VL z T.key) S)
inductive Ql(Z:Zs)(F:Lv)(ds:Lz)(S:NW)(Q:QD):Prop
 |mk (i A w T Pd n E) (_:ds=[.f<|.ref<|A .top,.f<|.str Pd,.f<|.int n,.f<|.ref<|A<|.OX T.key,OK E]) (_:F=[]) (_:Ob Z.w i A w S) (_:YY w.Ts) (_:T∈w.Ts) (_:gX w.OF w.Ls) (_:w.Ls.length<80000) (_:∀S',Ob Z.w i A (Abx w Pd n T E) S'->Fr i S S'->Q (.f .Of) S')
inductive Ud(Z:Zs)(F:Lv)(ds:Lz)(S:NW)(Q:QD):Prop
 |mk (i A w T z v qs) (_:ds=[.f<|.ref<|A .top,.f<|.str z,.f<|.int T.key,.f<|.str v]) (_:F=[]) (_:Ob Z.w i A w S) (_:Ys qs w) (_:T∈w.Ts) (_:bT z=Af) (_:z.length<=1000) (_:Af5 v=Af) (_:v.length<=1000) (_:w.Ls.length<80000) (_:w.Ms.length<80000) (_:w.VL.length<80000) (_:∀A' S',A' .top=A .top->Ob Z.w i A' (Adi w T z v) S'->Fr i S S'->Q (.f<|.int<|w.Ms.length+1) S')
inductive WI(Z:Zs)(F:Lv)(ds:Lz)(S:NW)(Q:QD):Prop
 |mk (i A w n B) (_:ds=[.f<|.ref<|A<|.ask n]) (_:Ob Z.w i A w S) (_:w.Ms[n]?=U B) (_:Q (OK B.qV) S)
inductive QA(Z:Zs)(F:Lv)(ds:Lz)(S:NW)(Q:QD):Prop
 |mk (i A w L n B qs) (_:ds=[.f<|.ref<|A .top,qC Z.w.L L]) (_:F=[]) (_:Ob Z.w i A w S) (_:Ys qs w) (_:L.ask=U ((n:Nat)+1)) (_:w.Ms[n]?=U B) (_:B.kind="write") (_:OW qs L.Ym) (_:B.NX.length<80000) (_:∀S',Ob Z.w i A {w with Ms:=w.Ms.set n (Rq B L.PJ L.Ym).1} S'->Fr i S S'->Q (.f .Of) S')
inductive QO(Z:Zs)(F:Lv)(ds:Lz)(S:NW)(Q:QD):Prop
 |mk  (_:False) (_:ds=[.f .Of,.f .Of])
inductive T8(Z:Zs)(F:Lv)(ds:Lz)(S:NW)(Q:QD):Prop
 |mk (i A w L qs) (_:ds=[.f<|.ref<|A .top,.f<|.int L.num]) (_:F=[]) (_:Ob Z.w i A w S) (_:Ys qs w) (_:L∈w.Ls) (_:w.hints.length<90000) (_:w.Ls.length<90000) (_:(((L.Pd="put"\/L.Pd="hint")/\∃T,T∈w.Ts/\L.key=T.key/\∀S',Ob Z.w i A (mE (Pg w L.num) T L) S'->Fr i S S'->Q (.f .Of) S')\/(L.Pd="ack"/\∃n B,L.ask=U ((n:Nat)+1)/\w.Ms[n]?=U B/\B.kind="write"/\B.NX.length<80000/\∀S',Ob Z.w i A {Pg w L.num with Ms:=w.Ms.set n (Rq B L.PJ L.Ym).1} S'->Fr i S S'->Q (.f .Of) S')))
inductive Vd(Z:Zs)(F:Lv)(ds:Lz)(S:NW)(Q:QD):Prop
 |mk (i A w z) (_:ds=[.f<|.ref<|A .top,.f<|.str z]) (_:F=[]) (_:Ob Z.w i A w S) (_:PX w.Hs) (_:lU z=Af) (_:z.length<=1000) (_:z∈w.Hs.map (·.1)) (_:w.away.length<80000) (_:∀S',Ob Z.w i A (iX w z) S'->Fr i S S'->Q (.f .Of) S')
inductive Vf(Z:Zs)(F:Lv)(ds:Lz)(S:NW)(Q:QD):Prop
 |mk (i A w z qs) (_:ds=[.f<|.ref<|A .top,.f<|.str z]) (_:F=[]) (_:Ob Z.w i A w S) (_:Ys qs w) (_:lU z=Af) (_:z.length<=1000) (_:z∈w.Hs.map (·.1)) (_:w.hints.length<64) (_:w.Ls.length<80000) (_:∀S',Ob Z.w i A (sI w z) S'->Fr i S S'->Q (.f .Of) S')
inductive Vc(Z:Zs)(F:Lv)(ds:Lz)(S:NW)(Q:QD):Prop
 |mk (i A w) (_:ds=[.f<|.ref<|A .top]) (_:Ob Z.w i A w S) (_:w.away.length<64) (_:∀ms,ms.Perm w.away->GI ms=Af->(Q (.l<|ms.map λz=>.f<|.str z) S/\∀a,S a=Ah->a∉F->Q (.f<|.ref a) (NP S a (.own 0,U0 ms))))
inductive T9(Z:Zs)(F:Lv)(ds:Lz)(S:NW)(Q:QD):Prop
 |mk (i A w) (_:ds=[.f<|.ref<|A .top]) (_:Ob Z.w i A w S) (_:(w.hints.map λe=>OM e.1).Nodup) (_:w.hints.length<64) (_:Q (.l<|(Pt w.hints).map UW) S)
inductive Vg(Z:Zs)(F:Lv)(ds:Lz)(S:NW)(Q:QD):Prop
 |mk (a b c) (_:ds=[.f<|.int a,.f<|.int b,.f<|.int c]) (_:GoodC a b c) (_:Q (.f<|.bl Af) S)
inductive Ui(Z:Zs)(F:Lv)(ds:Lz)(S:NW)(Q:QD):Prop
 |mk (a b c) (_:ds=[.f<|.int a,.f<|.int b,.f<|.int c]) (_:GoodC a b c) (_:Q (.f .Of) S)
inductive Tf(Z:Zs)(F:Lv)(ds:Lz)(S:NW)(Q:QD):Prop
 |mk (a r r2 k c rr ww S') (_:ds=[.f<|.ref a,.f<|.int k,.f<|.int c,.f<|.int rr,.f<|.int ww]) (_:S=NP S' a (r,.i Z.w.T [])) (_:∀s,a≠s->S' s=Ah->s∉F->Q (.f .Of) (NP (NP S' s (r2,.d<|VT [])) a (r,qF Z.w.T s #[k,c,rr,ww,[]])))
inductive Tg(Z:Zs)(F:Lv)(ds:Lz)(S:NW)(Q:QD):Prop
 |mk (t s r r2 r3 T Hs m) (_:ds=[.f<|.ref t,YN Hs]) (_:F=[]) (_:S t=U (r,qF Z.w.T s T)) (_:S s=U (r2,.d<|VT T.sh)) (_:T.sh.length<=5) (_:T.c=((m:Nat):Int)) (_:m<=5) (_:PX Hs) (_:∀q,S q=Ah->Q (.f<|.bl<|AgF T.sh<|Qa Hs (T.key%110) m) (NP (NP S q (r3,.d<|VT<|Qh T.sh<|Qa Hs (T.key%110) m)) t (r,qF Z.w.T q {T with sh:=Qh T.sh (Qa Hs (T.key%110) m)})))
inductive SA(Z:Zs)(F:Lv)(ds:Lz)(S:NW)(Q:QD):Prop
 |mk (i A w k c rr ww m) (_:ds=[.f<|.ref<|A .top,.f<|.int k,.f<|.int c,.f<|.int rr,.f<|.int ww]) (_:F=[]) (_:Ob Z.w i A w S) (_:PX w.Hs) (_:0<=k) (_:k<256) (_:k∉w.Ts.map (·.key)) (_:GoodC c rr ww) (_:c=((m:Nat):Int)) (_:w.Ts.length<80000) (_:∀A' S',A' .top=A .top->Ob Z.w i A' {w with Ts:=w.Ts++[#[k,c,rr,ww,Qh []<|Qa w.Hs (k%110) m]]} S'->Fr i S S'->Q (.f .Of) S')
inductive T5(Z:Zs)(F:Lv)(ds:Lz)(S:NW)(Q:QD):Prop
 |mk (a r r2 S') (_:ds=[.f<|.ref a]) (_:S=NP S' a (r,.i Z.w.P [])) (_:∀s,a≠s->S' s=Ah->s∉F->Q (.f .Of) (NP (NP S' s (r2,.d [])) a (r,.i Z.w.P [("sent",.f<|.int 0),("under_way",.f<|.ref s)])))
inductive Tc(Z:Zs)(F:Lv)(ds:Lz)(S:NW)(Q:QD):Prop
 |mk (a r r2 S') (_:ds=[.f<|.ref a]) (_:S=NP S' a (r,.i Z.w.H [])) (_:∀s,a≠s->S' s=Ah->s∉F->Q (.f .Of) (NP (NP S' s (r2,.m [])) a (r,.i Z.w.H [("kept",.f<|.ref s)])))
inductive TZ(Z:Zs)(F:Lv)(ds:Lz)(S:NW)(Q:QD):Prop
 |mk (a r r2 S') (_:ds=[.f<|.ref a]) (_:S=NP S' a (r,.i Z.w.S [])) (_:∀s,a≠s->S' s=Ah->s∉F->Q (.f .Of) (NP (NP S' s (r2,.l [])) a (r,.i Z.w.S [("begun",.f<|.ref s)])))
inductive Th(Z:Zs)(F:Lv)(ds:Lz)(S:NW)(Q:QD):Prop
 |mk (a i Hs S') (_:ds=[.f<|.ref a,YN Hs]) (_:S=NP S' a (.wd i .top,.i Z.w.W [])) (_:S' a=Ah) (_:∀A S1,A .top=a->Ob Z.w i A #[Hs,[],[],[],0,[],[],[]] S1->Fr i S' S1->Q (.f .Of) S1)
inductive Ye(Z:Zs)(F:Lv)(ds:Lz)(S:NW)(Q:QD):Prop
 |mk (ns k) (_:ds=[.l<|(ns:LD).map λz=>.f<|.int z,.f<|.int k]) (_:0<=k) (_:∀c:Int,Q (.f<|.int c) S)
inductive WN(Z:Zs)(F:Lv)(ds:Lz)(S:NW)(Q:QD):Prop
 |mk (c k) (_:ds=[.f<|.int c,.f<|.int k]) (_:∀n:Nat,Q (.f<|.int n) S)
inductive WO(Z:Zs)(vs:Lx)(H:Hp)(Q:VK)(Xe:XK):Prop
 |mk (c) (_:vs=[.int c]) (_:∀l H'(zs:Lw),H' l=U (.lst<|zs.map V.str)->zs.length=9->(∀z∈zs,lU z=Af/\z.length<=26/\Good z)->zs.Nodup->H l=Ah->NV H H'->Q (.ref l) H')
inductive Ug(Z:Zs)(F:Lv)(ds:Lz)(S:NW)(Q:QD):Prop
 |mk (c) (_:ds=[.f<|.int c]) (_:∀zs:Lw,zs.length=9->(∀z∈zs,lU z=Af/\z.length<=26/\Good z)->zs.Nodup->Q (.l<|zs.map λz=>.f<|.str z) S)
inductive Vk(Z:Zs)(F:Lv)(ds:Lz)(S:NW)(Q:QD):Prop
 |mk (c zs) (_:ds=[.l<|(zs:Lw).map λz=>.f<|.str z,.f<|.int c]) (_:F=[]) (_:zs.length=9) (_:∀Hs,Rj Hs->(∀e∈Hs,e.1∈zs)->Q (YN Hs) S)
inductive Uh(Z:Zs)(F:Lv)(ds:Lz)(S:NW)(Q:QD):Prop
 |mk (E n v) (_:ds=[OK E,.f<|.str n,.f<|.str v]) (_:F=[]) (_:E.length<=1000) (_:(E.map (·.1)).Nodup) (_:Q (OK<|eJ E n v) S)
inductive Yg(Z:Zs)(F:Lv)(ds:Lz)(S:NW)(Q:QD):Prop
 |mk (E1 E2) (_:ds=[OK E1,OK E2]) (_:F=[]) (_:E1.length<=1000) (_:E2.length<=1000) (_:(E1.map (·.1)).Nodup) (_:(E2.map (·.1)).Nodup) (_:Q (OK<|Og E1 E2) S)
inductive Yi(Z:Zs)(F:Lv)(ds:Lz)(S:NW)(Q:QD):Prop
 |mk (B M Pd ask PJ key E) (_:ds=[.f<|.ref<|B .top,.f<|.str Pd,.f<|oI ask,.f<|.str PJ,.f<|.int key,OK E]) (_:P6 B M S) (_:M.Ls.length<90000) (_:∀S',P6 B (AcS M Pd ask PJ key E) S'->V3 S S'->Q (.f .Of) S')
inductive WT(Z:Zs)(F:Lv)(ds:Lz)(S:NW)(Q:QD):Prop
 |mk (i A w T z qs B ON aw) (_:ds=[.f<|.ref<|A .top,.f<|.ref<|B .top,.f<|.str z,.f<|.int T.key]) (_:F=[]) (_:Ob Z.w i A w S) (_:P6 B (PN w ON aw) S) (_:Ys qs w) (_:T∈w.Ts) (_:bT z=Af) (_:z.length<=1000) (_:w.Ls.length<80000) (_:w.Ms.length<90) (_:w.VL.length<80000) (_:T.sh.length<=5) (_:∀A' S',A' .top=A .top->Ob Z.w i A' (Adi w T z<|Agv<|w.Ms.length+1) S'->P6 B (PN (Adi w T z<|Agv<|w.Ms.length+1) ON aw) S'->Q (.f<|.bl Af) S')
inductive Yh(Z:Zs)(F:Lv)(ds:Lz)(S:NW)(Q:QD):Prop
 |mk (i A w T z E qs B M') (_:ds=[.f<|.ref<|A .top,.f<|.ref<|B .top,.f<|.str z,.f<|.int T.key,OK E]) (_:F=[]) (_:Ob Z.w i A w S) (_:P6 B M' S) (_:YY w.Ts) (_:PX w.Hs) (_:qs.length<=900) (_:T∈w.Ts) (_:OW qs E) (_:(∀k,OW qs<|U6 M'.U5 k)) (_:M'.U5.length<80000) (_:∀S',P6 B (Abj M' w.Hs T z E) S'->V3 S S'->Q (.f .Of) S')
inductive Ue(Z:Zs)(F:Lv)(ds:Lz)(S:NW)(Q:QD):Prop
 |mk (i A w j L qs s B ON aw) (_:ds=[.f<|.ref<|A .top,.f<|.ref<|B .top,.f<|.int<|1+((j:Nat):Int)]) (_:F=[]) (_:Ob Z.w i A w S) (_:P6 B (PN w ON aw) S) (_:UA qs s w ON aw) (_:w.Ls[j]?=U L) (_:∀w' she' S',AiG w ON L w' she'->Ob Z.w i A w' S'->P6 B (PN w' she' aw) S'->Q (.f .Of) S')
inductive Vl(Z:Zs)(F:Lv)(ds:Lz)(S:NW)(Q:QD):Prop
 |mk (i A w z b qs s B ON aw) (_:ds=[.f<|.ref<|A .top,.f<|.ref<|B .top,.f<|.str z,.f<|.bl b]) (_:F=[]) (_:Ob Z.w i A w S) (_:P6 B (PN w ON aw) S) (_:UA qs s w ON aw) (_:lU z=Af) (_:z.length<=1000) (_:z∈w.Hs.map (·.1)) (_:(b=Af->∀S',Ob Z.w i A (sI w z) S'->P6 B (PN (sI w z) ON<|aw.filter λy=>decide<|y≠z) S'->Q (.f .Of) S')) (_:(b=An->∀aw' S',aw'.Perm (iX w z).away->aw'.Pairwise xV->Ob Z.w i A (iX w z) S'->P6 B (PN (iX w z) ON aw') S'->Q (.f .Of) S'))
inductive Yj(Z:Zs)(F:Lv)(ds:Lz)(S:NW)(Q:QD):Prop
 |mk (i A w n q s B ON aw q0 q1) (_:ds=[.f<|.ref<|A .top,.f<|.ref<|B .top,.f<|.int n,.l [.f<|.str q0,.f<|.str q1],.l<|w.Ts.map λT=>.f<|.int T.key]) (_:F=[]) (_:q=[q0,q1]) (_:Ob Z.w i A w S) (_:P6 B (PN w ON aw) S) (_:UA q s w ON aw) (_:s<60) (_:w.Ts≠[]) (_:(∀z∈q,bT z=Af/\z.length<=1000)) (_:(∀z∈w.Hs.map (·.1),lU z=Af/\z.length<=1000)) (_:w.Hs.length<64) (_:∀A' w' she' aw' S',A' .top=A .top->Ob Z.w i A' w' S'->P6 B (PN w' she' aw') S'->UA q (s+1) w' she' aw'->w'.Hs=w.Hs->(w'.Ts.map λT=>D.f<|.int T.key)=(w.Ts.map λT=>D.f<|.int T.key)->Q (.f<|.bl Af) S')
inductive Sx(Z:Zs)(F:Lv)(ds:Lz)(S:NW)(Q:QD):Prop
 |mk (i A w) (_:ds=[.f<|.ref<|A .left]) (_:Ob Z.w i A w S) (_:(w.hints.map λe=>OM e.1).Nodup) (_:w.hints.length<64) (_:(w.hints=[]->∀p,S p=Ah->p∉F->Q (.f<|.ref p) (NP S p (.own 0,.l [])))) (_:(∀e r,Pt w.hints=e::r->∀p a,S p=Ah->p∉F->S a=Ah->a∉F->a≠p->Q (.f<|.ref p) (NP (NP S p (.own 0,.l (rB e a::r.map UW))) a (.own 0,.d<|Pp e.2))))
inductive SD(Z:Zs)(F:Lv)(ds:Lz)(S:NW)(Q:QD):Prop
 |mk (i A w) (_:ds=[.f<|.ref<|A .top]) (_:Ob Z.w i A w S) (_:(w.hints.map λe=>OM e.1).Nodup) (_:w.hints.length<64) (_:∀p xs S1,Agz S S1 (Pt w.hints) p xs->Q (.f<|.ref p) S1)
inductive QX(Z:Zs)(F:Lv)(ds:Lz)(S:NW)(Q:QD):Prop
 |mk (i A w) (_:ds=[.f<|.ref<|A .top]) (_:Ob Z.w i A w S) (_:w.away.length<64) (_:∀ms,ms.Perm w.away->GI ms=Af->∀a,S a=Ah->a∉F->Q (.f<|.ref a) (NP S a (.own 0,U0 ms)))
inductive WQ(Z:Zs)(F:Lv)(ds:Lz)(S:NW)(Q:QD):Prop
 |mk (i A w qs s B ON aw) (_:ds=[.f<|.ref<|A .top,.f<|.ref<|B .top]) (_:F=[]) (_:Ob Z.w i A w S) (_:P6 B (PN w ON aw) S) (_:UA qs s w ON aw) (_:∀S',Ob Z.w i A w S'->P6 B (PN w ON aw) S'->Q (.f<|.bl Af) S')
inductive Ail(Z:Zs)(F:Lv)(ds:Lz)(S:NW)(Q:QD):Prop
 |mk (ns) (_:ds=[.l<|(ns:LD).map λz=>.f<|.int z]) (_:F=[]) (_:∀S',Q (.f<|.bl Af) S')
structure Fz(Z:Zs):Prop where
 cl_Ask:Xf Z.K Z.w.A
 cl_Asks:Xf Z.K Z.w.S
 cl_Hints:Xf Z.K Z.w.H
 cl_Letter:Xf Z.K Z.w.L
 cl_Post:Xf Z.K Z.w.P
 cl_Thing:Xf Z.K Z.w.T
 cl_World:Xf Z.K Z.w.W
 fT:AfG Z.K Z.w.T ["key","copies","reads","writes","shelves"]
 fL:AfG Z.K Z.w.L ["number","label","ask","house","key","state"]
 fP:AfG Z.K Z.w.P ["sent","under_way"]
 fA:AfG Z.K Z.w.A ["kind","asker","key","enough","gathered","ahead","heard","stage"]
 fS:AfG Z.K Z.w.S ["begun"]
 fH:AfG Z.K Z.w.H ["kept"]
 fW:AfG Z.K Z.w.W ["there","declared","absent","left","post","asks","learnt"]
 ne_t:Z.o≠Z.d
 a_is_whole:Ph Z.K "is_whole" sO
 a_is_text_up_to:Ph Z.K "is_text_up_to" YW
 a_is_word:Ph Z.K "is_word" gJ
 a_is_house:Ph Z.K "is_house" aH
 a_is_key:Ph Z.K "is_key" AcN
 a_is_value:Ph Z.K "is_value" aI
 a_later:Ph Z.K "later" Afq
 a_count_of:Ph Z.K "count_of" sM
 a_joined:Ph Z.K "joined" AcO
 a_written:Ph Z.K "written" zM
 a_Letter___init:∃f,Ou Z.K Z.w.L "__init__" "Letter.__init__" YS f
 m_Letter:BY Z.K Z.w.L=Af/\By Z.K (.ref Z.w.L)=Af
 a_Letter_shown:∃f,Ou Z.K Z.w.L "shown" "Letter.shown" aA f
 a_Post_send:∃f,Ou Z.K Z.w.P "send" "Post.send" pC f
 a_Post_letters:∃f,Ou Z.K Z.w.P "letters" "Post.letters" TV f
 a_Post_letter_of:∃f,Ou Z.K Z.w.P "letter_of" "Post.letter_of" XJ f
 a_Post_take:∃f,Ou Z.K Z.w.P "take" "Post.take" pE f
 a_need_asker:Ph Z.K "need_asker" kT
 a_World_thing_of:∃f,Ou Z.K Z.w.W "thing_of" "World.thing_of" XM f
 a_World_need_house:∃f,Ou Z.K Z.w.W "need_house" "World.need_house" VS f
 a_Thing_homes:∃f,Ou Z.K Z.w.T "homes" "Thing.homes" dG f
 a_Thing_is_home:∃f,Ou Z.K Z.w.T "is_home" "Thing.is_home" YT f
 a_Thing_shelf:∃f,Ou Z.K Z.w.T "shelf" "Thing.shelf" dH f
 a_Thing_lay:∃f,Ou Z.K Z.w.T "lay" "Thing.lay" pF f
 a_World_homes:∃f,Ou Z.K Z.w.W "homes" "World.homes" dO f
 a_World_houses:∃f,Ou Z.K Z.w.W "houses" "World.houses" aE f
 a_World_letters:∃f,Ou Z.K Z.w.W "letters" "World.letters" YV f
 a_World_lose:∃f,Ou Z.K Z.w.W "lose" "World.lose" kK f
 a_World_shelf:∃f,Ou Z.K Z.w.W "shelf" "World.shelf" dQ f
 a_Ask___init:∃f,Ou Z.K Z.w.A "__init__" "Ask.__init__" kD f
 m_Ask:BY Z.K Z.w.A=Af/\By Z.K (.ref Z.w.A)=Af
 a_Asks_begin:∃f,Ou Z.K Z.w.S "begin" "Asks.begin" kH f
 a_Asks_begin_write:∃f,Ou Z.K Z.w.S "begin_write" "Asks.begin_write" VR f
 a_Asks_ask_of:∃f,Ou Z.K Z.w.S "ask_of" "Asks.ask_of" dD f
 a_Ask_hear:∃f,Ou Z.K Z.w.A "hear" "Ask.hear" sL f
 a_Hints_leave:∃f,Ou Z.K Z.w.H "leave" "Hints.leave" dE f
 a_Hints_shown:∃f,Ou Z.K Z.w.H "shown" "Hints.shown" R0 f
 a_Hints_take_due:∃f,Ou Z.K Z.w.H "take_due" "Hints.take_due" Sw f
 a_roof_of:Ph Z.K "roof_of" zK
 a_room_of:Ph Z.K "room_of" zL
 a_drawer_of:Ph Z.K "drawer_of" pG
 a_place_of:Ph Z.K "place_of" sU
 a_best_of:Ph Z.K "best_of" gH
 a_order:∃c,eL Z.K "order" kU c/\FN Z.K c Z.o=Af
 a_beside:Ph Z.K "beside" aG
 a_dealt:∃c,eL Z.K "dealt" kO c/\FN Z.K c Z.d=Af
 a_Thing_neighbour:∃f,Ou Z.K Z.w.T "neighbour" "Thing.neighbour" WG f
 a_World_leave_with_neighbour:∃f,Ou Z.K Z.w.W "leave_with_neighbour" "World.leave_with_neighbour" QW f
 a_World_bring_state:∃f,Ou Z.K Z.w.W "bring_state" "World.bring_state" UY f
 a_World_known:∃f,Ou Z.K Z.w.W "known" "World.known" dP f
 a_World_send_to_homes:∃f,Ou Z.K Z.w.W "send_to_homes" "World.send_to_homes" Tz f
 a_World_write:∃f,Ou Z.K Z.w.W "write" "World.write" dR f
 a_Ask_found:∃f,Ou Z.K Z.w.A "found" "Ask.found" pB f
 a_World_bring_answer:∃f,Ou Z.K Z.w.W "bring_answer" "World.bring_answer" TX f
 a_World_bring_query:∃f,Ou Z.K Z.w.W "bring_query" "World.bring_query" UX f
 a_World_bring:∃f,Ou Z.K Z.w.W "bring" "World.bring" dJ f
 a_World_fall:∃f,Ou Z.K Z.w.W "fall" "World.fall" kJ f
 a_World_rise:∃f,Ou Z.K Z.w.W "rise" "World.rise" kM f
 a_World_away:∃f,Ou Z.K Z.w.W "away" "World.away" kI f
 a_World_hints:∃f,Ou Z.K Z.w.W "hints" "World.hints" dM f
 a_are_counts:Ph Z.K "are_counts" kN
 a_need_counts:Ph Z.K "need_counts" dX
 a_Thing___init:∃f,Ou Z.K Z.w.T "__init__" "Thing.__init__" aB f
 m_Thing:BY Z.K Z.w.T=Af/\By Z.K (.ref Z.w.T)=Af
 a_Thing_settle:∃f,Ou Z.K Z.w.T "settle" "Thing.settle" aC f
 a_World_declare:∃f,Ou Z.K Z.w.W "declare" "World.declare" YU f
 a_Post___init:∃f,Ou Z.K Z.w.P "__init__" "Post.__init__" dF f
 m_Post:BY Z.K Z.w.P=Af/\By Z.K (.ref Z.w.P)=Af
 a_Hints___init:∃f,Ou Z.K Z.w.H "__init__" "Hints.__init__" Z9 f
 m_Hints:BY Z.K Z.w.H=Af/\By Z.K (.ref Z.w.H)=Af
 a_Asks___init:∃f,Ou Z.K Z.w.S "__init__" "Asks.__init__" dA f
 m_Asks:BY Z.K Z.w.S=Af/\By Z.K (.ref Z.w.S)=Af
 a_World___init:∃f,Ou Z.K Z.w.W "__init__" "World.__init__" aD f
 m_World:BY Z.K Z.w.W=Af/\By Z.K (.ref Z.w.W)=Af
 a_law_cell:Ph Z.K "_law_cell" sP
 a_law_mixed:Ph Z.K "_law_mixed" pJ
 a_law_names:Ph Z.K "_law_names" X6
 a_law_houses:Ph Z.K "_law_houses" kP
 a_law_written:Ph Z.K "_law_written" dW
 a_law_join:Ph Z.K "_law_join" sQ
 a_law_send:Ph Z.K "_law_send" sS
 a_law_write:Ph Z.K "_law_write" pK
 a_law_left:Ph Z.K "_law_left" sR
 a_law_brought:Ph Z.K "_law_brought" dU
 a_law_turned:Ph Z.K "_law_turned" WH
 a_law_step:Ph Z.K "_law_step" sT
 a_law_right:Ph Z.K "_law_right" TY
 a_law:Ph Z.K "law" pH
structure Tx(M:Md)(Z:Zs):Prop extends Fz Z where
 d:∃X:BO,Z.K.In X/\X.Ns AJ M.mg
 b_all:M.mg "all"=Ah
 b_bool:M.mg "bool"=Ah
 b_dict:M.mg "dict"=Ah
 b_enumerate:M.mg "enumerate"=Ah
 b_int:M.mg "int"=Ah
 b_isinstance:M.mg "isinstance"=Ah
 b_len:M.mg "len"=Ah
 b_list:M.mg "list"=Ah
 b_min:M.mg "min"=Ah
 b_range:M.mg "range"=Ah
 b_set:M.mg "set"=Ah
 b_sorted:M.mg "sorted"=Ah
 b_str:M.mg "str"=Ah
 c_ACK:lX M.mg "ACK" (.str "ack")
 c_DONE:lX M.mg "DONE" (.str "done")
 c_DRAWERS:lX M.mg "DRAWERS" (.int 110)
 c_HINT:lX M.mg "HINT" (.str "hint")
 c_KEYS:lX M.mg "KEYS" (.int 256)
 c_MOST_COPIES:lX M.mg "MOST_COPIES" (.int 5)
 c_OPEN:lX M.mg "OPEN" (.str "open")
 c_PLOTS:lX M.mg "PLOTS" (.int 11)
 c_PUT:lX M.mg "PUT" (.str "put")
 c_QUERY:lX M.mg "QUERY" (.str "query")
 c_READ:lX M.mg "READ" (.str "read")
 c_VALUE_LENGTH:lX M.mg "VALUE_LENGTH" (.int 40)
 c_WORD_LENGTH:lX M.mg "WORD_LENGTH" (.int 8)
 c_WORD_SIGNS:lX M.mg "WORD_SIGNS" (.str "abcdefghijklmnopqrstuvwxyz0123456789")
 c_WRITE:lX M.mg "WRITE" (.str "write")
 g_Ask:M.mg "Ask"=U (.ref Z.w.A)
 g_Asks:M.mg "Asks"=U (.ref Z.w.S)
 g_Hints:M.mg "Hints"=U (.ref Z.w.H)
 g_Letter:M.mg "Letter"=U (.ref Z.w.L)
 g_Post:M.mg "Post"=U (.ref Z.w.P)
 g_Thing:M.mg "Thing"=U (.ref Z.w.T)
 g_World:M.mg "World"=U (.ref Z.w.W)
 hK:Z.K.In M.base
 hB:∀P∈([Z.o,Z.d]:Lv),M.base.BuiltinsAt M.mg P
structure Gd(n:Nat)(M:Md)(Z:Zs):Prop where
 T:Tx M Z
 VX:AV 0 n=Af->Hf M Z.K 1 "is_whole" (Yd Z)
 QY:AV 1 n=Af->Hf M Z.K 1 "is_text_up_to" (SE Z)
 XR:AV 2 n=Af->Hf M Z.K 2 "is_word" (aT Z)
 bL:AV 3 n=Af->Hf M Z.K 3 "is_house" (X9 Z)
 pW:AV 4 n=Af->Hf M Z.K 2 "is_key" (gM Z)
 bM:AV 5 n=Af->Hf M Z.K 2 "is_value" (Yc Z)
 wC:AV 6 n=Af->hF M Z 1 "later" pO
 bK:AV 7 n=Af->hF M Z 1 "count_of" X8
 Uw:AV 8 n=Af->hF M Z 2 "joined" gN
 gW:AV 9 n=Af->hF M Z 2 "written" aX
 Tn:AV 10 n=Af->hK M Z 1 "Letter" Z.w.L Sy
 Uo:AV 11 n=Af->hM M Z 1 Z.w.L "shown" Td
 RR:AV 12 n=Af->hM M Z 3 Z.w.P "send" SV
 Uq:AV 13 n=Af->hM M Z 2 Z.w.P "letters" Te
 PQ:AV 14 n=Af->hF M Z 1 "is_whole" Vj
 VW:AV 15 n=Af->hF M Z 2 "is_key" Yb
 Yp:AV 16 n=Af->hF M Z 2 "is_word" WM
 W8:AV 17 n=Af->hF M Z 3 "is_house" Vh
 W9:AV 18 n=Af->hF M Z 2 "is_value" Vi
 SH:AV 19 n=Af->hM M Z 2 Z.w.P "letter_of" RN
 Ur:AV 20 n=Af->hM M Z 3 Z.w.P "take" WJ
 S7:AV 21 n=Af->hF M Z 3 "need_asker" Vm
 Pa:AV 22 n=Af->hM M Z 3 Z.w.W "thing_of" RO
 Po:AV 23 n=Af->hM M Z 4 Z.w.W "need_house" Q2
 R9:AV 24 n=Af->hM M Z 1 Z.w.T "homes" T6
 PZ:AV 25 n=Af->hM M Z 1 Z.w.T "is_home" Sz
 Vr:AV 26 n=Af->hM M Z 1 Z.w.T "shelf" T7
 Yo:AV 27 n=Af->hM M Z 3 Z.w.T "lay" WK
 Sa:AV 28 n=Af->hM M Z 4 Z.w.W "homes" Ua
 Qt:AV 29 n=Af->hM M Z 1 Z.w.W "houses" Ti
 Tq:AV 30 n=Af->hM M Z 3 Z.w.W "letters" QG
 WZ:AV 31 n=Af->hM M Z 4 Z.w.W "lose" Ve
 Vt:AV 32 n=Af->hM M Z 5 Z.w.W "shelf" Uc
 WW:AV 33 n=Af->hK M Z 1 "Ask" Z.w.A Va
 WX:AV 34 n=Af->hM M Z 1 Z.w.S "begin" Vb
 Rx:AV 35 n=Af->hM M Z 3 Z.w.S "begin_write" Q1
 Vo:AV 36 n=Af->hM M Z 2 Z.w.S "ask_of" T2
 bJ:AV 37 n=Af->hM M Z 3 Z.w.A "hear" X7
 Vp:AV 38 n=Af->hM M Z 3 Z.w.H "leave" T3
 R8:AV 39 n=Af->hM M Z 1 Z.w.H "shown" T4
 SG:AV 40 n=Af->hM M Z 2 Z.w.H "take_due" Qj
 XT:AV 41 n=Af->Hf M Z.K 1 "roof_of" (aV Z)
 XU:AV 42 n=Af->Hf M Z.K 1 "room_of" (aW Z)
 Uv:AV 43 n=Af->hF M Z 1 "drawer_of" WL
 bP:AV 44 n=Af->Hf M Z.K 1 "place_of" (Yk Z)
 gU:AV 45 n=Af->Hf M Z.K 2 "best_of" (aR Z)
 lH:AV 46 n=Af->Hf M Z.K 4 "order" (pP Z)
 pV:AV 47 n=Af->Hf M Z.K 2 "beside" (gL Z)
 wB:AV 48 n=Af->Hf M Z.K 5 "dealt" (pN Z)
 XS:AV 49 n=Af->hF M Z 4 "order" aU
 gV:AV 50 n=Af->hF M Z 5 "dealt" aS
 RS:AV 51 n=Af->hM M Z 5 Z.w.T "neighbour" Rv
 Pq:AV 52 n=Af->hM M Z 6 Z.w.W "leave_with_neighbour" Pf
 Q4:AV 53 n=Af->hM M Z 7 Z.w.W "bring_state" QP
 Sb:AV 54 n=Af->hM M Z 4 Z.w.W "known" Ub
 QB:AV 55 n=Af->hM M Z 4 Z.w.W "send_to_homes" Ql
 Vu:AV 56 n=Af->hM M Z 5 Z.w.W "write" Ud
 Yn:AV 57 n=Af->hM M Z 1 Z.w.A "found" WI
 QR:AV 58 n=Af->hM M Z 5 Z.w.W "bring_answer" QA
 Q3:AV 59 n=Af->hM M Z 1 Z.w.W "bring_query" QO
 Vs:AV 60 n=Af->hM M Z 8 Z.w.W "bring" T8
 WY:AV 61 n=Af->hM M Z 5 Z.w.W "fall" Vd
 W4:AV 62 n=Af->hM M Z 5 Z.w.W "rise" Vf
 lG:AV 63 n=Af->hM M Z 1 Z.w.W "away" Vc
 eE:AV 64 n=Af->hM M Z 2 Z.w.W "hints" T9
 W7:AV 65 n=Af->hF M Z 2 "are_counts" Vg
 Vy:AV 66 n=Af->hF M Z 3 "need_counts" Ui
 Us:AV 67 n=Af->hK M Z 1 "Thing" Z.w.T Tf
 Ut:AV 68 n=Af->hM M Z 6 Z.w.T "settle" Tg
 To:AV 69 n=Af->hM M Z 7 Z.w.W "declare" SA
 Vq:AV 70 n=Af->hK M Z 1 "Post" Z.w.P T5
 Um:AV 71 n=Af->hK M Z 1 "Hints" Z.w.H Tc
 Vn:AV 72 n=Af->hK M Z 1 "Asks" Z.w.S TZ
 Uu:AV 73 n=Af->hK M Z 3 "World" Z.w.W Th
 P4:AV 74 n=Af->hF M Z 1 "_law_cell" Ye
 RT:AV 75 n=Af->hF M Z 1 "_law_mixed" WN
 Yq:AV 76 n=Af->Hf M Z.K 1 "_law_names" (WO Z)
 Vw:AV 77 n=Af->hF M Z 1 "_law_names" Ug
 Xa:AV 78 n=Af->hF M Z 2 "_law_houses" Vk
 Vx:AV 79 n=Af->hF M Z 1 "_law_written" Uh
 VY:AV 80 n=Af->hF M Z 1 "_law_join" Yg
 SY:AV 81 n=Af->hF M Z 1 "_law_send" Yi
 Yr:AV 82 n=Af->hF M Z 6 "_law_write" WT
 bN:AV 83 n=Af->hF M Z 5 "_law_left" Yh
 Vv:AV 84 n=Af->hF M Z 9 "_law_brought" Ue
 Xb:AV 85 n=Af->hF M Z 6 "_law_turned" Vl
 bO:AV 86 n=Af->hF M Z 10 "_law_step" Yj
 Tj:AV 87 n=Af->hM M Z 1 Z.w.H "shown" Sx
 Tp:AV 88 n=Af->hM M Z 2 Z.w.W "hints" SD
 Ry:AV 89 n=Af->hM M Z 1 Z.w.W "away" QX
 Ux:AV 90 n=Af->hF M Z 4 "_law_right" WQ
section
variable{M:Md}{Z:Zs}
def jE(G:Gd 0 M Z):Hf M Z.K 1 "is_whole" (Yd Z):=by
 refine hf (N:=["thing"]) 1 1 G.T.d G.T.a_is_whole (λφ H r=>OV<|PV<|UK (OT QK M7 G.T.b_isinstance Boot.b_isinstance<|NU (Pw 0)<|NU (Wx (v:=.ty "int") M7 G.T.b_int Boot.b_int Y) N0)<|VQ<|AeU<|OT QK M7 G.T.b_isinstance Boot.b_isinstance<|NU (Pw 0)<|NU (Wx (v:=.ty "bool") M7 G.T.b_bool Boot.b_bool Y) N0) (λc H Q E h=>?_);let(x,n,rfl,a,k):=h;refine#[_,Y,x,"int",_,_,Y,a.ty,ZS a.mem M5,_,Y,?_];have b:=a.mem;simp only[AB,Cv,FU]at b;rcases b with rfl|rfl|rfl|rfl|rfl|rfl|rfl
 case inr.inr.inl=>exact#[_,Y,x,"bool",_,_,Y,a.ty,ZS a.mem M5,_,Y,k]
 case inr.inl=>exact#[_,Y,x,"bool",_,_,Y,a.ty,ZS a.mem M5,_,Y,k]
 all_goals exact k
def Wl(G:Gd 1 M Z):Hf M Z.K 1 "is_text_up_to" (SE Z):=by
 refine hf (N:=["thing","length"]) 2 2 G.T.d G.T.a_is_text_up_to (λφ H r=>OV<|PV<|UK (OT QK M7 G.T.b_isinstance Boot.b_isinstance<|NU (Pw 0)<|NU (Wx (v:=.ty "str") M7 G.T.b_str Boot.b_str Y) N0)<|VQ<|XI (o0 uV) (o0 uV) (Pn) (OT iC M7 G.T.b_len Boot.b_len<|NU (Pw 0) N0)<|Pw 1) (λj H Q E h=>?_);let(x,n,m,rfl,a,i,k):=h;refine#[_,Y,x,"str",_,_,Y,a.ty,ZS a.mem M5,_,Y,?_];have f:=a.mem;by_cases e:n="str"
 ·subst e;let(z,rfl):=a.Af6;refine#[_,Y,z,Y,i z Y,_,_,Y,Y,_,Y,?_];refine rE (λg=>?_) (λg=>?_)
  ·refine#[_,Y,_,_,Y,Y,?_];have c:decide (1<=z.length)=Af:=by simpa using(by omega:1<=z.length)
   simpa[upTo,c]using k
  ·have c:decide (1<=z.length)=An:=by simpa using(by omega:¬ 1<=z.length)
   simpa[upTo,c]using k
 ·have b:=a.AbJ e;rw[lJ b]at k;simp only[kinds,AB,Cv,FU]at f;rcases f with rfl|rfl|rfl|rfl|rfl|rfl|rfl
  case inr.inr.inr.inl=>exact absurd Y e
  all_goals exact k
def mY(G:Gd 2 M Z):Hf M Z.K 2 "is_word" (aT Z):=by
 refine hf (N:=["thing"]) 1 1 G.T.d G.T.a_is_word (λφ H r=>OV<|PV<|UK (Qf (G.QY Y) r.1<|NU (Pw 0)<|NU (TU M7 G.T.c_WORD_LENGTH) N0)<|VQ<|OT (Zp Y) M7 G.T.b_all Boot.b_all<|NU (gC (Nc:=["sign"]) (src:=[Ah]) Y (Aci<|Pw 0) Y M4 (PD (sc0:=NM gJ) Y M4) M4 (OS<|OE) (λ_ _ _=>O2 (i:=0) (show(["sign"]:Lw).Nodup by decide +kernel) Y<|BK Y) (λ_ _ _=>UN) λ_ _ _=>Zc yK (Pw 0) (TU M7 G.T.c_WORD_SIGNS) (by first|exact TR _ M5 M5|rfl)) N0) (λw H Q E h=>?_);let(x,n,rfl,t,m,k):=h;refine#[_,Y,x,n,_,Y,t,λz e=>C6<|UP<|m z e,_,Y,?_];by_cases l:∃z,x=.str z
 ·obtain ⟨z,rfl⟩:=l;show if(decide (1<=z.length)&&decide ((z.length:Int)<=8))=Af then _ else _
  refine AjN (λj=>?_) (λj=>?_)
  ·refine #[_,Y,z,Y,λD u=>?_];refine VJ uJ (by rw[Ac,AZ];exact C6<|UP<|m z Y) u (λ_=>Af) (λv=>match v with|.str y=>.bl (!(Dl "abcdefghijklmnopqrstuvwxyz0123456789" y 0 ("abcdefghijklmnopqrstuvwxyz0123456789":AA).length 1).isEmpty)|v=>v) ?_ ?_
   ·intro i v A R B b C p s;obtain⟨c,F,rfl⟩:∃c,z.cps.toList[i]?=U c/\v=.str ⟨(zTo [c])⟩:=by
     rw[Aj]at b;cases e:z.cps.toList[i]? with
     |none=>rw[e]at b;cases b
     |some c=>rw[e]at b;exact#[c,Y,(AK b).symm]
    exact#[Wk.set Y,xM #[_,Y,_,_,Y,Y,p _ Y<|NV.refl _]]
   ·intro q g o;have e:(F0 (λv=>match v with|V.str y=>V.bl (!(Dl "abcdefghijklmnopqrstuvwxyz0123456789" y 0 ("abcdefghijklmnopqrstuvwxyz0123456789":AA).length 1).isEmpty)|v=>v)<|Io (λ_=>Af)<|F0 (λc=>V.str ⟨(zTo [c])⟩) z.cps.toList)=(z.cps.toList.map low).map V.bl:=by
     rw[BW.mpr (λ_ _=>rfl),AO,AO];refine Bp λc _=>?_
     show V.bl _=V.bl (low c);rw[<-AjJ]
    rw[e]at g;refine#[D,_,Y,Pb.of g,?_];have f:Aea (.str z)=(z.cps.toList.map low).all id:=by
     show bT z=_;unfold bT;have a:(decide (1<=z.length)&&decide (z.length<=8))=Af:=by simp only[Bf,Br]at j ⊢;omega
     rw[a,ED,Dn];rfl
    rw[<-f];exact k q o
  ·have f:Aea (.str z)=An:=by
    show bT z=_;unfold bT;have a:(decide (1<=z.length)&&decide (z.length<=8))=An:=by simp only[Ia,FV]at j ⊢;omega
    rw[a,DX]
   rw[f]at k;exact k H<|NV.refl _
 ·have f:Aea x=An:=by
   cases x with
   |str z=>exact absurd #[z,Y] l
   |_=>rfl
  rw[f]at k;exact Ad3 (lJ λz e=>l #[z,e]) (k H<|NV.refl _)
def jB(G:Gd 3 M Z):Hf M Z.K 3 "is_house" (X9 Z):=by
 refine hf (N:=["thing","words"]) 1 2 G.T.d G.T.a_is_house (λφ H r=>OA (Ah0 (Acv<|Afa<|OT QK M7 G.T.b_isinstance Boot.b_isinstance<|NU (Pw 0)<|NU (Wx (v:=.ty "str") M7 G.T.b_str Boot.b_str Y) N0) (OV<|PV<|Agm)<|vB) (OA (Qs r.2 1<|X5 F.plainAttrs_str F.slot_str_split F.type_str_split nZ (Pw 0)<|NU (RX) N0) (OV<|PV<|UK (Zc uU (OT PL M7 G.T.b_len Boot.b_len<|NU (Pw 1) N0) (Pn)<|XC _)<|VQ<|OT (Zp Y) M7 G.T.b_all Boot.b_all<|NU (gC (Nc:=["word"]) (src:=[Ah]) Y (UL<|Pw 1) Y M4 (PD (sc0:=NM aH) Y M4) M4 (OS<|OE) (λ_ _ _=>O2 (i:=0) (show(["word"]:Lw).Nodup by decide +kernel) Y<|BK Y) (λ_ _ _=>UN) λ_ _ _=>Qf (G.XR Y) r.1<|NU (Pw 0) N0) N0))) (λW H Q E h=>?_)
 let(x,n,rfl,o,m,k):=h;refine#[_,Y,x,"str",_,_,Y,o.ty,ZS o.mem M5,_,Y,?_];by_cases s:n="str"
 ·subst s;let(z,rfl):=o.Af6;have m:=m z Y;refine Ad3 M5 ?_;refine#[_,Y,Y,z,_,Y,Y,M4,M6,λp t=>?_];rw[Zt];have a:=gP z 46;generalize CO z ⟨(zTo [46])⟩=b at *;have f:=Abl a m;have u:=tT a;have q:b.length<=1001:=by
   have:=aY (c:=46) z.cps.toList;rw[<-a,Ac,AZ]at this;exact AS this<|CC m
  refine#[_,Y,p,_,Y,.inl<|Pb.of NQ,Y,_,Y,?_];rw[Ac];refine Ama (λO=>?_) (λO=>?_)
  ·refine #[_,Y,p,Y,#[_,Pb.of NQ],λD I=>?_];refine VJ (ZQ<|Pb.of NQ) (by rw[Ac];exact C6<|BI q M5) I (λ_=>Af) (λv=>match v with|.str y=>.bl (bT y)|v=>v) ?_ ?_
   ·intro i v X R R' j y0 P j0;obtain⟨y,L,rfl⟩:∃y,y∈b/\v=.str y:=by
     rw[Aj]at j;cases e:b[i]? with
     |none=>rw[e]at j;cases j
     |some y=>rw[e]at j;exact#[y,Cj.mpr #[i,e],(AK j).symm]
    refine#[Wk.set Y,xM #[_,Y,.str y,"str",Y,#[.str y,M5],(λw e=>by cases e;exact f y L),λu3 A=>P _ Y A]]
   ·intro S l B;have e:(F0 (λv=>match v with|V.str y=>V.bl (bT y)|v=>v)<|Io (λ_=>Af)<|b.map V.str)=(b.map bT).map V.bl:=by
     rw[BW.mpr (λ_ _=>rfl),AO,AO];rfl
    rw[e]at l;refine#[D,_,Y,Pb.of l,?_];have g:Ad6 (.str z)=(b.map bT).all id:=by show lU z=_;rw[<-u,Ap M6,ED,Dn];rfl
    rw[<-g];exact k S<|((NV.refl _).upd t).trans B
  ·have g:Ad6 (.str z)=An:=by
    show lU z=_;rw[<-u,Ar M6,DX]
   rw[g]at k;exact k _<|(NV.refl _).upd t
 ·have g:Ad6 x=An:=by
   cases x with
   |str z=>exact absurd Y<|o.AbJ s z
   |_=>rfl
  rw[g]at k;have C:(n == "str"||(n == "bool"&&"str" == "int"))=An:=by simp[s]
  rw[C];exact k _ (NV.refl _)
def qY(G:Gd 4 M Z):Hf M Z.K 2 "is_key" (gM Z):=by
 refine hf (N:=["thing"]) 1 1 G.T.d G.T.a_is_key (λφ H r=>OV<|PV<|UK (Qf (G.VX Y) r.1<|NU (Pw 0) N0)<|VQ<|XI (o0 uV) (o0 AbT) (Pn) (Pw 0)<|TU M7 G.T.c_KEYS) (λg H Q E h=>?_);let(x,n,rfl,b,k):=h;refine#[_,Y,x,n,Y,b,_,Y,?_];by_cases c:n="int"
 ·subst c;let(m,rfl):=b.AjM;refine xM #[_,Y,_,_,Y,Y,_,Y,rE (λa=>?_) λa=>?_]
  ·refine#[_,_,Y,Y,?_];have k:Q (.bl<|decide (0<=m)&&decide (m<256)) H:=k;rw[Ap a,ED]at k;exact k
  ·have k:Q (.bl<|decide (0<=m)&&decide (m<256)) H:=k;rw[Ar a,DX]at k;exact k
 ·have e:(n == "int")=An:=by simpa using c
  have f:Alk x=An:=by
   cases x with
   |int m=>exact absurd Y<|b.Ahv c m
   |_=>rfl
  rw[f]at k;exact Ad3 e k
def jD(G:Gd 5 M Z):Hf M Z.K 2 "is_value" (Yc Z):=by
 refine hf (N:=["thing"]) 1 1 G.T.d G.T.a_is_value (λφ H r=>OV<|PV<|UK (Qf (G.QY Y) r.1<|NU (Pw 0)<|NU (TU M7 G.T.c_VALUE_LENGTH) N0)<|VQ<|OT (Zp Y) M7 G.T.b_all Boot.b_all<|NU (gC (Nc:=["sign"]) (src:=[Ah]) Y (Aci<|Pw 0) Y M4 (PD (sc0:=NM aI) Y M4) M4 (OS<|OE) (λ_ _ _=>O2 (i:=0) (show(["sign"]:Lw).Nodup by decide +kernel) Y<|BK Y) (λ_ _ _=>UN) λ_ _ _=>XI gA gA (RX) (Pw 0)<|RX) N0) (λC H Q E h=>?_);let(x,n,rfl,w,o,k):=h;refine#[_,Y,x,n,_,Y,w,λz e=>C6<|UP<|o z e,_,Y,?_];by_cases l:∃z,x=.str z
 ·obtain ⟨z,rfl⟩:=l;show if(decide (1<=z.length)&&decide ((z.length:Int)<=40))=Af then _ else _
  refine AjN (λj=>?_) (λj=>?_)
  ·refine #[_,Y,z,Y,λD t=>?_];refine VJ uJ (by rw[Ac,AZ];exact C6<|UP<|o z Y) t (λ_=>Af) (λv=>match v with|.str y=>.bl (seen<|y.cps.toList.headD 0)|v=>v) ?_ ?_
   ·intro i v p R I f F A u;obtain⟨c,j0,rfl⟩:∃c,z.cps.toList[i]?=U c/\v=.str ⟨(zTo [c])⟩:=by
     rw[Aj]at f;cases e:z.cps.toList[i]? with
     |none=>rw[e]at f;cases f
     |some c=>rw[e]at f;exact#[c,Y,(AK f).symm]
    have q:=A p Y<|NV.refl _;refine#[Wk.set Y,xM #[_,Y,_,_,Y,Y,_,Y,?_]];refine Al9 (Ahf c AgV) (λm=>?_) (λm=>?_)
    ·refine #[_,_,Y,Y,?_];have e:(!decide (("~":AA).cps.toList<(⟨(zTo [c])⟩:AA).cps.toList))=seen c:=by
      rw[Aej c Aiv];unfold seen;rw[Ap m,ED]
     rw[e];exact q
    ·have e:seen c=An:=by
      unfold seen;rw[Ar m,DX]
     have q:R (.bl<|seen c) p:=q;rw[e]at q;exact q
   ·intro B g s;have e:(F0 (λv=>match v with|V.str y=>V.bl (seen<|y.cps.toList.headD 0)|v=>v)<|Io (λ_=>Af)<|F0 (λc=>V.str ⟨(zTo [c])⟩) z.cps.toList)=(z.cps.toList.map seen).map V.bl:=by
     rw[BW.mpr (λ_ _=>rfl),AO,AO];rfl
    rw[e]at g;refine#[D,_,Y,Pb.of g,?_];have b:Ad9 (.str z)=(z.cps.toList.map seen).all id:=by
     show Af5 z=_;unfold Af5;have a:(decide (1<=z.length)&&decide (z.length<=40))=Af:=by simp only[Bf,Br]at j ⊢;omega
     rw[a,ED,Dn];rfl
    rw[<-b];exact k B s
  ·have b:Ad9 (.str z)=An:=by
    show Af5 z=_;unfold Af5;have a:(decide (1<=z.length)&&decide (z.length<=40))=An:=by simp only[Ia,FV]at j ⊢;omega
    rw[a,DX]
   rw[b]at k;exact k H<|NV.refl _
 ·have b:Ad9 x=An:=by
   cases x with
   |str z=>exact absurd #[z,Y] l
   |_=>rfl
  rw[b]at k;exact Ad3 (lJ λz e=>l #[z,e]) (k H<|NV.refl _)
def xF(G:Gd 6 M Z):hF M Z 1 "later" pO:=by
 refine fG (N:=["one","other"]) 2 2 G.T.d G.T.a_later (λφ H r=>NI (O5 (Ot AhA (Pk Pc (ev 0)<|NT)<|Pk Pc (ev 1)<|NT) (NK<|N4<|Y3 (Ot yG (Pk Pc (ev 0)<|NT)<|Pk Pc (ev 1)<|NT) (ev 0)<|ev 1)<|N9) (NK<|N4<|Y3 (Ot Agk (Pk Pc (ev 1)<|NT)<|U3) (ev 1)<|ev 0)) ?_
 rintro F i S Q⟨a,b,rfl,c⟩;symm;refine#[_,_,_,Y,Y,Y,_,_,_,Y,Y,Y,Y,?_];by_cases h:a.1=b.1
 ·refine Oa (by rw[Ap<|congrArg V.int h];rfl) #[_,_,_,Y,Y,Y,Y,?_];show QT (AbH<|.f<|YQ b.2) _ _;rw[XD];cases e:b.2 with
  |none=>exact Ol M7<|Oi (by rw[Aga h e]at c;exact c)
  |some z=>exact Oa M7<|Oi (by rw[Agb h (by rw[e];nofun)]at c;exact c)
 ·refine Ol (by rw[Ar λz=>h (by injection z)];rfl) #[_,_,_,Y,Y,Y,_,_,_,Y,Y,Y,?_];by_cases g:b.1<a.1
  ·exact Ol (Ap g)<|Oi (by rw[Abg g]at c;exact c)
  ·exact Oa (Ar g) (Oi (by rw[Abh M6]at c;exact c))
def jA(G:Gd 7 M Z):hF M Z 1 "count_of" X8:=by
 refine fG (N:=["state","asker"]) 2 2 G.T.d G.T.a_count_of (λφ H r=>NK<|N4<|Y3 (pU r.1 (ev 1)<|ev 0) (Pk Pc (Oc r.1 (ev 0)<|ev 1)<|NT)<|NT) ?_;rintro F b S Q⟨E,n,rfl,a⟩;symm;refine Aac (.inl Y) ?_;show QT (OB (Pp E)<|.inr n).isSome _ _;rw[Rc];unfold mH at a;cases e:look E n with
 |none=>rw[e]at a;exact Oa M7<|Oi a
 |some x=>rw[e]at a;exact Ol M7 (zG (.inl Y) #[Rn x,by show OB (Pp E) (.inr n)=_;rw[Rc,e];rfl,#[_,_,_,Y,Y,Y,Oi a]])
def qZ(G:Gd 8 M Z):hF M Z 2 "joined" gN:=by
 refine fG (N:=["one","other","state","asker","entry"]) 2 5 G.T.d G.T.a_joined (λφ H r=>NI (Oh r.2 2<|O1 P9 M7 G.T.b_dict Boot.b_dict<|NH (ev 0) NL) (NI (AcL (ev 1) (eZ (n:=2) Y<|Pm (OC r.2 3)<|Pm (OC r.2 4)<|Xm)<|NK<|OY r.1 (ev 2) (ev 3)<|Y3 (pU r.1 (ev 3)<|ev 2) (N7 (G.wC Y) r.1<|NH (Oc r.1 (ev 2)<|ev 3)<|NH (ev 4) NL)<|ev 4) (NK<|N4<|ev 2))) ?_
 rintro F C S Q⟨g,c,rfl,rfl,D,E,w⟩;symm;refine#[Pp g,.inl Y,Sl (.own 0) λa B _=>?_];refine#[Pp c,Y,.inl #[Y,λb q=>#[λj h o=>∃u v,h=[U<|OK g,U<|OK c,U<|.f<|.ref a,u,v]/\o=NP S a (.own 0,.d<|Pp<|Og g<|c.take j),#[Ah,Ah,Y,Y],?_,?_]]]
 ·rintro j x h o k⟨u,v,rfl,rfl⟩p;rw[Aj,Aj]at k;let(y,t,rfl):=AF.mp k;let(f,s,rfl):=AF.mp t;have l:a∉[b]:=λm=>by
   cases As.mp m;have:=p q;rw[NO]at this;cases this
  have I:(Og g<|c.take j).length<=2000:=AS (fO _ _) (by rw[Bt];omega);have z:c.take (j+1)=c.take j++[f]:=by rw[BP,s];rfl
  have i:∀x,x=bB (look (Og g<|c.take j) f.1) f.2->Aa2 [b] (Rn x) (.f<|.ref a) (.f<|.str f.1) (λA=>∃u v,[U<|OK g,U<|OK c,U<|.f<|.ref a,U<|.f<|.str f.1,U<|Rn f.2]=[U<|OK g,U<|OK c,U<|.f<|.ref a,u,v]/\A=NP S a (.own 0,.d<|Pp<|Og g<|c.take<|j+1)) (NP S a (.own 0,.d<|Pp<|Og g<|c.take j)):=λx k=>by
   refine wG NO l (by rw[Ac];omega) ?_;refine#[_,_,Y,?_];rw[U9,UO,z,join_snoc,k]
  refine#[_,Y,Y,?_];refine Aac (.inr #[a,_,Y,NO]) ?_;show QT (OB (Pp<|Og g<|c.take j)<|.inr f.1).isSome _ _;rw[Rc];cases e:look (Og g<|c.take j) f.1 with
  |none=>exact Oa M7<|i f.2 (by rw[e];rfl)
  |some x=>exact Ol M7<|zG (.inr #[a,_,Y,NO]) #[Rn x,by show OB (Pp _) _=_;rw[Rc,e];rfl,.mk x f.2 Y<|i (rJ x f.2) (by rw[e];rfl)]
 ·rintro h o⟨u,v,rfl,rfl⟩;rw[Ac,Ac,BA];exact iY NO (by rw[RV B];exact w)
def nD(G:Gd 9 M Z):hF M Z 2 "written" aX:=by
 refine fG (N:=["state","asker","value","made","name","entry"]) 3 6 G.T.d G.T.a_written (λφ H r=>NI (Oh r.2 3<|OO) (NI (AcL (ev 0) (eZ (n:=2) Y<|Pm (OC r.2 4)<|Pm (OC r.2 5)<|Xm)<|NK<|OY r.1 (ev 3) (ev 4)<|O7<|NH (Pk Pc (ev 5)<|NT)<|NH (U3) NL) (NI (OY r.1 (ev 3) (ev 1)<|O7<|NH (OL QM (N7 (G.bK Y) r.1<|NH (ev 0)<|NH (ev 1) NL)<|NT)<|NH (ev 2) NL) (NK<|N4<|ev 3)))) ?_
 rintro F B S Q⟨E,n,v,rfl,rfl,z,k⟩;symm;refine Sl (.own 0) λa p _=>?_
 refine#[Pp E,Y,.inl #[Y,λb s=>#[λj c e=>∃x y,c=[U<|OK E,U<|.f<|.str n,U<|.f<|.str v,U<|.f<|.ref a,x,y]/\e=NP S a (.own 0,.d<|Pp<|Z2<|E.take j),#[Ah,Ah,Y,Y],?_,?_]]]
 ·rintro j x c e i⟨u,w,rfl,rfl⟩h;rw[Aj,Aj]at i;let(y,q,rfl):=AF.mp i;let(f,l,rfl):=AF.mp q;have g:a∉[b]:=λm=>by
   cases As.mp m;have:=h s;rw[NO]at this;cases this
  have A:(Z2<|E.take j).length<=1000:=AS (Zb _) (by rw[Bt];omega);have o:E.take (j+1)=E.take j++[f]:=by rw[BP,l];rfl
  refine#[_,Y,Y,#[_,_,_,Y,Y,Y,Y,?_]];refine wG NO g (by rw[Ac];omega) ?_;refine#[_,_,Y,?_];rw[U9,show D.t [.f<|.int f.2.1,.f .Of]=Rn (f.2.1,Ah)from Y,UO,o,oN]
 ·rintro c e⟨u,w,rfl,rfl⟩;rw[Ac,Ac,BA];refine .mk E n Y #[Y,?_];refine wG NO nofun (by rw[Ac];have:=Zb E;omega)<|Se ?_;dsimp only;rw[U9,show D.t [.f<|.int<|mH E n+1,.f<|.str v]=Rn (mH E n+1,U v)from Y,UO];exact iY NO (by rw[RV p];exact k)
def Wf(G:Gd 10 M Z):hK M Z 1 "Letter" Z.w.L Sy:=by
 refine AgY (N:=["self","number","label","ask","house","key","state"]) 7 7 G.T.a_Letter___init G.T.m_Letter G.T.g_Letter (λφ H r=>NI (OJ (ev 0)<|ev 1) (NI (OJ (ev 0)<|ev 2) (NI (OJ (ev 0)<|ev 3) (NI (OJ (ev 0)<|ev 4) (NI (OJ (ev 0)<|ev 5) (NK<|OJ (ev 0)<|O1 P9 M7 G.T.b_dict Boot.b_dict<|NH (ev 6) NL)))))) ?_
 rintro F h S Q⟨a,r,n,g,d,f,b,E,e,rfl,rfl,c⟩;symm;refine lR G.T.fL ?_;refine lR G.T.fL ?_;refine lR G.T.fL ?_;refine lR G.T.fL ?_;refine lR G.T.fL ?_;refine#[_,.inl Y,O3 ?_];exact lR G.T.fL c
def Xo(G:Gd 11 M Z):hM M Z 1 Z.w.L "shown" Td:=by refine Sg (N:=["self"]) 1 1 G.T.a_Letter_shown G.T.cl_Letter (λφ H r=>NK<|N4<|O7<|NH (NS<|ev 0)<|NH (NS<|ev 0)<|NH (NS<|ev 0)<|NH (NS<|ev 0)<|NH (NS<|ev 0) NL) ?_;rintro F b S Q⟨L,rfl,a⟩;symm;exact bU Y (bU Y<|bU Y<|bU Y<|bU Y #[Y,Oi a])
def cF(G:Gd 12 M Z):hM M Z 3 Z.w.P "send" SV:=by
 refine Sg (N:=["self","label","ask","house","key","state"]) 6 6 G.T.a_Post_send G.T.cl_Post (λφ H r=>NI (OJ (ev 0)<|OL QM (NS<|ev 0)<|NT) (NK<|OY r.1 (NS<|ev 0) (NS<|ev 0)<|AdT (G.Tn Y) G.T.cl_Letter r.1<|NH (NS<|ev 0)<|NH (ev 1)<|NH (ev 2)<|NH (ev 3)<|NH (ev 4)<|NH (ev 5) NL)) ?_
 rintro F o S Q⟨i,A,w,k,c,e,b,E,rfl,d,m,h,hF,f⟩;symm;refine QZ d .post ?_;refine AoJ d .post {w with OF:=w.OF+1} λj a g=>?_
 refine QZ a .post ?_;refine#[.own 0,λx l n=>?_];refine .mk x _ _ _ _ _ _ _ j Y Y #[Y,iY NO ?_];rw[RV l];refine QZ a .post<|QZ a .post ?_;refine#[_,_,Y,.inl #[_,a .uw _ Y,hF,by rw[Ac];exact Bo h M5,?_]];refine f _ (a.upd .uw Y ?_<|by walk_at"w")<|g.trans<|Fr.set<|a .uw _ Y;exact AfB #[w.OF+1,k,c,e,b,E] λM hM=>Int.lt_add_one_of_le (m M hM)
def Xp(G:Gd 13 M Z):hM M Z 2 Z.w.P "letters" Te:=by refine Sg (N:=["self"]) 1 1 G.T.a_Post_letters G.T.cl_Post (λφ H r=>NK<|N4<|mO (Nc:=["number","self"]) (src:=[Ah,U 0]) Y (Ox (qN Y) M7 G.T.b_sorted Boot.b_sorted<|NH (NS<|ev 0) NL) Y M4 (PD (sc0:=NM TV) Y M4) M4 (OS<|OQ Y (BK Y) Y<|OE) (λ_ _ _=>O2 (i:=0) (show(["number","self"]:Lw).Nodup by decide +kernel) Y<|BK Y) (λ_ _ _=>XQ) (λ_ _ _=>Pl (G.Uo Y) r.1<|Oc r.1 (NS<|ev 1)<|ev 0)) ?_;rintro F o S Q⟨i,A,w,rfl,b,d,n,g⟩;symm;refine QZ b .post ?_;refine#[_,w.Ls.map (·.num),V2 b .uw,by rw[AO,AO];rfl,d.up,O3 ?_];refine#[_,.inl Y,.inl Y,λp c m=>?_];refine Adk w.Ls (λL=>.f<|.int L.num) AiU c (λe=>.inl Y) M6 (λL h e j k=>?_)<|Oi g;have a:=b.lE (x:=(.own 0,.l e)) c;refine QZ a .post (zG (V2 a .uw) #[_,lN d.nd h,AoF Y,.mk L Y k])
def ZJ(G:Gd 14 M Z):hF M Z 1 "is_whole" Vj:=by
 refine(G.VX Y).imp λd H Q E⟨F,S,e,c,R,b,h,k⟩=>?_
 let(n,rfl,a):=h;let(v,rfl,w):=RA b;cases N1.mp w;exact .mk _ "int" rfl (AnG _) (k.flat R a)
def jC(G:Gd 15 M Z):hF M Z 2 "is_key" Yb:=by
 refine(G.pW Y).imp λd H Q E⟨F,S,e,c,R,b,h,k⟩=>?_
 let(n,rfl,a):=h;let(v,rfl,w):=RA b;cases N1.mp w;exact .mk _ "int" rfl (AnG _) (k.flat R a)
def cK(G:Gd 16 M Z):hF M Z 2 "is_word" WM:=by
 refine(G.XR Y).imp λg H Q E⟨F,S,i,d,R,b,h,k⟩=>?_
 let(z,rfl,c,a):=h;let(v,rfl,w):=RA b;cases N1.mp w;exact .mk _ "str" rfl (Am7 _) (λy e=>by injection e with e;rw[<-e];exact c) λj s=>k _ _ _ _ (Px.Py s.n) (R.same s) .f a
def ZH(G:Gd 17 M Z):hF M Z 3 "is_house" Vh:=by
 refine(G.bL Y).imp λg H Q E⟨F,S,i,d,R,b,h,k⟩=>?_
 let(z,rfl,c,a):=h;let(v,rfl,w):=RA b;cases N1.mp w;exact .mk _ "str" rfl (Am7 _) (λy e=>by injection e with e;rw[<-e];exact c) λj s=>k _ _ _ _ (Px.Py s.n) (R.same s) .f a
def ZI(G:Gd 18 M Z):hF M Z 2 "is_value" Vi:=by
 refine(G.bM Y).imp λg H Q E⟨F,S,i,d,R,b,h,k⟩=>?_
 let(z,rfl,c,a):=h;let(v,rfl,w):=RA b;cases N1.mp w;exact .mk _ "str" rfl (Am7 _) (λy e=>by injection e with e;rw[<-e];exact c) λj s=>k _ _ _ _ (Px.Py s.n) (R.same s) .f a
def VG(G:Gd 19 M Z):hM M Z 2 Z.w.P "letter_of" RN:=by
 refine Sg (N:=["self","number"]) 2 2 G.T.a_Post_letter_of G.T.cl_Post (λφ H r=>NI (O5 (PW.lV<|w_or (RP<|Qq<|N7 (G.PQ Y) r.1<|NH (ev 1) NL)<|bR<|Rw r.1 (ev 1)<|NS<|ev 0) (NK<|Ra)<|N9) (NK<|N4<|Oc r.1 (NS<|ev 0)<|ev 1)) ?_
 rintro F e S Q⟨i,A,w,L,rfl,a,c,b,d⟩;symm;refine .mk _ Y ?_;refine QZ a .post ?_;refine Aac (V2 a .uw) ?_;refine Oa (by rw[lN c.nd b];rfl) ?_;exact QZ a .post (zG (V2 a .uw) #[_,lN c.nd b,Oi d])
def cG(G:Gd 20 M Z):hM M Z 3 Z.w.P "take" WJ:=by
 refine Sg (N:=["self","number","letter"]) 2 3 G.T.a_Post_take G.T.cl_Post (λφ H r=>NI (Oh r.2 2<|N2 (G.SH Y) r.1 (ev 0)<|NH (ev 1) NL) (NI (N6<|AdR (NS<|ev 0)<|ev 1) (NK<|N4<|ev 2))) ?_
 rintro F f S Q⟨i,A,w,L,rfl,a,c,b,e,d⟩;symm;refine#[Sd a .post,.mk i A w L Y a c b ?_];symm;refine QZ a .post ?_;refine#[.inl #[_,V2 a .uw],?_];refine AoI (a .uw _ Y) e ?_;refine#[_,lN c.nd b,?_];rw[AgP];exact Oi (d _ (a.AmK<|Pg w L.num)<|Fr.set<|a .uw _ Y)
def ZM(G:Gd 21 M Z):hF M Z 3 "need_asker" Vm:=by refine fG (N:=["asker"]) 1 1 G.T.d G.T.a_need_asker (λφ H r=>NK<|O5 (RP<|Qq<|N7 (G.Yp Y) r.1<|NH (ev 0) NL) (NK<|Ra)<|N9) ?_;rintro F e S Q⟨z,rfl,a,c,b⟩;symm;refine .mk z Y c ?_;exact Oa (by rw[a];rfl) b
def VH(G:Gd 22 M Z):hM M Z 3 Z.w.W "thing_of" RO:=by
 refine Sg (N:=["self","key"]) 2 2 G.T.a_World_thing_of G.T.cl_World (λφ H r=>NI (O5 (PW.lV<|w_or (RP<|Qq<|N7 (G.VW Y) r.1<|NH (ev 1) NL)<|bR<|Rw r.1 (ev 1)<|NS<|ev 0) (NK<|Ra)<|N9) (NK<|N4<|Oc r.1 (NS<|ev 0)<|ev 1)) ?_
 rintro F e S Q⟨i,A,w,T,rfl,b,a,c,d⟩;symm;refine .mk _ Y ?_;refine Oa (by rw[AaY<|a.key T c];rfl) ?_;refine QZ b .top ?_;refine Aac (V2 b .decl) ?_;refine Oa (by rw[bQ a c];rfl) ?_;exact QZ b .top (zG (V2 b .decl) #[_,bQ a c,Oi d])
def TK(G:Gd 23 M Z):hM M Z 4 Z.w.W "need_house" Q2:=by refine Sg (N:=["self","house"]) 2 2 G.T.a_World_need_house G.T.cl_World (λφ H r=>NK<|O5 (PW.lV<|w_or (RP<|Qq<|N7 (G.W8 Y) r.1<|NH (ev 1) NL)<|bR<|Rw r.1 (ev 1)<|NS<|ev 0) (NK<|Ra)<|N9) ?_;rintro F g S Q⟨i,A,w,z,rfl,d,f,a,e,b,c⟩;symm;refine .mk z Y e ?_;refine Oa (by rw[a];rfl) ?_;refine QZ d .top ?_;refine Aac (.inl Y) ?_;exact Oa (by rw[AfD,Ap b];rfl) c
def YB(G:Gd 24 M Z):hM M Z 1 Z.w.T "homes" T6:=by refine Sg (N:=["self"]) 1 1 G.T.a_Thing_homes G.T.cl_Thing (λφ H r=>NK<|N4<|O1 (AdG Y) M7 G.T.b_list Boot.b_list<|NH (NS<|ev 0) NL) ?_;rintro F e S Q⟨i,A,w,T,rfl,c,a,b,d⟩;symm;refine zF (c.qG a b) Y #[_,.inr #[_,_,Y,c.Zh a b],O3<|Oi ?_];rw[Aft];exact d
def Wg(G:Gd 25 M Z):hM M Z 1 Z.w.T "is_home" Sz:=by refine Sg (N:=["self","house"]) 2 2 G.T.a_Thing_is_home G.T.cl_Thing (λφ H r=>NK<|N4<|AjB r.1 (ev 1)<|NS<|ev 0) ?_;rintro F e S Q⟨i,A,w,T,z,rfl,c,a,b,d⟩;symm;refine zF (c.qG a b) Y<|Aac (.inr #[_,_,Y,c.Zh a b])<|Oi ?_;rw[Ay AQ,Ade];exact d
def YC(G:Gd 26 M Z):hM M Z 1 Z.w.T "shelf" T7:=by refine Sg (N:=["self","house"]) 2 2 G.T.a_Thing_shelf G.T.cl_Thing (λφ H r=>NK<|N4<|O1 P9 M7 G.T.b_dict Boot.b_dict<|NH (QJ r.1 (NS<|ev 0) (ev 1)<|OO) NL) ?_;rintro F f S Q⟨i,A,w,T,z,rfl,c,a,b,e⟩;symm;refine zF (c.qG a b) Y #[.inl #[_,.inr #[_,_,Y,c.Zh a b]],O3<|Als (.inr #[_,_,Y,c.Zh a b])<|Se ?_];rw[show Yv (.d [])=OK []from Y,lM];exact#[_,.inl Y,O3<|Oi e]
def cH(G:Gd 27 M Z):hM M Z 3 Z.w.T "lay" WK:=by
 refine Sg (N:=["self","house","state"]) 3 3 G.T.a_Thing_lay G.T.cl_Thing (λφ H r=>NK<|O5 (Qq<|N2 (G.PZ Y) r.1 (ev 0)<|NH (ev 1) NL) (NK<|OY r.1 (NS<|ev 0) (ev 1)<|N7 (G.Uw Y) r.1<|NH (Oc r.1 (NS<|ev 0)<|ev 1)<|NH (ev 2) NL)<|N9) ?_;rintro F g S Q⟨i,A,w,T,z,E,rfl,rfl,c,a,b,e,f,d⟩;symm;refine#[zC (c.qG a b) Y,.mk i A w T z Y c a b ?_];by_cases m:z∈T.sh.map (·.1)
 ·refine Ol (Ap m) ?_;refine zF (c.qG a b) Y<|zG (.inr #[_,_,Y,c.Zh a b]) #[_,AfE m,.mk _ E Y Y e f ?_];refine zF (c.qG a b) Y<|wG (c.Zh a b) nofun (by unfold VT;rw[Ac];have:=a.bS T b;omega)<|Se ?_;rw[AcA];refine d _ ?_<|Fr.set<|c.Zh a b;unfold Wr;rw[AG m];exact c.AmZ a b _
 ·refine Oa (Ar m) (d S ?_ Fr.refl);unfold Wr;rw[Ay m,zP a b];exact c
def YF(G:Gd 28 M Z):hM M Z 4 Z.w.W "homes" Ua:=by refine Sg (N:=["self","key"]) 2 2 G.T.a_World_homes G.T.cl_World (λφ H r=>NK<|N4<|Pl (G.R9 Y) r.1<|N2 (G.Pa Y) r.1 (ev 0)<|NH (ev 1) NL) ?_;rintro F e S Q⟨i,A,w,T,rfl,b,a,c,d⟩;symm;exact#[Sd b .top,.mk i A w T Y b a c #[zC (b.qG a c) Y,.mk i A w T Y b a c<|Oi d]]
def Xv(G:Gd 29 M Z):hM M Z 1 Z.w.W "houses" Ti:=by refine Sg (N:=["self"]) 1 1 G.T.a_World_houses G.T.cl_World (λφ H r=>NK<|N4<|O1 P9 M7 G.T.b_dict Boot.b_dict<|NH (NS<|ev 0) NL) ?_;rintro F c S Q⟨i,A,w,rfl,b,a⟩;symm;exact QZ b .top #[_,.inl Y,O3<|Oi a]
def Wj(G:Gd 30 M Z):hM M Z 3 Z.w.W "letters" QG:=by refine Sg (N:=["self"]) 1 1 G.T.a_World_letters G.T.cl_World (λφ H r=>NK<|N4<|Pl (G.Uq Y) r.1<|NS<|ev 0) ?_;rintro F e S Q⟨i,A,w,rfl,a,d,c,b⟩;symm;exact QZ a .top #[Sd a .post,.mk i A w Y a d c<|Oi b]
def ZE(G:Gd 31 M Z):hM M Z 4 Z.w.W "lose" Ve:=by refine Sg (N:=["self","number"]) 2 2 G.T.a_World_lose G.T.cl_World (λφ H r=>NK<|N6<|N2 (G.Ur Y) r.1 (NS<|ev 0)<|NH (ev 1) NL) ?_;rintro F f S Q⟨i,A,w,L,rfl,a,e,c,d,b⟩;symm;exact QZ a .top #[Sd a .post,.mk i A w L Y a e c d b]
def YH(G:Gd 32 M Z):hM M Z 5 Z.w.W "shelf" Uc:=by
 refine Sg (N:=["self","house","key"]) 3 3 G.T.a_World_shelf G.T.cl_World (λφ H r=>NI (N6<|N2 (G.Po Y) r.1 (ev 0)<|NH (ev 1) NL) (NK<|N4<|N2 (G.Vr Y) r.1 (N2 (G.Pa Y) r.1 (ev 0)<|NH (ev 2) NL)<|NH (ev 1) NL)) ?_
 rintro F j S Q⟨i,A,w,T,z,rfl,b,g,d,h,e,a,c,f⟩;symm;refine#[Sd b .top,.mk i A w z Y b g d h e ?_];exact#[Sd b .top,.mk i A w T Y b a c #[zC (b.qG a c) Y,.mk i A w T z Y b a c<|Oi f]]
def Zz(G:Gd 33 M Z):hK M Z 1 "Ask" Z.w.A Va:=by
 refine AgY (N:=["self","kind","asker","key","enough","state","ahead"]) 7 7 G.T.a_Ask___init G.T.m_Ask G.T.g_Ask (λφ H r=>NI (OJ (ev 0)<|ev 1) (NI (OJ (ev 0)<|ev 2) (NI (OJ (ev 0)<|ev 3) (NI (OJ (ev 0)<|ev 4) (NI (OJ (ev 0)<|O1 P9 M7 G.T.b_dict Boot.b_dict<|NH (ev 5) NL) (NI (OJ (ev 0)<|O1 wN M7 G.T.b_list Boot.b_list<|NH (ev 6) NL) (NI (OJ (ev 0)<|OO) (NK<|OJ (ev 0)<|RK M7 G.T.c_OPEN)))))))) ?_
 rintro F o S Q⟨a,r,f,d,k,e,l,E,m,j,rfl,rfl,g⟩;symm;refine lR G.T.fA<|lR G.T.fA<|lR G.T.fA<|lR G.T.fA ?_;refine#[_,.inl Y,O3<|lR G.T.fA ?_];refine#[_,.inl<|.inl Y,O3<|lR G.T.fA ?_];dsimp only[Adq,eU,AiP];refine Sl f λh c i=>?_
 have b:a≠h:=λz=>by rw[<-z,NO]at c;cases c
 rw[NJ<|Ax b]at c;refine zS ((NJ b).trans NO) (.inr<|G.T.fA.n _ M4) Y ?_;rw[Qe b];exact lR G.T.fA (g h b c i)
def ZA(G:Gd 34 M Z):hM M Z 1 Z.w.S "begin" Vb:=by
 refine Sg (N:=["self","ask"]) 2 2 G.T.a_Asks_begin G.T.cl_Asks (λφ H r=>NI (N6<|xB F.plainAttrs_list F.slot_list_append F.type_list_append ZY (NS<|ev 0)<|NH (ev 1) NL) (NK<|N4<|Ox Pr M7 G.T.b_len Boot.b_len<|NH (NS<|ev 0) NL)) ?_
 rintro F m S Q⟨i,A,w,a,h,B,l,rfl,rfl,g,e,f,n,k,j⟩;symm;have b:=(g.lE (x:=(.wd i<|.NX w.Ms.length,.d<|PM B.NX)) f).lE (a:=a) (x:=(.wd i<|.ask w.Ms.length,Aal Z.w.A h B)) ((NJ n).trans e);refine QZ b .asks ?_;refine#[.inl #[Y,_,V2 b .begun],#[_,_,_,_,Y,Y,b .begun _ Y,by rw[Ac,BX];omega,?_]];have c:=g.Aht B a h e f n;refine QZ c .asks ?_;refine#[_,.inl<|V2 c .begun,Oi ?_];rw[Ac,BX,AM,Bh];refine j _ c ?_;exact((Fr.new f).trans (Fr.new<|(NJ n).trans e)).trans (Fr.set<|b .begun _ Y)
def TJ(G:Gd 35 M Z):hM M Z 3 Z.w.S "begin_write" Q1:=by
 refine Sg (N:=["self","asker","key","enough","state"]) 5 5 G.T.a_Asks_begin_write G.T.cl_Asks (λφ H r=>NK<|N4<|N2 (G.WX Y) r.1 (ev 0)<|NH (AdT (G.WW Y) G.T.cl_Ask r.1<|NH (RK M7 G.T.c_WRITE)<|NH (ev 1)<|NH (ev 2)<|NH (ev 3)<|NH (ev 4)<|NH (U2<|NL) NL) NL) ?_;rintro F p S Q⟨i,A,w,z,k,c,E,rfl,d,j,g⟩;symm;refine#[Sd d .asks,?_];refine#[Y,O3 ?_];refine#[.wd i<|.ask w.Ms.length,λa l q=>?_];refine .mk a _ (.wd i<|.NX w.Ms.length) "write" z k c E [] S Y Y λh e m o=>#[Y,Oi ?_]
 exact .mk i A w a h #["write",z,k,c,E,[],[],"open"] S Y Y d l m e j λf b n=>Oi (g a h f b n)
def Yx(G:Gd 36 M Z):hM M Z 2 Z.w.S "ask_of" T2:=by
 refine Sg (N:=["self","number"]) 2 2 G.T.a_Asks_ask_of G.T.cl_Asks (λφ H r=>NI (O5 (PW.lV<|w_or (RP<|Qq<|N7 (G.PQ Y) r.1<|NH (ev 1) NL)<|w_or (Ot rU (ev 1)<|NT)<|bR<|Ot yG (ev 1)<|Ox Pr M7 G.T.b_len Boot.b_len<|NH (NS<|ev 0) NL) (NK<|Ra)<|N9) (NK<|N4<|Pk QE (NS<|ev 0)<|OL AbS (ev 1)<|NT)) ?_
 rintro F d S Q⟨i,A,w,n,rfl,a,c,b⟩;symm;refine .mk _ Y ?_;refine QZ a .asks ?_;refine#[_,.inl<|V2 a .begun,?_];refine Oa (Ar (by rw[Ac,BX];omega)) ?_;refine QZ a .asks ?_;refine#[_,_,_,V2 a .begun,Y,?_,Oi b];rw[show((n:Nat):Int)+1-1=n by omega];exact QI (by rw[Aj,Eh c];rfl)
def iZ(G:Gd 37 M Z):hM M Z 3 Z.w.A "hear" X7:=by
 refine Sg (N:=["self","house","state"]) 3 3 G.T.a_Ask_hear G.T.cl_Ask (λφ H r=>NI (O5 (PW.lV<|w_or (Ot AhA (NS<|ev 0)<|RK M7 G.T.c_OPEN)<|bR<|pU r.1 (ev 1)<|NS<|ev 0) (NK<|N4<|Yu)<|N9) (NI (OY r.1 (NS<|ev 0) (ev 1)<|Yu) (NI (OJ (ev 0)<|N7 (G.Uw Y) r.1<|NH (NS<|ev 0)<|NH (ev 2) NL) (NI (O5 (Ot rU (Ox AgD M7 G.T.b_len Boot.b_len<|NH (NS<|ev 0) NL)<|NS<|ev 0) (NK<|N4<|Yu)<|N9) (NI (OJ (ev 0)<|RK M7 G.T.c_DONE) (NK<|N4<|Yu)))))) ?_
 rintro F y S Q⟨i,A,w,n,B,z,E,rfl,rfl,g,f,x,u,v,a⟩;symm;have m:=g.Aaq f;have p:=g.Al5 f;have s:=g.AnV f;have b:({w with Ms:=w.Ms.set n B}:PR)=w:=by
  have:w.Ms.set n B=w.Ms:=by
   apply DW;intro j;by_cases e:n=j
   ·subst e;rw[BU (Av.mp f).1,f]
   ·rw[Cn e]
  rw[this]
 unfold Rq at a;refine zF m Y #[Y,?_];by_cases k:B.pQ="open"
 ·refine Oa (by rw[Ap<|congrArg V.str k];rfl) ?_;refine zF m Y<|Aac (.inr #[_,_,Y,p])<|Se ?_;rw[Ay AQ,UR];by_cases h:z∈B.NX
  ·rw[AG<|.inr h]at a;exact Ol (Ap h)<|Oi<|a S (by rw[b];exact g) Fr.refl
  ·refine Oa (Ar h) ?_;rw[Ay λq=>q.elim (λq=>q k) h]at a;refine zF m Y<|wG p nofun (by rw[kW];omega)<|Se ?_;rw[vE _ _ h];have c:NP S (A<|.NX n) (.wd i<|.NX n,.d<|PM<|B.NX++[z]) (A<|.ask n)=_:=(NJ s).trans m;refine zF c Y<|.mk B.qV E Y Y u v ?_;refine zS c (.inl Y) Y ?_;refine zF NO Y ?_;refine#[_,_,_,Y,(NJ<|Ax s).trans NO,nofun,?_];refine zF NO Y ?_;rw[kW,AM,Bh];have t:∀o,Fr i S (NP (NP S (A<|.NX n) (.wd i<|.NX n,.d<|PM<|B.NX++[z])) (A<|.ask n) (.wd i<|.ask n,o)):=λo=>(Fr.set p).trans (Fr.set c)
   by_cases l:((B.NX.length:Int)+1)<B.qR
   ·rw[AG l]at a;exact Ol (Ap (by push_cast;exact l))<|Oi<|a _ (g.Aja (B':={B with NX:=B.NX++[z],qV:=Og B.qV E}) f)<|t _
   ·rw[Ay l]at a;refine Oa (Ar (by push_cast;exact l)) ?_;refine zS NO (.inl Y) Y ?_;rw[U9];exact Oi<|a _ (g.Aja (B':={B with NX:=B.NX++[z],qV:=Og B.qV E,pQ:="done" }) f)<|t _
 ·rw[AG<|.inl k]at a;exact Ol (by rw[Ar λq=>k (by injection q)];rfl) (Oi<|a S (by rw[b];exact g) Fr.refl)
def Yy(G:Gd 38 M Z):hM M Z 3 Z.w.H "leave" T3:=by
 refine Sg (N:=["self","keeper","house","key","state","place"]) 5 6 G.T.a_Hints_leave G.T.cl_Hints (λφ H r=>NI (Oh r.2 5<|O7<|NH (ev 1)<|NH (ev 2)<|NH (ev 3) NL) (NK<|OY r.1 (NS<|ev 0) (ev 5)<|N7 (G.Uw Y) r.1<|NH (QJ r.1 (NS<|ev 0) (ev 5)<|OO)<|NH (ev 4) NL)) ?_
 rintro F h S Q⟨i,A,w,b,z,k,E,rfl,rfl,a,g,e,f,c⟩;symm;refine#[Y,?_];symm;refine QZ a .left ?_;refine#[.inr #[_,V2 a .kept],O3 ?_];refine Adj (kk:=OM (b,z,k)) (V2 a .kept) ?_;rw[show Yv (.d [])=OK []from Y,wD];refine .mk _ E Y Y e f ?_;refine QZ a .left ?_;refine Ak8 (kk:=OM (b,z,k)) (a .kept _ Y) (by rw[Ac];omega) ?_;rw[vD];exact c _ (a.hint _) (Fr.set<|a .kept _ Y)
def Yz(G:Gd 39 M Z):hM M Z 1 Z.w.H "shown" T4:=by
 refine Sg (N:=["self"]) 1 1 G.T.a_Hints_shown G.T.cl_Hints (λφ H r=>NK<|N4<|mO (Nc:=["place","self"]) (src:=[Ah,U 0]) Y (Ox (SM Y) M7 G.T.b_sorted Boot.b_sorted<|NH (NS<|ev 0) NL) Y M4 (PD (sc0:=NM R0) Y M4) M4 (OS<|OQ Y (BK Y) Y<|OE) (λ_ _ _=>O2 (i:=0) (show(["place","self"]:Lw).Nodup by decide +kernel) Y<|BK Y) (λ_ _ _=>XQ) (λ_ _ _=>OL AbQ (ev 0)<|O7<|NH (O1 P9 M7 G.T.b_dict Boot.b_dict<|NH (Oc r.1 (NS<|ev 1)<|ev 0) NL) NL)) ?_;rintro F o S Q⟨i,A,w,rfl,b,g,j,h⟩;symm;refine QZ b .left ?_;have f:(w.hints.map λe=>(OM e.1,OK e.2)).map (·.1)=w.hints.map λe=>OM e.1:=by rw[AO];rfl
 refine#[_,V2 b .kept,by rw[f];exact Y6 _,by rw[Ac];exact j,O3 ?_];rw[f,UQ];refine#[_,.inl Y,.inl Y,λp c q=>?_];refine Adk (Pt w.hints) (λe=>dZ<|OM e.1) UW c (λd=>.inl Y) (by rw[(OZ w.hints).length_eq];omega) (λe m d n k=>?_)<|Oi h;have a:=b.lE (x:=(.own 0,.l d)) c;refine QZ a .left ?_;refine .inr #[_,OM e.1,_,V2 a .kept,Y,SJ g<|QQ m,?_];refine#[_,.inl Y,O3 ?_];refine#[Y,?_];exact#[_,_,Y,Y,nofun,nofun,Y,k]
def VF(G:Gd 40 M Z):hM M Z 2 Z.w.H "take_due" Qj:=by
 refine Sg (N:=["self","away","due","hint"]) 2 4 G.T.a_Hints_take_due G.T.cl_Hints (λφ H r=>NI (vI (i₀:=2) r.2 Y (BK Y) (Nc:=["hint","away"]) (src:=[Ah,U 1]) Y (Pl (G.R8 Y) r.1<|ev 0) Y M4 (PD (sc0:=NM Sw) Y M4) M4 (OS<|OQ Y (BK Y) Y<|OE) (λ_ _ _=>O2 (i:=0) (show(["hint","away"]:Lw).Nodup by decide +kernel) Y<|BK Y) (λ_ _ _=>Ac7<|PW.lV<|w_and (Rw r.1 (Pk Pc (ev 0)<|NT)<|ev 1)<|RB<|Rw r.1 (Pk Pc (ev 0)<|NT)<|ev 1) λ_ _ _=>ev 0)
   (NI (SU (ev 2) (OC r.2 3)<|NK<|N6<|uF r.1 (NS<|ev 0)<|Y4 Af9 (ev 3) lP<|lQ<|NT) (NK<|N4<|ev 2))) ?_
 rintro F L S Q⟨i,A,w,rfl,m,h,D,I⟩;symm;refine#[Sd m .left,.mk i A w Y m h D ?_];refine#[_,.inl Y,.inl Y,λp t O=>?_];refine Ani (Pt w.hints) UW UW (QV w.away) (λo=>.inl Y) (by rw[(OZ w.hints).length_eq];omega) (λe b o B k=>?_) (λe b _ o P k=>k)<|iY NO ?_
 ·have g:=m.lE (x:=(.own 0,.l o)) t;refine#[_,_,_,Y,Y,Y,?_];refine Aac (V2 g .RC)<|Se ?_;rw[AG Y,UR];unfold QV at k;cases s:decide (e.1.1∈w.away)with
  |true=>rw[s]at k;exact k
  |false=>rw[s]at k;refine#[_,_,_,Y,Y,Y,?_];refine Aac (V2 g .RC)<|Se ?_;rw[AG Y,UR];exact k
 rw[RV t];symm;refine#[_,.inl Y,.inl Y,Lp.mk (λj c d=>∃u,c=[U<|.f<|.ref<|A .left,U<|.f<|.ref<|A .RC,U<|.l<|(Q8 w).map UW,u]/\Ob Z.w i A {w with hints:=Wy w.hints ((Q8 w).take j)} d/\Fr i S d) #[Ah,Y,m,Fr.refl] (λ_ _ _ _=>.inl Y) ?_ ?_]
 ·rintro j x c d v ⟨u,rfl,a,n⟩;rw[Aj]at v;let(e,b,rfl):=AF.mp v;symm;refine QZ a .left ?_;refine#[.inr #[_,V2 a .kept],?_];refine#[_,Y,by show¬ (HT.Q9 4 0 Ah=0/\HT.Q9 4 4 (U 3)=4);decide,?_];have b:(Q8 w)[j]?=U e:=b;have C:e∈Wy w.hints ((Q8 w).take j):=by
   have z:=(Bl.mp<|AH b).1;rw[Zd];refine Bl.mpr #[QQ z,?_];cases q:(((Q8 w).take j).any λx=>decide<|OM e.1=OM x.1)with
   |false=>rfl
   |true=>let(y,E,K):=B0.mp q;exact absurd (B2 K).symm (AgQ h b E)
  refine#[_,_,_,OM e.1,OK e.2,Y,a .kept _ Y,Y,SJ (Acl h _) C,?_];rw[uD];have j0:(Q8 w).take (j+1)=(Q8 w).take j++[e]:=by rw[BP,b];rfl
  refine#[_,Y,?_,n.trans<|Fr.set<|a .kept _ Y];rw[j0,gE];exact a.hint _
 ·rintro c d⟨u,rfl,a,n⟩;rw[Ac]at a;have a:Ob Z.w i A {w with hints:=Wy w.hints ((Q8 w).take (Q8 w).length)} d:=a;rw[BA,vA w h]at a;exact Oi (I d a n)
def nB(G:Gd 41 M Z):Hf M Z.K 1 "roof_of" (aV Z):=by refine hf (N:=["house"]) 1 1 G.T.d G.T.a_roof_of (λφ H r=>OV<|PV<|Z3 rF (X5 F.plainAttrs_str F.slot_str_partition F.type_str_partition jU (Pw 0)<|NU (RX) N0)<|Pn) (λe H Q E h=>?_);let(z,f,r,rfl,g,c,b,k):=h;refine#[_,Y,Y,z,_,Y,Y,M4,M6,λp a=>?_];exact#[p,_,_,_,Y,Y,P5.of NQ,Y,k _ _ (by rw[Zt];exact AbX c b)<|(NV.refl _).upd a]
def nC(G:Gd 42 M Z):Hf M Z.K 1 "room_of" (aW Z):=by refine hf (N:=["house"]) 1 1 G.T.d G.T.a_room_of (λφ H r=>OV<|PV<|Z3 rF (X5 F.plainAttrs_str F.slot_str_rpartition F.type_str_rpartition cY (Pw 0)<|NU (RX) N0)<|Pn) (λe H Q E h=>?_);let(z,f,r,rfl,g,c,b,k):=h;refine#[_,Y,Y,z,_,Y,Y,M4,M6,λp a=>?_];exact#[p,_,_,_,Y,Y,P5.of NQ,Y,k _ _ (by rw[Zt];exact zJ c b)<|(NV.refl _).upd a]
def cJ(G:Gd 43 M Z):hF M Z 1 "drawer_of" WL:=by refine fG (N:=["key"]) 1 1 G.T.d G.T.a_drawer_of (λφ H r=>NK<|N4<|OL Qc (ev 0)<|RK M7 G.T.c_DRAWERS) ?_;rintro F b S Q⟨k,rfl,a⟩;symm;exact#[(by decide:(0:Int)<110),Oi a]
def jK(G:Gd 44 M Z):Hf M Z.K 1 "place_of" (Yk Z):=by refine hf (N:=["drawer","plot"]) 2 2 G.T.d G.T.a_place_of (λφ H r=>OV<|PV<|O8 (oC SR) (O8 (o0 XE) (O8 (oC AbU) (O8 (o0 XE) (Pn)<|O8 (oC UJ) (Pw 0)<|TU M7 G.T.c_PLOTS)<|Pw 1)<|O8 (oC SR) (Pw 0)<|TU M7 G.T.c_PLOTS)<|TU M7 G.T.c_PLOTS) (λc H Q E h=>?_);let(d,t,rfl,a,b,k):=h;walk_at"r";exact k
def mW(G:Gd 45 M Z):Hf M Z.K 2 "best_of" (aR Z):=by
 refine hf (N:=["drawer","plots"]) 2 2 G.T.d G.T.a_best_of (λφ H r=>OV<|PV<|OT (wV Y) M7 G.T.b_min Boot.b_min<|NU (gC (Nc:=["plot","drawer"]) (src:=[Ah,U 0]) Y (AhT<|Pw 1) Y M4 (PD (sc0:=NM gH) Y M4) M4 (OS<|OQ Y (BK Y) Y<|OE) (λ_ _ _=>O2 (i:=0) (show(["plot","drawer"]:Lw).Nodup by decide +kernel) Y<|BK Y) (λ_ _ _=>UN) λ_ _ _=>Qf (G.bP Y) r.1<|NU (Pw 1)<|NU (Pw 0) N0) N0) (λy H Q E h=>?_);let(d,t,b,rfl,e,c,z,p,k):=h;refine#[_,Y,t,Y,#[_,e],λD w=>?_];refine VJ (Aeb e) (by rw[Ac,Bb];omega) w (λ_=>Af) (λv=>match v with|.int i=>.int (pl d i)|v=>v) ?_ ?_
 ·intro i x g R A s f m q;let(u,o,rfl):=Ad5 s;have:=p u<|AH o;exact#[Wk.set Y,xM #[_,Y,_,Y,d,u,Y,M6,M6,m _ Y<|NV.refl _]]
 intro g a f;have l:((b.map V.int).filter λ_=>Af).map (λv=>match v with|.int i=>.int (pl d i)|v=>v)=(b.map<|pl d).map V.int:=by rw[BW.mpr (λ_ _=>rfl),AO,AO];rfl
 rw[l]at a;refine#[D,b.map<|pl d,Y,Pb.of a,?_,λM n j=>?_]
 ·rw[Ac];exact BV.mpr c
 ·rw[AgB n j];exact k _ f
def xG(G:Gd 46 M Z):Hf M Z.K 4 "order" (pP Z):=by
 let(c,a,hc):=G.T.a_order;let(X,hX,hG):=G.T.d;have hC:=Fc G.T.hK hc;have hB:=G.T.hB Z.o M8;refine Anr (N:=["houses","drawer"]) 2 (eL.mk (ps:=["houses","drawer"]) hX hG a<|by walk_at"b") (λf A o s H vs Q E r h=>?_);let(p,F,z,d,rfl,hp,y0,w,d0,d1,tb,k):=h;refine#[_,OV<|PV<|Acd (par:="house") (Nc:=["drawer","houses"]) (src:=[U 1,U 0]) Y hC hB Y (λu fd O j0 h3=>by cases fd;cases O;cases j0;cases h3;rfl) Y Y Y M4 Y (PD (sc0:=NM kU) Y M4) (OQ Y (BK Y) Y<|OQ Y (BK Y) Y<|OE) (AkI r.1) M7 G.T.b_sorted Y (Pw 0) (λq c' s H=>have y:=r.1.AmG _;Qf (G.gU Y) y (NU (Pw 1)<|NU (Qg y (Pw 2)<|Pw 0) N0)),?_];let(P,u3,hT):=tb;refine#[_,Y,p,F,z.map (·.1),Y,.inl hp,y0.keys,(by rw[Ac];have:=w.bS;omega),P,u3,hT,λH2 g W=>#[z.map λe=>qM d e.2,by rw[Ac,Ac],?_,?_]]
 ·intro i n m B v D R C hR;have j:OH H D:=(W.n u3 (by let(q,L,_):=g;exact#[q,L])).trans C.n;rw[Aj]at B v;cases S:z[i]? with
  |none=>rw[S]at B;cases B
  |some e=>rw[S]at B v;cases B;cases v;have v:=AH S;let(t,O,j0):=y0.val w.nd v;exact#[_,Y,_,Y,_,Y,p,.ref t,Y,(by rw[<-O];exact Zl.k (k:=.inr e.1)<|j.dk hp),d,t,e.2,Y,j.AcT j0,w.ne e v,(by have:=w.len e v;omega),w.Al8 e v,λH' s'=>hR _ s']
 ·intro ms l D pm pw C hl;have j:OH H D:=(W.n u3 (by let(q,L,_):=g;exact#[q,L])).trans C.n;have e1:(ms.map λx=>V.str x.2)=(RE z d).map V.str:=by
   rw[<-yP w d0 d1 pm pw,AO];rfl
  rw[e1];have I:=(NV.refl D).upd (o:=.lst<|(RE z d).map V.str) hl;exact k l _ (Tab.same I<|Tab.same C g) (j.trans I.n) (λb ps hb e=>I _ _<|C _ _<|W _ _ hb e) (j.free hl) NQ
def qX(G:Gd 47 M Z):Hf M Z.K 2 "beside" (gL Z):=by
 refine hf (N:=["house","others","under_roof","in_room"]) 2 4 G.T.d G.T.a_beside (λφ H r=>OA (Wz (i₀:=2) r.2 Y (BK Y) (Nc:=["other","house"]) (src:=[Ah,U 0]) Y (UL<|Pw 1) Y M4 (PD (sc0:=NM aG) Y M4) M4 (OS<|OQ Y (BK Y) Y<|OE) (λ_ _ _=>O2 (i:=0) (show(["other","house"]:Lw).Nodup by decide +kernel) Y<|BK Y) (λ_ _ _=>jZ<|WB uU (Qf (G.XT Y) r.1<|NU (Pw 0) N0) (Qf (G.XT Y) r.1<|NU (Pw 1) N0)<|XC _) λ_ _ _=>Pw 0)
   (OA (Wz (i₀:=3) r.2 Y (BK Y) (Nc:=["other","house"]) (src:=[Ah,U 0]) Y (UL<|Pw 2) Y M4 (PD (sc0:=NM aG) Y M4) M4 (OS<|OQ Y (BK Y) Y<|OE) (λ_ _ _=>O2 (i:=0) (show(["other","house"]:Lw).Nodup by decide +kernel) Y<|BK Y) (λ_ _ _=>jZ<|WB uU (Qf (G.XU Y) r.1<|NU (Pw 0) N0) (Qf (G.XU Y) r.1<|NU (Pw 1) N0)<|XC _) λ_ _ _=>Pw 0)
   (OV<|PV<|Ace<|NU (OT PL M7 G.T.b_len Boot.b_len<|NU (Pw 2) N0)<|NU (OT PL M7 G.T.b_len Boot.b_len<|NU (Pw 3) N0) N0))) (λvs H Q E h=>?_)
 let(z,q,A,rfl,hz,hm,lm,u3,k):=h;let(lz,za,zb,zc,C,ha,hb,X):=hz;have n:z.cps.toList=(za++46::zb)++46::zc:=by rw[C];simp
 have rz:=oY C ha;have mz:=oZ n X;refine#[_,Y,q,Y,#[_,u3],λD hD=>?_];refine VJ (ZQ u3) (by rw[Ac,Bb];omega) hD (λv=>match v with|.str o=>decide (Qz o=Qz z)|_=>An) id ?_ ?_
 ·intro i x H1 R R' g j0 m a;let(o,I,rfl):=Zi g;let(O,oa,W,S,y,e,L,j):=hm o<|AH I;refine#[Wk.set Y,_,Y,o,_,_,Y,O,y,e,λy1 H2 w f=>?_];refine#[_,Y,z,_,_,Y,lz,C,ha,λy2 H3 t u=>?_];refine#[Y,_,Y,?_];dsimp only at m a;rw[oY y e,rz]at m a;refine AjO (λh=>#[_,Y,m _ (Ap ?_)<|f.trans u]) (λh=>a _ (Ar λq=>h ?_)<|f.trans u)
  ·rw[<-w,<-t,h]
  ·exact lB (by rw[w,t,q])
 intro H1 b j0;rw[Fl]at b;have eF:(A.map V.str).filter (λv=>match v with|.str o=>decide (Qz o=Qz z)|_=>An)=(A.filter λo=>decide<|Qz o=Qz z).map V.str:=by rw[Gv];rfl
 rw[eF]at b;generalize AjF:A.filter (λo=>decide<|Qz o=Qz z)=c at *;have B:∀o∈c,Good o:=λo h=>by rw[<-AjF]at h;exact hm o (Bl.mp h).1
 have aa:c.length<=100:=by rw[<-AjF];exact AS (BB _ _) lm
 refine#[_,Y,D,Y,#[_,Pb.of b],λD2 F=>?_];refine VJ (ZQ<|Pb.of b) (by rw[Ac,Bb];omega) F (λv=>match v with|.str o=>decide (RM o=RM z)|_=>An) id ?_ ?_
 ·intro i x H2 R R' g f m a;let(o,I,rfl):=Zi g;let(O,oa,W,S,y,e,L,j):=B o<|AH I;have s:o.cps.toList=(oa++46::W)++46::S:=by rw[y];simp
  refine#[Wk.set Y,_,Y,o,_,_,Y,O,s,j,λy1 H3 w u=>?_];refine#[_,Y,z,_,_,Y,lz,n,X,λy2 H4 t P=>?_];refine#[Y,_,Y,?_];dsimp only at m a;rw[oZ s j,mz]at m a;refine AjO (λh=>#[_,Y,m _ (Ap ?_)<|u.trans P]) (λh=>a _ (Ar λq=>h ?_)<|u.trans P)
  ·rw[<-w,<-t,h]
  ·exact lB (by rw[w,t,q])
 intro H2 l f;rw[Fl]at l;have eG:(c.map V.str).filter (λv=>match v with|.str o=>decide (RM o=RM z)|_=>An)=(c.filter λo=>decide<|RM o=RM z).map V.str:=by rw[Gv];rfl
 rw[eG]at l;refine#[_,Y,D,_,Y,.inl<|Pb.of<|f _ _ b,_,Y,D2,_,Y,.inl<|Pb.of l,(by show 2<=sizeLine;decide),λp y0=>?_];refine k p _ ((j0.trans f).free y0) ?_<|(j0.trans f).upd y0;rw[NQ,Ac,Ac,<-AjF];unfold AgC Ajb;have eC:(λo=>decide (RM o=RM z)&&decide (Qz o=Qz z))=λo=>decide (Qz o=Qz z)&&decide (RM o=RM z):=by
  funext o
  rw[Bool.and_comm]
 rw[Gw,Gw,IP,eC]
def xE(G:Gd 48 M Z):Hf M Z.K 5 "dealt" (pN Z):=by
 let(c,a,hc):=G.T.a_dealt;let(X,hX,hG):=G.T.d;have hC:=Fc G.T.hK hc;have hB:=G.T.hB Z.d M8;refine Anr (N:=["houses","drawer","many","waiting","taken","house"]) 6 (eL.mk (ps:=["houses","drawer","many"]) hX hG a<|by walk_at"b") (λf A o s H vs Q E r h=>?_);let(p,ao,Hs,d,m,rfl,hp,hk,S,d0,d1,tb,td,k):=h;refine #[_,OA (Qs r.2 3<|Qf (G.lH Y) r.1<|NU (Pw 0)<|NU (Pw 1) N0)
   (OA (Qs r.2 4<|rX<|N0)
   (OA (Qw (PW.pt<|Afg (WB (o0 AbT) (OT PL M7 G.T.b_len Boot.b_len<|NU (Pw 4) N0) (Pw 2)<|XC _)<|vF<|WB (o0 Agl) (OT PL M7 G.T.b_len Boot.b_len<|NU (Pw 3) N0) (Pn)<|XC _) (OA (Qs r.2 5<|AeT (par:="one") (Nc:=["taken"]) (src:=[U 4]) Y hC hB Y (λu fd h1 h2 h3=>by cases fd;cases h1;cases h2;cases h3;rfl) Y Y Y M4 Y (PD (sc0:=NM kO) Y M4) (OQ Y (BK Y) Y<|OE) (AkH r.1) (Ak2 r.1) M7 G.T.b_min Y (Pw 3) (λq c' s H=>have ak:=r.1.AmF _;Qf (G.pV Y) ak (NU (Pw 0)<|NU (Pw 1) N0)))
   (OA (Zf<|X5 F.plainAttrs_list F.slot_list_remove F.type_list_remove rS (Pw 3)<|NU (Pw 5) N0)
   (OV<|Zf<|X5 F.plainAttrs_list F.slot_list_append F.type_list_append UI (Pw 4)<|NU (Pw 5) N0))))
   (OV<|PV<|Pw 4))),?_]
 have T:=G.T;refine#[_,Y,_,Y,p,ao,Hs,d,Y,hp,hk,S,d0,d1,tb,λW u3 ae s1 ac W0 hW=>?_];have ad:Sj Z.d u3:=by let(ps,h1,h2):=td;exact#[ps,ac _ _ (Ax T.ne_t) h1,h2.n s1]
 refine#[M5,λA L=>?_];have ab:A≠W:=λz=>by rw[z,hW]at L;cases L
 have A0:=s1.free L;have s2:=s1.upd (o:=.lst []) L;have u2:=(NV.refl u3).upd (o:=.lst []) L;have W2:(upd u3 A<|.lst []) W=U (.lst<|(RE Hs d).map V.str):=u2 _ _ hW;have A2:(upd u3 A<|.lst []) A=U (.lst<|([]:Lw).map V.str):=NQ;have ah:=Tab.same u2 ae;have af:=Tab.same u2 ad;generalize upd u3 A (.lst [])=H2 at *;clear u2 L ac hW ae ad s1;refine#[λq J v=>∃(w e:Lw)(u:L9),J=[U<|.ref p,U<|.int d,U<|.int m,U<|.ref W,U<|.ref A,u]/\v W=U (.lst<|w.map V.str)/\v A=U (.lst<|e.map V.str)/\e.length<=m/\Tr (m-e.length) w e=Qa Hs d m/\w.Nodup/\w.length<=30/\e.length+w.length<=30/\(∀z∈w,Good z)/\(∀z∈e,Good z)/\Ri Z.o v/\Sj Z.d v/\OH H v/\q=w.length,
  #[_,RE Hs d,[],Ah,Y,W2,A2,Bv _,Y,AeJ S d,by rw[Wv];exact S.bS,by rw[Wv];have:=S.bS;simpa using this,λz t=>yM S t,M8,ah,af,s2,Y],?_]
 rintro q J v⟨w,e,u,rfl,W3,y0,lt,P,nd,lw,ar,gw,gt,D,j0,s3,rfl⟩;refine#[_,Y,A,_,Y,.inl<|Pb.of y0,_,Y,_,_,Y,Y,?_];rw[Ac];refine#[_,Y,rE (λh1=>?_) λh1=>?_]
 rotate_left
 ·have e0:m-e.length=0:=M6;rw[e0,Tr]at P;exact#[_,Y,k A v D j0 s3 A0 (by rw[<-P];exact y0)]
 refine#[_,Y,W,_,Y,.inl<|Pb.of W3,_,_,Y,Y,?_];rw[Ac];refine#[_,Y,rE (λh2=>?_) λh2=>?_]
 rotate_left
 ·have e0:w=[]:=DF.mp M6;rw[e0,Sn]at P;exact#[_,Y,k A v D j0 s3 A0 (by rw[<-P];exact y0)]
 refine#[_,λau H' h=>h,?_];let(ag,I,ai):=j0;refine#[_,Y,W,w.map V.str,Y,Pb.of W3,by rw[Ac];omega,ag,I,ai,λH4 C sb=>#[λi=>((AgC (w.getD i "") e:Nat):Int),λi=>((Ajb (w.getD i "") e:Nat):Int),?_,?_]]
 ·intro i x hi l R s5 hR;let(z,t,rfl):=Zi hi;have g:OH v l:=(sb.n I (by let(q,hq,_):=C;exact#[q,hq])).trans s5.n;have ez:w.getD i ""=z:=by rw[Bs,t];rfl
  dsimp only at hR;rw[ez]at hR;exact#[_,Y,_,Y,z,A,e,Y,gw z<|AH t,gt,M6,Pb.of<|g.lst y0,λp5 H6 _ e6 s6=>hR H6 p5 s6 e6]
 intro i x l hi aa s5;let(z,t,rfl):=Zi hi;have g:OH v l:=(sb.n I (by let(q,hq,_):=C;exact#[q,hq])).trans s5.n;have aq:Ww e w=z:=AhL t λj y O=>by
  have hj:=(Av.mp O).1;have ey:w.getD j ""=y:=by rw[Bs,O];rfl
  have ez:w.getD i ""=z:=by rw[Bs,t];rfl
  have b:=aa j (by rw[Ac];exact hj);dsimp only at b;rw[ey,ez]at b;unfold SQ;refine#[λq=>b.1 M6,λam=>?_];have:=b.2 am;omega
 have W5:=g.lst W3;have A5:=g.lst y0;have aj:Ri Z.o l:=by let(ps,g1,g2):=D;exact#[ps,s5 _ _<|sb _ _ T.ne_t g1,g2.n g]
 have an:Sj Z.d l:=Tab.same s5 C;refine#[_,Y,Aix<|Pb.of W5,_,Y,W,w,z,i,Y,Y,W5,t,λj hj q=>absurd (Akb nd q t) M6,?_];rw[mQ nd t];have A6:(upd l W<|.lst<|(w.erase z).map V.str) A=U (.lst<|e.map V.str):=by rw[NN ab];exact A5
 have W6:(upd l W<|.lst<|(w.erase z).map V.str) W=U (.lst<|(w.erase z).map V.str):=NQ;have al:Ri Z.o (upd l W<|.lst<|(w.erase z).map V.str):=aj.AfA W5;have ap:Sj Z.d (upd l W<|.lst<|(w.erase z).map V.str):=an.AfA W5;have s6:OH H (upd l W<|.lst<|(w.erase z).map V.str):=(s3.trans g).Ak3 W0;generalize upd l W (.lst<|(w.erase z).map V.str)=H6 at *;have B:z∈w:=AH t;have le:=Cm B;refine#[_,Y,Aix<|Pb.of A6,_,Y,A,_,_,Y,Y,A6,by rw[Ac,Bb];omega,(w.erase z).length,by rw[le];omega,w.erase z,e++[z],U<|.str z,Y,?_,?_,?_,?_,nd.erase _,M6,?_,λy O=>gw y<|List.mem_of_mem_erase O,?_,al.AfA A6,ap.AfA A6,s6.Ak3 A0,Y]
 ·rw[NN<|Ax ab];exact W6
 ·rw[NQ,Bi];rfl
 ·rw[AM,Bh];omega
 ·rw[<-P,AM,Bh];have hw:w≠[]:=λq=>by rw[q]at B;cases B
  rw[show m-e.length=(m-(e.length+1))+1 by omega,Rh hw,aq]
 ·rw[AM,Bh];omega
 ·intro y O;rcases Bd.mp O with h|h
  ·exact gt y h
  ·rw[As.mp h];exact gw z B
def mZ(G:Gd 49 M Z):hF M Z 4 "order" aU:=by
 refine(G.lH Y).imp λj0 H Q E⟨F,S,L,O,R,t,h,k⟩=>?_
 let(j,d,rfl,rfl,A,w,q,D):=h;let(K,N,rfl,c,I):=Adf t;cases N1.mp I;let(p,e,rfl,v,f):=AaW c;have y:=R.tb _<|.tail _<|.head _;refine .mk p e j d Y v f A w q (R.tb _<|.head _) λl z u s a i B=>?_
 have b:Tab Z.d ZW ZX z:=by let(o,r,g):=y;exact#[o,a _ _ (Ax G.T.ne_t) r,g.n s]
 have C:=R.Py s λx m=>by
  rcases AB.mp m with rfl|m
  ·exact u
  ·cases As.mp m;exact b
 exact k _ _ _ _ (Px.Py s) C (lO (R.free i) B) D
def mX(G:Gd 50 M Z):hF M Z 5 "dealt" aS:=by
 refine(G.wB Y).imp λA H Q E⟨F,S,C,j0,R,j,h,k⟩=>?_
 let(g,d,m,rfl,rfl,t,q,i,w):=h;let(B,I,z,rfl,a,y,e):=Ana j;cases N1.mp y;cases N1.mp e;let(p,b,rfl,o,c):=AaW a;refine .mk p b g d m Y o c t q i (R.tb _<|.head _) (R.tb _<|.tail _<|.head _) λl D n r s f u=>?_
 have v:=R.Py s λx m=>by
  rcases AB.mp m with rfl|m
  ·exact n
  ·cases As.mp m;exact r
 exact k _ _ _ _ (Px.Py s) v (lO (R.free f) u) w
def UU(G:Gd 51 M Z):hM M Z 5 Z.w.T "neighbour" Rv:=by
 refine Sg (N:=["self","houses","away","house"]) 3 4 G.T.a_Thing_neighbour G.T.cl_Thing (λφ H r=>NI (SU (N7 (G.XS Y) r.1<|NH (ev 1)<|NH (N7 (G.Uv Y) r.1<|NH (NS<|ev 0) NL) NL) (OC r.2 3)<|NK<|O5 (PW.lV<|w_and (RP<|Qq<|N2 (G.PZ Y) r.1 (ev 0)<|NH (ev 3) NL)<|RB<|Rw r.1 (ev 3)<|ev 2) (NK<|N4<|ev 3)<|N9) (NK<|N4<|U3)) ?_
 rintro F v S Q⟨i,A,w,T,rfl,rfl,k,b,n,t,g⟩;symm;refine zF (k.qG b n) Y<|.mk T.key Y ?_;refine .mk w.Hs _ Y Y t (BN _ M5) (BJ _ M5) ?_;refine#[_,.inl Y,.inl Y,Lp.mk (λj a m=>∃u,a=[U<|.f<|.ref<|A<|.OX T.key,U<|YN w.Hs,U<|.f<|.ref<|A .RC,u]/\m=S/\∀z∈(RE w.Hs<|T.key%110).take j,jV w T z=An) #[Ah,Y,Y,nofun] (λ_ _ _ _=>.inl Y) ?_ ?_]
 ·rintro j x a m s ⟨u,rfl,rfl,d⟩;rw[Aj]at s;let(z,l,rfl):=AF.mp s;have q:jV w T z=An->∀y∈(RE w.Hs<|T.key%110).take (j+1),jV w T y=An:=λh y c=>by
   rw[BP,l]at c;rcases Bd.mp c with c|c
   ·exact d y c
   ·cases As.mp c;exact h
  symm;refine#[zC (k.qG b n) Y,.mk i A w T z Y k b n ?_];cases o:decide (z∈T.sh.map (·.1))with
  |true=>exact#[_,Y,Y,q (by unfold jV;rw[o];rfl)]
  |false=>
    refine Aac (V2 k .RC)<|Se ?_;rw[AG Y,UR];cases p:decide (z∈w.away)with
    |true=>exact#[_,Y,Y,q (by unfold jV;rw[o,p];rfl)]
    |false=>refine Oi ?_;have e:yC w T=U z:=findAt d l (by unfold jV;rw[o,p];rfl);rw[e]at g;exact g
 ·rintro a m⟨u,rfl,rfl,d⟩;rw[Ac,BA]at d;have e:yC w T=Ah:=Ck.mpr λz l=>by rw[d z l];exact AQ
  rw[e]at g;exact Oi g
def QC(G:Gd 52 M Z):hM M Z 6 Z.w.W "leave_with_neighbour" Pf:=by
 refine Sg (N:=["self","letter","thing","keeper"]) 3 4 G.T.a_World_leave_with_neighbour G.T.cl_World (λφ H r=>NI (Oh r.2 3<|N2 (G.RS Y) r.1 (ev 2)<|NH (NS<|ev 0)<|NH (NS<|ev 0) NL) (NK<|O5 (Ot AhB (ev 3)<|U3) (NK<|N6<|N2 (G.Vp Y) r.1 (NS<|ev 0)<|NH (ev 3)<|NH (NS<|ev 1)<|NH (NS<|ev 1)<|NH (NS<|ev 1) NL)<|N9)) ?_
 rintro F j S Q⟨i,A,w,T,L,h,rfl,rfl,a,c,d,g,f,b⟩;symm;refine#[zC (a.qG c.tok d) Y,?_];refine QZ a .top ?_;refine QZ a .top ?_;refine .mk i A w T Y Y a c.tok d c.N5 ?_;symm;refine#[Y,?_];rw[XD];unfold cX at b;cases e:yC w T with
 |none=>rw[e]at b;exact b S a Fr.refl
 |some kp=>rw[e]at b;refine QZ a .top ?_;refine#[Sd a .left,?_];refine bU Y<|bU Y<|bU Y ?_;exact .mk i A w kp L.PJ L.key L.Ym Y Y a f (c.hlen _) (c.jW g) b
def Tu(G:Gd 53 M Z):hM M Z 7 Z.w.W "bring_state" QP:=by
 refine Sg (N:=["self","letter","thing"]) 2 3 G.T.a_World_bring_state G.T.cl_World (λφ H r=>NI (Oh r.2 2<|Oc r.1 (NS<|ev 0)<|NS<|ev 1) (NI (O5 (RP<|Qq<|N2 (G.PZ Y) r.1 (ev 2)<|NH (NS<|ev 1) NL) (NK<|aJ)<|N9) (NI (O5 (pU r.1 (NS<|ev 1)<|NS<|ev 0) (NI (N6<|N2 (G.Pq Y) r.1 (ev 0)<|NH (ev 1)<|NH (ev 2) NL) (NK<|aJ))<|N9) (NI (N6<|N2 (G.Yo Y) r.1 (ev 2)<|NH (NS<|ev 1)<|NH (NS<|ev 1) NL) (NK<|O5 (Ot oK (NS<|ev 1)<|RK M7 G.T.c_PUT) (NK<|N6<|N2 (G.RR Y) r.1 (NS<|ev 0)<|NH (RK M7 G.T.c_ACK)<|NH (NS<|ev 1)<|NH (NS<|ev 1)<|NH (NS<|ev 1)<|NH (OO) NL)<|N9))))) ?_
 rintro F v S Q⟨i,A,w,T,L,p,rfl,rfl,b,c,e,n,m,s,j,a⟩;symm;refine QZ b .top ?_;refine bU Y ?_;refine zG (V2 b .decl) #[_,by rw[n];exact bQ c.tok e,?_];symm;refine#[zC (b.qG c.tok e) Y,?_];refine bU Y<|.mk i A w T L.PJ Y b c.tok e ?_;unfold mE at a;by_cases g:L.PJ∈T.sh.map (·.1)
 ·rw[AG g]at a;refine Oa (by rw[Ap g];rfl) ?_;refine bU Y ?_;refine QZ b .top ?_;refine Aac (V2 b .RC)<|Se ?_;rw[Ay AQ,UR];by_cases f:L.PJ∈w.away
  ·rw[AG f]at a;refine Ol (Ap f) ?_;exact#[Sd b .top,.mk i A w T L p Y Y b c e m s a]
  ·rw[Ay f]at a;refine Oa (Ar f) ?_;refine#[zC (b.qG c.tok e) Y,?_];refine bU Y<|bU Y ?_;refine .mk i A w T L.PJ L.Ym Y Y b c.tok e (c.Am8 e _) (c.jW m) λu d l=>?_
   symm;refine bU Y ?_;refine#[Y,?_];by_cases h:L.Pd="put"
   ·rw[AG h]at a;refine Ol (by rw[Ap<|congrArg V.str h]) ?_;refine QZ d .top ?_;refine#[Sd d .post,?_];refine bU Y<|bU Y<|bU Y<|O3 ?_;exact .mk i A _ "ack" L.ask L.PJ L.key [] Y d c.Sr.le j nofun λo k t=>a o k<|l.trans t
   ·rw[Ay h]at a;exact Oa (by rw[Ar λq=>h (by injection q)])<|a u d l
 ·rw[Ay g]at a;exact Ol (by rw[Ar g];rfl) (a S b Fr.refl)
def YG(G:Gd 54 M Z):hM M Z 4 Z.w.W "known" Ub:=by
 refine Sg (N:=["self","asker","key"]) 3 3 G.T.a_World_known G.T.cl_World (λφ H r=>NI (N6<|N7 (G.S7 Y) r.1<|NH (ev 1) NL) (NI (N6<|N2 (G.Pa Y) r.1 (ev 0)<|NH (ev 2) NL) (NK<|N4<|O1 P9 M7 G.T.b_dict Boot.b_dict<|NH (QJ r.1 (NS<|ev 0) (O7<|NH (ev 1)<|NH (ev 2) NL)<|OO) NL))) ?_
 rintro F h S Q⟨i,A,w,T,z,rfl,a,b,f,c,g,e⟩;symm;refine .mk z Y c g ?_;refine#[Sd a .top,.mk i A w T Y a b f ?_];symm;refine QZ a .top ?_;refine#[.inr #[_,V2 a .Abt],?_];refine#[Y,O3 ?_];refine Adj (kk:=V1 (z,T.key)) (V2 a .Abt) ?_;rw[show Yv (.d [])=OK []from Y,lK];exact#[_,.inl Y,O3<|Oi e]
def So(G:Gd 55 M Z):hM M Z 4 Z.w.W "send_to_homes" Ql:=by
 refine Sg (N:=["self","label","number","thing","state","house"]) 5 6 G.T.a_World_send_to_homes G.T.cl_World (λφ H r=>NK<|SU (Pl (G.R9 Y) r.1<|ev 3) (OC r.2 5)<|NK<|N6<|N2 (G.RR Y) r.1 (NS<|ev 0)<|NH (ev 1)<|NH (ev 2)<|NH (ev 5)<|NH (NS<|ev 3)<|NH (ev 4) NL) ?_;rintro F z S Q⟨i,A,w,T,g,n,E,rfl,rfl,m,b,h,s,y,t⟩;symm;refine#[zC (m.qG b h) Y,.mk i A w T Y m b h ?_];refine#[_,.inl Y,.inl Y,Lp.mk (λj c d=>∃u,c=[U<|.f<|.ref<|A .top,U<|.f<|.str g,U<|.f<|.int n,U<|.f<|.ref<|A<|.OX T.key,U<|OK E,u]/\Ob Z.w i A (PU w g n T.key E ((T.sh.map (·.1)).take j)) d/\Fr i S d) #[Ah,Y,by rw[JB,VN];exact m,Fr.refl] (λ_ _ _ _=>.inl Y) ?_ ?_]
 ·rintro j x c d o⟨u,rfl,a,l⟩;rw[Aj]at o;let(e,v,rfl):=AF.mp o;symm;refine QZ a .top ?_;refine#[Sd a .post,?_];refine zF (a.qG (w:=PU w g n T.key E ((T.sh.map (·.1)).take j)) b h) Y ?_;have B:=b.bS T h;refine .mk i A _ g (U n) e.1 T.key E Y a (fX s _ _ _ _ _).le (by rw[ZZ,Bt,Ac];omega) nofun λp k q=>#[_,Y,?_,l.trans q]
  rw[BP,Aj,v,IX];show Ob _ i A (PU w g n T.key E<|_++[e.1]) p;rw[TN];exact k
 ·rintro c d⟨u,rfl,a,l⟩;rw[Ac,<-Ac (f:=λe:AA×OU=>e.1),BA]at a;exact t d a l
def YI(G:Gd 56 M Z):hM M Z 5 Z.w.W "write" Ud:=by
 refine Sg (N:=["self","asker","key","value","thing","state","number"]) 4 7 G.T.a_World_write G.T.cl_World (λφ H r=>NI (N6<|N7 (G.S7 Y) r.1<|NH (ev 1) NL) (NI (Oh r.2 4<|N2 (G.Pa Y) r.1 (ev 0)<|NH (ev 2) NL) (NI (O5 (RP<|Qq<|N7 (G.W9 Y) r.1<|NH (ev 3) NL) (NK<|Ra)<|N9) (NI (Oh r.2 5<|N7 (G.gW Y) r.1<|NH (N2 (G.Sb Y) r.1 (ev 0)<|NH (ev 1)<|NH (ev 2) NL)<|NH (ev 1)<|NH (ev 3) NL) (NI (OY r.1 (NS<|ev 0) (O7<|NH (ev 1)<|NH (ev 2) NL)<|ev 5) (NI (Oh r.2 6<|N2 (G.Rx Y) r.1 (NS<|ev 0)<|NH (ev 1)<|NH (ev 2)<|NH (NS<|ev 4)<|NH (ev 5) NL) (NI (N6<|N2 (G.QB Y) r.1 (ev 0)<|NH (RK M7 G.T.c_PUT)<|NH (ev 6)<|NH (ev 4)<|NH (ev 5) NL) (NK<|N4<|ev 6)))))))) ?_
 rintro F x S Q⟨i,A,w,T,z,v,B,rfl,rfl,c,d,g,m,l,s,j,n,hM,u,p⟩;symm;refine .mk z Y m l ?_;refine#[Sd c .top,.mk i A w T Y c d.tok g ?_];symm;refine .mk v Y j ?_;refine Oa (by rw[s];rfl) ?_;refine#[Sd c .top,.mk i A w T z Y c d.tok g m l ?_];refine .mk _ z v Y Y (d.Aj5 z T.key) ?_;symm;refine QZ c .top ?_;refine#[Y,?_];refine Ak8 (kk:=V1 (z,T.key)) (c .Abt _ Y) (by rw[Ac];omega) ?_;rw[kB];have b:=c.AmJ<|P2 (λe=>V1 e.1) w.VL ((z,T.key),eJ (PY w.VL z T.key) z v);dsimp only[Adq,AaB,X1,Aaw,V9,oQ,AeA];refine QZ b .top ?_;refine#[Sd b .asks,?_];refine zF (b.qG d.tok g) Y ?_;refine .mk i A _ z T.key T.w _ Y b (E4 hM M5) λa h y f o=>?_
 symm;refine#[Sd f .top,?_];refine .mk i (sV A w.Ms.length a h) _ T "put" _ _ Y Y f d.tok g d.Sr n λq k t=>?_
 exact Oi (p (sV A w.Ms.length a h) q Y k<|((Fr.set<|c .Abt _ Y).trans o).trans t)
def cE(G:Gd 57 M Z):hM M Z 1 Z.w.A "found" WI:=by refine Sg (N:=["self"]) 1 1 G.T.a_Ask_found G.T.cl_Ask (λφ H r=>NK<|N4<|O1 P9 M7 G.T.b_dict Boot.b_dict<|NH (NS<|ev 0) NL) ?_;rintro F d S Q⟨i,A,w,n,B,rfl,c,b,a⟩;symm;exact zF (c.Aaq b) Y #[_,.inl Y,O3<|Oi a]
def SN(G:Gd 58 M Z):hM M Z 5 Z.w.W "bring_answer" QA:=by
 refine Sg (N:=["self","letter","ask"]) 2 3 G.T.a_World_bring_answer G.T.cl_World (λφ H r=>NI (Oh r.2 2<|N2 (G.Vo Y) r.1 (NS<|ev 0)<|NH (NS<|ev 1) NL) (NK<|O5 (PW.lV<|w_and (Qq<|N2 (G.bJ Y) r.1 (ev 2)<|NH (NS<|ev 1)<|NH (NS<|ev 1) NL)<|RB<|Ot oK (NS<|ev 2)<|RK M7 G.T.c_READ) (NK<|AcP (NS<|ev 0) (O7<|NH (NS<|ev 2)<|NH (NS<|ev 2) NL)<|N7 (G.Uw Y) r.1<|NH (N2 (G.Sb Y) r.1 (ev 0)<|NH (NS<|ev 2)<|NH (NS<|ev 2) NL)<|NH (Pl (G.Yn Y) r.1<|ev 2) NL)<|N9)) ?_
 rintro F s S Q⟨i,A,w,L,n,B,m,rfl,rfl,b,d,k,c,j,l,o,e⟩;symm;have h:=(Av.mp c).1;refine QZ b .top ?_;refine#[Sd b .asks,?_];refine bU Y ?_;rw[k];refine .mk i A w n Y b h ?_;symm;refine#[zC (b.Aaq c) Y,?_];refine bU Y<|bU Y ?_;refine .mk i A w n B L.PJ L.Ym Y Y b c M6 (d.jW<|d.sm B<|AH c) (d.jW l) λg a f=>?_
 cases p:(Rq B L.PJ L.Ym).2 with
 |false=>exact e g a f
 |true=>refine zF (a.Aaq (B:=(Rq B L.PJ L.Ym).1)<|BU h) Y ?_;refine#[Y,?_];refine Oa (Ar λq=>?_)<|e g a f;injection q with q;rw[fF,j]at q;exact absurd q M4
def Tt(G:Gd 59 M Z):hM M Z 1 Z.w.W "bring_query" QO:=by
 refine Sg (N:=["self","letter","thing"]) 2 3 G.T.a_World_bring_query G.T.cl_World (λφ H r=>AcX) ?_;rintro F a S Q h
 skip
 symm;let(h,_):=h;exact h.elim
def YD(G:Gd 60 M Z):hM M Z 8 Z.w.W "bring" T8:=by
 refine Sg (N:=["self","number","letter"]) 2 3 G.T.a_World_bring G.T.cl_World (λφ H r=>NI (Oh r.2 2<|N2 (G.Ur Y) r.1 (NS<|ev 0)<|NH (ev 1) NL) (NK<|O5 (Ot oM (NS<|ev 2)<|O7<|NH (RK M7 G.T.c_PUT)<|NH (RK M7 G.T.c_HINT) NL) (NK<|N6<|N2 (G.Q4 Y) r.1 (ev 0)<|NH (ev 2) NL)<|NK<|O5 (Ot oK (NS<|ev 2)<|RK M7 G.T.c_QUERY) (NK<|N6<|N2 (G.Q3 Y) r.1 (ev 0)<|NH (ev 2) NL)<|NK<|N6<|N2 (G.QR Y) r.1 (ev 0)<|NH (ev 2) NL)) ?_
 rintro F D S Q⟨i,A,w,L,p,rfl,rfl,l,h,o,x,f,t⟩;symm;refine QZ l .top ?_;refine#[Sd l .post,.mk i A w L Y l h.Sr o nofun λE a m=>?_];symm;have e:=h.Ak0 L.num;have d:=h.sl L o;have z:(Pg w L.num).Ls.length<90000:=BI (BB ..) f;refine bU Y ?_;refine#[Y,?_];rcases t with⟨c,T,u,v,k⟩|⟨c,n,B,q,C,s,y,k⟩
 ·refine#[_,_,Y,.inr Y,Y,Y,?_];refine Ol ?_ ?_
  ·rcases c with c|c<;>rw[c]<;>decide +kernel
  ·exact#[Sd a .top,.mk i A _ T L p Y Y a e u v d x z λg b j=>k g b<|m.trans j]
 ·refine#[_,_,Y,.inr Y,Y,Y,?_];refine Oa (by rw[c];decide +kernel) ?_;refine bU Y ?_;refine#[Y,?_];refine Oa (by rw[c];decide +kernel) ?_;exact#[Sd a .top,.mk i A _ L n B p Y Y a e q C s d y λg b j=>k g b<|m.trans j]
def ZD(G:Gd 61 M Z):hM M Z 5 Z.w.W "fall" Vd:=by
 refine Sg (N:=["self","house"]) 2 2 G.T.a_World_fall G.T.cl_World (λφ H r=>NI (N6<|N2 (G.Po Y) r.1 (ev 0)<|NH (ev 1) NL) (NK<|OY r.1 (NS<|ev 0) (ev 1)<|Yu)) ?_
 rintro F h S Q⟨i,A,w,z,rfl,rfl,a,e,b,f,c,g,d⟩;symm;refine#[Sd a .top,.mk i A w z Y a e b f c ?_];symm;refine QZ a .top ?_;refine wG (a .RC _ Y) nofun (by rw[kW];omega)<|Se ?_;rw[Acz];exact d _ (a.Ai9 _) (Fr.set<|a .RC _ Y)
def ZF(G:Gd 62 M Z):hM M Z 5 Z.w.W "rise" Vf:=by
 refine Sg (N:=["self","house","keeper","home","key","state"]) 2 6 G.T.a_World_rise G.T.cl_World (λφ H r=>NI (N6<|N2 (G.Po Y) r.1 (ev 0)<|NH (ev 1) NL) (NI (N6<|AdS (NS<|ev 0) (ev 1)<|U3) (NK<|SU (N2 (G.SG Y) r.1 (NS<|ev 0)<|NH (NS<|ev 0) NL) (eZ (n:=4) Y<|Pm (OC r.2 2)<|Pm (OC r.2 3)<|Pm (OC r.2 4)<|Pm (OC r.2 5)<|Xm)<|NK<|N6<|N2 (G.RR Y) r.1 (NS<|ev 0)<|NH (RK M7 G.T.c_HINT)<|NH (U3)<|NH (ev 3)<|NH (ev 4)<|NH (ev 5) NL))) ?_
 rintro F E S Q⟨i,A,w,z,qs,rfl,rfl,k,v,t,R,V,I,L,X⟩;symm;refine#[Sd k .top,.mk i A w z Y k v.N5 t R V ?_];symm;refine QZ k .top ?_;refine#[.inl #[_,V2 k .RC],?_];have K:∀q,Ob Z.w i A {w with away:=w.away.filter λy=>decide (y≠z)} q->Fr i S q->kF "left" (λd u=>kC (AiZ u d Z.w.H "take_due") (V8 (Aaw (V9 0) "absent") iK [] [U<|.f<|.ref<|A .top,U<|.f<|.str z,Ah,Ah,Ah,Ah] u λE C=>Qj Z [] (d::E) C λd j0=>∃xs,QH j0 d (.l xs)/\(d=.l xs\/xs.all AjL=Af)/\Lp [] xs (Anp 4<|Ajo (dN 2)<|Ajo (dN 3)<|Ajo (dN 4)<|Ajo (dN 5) Ano) (mJ<|X1 Z.w.P "send" (SV Z) (Aaw (V9 0) "post") (V8 (dC<|.str "hint")<|V8 (dC .Of)<|V8 (V9 3)<|V8 (V9 4)<|V8 (V9 5) iK)) (qT Q) [U<|.f<|.ref<|A .top,U<|.f<|.str z,Ah,Ah,Ah,Ah] j0 λS=>QH S d<|.l xs)) (.f<|.ref<|A .top) q:=λq h O=>by
  refine QZ h .top ?_;refine#[Sd h .left,?_];refine QZ h .top ?_;refine .mk i A _ Y h v.nh I λu s u3=>?_
  refine#[_,.inl Y,.inl Y,Lp.mk (λj m p=>∃a b c d,m=[U<|.f<|.ref<|A .top,U<|.f<|.str z,a,b,c,d]/\Ob Z.w i A (Tv (iO {w with away:=w.away.filter λy=>decide (y≠z)})<|(Q8 {w with away:=w.away.filter λy=>decide (y≠z)}).take j) p/\Fr i S p) #[Ah,Ah,Ah,Ah,Y,s,O.trans u3] (λ_ _ _ _=>.inl Y) ?_ ?_]
  ·rintro j x m p o⟨a,b,c,d,rfl,g,B⟩;rw[Aj]at o;let(e,y0,rfl):=AF.mp o;refine#[_,Y,Y,?_];symm;refine QZ g .top ?_;refine#[Sd g .post,?_];refine .mk i A _ "hint" Ah e.1.2.1 e.1.2.2 e.2 Y g (Ad2 (w:=iO {w with away:=w.away.filter λy=>decide (y≠z)}) v.Sr _).le (by rw[nG];show w.Ls.length+_<_;have:=uE {w with away:=w.away.filter λy=>decide (y≠z)};rw[Bt];have h3:({w with away:=w.away.filter λy=>decide (y≠z)}:PR).hints.length<64:=I;omega) nofun λC D f3=>#[_,_,_,_,Y,?_,B.trans f3]
   rw[BP,y0];show Ob _ i A (Tv _<|_++[e]) C;rw[fJ];exact D
  ·rintro m p⟨a,b,c,d,rfl,g,B⟩;rw[Ac,BA]at g;exact X p g B
 refine#[_,_,_,Y,k .RC _ Y,nofun,?_];refine#[λx o=>?_,λo=>?_]
 ·refine K _ ?_ (Fr.set<|k .RC _ Y);rw[AdQ];exact k.Ai9 _
 ·refine K S ?_ Fr.refl;rw[AdF o];exact k
def ZC(G:Gd 63 M Z):hM M Z 1 Z.w.W "away" Vc:=by refine Sg (N:=["self"]) 1 1 G.T.a_World_away G.T.cl_World (λφ H r=>NK<|N4<|Ox (Xh Y) M7 G.T.b_sorted Boot.b_sorted<|NH (NS<|ev 0) NL) ?_;rintro F g S Q⟨i,A,w,rfl,a,e,d⟩;symm;refine QZ a .top ?_;exact#[_,w.away,V2 a .RC,by unfold PM;rw[AO];rfl,e,λb c f=>O3<|Oi (d b c f).1]
def YE(G:Gd 64 M Z):hM M Z 2 Z.w.W "hints" T9:=by refine Sg (N:=["self"]) 1 1 G.T.a_World_hints G.T.cl_World (λφ H r=>NK<|N4<|Pl (G.R8 Y) r.1<|NS<|ev 0) ?_;rintro F e S Q⟨i,A,w,rfl,a,b,d,c⟩;symm;refine QZ a .top ?_;exact#[Sd a .left,.mk i A w Y a b d<|Oi c]
def ZG(G:Gd 65 M Z):hF M Z 2 "are_counts" Vg:=by
 refine fG (N:=["copies","reads","writes"]) 3 3 G.T.d G.T.a_are_counts (λφ H r=>NI (O5 (RP<|PW.lV<|w_and (Qq<|N7 (G.PQ Y) r.1<|NH (ev 0) NL)<|w_and (Qq<|N7 (G.PQ Y) r.1<|NH (ev 1) NL)<|RB<|Qq<|N7 (G.PQ Y) r.1<|NH (ev 2) NL) (NK<|N4<|Yu)<|N9) (NK<|N4<|AfT (iP yH yH (NT) (ev 0)<|RK M7 G.T.c_MOST_COPIES)<|AfT (iP yH yH (NT) (ev 1)<|ev 0)<|AjC<|iP yH yH (NT) (ev 2)<|ev 0)) ?_
 rintro F m S Q⟨a,b,c,rfl,⟨j,h,l,i,k,g⟩,e⟩;symm;refine .mk _ Y ?_;refine .mk _ Y ?_;refine .mk _ Y ?_;refine Ol (Ap j) ?_;refine(show QT (decide<|a<=5) _ _ from Ol (Ap h) ?_);refine Ol (Ap l) ?_;refine(show QT (decide<|b<=a) _ _ from Ol (Ap i) ?_);refine Ol (Ap k) ?_;show fz Q (.f<|.bl<|decide<|c<=a) S;rw[Ap g];exact Oi e
def YM(G:Gd 66 M Z):hF M Z 3 "need_counts" Ui:=by refine fG (N:=["copies","reads","writes"]) 3 3 G.T.d G.T.a_need_counts (λφ H r=>NK<|O5 (RP<|Qq<|N7 (G.W7 Y) r.1<|NH (ev 0)<|NH (ev 1)<|NH (ev 2) NL) (NK<|Ra)<|N9) ?_;rintro F f S Q⟨a,b,c,rfl,g,e⟩;symm;exact .mk a b c Y g e
def Xq(G:Gd 67 M Z):hK M Z 1 "Thing" Z.w.T Tf:=by
 refine AgY (N:=["self","key","copies","reads","writes"]) 5 5 G.T.a_Thing___init G.T.m_Thing G.T.g_Thing (λφ H r=>NI (OJ (ev 0)<|ev 1) (NI (OJ (ev 0)<|ev 2) (NI (OJ (ev 0)<|ev 3) (NI (OJ (ev 0)<|ev 4) (NK<|OJ (ev 0)<|OO))))) ?_
 rintro F l S Q⟨a,r,e,k,c,m,j,i,rfl,rfl,f⟩;symm;refine lR G.T.fT<|lR G.T.fT<|lR G.T.fT<|lR G.T.fT ?_;dsimp only[Adq,eU,AiP];refine Sl e λh d g=>?_
 let(b,d):=Ov d;refine zS ((NJ<|Ax b).trans NO) (.inr<|G.T.fT.n _ M4) Y ?_;rw[Qe<|Ax b];exact f h (Ax b) d g
def Xr(G:Gd 68 M Z):hM M Z 6 Z.w.T "settle" Tg:=by
 refine Sg (N:=["self","houses","before","house"]) 2 4 G.T.a_Thing_settle G.T.cl_Thing (λφ H r=>NI (Oh r.2 2<|NS<|ev 0) (NI (OJ (ev 0)<|OO) (NI (SU (N7 (G.gV Y) r.1<|NH (ev 1)<|NH (N7 (G.Uv Y) r.1<|NH (NS<|ev 0) NL)<|NH (NS<|ev 0) NL) (OC r.2 3)<|NK<|OY r.1 (NS<|ev 0) (ev 3)<|QJ r.1 (ev 2) (ev 3)<|OO) (NK<|N4<|AdU r.1 G.T.b_set (ev 2)<|Ab6<|pv 0)))) ?_
 rintro F ds S Q⟨t,s,k,W,p,T,v,m,rfl,rfl,n,E,u3,R,m5,L,X⟩;symm;have j0:t≠s:=λz=>by rw[z,E]at n;cases n
 refine zF n Y ?_;symm;dsimp only[Adq,eU,AiP];refine Sl p λq l _=>?_
 have g:q≠t:=λz=>by rw[z,n]at l;cases l
 have B:q≠s:=λz=>by rw[z,E]at l;cases l
 have C:NP S q (p,.d []) t=_:=(NJ<|Ax g).trans n;refine zS C (.inl Y) Y ?_;refine zF NO Y ?_;refine .mk T.key Y ?_;refine zF NO Y ?_;refine .mk v (T.key%110) m (by rw[R]) Y L (BN _ M5) (BJ _ M5) ?_;have V:=tX L (T.key%110) m;have y0:=mK v (T.key%110) m;generalize Qa v (T.key%110) m=D at *;have A:D.length<=5:=M6;have sw:∀(y:Rl×O),NP (NP (NP S q (p,.d [])) t (k,qF Z.w.T q T)) q y=NP (NP S q y) t (k,qF Z.w.T q T):=λy=>by
  funext b
  unfold NP;by_cases a:b=q
  ·rw[AG a,Ay (by rw[a];exact g),AG a]
  ·rw[Ay a];by_cases c:b=t
   ·rw[AG c,AG c]
   ·rw[Ay c,Ay c,Ay a,Ay a]
 have h:∀y,NP (NP S q y) t (k,qF Z.w.T q T) s=U (W,.d<|VT T.sh):=λy=>(NJ<|Ax j0).trans ((NJ<|Ax B).trans E)
 have o:∀y,NP (NP S q y) t (k,qF Z.w.T q T) q=U y:=λy=>(NJ g).trans NO
 refine#[_,.inl Y,.inl Y,Lp.mk (λj i I=>∃u,i=[U<|.f<|.ref t,U<|YN v,U<|.f<|.ref s,u]/\I=NP (NP S q (p,.d<|VT<|Qh T.sh<|D.take j)) t (k,qF Z.w.T q T)) #[Ah,Y,Y] (λ_ _ _ _=>.inl Y) ?_ ?_]
 ·rintro j x i I P⟨u,rfl,rfl⟩;rw[Aj]at P;let(z,K,rfl):=AF.mp P;symm;refine#[.inl #[_,.inr #[_,_,Y,h _]],O3 ?_];refine Als (.inr #[_,_,Y,h _])<|Se ?_;rw[show Yv (.d [])=OK []from Y,lM];refine zF NO Y ?_;refine wG (o _) nofun (by unfold VT;rw[Ac,aO,Bt];omega)<|Se ?_;refine#[_,Y,?_];rw[AcA,WE<|Ad4 (by rw[gK];exact Wu V K),take_snoc K,zQ]
  funext b
  unfold NP;by_cases a:b=q
  ·rw[AG a,Ay (by rw[a];exact g),AG a]
  ·rw[Ay a];by_cases c:b=t
   ·rw[AG c,AG c]
   ·rw[Ay c,Ay c,Ay a,Ay a]
 ·rintro i I⟨u,rfl,rfl⟩;rw[Ac,BA];refine#[_,_,_,_,_,_,.inr #[_,_,Y,h _],by unfold VT;rw[Ac];exact u3,Y,.inr #[_,_,Y,NO],Y,.inr #[_,_,Y,o _],by unfold VT;rw[Ac,aO];exact A,Oi ?_];have e:Alp ((VT T.sh).map (·.1)) ((VT<|Qh T.sh D).map (·.1))=AgF T.sh D:=by
   unfold AgF VT Qh;rw[AO,AO,AO];rfl
  rw[e];exact X q l
def Wh(G:Gd 69 M Z):hM M Z 7 Z.w.W "declare" SA:=by
 refine Sg (N:=["self","key","copies","reads","writes","thing"]) 5 6 G.T.a_World_declare G.T.cl_World (λφ H r=>NI (O5 (RP<|Qq<|N7 (G.VW Y) r.1<|NH (ev 1) NL) (NK<|Ra)<|N9) (NI (O5 (pU r.1 (ev 1)<|NS<|ev 0) (NK<|Ra)<|N9) (NI (N6<|N7 (G.Vy Y) r.1<|NH (ev 2)<|NH (ev 3)<|NH (ev 4) NL) (NI (Oh r.2 5<|AdT (G.Us Y) G.T.cl_Thing r.1<|NH (ev 1)<|NH (ev 2)<|NH (ev 3)<|NH (ev 4) NL) (NI (N6<|N2 (G.Ut Y) r.1 (ev 5)<|NH (NS<|ev 0) NL) (NK<|OY r.1 (NS<|ev 0) (ev 1)<|ev 5)))))) ?_
 rintro F V S Q⟨i,A,w,k,c,n,l,m,rfl,rfl,v,O,L,I,y,C,j0,X,u3⟩;symm;refine .mk k Y ?_;refine Oa (by rw[AaY #[L,I]];rfl) ?_;walk_at"j";refine QZ v .top ?_;refine Aac (V2 v .decl)<|AnJ ?_;rw[Ay AQ];have B:OB (w.Ts.map λT=>((.inl T.key:Key),D.f<|.ref<|A<|.OX T.key)) (.inl k)=Ah:=by rw[P0 (g:=λT:Sf=>(.inl T.key:Key)) (c:=λT=>D.f<|.ref<|A<|.OX T.key)];rw[Ck.mpr λx R z=>y (by have:(C5 x.key:Key)=.inl k:=B2 z;injection this with this;rw[<-this];exact A8 R)];rfl
 rw[B];refine .mk c n l Y C ?_;symm;refine#[.wd i<|.OX k,λt K _=>?_];refine .mk t _ (.own 0) k c n l S Y Y λs p E _=>#[Y,Oi ?_]
 symm;have P:m<=5:=by have:=C.2.1;omega
 have h:=v.lE (x:=(.own 0,.d<|VT [])) E;have b:NP S s (.own 0,.d<|VT []) t=Ah:=(NJ p).trans K;have u:=h.lE (x:=(.wd i<|.OX k,qF Z.w.T s #[k,c,n,l,[]])) b;refine#[zC NO Y,?_];refine QZ u .top ?_;refine .mk t s _ _ (.wd i<|.Zh k) #[k,c,n,l,[]] w.Hs m Y Y NO ((NJ<|Ax p).trans NO) (Bv _) j0 P O λq o=>?_
 let(e,o):=Ov o;rw[Qe<|Ax e];symm;have j:=(h.lE (x:=(.wd i<|.Zh k,.d<|VT<|Qh []<|Qa w.Hs (k%110) m)) o).lE (a:=t) (x:=(.wd i<|.OX k,qF Z.w.T q #[k,c,n,l,Qh []<|Qa w.Hs (k%110) m])) ((NJ<|Ax e).trans b);refine QZ j .top ?_;refine wG (j .decl _ Y) nofun (by rw[Ac];omega)<|AnJ ?_;rw[Acy B];refine u3 (vJ A k t q) _ Y (h.newThing #[k,c,n,l,Qh []<|Qa w.Hs (k%110) m] t q b o (Ax e) y) ?_;exact(((Fr.new E).trans (Fr.new o)).trans (Fr.new<|(NJ<|Ax e).trans b)).trans (Fr.set<|j .decl _ Y)
def YA(G:Gd 70 M Z):hK M Z 1 "Post" Z.w.P T5:=by
 refine AgY (N:=["self"]) 1 1 G.T.a_Post___init G.T.m_Post G.T.g_Post (λφ H r=>NI (OJ (ev 0)<|NT) (NK<|OJ (ev 0)<|OO)) ?_
 rintro F i S Q⟨a,r,e,g,rfl,rfl,d⟩;symm;refine lR G.T.fP ?_;dsimp only[Adq,eU,AiP];refine Sl e λh c f=>?_
 let(b,c):=Ov c;refine zS ((NJ<|Ax b).trans NO) (.inr<|G.T.fP.n _ M4) Y ?_;rw[Qe<|Ax b];exact d h (Ax b) c f
def Xn(G:Gd 71 M Z):hK M Z 1 "Hints" Z.w.H Tc:=by
 refine AgY (N:=["self"]) 1 1 G.T.a_Hints___init G.T.m_Hints G.T.g_Hints (λφ H r=>NK<|OJ (ev 0)<|Wc) ?_;rintro F i S Q⟨a,r,e,g,rfl,rfl,d⟩;symm;refine Sl e λh c f=>?_
 let(b,c):=Ov c;refine zS ((NJ<|Ax b).trans NO) (.inr<|G.T.fH.n _ M4) Y ?_;rw[Qe<|Ax b];exact d h (Ax b) c f
def Yw(G:Gd 72 M Z):hK M Z 1 "Asks" Z.w.S TZ:=by refine AgY (N:=["self"]) 1 1 G.T.a_Asks___init G.T.m_Asks G.T.g_Asks (λφ H r=>NK<|OJ (ev 0)<|U2<|NL) ?_;rintro F i S Q⟨a,r,e,g,rfl,rfl,d⟩;symm;refine#[Y,Sl e λh c f=>?_];let(b,c):=Ov c;refine zS ((NJ<|Ax b).trans NO) (.inr<|G.T.fS.n _ M4) Y ?_;rw[Qe<|Ax b];exact d h (Ax b) c f
def Xs(G:Gd 73 M Z):hK M Z 3 "World" Z.w.W Th:=by
 refine AgY (N:=["self","houses"]) 2 2 G.T.a_World___init G.T.m_World G.T.g_World (λφ H r=>NI (OJ (ev 0)<|O1 P9 M7 G.T.b_dict Boot.b_dict<|NH (ev 1) NL) (NI (OJ (ev 0)<|OO) (NI (OJ (ev 0)<|OO) (NI (OJ (ev 0)<|AaK (G.Um Y) G.T.cl_Hints r.1) (NI (OJ (ev 0)<|AaK (G.Vq Y) G.T.cl_Post r.1) (NI (OJ (ev 0)<|AaK (G.Vn Y) G.T.cl_Asks r.1) (NK<|OJ (ev 0)<|Wc))))))) ?_
 rintro F ds S Q⟨a,i,Hs,S',rfl,rfl,ha,kQ⟩;symm;refine#[_,.inl Y,O3<|lR G.T.fW ?_];walk_at"j";refine Sl (.wd i .decl) λd u _=>?_
 let(z,u):=Ov u;refine zS ((NJ<|Ax z).trans NO) (.inr<|G.T.fW.n _ M4) Y ?_;rw[Qe<|Ax z];refine Sl (.wd i .RC) λb t _=>?_
 let(v,t):=Ov t;let(b2,t):=Ov t;refine zS ((NJ<|Ax v).trans NO) (.inr<|G.T.fW.n _ M4) Y ?_;rw[Qe<|Ax v];refine#[.wd i .left,λl o _=>?_];let(P,o):=Ov o;let(l2,o):=Ov o;let(l3,o):=Ov o;refine .mk l _ (.wd i .kept) _ Y Y λlk K j _=>#[Y,Oi ?_]
 let(q,j):=Ov j;let(E,j):=Ov j;let(B,j):=Ov j;refine zS ((NJ<|Ax P).trans ((NJ<|Ax q).trans NO)) (.inr<|G.T.fW.n _ M4) Y ?_;rw[aN (Ax q)<|Ax P];refine#[.wd i .post,λp k _=>?_];let(D,k):=Ov k;let(p2,k):=Ov k;let(u3,k):=Ov k;let(X,k):=Ov k;let(V,k):=Ov k;refine .mk p _ (.wd i .uw) _ Y Y λpu L c _=>#[Y,Oi ?_]
 let(m,c):=Ov c;let(R,c):=Ov c;let(x,c):=Ov c;let(y,c):=Ov c;let(A,c):=Ov c;refine zS ((NJ<|Ax D).trans ((NJ<|Ax m).trans NO)) (.inr<|G.T.fW.n _ M4) Y ?_;rw[aN (Ax m)<|Ax D];refine#[.wd i .asks,λs h _=>?_];let(j0,h):=Ov h;let(s2,h):=Ov h;let(s3,h):=Ov h;let(s4,h):=Ov h;let(s5,h):=Ov h;let(y0,h):=Ov h;let(s7,h):=Ov h;refine .mk s _ (.wd i .begun) _ Y Y λg g0 f _=>#[Y,Oi ?_]
 let(I,f):=Ov f;let(g2,f):=Ov f;let(g3,f):=Ov f;let(g4,f):=Ov f;let(g5,f):=Ov f;let(g6,f):=Ov f;let(g7,f):=Ov f;refine zS ((NJ<|Ax j0).trans ((NJ<|Ax I).trans NO)) (.inr<|G.T.fW.n _ M4) Y ?_;rw[aN (Ax I)<|Ax j0];refine Sl (.wd i .Abt) λn e _=>?_
 let(O,e):=Ov e;let(n2,e):=Ov e;let(n3,e):=Ov e;let(n4,e):=Ov e;let(n5,e):=Ov e;let(n6,e):=Ov e;let(n7,e):=Ov e;let(n8,e):=Ov e;let(n9,e):=Ov e;refine zS ((NJ<|Ax O).trans NO) (.inr<|G.T.fW.n _ M4) Y ?_;rw[Qe<|Ax O];let(wd,fr):=Ob.init (C:=Z.w) (i:=i) (S':=S') (Hs:=Hs) (a:=a) (d:=d) (b:=b) (l:=l) (lk:=lk) (p:=p) (pu:=pu) (s:=s) (bg:=g) (ln:=n) (by
  simp only[Bc,AB,Cv,FU,not_or,Fi,and_true,not_false_eq_true];exact#[#[Ax z,Ax v,Ax q,Ax P,Ax m,Ax D,Ax I,Ax j0,Ax O],#[Ax b2,Ax B,Ax l3,Ax A,Ax V,Ax g7,Ax s7,Ax n9],#[Ax E,Ax l2,Ax y,Ax X,Ax g6,Ax y0,Ax n8],#[Ax K,Ax x,Ax u3,Ax g5,Ax s5,Ax n7],#[Ax R,Ax p2,Ax g4,Ax s4,Ax n6],#[Ax L,Ax g3,Ax s3,Ax n5],#[Ax g2,Ax s2,Ax n4],#[Ax g0,Ax n3],Ax n2]) (by
  simp only[Eg];exact#[ha,u,t,j,o,c,k,f,h,e,nofun]) Y
 exact kQ _ _ Y wd fr
def jF(G:Gd 74 M Z):hF M Z 1 "_law_cell" Ye:=by
 refine fG (N:=["_law_script","_law_k"]) 2 2 G.T.d G.T.a_law_cell (λφ H r=>NI (O5 (Ot rU (ev 1)<|Ox Pr M7 G.T.b_len Boot.b_len<|NH (ev 0) NL) (NK<|N4<|Pk QE (ev 0)<|ev 1)<|N9) (NK<|N4<|OL QM (OL uS (NT)<|ev 1)<|NT)) ?_
 rintro F g S Q⟨b,k,rfl,c,q⟩;symm;refine#[_,.inl<|.inl Y,?_];by_cases a:k<((b.map λz:Int=>D.f<|.int z).length:Nat)
 ·refine(show QT _ _ _ from Ol (Ap a) ?_);let(j,rfl):=BZ c;have e:j<b.length:=by rw[Ac]at a;omega
  exact#[_,_,.f<|.int b[j],.inl Y,Y,QI (by rw[Aj,Ae e];rfl),Oi<|q _]
 ·refine(show QT _ _ _ from Oa (Ar a) ?_);exact#[.inl #[M5,M5],Oi<|q _]
def cM(G:Gd 75 M Z):hF M Z 1 "_law_mixed" WN:=by
 refine fG (N:=["_law_cell_here","_law_k","_law_number"]) 2 3 G.T.d G.T.a_law_mixed (λφ H r=>NI (Oh r.2 2<|OL Qc (OL QM (ev 0)<|OL uS (NT)<|ev 1)<|NT) (NI (Oh r.2 2<|OL Qc (OL QM (OL uS (ev 2)<|NT)<|ev 1)<|NT) (NK<|N4<|OL Qc (OL uS (ev 2)<|OL QM (ev 2)<|NT)<|NT))) ?_
 rintro F h S Q⟨c,k,rfl,q⟩;symm;refine#[.inl #[M5,M5],O9 M5,?_];symm;generalize(c+7919*k)%2147483647=a;refine#[.inr #[M5,M5],O9 M5,?_];symm;have f:=BN (a*48271+k) (show(2147483647:Int)≠0 by decide);have g:=BJ (a*48271+k) (show(0:Int)<2147483647 by decide);generalize(a*48271+k)%2147483647=b at *;refine#[.inl #[M6,M6],O9 M5,?_];let(n,e):=BZ<|BN (b*(b+7)) (show(2147483629:Int)≠0 by decide);have:=q n;rw[<-e]at this;exact Oi this
def cO(G:Gd 76 M Z):Hf M Z.K 1 "_law_names" (WO Z):=by
 refine hf (N:=["_law_cell_here","_law_signs","_law_size","_law_word","_law_names_here","_law_k","_law_roof","_law_room","_law_own"]) 1 9 G.T.d G.T.a_law_names (λφ H r=>OA (Qs r.2 1<|RX) (OA (Qs r.2 2<|O8 (oC SR) (Pw 0)<|Pn) (OA (Qs r.2 3<|X5 F.plainAttrs_str F.slot_str_join F.type_str_join Aex (RX)<|NU (gC (Nc:=["_law_k","_law_signs","_law_cell_here"]) (src:=[Ah,U 1,U 0]) Y (UM M7 G.T.b_range<|NU (Pw 2) N0) Y M4 (PD (sc0:=NM X6) Y M4) M4 (OS<|OQ Y (BK Y) Y<|OQ Y (BK Y) Y<|OE) (λ_ _ _=>O2 (i:=0) (show(["_law_k","_law_signs","_law_cell_here"]:Lw).Nodup by decide +kernel) Y<|BK Y) (λ_ _ _=>UN) λ_ _ _=>Z3 jP (Pw 1)<|O8 (oC SR) (O8 (oC UJ) (Pw 2)<|O8 (o0 XE) (Pw 0)<|Pn)<|Pn) N0)
   (OA (Qs r.2 4<|rX<|N0) (OA (Qr (UM M7 G.T.b_range<|NU (Pn) N0) (Qn r.2 5) (OA (Qs r.2 6<|O8 PF (Pw 3)<|Z3 jP (Pw 1)<|O8 (oC SR) (O8 (o0 XE) (O8 (oC UJ) (Pw 0)<|Pn)<|O8 (oC SR) (Pw 5)<|Pn)<|Pn) (OA (Qs r.2 7<|O8 PF (Pw 3)<|Z3 jP (Pw 1)<|O8 (oC SR) (O8 (oC UJ) (Pw 5)<|Pn)<|Pn) (OA (Qs r.2 8<|O8 PF (Pw 3)<|Z3 jP (Pw 1)<|O8 (oC SR) (O8 (o0 XE) (O8 (oC UJ) (Pw 0)<|Pn)<|Pw 5)<|Pn) (OV<|Zf<|X5 F.plainAttrs_list F.slot_list_append F.type_list_append UI (Pw 4)<|NU (O8 PF (O8 PF (O8 PF (O8 PF (Pw 6)<|RX)<|Pw 7)<|RX)<|Pw 8) N0))))) (OV<|PV<|Pw 4)))))) (λvs H Q E h=>?_)
 let(c,rfl,k):=h;have c0:=BN c (show(8:Int)≠0 by decide);have c1:=BJ c (show(0:Int)<8 by decide);refine#[_,Y,_,_,Y,Y,O9 M5,Y,_,Y,c%8,Y,M6,M6,λD hD=>?_];obtain⟨m,hm⟩:∃m:Nat,c%8=(m:Int):=BZ M6;rw[hm,Ga];have m7:m<=7:=M6;refine Ahe (n:=m) (by rw[Bb];omega) hD (λi=>.str<|sg<|c / (((i:Nat):Int)+1)) ?_ ?_
 ·intro i u3 R R' y0 W hR;rw[F9];exact#[Wk.set Y,xM #[_,Y,_,Y,_,Y,_,_,Y,Y,_,_,Y,Y,#[M6,M6],_,_,Y,Y,O9 M5,WS,_,_,Y,Y,M4,vM _,hR _<|NV.refl _]]
 intro u3 p W;have eD:((Ba m).map λi=>V.str<|sg<|c / (((i:Nat):Int)+1))=((Ba m).map λi=>sg<|c / (((i:Nat):Int)+1)).map V.str:=by rw[AO];rfl
 rw[eD]at p;refine#[A1 "",D,_,Y,Y,Pb.of p,xO M6 (λ_=>rfl),?_];have f:(Ep (A1 "")<|(Ba m).map λi=>sg<|c / (((i:Nat):Int)+1)).length=m:=Aa1 λ_=>rfl
 have S:Z1 (Ep (A1 "")<|(Ba m).map λi=>sg<|c / (((i:Nat):Int)+1)).cps.toList:=Aed λa ha=>by
  let(i,_,rfl):=AR.mp ha;exact vN _
 generalize Ep (A1 "") ((Ba m).map λi=>sg<|c / (((i:Nat):Int)+1))=B at *;refine#[by show 0<=sizeLine;decide,λL hL=>?_];have L0:H L=Ah:=W.free hL;have s2:=W.upd (o:=.lst []) hL;have X:(upd u3 L<|.lst []) L=U (.lst<|([]:Lw).map V.str):=NQ;generalize upd u3 L (.lst [])=H2 at *;have v:(A1 ".").length=1:=by rw[Zt];rfl
 obtain⟨N,j0⟩:∃N:Nat->AA,N=λi=>(B++sg (c / 8+((i:Nat):Int)%3))++A1 "."++(B++sg (((i:Nat):Int) / 3%2))++A1 "."++(B++sg (c / 8+((i:Nat):Int))):=#[_,Y]
 refine#[9,Y,M5,M5,eY (n:=9) (λi J l=>∃O I t q,J=[U<|.int c,U<|.str WS,U<|.int<|c%8,U<|.str B,U<|.ref L,O,I,t,q]/\l L=U (.lst<|((Ba i).map N).map V.str)/\NV H l) #[Ah,Ah,Ah,Ah,Y,X,s2] ?_ ?_]
 ·rintro i J l y0⟨O,I,t,q,rfl,s,s3⟩;rw[F9];have l1:∀x,(sg x).length=1:=λ_=>rfl
  refine#[_,Y,_,Y,_,Y,_,_,Y,Y,#[M5,M5],_,Y,_,_,Y,Y,O9 M5,_,_,Y,Y,_,_,Y,Y,O9 M5,WS,_,_,Y,Y,M4,vM _,_,_,Y,Y,by show B.length+1<=_;rw[f,Bb];omega,?_];refine AmN (σ':=[U<|.int c,U<|.str WS,U<|.int<|c%8,U<|.str B,U<|.ref L,U<|.int (i:Nat),U<|.str<|B++sg (c / 8+((i:Nat):Int)%3),t,q]) Y ?_;have e6:(((i:Nat):Int) / 3%2)%36=((i:Nat):Int) / 3%2:=M6;have a6:Y1 WS.cps.toList (((i:Nat):Int) / 3%2)=U (WS.cps.toList.getD ((((i:Nat):Int) / 3%2)%36).toNat 0):=by have:=vM<|((i:Nat):Int) / 3%2;rw[e6]at this ⊢;exact this
  refine#[_,Y,_,Y,_,Y,_,_,Y,Y,#[M5,M5],_,_,Y,Y,O9 M5,WS,_,_,Y,Y,M4,a6,_,_,Y,Y,by show B.length+1<=_;rw[f,Bb];omega,?_];refine AmN (σ':=[U<|.int c,U<|.str WS,U<|.int<|c%8,U<|.str B,U<|.ref L,U<|.int (i:Nat),U<|.str<|B++sg (c / 8+((i:Nat):Int)%3),U<|.str<|B++sg (((i:Nat):Int) / 3%2),q]) Y ?_;refine#[_,Y,_,Y,_,Y,_,_,Y,Y,#[M5,M5],_,Y,_,_,Y,Y,_,_,Y,Y,O9 M5,WS,_,_,Y,Y,M4,vM _,_,_,Y,Y,by show B.length+1<=_;rw[f,Bb];omega,?_];refine AmN (σ':=[U<|.int c,U<|.str WS,U<|.int<|c%8,U<|.str B,U<|.ref L,U<|.int (i:Nat),U<|.str<|B++sg (c / 8+((i:Nat):Int)%3),U<|.str<|B++sg (((i:Nat):Int) / 3%2),U<|.str<|B++sg (c / 8+((i:Nat):Int))]) Y ?_;have u:(B++sg (c / 8+((i:Nat):Int)%3)).length=m+1:=by rw[Pj,f];rfl
  have C:(B++sg (((i:Nat):Int) / 3%2)).length=m+1:=by rw[Pj,f];rfl
  have g3:(B++sg (c / 8+((i:Nat):Int))).length=m+1:=by rw[Pj,f];rfl
  have aa:N i=(B++sg (c / 8+((i:Nat):Int)%3))++A1 "."++(B++sg (((i:Nat):Int) / 3%2))++A1 "."++(B++sg (c / 8+((i:Nat):Int))):=by rw[j0]
  generalize B++sg (c / 8+((i:Nat):Int)%3)=W1 at *;generalize B++sg (((i:Nat):Int) / 3%2)=W2 at *;generalize B++sg (c / 8+((i:Nat):Int))=W3 at *;refine#[_,Y,Aix<|Pb.of s,_,Y,_,_,Y,Y,by rw[u,v,Bb];omega,_,Y,_,_,Y,Y,by rw[Pj,u,C,v,Bb];omega,_,_,Y,Y,by rw[Pj,Pj,u,C,v,Bb];omega,_,Y,_,_,Y,Y,by rw[Pj,Pj,Pj,u,C,g3,v,Bb];omega,?_];refine#[L,_,_,Y,Y,s,by rw[Ac,Ac,BX,Bb];omega,_,_,_,_,Y,?_,s3.Am9 L0];rw[NQ,Js,Bi,Bi,Az,DU,Az,DU,aa]
 ·rintro J l ⟨O,I,t,q,rfl,s,s3⟩;refine#[_,Y,k L l _ s (by rw[Ac,BX]) (λz hz=>?_) ?_ L0 s3]
  ·obtain ⟨i,_,rfl⟩:=AR.mp hz;rw[j0];have o1:=vN<|c / 8+((i:Nat):Int)%3;have o2:=vN<|((i:Nat):Int) / 3%2;have o3:=vN<|c / 8+((i:Nat):Int);have e1:(sg<|c / 8+((i:Nat):Int)%3).length=1:=rfl;have b:(sg<|((i:Nat):Int) / 3%2).length=1:=rfl;have e3:(sg<|c / 8+((i:Nat):Int)).length=1:=rfl;dsimp only;generalize sg (c / 8+((i:Nat):Int)%3)=S1 at *;generalize sg (((i:Nat):Int) / 3%2)=P at *;generalize sg (c / 8+((i:Nat):Int))=S3 at *;have A:(B++S1++A1 "."++(B++P)++A1 "."++(B++S3)).cps.toList=(B++S1).cps.toList++46::((B++P).cps.toList++46::(B++S3).cps.toList):=by
    rw[P8,P8,P8,P8,AdP];simp
   have w:Tw (B++S1).cps.toList=Af:=jN (rV S o1) (by rw[UE,Pj,e1];omega) (by rw[UE,Pj,e1];omega);have w2:Tw (B++P).cps.toList=Af:=jN (rV S o2) (by rw[UE,Pj,b];omega) (by rw[UE,Pj,b];omega);have y:Tw (B++S3).cps.toList=Af:=jN (rV S o3) (by rw[UE,Pj,e3];omega) (by rw[UE,Pj,e3];omega);have hl:=Ad8 A w w2 y;exact#[Ad7 A w w2 y,hl,M6,_,_,_,A,UD w,UD w2,UD y]
  ·rw[Eo,Df];refine List.pairwise_lt_range.imp_of_mem λ{i j}y0 hj ab e=>?_
   have ad:=B6.mp y0;have ac:=B6.mp hj;rw[j0]at e;have b:=congrArg (λz:AA=>z.cps.toList.getLast?) e;dsimp only at b;rw[P8,P8 B,P8 _<|B++sg (c / 8+((j:Nat):Int)),P8 B<|sg<|c / 8+((j:Nat):Int)]at b;have g:∀x,(sg x).cps.toList=[WS.cps.toList.getD (x%36).toNat 0]:=λ_=>rfl
   rw[g,g]at b;simp only[<-EB,List.getLast?_concat,He]at b;have e5:sg (c / 8+((i:Nat):Int))=sg (c / 8+((j:Nat):Int)):=by unfold sg;rw[b]
   have:=Aig e5;omega
def YK(G:Gd 77 M Z):hF M Z 1 "_law_names" Ug:=by
 refine(G.Yq Y).imp λo H Q E⟨F,S,p,m,R,i,h,k⟩=>?_
 let(c,rfl,b):=h;let(v,rfl,w):=RA i;cases N1.mp w;exact .mk _ Y λl q g d e j a f s=>k _ _ _ _ (Px.Py s.n) (R.same s) (lO (R.free f) d) (b g e j a)
def ZK(G:Gd 78 M Z):hF M Z 2 "_law_houses" Vk:=by
 refine fG (N:=["_law_names_here","_law_cell_here","_law_many","_law_houses_here","_law_plot","_law_at"]) 2 6 G.T.d G.T.a_law_houses (λφ H r=>NI (Oh r.2 2<|OL QM (NT)<|OL Qc (ev 1)<|NT) (NI (Oh r.2 3<|OO) (NI (Afp M7 G.T.b_range (NH (NT) NL) (OC r.2 4) (NI (Oh r.2 5<|OL Qc (N7 (G.RT Y) r.1<|NH (ev 1)<|NH (ev 4) NL)<|OL QM (ev 2)<|NT) (NK<|O5 (Ot rU (ev 5)<|ev 2) (NK<|OY r.1 (ev 3) (Pk QE (ev 0)<|ev 5)<|OL Ahz (QJ r.1 (ev 3) (Pk QE (ev 0)<|ev 5)<|O7<|NL)<|O7<|NH (ev 4) NL)<|N9))) (NK<|N4<|ev 3)))) ?_
 rintro F u3 S Q⟨c,o,rfl,rfl,W,P⟩;symm;have X:=BN c (show(8:Int)≠0 by decide);have V:=BJ c (show(0:Int)<8 by decide);refine#[O9 M5,?_];symm;refine Sl (.own 0) λa R _=>?_
 symm;refine#[11,Y,M5,M5,Agx.mk (n:=11) (λi p A=>∃u v g,p=[U<|.l<|o.map λz=>.f<|.str z,U<|.f<|.int c,U<|.f<|.int<|1+c%8,U<|.f<|.ref a,u,v]/\A=NP S a (.own 0,.d<|xI g)/\Rj g/\(∀e∈g,∀x∈e.2,x<(i:Int))/\(∀e∈g,e.1∈o)) #[Ah,Ah,[],Y,Y,Rj.nil,nofun,nofun] ?_ ?_]
 ·rintro i p A C ⟨u,v,g,rfl,rfl,q,k,w⟩;symm;refine .mk c _ Y λn=>?_
  refine#[by show(0:Int)<1+c%8+1;omega,?_];have K:=BN (n:Int) (show(1+c%8+1:Int)≠0 by omega);symm;generalize(n:Int)%(1+c%8+1)=m at *;by_cases I:m<1+c%8
  ·refine (show QT _ _ _ from Ol (Ap I) ?_);let(j,rfl):=BZ K;have j0:j<o.length:=M6;have E:o[j]?=U o[j]:=Ae j0;generalize o[j]=z at *;have s:Y1 (o.map λz=>D.f<|.str z) (j:Int)=U (.f<|.str z):=QI (by rw[Aj,E];rfl);let(b,L,y):=Adc g z;have y0:b.length<=11:=by
    rcases y with h|rfl
    ·exact q.len _ h
    ·exact Bv _
   refine#[.inl #[_,.inr #[_,_,Y,NO]],?_];refine#[_,_,_,.inl Y,Y,s,Y,?_];refine Als (.inr #[_,_,Y,NO])<|Se ?_;rw[L];refine#[Y,?_];refine#[_,_,Y,Y,?_,?_]
   ·rw[Ac];exact Nat.ble_eq.mpr (by show b.length+1<=1000;omega)
   refine#[_,_,_,.inl Y,Y,s,?_];refine wG NO nofun (by rw[Ac];have:=q.bS;omega)<|Se ?_;refine#[_,_,cZ g z<|b++[(i:Int)],Y,?_,q.push C k y,Acx k y,λe B=>?_]
   ·rw[U9,show(D.t<|(b.map λn=>D.f<|.int n)++[.f<|.int<|0+(i:Int)])=.t ((b++[(i:Int)]).map λn=>.f<|.int n) by rw[F9,Bi];rfl,Afe]
   ·rcases Qd B with⟨h,_⟩|rfl
    ·exact w e h
    ·exact AH E
  ·refine(show QT _ _ _ from Oa (Ar I) ?_);exact#[_,_,g,Y,Y,q,λe B x O=>by have:=k e B x O;omega,w]
 ·rintro p A⟨u,v,g,rfl,rfl,q,k,w⟩;exact iY NO (by rw[RV R];exact P g q w)
def YL(G:Gd 79 M Z):hF M Z 1 "_law_written" Uh:=by
 refine fG (N:=["_law_state","_law_asker","_law_value","_law_found","_law_name"]) 3 5 G.T.d G.T.a_law_written (λφ H r=>NI (Oh r.2 3<|OO) (NI (sN (ev 0) (OC r.2 4)<|NK<|OY r.1 (ev 3) (ev 4)<|O7<|NH (Pk Pc (Oc r.1 (ev 0)<|ev 4)<|NT)<|NH (U3) NL) (NI (OY r.1 (ev 3) (ev 1)<|O7<|NH (OL QM (Pk Pc (QJ r.1 (ev 0) (ev 1)<|O7<|NH (NT)<|NH (Oq) NL)<|NT)<|NT)<|NH (ev 2) NL) (NK<|N4<|ev 3)))) ?_
 rintro F j0 S Q⟨E,n,v,rfl,rfl,C,p,q⟩;symm;refine Sl (.own 0) λa z _=>?_
 refine#[Pp E,Y,.inl #[Y,λb B=>#[λj c e=>∃x,c=[U<|OK E,U<|.f<|.str n,U<|.f<|.str v,U<|.f<|.ref a,x]/\e=NP S a (.own 0,.d<|Pp<|Z2<|E.take j),#[Ah,Y,Y],?_,?_]]]
 ·rintro j x c e o⟨u,rfl,rfl⟩i;rw[Aj,Aj]at o;let(y,A,rfl):=AF.mp o;let(f,l,rfl):=AF.mp A;have h:a∉[b]:=λm=>by
   cases As.mp m;have:=i B;rw[NO]at this;cases this
  have I:(Z2<|E.take j).length<=1000:=AS (Zb _) (by rw[Bt];omega);have s:E.take (j+1)=E.take j++[f]:=by rw[BP,l];rfl
  refine zG (.inl Y)<|Se #[Rn f.2,by show OB (Pp E) (.inr f.1)=_;rw[Rc,Ws p<|AH l];rfl,?_];refine#[_,_,_,Y,Y,Y,Y,?_];refine wG NO h (by rw[Ac];omega) ?_;refine#[_,Y,?_];rw[U9,show D.t [.f<|.int f.2.1,.f .Of]=Rn (f.2.1,Ah)from Y,UO,s,oN]
 ·rintro c e⟨u,rfl,rfl⟩;rw[Ac,Ac,BA];refine#[.inl #[_,.inl Y],Y,?_];refine Als (.inl Y)<|Se ?_;have k:Aa2 [] (Rn (mH E n+1,U v)) (.f<|.ref a) (.f<|.str n) (λw=>fz Q (.f<|.ref a) w) (NP S a (.own 0,.d<|Pp<|Z2 E)):=by
   refine wG NO nofun (by rw[Ac];have:=Zb E;omega)<|Se ?_;rw[U9,UO];exact iY NO (by rw[RV z];exact q)
  have g:∃y,(OB (Pp E)<|.inr n).getD (.t [.f<|.int 0,.f<|.str<|A1 ""])=.t [.f<|.int<|mH E n,y]:=by
   rw[Rc];unfold mH;cases look E n with
   |none=>exact#[_,Y]
   |some x=>exact#[_,Y]
  let(y,g):=g;exact#[_,_,_,g,Y,Y,Y,k]
def jG(G:Gd 80 M Z):hF M Z 1 "_law_join" Yg:=by
 refine fG (N:=["_law_one","_law_other","_law_found","_law_asker","_law_count","_law_value"]) 2 6 G.T.d G.T.a_law_join (λφ H r=>NI (Oh r.2 2<|O1 P9 M7 G.T.b_dict Boot.b_dict<|NH (ev 0) NL) (NI (sN (ev 1) (OC r.2 3) (NI (AkJ (Oc r.1 (ev 1)<|ev 3)<|eZ (n:=2) Y<|Pm (OC r.2 4)<|Pm (OC r.2 5)<|Xm) (NK<|O5 (PW.lV<|w_or (Rw r.1 (ev 3)<|ev 2)<|bR<|Ot yG (ev 4)<|Pk Pc (Oc r.1 (ev 2)<|ev 3)<|NT) (NK<|OY r.1 (ev 2) (ev 3)<|O7<|NH (ev 4)<|NH (ev 5) NL)<|NK<|O5 (PW.lV<|w_and (Ot oK (ev 4)<|Pk Pc (Oc r.1 (ev 2)<|ev 3)<|NT)<|RB<|Ot Agk (ev 5)<|U3) (NK<|OY r.1 (ev 2) (ev 3)<|O7<|NH (ev 4)<|NH (U3) NL)<|N9))) (NK<|N4<|ev 2))) ?_
 rintro F u3 S Q⟨h,c,rfl,rfl,W,X,s,j0,L⟩;symm;refine#[Pp h,.inl Y,Sl (.own 0) λa P _=>?_];refine#[Pp c,Y,.inl #[Y,λb I=>#[λj l A=>∃u v x,l=[U<|OK h,U<|OK c,U<|.f<|.ref a,u,v,x]/\A=NP S a (.own 0,.d<|Pp<|Og h<|c.take j),#[Ah,Ah,Ah,Y,Y],?_,?_]]]
 ·rintro j x l A q ⟨u,v,x,rfl,rfl⟩ B;rw[Aj,Aj]at q;let(y,K,rfl):=AF.mp q;let(f,C,rfl):=AF.mp K;have t:a∉[b]:=λm=>by
   cases As.mp m;have:=B I;rw[NO]at this;cases this
  have y0:(Og h<|c.take j).length<=2000:=AS (fO _ _) (by rw[Bt];omega);have E:c.take (j+1)=c.take j++[f]:=by rw[BP,C];rfl
  refine zG (.inl Y)<|Se #[Rn f.2,by show OB (Pp c) (.inr f.1)=_;rw[Rc,Ws j0<|AH C];rfl,?_];refine#[_,Y,Y,?_];symm;have k:∀x,x=bB (look (Og h<|c.take j) f.1) f.2->Aa2 [b] (Rn x) (.f<|.ref a) (.f<|.str f.1) (λO=>∃u v x,[U<|OK h,U<|OK c,U<|.f<|.ref a,U<|.f<|.str f.1,U<|.f<|.int f.2.1,U<|.f<|YQ f.2.2]=[U<|OK h,U<|OK c,U<|.f<|.ref a,u,v,x]/\O=NP S a (.own 0,.d<|Pp<|Og h<|c.take<|j+1)) (NP S a (.own 0,.d<|Pp<|Og h<|c.take j)):=λx q=>by
   refine wG NO t (by rw[Ac];omega) ?_;refine#[_,_,_,Y,?_];rw[U9,UO,E,join_snoc,q]
  refine Aac (.inr #[a,_,Y,NO]) ?_;show QT (!(OB (Pp<|Og h<|c.take j)<|.inr f.1).isSome) _ _;rw[Rc];have D:∀x,look (Og h<|c.take j) f.1=U x->OB (Pp<|Og h<|c.take j) (.inr f.1)=U (Rn x):=λx e=>by rw[Rc,e];rfl
  have i:∀x,look (Og h<|c.take j) f.1=U x->rJ x f.2=x->∃u v y,[U<|OK h,U<|OK c,U<|.f<|.ref a,U<|.f<|.str f.1,U<|.f<|.int f.2.1,U<|.f<|YQ f.2.2]=[U<|OK h,U<|OK c,U<|.f<|.ref a,u,v,y]/\NP S a (.own 0,.d<|Pp<|Og h<|c.take j)=NP S a (.own 0,.d<|Pp<|Og h<|c.take<|j+1):=λx e g=>by
   refine#[_,_,_,Y,?_];rw[E,join_snoc,e];show _=NP S a (.own 0,.d<|Pp<|RG _ _<|rJ x f.2);rw[g,Afb (uQ s) e]
  cases e:look (Og h<|c.take j) f.1 with
  |none=>exact Ol M7 #[Y,k f.2 (by rw[e];rfl)]
  |some x=>
    refine Oa M7 ?_;refine zG (.inr #[a,_,Y,NO])<|Se #[Rn x,D x e,?_];refine#[_,_,_,Y,Y,Y,?_];by_cases w:x.1<f.2.1
    ·exact Ol (Ap w) #[Y,k f.2 (by rw[e];exact(Abh w).symm)]
    ·refine Oa (Ar w) ?_;refine zG (.inr #[a,_,Y,NO])<|Se #[Rn x,D x e,?_];refine#[_,_,_,Y,Y,Y,Y,?_];by_cases p:f.2.1=x.1
     ·refine Ol (Ap<|congrArg V.int p) ?_;refine#[Y,?_];rw[XD];refine(show QT f.2.2.isNone _ _ from ?_);by_cases o:f.2.2=Ah
      ·refine Ol (by rw[o];rfl) #[Y,?_];have g:(f.2.1,Ah)=bB (look (Og h<|c.take j) f.1) f.2:=by rw[e];show _=rJ x f.2;rw[Aga p.symm o,<-o]
       exact k (f.2.1,Ah) g
      ·refine Oa ?_ (i x e<|Agb p.symm o);cases R:f.2.2 with
       |none=>exact(o R).elim
       |some y=>rfl
     ·refine Oa (Ar λz=>p<|by injection z) ?_;exact i x e<|Abg M6
 ·rintro l A⟨u,v,x,rfl,rfl⟩;rw[Ac,Ac,BA];exact iY NO (by rw[RV P];exact L)
def jI(G:Gd 81 M Z):hF M Z 1 "_law_send" Yi:=by
 refine fG (N:=["_law_model","_law_label","_law_ask","_law_house","_law_key","_law_state","_law_rows"]) 6 7 G.T.d G.T.a_law_send (λφ H r=>NI (Oh r.2 6<|Oc r.1 (ev 0)<|Oq) (NI (AcP (ev 6) (NT)<|OL QM (Pk QE (ev 6)<|NT)<|NT) (NK<|N6<|xB F.plainAttrs_list F.slot_list_append F.type_list_append ZY (ev 6)<|NH (O7<|NH (Pk QE (ev 6)<|NT)<|NH (ev 1)<|NH (ev 2)<|NH (ev 3)<|NH (ev 4)<|NH (ev 5) NL) NL))) ?_
 rintro F p S Q⟨B,M,m,c,k,b,E,rfl,g,o,n⟩;symm;refine zG (.inr #[_,_,Y,g .top])<|Se #[_,Y,?_];symm;refine#[_,_,_,.inr #[_,_,Y,g .rows],Y,iA,?_];refine#[_,_,_,_,0,Y,Y,g .rows,Aa0 (j:=0)<|Nat.succ_pos _,?_];symm;have a:=g.upd .rows {M with OF:=M.OF+1} (λx h=>by cases x<;>first|rfl|exact(h Y).elim);refine#[.inl #[Y,_,a.io .rows],?_];refine#[_,_,_,a.io .rows,Y,iA,?_];refine#[Y,?_];refine#[_,_,_,_,Y,Y,a .rows,by show(_::M.Ls.map qE).length<_;rw[AI,Ac];omega,?_];have i:=a.upd .rows (AcS M m c k b E) (λx h=>by cases x<;>first|rfl|exact(h Y).elim);refine n _ ?_<|(V3.set<|g .rows).trans (V3.set<|a .rows);have e:encL B (AcS M m c k b E) .rows=.l ((.f (.int<|M.OF+1)::M.Ls.map qE)++[qE #[M.OF+1,m,c,k,b,E]]):=by show O.l (_::(M.Ls++[_]).map qE)=_;rw[Bi];rfl
 rw[e]at i;exact i
def cQ(G:Gd 82 M Z):hF M Z 6 "_law_write" WT:=by
 refine fG (N:=["_law_world","_law_model","_law_asker","_law_key","_law_minds","_law_ask","_law_value","_law_state","_law_house"]) 4 9 G.T.d G.T.a_law_write (λφ H r=>NI (Oh r.2 4<|Oc r.1 (ev 1)<|Oq) (NI (Oh r.2 5<|OL QM (Oc r.1 (ev 1)<|Oq)<|NT) (NI (OY r.1 (ev 1) (Oq)<|ev 5) (NI (Oh r.2 6<|OL yF (Oq)<|O1 wQ M7 G.T.b_str Boot.b_str<|NH (ev 5) NL) (NI (Oh r.2 7<|N7 (G.Vx Y) r.1<|NH (QJ r.1 (ev 4) (O7<|NH (ev 2)<|NH (ev 3) NL)<|OO)<|NH (ev 2)<|NH (ev 6) NL) (NI (OY r.1 (ev 4) (O7<|NH (ev 2)<|NH (ev 3) NL)<|ev 7) (NI (SU (N2 (G.Sa Y) r.1 (ev 0)<|NH (ev 3) NL) (OC r.2 8)<|NK<|N6<|N7 (G.SY Y) r.1<|NH (ev 1)<|NH (Oq)<|NH (ev 5)<|NH (ev 8)<|NH (ev 3)<|NH (ev 7) NL) (NK<|N4<|AaJ oK (N2 (G.Vu Y) r.1 (ev 0)<|NH (ev 2)<|NH (ev 3)<|NH (ev 6) NL)<|ev 5)))))))) ?_
 rintro F ds S Q⟨i,A,w,T,z,O,B,D,C,rfl,rfl,wd,s,l,v,L,K,P,hM,k,X,W⟩;symm;refine zG (s.io .top)<|Se #[_,Y,?_];symm;refine zG (s.io .top)<|Se #[_,Y,?_];symm;refine Ane s λS1 g I=>?_
 symm;have hn:((w.Ms.length+1:Nat):Int)=(w.Ms.length:Int)+1:=rfl;have R:=AiD #[w.Ms.length+1,M6];have u3:=Ak4 #[w.Ms.length+1,M6];refine#[_,Y,Aj4 (n:=w.Ms.length+1) M6,?_];refine#[?_,?_]
 ·have:=AiE #[w.Ms.length+1,M6];exact AS this (by rw[Bb];decide)
 symm;refine#[.inr #[_,g.io .Wt],Y,O3 ?_];refine Anb (z:=z) (n:=T.key) g ?_;have o:=l.Ahm z T.key;refine .mk (PY w.VL z T.key) z (Agv<|w.Ms.length+1) Y Y (l.Aj5 z T.key) o.1 ?_;symm;refine#[Y,?_];refine Anf (e:=(z,T.key)) g (E4 k M5) λS2 t V=>?_
 have c:=wd.fo<|I.trans V;symm;refine#[Sd c .top,?_];refine .mk i A w T Y c l.tok v ?_;generalize hE:eJ (PY w.VL z T.key) z (Agv<|w.Ms.length+1)=E at *;refine#[_,.inl Y,.inl Y,Lp.mk (λj h m=>∃u,h=[U<|.f<|.ref<|A .top,U<|.f<|.ref<|B .top,U<|.f<|.str z,U<|.f<|.int T.key,U<|.f<|.ref<|B .Wt,U<|.f<|.int<|w.Ms.length+1,U<|.f<|.str<|Agv<|w.Ms.length+1,U<|OK E,u]/\P6 B (PN (PU {w with VL:=P2 (λe=>V1 e.1) w.VL ((z,T.key),E),Ms:=w.Ms++[#["write",z,T.key,T.w,E,[],[],"open"]]} "put" (w.Ms.length+1) T.key E ((T.sh.map (·.1)).take j)) D C) m/\Ob Z.w i A w m) #[Ah,Y,?_,c] (λ_ _ _ _=>.inl Y) ?_ ?_]
 ·rw[JB,VN];unfold PN;dsimp only;rw[AM,Bh];exact t
 ·rintro j x h m y⟨u,rfl,a,b⟩;rw[Aj]at y;let(e,he,rfl):=AF.mp y;symm;refine .mk B _ "put" (U<|w.Ms.length+1) e.1 T.key E Y a ?_ λS3 q f3=>#[_,Y,?_,b.fo f3]
  ·show(PU _ _ _ _ _ _).Ls.length<_;rw[ZZ,Bt,Ac];show w.Ls.length+_<_;omega
  ·have:(T.sh.map (·.1)).take (j+1)=(T.sh.map (·.1)).take j++[e.1]:=take_snoc (by rw[Aj,he];rfl);rw[this,TN];exact q
 ·rintro h m⟨u,rfl,a,b⟩;rw[Ac,show(T.sh.map (·.1)).take T.sh.length=T.sh.map (·.1)from EW (by rw[Ac];exact Ao _)]at a;symm;refine#[Sd b .top,?_];refine .mk i A w T z (Agv<|w.Ms.length+1) O Y Y b l v L K u3 (AS R M5) P M6 k λj0 S4 ea p y0=>?_
  refine#[Y,?_];rw[Ap Y];subst hE;exact Oi (W j0 S4 ea p<|a.fr y0)
def jH(G:Gd 83 M Z):hF M Z 5 "_law_left" Yh:=by
 refine fG (N:=["_law_world","_law_model","_law_house","_law_key","_law_state","_law_homes","_law_keeper","_law_notes"]) 5 8 G.T.d G.T.a_law_left (λφ H r=>NI (Oh r.2 5<|N2 (G.Sa Y) r.1 (ev 0)<|NH (ev 3) NL) (NK (SU (N7 (G.XS Y) r.1<|NH (Pl (G.Qt Y) r.1<|ev 0)<|NH (OL Qc (ev 3)<|NT) NL) (OC r.2 6) (NK (O5 (PW.lV<|w_and (Ot QN (ev 6)<|ev 5)<|RB<|Ot QN (ev 6)<|Oc r.1 (ev 1)<|Oq) (NI (Oh r.2 7<|Oc r.1 (ev 1)<|Oq) (NI (OY r.1 (ev 7) (O7<|NH (ev 6)<|NH (ev 2)<|NH (ev 3) NL)<|N7 (G.VY Y) r.1<|NH (QJ r.1 (ev 7) (O7<|NH (ev 6)<|NH (ev 2)<|NH (ev 3) NL)<|OO)<|NH (ev 4) NL) (NK<|aJ)))<|N9))))) ?_
 rintro F W S Q⟨i,A,w,T,z,E,X,B,c,rfl,rfl,s,k,D,P,I,O,m,n,u3,g⟩;symm;refine#[Sd s .top,.mk i A w T Y s D O ?_];symm;refine#[Sd s .top,.mk i A w Y s ?_];refine#[O9 M5,?_];refine .mk w.Hs (T.key%110) Y Y P (BN _ M5) (BJ _ M5) ?_;refine#[_,.inl Y,.inl Y,Lp.mk (λj b C=>∃u v,b=[U<|.f<|.ref<|A .top,U<|.f<|.ref<|B .top,U<|.f<|.str z,U<|.f<|.int T.key,U<|OK E,U<|.l<|T.sh.map λe=>.f<|.str e.1,u,v]/\C=S/\∀z∈(RE w.Hs<|T.key%110).take j,cR c T z=An) #[Ah,Ah,Y,Y,nofun] (λ_ _ _ _=>.inl Y) ?_ ?_]
 ·rintro j x b C a ⟨u,v,rfl,rfl,o⟩;rw[Aj]at a;let(y,j0,rfl):=AF.mp a;have K:cR c T y=An->∀x∈(RE w.Hs<|T.key%110).take (j+1),cR c T x=An:=λh x a=>by
   rw[take_snoc j0]at a;rcases Bd.mp a with a|a
   ·exact o x a
   ·cases As.mp a;exact h
  refine AiX (T.sh.map (·.1)) (.inl Y) (by rw[AO];rfl) ?_;rw[AG Y];by_cases q:y∈T.sh.map (·.1)
  ·refine Oa (by rw[Ap q];rfl) #[_,_,Y,Y,K ?_];unfold cR;rw[Ap q];rfl
  ·refine Ol (by rw[Ar q];rfl) ?_;refine zG (k.io .top)<|Se #[_,Y,?_];refine AiX c.away (.inl Y) Y ?_;rw[AG Y];by_cases p:y∈c.away
   ·refine Oa (by rw[Ap p];rfl) #[_,_,Y,Y,K ?_];unfold cR;rw[Ap p,JP,DY]
   ·refine Ol (by rw[Ar p];rfl) ?_;refine zG (k.io .top)<|Se #[_,Y,?_];symm;refine#[.inr #[_,k.io .Qb],Y,O3 ?_];refine Anc (e:=(y,z,T.key)) k ?_;refine .mk _ E Y Y (AS (n _).len (AS I M5)) (AS m.len<|AS I M5) (n _).1 m.1 ?_;refine#[Y,?_];refine Ang (e:=(y,z,T.key)) k (E4 u3 M5) λV t L=>?_
    have R:(RE w.Hs<|T.key%110).find? (cR c T)=U y:=findAt o j0 (by unfold cR;rw[Ar q,Ar p];rfl);unfold Abj at g;rw[R]at g;exact g V t L
 ·rintro b C⟨u,v,rfl,rfl,o⟩;rw[Ac,BA]at o;unfold Abj at g;rw[Ck.mpr λx a z=>by rw[o x a]at z;cases z]at g;exact g _ k V3.refl
def YJ(G:Gd 84 M Z):hF M Z 9 "_law_brought" Ue:=by
 refine fG (N:=["_law_world","_law_model","_law_at","_law_row","_law_house","_law_key","_law_shelves"]) 3 7 G.T.d G.T.a_law_brought (λφ H r=>NI (Oh r.2 3<|xB F.plainAttrs_list F.slot_list_pop F.type_list_pop uP (Oc r.1 (ev 1)<|Oq)<|NH (ev 2) NL) (NI (N6<|N2 (G.Vs Y) r.1 (ev 0)<|NH (Pk Pc (ev 3)<|NT) NL) (NI (O5 (Ot oK (Pk Pc (ev 3)<|NT)<|Oq) (NK<|aJ)<|N9) (NI (Oh r.2 4<|Pk Pc (ev 3)<|NT) (NI (Oh r.2 5<|Pk Pc (ev 3)<|NT) (NI (O5 (Ot oM (ev 4)<|Oc r.1 (ev 1)<|Oq) (NI (N6<|N7 (G.bN Y) r.1<|NH (ev 0)<|NH (ev 1)<|NH (ev 4)<|NH (ev 5)<|NH (Pk Pc (ev 3)<|NT) NL) (NK<|aJ))<|N9) (NI (Oh r.2 6<|Oc r.1 (ev 1)<|Oq) (NI (OY r.1 (ev 6) (O7<|NH (ev 4)<|NH (ev 5) NL)<|N7 (G.VY Y) r.1<|NH (QJ r.1 (ev 6) (O7<|NH (ev 4)<|NH (ev 5) NL)<|OO)<|NH (Pk Pc (ev 3)<|NT) NL) (NK<|O5 (Ot oK (Pk Pc (ev 3)<|NT)<|Oq) (NK<|N6<|N7 (G.SY Y) r.1<|NH (ev 1)<|NH (Oq)<|NH (Pk Pc (ev 3)<|NT)<|NH (ev 4)<|NH (ev 5)<|NH (OO) NL)<|N9))))))))) ?_
 rintro F ds S Q⟨i,A,w,j,L,O,s,B,ON,aw,rfl,rfl,wd,X,b,K,j0⟩;symm;have C:=AH K;have aa:=b.Adw;have l1:=b.l1;have l4:=b.l4;refine zG (X.io .top)<|Se #[_,Y,?_];refine#[.inl #[Y,_,X.io .rows],?_];refine AnI (M:=PN w ON aw) X K (by show w.Ls.length<_;omega) λS1 m f1=>?_
 have y:=wd.fo f1;have x:∀{z},z∈aw↔z∈w.away:=b.ap.mem_iff;have m:P6 B (PN (Pg w L.num) ON aw) S1:=by unfold PN;rw[bG b.Sr K];exact m
 symm;refine#[Sd y .top,?_];refine#[_,_,_,Y,Y,Y,?_];refine .mk i A w L O Y Y y b.toYs C M6 M6 ?_;rcases b.lt L C with⟨a,T,t,p,E⟩|a
 ·refine .inl #[a,T,t,p,λS2 c P=>?_];have f:=m.fr P;symm;refine#[_,_,_,Y,Y,Y,Y,?_];refine Oa ?_ ?_
  ·rcases a with h|h<;>rw[h]<;>decide +kernel
  have o:=b.sl L C;refine#[_,_,_,Y,Y,Y,?_];symm;refine#[_,_,_,Y,Y,Y,?_];symm;refine zG (f.io .top)<|Se #[_,Y,?_];refine AiX aw (.inl Y) Y ?_;rw[Ay AQ];by_cases u:L.PJ∈w.away
  ·have y0:mE (Pg w L.num) T L=cX (Pg w L.num) T L:=by
    unfold mE;rw[AG E,AG (show L.PJ∈(Pg w L.num).away from u)]
   rw[y0]at c;have I:=Ahp (w:=Pg w L.num) (T:=T) (L:=L);refine Ol (Ap<|x.mpr u) ?_;refine#[_,_,_,Y,Y,Y,?_];refine .mk i A _ T L.PJ L.Ym O B _ (by rw[p]) Y c f (by rw[I.1];exact b.tok) (by rw[I.2];exact b.N5) b.q9 (by rw[I.1];exact t) o b.toYs.Ag1 (by show w.hints.length<_;omega) λR g W=>?_
   rw[I.2,show(Pg w L.num).Hs=w.Hs from Y]at g;have q:=Aek (w:=Pg w L.num) (T:=T) (L:=L) (ON:=ON) (aw:=aw) (λz=>b.ap.mem_iff) p;rw[show(Pg w L.num).Hs=w.Hs from Y]at q;rw[q]at g;have k:=AiG.st (w:=w) (ON:=ON) T a t p E;rw[AG u,y0]at k;exact j0 _ _ R k (c.fo W) g
  ·refine Oa (Ar λz=>u<|x.mp z) ?_;have v:OW O (PY ON L.PJ T.key):=by rw[<-b.ss T t];exact b.toYs.Afy t L.PJ
   symm;refine zG (F:=[]) (f.io .top)<|Se #[_,Y,?_];symm;refine#[.inr #[_,f.io .Rb],Y,O3 ?_];rw[p];refine Ak6 (z:=L.PJ) (n:=T.key) f ?_;refine#[_,_,_,Y,Y,Y,?_];refine .mk _ L.Ym Y Y (b.toYs.jW v) (b.toYs.jW o) v.1 o.1 ?_;refine#[Y,?_];refine Anh (e:=(L.PJ,T.key)) f (by show ON.length<_;have:=b.l6;omega) λR g W=>?_
   have k:=AiG.st (w:=w) (ON:=ON) T a t p E;rw[Ay u]at k;unfold mE at k c;rw[AG E,Ay (show¬ L.PJ∈(Pg w L.num).away from u)]at k c;have l:=c.fo W;symm;refine#[_,_,_,Y,Y,Y,Y,?_];by_cases D:L.Pd="put"
   ·rw[AG D]at k l;refine Ol (Ap<|congrArg V.str D) ?_;refine#[_,_,_,Y,Y,Y,O3 ?_];refine .mk B _ "ack" L.ask L.PJ T.key [] Y g (by show(w.Ls.filter _).length<_;exact BI (BB ..) M6) λS4 u3 f4=>?_
    rw[p]at k l;exact j0 _ _ S4 k (l.fo f4) u3
   ·rw[Ay D]at k l;refine Oa (Ar λz=>D<|by injection z) ?_;exact j0 _ _ R k l g
 ·let(n,eA,hn):=b.la L C (.inr a);have hB:=Ae hn;have mB:=b.mw _<|Cy hn;refine .inr #[a,n,w.Ms[n],eA,hB,mB.1,M6,λS2 c P=>?_];have f:=m.fr P;symm;refine#[_,_,_,Y,Y,Y,Y,?_];refine Ol (by rw[a];decide +kernel) ?_;refine j0 _ ON S2 (.Anl n w.Ms[n] a hB) c ?_;have q:({Pg w L.num with Ms:=w.Ms.set n (Rq w.Ms[n] L.PJ L.Ym).1}:PR).Ms.length=w.Ms.length:=CM ..;unfold PN;rw[q];exact f
def ZL(G:Gd 85 M Z):hF M Z 6 "_law_turned" Vl:=by
 refine fG (N:=["_law_world","_law_model","_law_house","_law_rises","_law_notes","_law_keeper","_law_name","_law_key"]) 4 8 G.T.d G.T.a_law_turned (λφ H r=>NK (O5 (Qq<|ev 3) (NI (N6<|N2 (G.W4 Y) r.1 (ev 0)<|NH (ev 2) NL) (NI (OY r.1 (ev 1) (Oq)<|mO (Nc:=["_law_name","_law_house"]) (src:=[Ah,U 2]) Y (Oc r.1 (ev 1)<|Oq) Y M4 (PD (sc0:=NM WH) Y M4) M4 (OS<|OQ Y (BK Y) Y<|OE) (λ_ _ _=>O2 (i:=0) (show(["_law_name","_law_house"]:Lw).Nodup by decide +kernel) Y<|BK Y) (λ_ _ _=>Ac7<|Ot AhA (ev 0)<|ev 1) (λ_ _ _=>ev 0))
   (NI (Oh r.2 4<|Oc r.1 (ev 1)<|Oq) (NK<|SU (Ox (SM Y) M7 G.T.b_sorted Boot.b_sorted<|NH (ev 4) NL) (eZ (n:=3) Y<|Pm (OC r.2 5)<|Pm (OC r.2 6)<|Pm (OC r.2 7)<|Xm)<|NK<|O5 (PW.lV<|w_and (Ot QN (ev 5)<|Oc r.1 (ev 1)<|Oq)<|RB<|Ot QN (ev 6)<|Oc r.1 (ev 1)<|Oq) (NK<|N6<|N7 (G.SY Y) r.1<|NH (ev 1)<|NH (Oq)<|NH (U3)<|NH (ev 6)<|NH (ev 7)<|NH (uF r.1 (ev 4)<|O7<|NH (ev 5)<|NH (ev 6)<|NH (ev 7) NL) NL)<|N9)))) (NI (N6<|N2 (G.WY Y) r.1 (ev 0)<|NH (ev 2) NL) (NK<|O5 (Ot QN (ev 2)<|Oc r.1 (ev 1)<|Oq) (NK<|OY r.1 (ev 1) (Oq)<|Ox wO M7 G.T.b_sorted Boot.b_sorted<|NH (OL Akf (Oc r.1 (ev 1)<|Oq)<|U2<|NH (ev 2) NL) NL)<|N9)))) ?_
 rintro F ds S Q⟨i,A,w,z,b,qs,s,B,ON,aw,rfl,rfl,wd,lr,C,R,hz,hm,kR,K⟩;symm;have ad:=C.Adw;have l1:=C.l1;have l4:=C.l4;have l5:=C.l5;have j0:∀{z},z∈aw↔z∈w.away:=C.ap.mem_iff;have lw:w.away.length=aw.length:=C.ap.length_eq.symm;cases b with
 |true=>
   refine#[Sd wd .top,.mk i A w z qs Y Y wd C.toYs R hz hm M6 M6 λS1 u f1=>?_];have t:=lr.fr f1;symm;refine zG (t.io .top)<|Se #[_,Y,?_];refine#[_,.inl Y,.inl Y,λp u3 nF=>?_];refine Ani aw (λy=>.f<|.str y) (λy=>.f<|.str y) (λy=>decide<|y≠z) (λys=>.inl Y) M6 (λy W ys Bq k=>?_) (λy W hb ys Q' k=>k)<|iY NO ?_
   ·refine#[Y,?_];have e:(!decide (V.str y=V.str z))=decide (y≠z):=by by_cases h:y=z<;>simp[h]
    show Bq (!decide (V.str y=V.str z)) _;rw[e];exact k
   rw[RV u3];refine Ak7 t λS2 v f2=>?_
   have P:=u.fo f2;symm;refine zG (v.io .top)<|Se #[_,Y,?_];symm;have hd:∀e,QV (aw.filter λy=>decide<|y≠z) e=QV (w.away.filter λy=>decide<|y≠z) e:=λe=>by
    unfold QV;rw[show decide (e.1.1∈aw.filter λy=>decide<|y≠z)=decide (e.1.1∈w.away.filter λy=>decide<|y≠z)from D3.mpr (by simp only[Bl,j0]),show decide (e.1.2.1∈aw.filter λy=>decide<|y≠z)=decide (e.1.2.1∈w.away.filter λy=>decide<|y≠z)from D3.mpr (by simp only[Bl,j0])]
   have io:QH S2 (.f<|.ref<|B .Qb) (.m<|w.hints.map λe=>(OM e.1,OK e.2)):=v.io .Qb;have ek:(w.hints.map λe=>(OM e.1,OK e.2)).map (·.1)=w.hints.map λe=>OM e.1:=by rw[AO];rfl
   have kR:=kR Y;unfold sI at kR P;generalize ew1:({w with away:=w.away.filter λy=>decide (y≠z)}:PR)=E at *;have L:E.hints=w.hints:=by rw[<-ew1]
   have aa:E.away=w.away.filter λy=>decide (y≠z):=by rw[<-ew1]
   have v:P6 B {PN E ON (aw.filter λy=>decide<|y≠z)with U5:=w.hints} S2:=by rw[<-ew1];exact v
   have lL:E.Ls.length=w.Ls.length:=by rw[<-ew1]
   generalize eaw:(aw.filter λy=>decide<|y≠z)=g at *;rw[<-aa]at hd;refine#[_,io,by rw[ek];exact Y6 _,by rw[Ac];omega,O3 ?_];rw[ek,UQ];refine#[_,.inl Y,.inl Y,Lp.mk (λj O X=>∃a b c,O=[U<|.f<|.ref<|A .top,U<|.f<|.ref<|B .top,U<|.f<|.str z,U<|.f<|.bl Af,U<|.f<|.ref<|B .Qb,a,b,c]/\P6 B {PN (Tv E<|((Pt w.hints).take j).filter (QV g)) ON g with U5:=Wy w.hints (((Pt w.hints).take j).filter (QV g))} X/\Ob Z.w i A (Tv (iO E)<|Q8 E) X) #[Ah,Ah,Ah,Y,v,P] (λ_ _ _ _=>.inl Y) ?_ ?_]
   ·rintro j x O X hx ⟨a,b,c,rfl,o,I⟩;rw[Aj,Aj]at hx;let(y,W,rfl):=AF.mp hx;let(e,he,rfl):=AF.mp W;have te:=take_snoc he;have pn:QV g e=An->((Pt w.hints).take (j+1)).filter (QV g)=((Pt w.hints).take j).filter (QV g):=λh=>by
     rw[te,CF,DH (by rw[h];exact AQ),Gu,B7]
    have pp:QV g e=Af->((Pt w.hints).take (j+1)).filter (QV g)=((Pt w.hints).take j).filter (QV g)++[e]:=λh=>by
     rw[te,CF,CV h,Gu]
    refine#[_,Y,Y,?_];symm;refine zG (o.io .top)<|Se #[_,Y,?_];refine AiX g (.inl Y) Y ?_;rw[AG Y];by_cases h1:e.1.1∈g
    ·refine Oa (by rw[Ap h1];rfl) #[_,_,_,Y,?_,I];rw[pn (by unfold QV;rw[Ap h1];rfl)];exact o
    ·refine Ol (by rw[Ar h1];rfl) ?_;refine zG (o.io .top)<|Se #[_,Y,?_];refine AiX g (.inl Y) Y ?_;rw[AG Y];by_cases y0:e.1.2.1∈g
     ·refine Oa (by rw[Ap y0];rfl) #[_,_,_,Y,?_,I];rw[pn (by unfold QV;rw[Ap y0,JP,DY])];exact o
     ·refine Ol (by rw[Ar y0];rfl) ?_;have u3:=pp (by unfold QV;rw[Ar h1,Ar y0];rfl);have U5:e∈Wy w.hints (((Pt w.hints).take j).filter (QV g)):=by
       rw[Zd];refine Bl.mpr #[QQ<|AH he,?_];cases q:((((Pt w.hints).take j).filter (QV g)).any λx=>decide<|OM e.1=OM x.1)with
       |false=>rfl
       |true=>let(y,W,ey):=B0.mp q;exact absurd (B2 ey).symm (Ain (w:=w) C.nh he (Bl.mp W).1)
      refine#[.inr #[_,o.io .Qb],Y,?_];refine AoH (e:=e) o (Acl C.nh _) U5 λS3 ac f3=>?_
      refine .mk B _ "hint" Ah e.1.2.1 e.1.2.2 e.2 Y ac ?_ λS4 ab f4=>#[_,_,_,Y,?_,(I.fo f3).fo f4]
      ·show(Tv _ _).Ls.length<_;rw[nG];have:=BB (QV g)<|(Pt w.hints).take j;rw[Bt,(OZ w.hints).length_eq]at this;omega
      ·rw[u3,fJ,gE];exact ab
   ·rintro O X⟨a,b,c,rfl,o,I⟩;rw[Ac,Ac,BA]at o;have e1:(Pt w.hints).filter (QV g)=Q8 E:=by
     unfold Q8;rw[L];exact EA λe _=>hd e
    have e2:Wy w.hints (Q8 E)=(iO E).hints:=by rw[<-L];exact vA E (by rw[L];exact C.nh)
    rw[e1,e2]at o;refine kR X I ?_;unfold iO;rw[AgZ];exact o
 |false=>
   refine#[Sd wd .top,.mk i A w z Y Y wd C.N5 R hz hm M6 λS1 u f1=>?_];have t:=lr.fr f1;symm;refine zG (t.io .top)<|Se #[_,Y,?_];refine AiX aw (.inl Y) Y ?_;rw[AG Y];have K:=K Y;unfold iX at K u;by_cases ha:z∈w.away
   ·rw[AG ha]at K u;refine Oa (by rw[Ap<|j0.mpr ha];rfl) ?_;exact K aw S1 C.ap C.so u t
   ·rw[Ay ha]at K u;refine Ol (by rw[Ar λz=>ha<|j0.mp z];rfl) ?_;refine zG (t.io .top)<|Se #[_,Y,?_];refine#[Y,O3 ?_];refine#[_,_,.inl Y,.inl Y,by rw[Ac];show aw.length+1<_;omega,O3 ?_];refine#[aw++[z],.inl (by show D.l _=D.l _;rw[Bi];rfl),by rw[AM];show aw.length+1<_;omega,λms u3 hs=>O3 ?_];refine Ak7 (aw:=ms) t λS2 v f2=>?_
    exact K ms S2 (u3.trans<|C.ap.append_right [z]) (aQ ms hs) (u.fo f2) v
def jJ(G:Gd 86 M Z):hF M Z 10 "_law_step" Yj:=by
 refine fG (N:=["_law_world","_law_model","_law_number","_law_askers","_law_keys","_law_way","_law_rows","_law_houses_here"]) 5 8 G.T.d G.T.a_law_step (λφ H r=>NI (Oh r.2 5<|OL Qc (ev 2)<|NT) (NI (Oh r.2 2<|OL rT (ev 2)<|NT) (NI (Oh r.2 6<|Oc r.1 (ev 1)<|Oq) (NI (Oh r.2 7<|Ox (Xh Y) M7 G.T.b_sorted Boot.b_sorted<|NH (Pl (G.Qt Y) r.1<|ev 0) NL) (NI (O5 (Ot rU (ev 5)<|NT) (NK<|N4<|N7 (G.Yr Y) r.1<|NH (ev 0)<|NH (ev 1)<|NH (Pk QE (ev 3)<|OL Qc (ev 2)<|NT)<|NH (Pk QE (ev 4)<|OL Qc (OL rT (ev 2)<|NT)<|Ox Pr M7 G.T.b_len Boot.b_len<|NH (ev 4) NL) NL)<|N9) (NI (O5 (PW.lV<|w_and (Ot rU (ev 5)<|NT)<|RB<|Ot yG (Ox Pr M7 G.T.b_len Boot.b_len<|NH (ev 6) NL)<|NT) (NK<|N6<|N7 (G.Vv Y) r.1<|NH (ev 0)<|NH (ev 1)<|NH (OL QM (NT)<|OL Qc (ev 2)<|OL AbS (Ox Pr M7 G.T.b_len Boot.b_len<|NH (ev 6) NL)<|NT) NL)<|NK<|O5 (PW.lV<|w_and (Ot oK (ev 5)<|NT)<|RB<|Ot yG (Ox Pr M7 G.T.b_len Boot.b_len<|NH (ev 6) NL)<|NT) (NK<|N6<|N2 (G.WZ Y) r.1 (ev 0)<|NH (Pk Pc (xB F.plainAttrs_list F.slot_list_pop F.type_list_pop uP (ev 6)<|NH (OL QM (NT)<|OL Qc (ev 2)<|OL AbS (Ox Pr M7 G.T.b_len Boot.b_len<|NH (ev 6) NL)<|NT) NL)<|NT) NL)<|NK<|O5 (PW.lV<|w_and (Ot yG (ev 5)<|NT)<|RB<|Ot (AbR r.1) (ev 7)<|U2<|NL) (NK<|N6<|N7 (G.Xb Y) r.1<|NH (ev 0)<|NH (ev 1)<|NH (Pk QE (ev 7)<|OL Qc (OL rT (ev 2)<|NT)<|Ox Pr M7 G.T.b_len Boot.b_len<|NH (ev 7) NL)<|NH (AaJ rU (OL Qc (ev 2)<|NT)<|NT) NL)<|N9) (NK<|N4<|Yu))))))) ?_
 rintro F ds S Q⟨i,A,w,n,W,s,B,k,l,q0,q1,rfl,rfl,eq,q,o,a,h,R,hq,hh,ad,I⟩;symm;refine#[O9 M5,?_];symm;refine#[#[M5,M5],?_];symm;refine zG (o.io .top)<|Se #[_,Y,?_];symm;refine#[Sd q .top,.mk i A w Y q ?_];refine#[_,w.Hs.map (·.1),.inl Y,by rw[AO,AO];rfl,by rw[Ac];exact ad,λX hp hs=>O3 ?_];symm;generalize n / 12=x;have af:=a.Adw;have l1:=a.l1;have l2:=a.l2;have l3:=a.l3;by_cases h1:n%12<2
 ·refine Ol (Ap h1) ?_;let(j,y,j0,hj,hy):=Zo (xs:=[q0,q1]) nofun x;refine#[O9 M5,?_];refine#[_,_,.f<|.str y,.inl Y,Y,?_,?_]
  ·show Y1 ([q0,q1].map λz=>D.f<|.str z) (x%(2:Nat))=_;rw[show x%((2:Nat):Int)=((j:Nat):Int)from j0];exact QI (by rw[Aj,hj];rfl)
  have t:y∈W:=by rw[eq];exact AH hj
  refine#[#[M5,M5],?_];refine#[_,.inl<|.inl Y,?_];let(m,T,E,P,hT):=Zo R<|x / 2;have lT:0<w.Ts.length:=BV.mpr R;refine#[by rw[Ac];omega,?_];refine#[_,_,.f<|.int T.key,.inl Y,Y,?_,?_]
  ·rw[Ac,E];exact QI (by rw[Aj,P];rfl)
  have mT:=AH P;refine .mk i A w T y W B k l Y Y q o a.toYs mT (hq y t).1 (hq y t).2 M6 M6 M6 (a.s5 T mT) λA' v ea c b=>?_
  exact Oi<|I A' _ k l v ea c b (a.AoE mT t h) Y Y
 ·refine Oa (Ar h1) ?_;have u:Q (.f<|.bl Af) S:=I A w k l S Y q o (a.up h) Y Y;have g:(((D.f (.int w.OF)::w.Ls.map qE).length:Nat):Int)-1=w.Ls.length:=by rw[AI,Ac];omega
  have E:w.Ls=[]->decide ((1:Int)<(((D.f (.int w.OF)::w.Ls.map qE).length:Nat):Int))=An:=λe=>by rw[e];rfl
  have K:w.Ls≠[]->decide ((1:Int)<(((D.f (.int w.OF)::w.Ls.map qE).length:Nat):Int))=Af:=λe=>by
   have:=BV.mpr e;exact Ap M6
  by_cases h2:n%12<9
  ·refine (show QT (decide<|n%12<9) _ _ from Ol (Ap h2) ?_);refine#[_,.inl<|o.io .rows,?_];by_cases p:w.Ls=[]
   ·refine(show QT _ _ _ from Oa (E p) ?_);refine#[Y,?_];refine(show QT _ _ _ from Oa (Ar λz=>by injection z with z;omega) ?_);refine(show QT (decide<|9<n%12) _ _ from Oa (Ar M6) ?_);exact Oi u
   ·refine (show QT _ _ _ from Ol (K p) ?_);refine#[_,.inl<|o.io .rows,?_];have y0:=BV.mpr p;refine#[by show(0:Int)<_-1;rw[show((((D.f (.int (PN w k l).OF)::(PN w k l).Ls.map qE).length:Nat):Int)-1)=w.Ls.length from g];omega,?_];let(j,L,j0,C,_):=Zo p x;refine .mk i A w j L W s B k l ?_ Y q o a C λw' O v br c b=>?_
    ·rw[<-j0,<-g];rfl
    ·let(o1,o2,o3):=a.AnW (AH C) br h;exact Oi<|I A w' O l v Y c b o1 o2 o3
  ·refine (show QT (decide<|n%12<9) _ _ from Oa (Ar h2) ?_);refine#[Y,?_];by_cases h4:n%12=9
   ·refine (show QT _ _ _ from Ol (Ap<|congrArg V.int h4) ?_);refine#[_,.inl<|o.io .rows,?_];by_cases p:w.Ls=[]
    ·refine(show QT _ _ _ from Oa (E p) ?_);refine(show QT (decide<|9<n%12) _ _ from Oa (Ar M6) ?_);exact Oi u
    ·refine(show QT _ _ _ from Ol (K p) ?_);refine#[Sd q .top,?_];refine#[.inl #[Y,_,o.io .rows],?_];refine#[_,.inl<|o.io .rows,?_];have y0:=BV.mpr p;refine#[by show(0:Int)<_-1;rw[show((((D.f (.int (PN w k l).OF)::(PN w k l).Ls.map qE).length:Nat):Int)-1)=w.Ls.length from g];omega,?_];let(j,L,j0,C,_):=Zo p x;refine AoG (M:=PN w k l) (j:=j) ?_ o C (by show w.Ls.length<_;omega) λS1 ac f1=>?_
     ·rw[<-j0,<-g];rfl
     refine#[_,_,_,Y,Y,Y,?_];refine .mk i A w L Y (q.fo f1) a.Sr (AH C) nofun λS2 ab f2=>?_
     have ae:=ac.fr f2;refine Oi<|I A _ k l S2 Y ab ?_ ((a.Aj6 L.num).up h) Y Y;unfold PN;rw[bG a.Sr C];exact ae
   ·refine (show QT _ _ _ from Oa (Ar λz=>h4<|by injection z) ?_);refine(show QT (decide<|9<n%12) _ _ from Ol (Ap M6) ?_);refine#[Y,O3 ?_];refine#[_,.inl Y,.inl Y,?_];rw[AG Y];by_cases u3:X=[]
    ·refine(show QT _ _ _ from Oa (by rw[u3];rfl) ?_);exact Oi u
    ·refine (show QT _ _ _ from Ol (by cases X with|nil=>exact(u3 Y).elim|cons _ _=>rfl) ?_);refine#[#[M5,M5],?_];refine#[_,.inl<|.inl Y,?_];have lT:0<X.length:=BV.mpr u3;refine#[by rw[Ac];omega,?_];let(m,y,E,P,hy):=Zo u3<|x / 5;refine#[_,_,.f<|.str y,.inl Y,Y,?_,?_]
     ·rw[Ac,E];exact QI (by rw[Aj,P];rfl)
     have t:=hp.mem_iff.mp<|AH P;refine#[O9 M5,?_];refine .mk i A w y _ W s B k l Y Y q o a (hh y t).1 (hh y t).2 t (λ_ v c b=>?_) (λ_ aa v p' s' c b=>?_)
     ·let(o1,o2,o3):=a.Aow (z:=y) h;exact Oi<|I A _ k _ v Y c b o1 o2 (by rw[o3])
     ·exact Oi (I A _ k aa v Y c b (a.An5 p' s' h) Y Y)
def We(G:Gd 87 M Z):hM M Z 1 Z.w.H "shown" Sx:=by
 refine Sg (N:=["self"]) 1 1 G.T.a_Hints_shown G.T.cl_Hints (λφ H r=>NK<|N4<|mO (Nc:=["place","self"]) (src:=[Ah,U 0]) Y (Ox (SM Y) M7 G.T.b_sorted Boot.b_sorted<|NH (NS<|ev 0) NL) Y M4 (PD (sc0:=NM R0) Y M4) M4 (OS<|OQ Y (BK Y) Y<|OE) (λ_ _ _=>O2 (i:=0) (show(["place","self"]:Lw).Nodup by decide +kernel) Y<|BK Y) (λ_ _ _=>XQ) (λ_ _ _=>OL AbQ (ev 0)<|O7<|NH (O1 P9 M7 G.T.b_dict Boot.b_dict<|NH (Oc r.1 (NS<|ev 1)<|ev 0) NL) NL)) ?_;rintro F P S Q⟨i,A,w,rfl,s,u,B,D,j0⟩;symm;refine QZ s .left ?_;have v:(w.hints.map λe=>(OM e.1,OK e.2)).map (·.1)=w.hints.map λe=>OM e.1:=by rw[AO];rfl
 refine#[_,V2 s .kept,by rw[v];exact Y6 _,by rw[Ac];exact B,O3 ?_];rw[v,UQ];have sl:(Pt w.hints).length<64:=by rw[(OZ w.hints).length_eq];exact B
 refine#[_,.inl Y,.inl Y,λp o z=>?_];refine AfJ.mk (AnR S F p<|Pt w.hints) #[Y,Y] (λ_ _ _ _=>.inl Y) ?_ ?_
 ·rintro j x K I C f;rw[Aj,Aj]at C;let(y,E,rfl):=AF.mp C;let(e,g,rfl):=AF.mp E;refine(show QT Af _ _ from Ol Y ?_);cases j with
  |zero=>
    let(rfl,rfl):=f;have c:=s.lE (x:=(.own 0,.l [])) o;refine QZ c .left ?_;refine .inr #[_,OM e.1,_,V2 c .kept,Y,SJ u<|QQ<|AH g,?_];refine#[_,.inl Y,Sl (.own 0) λa h m=>?_];let(b,h):=Ov h;refine#[Y,?_];refine#[_,_,Y,Y,nofun,nofun,Y,?_];refine#[.own 0,(NJ<|Ax b).trans NO,M5,?_];obtain⟨r,k⟩:∃r,Pt w.hints=e::r:=by
     cases q:Pt w.hints with
     |nil=>rw[q]at g;cases g
     |cons O r=>rw[q]at g;cases g;exact#[r,Y]
    refine#[e,r,a,k,h,m,b,Y,?_];rw[Qe<|Ax b,vK b]
  |succ j=>
    let(n,r,a,k,h,m,b,rfl,rfl):=f;have c:=(s.lE (x:=(.own 0,.l (rB n a::(r.take j).map UW))) o).lE (a:=a) (x:=(.own 0,.d<|Pp n.2)) ((NJ b).trans h);refine QZ c .left ?_;refine .inr #[_,OM e.1,_,V2 c .kept,Y,SJ u<|QQ<|AH g,?_];refine#[_,.inl Y,O3 ?_];refine#[Y,?_];refine#[_,_,Y,Y,nofun,nofun,Y,?_];refine#[.own 0,(NJ<|Ax b).trans NO,?_,?_]
    ·rw[k]at sl;rw[AI]at sl ⊢;rw[Ac,Bt];omega
    have t:r[j]?=U e:=by rw[k,EK]at g;exact g
    refine#[n,r,a,k,h,m,b,?_,?_]
    ·rw[take_snoc t,Bi];rfl
    ·rw[Qe<|Ax b,vK b]
 ·rintro K I f;rw[Ac,Ac]at f;cases q:Pt w.hints with
  |nil=>rw[q]at f;let(rfl,rfl):=f;exact Oi<|Oi<|D (by have:=OZ w.hints;rw[q]at this;exact this.symm.eq_nil) p o z
  |cons e r=>rw[q]at f;let(n,L,a,k,h,m,b,rfl,rfl):=f;cases k;rw[BA];exact Oi (Oi<|j0 e r q p a o z h m b)
def Wi(G:Gd 88 M Z):hM M Z 2 Z.w.W "hints" SD:=by refine Sg (N:=["self"]) 1 1 G.T.a_World_hints G.T.cl_World (λφ H r=>NK<|N4<|Pl (G.Tj Y) r.1<|NS<|ev 0) ?_;rintro F o S Q⟨i,A,w,rfl,c,f,g,d⟩;symm;refine QZ c .top ?_;refine#[Sd c .left,.mk i A w Y c f g (λh p a b=>Oi<|d p [] _ ?_) λe r q p a j m l n k=>Oi<|d p _ _ (by rw[q];exact Agz.cons j l k)];have:=OZ w.hints;rw[h]at this;rw[h,this.eq_nil];exact Agz.nil a
def Xu(G:Gd 89 M Z):hM M Z 1 Z.w.W "away" QX:=by refine Sg (N:=["self"]) 1 1 G.T.a_World_away G.T.cl_World (λφ H r=>NK<|N4<|Ox (Xh Y) M7 G.T.b_sorted Boot.b_sorted<|NH (NS<|ev 0) NL) ?_;rintro F k S Q⟨i,A,w,rfl,b,f,e⟩;symm;refine QZ b .top ?_;exact#[_,w.away,V2 b .RC,by unfold PM;rw[AO];rfl,f,λc d h=>Sl (.own 0) λa g j=>Oi<|e c d h a g j]
def cP(G:Gd 90 M Z):hF M Z 4 "_law_right" WQ:=by
 refine fG (N:=["_law_world","_law_model","_law_found","_law_due"]) 2 4 G.T.d G.T.a_law_right (λφ H r=>NI (Oh r.2 2<|Pl (G.Tp Y) r.1<|ev 0) (NI (vI (i₀:=3) r.2 Y (BK Y) (Nc:=["_law_row","_law_model"]) (src:=[Ah,U 1]) Y (Ox (SM Y) M7 G.T.b_sorted Boot.b_sorted<|NH (Oc r.1 (ev 1)<|Oq) NL) Y M4 (PD (sc0:=NM TY) Y M4) M4 (OS<|OQ Y (BK Y) Y<|OE) (λ_ _ _=>O2 (i:=0) (show(["_law_row","_law_model"]:Lw).Nodup by decide +kernel) Y<|BK Y) (λ_ _ _=>XQ) λ_ _ _=>O7<|NH (Pk Pc (ev 0)<|NT)<|NH (Pk Pc (ev 0)<|NT)<|NH (Pk Pc (ev 0)<|NT)<|NH (Oc r.1 (Oc r.1 (ev 1)<|Oq)<|ev 0) NL)
   (NI (O5 (PW.lV<|w_or (RP<|Qq<|Ox Ajc M7 G.T.b_isinstance Boot.b_isinstance<|NH (ev 2)<|NH (AgR (v:=.ty "list") M7 G.T.b_list Boot.b_list Y) NL)<|w_or (Ot (Akj r.1) (ev 2)<|ev 3)<|bR<|Ot (Aki r.1) (Pl (G.Ry Y) r.1<|ev 0)<|Oc r.1 (ev 1)<|Oq) (NK<|N4<|Yu)<|N9) (NI (O5 (PW.lV<|w_and (Ot (Akg r.1) (Oc r.1 (ev 1)<|Oq)<|U2<|NL)<|RB<|Ot (AbR r.1) (ev 2)<|U2<|NL) (NK<|N4<|Yu)<|N9) (NI (O5 (Ot (AbR r.1) (ev 2)<|U2<|NL) (NK<|N6<|AfU F.plainAttrs_dict F.slot_dict_clear F.type_dict_clear Abw<|Pk Pc (Pk QE (ev 2)<|NT)<|NT)<|N9) (NI (N6<|AfU F.plainAttrs_list F.slot_list_clear F.type_list_clear Aeu<|ev 2) (NI (N6<|xB F.plainAttrs_list F.slot_list_append F.type_list_append ZY (Pl (G.Ry Y) r.1<|ev 0)<|NH (Oq) NL) (NK<|N4<|AaJ (Akh r.1) (Pl (G.Tq Y) r.1<|ev 0)<|mO (Nc:=["_law_row"]) (src:=[Ah]) Y (Y4 Abb (Oc r.1 (ev 1)<|Oq) (lQ<|NT) lP) Y M4 (PD (sc0:=NM TY) Y M4) M4 (OS<|OE) (λ_ _ _=>O2 (i:=0) (show(["_law_row"]:Lw).Nodup by decide +kernel) Y<|BK Y) (λ_ _ _=>XQ) (λ_ _ _=>Y4 Af9 (ev 0) lP<|lQ<|NT))))))))) ?_
 rintro F ds S Q⟨i,A,w,qs,s,B,ON,aw,rfl,rfl,wd,lr,y,kQ⟩;symm;have au:=y.Adw;have l1:=y.l1;have l4:=y.l4;have l5:=y.l5;have lw:w.away.length=aw.length:=y.ap.length_eq.symm;refine#[Sd wd .top,.mk i A w Y wd y.nh M6 λp c K E=>?_];have y0:=wd.kp E.kp;have j0:=lr.kp E.kp;symm;refine zG (j0.io .top)<|Se #[_,Y,?_];have io:QH K (.f<|.ref<|B .Qb) (.m<|w.hints.map λe=>(OM e.1,OK e.2)):=j0.io .Qb;have ek:(w.hints.map λe=>(OM e.1,OK e.2)).map (·.1)=w.hints.map λe=>OM e.1:=by rw[AO];rfl
 refine#[_,io,by rw[ek];exact Y6 _,by rw[Ac];omega,O3 ?_];rw[ek,UQ];refine#[_,.inl Y,.inl Y,λq hq _=>?_];refine Adk (Pt w.hints) (λe=>dZ<|OM e.1) UW hq (λys=>.inl Y) (by rw[(OZ w.hints).length_eq];omega) (λe he ys Q' k=>?_) ?_
 ·have o:=j0.new (x:=(.own 0,.l ys)) hq;refine#[_,_,_,Y,Y,Y,?_];refine#[_,_,_,Y,Y,Y,?_];refine#[_,_,_,Y,Y,Y,?_];refine zG (o.io .top)<|Se #[_,Y,?_];refine .inr #[_,OM e.1,_,o.io .Qb,Y,SJ (hs:=w.hints) y.nh<|QQ he,?_];exact#[Y,k]
 symm;refine#[_,_,_,Y,E.at',?_];have an:∀e∈Pt w.hints,(e.2.map (·.1)).Nodup:=λe he=>(y.sh e<|QQ he).1
 refine#[c,_,Pt w.hints,.inr #[_,_,Y,E.at'],.inl Y,E.rd,vG _,an,?_];refine#[Sd y0 .top,.mk i A w Y y0 M6 λg hp hs b hb _=>?_];have em:g=aw:=zR (aQ g hs) y.so<|hp.trans y.ap.symm;subst em;have u3:=y0.lE (x:=(.own 0,U0 g)) hb;have o:=j0.new (x:=(.own 0,U0 g)) hb;have aj:p≠b:=λz=>by have:=E.at';rw[z,hb]at this;cases this
 have j:NP K b (.own 0,U0 g) p=U (.own 0,.l c):=(NJ aj).trans E.at';refine zG (o.io .top)<|Se #[_,Y,?_];have fl:((g.map V.str).all O6)=Af:=by rw[Dn];exact BL.mpr λ_ _=>rfl
 refine#[g.map V.str,by rw[AO];exact .inr #[_,_,Y,NO],by rw[AO];exact .inl Y,fl,?_];have xe:c.isEmpty=(Pt w.hints).isEmpty:=AhV E.rd;refine nJ ?_;refine Aau ?_;dsimp only[AaA,Adq,AgJ,Aje,dB,tW,V9,AeA,oQ,dC];refine zG (o.io .top)<|Se #[_,Y,?_];refine#[Y,O3 ?_];refine#[_,.inl Y,.inl Y,?_];rw[Ay AQ];have ae:g=[]->Pt w.hints=[]:=λh=>by
  have h0:w.away=[]:=by have:=y.ap;rw[h]at this;exact this.symm.eq_nil
  have h1:w.hints=[]:=by
   cases q:w.hints with
   |nil=>rfl
   |cons e r=>have:=(y.hi e (by rw[q];exact .head _)).2;rw[h0]at this;rcases this with z|z<;>cases z
  have:=OZ w.hints;rw[h1]at this;rw[h1,this.eq_nil]
 have n:∀S3 ys,S3 p=U (.own 0,.l ys)->Ob Z.w i A w S3->P6 B (PN w ON g) S3 ->
   (Adq (mJ<|Ajg "list" (λd ds F S Q=>ds=[]/\Aj9 d ds F S Q) (V9 2)) (Adq (mJ<|Ann "list" Aj8 (X1 Z.w.W (A1 "away") (QX Z) (V9 0) iK) (V8 (dC<|V.str<|A1 "") iK)) (Ajx (tW (AgL An) (X1 Z.w.W (A1 "letters") (QG Z) (V9 0) iK) (Alh [Ah] 0 (AlY (λd lo hi F S Q=>∃c,QH S d (O.l c)/\L2.aw F (O.l<|cA c lo hi) Q S) (tW AlO (V9 1)<|dC<|V.str<|A1 "rows") (λF ab S Q=>dC (V.int 1) F ab S λd K=>Abv d λi=>Q (U i) K) λx ac S Q=>Q Ah S) (λx ac S Q=>Q Af S) (AlY (λd lo hi F S Q=>∃c,d=D.t c/\¬(HT.Q9 c.length 0 lo=0/\HT.Q9 c.length c.length hi=c.length)/\Q (D.t<|cA c lo hi) S) (V9 0) (λx ac S Q=>Q Ah S) λF ab S Q=>dC (V.int 5) F ab S λd K=>Abv d λi=>Q (U i) K))))))
   [] (qT Q) [U<|D.f<|V.ref<|A WR.top,U<|D.f<|V.ref<|B LR.top,U<|D.f<|V.ref p,U<|D.l<|F0 UW<|Pt w.hints] S3:=λS3 ys h3 ak ao=>by
  refine#[.inl #[Y,_,.inr #[_,_,Y,h3]],Y,p,_,_,Y,h3,?_];have X:=ak.o0 (x:=(.own 0,.l [])) h3;have am:=ao.o0 (x:=(.own 0,.l [])) h3;refine#[Sd X .top,.mk i A w Y X M6 λC ah ar b' ad _=>?_];have ai:=X.lE (x:=(.own 0,U0 C)) ad;have af:=am.new (x:=(.own 0,U0 C)) ad;have lm:C.length=w.away.length:=ah.length_eq;refine#[.inl #[Y,_,.inr #[_,_,Y,NO]],b',_,_,_,Y,Y,NO,by rw[Ac];omega,?_];have R:=ai.o0 (x:=(.own 0,.l<|(C.map λz=>.f<|.str z)++[.f<|.str<|A1 ""])) NO;have aa:=af.o0 (x:=(.own 0,.l<|(C.map λz=>.f<|.str z)++[.f<|.str<|A1 ""])) NO;refine#[Sd R .top,.mk i A w Y R y.Sr M6 ?_];refine zG (aa.io .top)<|Se #[_,Y,?_];refine#[_,aa.io .rows,O3 ?_];rw[AdK];refine#[_,.inl Y,.inl Y,λq2 aq _=>?_];refine Adk w.Ls qE AiU aq (λys=>.inl Y) M6 (λL hL ys Q' k=>?_) ?_
  ·refine#[_,Y,(show¬ (HT.Q9 6 0 Ah=0/\HT.Q9 6 6 (U 5)=6) by decide),?_];exact k
  refine#[w.Ls.map Alq,by rw[<-vH];exact .inl Y,by rw[<-vH];exact .inl Y,λt ht=>?_,Oi<|kQ _ R aa];let(L,_,rfl):=AR.mp ht;exact Aib L
 cases u:Pt w.hints with
 |nil=>
   have x0:c.isEmpty=Af:=by rw[xe,u];rfl
   have nx:∀S3,S3=NP K b (.own 0,U0 g)->True:=λ_ _=>Bk
   rw[u]at n;by_cases hm:g=[]
   ·refine(show QT _ _ _ from Ol (by rw[show(PN w ON g).away=g from Y,hm];rfl) ?_);refine#[Y,O3 ?_];refine#[c,.inr #[_,_,Y,j],.inl Y,?_];rw[AG Y,x0];refine nJ ?_;refine Aau ?_;refine#[Y,O3 ?_];refine#[c,.inr #[_,_,Y,j],.inl Y,?_];rw[AG Y,x0];refine nJ ?_;refine Aau ?_;exact n _ c j u3 o
   ·refine(show QT _ _ _ from Oa (by cases q:g with|nil=>exact(hm q).elim|cons _ _=>rfl) ?_);refine#[Y,O3 ?_];refine#[c,.inr #[_,_,Y,j],.inl Y,?_];rw[AG Y,x0];refine nJ ?_;refine Aau ?_;exact n _ c j u3 o
 |cons e r=>
   have x0:c.isEmpty=An:=by rw[xe,u];rfl
   let(a,r',ex,P,al):=E.fst e r u;rw[u]at n;have hm:g≠[]:=λh=>by rw[ae h]at u;cases u
   refine(show QT _ _ _ from Oa (by cases q:g with|nil=>exact(hm q).elim|cons _ _=>rfl) ?_);refine#[Y,O3 ?_];refine#[c,.inr #[_,_,Y,j],.inl Y,?_];rw[AG Y,x0];have ag:a≠b:=λz=>by rw[z,hb]at P;cases P
   have I:NP K b (.own 0,U0 g) a=U (.own 0,.d<|Pp e.2):=(NJ ag).trans P;refine#[_,_,_,.inr #[_,_,Y,j],Y,by rw[ex];exact iA,?_];refine#[_,_,_,Y,Y,Y,?_];refine#[.inr<|.inr #[Y,a,_,_,Y,I,nofun],Y,a,_,_,Y,I,nofun,?_];exact n _ c ((NJ<|Ax al).trans j) (u3.o0 I) (o.o0 I)
abbrev sl(Z:Zs):Sp:=AfI Z.K (tz Z) 63
def Ad1(G:Gd 91 M Z):tL M.P M.w Z.K M.mg M.base 11 "law" ["_law_script"] (sl Z):=by
 refine tL.AmH (sp:=Ail Z) ?_ (λg hl Q kQ=>by first|exact .mk g Y Y kQ|exact .mk g Y Y hl kQ);refine Al4 (N:=["_law_script","_law_names_here","_law_world","_law_askers","_law_first","_law_keys","_law_k","_law_key","_law_copies","_law_model","_law_house"]) 1 11 G.T.d G.T.a_law (λφ H r=>NI (Oh r.2 1<|N7 (G.Vw Y) r.1<|NH (N7 (G.P4 Y) r.1<|NH (ev 0)<|NH (NT) NL) NL) (NI (Oh r.2 2<|AdT (G.Uu Y) G.T.cl_World r.1<|NH (N7 (G.Xa Y) r.1<|NH (ev 1)<|NH (N7 (G.P4 Y) r.1<|NH (ev 0)<|NH (NT) NL) NL) NL) (NI (AcQ (i₀:=3) r.2 Y (BK Y) (Nc:=["_law_k","_law_names_here"]) (src:=[Ah,U 1]) Y M7 G.T.b_range (NH (NT) NL) Y M4 (PD (sc0:=NM pH) Y M4) M4 (OS<|OQ Y (BK Y) Y<|OE) (λ_ _ _=>O2 (i:=0) (show(["_law_k","_law_names_here"]:Lw).Nodup by decide +kernel) Y<|BK Y) (λ_ _ _=>XQ) λ_ _ _=>Pk QE (xB F.plainAttrs_str F.slot_str_split F.type_str_split m_split (Pk QE (ev 1)<|ev 0)<|NH (Oq) NL)<|NT)
   (NI (Oh r.2 4<|OL Qc (N7 (G.P4 Y) r.1<|NH (ev 0)<|NH (NT) NL)<|NT) (NI (Oh r.2 5<|Y4 Abb (U2<|NH (ev 4)<|NH (OL Qc (OL QM (OL QM (ev 4)<|NT)<|OL Qc (N7 (G.P4 Y) r.1<|NH (ev 0)<|NH (NT) NL)<|NT)<|NT) NL) lP<|lQ<|OL QM (NT)<|OL Qc (N7 (G.P4 Y) r.1<|NH (ev 0)<|NH (NT) NL)<|NT) (NI (Aic M7 G.T.b_enumerate (NH (ev 5) NL) (eZ (n:=2) Y<|Pm (OC r.2 6)<|Pm (OC r.2 7)<|Xm) (NI (Oh r.2 8<|OL QM (NT)<|OL Qc (N7 (G.RT Y) r.1<|NH (N7 (G.P4 Y) r.1<|NH (ev 0)<|NH (NT) NL)<|NH (ev 6) NL)<|NT) (NK<|N6<|N2 (G.To Y) r.1 (ev 2)<|NH (ev 7)<|NH (ev 8)<|NH (ev 8)<|NH (ev 8) NL))) (NI (Oh r.2 9<|AgS (Sv (Oq) (U2<|NH (NT) NL)<|Sv (Oq) (NT)<|Sv (Oq) Wc<|Sv (Oq) Wc<|Sv (Oq) Wc<|Sv (Oq) (U2<|NL)<|Ae2) Y Y (List.cons_ne_nil _ _) M5) (NI (Afo M7 G.T.b_range (NH (NT)<|NH (Ox (AgE Y) M7 G.T.b_min Boot.b_min<|NH (Ox Pr M7 G.T.b_len Boot.b_len<|NH (ev 0) NL)<|NH (NT) NL) NL) (OC r.2 6) (NI (O5 (RP<|Qq<|N7 (G.bO Y) r.1<|NH (ev 2)<|NH (ev 9)<|NH (N7 (G.RT Y) r.1<|NH (Pk QE (ev 0)<|ev 6)<|NH (ev 6) NL)<|NH (ev 3)<|NH (ev 5) NL) (NK<|N4<|Yu)<|N9) (NK<|O5 (RP<|Qq<|N7 (G.Ux Y) r.1<|NH (ev 2)<|NH (ev 9) NL) (NK<|N4<|Yu)<|N9))) (NI (SU (ev 5) (OC r.2 7)<|NK<|sN (Pl (G.Qt Y) r.1<|ev 2) (OC r.2 10)<|NK<|O5 (Ot (Akk r.1) (N2 (G.Vt Y) r.1 (ev 2)<|NH (ev 10)<|NH (ev 7) NL)<|QJ r.1 (Oc r.1 (ev 9)<|Oq) (O7<|NH (ev 10)<|NH (ev 7) NL)<|OO) (NK<|N4<|Yu)<|N9) (NK<|N4<|N7 (G.Ux Y) r.1<|NH (ev 2)<|NH (ev 9) NL)))))))))) ?_
 rintro F ds S Q⟨g,rfl,rfl,kQ⟩;symm;refine .mk g 0 Y M5 λc0=>?_
 refine .mk c0 Y λs z9 X nd=>?_
 symm;refine .mk g 1 Y M5 λc1=>?_
 refine .mk c1 s Y Y z9 λW ag U5=>?_
 refine#[.wd 0 .top,λa ha _=>?_];refine .mk a 0 W S Y Y ha λA S1 ea wd f1=>#[Y,Oi ?_]
 subst ea;symm;have N5:PX W:=ag.PJ λe he=>(X e.1<|U5 e he).2.2
 have zi:∀i:Nat,i<2->∃z,s[i]?=U z/\z∈s:=λi hi=>#[s[i]'(M6),Ae M6,Cy _]
 refine#[2,Y,M5,M5,λp hp nF=>?_];refine Adk (Ba 2) (λi=>.f<|.int<|0+(i:Int)) (λi=>.f<|.str<|vU<|s.getD i "") hp (λ_=>Bk) M5 (λi hi ys Q' k=>?_) ?_
 ·let(z,ez,mz):=zi i (B6.mp hi);have gz:s.getD i ""=z:=by rw[Bs,ez];rfl
  rw[gz]at k;let(x,y,es,_):=bF (X z mz).1 (AS (X z mz).2.1 M5);refine#[_,_,.f<|.str z,.inl Y,Y,by rw[F9];exact QI (by rw[Aj,ez];rfl),?_];refine#[.inr<|.inl #[Y,z,Y],?_];refine#[z,_,Y,Y,M4,AS (X z mz).2.1 M5,O3 ?_];rw[es];exact#[_,_,_,.inl Y,Y,Y,k]
 symm;refine .mk g 2 Y M5 λc2=>?_
 refine#[O9 M5,?_];symm;have f0:=BN c2 (show(256:Int)≠0 by decide);have av:=BJ c2 (show(0:Int)<256 by decide);generalize c2%256=E at *;refine .mk g 3 Y M5 λc3=>?_
 refine#[O9 M5,?_];refine#[O9 M5,?_];refine#[Y,O3 ?_];refine .mk g 3 Y M5 λc4=>?_
 refine#[O9 M5,?_];refine#[_,.inl Y,O3 ?_];have g0:=BN (E+1+c3%255) (show(256:Int)≠0 by decide);have g1:=BJ (E+1+c3%255) (show(0:Int)<256 by decide);have ne:E≠(E+1+c3%255)%256:=M6;let(ks,ek,kn,ad,kl,kb):=AdL E ((E+1+c3%255)%256) c4 ne (λk=>0<=k/\k<256) #[f0,av] #[g0,g1];symm;rw[show cA [D.f<|V.int E,D.f<|V.int<|(E+1+c3%255)%256] Ah (U<|1+c4%2)=ks.map λk=>.f (.int k)from ek];have ai:((Ba 2).map λi=>D.f<|.str<|vU<|s.getD i "")=[.f<|.str<|vU<|s.getD 0 "",.f<|.str<|vU<|s.getD 1 ""]:=rfl;rw[ai];have aq:∀z∈[vU<|s.getD 0 "",vU<|s.getD 1 ""],bT z=Af/\z.length<=1000:=λz hm=>by
  have:∀i,i<2->bT (vU<|s.getD i "")=Af/\(vU<|s.getD i "").length<=1000:=λi hi=>by
   let(y,ey,my):=zi i hi;rw[Bs,ey];let(_,_,_,h1,h2):=bF (X y my).1 (AS (X y my).2.1 M5);exact#[h1,h2]
  rcases AB.mp hm with rfl|hm
  ·exact this 0 M5
  ·rw[As.mp hm];exact this 1 M5
 generalize vU (s.getD 0 "")=j0 at *;generalize vU (s.getD 1 "")=L at *;refine#[_,Y,Ak9.mk (λj c S'=>∃u v x A' Ts,c=[U<|.l<|g.map λz=>.f<|.int z,U<|.l<|s.map λz=>.f<|.str z,U<|.f<|.ref<|A .top,U<|.l [.f<|.str j0,.f<|.str L],U<|.f<|.int E,U<|.l<|ks.map λk=>.f<|.int k,u,v,x,Ah,Ah]/\A' .top=A .top/\Ob Z.w 0 A' #[W,Ts,[],[],0,[],[],[]] S'/\AiO Ts (ks.take j)) #[Ah,Ah,Ah,A,[],Y,Y,wd,#[Y,nofun,nofun,nofun]] ?_ ?_]
 ·rintro j x c S' y0⟨u,v,y,A',Ts,rfl,ea,u3,tn⟩;rw[Aj]at y0;let(k,hk,rfl):=AF.mp y0;refine#[_,Y,Y,?_];symm;refine .mk g 3 Y M5 λc5=>?_
  refine .mk c5 _ Y λm=>?_
  refine#[O9 M5,?_];symm;obtain⟨m',em⟩:∃m':Nat,(1+(m:Int)%3)=(m':Int):=#[1+m%3,M6];have gc:GoodC (1+(m:Int)%3) (1+(m:Int)%3) (1+(m:Int)%3):=by unfold GoodC;omega
  have mk:=AH hk;have dl:=mK W (k%110) m';refine#[by rw[<-ea];exact Sd u3 .top,?_];refine .mk 0 A' _ k _ _ _ m' (by rw[ea]) Y u3 N5 (kb k mk).1 (kb k mk).2 ?_ gc em ?_ λO S2 e2 t f2=>#[_,_,_,O,_,Y,e2.trans ea,t,?_]
  ·show k∉Ts.map (·.key);rw[tn.key];exact Wu ad hk
  ·show Ts.length<_;rw[<-Ac (f:=(·.key)),tn.key,Bt];omega
  ·rw[take_snoc hk];exact tn.snoc #[k,_,_,_,Qh []<|Qa W (k%110) m'] (by show(Qh _ _).length<=5;rw[aO];omega) (by rw[gK];exact tX N5 _ _) AcU
 rintro c S'⟨u,v,y,A',Ts,rfl,ea,u3,tn⟩;rw[Ac,BA]at tn;have w0:=tn.AoC (qs:=[j0,L]) ad kb N5 (by show 2<=900;decide);symm
 refineλm hm _=>?_
 dsimp only[iL];refine#[Y,Sl (.own 2) λr hr _=>?_];let(h1,hr):=Ov hr;refine Sl (.own 3) λmi I _=>?_
 let(h2,I):=Ov I;let(h3,I):=Ov I;refine Sl (.own 4) λsh B _=>?_
 let(h4,B):=Ov B;let(h5,B):=Ov B;let(h6,B):=Ov B;refine Sl (.own 5) λno o _=>?_
 let(h7,o):=Ov o;let(h8,o):=Ov o;let(h9,o):=Ov o;let(R,o):=Ov o;refine#[Y,O3 ?_];refine#[(NJ<|Ax R).trans ((NJ<|Ax h6).trans ((NJ<|Ax h3).trans ((NJ<|Ax h1).trans NO))),[(.inr "rows",.f<|.ref r),(.inr "asks",.f<|.int 0),(.inr "minds",.f<|.ref mi),(.inr "shelves",.f<|.ref sh),(.inr "notes",.f<|.ref no),(.inr "away",.l [])],.own 1,Y,by show 6<=15;decide,?_];symm;have wm:=u3.lE (x:=(.own 0,.d [])) hm;have wr:=wm.lE (a:=r) (x:=(.own 2,.l [.f<|.int 0]))<|(NJ h1).trans hr;have wi:=wr.lE (a:=mi) (x:=(.own 3,.m []))<|(NJ h2).trans ((NJ h3).trans I);have ws:=wi.lE (a:=sh) (x:=(.own 4,.m []))<|(NJ h4).trans ((NJ h5).trans ((NJ h6).trans B));have wn:=ws.lE (a:=no) (x:=(.own 5,.m []))<|(NJ h7).trans ((NJ h8).trans ((NJ h9).trans ((NJ R).trans o)));have ac:=BV.mpr kn;have hh:∀z∈W.map (·.1),lU z=Af/\z.length<=1000:=λz am=>by
  let(e,he,rfl):=AR.mp am;exact#[(X e.1<|U5 e he).1,AS (X e.1<|U5 e he).2.1 M5]
 have ax:W.length<64:=by have:=ag.bS;omega
 refine#[_,.inl<|.inl Y,?_];refine#[_,_,Y,?_];rw[Ac];refine#[4,_,Y,#[M5,M5,by split<;>omega,by split<;>omega],?_];have ay:((if(64:Int)<(g.length:Nat)then 64 else((g.length:Nat):Int))-4).toNat<=60:=by split<;>omega
 have ae:∀i,i<((if(64:Int)<(g.length:Nat)then 64 else((g.length:Nat):Int))-4).toNat->4+i<g.length:=λi hi=>by split at hi<;>omega
 generalize((if(64:Int)<(g.length:Nat)then 64 else((g.length:Nat):Int))-4).toNat=N at *;refine Agx.mk (λj c S2=>∃u v y O w ON aw,c=[U<|.l<|g.map λz=>.f<|.int z,U<|.l<|s.map λz=>.f<|.str z,U<|.f<|.ref<|A .top,U<|.l [.f<|.str j0,.f<|.str L],U<|.f<|.int E,U<|.l<|ks.map λk=>.f<|.int k,u,v,y,U<|.f<|.ref m,Ah]/\O .top=A .top/\Ob Z.w 0 O w S2/\P6 (AiT m r mi sh no) (PN w ON aw) S2/\UA [j0,L] j w ON aw/\w.Hs=W/\(w.Ts.map λT=>D.f<|.int T.key)=ks.map λk=>.f<|.int k) #[_,_,_,A',_,[],[],Y,ea,wn.o0<|(NJ<|Ax R).trans ((NJ<|Ax h6).trans ((NJ<|Ax h3).trans ((NJ<|Ax h1).trans NO))),Aep h1 h2 h3 h4 h5 h6 h7 h8 h9 R,w0,Y,?_] ?_ ?_
 ·rw[<-tn.key,AO];rfl
 ·rintro j c S2 hj⟨u,v,y,O,w,ON,aw,rfl,q,t,C,ok,eH,eT⟩;symm;have lt:=ae j hj;refine#[_,_,.f<|.int g[4+j],.inl Y,Y,?_,?_]
  ·rw[show(4:Int)+(j:Int)=((4+j:Nat):Int) by omega];exact QI (by rw[Aj,Ae lt];rfl)
  refine .mk _ _ Y λc6=>?_
  refine .mk 0 O w _ [j0,L] j (AiT m r mi sh no) ON aw j0 L (by rw[q,eT];rfl) Y Y t C ok M6 ?_ aq (by rw[eH];exact hh) (by rw[eH];exact ax) λA3 w3 aa af S3 e3 ak au ab al ao=>?_
  ·intro z;rw[z]at eT;have:=congrArg Ez eT;rw[Ac,Ac]at this;rw[<-this]at ac;exact CS _ ac
  refine .mk 0 A3 w3 [j0,L] (j+1) (AiT m r mi sh no) aa af (by rw[e3,q];rfl) Y ak au ab λS4 ap ar=>?_
  exact#[_,_,_,A3,w3,aa,af,Y,e3.trans q,ap,ar,ab,al.trans eH,ao.trans eT]
 rintro c S2⟨u,v,y,O,w,ON,aw,rfl,q,t,C,ok,eH,eT⟩;symm;refine#[_,.inl Y,.inl Y,Lp.mk (λj c S3=>∃v h,c=[U<|.l<|g.map λz=>.f<|.int z,U<|.l<|s.map λz=>.f<|.str z,U<|.f<|.ref<|A .top,U<|.l [.f<|.str j0,.f<|.str L],U<|.f<|.int E,U<|.l<|ks.map λk=>.f<|.int k,u,v,y,U<|.f<|.ref m,h]/\S3=S2) #[_,_,Y,Y] (λ_ _ _ _=>.inl Y) ?_ ?_]
 ·rintro j x c S3 y0⟨v,h,rfl,rfl⟩;rw[<-eT,Aj]at y0;let(T,hT,rfl):=AF.mp y0;have mT:=AH hT;symm;refine#[by rw[<-q];exact Sd t .top,.mk 0 O w (by rw[q]) t ?_];refine#[xI w.Hs,Y,.inl #[Y,λb hb=>#[λi c S4=>∃h,c=[U<|.l<|g.map λz=>.f<|.int z,U<|.l<|s.map λz=>.f<|.str z,U<|.f<|.ref<|A .top,U<|.l [.f<|.str j0,.f<|.str L],U<|.f<|.int E,U<|.l<|ks.map λk=>.f<|.int k,u,U<|.f<|.int T.key,y,U<|.f<|.ref m,h]/\S4=S3,#[_,Y,Y],?_,?_]]]
  ·rintro i x c S4 y0⟨h,rfl,rfl⟩az;rw[Aj,Aj]at y0;let(e1,aj,rfl):=AF.mp y0;let(e,he,rfl):=AF.mp aj;have me:=AH he;have mh:e.1∈w.Hs.map (·.1):=A8 me;have ah:=hh e.1 (by rw[<-eH];exact mh);have an:=ok.toYs.Afy mT e.1;refine#[by rw[<-q];exact Sd t .top,?_];refine .mk 0 O w T e.1 (by rw[q];rfl) t ok.N5 ah.1 ah.2 mh ok.tok mT ?_;refine zG (F:=[b]) (C.io .top)<|Se #[_,Y,?_];refine#[.inr #[_,C.io .Rb],Y,O3 ?_];refine Ak6 (z:=e.1) (n:=T.key) C ?_;refine#[Ru T.sh e.1,Y,by rw[ok.ss T mT];rfl,an.1,?_];refine nJ ?_;refine Aau ?_;exact#[_,Y,Y]
  ·rintro c S4⟨h,rfl,rfl⟩;exact#[_,_,Y,Y]
 ·rintro c S3⟨v,h,rfl,rfl⟩;symm;exact .mk 0 O w [j0,L] N (AiT m r mi sh no) ON aw (by rw[q];rfl) Y t C ok λS4 _ _=>Oi (kQ S4)
end
def st{M:Md}{Z:Zs}{n j:Nat}{P:Prop}(G:Gd n M Z)(o:AV j n=Af->P)(h:Gd j M Z->P)(e:AV j (n+1)=Af):P:=by
 by_cases q:AV j n=Af
 ·exact o q
 ·rw[Nat.blt_eq]at e q;obtain rfl:n=j:=M6;exact h G
def good{M:Md}{Z:Zs}(T:Tx M Z)(n:Nat):Gd n M Z:=by
 induction n with
 |zero=>
   constructor
   ·exact T
   all_goals nofun
 |succ n G=>exact#[T,st G G.VX jE,st G G.QY Wl,st G G.XR mY,st G G.bL jB,st G G.pW qY,st G G.bM jD,st G G.wC xF,st G G.bK jA,st G G.Uw qZ,st G G.gW nD,st G G.Tn Wf,st G G.Uo Xo,st G G.RR cF,st G G.Uq Xp,st G G.PQ ZJ,st G G.VW jC,st G G.Yp cK,st G G.W8 ZH,st G G.W9 ZI,st G G.SH VG,st G G.Ur cG,st G G.S7 ZM,st G G.Pa VH,st G G.Po TK,st G G.R9 YB,st G G.PZ Wg,st G G.Vr YC,st G G.Yo cH,st G G.Sa YF,st G G.Qt Xv,st G G.Tq Wj,st G G.WZ ZE,st G G.Vt YH,st G G.WW Zz,st G G.WX ZA,st G G.Rx TJ,st G G.Vo Yx,st G G.bJ iZ,st G G.Vp Yy,st G G.R8 Yz,st G G.SG VF,st G G.XT nB,st G G.XU nC,st G G.Uv cJ,st G G.bP jK,st G G.gU mW,st G G.lH xG,st G G.pV qX,st G G.wB xE,st G G.XS mZ,st G G.gV mX,st G G.RS UU,st G G.Pq QC,st G G.Q4 Tu,st G G.Sb YG,st G G.QB So,st G G.Vu YI,st G G.Yn cE,st G G.QR SN,st G G.Q3 Tt,st G G.Vs YD,st G G.WY ZD,st G G.W4 ZF,st G G.lG ZC,st G G.eE YE,st G G.W7 ZG,st G G.Vy YM,st G G.Us Xq,st G G.Ut Xr,st G G.To Wh,st G G.Vq YA,st G G.Um Xn,st G G.Vn Yw,st G G.Uu Xs,st G G.P4 jF,st G G.RT cM,st G G.Yq cO,st G G.Vw YK,st G G.Xa ZK,st G G.Vx YL,st G G.VY jG,st G G.SY jI,st G G.Yr cQ,st G G.bN jH,st G G.Vv YJ,st G G.Xb ZL,st G G.bO jJ,st G G.Tj We,st G G.Tp Wi,st G G.Ry Xu,st G G.Ux cP]
structure Fx(Z:Zs):Prop extends Fz Z where
 b_all:A4 Z.K AJ "all"=U Ah
 b_bool:A4 Z.K AJ "bool"=U Ah
 b_dict:A4 Z.K AJ "dict"=U Ah
 b_enumerate:A4 Z.K AJ "enumerate"=U Ah
 b_int:A4 Z.K AJ "int"=U Ah
 b_isinstance:A4 Z.K AJ "isinstance"=U Ah
 b_len:A4 Z.K AJ "len"=U Ah
 b_list:A4 Z.K AJ "list"=U Ah
 b_min:A4 Z.K AJ "min"=U Ah
 b_range:A4 Z.K AJ "range"=U Ah
 b_set:A4 Z.K AJ "set"=U Ah
 b_sorted:A4 Z.K AJ "sorted"=U Ah
 b_str:A4 Z.K AJ "str"=U Ah
 c_ACK:∃t,A4 Z.K AJ "ACK"=U (U<|.str "ack" t)
 c_DONE:∃t,A4 Z.K AJ "DONE"=U (U<|.str "done" t)
 c_DRAWERS:∃t,A4 Z.K AJ "DRAWERS"=U (U<|.int 110 t)
 c_HINT:∃t,A4 Z.K AJ "HINT"=U (U<|.str "hint" t)
 c_KEYS:∃t,A4 Z.K AJ "KEYS"=U (U<|.int 256 t)
 c_MOST_COPIES:∃t,A4 Z.K AJ "MOST_COPIES"=U (U<|.int 5 t)
 c_OPEN:∃t,A4 Z.K AJ "OPEN"=U (U<|.str "open" t)
 c_PLOTS:∃t,A4 Z.K AJ "PLOTS"=U (U<|.int 11 t)
 c_PUT:∃t,A4 Z.K AJ "PUT"=U (U<|.str "put" t)
 c_QUERY:∃t,A4 Z.K AJ "QUERY"=U (U<|.str "query" t)
 c_READ:∃t,A4 Z.K AJ "READ"=U (U<|.str "read" t)
 c_VALUE_LENGTH:∃t,A4 Z.K AJ "VALUE_LENGTH"=U (U<|.int 40 t)
 c_WORD_LENGTH:∃t,A4 Z.K AJ "WORD_LENGTH"=U (U<|.int 8 t)
 c_WORD_SIGNS:∃t,A4 Z.K AJ "WORD_SIGNS"=U (U<|.str "abcdefghijklmnopqrstuvwxyz0123456789" t)
 c_WRITE:∃t,A4 Z.K AJ "WRITE"=U (U<|.str "write" t)
 g_Ask:A4 Z.K AJ "Ask"=U (U<|.ref Z.w.A)
 g_Asks:A4 Z.K AJ "Asks"=U (U<|.ref Z.w.S)
 g_Hints:A4 Z.K AJ "Hints"=U (U<|.ref Z.w.H)
 g_Letter:A4 Z.K AJ "Letter"=U (U<|.ref Z.w.L)
 g_Post:A4 Z.K AJ "Post"=U (U<|.ref Z.w.P)
 g_Thing:A4 Z.K AJ "Thing"=U (U<|.ref Z.w.T)
 g_World:A4 Z.K AJ "World"=U (U<|.ref Z.w.W)
def all{l:EC}{w:Bw}{K:Ab}{h:BO}{mg:AA->LH}{fa:Ag}{c_World c_Thing c_Post c_Letter c_Asks c_Ask c_Hints t_order t_dealt:Ag}(X:K.In h)(G:h.Ns AJ mg)(hfa:mg "law"=U (.ref fa))(F:Fx (#[K,#[c_World,c_Thing,c_Post,c_Letter,c_Asks,c_Ask,c_Hints],t_order,t_dealt]:Zs)):∃fd:CA,(∀(s:Au)(v:Ai),HB s fd #[[v],[]] [("_law_script",v)])/\∀base:BO,K.In base->base.Ns AJ mg->(∀P∈([t_order,t_dealt]:Lv),base.BuiltinsAt mg P)->Si l.prog w K mg base qB 11 fa fd ["_law_script"] (sl (#[K,#[c_World,c_Thing,c_Post,c_Letter,c_Asks,c_Ask,c_Hints],t_order,t_dealt]:Zs)):=by
 let(f,j,c,r,q,k,b,i,d,n,o,g,p,t):=F.a_law;have e:=hfa.symm.trans<|Bj X G c;cases e;refine#[Bu "law" "law" (Om pH) (NY pH) (NM pH) .none k b i d j n,λs v=>.of_eq Y,λbase m _ a=>?_];have T:Tx #[l.prog,w,mg,base] (#[K,#[c_World,c_Thing,c_Post,c_Letter,c_Asks,c_Ask,c_Hints],t_order,t_dealt]:Zs):=#[F.toFz,#[h,X,G],BE X G F.b_all,BE X G F.b_bool,BE X G F.b_dict,BE X G F.b_enumerate,BE X G F.b_int,BE X G F.b_isinstance,BE X G F.b_len,BE X G F.b_list,BE X G F.b_min,BE X G F.b_range,BE X G F.b_set,BE X G F.b_sorted,BE X G F.b_str,(F.c_ACK).elim λ_ z=>#[_,Bj X G z,#[_,Y]],(F.c_DONE).elim λ_ z=>#[_,Bj X G z,#[_,Y]],(F.c_DRAWERS).elim λ_ z=>#[_,Bj X G z,#[_,Y]],(F.c_HINT).elim λ_ z=>#[_,Bj X G z,#[_,Y]],(F.c_KEYS).elim λ_ z=>#[_,Bj X G z,#[_,Y]],(F.c_MOST_COPIES).elim λ_ z=>#[_,Bj X G z,#[_,Y]],(F.c_OPEN).elim λ_ z=>#[_,Bj X G z,#[_,Y]],(F.c_PLOTS).elim λ_ z=>#[_,Bj X G z,#[_,Y]],(F.c_PUT).elim λ_ z=>#[_,Bj X G z,#[_,Y]],(F.c_QUERY).elim λ_ z=>#[_,Bj X G z,#[_,Y]],(F.c_READ).elim λ_ z=>#[_,Bj X G z,#[_,Y]],(F.c_VALUE_LENGTH).elim λ_ z=>#[_,Bj X G z,#[_,Y]],(F.c_WORD_LENGTH).elim λ_ z=>#[_,Bj X G z,#[_,Y]],(F.c_WORD_SIGNS).elim λ_ z=>#[_,Bj X G z,#[_,Y]],(F.c_WRITE).elim λ_ z=>#[_,Bj X G z,#[_,Y]],Bj X G F.g_Ask,Bj X G F.g_Asks,Bj X G F.g_Hints,Bj X G F.g_Letter,Bj X G F.g_Post,Bj X G F.g_Thing,Bj X G F.g_World,m,a];exact(Ad1<|good T 91).fn (Bj X G c) g
def walk{c_World c_Thing c_Post c_Letter c_Asks c_Ask c_Hints t_order t_dealt:Ag}{l:EC}{q:Bn}{loose:Lw}{XP:(AA->LH)->BO->Prop}{YP:Bw->BO->Prop}{d:DefRec}{K:Gi->Ab}(hn:l.most=U 63)(hdf:d.params.defaults=[])(hY:∀(w:Bw)(h:BO),YP w h->(K w.params).In h)(hT:∀(w:Bw)(h:BO),YP w h->gY [t_order,t_dealt] h)(hKt:∀(w:Bw),∀P∈([t_order,t_dealt]:Lv),(K w.params).lookup P=Ah)(F:∀(w:Bw)(mg:AA->LH)(fa:Ag)(h:BO),(K w.params).In h->h.Ns AJ mg->mg d.name=U (.ref fa) ->
   ∃fd:CA,(∀(s:Au)(u:Ai),HB s fd #[[u],[]] [("_law_script",u)])/\∀base:BO,(K w.params).In base->base.Ns AJ mg->(∀P∈([t_order,t_dealt]:Lv),base.BuiltinsAt mg P)->Si l.prog w (K w.params) mg base qB 11 fa fd ["_law_script"] (sl (#[K w.params,#[c_World,c_Thing,c_Post,c_Letter,c_Asks,c_Ask,c_Hints],t_order,t_dealt]:Zs))):
  Jf q loose XP YP l.row.toRowW d [] (λf vs=>Iz f vs):=
 L2.Adh (n:=63) (k:=11) (x:="_law_script") (ts:=[t_order,t_dealt]) (CX:=λ_=>qB) (sp:=λw=>sl (#[K w.params,#[c_World,c_Thing,c_Post,c_Letter,c_Asks,c_Ask,c_Hints],t_order,t_dealt]:Zs)) hn M5 hdf #[Y,M5,M5] hY hT hKt F (λ_ _ a c b hT e=>#[a,c,Y,e,b,Eg.mpr #[Tab.one<|hT t_order M8,Eg.mpr #[Tab.one<|hT t_dealt M8,λ_ h=>nomatch h]],λ_=>rfl]) λ_ _ _ _ _ z=>z
end K46
end
open PySem PySem.W PyProof.Rows
local macro_rules | `(tactic| o_head $H) => `(tactic| refine holds_open (q := K46.q0) (loose := []) (Xt := K46.x0) (XP := XL K46.q0 []) (Yf := Hook.obs $H) (Ya := Hook.val $H) (YP := Hook.says $H) (N := 13778) ?hl (Hook.of $H) (Hook.keeps $H) (fun s e => xl_of s (Bool.and_eq_true_iff.mp e).1) XL.keeps (by rfl) (by rfl) (by rfl) (fun s e => recFacts_of (Bool.and_eq_true_iff.mp e).2) (by rfl) (by first | assumption | decide +kernel) (by decide +kernel) ⟨rfl, rfl, rfl, rfl, rfl, by decide +kernel⟩ ?hw ?hc)
set_option maxRecDepth 100000 in
theorem PySem.Challenge.cw_threeroofs_k46_hints_holds : PySem.Challenge.rw_threeroofs_k46_hints.Holds := by
 w_on;refine holds_law K46.wl fun said=>?_
 o_head (kmHook K46.m0.heap_1 K46.Ale (fun P=>by kernel_rfl) [529,541])
 case hw=>w_witness2
 case hl=>exact L2.Top.Abk 191 6939 (by kernel_rfl) (by kernel_rfl) (fun _=>by kernel_rfl) (by kernel_rfl) K46.g1 K46.g2 K46.g3 K46.g4 K46.h1 K46.h2 K46.h3 K46.h4
 k_fill
 refine' K46.walk (t_order:=529) (t_dealt:=541) (l:=PySem.Challenge.rw_threeroofs_k46_hints) rfl rfl (fun w h Y=>PySem.W.km_in_of Y) (fun w h Y=>L2.zW Y [(533,529),(545,541)] (List.forall_mem_cons.mpr ⟨by kernel_rfl,List.forall_mem_cons.mpr ⟨by kernel_rfl,fun _ h=>nomatch h⟩⟩) (by decide)) (fun w=>List.forall_mem_cons.mpr ⟨by kernel_rfl,List.forall_mem_cons.mpr ⟨by kernel_rfl,fun _ h=>nomatch h⟩⟩) ?F
 case F =>
  intro w mg fa h KX G hmg
  refine' K46.all (t_order:=529) (t_dealt:=541) KX G hmg ⟨⟨?cl_Ask,?cl_Asks,?cl_Hints,?cl_Letter,?cl_Post,?cl_Thing,?cl_World,?fT,?fL,?fP,?fA,?fS,?fH,?fW,?ne_t,?a_is_whole,?a_is_text_up_to,?a_is_word,?a_is_house,?a_is_key,?a_is_value,?a_later,?a_count_of,?a_joined,?a_written,?a_Letter___init,?m_Letter,?a_Letter_shown,?a_Post_send,?a_Post_letters,?a_Post_letter_of,?a_Post_take,?a_need_asker,?a_World_thing_of,?a_World_need_house,?a_Thing_homes,?a_Thing_is_home,?a_Thing_shelf,?a_Thing_lay,?a_World_homes,?a_World_houses,?a_World_letters,?a_World_lose,?a_World_shelf,?a_Ask___init,?m_Ask,?a_Asks_begin,?a_Asks_begin_write,?a_Asks_ask_of,?a_Ask_hear,?a_Hints_leave,?a_Hints_shown,?a_Hints_take_due,?a_roof_of,?a_room_of,?a_drawer_of,?a_place_of,?a_best_of,?a_order,?a_beside,?a_dealt,?a_Thing_neighbour,?a_World_leave_with_neighbour,?a_World_bring_state,?a_World_known,?a_World_send_to_homes,?a_World_write,?a_Ask_found,?a_World_bring_answer,?a_World_bring_query,?a_World_bring,?a_World_fall,?a_World_rise,?a_World_away,?a_World_hints,?a_are_counts,?a_need_counts,?a_Thing___init,?m_Thing,?a_Thing_settle,?a_World_declare,?a_Post___init,?m_Post,?a_Hints___init,?m_Hints,?a_Asks___init,?m_Asks,?a_World___init,?m_World,?a_law_cell,?a_law_mixed,?a_law_names,?a_law_houses,?a_law_written,?a_law_join,?a_law_send,?a_law_write,?a_law_left,?a_law_brought,?a_law_turned,?a_law_step,?a_law_right,?a_law⟩,?b_all,?b_bool,?b_dict,?b_enumerate,?b_int,?b_isinstance,?b_len,?b_list,?b_min,?b_range,?b_set,?b_sorted,?b_str,?c_ACK,?c_DONE,?c_DRAWERS,?c_HINT,?c_KEYS,?c_MOST_COPIES,?c_OPEN,?c_PLOTS,?c_PUT,?c_QUERY,?c_READ,?c_VALUE_LENGTH,?c_WORD_LENGTH,?c_WORD_SIGNS,?c_WRITE,?g_Ask,?g_Asks,?g_Hints,?g_Letter,?g_Post,?g_Thing,?g_World⟩
  case b_all | b_bool | b_dict | b_enumerate | b_int | b_isinstance | b_len | b_list | b_min | b_range | b_set | b_sorted | b_str | g_Ask | g_Asks | g_Hints | g_Letter | g_Post | g_Thing | g_World=>dsimp only;k_is
  case c_ACK | c_DONE | c_DRAWERS | c_HINT | c_KEYS | c_MOST_COPIES | c_OPEN | c_PLOTS | c_PUT | c_QUERY | c_READ | c_VALUE_LENGTH | c_WORD_LENGTH | c_WORD_SIGNS | c_WRITE=>dsimp only;exact ⟨_,by k_is⟩
  case cl_Ask | cl_Asks | cl_Hints | cl_Letter | cl_Post | cl_Thing | cl_World=>dsimp only;exact ⟨by k_is,by k_is,by k_is,by k_is⟩
  case fT=>dsimp only;(refine ⟨⟨by k_is,by k_is,by k_is,by k_is⟩,?_⟩;simp only [List.forall_mem_cons];refine ⟨?_,?_,?_,?_,?_,fun _ h=>nomatch h⟩<;>(unfold L2.Pz;k_is))
  case fL=>dsimp only;(refine ⟨⟨by k_is,by k_is,by k_is,by k_is⟩,?_⟩;simp only [List.forall_mem_cons];refine ⟨?_,?_,?_,?_,?_,?_,fun _ h=>nomatch h⟩<;>(unfold L2.Pz;k_is))
  case fP=>dsimp only;(refine ⟨⟨by k_is,by k_is,by k_is,by k_is⟩,?_⟩;simp only [List.forall_mem_cons];refine ⟨?_,?_,fun _ h=>nomatch h⟩<;>(unfold L2.Pz;k_is))
  case fA=>dsimp only;(refine ⟨⟨by k_is,by k_is,by k_is,by k_is⟩,?_⟩;simp only [List.forall_mem_cons];refine ⟨?_,?_,?_,?_,?_,?_,?_,?_,fun _ h=>nomatch h⟩<;>(unfold L2.Pz;k_is))
  case fS | fH=>dsimp only;(refine ⟨⟨by k_is,by k_is,by k_is,by k_is⟩,?_⟩;simp only [List.forall_mem_cons];refine ⟨?_,fun _ h=>nomatch h⟩<;>(unfold L2.Pz;k_is))
  case fW=>dsimp only;(refine ⟨⟨by k_is,by k_is,by k_is,by k_is⟩,?_⟩;simp only [List.forall_mem_cons];refine ⟨?_,?_,?_,?_,?_,?_,?_,fun _ h=>nomatch h⟩<;>(unfold L2.Pz;k_is))
  case ne_t=>dsimp only;decide
  case a_is_whole | a_is_text_up_to | a_is_word | a_is_house | a_is_key | a_is_value | a_later | a_count_of | a_joined | a_written | a_need_asker | a_roof_of | a_room_of | a_drawer_of | a_place_of | a_best_of | a_beside | a_are_counts | a_need_counts | a_law_cell | a_law_mixed | a_law_names | a_law_houses | a_law_written | a_law_join | a_law_send | a_law_write | a_law_left | a_law_brought | a_law_turned | a_law_step | a_law_right=>dsimp only;exact ⟨_,_,by k_is,_,_,_,_,_,_,_,_,by k_is,by k_is,by k_is⟩
  case a_Letter___init | a_Letter_shown | a_Post_send | a_Post_letters | a_Post_letter_of | a_Post_take | a_World_thing_of | a_World_need_house | a_Thing_homes | a_Thing_is_home | a_Thing_shelf | a_Thing_lay | a_World_homes | a_World_houses | a_World_letters | a_World_lose | a_World_shelf | a_Ask___init | a_Asks_begin | a_Asks_begin_write | a_Asks_ask_of | a_Ask_hear | a_Hints_leave | a_Hints_shown | a_Hints_take_due | a_Thing_neighbour | a_World_leave_with_neighbour | a_World_bring_state | a_World_known | a_World_send_to_homes | a_World_write | a_Ask_found | a_World_bring_answer | a_World_bring_query | a_World_bring | a_World_fall | a_World_rise | a_World_away | a_World_hints | a_Thing___init | a_Thing_settle | a_World_declare | a_Post___init | a_Hints___init | a_Asks___init | a_World___init=>dsimp only;exact ⟨_,_,by k_is,by k_is,_,_,_,_,_,_,_,_,by k_is,by k_is,by k_is⟩
  case m_Letter | m_Ask | m_Thing | m_Post | m_Hints | m_Asks | m_World=>dsimp only;exact ⟨by k_is,by k_is⟩
  case a_order | a_dealt=>dsimp only;exact ⟨_,⟨_,by k_is,_,_,_,_,_,_,_,_,by k_is,by k_is,by k_is⟩,by kernel_rfl⟩
  case a_law=>dsimp only;exact ⟨_,_,by k_is,_,_,_,_,_,_,_,_,by k_is,by k_is,by k_is⟩
